import PyProof.Rows.All
import Wide.All
import OpenK.AllK
import Wide.FinOn
import Lean
import PyProof.EqAt
import PyProof.EqKinds
import PyProof.TupleCall
import PySem.Challenge.RW_duehall_k15_whole_caught_up
set_option Elab.async false
set_option linter.all false
set_option maxRecDepth 100000
open PySem.W (instObj plainGet findIn isFn emptyDict keepIn mroIn kitOne kia_one fnOf codeIn nsIn excIn clsIn mg_of mg_none_of)
namespace L2
open PySem PySem.Spec PyProof.Rows
abbrev Key:=Sum Int Str
def m_R:Key->Value->Bool
 | .inl k,v=>Value.isInt k v
 | .inr x,v=>Value.isStrOf x v
def y_C (w:World):Key->Int
 | .inl k=>hashInt k
 | .inr x=>hashStr w x
theorem b_k:∀ {k:Key} {v:Value},m_R k v=true->(∃ i t,k=Sum.inl i/\v=Value.int i t)\/(∃ x t,k=Sum.inr x/\v=Value.str x t)
 | .inl i,v,h=>by
  obtain ⟨t,e⟩:=Value.isInt_shape (k:=i) (v:=v) h
  exact .inl ⟨i,t,rfl,e⟩
 | .inr x,v,h=>by
  obtain ⟨t,e⟩:=Value.isStrOf_shape (x:=x) (v:=v) h
  exact .inr ⟨x,t,rfl,e⟩
theorem o_8 (i:Int) (t:Tok):m_R (.inl i) (.int i t)=true:=by simp [m_R,Value.isInt]
theorem n_O (x:Str) (t:Tok):m_R (.inr x) (.str x t)=true:=by simp [m_R,Value.isStrOf]
theorem t_A (a b:Int):decide ((Sum.inl a:Key)=Sum.inl b)=(a == b):=by
 by_cases e:a=b
 ·subst e; simp
 ·have h:¬ (Sum.inl a:Key)=Sum.inl b:=fun q=>e (Sum.inl.inj q)
  rw [decide_eq_false h]
  exact (beq_eq_false_iff_ne.mpr e).symm
theorem u_v (a b:Str):decide ((Sum.inr a:Key)=Sum.inr b)=decide (a=b):=by
 by_cases e:a=b
 ·subst e; simp
 ·have h:¬ (Sum.inr a:Key)=Sum.inr b:=fun q=>e (Sum.inr.inj q)
  rw [decide_eq_false h,decide_eq_false e]
theorem t_T (a:Int) (b:Str):decide ((Sum.inl a:Key)=Sum.inr b)=false:=decide_eq_false (fun q=>nomatch q)
theorem u_l (a:Str) (b:Int):decide ((Sum.inr a:Key)=Sum.inl b)=false:=decide_eq_false (fun q=>nomatch q)
def c_R (prog:Program) (w:World):PySem.KeyKind prog w Key where
 is:=m_R
 hash:=y_C w
 inj:=fun v a b ha hb=>by
  rcases b_k ha with ⟨i,t,rfl,rfl⟩ | ⟨x,t,rfl,rfl⟩
  ·rcases b_k hb with ⟨j,u,rfl,e⟩ | ⟨y,u,rfl,e⟩
   ·injection e with e1 _; rw [e1]
   ·exact nomatch e
  ·rcases b_k hb with ⟨j,u,rfl,e⟩ | ⟨y,u,rfl,e⟩
   ·exact nomatch e
   ·injection e with e1 _; rw [e1]
 byValue:=fun k v h=>by
  rcases b_k h with ⟨i,t,rfl,rfl⟩ | ⟨x,t,rfl,rfl⟩ <;> rfl
 pyHash:=fun hv h=>by
  rcases b_k hv with ⟨i,t,rfl,rfl⟩ | ⟨x,t,rfl,rfl⟩
  ·exact wpAny_pyHash_int h
  ·exact wpAny_pyHash_str h
 eqBool:=fun hu hv h=>by
  rcases b_k hu with ⟨i,t,rfl,rfl⟩ | ⟨x,t,rfl,rfl⟩
  ·rcases b_k hv with ⟨j,u,rfl,rfl⟩ | ⟨y,u,rfl,rfl⟩
   ·rw [t_A] at h; exact wpAny_eqBool_int h
   ·rw [t_T] at h; exact SeqAt.EqAt.int_str i t y u _ _ _ _ h
  ·rcases b_k hv with ⟨j,u,rfl,rfl⟩ | ⟨y,u,rfl,rfl⟩
   ·rw [u_l] at h; exact SeqAt.EqAt.str_int x t j u _ _ _ _ h
   ·rw [u_v] at h; exact wpAny_eqBool_str h
 «strs»:=fun k x t v h=>by
  rcases b_k h with ⟨i,u,rfl,e⟩ | ⟨y,u,rfl,e⟩
  ·exact nomatch e
  ·injection e with e1 _
   subst e1
   cases v <;> rfl
theorem l_1 (prog:Program) (w:World) (i:Int) (t:Tok):(c_R prog w).is (.inl i) (.int i t)=true:=o_8 i t
theorem l_3 (prog:Program) (w:World) (x:Str) (t:Tok):(c_R prog w).is (.inr x) (.str x t)=true:=n_O x t
inductive V where
 | non | bl (b:Bool) | int (i:Int) | str (x:Str) | byt (b:Array UInt8) | flt (b:UInt64) | ref (a:Addr) | ty (n:String)
 deriving DecidableEq
def b_P:V->Value->Prop
 | .non,u=>u=Value.none
 | .bl b,u=>u=Value.bool b
 | .int i,u=>∃ t,u=Value.int i t
 | .str x,u=>∃ t,u=Value.str x t
 | .byt b,u=>∃ t,u=Value.bytes b t
 | .flt b,u=>∃ t,u=Value.float b t
 | .ref a,u=>u=Value.ref a
 | .ty n,u=>u=Value.type n
abbrev b_y:List V->List Value->Prop:=Paired b_P
theorem b_y.length {xs:List V} {us:List Value} (r:b_y xs us):xs.length=us.length:=Paired.length r
theorem b_y.get:∀ {xs:List V} {us:List Value} {i:Nat} {x:V},b_y xs us->xs[i]? = some x->∃ u,us[i]? = some u/\b_P x u
 | _,_,_,_,.nil,e=>by simp at e
 | _,_,0,_,.cons r _,e=>by simp at e; subst e; exact ⟨_,rfl,r⟩
 | _,_,i + 1,x,.cons _ t,e=>by
  obtain ⟨u,h1,h2⟩:=b_y.get (i:=i) (x:=x) t (by simpa using e)
  exact ⟨u,by simpa using h1,h2⟩
theorem b_y.set {x:V} {u:Value} (r:b_P x u):∀ {xs:List V} {us:List Value} (i:Nat),b_y xs us->b_y (xs.set i x) (us.set i u)
 | _,_,_,.nil=>.nil
 | _,_,0,.cons _ t=>.cons r t
 | _,_,i + 1,.cons q t=>.cons q (b_y.set r i t)
theorem b_y.append:∀ {xs ys:List V} {us ws:List Value},b_y xs us->b_y ys ws->b_y (xs ++ ys) (us ++ ws)
 | _,_,_,_,.nil,s=>s
 | _,_,_,_,.cons r t,s=>.cons r (b_y.append t s)
theorem b_y.take:∀ {xs:List V} {us:List Value} (n:Nat),b_y xs us->b_y (xs.take n) (us.take n)
 | _,_,0,_=>.nil
 | _,_,_ + 1,.nil=>.nil
 | _,_,n + 1,.cons r t=>.cons r (b_y.take n t)
theorem b_y.drop:∀ {xs:List V} {us:List Value} (n:Nat),b_y xs us->b_y (xs.drop n) (us.drop n)
 | _,_,0,r=>r
 | _,_,_ + 1,.nil=>.nil
 | _,_,n + 1,.cons _ t=>b_y.drop n t
def n_e:Option V->Option Value->Prop
 | some v,some u=>b_P v u
 | none,none=>True
 | _,_=>False
def KV {κ:Type}:List (κ × V)->List (κ × Value)->Prop:=Paired fun (p:κ × V) (q:κ × Value)=>p.1=q.1/\b_P p.2 q.2
def kV:Key->V
 | .inl i=>.int i
 | .inr x=>.str x
inductive HO where
 | lst (xs:List V)
 | tup (xs:List V)
 | dK (kvs:List (Key × V)) | dT (kvs:List (List Key × V))
 | set (S:Int->Bool) (n:Nat)
 | ins (C dx:Addr) (fs:List (Str × V))
 | own (x:Addr)
 | xd (fs:List (Str × V))
 | met (f x:Addr)
 | rng (lo hi:Int)
 | frz (o:Obj) (u:HO)
 | tbl (ps:Array Value)
 | ext (φ:Heap->Prop)
abbrev Hp:=Addr->Option HO
def upd (H:Hp) (a:Addr) (o:HO):Hp:=fun b=>if b=a then some o else H b
theorem a_A {H:Hp} {a:Addr} {o:HO}:upd H a o a=some o:=by unfold upd; rw [if_pos rfl]
theorem a_p {H:Hp} {a b:Addr} {o:HO} (h:b ≠ a):upd H a o b=H b:=by unfold upd; rw [if_neg h]
theorem w_Y {H:Hp} {a b:Addr} {o u:HO} (h:H a=some o) (h':H b=some u) (d:o ≠ u):a ≠ b:=by
 intro e; subst e; rw [h] at h'; exact d (Option.some.inj h')
theorem b_g {H:Hp} {a b:Addr} {o:HO} (h:H a=some o) (h':H b=none):a ≠ b:=by
 intro e; subst e; rw [h] at h'; cases h'
section
variable (P:Program) (w:World)
def b_6 (H:Hp) (h:Heap) (a:Addr):HO->Prop
 | .lst xs=>xs.length<=sizeLine/\∃ (its:List Value) (n:Nat),b_y xs its/\h.get? a=some { cls:=.type "list",data:=.seq its.toArray n }
 | .tup xs=>xs.length<=sizeLine/\∃ its:List Value,b_y xs its/\IsTup h a its.toArray
 | .dK kvs=>kvs.length<=sizeLine/\(a == sysModules)=false/\∃ vs,KV kvs vs/\h.DictOf (c_R P w) a vs
 | .dT kvs=>kvs.length<=sizeLine/\(a == sysModules)=false/\∃ xs:List (List Key × Addr × Value),
   Paired (fun (p:List Key × V) (q:List Key × Addr × Value)=>p.1=q.1/\H q.2.1=some (.tup (p.1.map kV))/\b_P p.2 q.2.2) kvs xs/\
   ∃ o es ep,h.get? a=some o/\o.ExactDict/\o.data=.dict es ep/\es.toList=xs.map (entryOfKey (tupleKind (c_R P w)))/\(xs.map (·.1)).Nodup
 | .set S n=>h.SetOf (intKind P w) a S n
 | .ins C dx fs=>H dx=some (.own a)/\fs.length<=1000/\dx ≠ a/\h.get? a=some (instObj C dx)/\
   ∃ mA,h.Ns1 dx mA/\(∀ f,n_e (fs.lookup f) (mA f))/\PySem.Within mA (fs.map (·.1))
 | .own _=>∃ o,h.get? a=some o
 | .xd fs=>∃ mA,h.Ns1 a mA/\∀ f,n_e (fs.lookup f) (mA f)
 | .rng lo hi=>∃ t u v,h.get? a=some { cls:=.type "range",data:=.fields #[.int lo t,.int hi u,.int 1 v] }
 | .frz o u=>h.get? a=some o/\b_6 H h a u
 | .tbl ps=>h.get? a=some { cls:=.none,data:=.fields ps }
 | .met f x=>h.get? a=some (PySem.W.methodObj (.ref f) (.ref x))
 | .ext φ=>φ h/\(∃ o,h.get? a=some o)/\∀ h1 h2:Heap,φ h1->(∀ o,h1.get? a=some o->h2.get? a=some o)->φ h2
def HOk (H:Hp) (h:Heap):Prop:=∀ a o,H a=some o->b_6 P w H h a o
end
section
variable {P:Program} {w:World} {H H':Hp} {h h':Heap} {a:Addr} {o:HO}
theorem b_6.lt (x:b_6 P w H h a o):a < h.objs.size:=by
 cases o with
 | lst xs=>obtain ⟨_,_,_,_,e⟩:=x; exact Heap.lt_size e
 | tup xs=>obtain ⟨_,_,_,p⟩:=x; exact p.lt
 | dK kvs=>obtain ⟨_,_,_,_,o,_,_,e,_⟩:=x; exact Heap.lt_size e
 | dT kvs=>obtain ⟨_,_,_,_,o,_,_,e,_⟩:=x; exact Heap.lt_size e
 | set S n=>obtain ⟨o,_,_,_,e,_⟩:=x; exact Heap.lt_size e
 | ins C dx fs=>obtain ⟨_,_,_,e,_⟩:=x; exact Heap.lt_size e
 | own y=>obtain ⟨_,e⟩:=x; exact Heap.lt_size e
 | xd fs=>obtain ⟨_,⟨_,_,_,e,_⟩,_⟩:=x; exact Heap.lt_size e
 | rng lo hi=>obtain ⟨_,_,_,e⟩:=x; exact Heap.lt_size e
 | frz ob u=>obtain ⟨e,_⟩:=x; exact Heap.lt_size e
 | tbl ps=>exact Heap.lt_size (show h.get? a=some _ from x)
 | met f y=>exact Heap.lt_size (show h.get? a=some _ from x)
 | ext φ=>obtain ⟨_,⟨_,e⟩,_⟩:=x; exact Heap.lt_size e
theorem Paired.mapP {α β:Type} {F G:α->β->Prop}:∀ {l₁:List α} {l₂:List β},Paired F l₁ l₂->(∀ a b,F a b->G a b)->Paired G l₁ l₂
 | _,_,.nil,_=>.nil
 | _,_,.cons r t,f=>.cons (f _ _ r) (Paired.mapP t f)
theorem b_6.stay (x:b_6 P w H h a o) (k:∀ b u,(b=a\/H b=some (.own a))->h.get? b=some u->h'.get? b=some u)
  (ho:∀ b,H b=some (.own a)->H' b=some (.own a)) (ht:∀ b xs,H b=some (.tup xs)->H' b=some (.tup xs)):b_6 P w H' h' a o:=by
 induction o with
 | lst xs=>obtain ⟨z,its,n,r,e⟩:=x; exact ⟨z,its,n,r,k _ _ (.inl rfl) e⟩
 | tup xs=>obtain ⟨z,its,r,ob,e,c⟩:=x; exact ⟨z,its,r,ob,k _ _ (.inl rfl) e,c⟩
 | dK kvs=>obtain ⟨z,y,vs,r,ob,es,ep,e,c⟩:=x; exact ⟨z,y,vs,r,ob,es,ep,k _ _ (.inl rfl) e,c⟩
 | dT kvs=>
  obtain ⟨z,y,xs,r,ob,es,ep,e,c⟩:=x
  exact ⟨z,y,xs,Paired.mapP r fun p q z=>⟨z.1,ht _ _ z.2.1,z.2.2⟩,ob,es,ep,k _ _ (.inl rfl) e,c⟩
 | set S n=>obtain ⟨ob,es,ep,t,e,c⟩:=x; exact ⟨ob,es,ep,t,k _ _ (.inl rfl) e,c⟩
 | ins C dx fs=>
  obtain ⟨d,z,ne,e,mA,⟨od,es,ep,e2,c⟩,r⟩:=x
  exact ⟨ho _ d,z,ne,k _ _ (.inl rfl) e,mA,⟨od,es,ep,k _ _ (.inr d) e2,c⟩,r⟩
 | own y=>obtain ⟨ob,e⟩:=x; exact ⟨ob,k _ _ (.inl rfl) e⟩
 | xd fs=>obtain ⟨mA,⟨od,es,ep,e,c⟩,r⟩:=x; exact ⟨mA,⟨od,es,ep,k _ _ (.inl rfl) e,c⟩,r⟩
 | rng lo hi=>obtain ⟨t,u,v,e⟩:=x; exact ⟨t,u,v,k _ _ (.inl rfl) e⟩
 | frz ob u ih=>obtain ⟨e,q⟩:=x; exact ⟨k _ _ (.inl rfl) e,ih q⟩
 | tbl ps=>
  have e:h.get? a=some { cls:=.none,data:=.fields ps }:=x
  show h'.get? a=some { cls:=.none,data:=.fields ps }
  exact k a _ (.inl rfl) e
 | met f y=>
  have e:h.get? a=some (PySem.W.methodObj (.ref f) (.ref y)):=x
  show h'.get? a=some (PySem.W.methodObj (.ref f) (.ref y))
  exact k a _ (.inl rfl) e
 | ext φ=>obtain ⟨p,⟨o,e⟩,st⟩:=x; exact ⟨st _ _ p fun o q=>k _ _ (.inl rfl) q,⟨o,k _ _ (.inl rfl) e⟩,st⟩
theorem HOk.lt (x:HOk P w H h) (e:H a=some o):a < h.objs.size:=(x a o e).lt
theorem HOk.fresh (x:HOk P w H h) (e:h.objs.size<=a):H a=none:=by
 cases q:H a with
 | none=>rfl
 | some u=>exact absurd (Nat.lt_of_lt_of_le (x.lt q) e) (Nat.lt_irrefl _)
theorem HOk.kept (x:HOk P w H h) (k:∀ b u,h.get? b=some u->h'.get? b=some u):HOk P w H h':=fun a o e=>
 (x a o e).stay (fun b u _ q=>k b u q) (fun _ q=>q) fun _ _ q=>q
theorem HOk.laid (x:HOk P w H h) (k:∀ b u,h.get? b=some u->h'.get? b=some u) (hp:h.objs.size<=a) (new:b_6 P w (upd H a o) h' a o):HOk P w (upd H a o) h':=fun b u e=>by
 have hn:=x.fresh hp
 by_cases hb:b=a
 ·subst hb; rw [a_A] at e; cases e; exact new
 ·rw [a_p hb] at e
  exact (x b u e).stay (fun c v _ q=>k c v q) (fun c q=>by rw [a_p (b_g q hn)]; exact q) fun c xs q=>by rw [a_p (b_g q hn)]; exact q
end
def Rd (H:Hp) (a:Addr) (u:HO):Prop:=H a=some u\/∃ o,H a=some (.frz o u)
theorem Rd.ok {P:Program} {w:World} {H:Hp} {h:Heap} {a:Addr} {u:HO} (r:Rd H a u) (x:HOk P w H h):b_6 P w H h a u:=by
 rcases r with r | ⟨o,r⟩
 ·exact x a u r
 ·obtain ⟨_,q⟩:=x a _ r
  exact q
def Mut:Option HO->Prop
 | some (.lst _)=>True
 | some (.dK _)=>True
 | some (.dT _)=>True
 | some (.set _ _)=>True
 | some (.ins _ _ _)=>True
 | some (.ext _)=>True
 | _=>False
section
variable {P:Program} {w:World} {H:Hp} {h h':Heap} {x e:Addr} {o':HO}
theorem HOk.write (ok:HOk P w H h) (mu:Mut (H x)) (he:e=x\/H e=some (.own x)) (k:∀ b u,b ≠ e->h.get? b=some u->h'.get? b=some u) (heo:∃ u,h'.get? e=some u)
  (new:b_6 P w (upd H x o') h' x o'):HOk P w (upd H x o') h':=fun b u q=>by
 have nown:∀ c y,H c=some (.own y)->c ≠ x:=fun c y r z=>by subst z; rw [r] at mu; exact mu
 have ntup:∀ c xs,H c=some (.tup xs)->c ≠ x:=fun c xs r z=>by subst z; rw [r] at mu; exact mu
 by_cases hb:b=x
 ·subst hb; rw [a_A] at q; cases q; exact new
 ·rw [a_p hb] at q
  by_cases hbe:b=e
  ·have q':H b=some (.own x):=by
    rcases he with z | z
    ·exact absurd (hbe.trans z) hb
    ·rw [hbe]; exact z
   rw [q] at q'; cases q'
   obtain ⟨v,hv⟩:=heo
   exact ⟨v,by rw [hbe]; exact hv⟩
  ·refine (ok b u q).stay (fun c v hc r=>k c v ?_ r) (fun c r=>by rw [a_p (nown c b r)]; exact r) fun c xs r=>by rw [a_p (ntup c xs r)]; exact r
   rcases hc with rfl | hc
   ·exact hbe
   ·rintro rfl
    rcases he with z | z
    ·exact nown c b hc z
    ·rw [hc] at z; cases z; exact hb rfl
end
structure Un (fs ex:List Addr) (H H':Hp) (h h':Heap):Prop where
 keep:∀ b o,h.get? b=some o->H b=none->b ∉ fs->b ∉ ex->h'.get? b=some o
 slot:∀ b o,h.get? b=some o->H b=none->b ∈ fs->b ∉ ex->∃ sl,h'.get? b=some { o with slots:=sl }
 free:∀ b o,h.get? b=some o->H b=none->b ∉ ex->H' b=none
 there:∀ b o,h.get? b=some o->b ∉ ex->∃ o',h'.get? b=some o'
 tups:∀ b xs,H b=some (.tup xs)->H' b=some (.tup xs)
 frzs:∀ b o u,H b=some (.frz o u)->H' b=some (.frz o u)
 tbls:∀ b ps,H b=some (.tbl ps)->∃ more,H' b=some (.tbl (ps ++ more))
section
variable {fs fs' ex ex':List Addr} {H H1 H2:Hp} {h h1 h2 h':Heap} {a x e:Addr} {o:HO}
theorem Un.any (u:Un fs ex H H1 h h1) {b:Addr} {ob:Obj} (q:h.get? b=some ob) (n:H b=none) (hx:b ∉ ex):∃ sl,h1.get? b=some { ob with slots:=sl }:=by
 by_cases hb:b ∈ fs
 ·exact u.slot b ob q n hb hx
 ·exact ⟨ob.slots,u.keep b ob q n hb hx⟩
theorem Un.kept (k:∀ b u,h.get? b=some u->h'.get? b=some u):Un fs ex H H h h':=
 ⟨fun b ob q _ _ _=>k b ob q,fun b ob q _ _ _=>⟨ob.slots,k b ob q⟩,fun _ _ _ n _=>n,fun b ob q _=>⟨ob,k b ob q⟩,fun _ _ q=>q,fun _ _ _ q=>q,fun _ ps q=>⟨#[],by rw [q]; simp⟩⟩
theorem Un.refl:Un fs ex H H h h:=Un.kept fun _ _ q=>q
theorem Un.laid (k:∀ b u,h.get? b=some u->h'.get? b=some u) (hp:h.objs.size<=a) (hn:H a=none):Un fs ex H (upd H a o) h h' where
 keep:=fun b u q _ _ _=>k b u q
 slot:=fun b u q _ _ _=>⟨u.slots,k b u q⟩
 free:=fun b u q n _=>by rw [a_p (Nat.ne_of_lt (Nat.lt_of_lt_of_le (Heap.lt_size q) hp))]; exact n
 there:=fun b u q _=>⟨u,k b u q⟩
 tups:=fun b xs q=>by rw [a_p (b_g q hn)]; exact q
 frzs:=fun b u xs q=>by rw [a_p (b_g q hn)]; exact q
 tbls:=fun b ps q=>⟨#[],by rw [a_p (b_g q hn),q]; simp⟩
theorem Un.write (mu:Mut (H x)) (he:e=x\/H e=some (.own x)) (k:∀ b u,b ≠ e->h.get? b=some u->h'.get? b=some u) (heo:∃ u,h'.get? e=some u):Un fs ex H (upd H x o) h h':=by
 have hx:∀ b,H b=none->b ≠ x:=fun b n z=>by subst z; rw [n] at mu; exact mu
 have hb:∀ b,H b=none->b ≠ e:=fun b n z=>by
  subst z
  rcases he with r | r
  ·exact hx b n r
  ·rw [n] at r; cases r
 have hm:∀ b u,H b=some u->¬ Mut (some u)->b ≠ x:=fun b u q nm z=>by subst z; rw [q] at mu; exact nm mu
 refine ⟨fun b u q n _ _=>k b u (hb b n) q,fun b u q n _ _=>⟨u.slots,k b u (hb b n) q⟩,fun b u q n _=>by rw [a_p (hx b n)]; exact n,fun b u q _=>?_,
  fun b xs q=>by rw [a_p (hm b _ q fun z=>z)]; exact q,fun b u xs q=>by rw [a_p (hm b _ q fun z=>z)]; exact q,fun b ps q=>⟨#[],by rw [a_p (hm b _ q fun z=>z),q]; simp⟩⟩
 by_cases hbe:b=e
 ·subst hbe; exact heo
 ·exact ⟨u,k b u hbe q⟩
end
def trk (h:Heap) (H:Hp):List Addr:=(List.range h.objs.size).filter fun a=>(H a).isSome
def q_q (h:Heap) (H:Hp):Heap:=PySem.W.hideAll h (trk h H)
theorem n_3 (h:Heap) (H:Hp):(q_q h H).objs.size=h.objs.size:=PySem.W.hideAll_size _ _
theorem q_y {h:Heap} {H:Hp} {b:Addr} {o:Obj} (e:h.get? b=some o) (n:H b=none):(q_q h H).get? b=some o:=
 PySem.W.hideAll_get _ e fun hm=>by
  have q:(H b).isSome=true:=(List.mem_filter.mp hm).2
  rw [n] at q; simp at q
theorem s_V {h:Heap} {H:Hp} {b:Addr} {o:Obj} (e:(q_q h H).get? b=some o):h.get? b=some o/\H b=none:=by
 have e':h.get? b=some o:=PySem.W.of_hideAll (trk h H) e
 refine ⟨e',?_⟩
 cases q:H b with
 | none=>rfl
 | some x=>
  have hm:b ∈ trk h H:=List.mem_filter.mpr ⟨List.mem_range.mpr (Heap.lt_size e'),by simp [q]⟩
  have z:(q_q h H).get? b=none:=PySem.W.hideAll_none (trk h H) hm
  rw [z] at e; cases e
structure Mod (K:PySem.W.Frag) (mg:Str->Option Value) (base:Heap):Prop where
 kin:K.In base
 glob:base.Ns mainGlobals mg
 blt:∃ mb,base.Ns builtinsNs mb/\∀ x:Str,x ≠ "__name__"->mb x=bootBuiltins x
 nolimit:base.NoLimit
structure Cx where
 prog:Program
 w:World
 K:PySem.W.Frag
 mg:Str->Option Value
 base:Heap
 A:Around
 N:List Str
 s₀:Shared
 H₀:Hp
 env:Env
 outer:List Env
 stack:List Env
 ex:List Addr
 fn:Str->Bool
 calm:Bool
 pn:List (Addr × Obj)
 xe:Value->Shared->Prop
def frs (l:List Env):List Addr:=l.filterMap (·.frame)
abbrev Cx.fs (X:Cx):List Addr:=frs X.outer
def Vis (sc:Scope) (x:Str):Prop:=sc.names.lookup x=some .local\/sc.names.lookup x=some .cell\/sc.names.lookup x=some .free
def Loc (sc:Scope) (x:Str):Prop:=sc.names.lookup x=some .local\/sc.names.lookup x=some .cell
def y_T (env:Env) (h:Heap) (m:Str->Option Value) (x:Str) (u:Value):Prop:=
 (env.kindOf x=some .local/\m x=some u)\/((env.kindOf x=some .cell\/env.kindOf x=some .free)/\∃ c,env.cells.lookup x=some c/\h.IsCell c (some u))
structure Cx.Ok (X:Cx):Prop where
 mod:Mod X.K X.mg X.base
 kind:X.env.scope.kind=.function
 glob:X.env.globals=mainGlobals
 blt:X.env.builtins=builtinsNs
 above:X.s₀.heap.objs.size<=X.env.locals
 inj:∀ x y c,X.env.cells.lookup x=some c->X.env.cells.lookup y=some c->x=y
 has:∀ x,(X.env.kindOf x=some .cell\/X.env.kindOf x=some .free)->∃ c,X.env.cells.lookup x=some c
 cab:∀ x c,X.fn x=true->X.env.cells.lookup x=some c->X.s₀.heap.objs.size<=c
 hd:X.calm=true->X.A.handled=none
 frames:X.A.frames=some X.stack
 stk:X.stack=X.outer\/(X.stack=X.env :: X.outer/\X.env.frame=some X.env.locals)
 exf:∀ b ∈ X.ex,b ≠ X.env.locals/\∀ x c,X.env.cells.lookup x=some c->c ≠ b
 bs:∀ b o,X.base.get? b=some o->X.s₀.heap.get? b=some o/\X.H₀ b=none
 bsz:X.base.objs.size<=X.s₀.heap.objs.size
 noex:∀ b o,X.base.get? b=some o->b ∉ X.ex
 exfs:∀ b ∈ X.ex,b ∉ X.fs
 funs:X.s₀.heap.FunFrames X.base X.outer
 frf:∀ b ∈ X.fs,X.H₀ b=none
structure Inv (X:Cx) (pins:List (Addr × Obj)) (Y:List (Option V)) (H:Hp) (s:Shared):Prop where
 ok:X.Ok
 os:s.os=X.s₀.os
 bare:AllBare s.gens
 base:Un X.fs X.ex X.H₀ H X.s₀.heap s.heap
 loc:∃ m,s.heap.Ns X.env.locals m/\∀ (i:Nat) (x:Str) (v:V),X.N[i]? = some x->Y[i]? = some (some v)->Vis X.env.scope x->∃ u,b_P v u/\y_T X.env s.heap m x u
 cell:∀ x c,X.env.cells.lookup x=some c->∃ v,s.heap.IsCell c v
 free:H X.env.locals=none
 freeC:∀ x c,X.env.cells.lookup x=some c->H c=none
 pin:∀ p ∈ X.pn ++ pins,s.heap.get? p.1=some p.2/\H p.1=none/\p.1 ≠ X.env.locals/\p.1 ∉ X.fs/\∀ v,p.2.data ≠ .cell v
 hok:HOk X.prog X.w H s.heap
 len:Y.length=X.N.length
section
variable {X:Cx} {pins:List (Addr × Obj)} {Y:List (Option V)} {H H':Hp} {s:Shared} {h':Heap}
theorem Cx.Ok.nofr (ok:X.Ok) {b:Addr} {o:Obj} (e:X.base.get? b=some o):b ∉ X.fs:=fun hb=>by
 have:=(ok.funs.mem hb).1
 rw [e] at this; cases this
theorem Inv.bs (I:Inv X pins Y H s):∀ b o,X.base.get? b=some o->s.heap.get? b=some o/\H b=none:=fun b o e=>
 ⟨I.base.keep b o (I.ok.bs b o e).1 (I.ok.bs b o e).2 (I.ok.nofr e) (I.ok.noex b o e),I.base.free b o (I.ok.bs b o e).1 (I.ok.bs b o e).2 (I.ok.noex b o e)⟩
theorem Inv.bk (I:Inv X pins Y H s):∀ b o,X.base.get? b=some o->s.heap.get? b=some o:=fun b o e=>(I.bs b o e).1
theorem Inv.mod (I:Inv X pins Y H s):Mod X.K X.mg X.base:=I.ok.mod
theorem Inv.kIn (I:Inv X pins Y H s):X.K.In s.heap:=I.ok.mod.kin.keeps I.bk
theorem Inv.lt (I:Inv X pins Y H s):X.env.locals < s.heap.objs.size:=let ⟨_,hn,_⟩:=I.loc; hn.lt
theorem Inv.sz (I:Inv X pins Y H s):X.s₀.heap.objs.size<=s.heap.objs.size:=Nat.le_trans I.ok.above (Nat.le_of_lt I.lt)
theorem Inv.nofs (I:Inv X pins Y H s) {a:Addr} (h:s.heap.objs.size<=a):a ∉ X.fs:=fun hb=>by
 obtain ⟨_,o,ho,_⟩:=I.ok.funs.mem hb
 exact absurd (Nat.lt_of_lt_of_le (Heap.lt_size ho) (Nat.le_trans I.sz h)) (Nat.lt_irrefl _)
theorem Inv.cne (I:Inv X pins Y H s):∀ x c,X.env.cells.lookup x=some c->c ≠ X.env.locals:=fun x c e z=>by
 obtain ⟨v,o,ho,hd⟩:=I.cell x c e
 obtain ⟨m,⟨o',es,ep,ho',hd',_⟩,_⟩:=I.loc
 rw [z,ho'] at ho; cases ho; rw [hd'] at hd; cases hd
theorem Inv.funs (I:Inv X pins Y H s):s.heap.FunFrames X.base X.outer:=by
 have all:∀ (l:List Env),(∀ b ∈ frs l,b ∈ X.fs)->X.s₀.heap.FunFrames X.base l->s.heap.FunFrames X.base l:=by
  intro l
  induction l with
  | nil=>intro _ _; trivial
  | cons env r ih=>
   intro hs hl
   obtain ⟨hk,⟨L,o,hf,hn,ho,hd⟩,hr⟩:=hl
   have hL:L ∈ X.fs:=hs L (by unfold frs; rw [List.filterMap_cons,hf]; exact List.mem_cons_self)
   obtain ⟨sl,e⟩:=I.base.slot L o ho (I.ok.frf L hL) hL fun z=>I.ok.exfs L z hL
   exact ⟨hk,⟨L,_,hf,hn,e,hd⟩,ih (fun b hb=>hs b (by unfold frs; rw [List.filterMap_cons,hf]; exact List.mem_cons_of_mem _ hb)) hr⟩
 exact all X.outer (fun _ hb=>hb) I.ok.funs
theorem Inv.stack (I:Inv X pins Y H s):s.heap.FunFrames X.base X.stack:=by
 rcases I.ok.stk with e | ⟨e,hf⟩
 ·rw [e]; exact I.funs
 ·rw [e]
  obtain ⟨m,hn,_⟩:=I.loc
  refine .cons (by rw [I.ok.kind]; decide) hf hn ?_ I.funs
  exact Heap.get?_none_of_le (Nat.le_trans I.ok.bsz I.ok.above)
theorem Inv.stkSub (I:Inv X pins Y H s):∀ b ∈ frs X.stack,b ∈ X.env.locals :: X.fs:=fun b hb=>by
 rcases I.ok.stk with e | ⟨e,hf⟩
 ·rw [e] at hb; exact List.mem_cons_of_mem _ hb
 ·rw [e] at hb
  unfold frs at hb
  rw [List.filterMap_cons,hf] at hb
  exact hb
theorem Inv.stkFree (I:Inv X pins Y H s):∀ b ∈ frs X.stack,H b=none:=fun b hb=>by
 rcases List.mem_cons.mp (I.stkSub b hb) with e | hb
 ·rw [e]; exact I.free
 ·obtain ⟨_,o,ho,_⟩:=I.ok.funs.mem hb
  exact I.base.free b o ho (I.ok.frf b hb) fun z=>I.ok.exfs b z hb
theorem Inv.step {g':Array GenState} {t':Nat} {d':Drawn} {ch:List Addr} (I:Inv X pins Y H s)
  (hch:∀ b ∈ ch,(b ∈ X.ex\/X.s₀.heap.objs.size<=b)/\b ≠ X.env.locals/\(∀ x c,X.env.cells.lookup x=some c->c ≠ b)/\∀ p ∈ X.pn ++ pins,p.1 ≠ b)
  (keep:∀ b o,b ≠ X.env.locals->b ∉ X.fs->b ∉ ch->s.heap.get? b=some o->H b=none->h'.get? b=some o)
  (slot:∀ b o,b ≠ X.env.locals->b ∈ X.fs->b ∉ ch->s.heap.get? b=some o->H b=none->∃ sl,h'.get? b=some { o with slots:=sl }) (free:∀ b o,b ∉ ch->s.heap.get? b=some o->H b=none->H' b=none)
  (there:∀ b o,b ∉ ch->s.heap.get? b=some o->∃ o',h'.get? b=some o')
  (tups:∀ b xs,H b=some (.tup xs)->H' b=some (.tup xs)) (frzs:∀ b o u,H b=some (.frz o u)->H' b=some (.frz o u)) (tbls:∀ b ps,H b=some (.tbl ps)->∃ more,H' b=some (.tbl (ps ++ more)))
  (ns:∀ m,s.heap.Ns X.env.locals m->h'.Ns X.env.locals m) (hok:HOk X.prog X.w H' h') (hg:AllBare g') :
  Inv X pins Y H' { s with heap:=h',gens:=g',drawn:=d',toks:=t' }:=by
 have neL:∀ b o,X.s₀.heap.get? b=some o->b ≠ X.env.locals:=fun b o e=>Nat.ne_of_lt (Nat.lt_of_lt_of_le (Heap.lt_size e) I.ok.above)
 have neC:∀ b o,X.s₀.heap.get? b=some o->b ∉ X.ex->b ∉ ch:=fun b o e hx hb=>by
  rcases (hch b hb).1 with z | z
  ·exact hx z
  ·exact absurd (Nat.lt_of_lt_of_le (Heap.lt_size e) z) (Nat.lt_irrefl _)
 have cellK:∀ x c,X.env.cells.lookup x=some c->∀ v,s.heap.IsCell c v->h'.IsCell c v:=fun x c e v ⟨o,ho,hd⟩=>by
  have nch:c ∉ ch:=fun z=>(hch c z).2.2.1 x c e rfl
  by_cases hc:c ∈ X.fs
  ·obtain ⟨sl,q⟩:=slot c o (I.cne x c e) hc nch ho (I.freeC x c e)
   exact ⟨_,q,hd⟩
  ·exact ⟨o,keep c o (I.cne x c e) hc nch ho (I.freeC x c e),hd⟩
 refine ⟨I.ok,I.os,hg,⟨fun b o e n hb hx=>?_,fun b o e n hb hx=>?_,fun b o e n hx=>?_,fun b o e hx=>?_,fun b xs e=>tups b xs (I.base.tups b xs e),fun b o xs e=>frzs b o xs (I.base.frzs b o xs e),fun b ps e=>?_⟩,?_,fun x c e=>?_,?_,fun x c e=>?_,fun p hp=>?_,hok,I.len⟩
 ·exact keep b o (neL b o e) hb (neC b o e hx) (I.base.keep b o e n hb hx) (I.base.free b o e n hx)
 ·obtain ⟨sl,e1⟩:=I.base.slot b o e n hb hx
  obtain ⟨sl',e2⟩:=slot b _ (neL b o e) hb (neC b o e hx) e1 (I.base.free b o e n hx)
  exact ⟨sl',e2⟩
 ·obtain ⟨o',e1⟩:=I.base.there b o e hx
  exact free b o' (neC b o e hx) e1 (I.base.free b o e n hx)
 ·obtain ⟨o',e1⟩:=I.base.there b o e hx
  exact there b o' (neC b o e hx) e1
 ·obtain ⟨m1,e1⟩:=I.base.tbls b ps e
  obtain ⟨m2,e2⟩:=tbls b _ e1
  exact ⟨m1 ++ m2,by rw [e2,Array.append_assoc]⟩
 ·obtain ⟨m,hn,hl⟩:=I.loc
  refine ⟨m,ns m hn,fun i x v e1 e2 e3=>?_⟩
  obtain ⟨u,r,l⟩:=hl i x v e1 e2 e3
  refine ⟨u,r,?_⟩
  rcases l with l | ⟨k,c,e,z⟩
  ·exact .inl l
  ·exact .inr ⟨k,c,e,cellK x c e _ z⟩
 ·obtain ⟨v,z⟩:=I.cell x c e
  exact ⟨v,cellK x c e v z⟩
 ·obtain ⟨m,⟨o,_,_,ho,_⟩,_⟩:=I.loc
  exact free _ o (fun z=>(hch _ z).2.1 rfl) ho I.free
 ·obtain ⟨v,o,ho,hd⟩:=I.cell x c e
  exact free c o (fun z=>(hch c z).2.2.1 x c e rfl) ho (I.freeC x c e)
 ·obtain ⟨e,n,ne,nf,d⟩:=I.pin p hp
  have nch:p.1 ∉ ch:=fun z=>(hch p.1 z).2.2.2 p hp rfl
  exact ⟨keep p.1 p.2 ne nf nch e n,free p.1 p.2 nch e n,ne,nf,d⟩
theorem Inv.un {t':Nat} (I:Inv X pins Y H s) (u:Un X.fs [] H H' s.heap h') (hok:HOk X.prog X.w H' h'):Inv X pins Y H' { s with heap:=h',toks:=t' }:=by
 obtain ⟨m,⟨o,es,ep,ho,r⟩,_⟩:=id I.loc
 obtain ⟨sl,hL⟩:=u.any ho I.free (by simp)
 exact I.step (g':=s.gens) (d':=s.drawn) (ch:=[]) (fun _ z=>nomatch z) (fun b o _ hb _ e n=>u.keep b o e n hb (by simp)) (fun b o _ hb _ e n=>u.slot b o e n hb (by simp)) (fun b o _ e n=>u.free b o e n (by simp)) (fun b o _ e=>u.there b o e (by simp)) u.tups u.frzs u.tbls (fun m' hm=>by
  obtain ⟨o',es',ep',ho',r'⟩:=hm
  rw [ho] at ho'; cases ho'
  exact ⟨_,es',ep',hL,r'⟩) hok I.bare
theorem Inv.call {g':Array GenState} {t':Nat} {d':Drawn} {ch:List Addr} (I:Inv X pins Y H s) (u:Un (frs X.stack) ch H H' s.heap h') (hok:HOk X.prog X.w H' h') (hg:AllBare g')
  (hch:∀ b ∈ ch,(b ∈ X.ex\/X.s₀.heap.objs.size<=b)/\b ≠ X.env.locals/\(∀ x c,X.env.cells.lookup x=some c->c ≠ b)/\∀ p ∈ X.pn ++ pins,p.1 ≠ b) :
  Inv X pins Y H' { s with heap:=h',gens:=g',drawn:=d',toks:=t' }:=by
 obtain ⟨m,⟨o,es,ep,ho,r⟩,_⟩:=id I.loc
 obtain ⟨sl,hL⟩:=u.any ho I.free fun z=>(hch _ z).2.1 rfl
 exact I.step (ch:=ch) hch (fun b o hL hb hc e n=>u.keep b o e n (fun z=>(List.mem_cons.mp (I.stkSub b z)).elim hL hb) hc) (fun b o _ _ hc e n=>u.any e n hc) (fun b o hc e n=>u.free b o e n hc) (fun b o hc e=>u.there b o e hc) u.tups u.frzs u.tbls (fun m' hm=>by
  obtain ⟨o',es',ep',ho',r'⟩:=hm
  rw [ho] at ho'; cases ho'
  exact ⟨_,es',ep',hL,r'⟩) hok hg
theorem Inv.turned {t':Nat} {it:Addr} (I:Inv X pins Y H s) (k:∀ b o,b ≠ it->s.heap.get? b=some o->h'.get? b=some o) (hn:H it=none) (hL:it ≠ X.env.locals)
  (h1:it ∈ X.ex\/X.s₀.heap.objs.size<=it) (h2:∀ x c,X.env.cells.lookup x=some c->c ≠ it) (h3:∀ p ∈ X.pn ++ pins,p.1 ≠ it):Inv X pins Y H { s with heap:=h',toks:=t' }:=by
 have nit:∀ b u,H b=some u->b ≠ it:=fun b u e z=>by rw [z,hn] at e; cases e
 refine I.step (g':=s.gens) (d':=s.drawn) (ch:=[it]) (fun b hb=>?_) (fun b o _ _ hc e _=>k b o (fun z=>hc (by simp [z])) e) (fun b o _ _ hc e _=>⟨o.slots,k b o (fun z=>hc (by simp [z])) e⟩) (fun _ _ _ _ n=>n)
  (fun b o hc e=>⟨o,k b o (fun z=>hc (by simp [z])) e⟩) (fun _ _ e=>e) (fun _ _ _ e=>e) (fun b ps e=>⟨#[],by rw [e]; simp⟩) (fun m hm=>?_) (fun b u e=>?_) I.bare
 ·have e:b=it:=by simpa using hb
  subst e
  exact ⟨h1,hL,h2,h3⟩
 ·obtain ⟨o,es,ep,ho,r⟩:=hm
  exact ⟨o,es,ep,k _ o (Ne.symm hL) ho,r⟩
 ·refine (I.hok b u e).stay (fun c v hc q=>k c v ?_ q) (fun _ q=>q) fun _ _ q=>q
  rcases hc with z | z
  ·rw [z]; exact nit b u e
  ·exact nit c _ z
theorem Inv.tok (I:Inv X pins Y H s) (t:Nat):Inv X pins Y H { s with toks:=t }:=I.un (h':=s.heap) (t':=t) Un.refl I.hok
theorem Inv.kept {t':Nat} (I:Inv X pins Y H s) (k:∀ b u,s.heap.get? b=some u->h'.get? b=some u):Inv X pins Y H { s with heap:=h',toks:=t' }:=I.un (Un.kept k) (I.hok.kept k)
theorem Inv.laid {a:Addr} {o:HO} {t':Nat} (I:Inv X pins Y H s) (k:∀ b u,s.heap.get? b=some u->h'.get? b=some u) (hp:s.heap.objs.size<=a) (new:b_6 X.prog X.w (upd H a o) h' a o) :
  Inv X pins Y (upd H a o) { s with heap:=h',toks:=t' }:=I.un (Un.laid k hp (I.hok.fresh hp)) (I.hok.laid k hp new)
theorem Inv.write {x e:Addr} {o:HO} {t':Nat} (I:Inv X pins Y H s) (mu:Mut (H x)) (he:e=x\/H e=some (.own x)) (k:∀ b u,b ≠ e->s.heap.get? b=some u->h'.get? b=some u) (heo:∃ u,h'.get? e=some u)
  (new:b_6 X.prog X.w (upd H x o) h' x o):Inv X pins Y (upd H x o) { s with heap:=h',toks:=t' }:=I.un (Un.write mu he k heo) (I.hok.write mu he k heo new)
theorem Inv.pins_of {pins':List (Addr × Obj)} (I:Inv X pins Y H s) (h:∀ p ∈ pins',s.heap.get? p.1=some p.2/\H p.1=none/\p.1 ≠ X.env.locals/\p.1 ∉ X.fs/\∀ v,p.2.data ≠ .cell v):Inv X pins' Y H s:=
 ⟨I.ok,I.os,I.bare,I.base,I.loc,I.cell,I.free,I.freeC,fun p hp=>(List.mem_append.mp hp).elim (fun z=>I.pin p (List.mem_append_left _ z)) (h p),I.hok,I.len⟩
theorem j_Q {N:List Str} (hN:N.Nodup) {i j:Nat} {x:Str} (a:N[i]? = some x) (b:N[j]? = some x):i=j:=by
 obtain ⟨h1,e1⟩:=List.getElem?_eq_some_iff.mp a
 obtain ⟨h2,e2⟩:=List.getElem?_eq_some_iff.mp b
 exact (List.getElem_inj hN).mp (e1.trans e2.symm)
theorem k_t {M:Model} {A:Around} {E:Value->Shared->Prop} {i:Nat} {x:Str} {v:V} {u:Value} {Q:Unit->Shared->Prop} (I:Inv X pins Y H s) (hN:X.N.Nodup) (hi:X.N[i]? = some x) (hx:Loc X.env.scope x) (r:b_P v u)
  (h:∀ s',Inv X pins (Y.set i (some v)) H s'->(∃ a,Heap.SameBut a s.heap s'.heap/\(a=X.env.locals\/X.env.cells.lookup x=some a))->Q () s') (hf:X.fn x=true\/X.env.scope.names.lookup x=some .local:=by first | exact .inl rfl | exact .inr rfl | assumption):wpAny M A (storeName X.env x u) Q E s:=by
 obtain ⟨m,hn,hl⟩:=id I.loc
 have hcls:(X.env.scope.kind == .class || (X.env.scope.kind == .module && X.env.locals != X.env.globals))=false:=by rw [I.ok.kind]; rfl
 have hiY:i < Y.length:=by rw [I.len]; exact (List.getElem?_eq_some_iff.mp hi).1
 have cne:=I.cne
 have tracked:∀ {a:Addr} {h':Heap},(∃ o,s.heap.get? a=some o/\H a=none)->Heap.SameBut a s.heap h'->HOk X.prog X.w H h':=fun {a h'} ha hs b ob e=>by
  obtain ⟨_,_,hfree⟩:=ha
  refine (I.hok b ob e).stay (fun c w' hc q=>(hs.2 c ?_).trans q) (fun _ q=>q) fun _ _ q=>q
  rintro rfl
  rcases hc with rfl | hc
  ·rw [hfree] at e; cases e
  ·rw [hfree] at hc; cases hc
 rcases hx with hk | hk
 ·refine wpAny_storeName_local hk hn (fun h' hn' hs=>?_) hcls
  obtain ⟨oL,_,_,hoL,_⟩:=id hn
  refine h _ ⟨I.ok,I.os,I.bare,⟨fun b o e n hb hx=>?_,fun b o e n hb hx=>?_,I.base.free,fun b o e hx=>?_,I.base.tups,I.base.frzs,I.base.tbls⟩,⟨_,hn',fun j y v' e1 e2 e3=>?_⟩,fun y c e=>?_,I.free,I.freeC,fun p hp=>?_,tracked ⟨oL,hoL,I.free⟩ hs,by simpa using I.len⟩ ⟨_,hs,.inl rfl⟩
  ·exact (hs.2 b (Nat.ne_of_lt (Nat.lt_of_lt_of_le (Heap.lt_size e) I.ok.above))).trans (I.base.keep b o e n hb hx)
  ·obtain ⟨sl,e1⟩:=I.base.slot b o e n hb hx
   exact ⟨sl,(hs.2 b (Nat.ne_of_lt (Nat.lt_of_lt_of_le (Heap.lt_size e) I.ok.above))).trans e1⟩
  ·obtain ⟨o',e1⟩:=I.base.there b o e hx
   exact ⟨o',(hs.2 b (Nat.ne_of_lt (Nat.lt_of_lt_of_le (Heap.lt_size e) I.ok.above))).trans e1⟩
  ·by_cases hj:j=i
   ·subst hj
    rw [hi] at e1; cases e1
    rw [List.getElem?_set_self hiY] at e2
    cases e2
    exact ⟨u,r,.inl ⟨hk,by simp⟩⟩
   ·rw [List.getElem?_set_ne (Ne.symm hj)] at e2
    obtain ⟨u',r',q⟩:=hl j y v' e1 e2 e3
    refine ⟨u',r',?_⟩
    rcases q with ⟨k,e⟩ | ⟨k,c,e,z⟩
    ·refine .inl ⟨k,?_⟩
     have:y ≠ x:=fun e=>hj (j_Q hN e1 (e ▸ hi))
     simp [this,e]
    ·exact .inr ⟨k,c,e,z.sameBut hs (cne y c e)⟩
  ·obtain ⟨w',z⟩:=I.cell y c e
   exact ⟨w',z.sameBut hs (cne y c e)⟩
  ·obtain ⟨e,n,ne,nf,d⟩:=I.pin p hp
   exact ⟨(hs.2 p.1 ne).trans e,n,ne,nf,d⟩
 ·have hfn:X.fn x=true:=by
   rcases hf with z | z
   ·exact z
   ·rw [z] at hk; cases hk
  obtain ⟨c,hc⟩:=I.ok.has x (.inl hk)
  obtain ⟨w',z⟩:=I.cell x c hc
  refine wpAny_storeName_cell I.ok.kind hk hc z (fun h' hc' hs=>?_)
  obtain ⟨oc,hoc,hocd⟩:=id z
  refine h { s with heap:=h' } ⟨I.ok,I.os,I.bare,⟨fun b o e n hb hx=>?_,fun b o e n hb hx=>?_,I.base.free,fun b o e hx=>?_,I.base.tups,I.base.frzs,I.base.tbls⟩,⟨m,hn.sameBut hs (Ne.symm (cne x c hc)),fun j y v' e1 e2 e3=>?_⟩,fun y c' e=>?_,I.free,I.freeC,fun p hp=>?_,tracked ⟨oc,hoc,I.freeC x c hc⟩ hs,by simpa using I.len⟩ ⟨c,hs,.inr hc⟩
  ·exact (hs.2 b (Nat.ne_of_lt (Nat.lt_of_lt_of_le (Heap.lt_size e) (I.ok.cab x c hfn hc)))).trans (I.base.keep b o e n hb hx)
  ·obtain ⟨sl,e1⟩:=I.base.slot b o e n hb hx
   exact ⟨sl,(hs.2 b (Nat.ne_of_lt (Nat.lt_of_lt_of_le (Heap.lt_size e) (I.ok.cab x c hfn hc)))).trans e1⟩
  ·obtain ⟨o',e1⟩:=I.base.there b o e hx
   exact ⟨o',(hs.2 b (Nat.ne_of_lt (Nat.lt_of_lt_of_le (Heap.lt_size e) (I.ok.cab x c hfn hc)))).trans e1⟩
  ·by_cases hj:j=i
   ·subst hj
    rw [hi] at e1; cases e1
    rw [List.getElem?_set_self hiY] at e2
    cases e2
    exact ⟨u,r,.inr ⟨.inl hk,c,hc,hc'⟩⟩
   ·rw [List.getElem?_set_ne (Ne.symm hj)] at e2
    obtain ⟨u',r',q⟩:=hl j y v' e1 e2 e3
    refine ⟨u',r',?_⟩
    rcases q with q | ⟨k,c',e,z'⟩
    ·exact .inl q
    ·refine .inr ⟨k,c',e,z'.sameBut hs ?_⟩
     rintro rfl
     exact hj (j_Q hN e1 (I.ok.inj _ _ _ e hc ▸ hi))
  ·by_cases hcc:c' = c
   ·subst hcc; exact ⟨_,hc'⟩
   ·obtain ⟨w2,z2⟩:=I.cell y c' e
    exact ⟨w2,z2.sameBut hs hcc⟩
  ·obtain ⟨e,n,ne,nf,d⟩:=I.pin p hp
   refine ⟨(hs.2 p.1 ?_).trans e,n,ne,nf,d⟩
   intro q
   rw [q,hoc] at e
   have q':oc=p.2:=Option.some.inj e
   exact d w' (by rw [<-q']; exact hocd)
theorem j_l {M:Model} {A:Around} {E:Value->Shared->Prop} {i:Nat} {x:Str} {v:V} {u:Value} {Q:Unit->Shared->Prop} (I:Inv X pins Y H s) (hN:X.N.Nodup) (hi:X.N[i]? = some x) (hx:Loc X.env.scope x) (r:b_P v u)
  (h:∀ s',Inv X pins (Y.set i (some v)) H s'->Q () s') (hf:X.fn x=true\/X.env.scope.names.lookup x=some .local:=by first | exact .inl rfl | exact .inr rfl | assumption):wpAny M A (storeName X.env x u) Q E s:=
 k_t I hN hi hx r (fun s' I' _=>h s' I') hf
theorem Inv.call' {s':Shared} {ch:List Addr} (I:Inv X pins Y H s) (ho:s'.os=s.os) (u:Un (frs X.stack) ch H H' s.heap s'.heap) (hok:HOk X.prog X.w H' s'.heap) (hg:AllBare s'.gens)
  (hch:∀ b ∈ ch,(b ∈ X.ex\/X.s₀.heap.objs.size<=b)/\b ≠ X.env.locals/\(∀ x c,X.env.cells.lookup x=some c->c ≠ b)/\∀ p ∈ X.pn ++ pins,p.1 ≠ b):Inv X pins Y H' s':=by
 obtain ⟨h',g',d',t',o'⟩:=s'
 have e:o' = s.os:=ho
 subst e
 exact I.call (g':=g') (t':=t') (d':=d') u hok hg hch
end
abbrev XK:=Value->Option Addr->Hp->Prop
abbrev St:=List (Option V)
abbrev VK:=V->Hp->Prop
abbrev TE:=St->Hp->VK->Prop
abbrev TT:=St->Hp->(Bool->Hp->Prop)->Prop
abbrev TA:=St->Hp->(List V->Hp->Prop)->Prop
structure Ends where
 nx:St->Hp->Prop
 rt:VK
 bk:St->Hp->Prop:=fun _ _=>False
 ct:St->Hp->Prop:=fun _ _=>False
abbrev TS:=Ends->St->Hp->Prop
def EP (X:Cx) (pins:List (Addr × Obj)) (Y:St) (Q:VK) (u:Value) (s':Shared):Prop:=∃ v H',Inv X pins Y H' s'/\b_P v u/\Q v H'
def TP (X:Cx) (pins:List (Addr × Obj)) (Y:St) (Q:Bool->Hp->Prop) (b:Bool) (s':Shared):Prop:=∃ H',Inv X pins Y H' s'/\Q b H'
def AP (X:Cx) (pins:List (Addr × Obj)) (Y:St) (Q:List V->Hp->Prop) (us:List Value) (s':Shared):Prop:=∃ vs H',Inv X pins Y H' s'/\b_y vs us/\Q vs H'
def SP (X:Cx) (pins:List (Addr × Obj)) (D:Ends) (f:Flow) (s':Shared):Prop:=
 match f with
 | .next=>∃ Y' H',Inv X pins Y' H' s'/\D.nx Y' H'
 | .brk=>∃ Y' H',Inv X pins Y' H' s'/\D.bk Y' H'
 | .cont=>∃ Y' H',Inv X pins Y' H' s'/\D.ct Y' H'
 | .ret u=>∃ v Y' H',Inv X pins Y' H' s'/\b_P v u/\D.rt v H'
def PE (X:Cx) (e:Expr) (t:TE):Prop:=
 ∀ (pins:List (Addr × Obj)) (s:Shared) (Y:St) (H:Hp) (Q:VK),Inv X pins Y H s->t Y H Q->wpAny (model X.prog X.w) X.A (eval e X.env) (EP X pins Y Q) X.xe s
def PT (X:Cx) (e:Expr) (t:TT):Prop:=
 ∀ (pins:List (Addr × Obj)) (s:Shared) (Y:St) (H:Hp) (Q:Bool->Hp->Prop),Inv X pins Y H s->t Y H Q->wpAny (model X.prog X.w) X.A (isTrue e X.env (eval e X.env)) (TP X pins Y Q) X.xe s
def PW (X:Cx) (e:Expr) (t:TT):Prop:=
 ∀ (whole:Sem Value) (pins:List (Addr × Obj)) (s:Shared) (Y:St) (H:Hp) (Q:Bool->Hp->Prop),Inv X pins Y H s->t Y H Q->wpAny (model X.prog X.w) X.A (isTrue e X.env whole) (TP X pins Y Q) X.xe s
theorem PW.pt {X:Cx} {e:Expr} {t:TT} (h:PW X e t):PT X e t:=h _
def PA (X:Cx) (es:List Expr) (t:TA):Prop:=
 ∀ (pos:Pos) (pins:List (Addr × Obj)) (s:Shared) (Y:St) (H:Hp) (Q:List V->Hp->Prop),Inv X pins Y H s->t Y H Q->wpAny (model X.prog X.w) X.A (spliced (backTo pos (starEach es X.env))) (AP X pins Y Q) X.xe s
def PS (X:Cx) (st:Stmt) (t:TS):Prop:=
 ∀ (pins:List (Addr × Obj)) (s:Shared) (Y:St) (H:Hp) (D:Ends),Inv X pins Y H s->t D Y H->wpAny (model X.prog X.w) X.A (exec st X.env) (SP X pins D) X.xe s
def PSs (X:Cx) (st:List Stmt) (t:TS):Prop:=
 ∀ (pins:List (Addr × Obj)) (s:Shared) (Y:St) (H:Hp) (D:Ends),Inv X pins Y H s->t D Y H->wpAny (model X.prog X.w) X.A (execs st X.env) (SP X pins D) X.xe s
theorem thn {α:Type} {t:Sem α} {Q Q':α->Shared->Prop} {M:Model} {A:Around} {E:Value->Shared->Prop} {s:Shared} (h:wpAny M A t Q E s) (hQ:∀ a s,Q a s->Q' a s):wpAny M A t Q' E s:=wpAny_mono h hQ fun _ _ x=>x
section
variable {X:Cx}
def e_A (i:Nat):TE:=fun Y H Q=>∃ v,Y[i]? = some (some v)/\Q v H
def tC (v:V):TE:=fun _ H Q=>Q v H
theorem u_t {i:Nat} {x:Str} {pos:Pos} (hN:X.N[i]? = some x) (hv:Vis X.env.scope x) (hd:(x == ("__debug__":Str))=false:=by decide) (hcd:(x == ("__classdict__":Str))=false:=by decide):PE X (.Name x pos) (e_A i):=by
 intro pins s Y H Q I h
 obtain ⟨v,e,h⟩:=h
 obtain ⟨m,hn,hl⟩:=I.loc
 obtain ⟨u,r,l⟩:=hl i x v hN e hv
 have fin:EP X pins Y Q u s:=⟨v,H,I,r,h⟩
 rcases l with ⟨hk,hm⟩ | ⟨hk,c,hc,hcell⟩
 ·exact wpAny_Name (wpAny_loadName_local I.ok.kind hk hn hm fin) hd
 ·rcases hk with hk | hk
  ·exact wpAny_Name (wpAny_loadName_cell I.ok.kind hk hc hcell fin) hd
  ·exact wpAny_Name (wpAny_loadName_free I.ok.kind hk hc hcell fin hcd) hd
theorem p_b {i j pos}:PE X (.Constant (.int i) j pos) (tC (.int i)):=fun _ _ _ H _ I h=>wpAny_Constant_int ⟨.int i,H,I.tok _,⟨_,rfl⟩,h⟩
theorem w_R {b j pos}:PE X (.Constant (.bool b) j pos) (tC (.bl b)):=fun _ _ _ H _ I h=>Constant_bool ⟨.bl b,H,I,rfl,h⟩
theorem q_1 {j pos}:PE X (.Constant .none j pos) (tC .non):=fun _ _ _ H _ I h=>Constant_none ⟨.non,H,I,rfl,h⟩
theorem r_g {x j pos}:PE X (.Constant (.str x) j pos) (tC (.str x)):=fun _ _ _ H _ I h=>Calls.Constant_str ⟨.str x,H,I.tok _,⟨_,rfl⟩,h⟩
def Gl (X:Cx) (x:Str):Prop:=X.env.kindOf x=some .globalImplicit
theorem g_V {E:Value->Shared->Prop} {pins:List (Addr × Obj)} {s:Shared} {Y:St} {H:Hp} {x:Str} {u:Value} {pos:Pos} {Q:Value->Shared->Prop} (I:Inv X pins Y H s) (hg:Gl X x) (hm:X.mg x=some u) (h:Q u s)
  (hd:(x == ("__debug__":Str))=false:=by decide):wpAny (model X.prog X.w) X.A (eval (.Name x pos) X.env) Q E s:=
 Calls.Name_function_global I.ok.kind hg (Calls.loadGlobal_global (by rw [I.ok.glob]; exact I.mod.glob.keeps I.bk) hm h) hd
theorem h_f {E:Value->Shared->Prop} {pins:List (Addr × Obj)} {s:Shared} {Y:St} {H:Hp} {x:Str} {u:Value} {pos:Pos} {Q:Value->Shared->Prop} (I:Inv X pins Y H s) (hg:Gl X x) (hm:X.mg x=none) (hv:bootBuiltins x=some u) (h:Q u s)
  (hn:x ≠ "__name__":=by decide) (hd:(x == ("__debug__":Str))=false:=by decide):wpAny (model X.prog X.w) X.A (eval (.Name x pos) X.env) Q E s:=by
 obtain ⟨mb,h1,h2⟩:=I.mod.blt
 exact Calls.Name_function_global I.ok.kind hg (Calls.loadGlobal_builtin (by rw [I.ok.glob]; exact I.mod.glob.keeps I.bk) hm (by rw [I.ok.blt]; exact h1.keeps I.bk) ((h2 x hn).trans hv) h) hd
theorem p_i {x:Str} {v:V} {u:Value} {pos:Pos} (hg:Gl X x) (hm:X.mg x=some u) (r:b_P v u) (hd:(x == ("__debug__":Str))=false:=by decide):PE X (.Name x pos) (tC v):=
 fun _ _ _ H _ I h=>g_V I hg hm ⟨v,H,I,r,h⟩ hd
theorem e_F {x:Str} {v:V} {u:Value} {pos:Pos} (hg:Gl X x) (hm:X.mg x=none) (hv:bootBuiltins x=some u) (r:b_P v u) (hn:x ≠ "__name__":=by decide) (hd:(x == ("__debug__":Str))=false:=by decide):PE X (.Name x pos) (tC v):=
 fun _ _ _ H _ I h=>h_f I hg hm hv ⟨v,H,I,r,h⟩ hn hd
variable {a b:Expr} {ta tb:TE} {pos:Pos}
def tB (t:TE):TT:=fun Y H Q=>t Y H fun x H1=>∃ c,x=.bl c/\Q c H1
theorem u_8 {e:Expr} {t:TE} (h:PE X e t) (he:∀ whole,isTrue e X.env whole=(do let v <-whole; standAt e.pos; holding [v] (truthy v)):=by intro _; rfl):PT X e (tB t):=by
 intro pins s Y H Q I hw
 refine isTrue_plain (thn (h pins s Y H _ I hw) fun v s1 ⟨x,H1,I1,r1,q1⟩=>?_) (he _)
 obtain ⟨d,rfl,q⟩:=q1
 cases r1
 exact wpAny_truthy_bool ⟨H1,I1,q⟩
variable {tA tB':TT} {rest:List Expr}
def y_A (t u:TT):TT:=fun Y H Q=>t Y H fun c H1=>if c=true then u Y H1 Q else Q false H1
def tOr (t u:TT):TT:=fun Y H Q=>t Y H fun c H1=>if c=true then Q true H1 else u Y H1 Q
def y_G (t:TT):TT:=fun Y H Q=>t Y H fun c H1=>Q (!c) H1
theorem s_M (ha:PT X a tA):PW X (.BoolOp .And [a] pos) tA:=by
 intro wh pins s Y H Q I h
 refine isTrue_and (thn (ha pins s Y H Q I h) fun c s1 e=>?_)
 cases c with
 | true=>exact isTrue_and_nil e
 | false=>exact e
theorem u_G (ha:PT X a tA):PW X (.BoolOp .Or [a] pos) tA:=by
 intro wh pins s Y H Q I h
 refine isTrue_or (thn (ha pins s Y H Q I h) fun c s1 e=>?_)
 cases c with
 | false=>exact isTrue_or_nil e
 | true=>exact e
theorem v_w (ha:PT X a tA) (hb:PW X (.BoolOp .And (b :: rest) pos) tB'):PW X (.BoolOp .And (a :: b :: rest) pos) (y_A tA tB'):=by
 intro wh pins s Y H Q I h
 refine isTrue_and (thn (ha pins s Y H _ I h) fun c s1 ⟨H1,I1,q1⟩=>?_)
 cases c with
 | true=>exact hb wh pins s1 Y H1 Q I1 q1
 | false=>exact ⟨H1,I1,q1⟩
theorem w_z (ha:PT X a tA) (hb:PW X (.BoolOp .Or (b :: rest) pos) tB'):PW X (.BoolOp .Or (a :: b :: rest) pos) (tOr tA tB'):=by
 intro wh pins s Y H Q I h
 refine isTrue_or (thn (ha pins s Y H _ I h) fun c s1 ⟨H1,I1,q1⟩=>?_)
 cases c with
 | true=>exact ⟨H1,I1,q1⟩
 | false=>exact hb wh pins s1 Y H1 Q I1 q1
theorem t_H (ha:PT X a tA):PT X (.UnaryOp .Not a pos) (y_G tA):=by
 intro pins s Y H Q I h
 exact isTrue_not (ha pins s Y H (fun c H1=>Q (!c) H1) I h)
def w_j (ta tb:TE):TE:=fun Y H Q=>ta Y H fun x H1=>∃ c,x=.bl c/\if c=true then tb Y H1 Q else Q (.bl false) H1
def y_z (ta tb:TE):TE:=fun Y H Q=>ta Y H fun x H1=>∃ c,x=.bl c/\if c=true then Q (.bl true) H1 else tb Y H1 Q
def v_0 (ta:TE):TE:=fun Y H Q=>ta Y H fun x H1=>∃ c,x=.bl c/\Q (.bl (!c)) H1
theorem u_h {op} {t:TE} (h:PE X a t):PE X (.BoolOp op [a] pos) t:=fun pins s Y H Q I hw=>BoolOp_one (h pins s Y H Q I hw)
theorem v_r (ha:PE X a ta) (hb:PE X (.BoolOp .And (b :: rest) pos) tb):PE X (.BoolOp .And (a :: b :: rest) pos) (w_j ta tb):=by
 intro pins s Y H Q I h
 refine BoolOp_and (thn (ha pins s Y H _ I h) fun v s1 ⟨x,H1,I1,r1,q1⟩=>?_)
 obtain ⟨c,rfl,q1⟩:=q1
 cases r1
 refine wpAny_truthy_bool ?_
 cases c with
 | true=>exact hb pins s1 Y H1 Q I1 q1
 | false=>exact ⟨.bl false,H1,I1,rfl,q1⟩
theorem w_E (ha:PE X a ta) (hb:PE X (.BoolOp .Or (b :: rest) pos) tb):PE X (.BoolOp .Or (a :: b :: rest) pos) (y_z ta tb):=by
 intro pins s Y H Q I h
 refine BoolOp_or (thn (ha pins s Y H _ I h) fun v s1 ⟨x,H1,I1,r1,q1⟩=>?_)
 obtain ⟨c,rfl,q1⟩:=q1
 cases r1
 refine wpAny_truthy_bool ?_
 cases c with
 | false=>exact hb pins s1 Y H1 Q I1 q1
 | true=>exact ⟨.bl true,H1,I1,rfl,q1⟩
theorem u_R (ha:PE X a ta):PE X (.UnaryOp .Not a pos) (v_0 ta):=by
 intro pins s Y H Q I h
 refine UnaryOp_ (thn (ha pins s Y H _ I h) fun v s1 ⟨x,H1,I1,r1,q1⟩=>?_)
 obtain ⟨c,rfl,q1⟩:=q1
 cases r1
 exact not_of (wpAny_truthy_bool ⟨.bl (!c),H1,I1,rfl,q1⟩)
def tIf (t:TT) (ta tb:TE):TE:=fun Y H Q=>t Y H fun c H1=>if c=true then ta Y H1 Q else tb Y H1 Q
theorem q_a {c:Expr} (hc:PT X c tA) (ha:PE X a ta) (hb:PE X b tb):PE X (.IfExp c a b pos) (tIf tA ta tb):=by
 intro pins s Y H Q I h
 refine wpAny_IfExp (thn (hc pins s Y H _ I h) fun d s1 ⟨H1,I1,q1⟩=>?_)
 cases d with
 | true=>exact ha pins s1 Y H1 Q I1 q1
 | false=>exact hb pins s1 Y H1 Q I1 q1
end
def SqL (K:PySem.W.Frag) (H:Hp) (a:Addr) (xs:List V):Prop:=
 Rd H a (.lst xs)\/
  ∃ (o:Obj) (its:Array Value) (n:Nat),K.lookup a=some o/\o.cls=.type "list"/\o.dict=none/\o.data=.seq its n/\its.size<=sizeLine/\b_y xs its.toList
def SqT (K:PySem.W.Frag) (H:Hp) (a:Addr) (xs:List V):Prop:=
 Rd H a (.tup xs)\/
  ∃ (o:Obj) (its:Array Value) (n:Nat),K.lookup a=some o/\o.cls=.type "tuple"/\o.data=.seq its n/\its.size<=sizeLine/\b_y xs its.toList
def z_d:Value->Option V
 | .none=>some .non
 | .bool b=>some (.bl b)
 | .int i _=>some (.int i)
 | .str x _=>some (.str x)
 | .bytes b _=>some (.byt b)
 | .float b _=>some (.flt b)
 | .ref a=>some (.ref a)
 | .type n=>some (.ty n)
 | _=>none
theorem b_P.abs {x:V} {u:Value} (r:b_P x u):z_d u=some x:=by
 cases x with
 | non=>cases r; rfl
 | bl _=>cases r; rfl
 | int _=>obtain ⟨t,rfl⟩:=r; rfl
 | str _=>obtain ⟨t,rfl⟩:=r; rfl
 | byt _=>obtain ⟨t,rfl⟩:=r; rfl
 | flt _=>obtain ⟨t,rfl⟩:=r; rfl
 | ref _=>cases r; rfl
 | ty _=>cases r; rfl
theorem b_P.inj {x y:V} {u:Value} (r:b_P x u) (q:b_P y u):x=y:=Option.some.inj (r.abs.symm.trans q.abs)
theorem b_y.inj:∀ {xs ys:List V} {us:List Value},b_y xs us->b_y ys us->xs=ys
 | _,_,_,.nil,.nil=>rfl
 | _,_,_,.cons r t,.cons r' t'=>by rw [r.inj r',b_y.inj t t']
section
variable {X:Cx} {pins:List (Addr × Obj)} {Y:St} {H:Hp} {s:Shared} {a:Addr} {xs ys:List V}
theorem SqL.of {K:PySem.W.Frag} (h:H a=some (.lst xs)):SqL K H a xs:=.inl (.inl h)
theorem SqT.of {K:PySem.W.Frag} (h:H a=some (.tup xs)):SqT K H a xs:=.inl (.inl h)
theorem Inv.list (I:Inv X pins Y H s) (h:SqL X.K H a xs):∃ its:List Value,b_y xs its/\PlainL s.heap a its.toArray/\xs.length<=sizeLine:=by
 rcases h with h | ⟨o,its,n,hk,hc,hd,hs,hz,r⟩
 ·obtain ⟨z,its,n,r,e⟩:=h.ok I.hok
  exact ⟨its,r,⟨_,n,e,rfl,rfl,rfl⟩,z⟩
 ·refine ⟨its.toList,r,⟨o,n,I.kIn a o hk,hc,hd,by simpa using hs⟩,?_⟩
  have e:=r.length
  simp only [Array.length_toList] at e
  omega
theorem Inv.tuple (I:Inv X pins Y H s) (h:SqT X.K H a xs):∃ its:List Value,b_y xs its/\IsTup s.heap a its.toArray/\xs.length<=sizeLine:=by
 rcases h with h | ⟨o,its,n,hk,hc,hs,hz,r⟩
 ·obtain ⟨z,its,r,p⟩:=h.ok I.hok
  exact ⟨its,r,p,z⟩
 ·refine ⟨its.toList,r,⟨o,I.kIn a o hk,hc,n,by simpa using hs⟩,?_⟩
  have e:=r.length
  simp only [Array.length_toList] at e
  omega
theorem Inv.list_inj (I:Inv X pins Y H s) (h:SqL X.K H a xs) (h':SqL X.K H a ys):xs=ys:=by
 obtain ⟨its,r,⟨o,n,e,_,_,d⟩,_⟩:=I.list h
 obtain ⟨its',r',⟨o',n',e',_,_,d'⟩,_⟩:=I.list h'
 rw [e] at e'; cases e'
 rw [d] at d'
 injection d' with d1 _
 have:its=its':=by simpa using congrArg Array.toList d1
 subst this
 exact r.inj r'
theorem Inv.tuple_inj (I:Inv X pins Y H s) (h:SqT X.K H a xs) (h':SqT X.K H a ys):xs=ys:=by
 obtain ⟨its,r,⟨o,e,_,n,d⟩,_⟩:=I.tuple h
 obtain ⟨its',r',⟨o',e',_,n',d'⟩,_⟩:=I.tuple h'
 rw [e] at e'; cases e'
 rw [d] at d'
 injection d' with d1 _
 have:its=its':=by simpa using congrArg Array.toList d1
 subst this
 exact r.inj r'
end
section
variable {X:Cx} {st:Stmt} {rest:List Stmt} {t u:TS} {e:Expr} {te:TE} {pos:Pos}
def x_c:TS:=fun D Y H=>D.nx Y H
def y_Y (t u:TS):TS:=fun D Y H=>t { D with nx:=u D } Y H
theorem r_W:PSs X [] x_c:=fun _ _ Y H _ I h=>wpAny_execs_nil ⟨Y,H,I,h⟩
theorem p_H (h1:PS X st t) (h2:PSs X rest u):PSs X (st :: rest) (y_Y t u):=by
 intro pins s Y H D I h
 refine wpAny_execs_cons (thn (h1 pins s Y H { D with nx:=u D } I h) fun f s1 q=>?_)
 cases f with
 | next=>
  obtain ⟨Y',H',I',q⟩:=q
  exact h2 pins s1 Y' H' D I' q
 | ret v=>exact q
 | brk=>exact q
 | cont=>exact q
theorem s_J (h1:PS X st t):PSs X [st] t:=by
 intro pins s Y H D I h
 refine wpAny_execs_cons (thn (h1 pins s Y H D I h) fun f s1 q=>?_)
 cases f with
 | next=>exact wpAny_execs_nil q
 | ret v=>exact q
 | brk=>exact q
 | cont=>exact q
def u_y:TS:=fun D Y H=>D.bk Y H
theorem p_7:PS X (.Break pos) u_y:=fun _ _ Y H _ I h=>wpAny_Break ⟨Y,H,I,h⟩
theorem Inv.quiet {pins:List (Addr × Obj)} {Y:St} {H:Hp} {s:Shared} (I:Inv X pins Y H s):interactive X.env=false:=by simp [interactive,I.ok.kind]
def w_I (te:TE):TS:=fun D Y H=>te Y H fun _ H1=>D.nx Y H1
theorem j_0 (he:PE X e te) (hs:swapsWith e none pos.line X.env=pure false:=by rfl):PS X (.Expr e pos) (w_I te):=by
 intro pins s Y H D I h
 exact wpAny_Expr_any (thn (he pins s Y H _ I h) fun v s1 ⟨x,H1,I1,r1,q1⟩=>⟨Y,H1,I1,q1⟩) I.quiet hs
def y_6 (te:TE):TS:=fun D Y H=>te Y H D.rt
theorem p_j (he:PE X e te):PS X (.Return (some e) pos) (y_6 te):=by
 intro pins s Y H D I h
 exact wpAny_Return_some (thn (he pins s Y H _ I h) fun v s1 ⟨x,H1,I1,r1,q1⟩=>⟨x,Y,H1,I1,r1,q1⟩)
def y_I (c:TT) (t u:TS):TS:=fun D Y H=>c Y H fun b H1=>if b=true then t D Y H1 else u D Y H1
theorem w_8 {c:Expr} {a b:List Stmt} {tc:TT} (hc:PT X c tc) (ha:PSs X a t) (hb:PSs X b u):PS X (.If c a b pos) (y_I tc t u):=by
 intro pins s Y H D I h
 refine wpAny_If (thn (hc pins s Y H _ I h) fun d s1 ⟨H1,I1,q1⟩=>?_)
 cases d with
 | true=>exact ha pins s1 Y H1 D I1 q1
 | false=>exact hb pins s1 Y H1 D I1 q1
end
abbrev TG:=V->St->Hp->(St->Hp->Prop)->Prop
abbrev TGs:=List V->St->Hp->(St->Hp->Prop)->Prop
def PG (X:Cx) (target:Expr) (t:TG):Prop:=
 ∀ (pins:List (Addr × Obj)) (s:Shared) (Y:St) (H:Hp) (v:V) (u:Value) (Q:St->Hp->Prop),Inv X pins Y H s->b_P v u->t v Y H Q->
  wpAny (model X.prog X.w) X.A (assign target X.env u) (fun _ s'=>∃ Y' H',Inv X pins Y' H' s'/\Q Y' H') X.xe s
def PGs (X:Cx) (ts:List Expr) (t:TGs):Prop:=
 ∀ (pins:List (Addr × Obj)) (s:Shared) (Y:St) (H:Hp) (vs:List V) (us:List Value) (Q:St->Hp->Prop),Inv X pins Y H s->b_y vs us->t vs Y H Q->
  wpAny (model X.prog X.w) X.A (assignInOrder ((assignEach ts X.env).map (·.2)) us) (fun _ s'=>∃ Y' H',Inv X pins Y' H' s'/\Q Y' H') X.xe s
abbrev w_l:=V->V->V->Hp->(Hp->Prop)->Prop
def x_A (X:Cx) (t:w_l):Prop:=
 ∀ (pins:List (Addr × Obj)) (s:Shared) (Y:St) (H:Hp) (o i v:V) (ov iv u:Value) (Q:Hp->Prop),Inv X pins Y H s->b_P o ov->b_P i iv->b_P v u->t o i v H Q->
  wpAny (model X.prog X.w) X.A (setItem ov iv u) (fun _ s'=>∃ H',Inv X pins Y H' s'/\Q H') X.xe s
section
variable {X:Cx} {pos:Pos}
def q_s (i:Nat):TG:=fun v Y H Q=>Q (Y.set i (some v)) H
theorem r_2 {i:Nat} {x:Str} (hN:X.N.Nodup) (hi:X.N[i]? = some x) (hx:Loc X.env.scope x) (hf:X.fn x=true\/X.env.scope.names.lookup x=some .local:=by first | exact .inl rfl | exact .inr rfl | assumption):PG X (.Name x pos) (q_s i):=by
 intro pins s Y H v u Q I r h
 exact wpAny_assign_Name (j_l I hN hi hx r (fun s' I'=>⟨_,H,I',h⟩) hf)
def y_2:TGs:=fun vs Y H Q=>vs=[]/\Q Y H
def v_3 (t:TG) (u:TGs):TGs:=fun vs Y H Q=>∃ v r,vs=v :: r/\t v Y H fun Y' H'=>u r Y' H' Q
theorem s_5:PGs X [] y_2:=by
 intro pins s Y H vs us Q I r h
 obtain ⟨e,h⟩:=h
 subst e
 cases r
 exact assignInOrder_nil ⟨Y,H,I,h⟩
theorem p_G {e:Expr} {es:List Expr} {t:TG} {u:TGs} (h1:PG X e t) (h2:PGs X es u)
  (hs:(assignEach (e :: es) X.env).map (·.2)=assign e X.env :: (assignEach es X.env).map (·.2):=by rfl):PGs X (e :: es) (v_3 t u):=by
 intro pins s Y H vs us Q I r h
 obtain ⟨v,vr,e1,h⟩:=h
 subst e1
 cases r with
 | cons r rr=>
  rw [hs]
  refine assignInOrder_cons (thn (h1 pins s Y H _ _ _ I r h) fun _ s1 ⟨Y1,H1,I1,q1⟩=>?_)
  exact h2 pins s1 Y1 H1 _ _ Q I1 rr q1
def y_W (K:PySem.W.Frag) (n:Nat) (t:TGs):TG:=fun v Y H Q=>∃ a xs,v=.ref a/\SqT K H a xs/\xs.length=n/\t xs Y H Q
theorem u_J {es:List Expr} {k:Nat} {t:TGs} {n:Nat} (hc:X.calm=true) (h:PGs X es t)
  (hn:(assignEach es X.env).length=n:=by rfl) (hst:(assignEach es X.env).findIdx? (·.1)=none:=by rfl):PG X (.Tuple es k pos) (y_W X.K n t):=by
 intro pins s Y H v u Q I r hw
 obtain ⟨a,xs,e1,hq,hl,hw⟩:=hw
 subst e1
 cases r
 obtain ⟨its,rv,ht,hz⟩:=I.tuple hq
 refine assign_Tuple_tuple (I.ok.hd hc) ht (by simp [hn,<-hl,rv.length]) hst fun h' hx=>?_
 have I1:Inv X pins Y H { s with heap:=h' }:=I.kept (t':=s.toks) fun b o e=>hx b o (Nat.ne_of_lt (Heap.lt_size e)) e
 exact h pins _ Y H xs _ Q I1 (by simpa using rv) hw
def p_q (to ti:TE) (t:w_l):TG:=fun v Y H Q=>to Y H fun o H1=>ti Y H1 fun i H2=>t o i v H2 fun H3=>Q Y H3
theorem v_h {o i:Expr} {to ti:TE} {t:w_l} (ho:PE X o to) (hi:PE X i ti) (hs:x_A X t)
  (ha:∀ v,assign (.Subscript o i pos) X.env v=(do
   let ov <-holding [v] (eval o X.env)
   let iv <-holding [v,ov] (eval i X.env)
   standAt pos
   holding [v,ov,iv] (setItem ov iv v)
   release [v,ov,iv] []):=by intro _; rfl):PG X (.Subscript o i pos) (p_q to ti t):=by
 intro pins s Y H v u Q I r h
 rw [ha]
 refine wpAny_bind (wpAny_holding (thn (ho pins s Y H _ I h) fun ov s1 ⟨x,H1,I1,r1,q1⟩=>?_))
 refine wpAny_bind (wpAny_holding (thn (hi pins s1 Y H1 _ I1 q1) fun iv s2 ⟨y,H2,I2,r2,q2⟩=>?_))
 refine wpAny_bind (wpAny_standAt (wpAny_bind (wpAny_holding (thn (hs pins s2 Y H2 x y v ov iv u _ I2 r1 r2 r q2) fun _ s3 ⟨H3,I3,q3⟩=>?_))))
 exact wpAny_release ⟨Y,H3,I3,q3⟩
def x_q (te:TE) (g:TG):TS:=fun D Y H=>te Y H fun x H1=>g x Y H1 D.nx
theorem u_I {tg e:Expr} {te:TE} {g:TG} (he:PE X e te) (hg:PG X tg g) (hs:swapsWithSole [tg] e pos.line X.env=pure false:=by rfl) (hw:swappedStores [tg] e X.env=pure none:=by rfl)
  (h1:(assignEach [tg] X.env).map (·.2)=[assign tg X.env]:=by rfl):PS X (.Assign [tg] e pos) (x_q te g):=by
 intro pins s Y H D I h
 refine wpAny_Assign_stores (thn (he pins s Y H _ I h) fun v s1 ⟨x,H1,I1,r1,q1⟩=>?_) hs hw
 rw [h1]
 exact thn (hg pins s1 Y H1 x v _ I1 r1 q1) fun _ s2 q=>q
theorem q_5 {i:Nat} {x:Str} {e:Expr} {te:TE} {pos':Pos} (hN:X.N.Nodup) (hi:X.N[i]? = some x) (hx:Loc X.env.scope x) (he:PE X e te) (hs:swapsWith e (some (.Name x pos')) pos.line X.env=pure false:=by rfl) (hf:X.fn x=true\/X.env.scope.names.lookup x=some .local:=by first | exact .inl rfl | exact .inr rfl | assumption) :
  PS X (.Assign [.Name x pos'] e pos) (x_q te (q_s i)):=by
 intro pins s Y H D I h
 refine wpAny_Assign_Name (thn (he pins s Y H _ I h) fun v s1 ⟨y,H1,I1,r1,q1⟩=>?_) hs
 exact j_l I1 hN hi hx r1 (fun s2 I2=>⟨_,H1,I2,q1⟩) hf
end
section
variable {X:Cx} {pos:Pos}
def v_v (c:TT) (tb:TS):TS:=fun D Y H=>∃ W:Nat->St->Hp->Prop,(∃ m,W m Y H)/\∀ m Y H,W m Y H->
 c Y H fun b H1=>if b=true then ∃ N:St->Hp->Prop,(∀ Y' H',N Y' H'->∃ m',m' < m/\W m' Y' H')/\tb { D with nx:=N,ct:=N,bk:=D.nx } Y H1 else D.nx Y H1
theorem p_u {c:Expr} {body:List Stmt} {tc:TT} {tb:TS} (hp:PassesOwn (model X.prog X.w) X.A X.env X.xe) (hc:PT X c tc) (hb:PSs X body tb):PS X (.While c body [] pos) (v_v tc tb):=by
 intro pins s Y H D I h
 obtain ⟨W,⟨m0,w0⟩,turn⟩:=h
 refine wpAny_While (codeAny_whileLoop (fun n s'=>∃ Y' H',Inv X pins Y' H' s'/\W n Y' H') ?_ m0 ⟨Y,H,I,w0⟩)
 rintro n s1 ⟨Y1,H1,I1,w1⟩
 refine wpAny_passesOwn hp (thn (hc pins s1 Y1 H1 _ I1 (turn n Y1 H1 w1)) fun b s2 ⟨H2,I2,q2⟩=>?_)
 cases b with
 | true=>
  obtain ⟨N,hN,q2⟩:=q2
  rw [if_pos rfl]
  refine wpAny_passesOwn hp (thn (hb pins s2 Y1 H2 _ I2 q2) fun f s3 q3=>?_)
  cases f with
  | next=>
   obtain ⟨Y3,H3,I3,n3⟩:=q3
   obtain ⟨m',hm,w3⟩:=hN Y3 H3 n3
   exact ⟨m',hm,Y3,H3,I3,w3⟩
  | cont=>
   obtain ⟨Y3,H3,I3,n3⟩:=q3
   obtain ⟨m',hm,w3⟩:=hN Y3 H3 n3
   exact ⟨m',hm,Y3,H3,I3,w3⟩
  | brk=>exact q3
  | ret v=>exact q3
 | false=>
  rw [if_neg Bool.false_ne_true]
  exact wpAny_execs_nil ⟨Y1,H2,I2,q2⟩
end
structure It where
 go:Nat->Hp->Prop
 yld:Nat->Hp->V->Hp->Prop
 stop:Nat->Hp->Prop
def n_t (X:Cx) (pins:List (Addr × Obj)) (H:Hp) (b:Addr):Prop:=
 H b=none/\b ≠ X.env.locals/\b ∉ X.fs/\(b ∈ X.ex\/X.s₀.heap.objs.size<=b)/\(∀ x c,X.env.cells.lookup x=some c->c ≠ b)/\∀ p ∈ X.pn ++ pins,p.1 ≠ b
theorem Inv.fpOk {X:Cx} {pins:List (Addr × Obj)} {Y:St} {H H':Hp} {s:Shared} {b:Addr} (I:Inv X pins Y H s) (hb:s.heap.objs.size<=b) (hn:H' b=none):n_t X pins H' b:=by
 refine ⟨hn,Nat.ne_of_gt (Nat.lt_of_lt_of_le I.lt hb),I.nofs hb,.inr (Nat.le_trans I.sz hb),fun x c e z=>?_,fun p hp z=>?_⟩
 ·obtain ⟨v,q⟩:=I.cell x c e
  exact absurd (Nat.lt_of_lt_of_le q.lt (by rw [z]; exact hb)) (Nat.lt_irrefl _)
 ·exact absurd (Nat.lt_of_lt_of_le (Heap.lt_size (I.pin p hp).1) (by rw [z]; exact hb)) (Nat.lt_irrefl _)
structure Turn (P:Program) (w:World) (K:PySem.W.Frag) (tg:Expr) (J:It) (fp:List Addr) (it:Addr) (tn:Nat->Heap->Prop):Prop where
 mem:it ∈ fp
 obj:∀ i h,tn i h->∀ b ∈ fp,∃ o,h.get? b=some o/\∀ v,o.data ≠ .cell v
 keep:∀ i h h',tn i h->(∀ b ∈ fp,∀ o,h.get? b=some o->h'.get? b=some o)->tn i h'
 item:∀ (X:Cx),X.prog=P->X.w=w->X.K=K->X.calm=true->∀ (i:Nat) (pins:List (Addr × Obj)) (s:Shared) (Y:St) (H:Hp) (E:Value->Shared->Prop),Inv X pins Y H s->(∀ b ∈ fp,n_t X pins H b)->tn i s.heap->J.go i H->
  wpAny (model P w) X.A (pyNext (.ref it)) (fun r s1=>∃ u,r=some u/\
   wpAny (model P w) X.A (letOwnedTupleGo tg (.ref it) u) (fun _ s2=>∃ x H',Inv X pins Y H' s2/\b_P x u/\J.yld i H x H'/\tn (i + 1) s2.heap/\∀ b ∈ fp,H' b=none) E s1) E s
 done:∀ (X:Cx),X.prog=P->X.w=w->X.K=K->X.calm=true->∀ (i:Nat) (pins:List (Addr × Obj)) (s:Shared) (Y:St) (H:Hp) (E:Value->Shared->Prop),Inv X pins Y H s->(∀ b ∈ fp,n_t X pins H b)->tn i s.heap->J.stop i H->
  wpAny (model P w) X.A (pyNext (.ref it)) (fun r s1=>r=none/\Inv X pins Y H s1) E s
 self:∀ (A:Around) (i:Nat) (s:Shared) (Q:Value->Shared->Prop) (E:Value->Shared->Prop),tn i s.heap->Q (.ref it) s->wpAny (model P w) A (pyIter (.ref it)) Q E s
abbrev TI:=St->Hp->(It->Hp->Prop)->Prop
def PIE (X:Cx) (pins:List (Addr × Obj)) (Y:St) (tg:Expr) (R:It->Hp->Prop) (itv:Value) (s2:Shared):Prop:=
 ∃ (it:Addr) (fp:List Addr) (tn:Nat->Heap->Prop) (J:It) (H':Hp),itv=.ref it/\Inv X pins Y H' s2/\Turn X.prog X.w X.K tg J fp it tn/\tn 0 s2.heap/\(∀ b ∈ fp,n_t X pins H' b)/\R J H'
def PI (X:Cx) (tg iter:Expr) (wi:TI):Prop:=
 ∀ (pins:List (Addr × Obj)) (s:Shared) (Y:St) (H:Hp) (R:It->Hp->Prop),Inv X pins Y H s->wi Y H R->
  wpAny (model X.prog X.w) X.A (eval iter X.env) (fun v s1=>wpAny (model X.prog X.w) X.A (pyIter v) (PIE X pins Y tg R) X.xe s1) X.xe s
theorem r_4 {M:Model} {A:Around} {E:Value->Shared->Prop} {s:Shared} {tg:Expr} {it:Addr} {u:Value} {o:Obj} {n:String} {vs:Array Value} {Q:Unit->Shared->Prop} (ho:s.heap.get? it=some o) (hc:o.cls=.type n) (hd:o.data=.fields vs)
    (hn:["enumerate","zip","dict_itemiterator","dict_reverseitemiterator","odict_iterator","itertools.zip_longest","itertools.pairwise"].contains n=false) (hQ:Q () s):wpAny M A (letOwnedTupleGo tg (.ref it) u) Q E s:=by
  unfold letOwnedTupleGo
  cases tg <;> first
    | exact wpAny_pure hQ
    | (cases u <;> first
        | exact wpAny_pure hQ
        | (refine wpAny_bind (wpAny_load ho ?_)
           rw [hc,hd]
           show wpAny M A (if (["enumerate","zip","dict_itemiterator","dict_reverseitemiterator","odict_iterator","itertools.zip_longest","itertools.pairwise"].contains n && vs[0]? == some (rawInt _))=true then _ else _) Q E s
           rw [if_neg (by intro h; rw [hn,Bool.false_and] at h; cases h)]
           exact wpAny_pure hQ))
def Itl (K:PySem.W.Frag) (a:Addr):It:=
 ⟨fun i H=>∃ xs x,SqL K H a xs/\xs[i]? = some x,fun i H x H'=>H' = H/\∀ xs,SqL K H a xs->xs[i]? = some x,fun i H=>∃ xs,SqL K H a xs/\xs.length<=i⟩
def Itt (K:PySem.W.Frag) (a:Addr):It:=
 ⟨fun i H=>∃ xs x,SqT K H a xs/\xs[i]? = some x,fun i H x H'=>H' = H/\∀ xs,SqT K H a xs->xs[i]? = some x,fun i H=>∃ xs,SqT K H a xs/\xs.length<=i⟩
def Itr (lo:Int) (n:Nat):It:=⟨fun i _=>i < n,fun i H x H'=>H' = H/\x=.int (lo + i),fun i _=>n<=i⟩
theorem o_Q {P:Program} {w:World} {K:PySem.W.Frag} {tg:Expr} (a it:Addr):Turn P w K tg (Itl K a) [it] it (fun i h=>h.IsListIter it a i) where
 mem:=by simp
 obj:=fun i h st b hb=>by
  have e:b=it:=by simpa using hb
  subst e
  obtain ⟨o,e,c,d⟩:=st
  exact ⟨o,e,fun v z=>by rw [d] at z; cases z⟩
 keep:=fun i h h' st k=>st.at fun o e=>k it (by simp) o e
 item:=by
  intro X hP hw hK hc i pins s Y H E I hf st hg
  subst hP hw hK
  obtain ⟨xs,x,hq,hx⟩:=hg
  obtain ⟨its,rv,p,hz⟩:=I.list hq
  obtain ⟨u,hu,ru⟩:=rv.get hx
  obtain ⟨f0,f1,f2,f3,f4,f5⟩:=hf it (by simp)
  refine wpAny_pyNext_list_item st p.isList (x:=u) (by simpa using hu) fun h' st' sb=>?_
  have I1:Inv X pins Y H { s with heap:=h' }:=I.turned (t':=s.toks) (fun b o hb e=>(sb.2 b hb).trans e) f0 f1 f3 f4 f5
  obtain ⟨o,e,c,d⟩:=id st'
  exact ⟨u,rfl,r_4 (s:={ s with heap:=h' }) e c d (by decide) ⟨x,H,I1,ru,⟨rfl,fun ys hy=>by rw [I.list_inj hy hq]; exact hx⟩,st',fun b hb=>(hf b hb).1⟩⟩
 done:=by
  intro X hP hw hK hc i pins s Y H E I hf st hg
  subst hP hw hK
  obtain ⟨xs,hq,hx⟩:=hg
  obtain ⟨its,rv,p,hz⟩:=I.list hq
  obtain ⟨f0,f1,f2,f3,f4,f5⟩:=hf it (by simp)
  have hl:=rv.length
  exact wpAny_pyNext_list_end (I.ok.hd hc) st p.isList (by simp; omega) fun h' eb=>⟨rfl,I.turned (t':=s.toks) (fun b o hb e=>eb b o hb e) f0 f1 f3 f4 f5⟩
 self:=fun _ _ _ _ _ st h=>wpAny_pyIter_listiter st h
theorem n_m {P:Program} {w:World} {K:PySem.W.Frag} {tg:Expr} (a it:Addr):Turn P w K tg (Itt K a) [it] it (fun i h=>h.IsTupleIter it a i) where
 mem:=by simp
 obj:=fun i h st b hb=>by
  have e:b=it:=by simpa using hb
  subst e
  obtain ⟨o,e,c,d⟩:=st
  exact ⟨o,e,fun v z=>by rw [d] at z; cases z⟩
 keep:=fun i h h' st k=>st.at fun o e=>k it (by simp) o e
 item:=by
  intro X hP hw hK hc i pins s Y H E I hf st hg
  subst hP hw hK
  obtain ⟨xs,x,hq,hx⟩:=hg
  obtain ⟨its,rv,p,hz⟩:=I.tuple hq
  obtain ⟨u,hu,ru⟩:=rv.get hx
  obtain ⟨f0,f1,f2,f3,f4,f5⟩:=hf it (by simp)
  refine wpAny_pyNext_tuple_item st (show s.heap.IsTuple a its.toArray from p) (x:=u) (by simpa using hu) fun h' st' sb=>?_
  have I1:Inv X pins Y H { s with heap:=h' }:=I.turned (t':=s.toks) (fun b o hb e=>(sb.2 b hb).trans e) f0 f1 f3 f4 f5
  obtain ⟨o,e,c,d⟩:=id st'
  exact ⟨u,rfl,r_4 (s:={ s with heap:=h' }) e c d (by decide) ⟨x,H,I1,ru,⟨rfl,fun ys hy=>by rw [I.tuple_inj hy hq]; exact hx⟩,st',fun b hb=>(hf b hb).1⟩⟩
 done:=by
  intro X hP hw hK hc i pins s Y H E I hf st hg
  subst hP hw hK
  obtain ⟨xs,hq,hx⟩:=hg
  obtain ⟨its,rv,p,hz⟩:=I.tuple hq
  obtain ⟨f0,f1,f2,f3,f4,f5⟩:=hf it (by simp)
  have hl:=rv.length
  exact wpAny_pyNext_tuple_end (I.ok.hd hc) st (show s.heap.IsTuple a its.toArray from p) (by simp; omega) fun h' eb=>⟨rfl,I.turned (t':=s.toks) (fun b o hb e=>eb b o hb e) f0 f1 f3 f4 f5⟩
 self:=fun _ _ _ _ _ st h=>wpAny_pyIter_tupleiter st h
theorem n_p {P:Program} {w:World} {K:PySem.W.Frag} {tg:Expr} (it:Addr) (lo:Int) (n:Nat):Turn P w K tg (Itr lo n) [it] it (fun i h=>IsRangeIter h it (lo + (i:Nat) * 1) ((n:Int) - (i:Nat)) 1) where
 mem:=by simp
 obj:=fun i h st b hb=>by
  have e:b=it:=by simpa using hb
  subst e
  exact ⟨_,st,fun v z=>by
   have z':Data.fields _=Data.cell v:=z
   cases z'⟩
 keep:=fun i h h' st k=>k it (by simp) _ st
 item:=by
  intro X hP hw hK hc i pins s Y H E I hf st hg
  subst hP hw hK
  obtain ⟨f0,f1,f2,f3,f4,f5⟩:=hf it (by simp)
  have W:=Walks.range (prog:=X.prog) (w:=X.w) (I.ok.hd hc) it lo 1 n
  refine W.item i s _ _ hg st fun v h' tk hv st' kk=>?_
  obtain ⟨t,rfl⟩:=hv
  have I1:Inv X pins Y H { s with heap:=h',toks:=tk }:=I.turned (fun b o hb e=>kk b o (by simpa using hb) e) f0 f1 f3 f4 f5
  refine ⟨_,rfl,r_4 (s:={ s with heap:=h',toks:=tk }) (n:="range_iterator") st' rfl rfl (by decide) ⟨.int (lo + i),H,I1,⟨t,?_⟩,⟨rfl,rfl⟩,st',fun b hb=>(hf b hb).1⟩⟩
  rw [Int.mul_one]
 done:=by
  intro X hP hw hK hc i pins s Y H E I hf st hg
  subst hP hw hK
  obtain ⟨f0,f1,f2,f3,f4,f5⟩:=hf it (by simp)
  exact wpAny_pyNext_range_end (I.ok.hd hc) st (by have:n<=i:=hg; omega) fun h' eb=>⟨rfl,I.turned (t':=s.toks) (fun b o hb e=>eb b o hb e) f0 f1 f3 f4 f5⟩
 self:=fun _ _ _ _ _ st h=>wpAny_pyIter_rangeiter st h
section
variable {X:Cx} {tg:Expr}
def x_b (K:PySem.W.Frag) (tl:TE):TI:=fun Y H R=>tl Y H fun x H1=>∃ a,x=.ref a/\(∃ xs,SqL K H1 a xs)/\R (Itl K a) H1
def y_S (K:PySem.W.Frag) (tl:TE):TI:=fun Y H R=>tl Y H fun x H1=>∃ a,x=.ref a/\(∃ xs,SqT K H1 a xs)/\R (Itt K a) H1
theorem r_H {l:Expr} {tl:TE} (hl:PE X l tl):PI X tg l (x_b X.K tl):=by
 intro pins s Y H R I h
 refine thn (hl pins s Y H _ I h) fun v s1 ⟨x,H1,I1,r1,q1⟩=>?_
 obtain ⟨a,e,⟨xs,hq⟩,q⟩:=q1
 subst e
 cases r1
 obtain ⟨its,rv,p,hz⟩:=I1.list hq
 refine wpAny_pyIter_list p.isList ?_
 refine ⟨s1.heap.objs.size,[s1.heap.objs.size],_,_,H1,rfl,I1.kept (t':=s1.toks) fun b o e=>Heap.get?_push_of_some _ e,o_Q a _,⟨_,Heap.get?_push_size _ rfl,rfl,rfl⟩,fun b hb=>?_,q⟩
 have e:b=s1.heap.objs.size:=by simpa using hb
 subst e
 exact I1.fpOk (Nat.le_refl _) (I1.hok.fresh (Nat.le_refl _))
theorem u_r {l:Expr} {tl:TE} (hl:PE X l tl):PI X tg l (y_S X.K tl):=by
 intro pins s Y H R I h
 refine thn (hl pins s Y H _ I h) fun v s1 ⟨x,H1,I1,r1,q1⟩=>?_
 obtain ⟨a,e,⟨xs,hq⟩,q⟩:=q1
 subst e
 cases r1
 obtain ⟨its,rv,p,hz⟩:=I1.tuple hq
 refine wpAny_pyIter_tuple (show s1.heap.IsTuple a its.toArray from p) ?_
 refine ⟨s1.heap.objs.size,[s1.heap.objs.size],_,_,H1,rfl,I1.kept (t':=s1.toks) fun b o e=>Heap.get?_push_of_some _ e,n_m a _,⟨_,Heap.get?_push_size _ rfl,rfl,rfl⟩,fun b hb=>?_,q⟩
 have e:b=s1.heap.objs.size:=by simpa using hb
 subst e
 exact I1.fpOk (Nat.le_refl _) (I1.hok.fresh (Nat.le_refl _))
theorem p_5 {pins:List (Addr × Obj)} {Y:St} {H:Hp} {s:Shared} {R:It->Hp->Prop} {E:Value->Shared->Prop} {lo hi:Int} {t u v:Tok} {tk:Nat} (I:Inv X pins Y H s) (h1:-(2 ^ 62)<=lo) (h2:lo < 2 ^ 62) (h3:-(2 ^ 62)<=hi) (h4:hi < 2 ^ 62)
  (q:R (Itr lo (hi - lo).toNat) H):wpAny (model X.prog X.w) X.A (pyIter (.ref s.heap.objs.size)) (PIE X pins Y tg R) E { s with heap:=s.heap.push { cls:=.type "range",data:=.fields #[.int lo t,.int hi u,.int 1 v] },toks:=tk }:=by
 refine wpAny_pyIter_range (IsRange.new ..) (small_one h1 h2 h3 h4) ?_
 have I1:Inv X pins Y H { s with heap:=s.heap.push { cls:=.type "range",data:=.fields #[.int lo t,.int hi u,.int 1 v] },toks:=tk }:=I.kept fun b o e=>Heap.get?_push_of_some _ e
 refine ⟨(s.heap.push { cls:=.type "range",data:=.fields #[.int lo t,.int hi u,.int 1 v] }).objs.size,[(s.heap.push { cls:=.type "range",data:=.fields #[.int lo t,.int hi u,.int 1 v] }).objs.size],_,_,H,rfl,
  I1.kept (t':=tk) fun b o e=>Heap.get?_push_of_some _ e,n_p _ lo (hi - lo).toNat,?_,fun b hb=>?_,q⟩
 ·have e1:lo + ((0:Nat):Int) * 1=lo:=by simp
  have e2:(((hi - lo).toNat:Nat):Int) - ((0:Nat):Int)=Builtin.Range.rangeSize lo hi 1:=by rw [rangeSize_one]; split <;> omega
  show IsRangeIter _ _ (lo + ((0:Nat):Int) * 1) ((((hi - lo).toNat:Nat):Int) - ((0:Nat):Int)) 1
  rw [e1,e2]
  exact Heap.get?_push_size _ rfl
 ·have e:b=(s.heap.push { cls:=.type "range",data:=.fields #[.int lo t,.int hi u,.int 1 v] }).objs.size:=by simpa using hb
  subst e
  exact I1.fpOk (Nat.le_refl _) (I1.hok.fresh (Nat.le_refl _))
def w_9 (ta:TA):TI:=fun Y H R=>ta Y H fun vs H1=>∃ j:Int,vs=[.int j]/\-(2 ^ 62)<=j/\j < 2 ^ 62/\R (Itr 0 j.toNat) H1
theorem n_8 {a:Expr} {ta:TA} {p pos:Pos} (hg:Gl X "range") (hm:X.mg "range" = none) (ha:PA X [a] ta) (hs:starEach [a] X.env=[(false,eval a X.env)]:=by rfl):PI X tg (.Call (.Name "range" p) [a] [] pos) (w_9 ta):=by
 intro pins s Y H R I h
 refine Call_ (h_f I hg hm boot_range (PyProof.Rows.callWith_type1 (thn (ha pos pins s Y H _ I h) fun us s1 ⟨vs,H1,I1,r1,q1⟩=>?_) hs rfl))
 obtain ⟨j,e,q1,q2,q⟩:=q1
 subst e
 cases r1 with
 | cons r rr=>
  cases rr
  obtain ⟨t,rfl⟩:=r
  exact call_range_1 (p_5 I1 (by omega) (by omega) q1 q2 (by simpa using q))
def y_r (wi:TI) (g:TG) (tb:TS):TS:=fun D Y H=>wi Y H fun J H1=>∃ W:Nat->Nat->St->Hp->Prop,(∃ m,W 0 m Y H1)/\∀ i m Y H,W i m Y H->
 (J.stop i H/\D.nx Y H)\/(J.go i H/\∃ N:St->Hp->Prop,(∀ Y' H',N Y' H'->∃ m',m' < m/\W (i + 1) m' Y' H')/\∀ x H',J.yld i H x H'->g x Y H' fun Y2 H2=>tb { D with nx:=N,ct:=N,bk:=D.nx } Y2 H2)
def k_o (fp:List Addr) (h:Heap):List (Addr × Obj):=fp.filterMap fun b=>(h.get? b).map fun o=>(b,o)
theorem f_t {fp:List Addr} {h:Heap} {b:Addr} {o:Obj} (hb:b ∈ fp) (e:h.get? b=some o):(b,o) ∈ k_o fp h:=List.mem_filterMap.mpr ⟨b,hb,by rw [e]; rfl⟩
theorem n_4 {fp:List Addr} {h:Heap} {p:Addr × Obj} (hp:p ∈ k_o fp h):p.1 ∈ fp/\h.get? p.1=some p.2:=by
 obtain ⟨b,hb,e⟩:=List.mem_filterMap.mp hp
 cases q:h.get? b with
 | none=>rw [q] at e; cases e
 | some o=>
  rw [q] at e
  have e':(b,o)=p:=Option.some.inj e
  subst e'
  exact ⟨hb,q⟩
theorem Inv.pinned {pins:List (Addr × Obj)} {Y:St} {H:Hp} {s:Shared} {fp:List Addr} (I:Inv X pins Y H s) (hf:∀ b ∈ fp,n_t X pins H b) (ho:∀ b ∈ fp,∃ o,s.heap.get? b=some o/\∀ v,o.data ≠ .cell v):Inv X (pins ++ k_o fp s.heap) Y H s:=
 I.pins_of fun p hp=>(List.mem_append.mp hp).elim (fun z=>I.pin p (List.mem_append_right _ z)) fun z=>by
  obtain ⟨hb,e⟩:=n_4 z
  obtain ⟨f0,f1,f2,_⟩:=hf p.1 hb
  obtain ⟨o,e',d⟩:=ho p.1 hb
  rw [e] at e'; cases e'
  exact ⟨e,f0,f1,f2,d⟩
theorem Inv.unpinned {pins pl:List (Addr × Obj)} {Y:St} {H:Hp} {s:Shared} (I:Inv X (pins ++ pl) Y H s):Inv X pins Y H s:=I.pins_of fun p hp=>I.pin p (List.mem_append_right _ (List.mem_append_left _ hp))
theorem t_m {iter:Expr} {body:List Stmt} {wi:TI} {g:TG} {tb:TS} {pos:Pos} (hp:PassesOwn (model X.prog X.w) X.A X.env X.xe) (hc:X.calm=true) (hi:PI X tg iter wi) (hg:PG X tg g) (hb:PSs X body tb)
  (hs:∀ x,foldedSetIterable iter X.env x=pure x:=by intro _; rfl):PS X (.For tg iter body [] pos) (y_r wi g tb):=by
 intro pins s Y H D I h
 refine wpAny_For (thn (hi pins s Y H _ I h) fun v s1 h1=>thn h1 fun itv s2 h2=>?_) hs
 obtain ⟨it,fp,tn,J,H2,e,I2,T,st2,f2,W,⟨m0,w0⟩,turn⟩:=h2
 subst e
 have stat:∀ {H':Hp},(∀ b ∈ fp,H' b=none)->∀ b ∈ fp,n_t X pins H' b:=fun hn b hb=>⟨hn b hb,(f2 b hb).2⟩
 refine codeAny_forLoop_any (fun n s'=>∃ i Y' H',Inv X pins Y' H' s'/\tn i s'.heap/\(∀ b ∈ fp,H' b=none)/\W i n Y' H') ?_ m0 ⟨0,Y,H2,I2,st2,fun b hb=>(f2 b hb).1,w0⟩
 rintro n s3 ⟨i,Y3,H3,I3,st3,fr3,w3⟩
 rcases turn i n Y3 H3 w3 with ⟨stop,qn⟩ | ⟨go,N,hN,step⟩
 ·refine wpAny_passesOwn hp (thn (T.done X rfl rfl rfl hc i pins s3 Y3 H3 X.xe I3 (stat fr3) st3 stop) fun r s4 ⟨hr,I4⟩=>?_)
  subst hr
  exact wpAny_execs_nil ⟨Y3,H3,I4,qn⟩
 ·refine wpAny_passesOwn hp (thn (T.item X rfl rfl rfl hc i pins s3 Y3 H3 X.xe I3 (stat fr3) st3 go) fun r s4 ⟨u,hr,h4⟩=>?_)
  subst hr
  refine wpAny_passesOwn hp (thn h4 fun _ s5 ⟨x,H5,I5,r5,y5,st5,fr5⟩=>?_)
  have I5':=I5.pinned (stat fr5) (T.obj _ _ st5)
  refine wpAny_passesOwn hp (thn (hg _ s5 Y3 H5 x u _ I5' r5 (step x H5 y5)) fun _ s6 ⟨Y6,H6,I6,q6⟩=>?_)
  refine wpAny_passesOwn hp (thn (hb _ s6 Y6 H6 _ I6 q6) fun f s7 q7=>?_)
  have again:∀ {Y7:St} {H7:Hp},Inv X (pins ++ k_o fp s5.heap) Y7 H7 s7->N Y7 H7->∃ m,m < n/\∃ i Y' H',Inv X pins Y' H' s7/\tn i s7.heap/\(∀ b ∈ fp,H' b=none)/\W i m Y' H':=fun {Y7 H7} I7 n7=>by
   obtain ⟨m',hm,w7⟩:=hN Y7 H7 n7
   refine ⟨m',hm,i + 1,Y7,H7,I7.unpinned,T.keep _ _ _ st5 fun b hb o e=>(I7.pin (b,o) (List.mem_append_right _ (List.mem_append_right _ (f_t hb e)))).1,fun b hb=>?_,w7⟩
   obtain ⟨o,e,d⟩:=T.obj _ _ st5 b hb
   exact (I7.pin (b,o) (List.mem_append_right _ (List.mem_append_right _ (f_t hb e)))).2.1
  cases f with
  | next=>obtain ⟨Y7,H7,I7,n7⟩:=q7; exact again I7 n7
  | cont=>obtain ⟨Y7,H7,I7,n7⟩:=q7; exact again I7 n7
  | brk=>obtain ⟨Y7,H7,I7,q7⟩:=q7; exact ⟨Y7,H7,I7.unpinned,q7⟩
  | ret v=>obtain ⟨x7,Y7,H7,I7,r7,q7⟩:=q7; exact ⟨x7,Y7,H7,I7.unpinned,r7,q7⟩
end
abbrev R2:=V->V->Hp->VK->Prop
def OpR (X:Cx) (f:Value->Value->Sem Value) (r:R2):Prop:=
 ∀ (pins:List (Addr × Obj)) (s:Shared) (Y:St) (H:Hp) (x y:V) (v u:Value) (Q:VK),Inv X pins Y H s->b_P x v->b_P y u->r x y H Q->
  wpAny (model X.prog X.w) X.A (f v u) (EP X pins Y Q) X.xe s
def UnR (X:Cx) (f:Value->Sem Value) (r:V->Hp->VK->Prop):Prop:=
 ∀ (pins:List (Addr × Obj)) (s:Shared) (Y:St) (H:Hp) (x:V) (v:Value) (Q:VK),Inv X pins Y H s->b_P x v->r x H Q->
  wpAny (model X.prog X.w) X.A (f v) (EP X pins Y Q) X.xe s
def h_2 (X:Cx) (f:Value) (r:List V->Hp->VK->Prop):Prop:=
 ∀ (pins:List (Addr × Obj)) (s:Shared) (Y:St) (H:Hp) (xs:List V) (us:List Value) (Q:VK),Inv X pins Y H s->b_y xs us->r xs H Q->
  wpAny (model X.prog X.w) X.A (call f us) (EP X pins Y Q) X.xe s
def tOp (r:R2) (ta tb:TE):TE:=fun Y H Q=>ta Y H fun x H1=>tb Y H1 fun y H2=>r x y H2 Q
def tUn (r:V->Hp->VK->Prop) (ta:TE):TE:=fun Y H Q=>ta Y H fun x H1=>r x H1 Q
def rI (C:Int->Int->Prop) (g:Int->Int->V):R2:=fun x y H Q=>∃ i j,x=.int i/\y=.int j/\C i j/\Q (g i j) H
def rI0 (g:Int->Int->V):R2:=fun x y H Q=>∃ i j,x=.int i/\y=.int j/\Q (g i j) H
def rU (g:Int->V):V->Hp->VK->Prop:=fun x H Q=>∃ i,x=.int i/\Q (g i) H
section
variable {X:Cx} {a b c:Expr} {ta tb tc:TE} {pos:Pos}
theorem w_w (ha:PE X a ta) (hb:PE X b tb) {pins:List (Addr × Obj)} {s:Shared} {Y:St} {H:Hp} {R:V->V->Hp->Prop} (I:Inv X pins Y H s)
  (h:ta Y H fun x H1=>tb Y H1 fun y H2=>R x y H2) {Q:Value->Shared->Prop} {f:Value->Value->Sem Value}
  (hf:∀ v u s2 x y H2,Inv X pins Y H2 s2->b_P x v->b_P y u->R x y H2->wpAny (model X.prog X.w) X.A (f v u) Q X.xe s2) :
  wpAny (model X.prog X.w) X.A (eval a X.env) (fun v s₁=>wpAny (model X.prog X.w) X.A (eval b X.env) (fun u s₂=>wpAny (model X.prog X.w) X.A (f v u) Q X.xe s₂) X.xe s₁) X.xe s:=by
 refine thn (ha pins s Y H _ I h) fun v s1 ⟨x,H1,I1,r1,q1⟩=>?_
 refine thn (hb pins s1 Y H1 _ I1 q1) fun u s2 ⟨y,H2,I2,r2,q2⟩=>?_
 exact hf v u s2 x y H2 I2 r1 r2 q2
theorem w_T {op:Operator} {r:R2} (ho:OpR X (binaryOp op) r) (ha:PE X a ta) (hb:PE X b tb):PE X (.BinOp a op b pos) (tOp r ta tb):=by
 intro pins s Y H Q I h
 exact wpAny_BinOp (w_w ha hb I h fun v u s2 x y H2 I2 rx ry q=>ho pins s2 Y H2 x y v u Q I2 rx ry q)
theorem v_S {op:UnaryOp} {r:V->Hp->VK->Prop} (ho:UnR X (unaryOp op) r) (ha:PE X a ta):PE X (.UnaryOp op a pos) (tUn r ta):=by
 intro pins s Y H Q I h
 exact UnaryOp_ (thn (ha pins s Y H _ I h) fun v s1 ⟨x,H1,I1,r1,q1⟩=>ho pins s1 Y H1 x v Q I1 r1 q1)
theorem opI {f:Value->Value->Sem Value} {C:Int->Int->Prop} {g:Int->Int->Int}
  (rule:∀ (i j:Int) (t u:Tok) (s:Shared) (Q:Value->Shared->Prop) (E:Value->Shared->Prop),C i j->Q (.int (g i j) s.toks) { s with toks:=s.toks + 1 }->wpAny (model X.prog X.w) X.A (f (.int i t) (.int j u)) Q E s) :
  OpR X f (rI C fun i j=>.int (g i j)):=by
 intro pins s Y H x y v u Q I rx ry h
 obtain ⟨i,j,rfl,rfl,hc,q⟩:=h
 obtain ⟨t,rfl⟩:=rx
 obtain ⟨t',rfl⟩:=ry
 exact rule i j t t' s _ _ hc ⟨.int (g i j),H,I.tok _,⟨_,rfl⟩,q⟩
theorem x_P {f:Value->Value->Sem Value} {g:Int->Int->Int}
  (rule:∀ (i j:Int) (t u:Tok) (s:Shared) (Q:Value->Shared->Prop) (E:Value->Shared->Prop),Q (.int (g i j) s.toks) { s with toks:=s.toks + 1 }->wpAny (model X.prog X.w) X.A (f (.int i t) (.int j u)) Q E s) :
  OpR X f (rI0 fun i j=>.int (g i j)):=by
 intro pins s Y H x y v u Q I rx ry h
 obtain ⟨i,j,rfl,rfl,q⟩:=h
 obtain ⟨t,rfl⟩:=rx
 obtain ⟨t',rfl⟩:=ry
 exact rule i j t t' s _ _ ⟨.int (g i j),H,I.tok _,⟨_,rfl⟩,q⟩
theorem w_0 {f:Value->Value->Sem Value} {g:Int->Int->Bool}
  (rule:∀ (i j:Int) (t u:Tok) (s:Shared) (Q:Value->Shared->Prop) (E:Value->Shared->Prop),Q (.bool (g i j)) s->wpAny (model X.prog X.w) X.A (f (.int i t) (.int j u)) Q E s) :
  OpR X f (rI0 fun i j=>.bl (g i j)):=by
 intro pins s Y H x y v u Q I rx ry h
 obtain ⟨i,j,rfl,rfl,q⟩:=h
 obtain ⟨t,rfl⟩:=rx
 obtain ⟨t',rfl⟩:=ry
 exact rule i j t t' s _ _ ⟨.bl (g i j),H,I,rfl,q⟩
def v_9 (i j:Int):Prop:=0 < j/\j < 1073741824
def t_Z (i j:Int):Prop:=(-(2 ^ 64) < i/\i < 2 ^ 64)\/(-(2 ^ 64) < j/\j < 2 ^ 64)
theorem t_Z.ok {i j:Int} (h:t_Z i j):IntMulOk i j:=by
 rcases h with ⟨h1,h2⟩ | ⟨h1,h2⟩
 ·exact .of_left (intBits_le_64 h1 h2)
 ·exact .of_right (intBits_le_64 h1 h2)
theorem u_H:OpR X (binaryOp .Add) (rI0 fun i j=>.int (i + j)):=x_P fun _ _ _ _ _ _ _ q=>add_int q
theorem t_Q:OpR X (binaryOp .Sub) (rI0 fun i j=>.int (i - j)):=x_P fun _ _ _ _ _ _ _ q=>sub_int q
theorem t_w:OpR X (binaryOp .Mult) (rI t_Z fun i j=>.int (i * j)):=opI fun _ _ _ _ _ _ _ hc q=>mul_int q hc.ok
theorem s_p:OpR X (binaryOp .FloorDiv) (rI v_9 fun i j=>.int (i / j)):=opI fun i j _ _ _ _ _ hc q=>by
 have h1:(0:Int) < j:=hc.1
 have h2:j < 1073741824:=hc.2
 exact floordiv_int (by omega) (by rw [Int.fdiv_eq_ediv_of_nonneg i (by omega)]; exact q) (.inl (PyProof.noPylong_small (by omega)))
theorem u_a:OpR X (binaryOp .Mod) (rI (fun _ j=>0 < j) fun i j=>.int (i % j)):=opI fun i j _ _ _ _ _ hc q=>by
 have h1:(0:Int) < j:=hc
 exact mod_int' (by omega) (by rw [Int.fmod_eq_emod_of_nonneg i (by omega)]; exact q)
theorem unI {f:Value->Sem Value} {g:Int->Int}
  (rule:∀ (i:Int) (t:Tok) (s:Shared) (Q:Value->Shared->Prop) (E:Value->Shared->Prop),Q (.int (g i) s.toks) { s with toks:=s.toks + 1 }->wpAny (model X.prog X.w) X.A (f (.int i t)) Q E s) :
  UnR X f (rU fun i=>.int (g i)):=by
 intro pins s Y H x v Q I rx h
 obtain ⟨i,rfl,q⟩:=h
 obtain ⟨t,rfl⟩:=rx
 exact rule i t s _ _ ⟨.int (g i),H,I.tok _,⟨_,rfl⟩,q⟩
theorem u_2:UnR X (unaryOp .USub) (rU fun i=>.int (-i)):=unI fun _ _ _ _ _ q=>neg_int q
end
section
variable {X:Cx} {a b c:Expr} {ta tb tc:TE} {pos:Pos}
theorem q_V {pins:List (Addr × Obj)} {Y:St} {H:Hp} {s:Shared} {Q:VK} {k k':Bool} (I:Inv X pins Y H s) (q:Q (.bl k) H) (e:k=k'):EP X pins Y Q (.bool k') s:=by
 subst e
 exact ⟨.bl k,H,I,rfl,q⟩
theorem u_6:OpR X (compareOp .Lt) (rI0 fun i j=>.bl (decide (i < j))):=w_0 fun _ _ _ _ _ _ _ q=>lt_int q
theorem p_P:OpR X (compareOp .LtE) (rI0 fun i j=>.bl (decide (i<=j))):=w_0 fun _ _ _ _ _ _ _ q=>le_int q
theorem v_a:OpR X (compareOp .Gt) (rI0 fun i j=>.bl (decide (j < i))):=w_0 fun _ _ _ _ _ _ _ q=>gt_int q
theorem q_6:OpR X (compareOp .Is) (fun x y H Q=>y=.non/\Q (.bl (decide (x=.non))) H):=by
 intro pins s Y H x y v u Q I rx ry h
 obtain ⟨rfl,q⟩:=h
 cases ry
 refine is_none_gen (q_V I q ?_)
 cases x <;> first
  | (cases rx; rfl)
  | (obtain ⟨t,rfl⟩:=rx; rfl)
theorem n_2:OpR X (compareOp .IsNot) (fun x y H Q=>y=.non/\Q (.bl (!decide (x=.non))) H):=by
 intro pins s Y H x y v u Q I rx ry h
 obtain ⟨rfl,q⟩:=h
 cases ry
 refine isnot_none_gen (q_V I q ?_)
 cases x <;> first
  | (cases rx; rfl)
  | (obtain ⟨t,rfl⟩:=rx; rfl)
theorem nomark (b:Expr) {op:CmpOp} (h:op ≠ .In:=by decide) (h2:op ≠ .NotIn:=by decide):behindInMarks op b=false:=by
 have e1:(op == CmpOp.In)=false:=by cases op <;> first | rfl | exact absurd rfl h
 have e2:(op == CmpOp.NotIn)=false:=by cases op <;> first | rfl | exact absurd rfl h2
 cases b <;> simp [behindInMarks,e1,e2]
theorem s_h {op:CmpOp} {r:R2} (ho:OpR X (compareOp op) r) (ha:PE X a ta) (hb:PE X b tb) (hm:behindInMarks op b=false):PE X (.Compare a [op] [b] pos) (tOp r ta tb):=by
 intro pins s Y H Q I h
 exact wpAny_Compare1 (w_w ha hb I h fun v u s2 x y H2 I2 rx ry q=>ho pins s2 Y H2 x y v u Q I2 rx ry q) hm
def w_b (t:TE):TT:=fun Y H Q=>t Y H fun x H'=>∃ k,x=.bl k/\Q k H'
theorem o_5 {op:CmpOp} {r:R2} (ho:OpR X (compareOp op) r) (ha:PE X a ta) (hb:PE X b tb) (hm:behindInMarks op b=false):PT X (.Compare a [op] [b] pos) (w_b (tOp r ta tb)):=by
 intro pins s Y H Q I h
 refine wpAny_isTrue_Compare1 (thn (ha pins s Y H _ I h) fun v s1 ⟨x,H1,I1,r1,q1⟩=>thn (hb pins s1 Y H1 _ I1 q1) fun u s2 ⟨y,H2,I2,r2,q2⟩=>
  thn (ho pins s2 Y H2 x y v u _ I2 r1 r2 q2) fun c s3 ⟨z,H3,I3,r3,k,e,q3⟩=>?_) hm
 subst e
 cases r3
 exact wpAny_truthy_bool ⟨H3,I3,q3⟩
def t_r (r r':R2) (ta tb tc:TE):TE:=fun Y H Q=>ta Y H fun x H1=>tb Y H1 fun y H2=>r x y H2 fun z H3=>∃ k,z=.bl k/\
 (if k=true then tc Y H3 fun w' H4=>r' y w' H4 Q else Q (.bl false) H3)
theorem p_W {op op':CmpOp} {r r':R2} (ho:OpR X (compareOp op) r) (ho':OpR X (compareOp op') r') (ha:PE X a ta) (hb:PE X b tb) (hc:PE X c tc)
  (hm:lastMarks [op,op'] [b,c]=false:=by with_unfolding_all rfl):PE X (.Compare a [op,op'] [b,c] pos) (t_r r r' ta tb tc):=by
 intro pins s Y H Q I h
 refine Compare_chain (thn (ha pins s Y H _ I h) fun v s1 ⟨x,H1,I1,r1,q1⟩=>chain_link (thn (hb pins s1 Y H1 _ I1 q1) fun u s2 ⟨y,H2,I2,r2,q2⟩=>
  thn (ho pins s2 Y H2 x y v u _ I2 r1 r2 q2) fun d s3 ⟨z,H3,I3,r3,k,e,q3⟩=>?_)) hm
 subst e
 cases r3
 refine wpAny_truthy_bool ?_
 cases k with
 | false=>exact ite_ff ⟨.bl false,H3,I3,rfl,q3⟩
 | true=>exact ite_tt (chain_last (thn (hc pins s3 Y H3 _ I3 q3) fun w' s4 ⟨z',H4,I4,r4,q4⟩=>ho' pins s4 Y H4 y z' u w' Q I4 r2 r4 q4))
theorem line63:(sizeLine:Nat) < 2 ^ 63:=by rw [sizeLine_eq]; decide
theorem vals1 {x:V} {us:List Value} (r:b_y [x] us):∃ u,us=[u]/\b_P x u:=by
 cases r with
 | cons r1 r2=>cases r2; exact ⟨_,rfl,r1⟩
theorem vals2 {x y:V} {us:List Value} (r:b_y [x,y] us):∃ u w',us=[u,w']/\b_P x u/\b_P y w':=by
 cases r with
 | cons r1 r2=>
  cases r2 with
  | cons r3 r4=>cases r4; exact ⟨_,_,rfl,r1,r3⟩
theorem k_7 (hc:X.calm=true):h_2 X (.builtin "max") (fun xs H Q=>∃ i j,xs=[.int i,.int j]/\Q (.int (if j > i then j else i)) H):=by
 intro pins s Y H xs us Q I r h
 obtain ⟨i,j,rfl,q⟩:=h
 obtain ⟨u,w',rfl,⟨t,rfl⟩,⟨t',rfl⟩⟩:=vals2 r
 refine max_two_ints (I.ok.hd hc) fun h' tk k=>⟨_,H,I.kept k,?_,q⟩
 by_cases hj:j > i
 ·rw [if_pos hj,if_pos hj]; exact ⟨_,rfl⟩
 ·rw [if_neg hj,if_neg hj]; exact ⟨_,rfl⟩
end
structure ObjM (h:Heap) (x dx C:Addr) (mA:Str->Option Value):Prop where
 obj:h.get? x=some (instObj C dx)
 ns:h.Ns1 dx mA
 ne:dx ≠ x
theorem n_9 {h:Heap} {dx:Addr} {mA:Str->Option Value} (n:h.Ns1 dx mA):∃ od,h.get? dx=some od/\∀ name,PySem.W.lookIn name od=some (mA name):=by
 obtain ⟨o,es,ep,ho,hd,hk,_,hm⟩:=n
 refine ⟨o,ho,fun name=>?_⟩
 have e:=hm name
 unfold nsFind findBy at e
 rw [<-Array.find?_toList] at e
 unfold PySem.W.lookIn
 rw [hd]
 dsimp only
 split
 ·rename_i y q
  rw [q] at e
  exact congrArg some e
 ·rename_i q
  rw [q] at e
  have a:es.toList.any (·.refKey)=false:=by
   rw [List.any_eq_false]
   intro y hy
   obtain ⟨z,t,hkey⟩:=hk y (Array.mem_toList_iff.mp hy)
   simp [DictEntry.refKey,hkey]
  have a':¬ es.toList.any (·.refKey)=true:=by rw [a]; exact Bool.false_ne_true
  rw [if_neg a']
  exact congrArg some e
theorem ObjM.look {h:Heap} {x dx C:Addr} {mA:Str->Option Value} (I:ObjM h x dx C mA):∃ od,PySem.W.InstAt h x (instObj C dx) C (some od)/\∀ name,PySem.W.lookIn name od=some (mA name):=
 let ⟨od,ho,hl⟩:=n_9 I.ns
 ⟨od,⟨I.obj,rfl,rfl,ho⟩,hl⟩
section
variable {prog:Program} {w:World} {A:Around} {E:Value->Shared->Prop} {s:Shared} {K:PySem.W.Frag} {x dx C f:Addr} {mA:Str->Option Value} {name:Str} {v:Value}
theorem s_l {expr:Bool} {Q:Value->Shared->Prop} (X:K.In s.heap) (I:ObjM s.heap x dx C mA) (hg:plainGet K C name=true) (hh:PySem.W.hasDictIn K C=true)
  (ha:findIn K (.ref C) name=some none) (hv:mA name=some v) (hv':PySem.W.handedIn v=true) (h:Q v { s with toks:=s.toks + 1 }) :
  wpAny (model prog w) A (getAttr (.ref x) name expr) Q E s:=by
 obtain ⟨od,J,hl⟩:=I.look
 exact PySem.W.get_value X J (PySem.W.plainGet_of hg).1 (PySem.W.findObj_own hh ha rfl (by rw [hl,hv])) hv' h
theorem q_h {pl:Sem Bool} {Q:Value × List Value->Shared->Prop} (X:K.In s.heap) (I:ObjM s.heap x dx C mA) (hg:plainGet K C name=true)
  (hf:findIn K (.ref C) name=some (some (.ref f))) (ht:isFn K (.ref f)=true) (hv:mA name=none) (h:Q (.ref f,[.ref x]) s) :
  wpAny (model prog w) A (getMethod (.ref x) name pl) Q E s:=by
 obtain ⟨od,J,hl⟩:=I.look
 exact PySem.W.method_fn X J (PySem.W.plainGet_of hg).1 (PySem.W.plainGet_of hg).2 hf (beq_iff_eq.mp ht) (by show (PySem.W.lookIn name od).map (·.isSome)=some false; rw [hl,hv]; rfl) h
theorem r_y {ns:List Str} {Q:Unit->Shared->Prop} (X:K.In s.heap) (I:ObjM s.heap x dx C mA)
  (hs:findIn K (.ref C) "__setattr__" = some (some (.builtin "object.__setattr__"))) (hp:PySem.W.plainOver K C=true) (ht:PySem.W.takerIn K C name=some none) (hh:PySem.W.hasDictIn K C=true)
  (hw:PySem.Within mA ns) (hsz:ns.length<=sizeLine)
  (h:∀ h',ObjM h' x dx C (fun y=>if y=name then some v else mA y)->Heap.SameBut dx s.heap h'->Q () { s with heap:=h',toks:=s.toks + 2 }) :
  wpAny (model prog w) A (setAttr (.ref x) name v) Q E s:=by
 obtain ⟨od,J,hl⟩:=I.look
 refine PySem.W.set_plain X J hs (PySem.W.osa_open (s:={ s with toks:=s.toks + 1 }) (r:=none) X J hp ht fun b=>?_)
 obtain ⟨cd,hc,hd'⟩:=PySem.W.any_some hh
 have hx:s.heap.get? x=some ⟨.ref C,some dx,.plain,#[]⟩:=I.obj
 refine wpAny_bind (wpAny_pure (wpAny_bind (wpAny_bind (wpAny_loadPart hx (wpAny_bind (PySem.W.Looks.here (s:={ s with toks:=s.toks + 1 }) (PySem.W.looks_clsIn X hc) ?_))))))
 rw [hd']
 refine wpAny_pure (a:=some dx) (wpAny_bind (wpAny_pure (wpAny_bind ?_)))
 refine wpAny_nsSet1 (s:={ s with toks:=s.toks + 1 }) I.ns fun h' hn2 hs2=>?_
 obtain ⟨oD,esD,epD,hoD,hdD,hcD⟩:=hn2.count (PySem.Within.cons name v hw)
 refine wpAny_bind (wpAny_lookBehind hoD (by rw [hdD]; exact pastItsLine_dict (Nat.le_trans hcD (by rw [List.length_cons]; omega))) ?_)
 exact wpAny_pure (h _ ⟨(hs2.2 _ (Ne.symm I.ne)).trans I.obj,hn2,I.ne⟩ hs2)
theorem q_w {R:Result->Shared->Prop} {vs:List Value} {kw:List (Str × Value)} (X:K.In s.heap) (hm:PySem.W.makesIn K C=true)
  (hi:findIn K (.ref C) "__init__" = some (some (.ref f))) (hf:PySem.W.typeIn K (.ref f)=some (.type "function"))
  (h:codeAny (model prog w) (A.under (.builtin "type.__call__" ⟨.ref C :: vs,kw⟩)) (.call (.ref f) ⟨.ref (s.heap.objs.size + 1) :: vs,kw⟩) (PySem.W.InitBack (s.heap.objs.size + 1) R)
   { s with heap:=(s.heap.push emptyDict).push (instObj C s.heap.objs.size) }) :
  codeAny (model prog w) A (.call (.ref C) ⟨vs,kw⟩) R s:=by
 obtain ⟨hh,g,d,t,os⟩:=s
 exact PySem.W.make_core (PySem.W.makes_of X hm) (PySem.W.looks_findIn X hi) (fun self=>PySem.W.bind_fn X self hf) (.inl rfl) h
end
def f_1 (f:Str) (v:V):List (Str × V)->List (Str × V)
 | []=>[(f,v)]
 | (g,x) :: r=>if g=f then (g,v) :: r else (g,x) :: f_1 f v r
theorem h_5 (f g:Str) (v:V):∀ fs:List (Str × V),(f_1 f v fs).lookup g=if g=f then some v else fs.lookup g
 | []=>by
  show List.lookup g [(f,v)]=_
  by_cases h:g=f
  ·have hb:(g == f)=true:=beq_iff_eq.mpr h
   simp only [List.lookup,hb,if_pos h]
  ·have hb:(g == f)=false:=beq_eq_false_iff_ne.mpr h
   simp only [List.lookup,hb,if_neg h]
 | (k,x) :: r=>by
  have ih:=h_5 f g v r
  rw [show f_1 f v ((k,x) :: r)=(if k=f then (k,v) :: r else (k,x) :: f_1 f v r) from rfl]
  by_cases hk:k=f
  ·rw [if_pos hk]
   by_cases h:g=k
   ·have hb:(g == k)=true:=beq_iff_eq.mpr h
    simp only [List.lookup,hb,if_pos (h.trans hk)]
   ·have hb:(g == k)=false:=beq_eq_false_iff_ne.mpr h
    simp only [List.lookup,hb,if_neg (fun e:g=f=>h (e.trans hk.symm))]
  ·rw [if_neg hk]
   by_cases h:g=k
   ·have hb:(g == k)=true:=beq_iff_eq.mpr h
    simp only [List.lookup,hb,if_neg (fun e:g=f=>hk (h.symm.trans e))]
   ·have hb:(g == k)=false:=beq_eq_false_iff_ne.mpr h
    simp only [List.lookup,hb]
    exact ih
theorem h_3 (f:Str) (v:V):∀ fs:List (Str × V),f ∈ (f_1 f v fs).map (·.1)/\∀ g,g ∈ fs.map (·.1)->g ∈ (f_1 f v fs).map (·.1)
 | []=>⟨by simp [f_1],fun g h=>by simp at h⟩
 | (k,x) :: r=>by
  obtain ⟨i1,i2⟩:=h_3 f v r
  rw [show f_1 f v ((k,x) :: r)=(if k=f then (k,v) :: r else (k,x) :: f_1 f v r) from rfl]
  by_cases hk:k=f
  ·rw [if_pos hk]
   subst hk
   exact ⟨by simp,fun g h=>by simpa using h⟩
  ·rw [if_neg hk]
   refine ⟨?_,fun g h=>?_⟩
   ·rw [List.map_cons]
    exact List.mem_cons_of_mem _ i1
   ·rw [List.map_cons] at h ⊢
    rcases List.mem_cons.mp h with e | e
    ·exact List.mem_cons.mpr (.inl e)
    ·exact List.mem_cons_of_mem _ (i2 g e)
theorem i_j (f:Str) (v:V):∀ fs:List (Str × V),(f_1 f v fs).length<=fs.length + 1
 | []=>by simp [f_1]
 | (k,x) :: r=>by
  have ih:=i_j f v r
  rw [show f_1 f v ((k,x) :: r)=(if k=f then (k,v) :: r else (k,x) :: f_1 f v r) from rfl]
  by_cases hk:k=f
  ·rw [if_pos hk,List.length_cons,List.length_cons]; omega
  ·rw [if_neg hk,List.length_cons,List.length_cons]; omega
theorem n_e.some_of {v:V} {o:Option Value} (r:n_e (some v) o):∃ u,o=some u/\b_P v u:=by
 cases o with
 | none=>exact (show False from r).elim
 | some u=>exact ⟨u,rfl,r⟩
theorem n_e.none_of {o:Option Value} (r:n_e none o):o=none:=by
 cases o with
 | none=>rfl
 | some u=>exact (show False from r).elim
theorem o_T {v:V} {u:Value} (r:b_P v u):PySem.W.handedIn u=true:=by
 cases v with
 | non=>cases (show u=Value.none from r); rfl
 | bl b=>cases (show u=Value.bool b from r); rfl
 | int i=>obtain ⟨t,e⟩:=(show ∃ t,u=Value.int i t from r); cases e; rfl
 | str x=>obtain ⟨t,e⟩:=(show ∃ t,u=Value.str x t from r); cases e; rfl
 | byt b=>obtain ⟨t,e⟩:=(show ∃ t,u=Value.bytes b t from r); cases e; rfl
 | flt b=>obtain ⟨t,e⟩:=(show ∃ t,u=Value.float b t from r); cases e; rfl
 | ref a=>cases (show u=Value.ref a from r); rfl
 | ty n=>cases (show u=Value.type n from r); rfl
section
variable {P:Program} {w:World} {H H':Hp} {h h':Heap} {a C dx:Addr} {fs fs':List (Str × V)}
theorem j_I (hok:HOk P w H h) (e:H a=some (.ins C dx fs)):∃ mA,ObjM h a dx C mA/\(∀ f,n_e (fs.lookup f) (mA f))/\PySem.Within mA (fs.map (·.1))/\fs.length<=1000/\H dx=some (.own a):=by
 obtain ⟨d,z,ne,ob,mA,n,r,q⟩:=(show b_6 P w H h a (.ins C dx fs) from hok a _ e)
 exact ⟨mA,⟨ob,n,ne⟩,r,q,z,d⟩
end
structure Cls (K:PySem.W.Frag) (C:Addr):Prop where
 pg:plainGet K C Str.empty=true
 hd:PySem.W.hasDictIn K C=true
 po:PySem.W.plainOver K C=true
 sa:findIn K (.ref C) "__setattr__" = some (some (.builtin "object.__setattr__"))
theorem Cls.get {K:PySem.W.Frag} {C:Addr} (c:Cls K C) (f:Str):plainGet K C f=true:=c.pg
def b_a (K:PySem.W.Frag) (C:Addr) (f:Str):Prop:=findIn K (.ref C) f=some none
theorem b_a.taker {K:PySem.W.Frag} {C:Addr} {f:Str} (n:b_a K C f):PySem.W.takerIn K C f=some none:=by
 unfold PySem.W.takerIn
 rw [show findIn K (.ref C) f=some none from n]
 rfl
structure Meth (K:PySem.W.Frag) (C:Addr) (m:Str) (f:Addr):Prop where
 at_:findIn K (.ref C) m=some (some (.ref f))
 fn:isFn K (.ref f)=true
 kp:keepIn K (.ref f)=true
section
variable {X:Cx} {pins:List (Addr × Obj)} {Y:St} {H:Hp} {s:Shared} {a C dx:Addr} {fs:List (Str × V)} {f:Str} {v:V} {A:Around} {E:Value->Shared->Prop}
theorem i_3 {b:Bool} {Q:Value->Shared->Prop} (I:Inv X pins Y H s) (e:H a=some (.ins C dx fs)) (c:Cls X.K C) (n:b_a X.K C f) (l:fs.lookup f=some v)
  (h:∀ u s',Inv X pins Y H s'->b_P v u->Q u s'):wpAny (model X.prog X.w) A (getAttr (.ref a) f b) Q E s:=by
 obtain ⟨mA,O,r,_,_,_⟩:=j_I I.hok e
 obtain ⟨u,hu,ru⟩:=n_e.some_of (v:=v) (o:=mA f) (by rw [<-l]; exact r f)
 exact s_l I.kIn O (c.get f) c.hd n hu (o_T ru) (h u _ (I.tok _) ru)
theorem i_X {m:Str} {g:Addr} {pl:Sem Bool} {Q:Value × List Value->Shared->Prop} (I:Inv X pins Y H s) (e:H a=some (.ins C dx fs)) (c:Cls X.K C) (k:Meth X.K C m g) (l:fs.lookup m=none)
  (h:Q (.ref g,[.ref a]) s):wpAny (model X.prog X.w) A (getMethod (.ref a) m pl) Q E s:=by
 obtain ⟨mA,O,r,_,_,_⟩:=j_I I.hok e
 have hn:mA m=none:=n_e.none_of (by rw [<-l]; exact r m)
 exact q_h I.kIn O (c.get m) k.at_ k.fn hn h
theorem i_7 {y:V} {u:Value} {Q:Unit->Shared->Prop} (I:Inv X pins Y H s) (e:H a=some (.ins C dx fs)) (c:Cls X.K C) (n:b_a X.K C f) (hl:fs.length < 1000) (ry:b_P y u)
  (h:∀ s',Inv X pins Y (upd H a (.ins C dx (f_1 f y fs))) s'->Q () s'):wpAny (model X.prog X.w) A (setAttr (.ref a) f u) Q E s:=by
 obtain ⟨mA,O,r,wi,_,ho⟩:=j_I I.hok e
 have hz:(fs.map (·.1)).length<=sizeLine:=by rw [List.length_map,sizeLine_eq]; omega
 refine r_y I.kIn O c.sa c.po n.taker c.hd wi hz fun h' O' sb=>h _ ?_
 have hd:∃ o,h'.get? dx=some o:=let ⟨o,_,_,e',_⟩:=O'.ns; ⟨o,e'⟩
 refine I.write (x:=a) (e:=dx) (by rw [e]; exact True.intro) (.inr ho) (fun b q hb z=>(sb.2 b hb).trans z) hd ?_
 refine ⟨by rw [a_p O.ne]; exact ho,?_,O.ne,O'.obj,_,O'.ns,fun g=>?_,fun g hg=>?_⟩
 ·have:=i_j f y fs; omega
 ·show n_e ((f_1 f y fs).lookup g) (if g=f then some u else mA g)
  rw [h_5]
  by_cases q:g=f
  ·rw [if_pos q,if_pos q]; exact ry
  ·rw [if_neg q,if_neg q]; exact r g
 ·by_cases q:g=f
  ·rw [q]; exact (h_3 f y fs).1
  ·refine (h_3 f y fs).2 g (wi g fun z=>hg ?_)
   show (if g=f then some u else mA g)=none
   rw [if_neg q]; exact z
theorem Inv.made (I:Inv X pins Y H s):Inv X pins Y (upd (upd H s.heap.objs.size (.own (s.heap.objs.size + 1))) (s.heap.objs.size + 1) (.ins C s.heap.objs.size []))
  { s with heap:=(s.heap.push emptyDict).push (instObj C s.heap.objs.size) }:=by
 have e1:(s.heap.push emptyDict).get? s.heap.objs.size=some emptyDict:=Heap.get?_push_size s.heap rfl
 have e2:((s.heap.push emptyDict).push (instObj C s.heap.objs.size)).get? (s.heap.objs.size + 1)=some (instObj C s.heap.objs.size):=by
  have:=Heap.get?_push_size (s.heap.push emptyDict) (o:=instObj C s.heap.objs.size) rfl
  rwa [Heap.size_push] at this
 have e3:(s.heap.push emptyDict).Ns s.heap.objs.size (fun _=>none):=⟨emptyDict,#[],_,e1,rfl,(fun e he=>absurd he (by simp)),fun _=>rfl⟩
 have I1:=I.laid (a:=s.heap.objs.size) (o:=.own (s.heap.objs.size + 1)) (h':=s.heap.push emptyDict) (t':=s.toks) (fun b u q=>Heap.get?_push_of_some _ q) (Nat.le_refl _) ⟨_,e1⟩
 refine I1.laid (a:=s.heap.objs.size + 1) (o:=.ins C s.heap.objs.size []) (t':=s.toks) (fun b u q=>Heap.get?_push_of_some _ q) (Nat.le_of_eq (Heap.size_push _ _)) ?_
 have ne:s.heap.objs.size ≠ s.heap.objs.size + 1:=Nat.ne_of_lt (Nat.lt_succ_self _)
 refine ⟨by rw [a_p ne,a_A],Nat.zero_le _,ne,e2,fun _=>none,(Heap.Ns1.of_empty e3).at fun o q=>Heap.get?_push_of_some _ q,fun _=>True.intro,fun y hy=>absurd rfl hy⟩
theorem r_0 {prog:Program} {w:World} {env:Env} {e:Expr} {f:Str} {pos:Pos} {s:Shared} {Q:Value->Shared->Prop} (hb:attributeBase e f env (eval e env)=eval e env)
  (h:wpAny (model prog w) A (eval e env) (fun o s₁=>wpAny (model prog w) A (getAttr o f true) Q E s₁) E s):wpAny (model prog w) A (eval (.Attribute e f pos) env) Q E s:=
 Attribute_any_ h (by rw [arm_eval_Attribute,hb])
end
def y_B (K:PySem.W.Frag) (ta:TE) (f:Str):TE:=fun Y H Q=>ta Y H fun x H1=>∃ a C dx fs v,x=.ref a/\H1 a=some (.ins C dx fs)/\Cls K C/\b_a K C f/\fs.lookup f=some v/\Q v H1
def y_Q (K:PySem.W.Frag) (ta tv:TE) (f:Str):TS:=fun D Y H=>tv Y H fun y H1=>ta Y H1 fun x H2=>∃ a C dx fs,x=.ref a/\H2 a=some (.ins C dx fs)/\Cls K C/\b_a K C f/\fs.length < 1000/\
 D.nx Y (upd H2 a (.ins C dx (f_1 f y fs)))
def y_i (X:Cx) (op:Operator) (rd:V->V->Hp->VK->Prop):Prop:=
 ∀ (pins:List (Addr × Obj)) (s:Shared) (Y:St) (H:Hp) (x y:V) (u v:Value) (Q:VK),Inv X pins Y H s->b_P x u->b_P y v->rd x y H Q->wpAny (model X.prog X.w) X.A (inplaceOp op u v) (EP X pins Y Q) X.xe s
def s_d (K:PySem.W.Frag) (ta tv:TE) (rd:V->V->Hp->VK->Prop) (f:Str):TS:=fun D Y H=>ta Y H fun x H1=>∃ a C dx fs v,x=.ref a/\H1 a=some (.ins C dx fs)/\Cls K C/\b_a K C f/\fs.lookup f=some v/\
 tv Y H1 fun y H2=>rd v y H2 fun z H3=>∃ dx' fs',H3 a=some (.ins C dx' fs')/\fs'.length < 1000/\D.nx Y (upd H3 a (.ins C dx' (f_1 f z fs')))
section
variable {X:Cx} {o e value:Expr} {f:Str} {pos pos' tpos:Pos} {ta tv:TE}
theorem h_O (he:PE X e ta) (hb:attributeBase e f X.env (eval e X.env)=eval e X.env):PE X (.Attribute e f pos) (y_B X.K ta f):=by
 intro pins s Y H Q I h
 refine r_0 hb (thn (he pins s Y H _ I h) fun u s1 ⟨x,H1,I1,rx,a,C,dx,fs,v,ex,ea,c,n,l,q⟩=>?_)
 subst ex
 obtain rfl:u=Value.ref a:=rx
 exact i_3 I1 ea c n l fun u' s2 I2 ru=>⟨v,H1,I2,ru,q⟩
theorem m_s (ha:PE X o ta) (hv:PE X value tv) (hs:swapsWith value (some (.Attribute o f pos')) pos.line X.env=pure false):PS X (.Assign [.Attribute o f pos'] value pos) (y_Q X.K ta tv f):=by
 intro pins s Y H D I h
 refine plainObj_wpAny_Assign_Attribute (thn (hv pins s Y H _ I h) fun u s1 ⟨y,H1,I1,ry,q⟩=>thn (ha pins s1 Y H1 _ I1 q) fun ov s2 ⟨x,H2,I2,rx,a,C,dx,fs,ex,ea,c,n,l,q2⟩=>?_) hs
 subst ex
 obtain rfl:ov=Value.ref a:=rx
 exact i_7 I2 ea c n l ry fun s3 I3=>⟨Y,_,I3,q2⟩
theorem o_W {op:Operator} {rd:V->V->Hp->VK->Prop} (ha:PE X o ta) (hv:PE X value tv) (hop:y_i X op rd):PS X (.AugAssign (.Attribute o f tpos) op value pos) (s_d X.K ta tv rd f):=by
 intro pins s Y H D I h
 refine wpAny_AugAssign_AttributeAny (thn (ha pins s Y H _ I h) fun ov s1 ⟨x,H1,I1,rx,a,C,dx,fs,v,ex,ea,c,n,l,q⟩=>?_)
 subst ex
 obtain rfl:ov=Value.ref a:=rx
 refine i_3 I1 ea c n l fun u s2 I2 ru=>thn (hv pins s2 Y H1 _ I2 q) fun w3 s3 ⟨y,H2,I3,ry,q3⟩=>thn (hop pins s3 Y H2 v y u w3 _ I3 ru ry q3) fun w4 s4 ⟨z,H3,I4,rz,dx',fs',ea',l',q4⟩=>?_
 exact i_7 I4 ea' c n l' rz fun s5 I5=>⟨Y,_,I5,q4⟩
def y_L:V->V->Hp->VK->Prop:=fun x y H Q=>∃ i j,x=.int i/\y=.int j/\Q (.int (i + j)) H
theorem t_S:y_i X .Add y_L:=by
 rintro pins s Y H x y u v Q I rx ry ⟨i,j,rfl,rfl,q⟩
 obtain ⟨t,rfl⟩:=(show ∃ t,u=Value.int i t from rx)
 obtain ⟨t',rfl⟩:=(show ∃ t',v=Value.int j t' from ry)
 exact PyProof.Rows.iadd_int ⟨.int (i + j),H,I.tok _,⟨_,rfl⟩,q⟩
end
section
variable {X:Cx} {pins:List (Addr × Obj)} {Y:St} {H:Hp} {s:Shared} {A:Around} {E:Value->Shared->Prop} {Q:Value->Shared->Prop} {c:Value} {b:Bool}
inductive TyOf (K:PySem.W.Frag) (H:Hp):V->Value->Prop where
 | non:TyOf K H .non (.type "NoneType")
 | bl (x:Bool):TyOf K H (.bl x) (.type "bool")
 | int (i:Int):TyOf K H (.int i) (.type "int")
 | str (x:Str):TyOf K H (.str x) (.type "str")
 | flt (x:UInt64):TyOf K H (.flt x) (.type "float")
 | lst {a:Addr} {xs:List V} (e:H a=some (.lst xs)):TyOf K H (.ref a) (.type "list")
 | frz {a:Addr} {o:Obj} {xs:List V} (e:H a=some (.frz o (.lst xs))):TyOf K H (.ref a) (.type "list")
 | tup {a:Addr} {xs:List V} (e:H a=some (.tup xs)):TyOf K H (.ref a) (.type "tuple")
 | dK {a:Addr} {kvs:List (Key × V)} (e:H a=some (.dK kvs)):TyOf K H (.ref a) (.type "dict")
 | dT {a:Addr} {kvs:List (List Key × V)} (e:H a=some (.dT kvs)):TyOf K H (.ref a) (.type "dict")
 | ins {a C dx:Addr} {fs:List (Str × V)} (e:H a=some (.ins C dx fs)) (cl:Cls K C) (ha:findIn K (.ref C) "__class__" = some (some (.builtin "object.__class__")))
   (hn:PySem.W.specialIn K (.builtin "object.__class__") "__get__" = some (some (.builtin "getset_descriptor.__get__"))) (htk:PySem.W.takesIn K (.builtin "object.__class__")=some true)
   (hm:mroIn K C (.type "object")=some true):TyOf K H (.ref a) (.ref C)
theorem o_v {x:V} {u t:Value} (I:Inv X pins Y H s) (rx:b_P x u) (ty:TyOf X.K H x t) (e:kitOne X.K t c=some b) (h:∀ tk,Q (.bool b) { s with toks:=tk }) :
  wpAny (model X.prog X.w) A (call (.builtin "isinstance") [u,c]) Q E s:=by
 cases ty with
 | non=>cases (show u=Value.none from rx); exact kia_one PySem.W.kitx_none I.kIn True.intro e (fun z=>nomatch z) h
 | bl y=>cases (show u=Value.bool y from rx); exact kia_one PySem.W.kitx_bool I.kIn True.intro e (fun z=>nomatch z) h
 | int i=>obtain ⟨t,q⟩:=(show ∃ t,u=Value.int i t from rx); cases q; exact kia_one PySem.W.kitx_int I.kIn True.intro e (fun z=>nomatch z) h
 | str y=>obtain ⟨t,q⟩:=(show ∃ t,u=Value.str y t from rx); cases q; exact kia_one PySem.W.kitx_str I.kIn True.intro e (fun z=>nomatch z) h
 | flt y=>obtain ⟨t,q⟩:=(show ∃ t,u=Value.float y t from rx); cases q; exact kia_one PySem.W.kitx_float I.kIn True.intro e (fun z=>nomatch z) h
 | @lst a xs ea=>
  cases (show u=Value.ref a from rx)
  obtain ⟨_,_,n,_,h1⟩:=(show b_6 X.prog X.w H s.heap a (.lst xs) from I.hok a _ ea)
  exact kia_one PySem.W.kitx_list I.kIn ⟨_,h1,rfl⟩ e (fun z=>nomatch z) h
 | @frz a ob xs ea=>
  cases (show u=Value.ref a from rx)
  obtain ⟨_,_,_,n,_,h1⟩:=(show b_6 X.prog X.w H s.heap a (.frz ob (.lst xs)) from I.hok a _ ea)
  exact kia_one PySem.W.kitx_list I.kIn ⟨_,h1,rfl⟩ e (fun z=>nomatch z) h
 | @tup a xs ea=>
  cases (show u=Value.ref a from rx)
  obtain ⟨_,_,_,p⟩:=(show b_6 X.prog X.w H s.heap a (.tup xs) from I.hok a _ ea)
  obtain ⟨o,h1,h2,_⟩:=p
  exact kia_one PySem.W.kitx_tuple I.kIn ⟨o,h1,h2⟩ e (fun z=>nomatch z) h
 | @dK a kvs ea=>
  cases (show u=Value.ref a from rx)
  obtain ⟨_,_,vs,_,p⟩:=(show b_6 X.prog X.w H s.heap a (.dK kvs) from I.hok a _ ea)
  obtain ⟨o,es,ep,h1,h2,_⟩:=p
  exact kia_one PySem.W.kitx_dict I.kIn ⟨o,h1,h2.1⟩ e (fun z=>nomatch z) h
 | @dT a kvs ea=>
  cases (show u=Value.ref a from rx)
  obtain ⟨_,_,xs,_,o,es,ep,h1,h2,_⟩:=(show b_6 X.prog X.w H s.heap a (.dT kvs) from I.hok a _ ea)
  exact kia_one PySem.W.kitx_dict I.kIn ⟨o,h1,h2.1⟩ e (fun z=>nomatch z) h
 | @ins a C dx fs ea cl ha hn htk hm=>
  cases (show u=Value.ref a from rx)
  obtain ⟨mA,O,_⟩:=j_I I.hok ea
  obtain ⟨od,J,_⟩:=O.look
  exact kia_one (PySem.W.kitx_own (cl.get _) cl.hd ha hn htk hm) I.kIn J e (fun z=>nomatch z) h
end
structure Room (k:Nat) (A:Around):Prop where
 hd:A.handled=none
 dp:A.depth + 3 * k + 5 < recursionLimit
 un:A.units + 16 * k + 200 < cLine
theorem Room.mono {j k:Nat} {A:Around} (r:Room k A) (h:j<=k):Room j A:=⟨r.hd,by have:=r.dp; omega,by have:=r.un; omega⟩
theorem Room.deeper {k:Nat} {A:Around} (r:Room (k + 1) A) (env:Env):Room k (A.deeper env):=
 ⟨r.hd,by have:=r.dp; show A.depth + 1 + 3 * k + 5 < _; omega,by have:=r.un; show A.units + 3 + 16 * k + 200 < _; omega⟩
theorem m_U {A:Around} {C:Addr} {us:List Value} {kw:List (Str × Value)}:(A.under (.builtin "type.__call__" ⟨.ref C :: us,kw⟩)).depth=A.depth + 1:=by
 first | rfl | simp [Around.under,Code.weight,Code.isCreation,Code.isGuard,Code.isCaller,Code.frames,Code.isFrame,guardIds]
theorem n_s {A:Around} {C:Addr} {us:List Value} {kw:List (Str × Value)}:(A.under (.builtin "type.__call__" ⟨.ref C :: us,kw⟩)).units=A.units + 1:=by
 first | rfl | simp [Around.under,Code.cUnits,Code.frames,Code.isFrame]
theorem Room.make {k:Nat} {A:Around} (r:Room (k + 1) A) (C:Addr) (us:List Value) (kw:List (Str × Value)):Room k (A.under (.builtin "type.__call__" ⟨.ref C :: us,kw⟩)):=
 ⟨r.hd,by have:=r.dp; rw [m_U]; omega,by have:=r.un; rw [n_s]; omega⟩
theorem Room.depth {k:Nat} {A:Around} (r:Room k A):A.depth < recursionLimit:=by have:=r.dp; omega
theorem Room.units {k:Nat} {A:Around} (r:Room k A):A.units + 64 < cLine:=by have:=r.un; omega
def x_y:TA:=fun _ H Q=>Q [] H
def t_6 (ta:TE) (tr:TA):TA:=fun Y H Q=>ta Y H fun x H1=>tr Y H1 fun xs H2=>Q (x :: xs) H2
section
variable {X:Cx} {e:Expr} {es:List Expr} {te:TE} {t:TA} {pos:Pos}
theorem c_w:PA X [] x_y:=fun _ _ _ _ H Q I h=>Calls.spliced_nil ⟨[],H,I,.nil,h⟩
theorem b_e (ha:PE X e te) (hr:PA X es t) (hs:starEach (e :: es) X.env=(false,eval e X.env) :: starEach es X.env:=by rfl):PA X (e :: es) (t_6 te t):=by
 intro pos pins s Y H Q I h
 rw [hs]
 show wpAny _ _ (spliced ((false,eval e X.env) :: backTo pos (starEach es X.env))) _ _ s
 refine Calls.spliced_cons (thn (ha pins s Y H _ I h) fun u s1 ⟨x,H1,I1,r1,q1⟩=>?_)
 exact thn (hr pos pins s1 Y H1 _ I1 q1) fun us s2 ⟨xs,H2,I2,r2,q2⟩=>⟨x :: xs,H2,I2,.cons r1 r2,q2⟩
def y_u (t:TA):TE:=fun Y H Q=>t Y H fun xs H1=>xs.length<=sizeLine/\∀ p,H1 p=none->Q (.ref p) (upd H1 p (.tup xs))
def y_o (t:TA):TE:=fun Y H Q=>t Y H fun xs H1=>xs.length<=sizeLine/\∀ p,H1 p=none->Q (.ref p) (upd H1 p (.lst xs))
theorem q_P {x1} (h:PA X es t):PE X (.Tuple es x1 pos) (y_u t):=by
 intro pins s Y H Q I hq
 refine wpAny_Tuple_spliced (thn (h pos pins s Y H _ I hq) fun us s1 ⟨xs,H1,I1,r,z,q⟩=>⟨by rw [<-r.length]; exact z,?_⟩)
 have hf:H1 s1.heap.objs.size=none:=I1.hok.fresh (Nat.le_refl _)
 refine ⟨.ref s1.heap.objs.size,upd H1 s1.heap.objs.size (.tup xs),I1.laid (t':=s1.toks) (fun b u e=>Heap.get?_push_of_some _ e) (Nat.le_refl _) ?_,rfl,q _ hf⟩
 exact ⟨z,us,r,⟨_,Heap.get?_push_size _ rfl,rfl,_,rfl⟩⟩
theorem l_9 (h:PA X es t):PE X (.List es pos) (y_o t):=by
 intro pins s Y H Q I hq
 refine wpAny_List_spliced (thn (h pos pins s Y H _ I hq) fun us s1 ⟨xs,H1,I1,r,z,q⟩=>⟨by rw [<-r.length]; exact z,?_⟩)
 have hf:H1 s1.heap.objs.size=none:=I1.hok.fresh (Nat.le_refl _)
 refine ⟨.ref s1.heap.objs.size,upd H1 s1.heap.objs.size (.lst xs),I1.laid (t':=s1.toks) (fun b u e=>Heap.get?_push_of_some _ e) (Nat.le_refl _) ?_,rfl,q _ hf⟩
 exact ⟨z,us,0,r,Heap.get?_push_size _ rfl⟩
end
abbrev Sp:=List V->Hp->VK->XK->Prop
abbrev CXT:=List Env->Hp->Shared->XK->Value->Shared->Prop
structure Env0 (P:Program) (w:World) (K:PySem.W.Frag) (mg:Str->Option Value) (base:Heap) (A:Around) (outer:List Env) (s:Shared) (H:Hp):Prop where
 frames:A.frames=some outer
 mod:Mod K mg base
 bs:∀ b o,base.get? b=some o->s.heap.get? b=some o/\H b=none
 bsz:base.objs.size<=s.heap.objs.size
 funs:s.heap.FunFrames base outer
 frf:∀ b ∈ frs outer,H b=none
 hok:HOk P w H s.heap
 bare:AllBare s.gens
def CE (outer:List Env) (P:Program) (w:World) (H:Hp) (s:Shared) (Q:VK) (u:Value) (s':Shared):Prop:=
 ∃ v H',s'.os=s.os/\AllBare s'.gens/\Un (frs outer) [] H H' s.heap s'.heap/\HOk P w H' s'.heap/\b_P v u/\Q v H'
def CR (CX:CXT) (outer:List Env) (P:Program) (w:World) (H:Hp) (s:Shared) (Q:VK) (E:XK) (r:Result) (s':Shared):Prop:=
 match r with
 | .ok (.ret u)=>CE outer P w H s Q u s'
 | .ok _=>False
 | .error e=>CX outer H s E e s'
structure FnOk (P:Program) (w:World) (K:PySem.W.Frag) (mg:Str->Option Value) (base:Heap) (CX:CXT) (k:Nat) (f:Addr) (fd:FuncData) (ps:List Str) (sp:Sp):Prop where
 len:∀ vs H Q E,sp vs H Q E->vs.length=ps.length
 run:∀ (A:Around) (outer:List Env) (s:Shared) (H:Hp) (args:Args) (us:List Value) (vs:List V) (Q:VK) (E:XK),Room k A->Env0 P w K mg base A outer s H->BindsTo s fd args (ps.zip us)->b_y vs us->sp vs H Q E->
  codeAny (model P w) A (.call (.ref f) args) (CR CX outer P w H s Q E) s
theorem FnOk.imp {P:Program} {w:World} {K:PySem.W.Frag} {mg:Str->Option Value} {base:Heap} {CX:CXT} {k:Nat} {f:Addr} {fd:FuncData} {ps:List Str} {sp sp':Sp} (F:FnOk P w K mg base CX k f fd ps sp)
  (h:∀ vs H Q E,sp' vs H Q E->sp vs H Q E):FnOk P w K mg base CX k f fd ps sp':=
 ⟨fun vs H Q E q=>F.len vs H Q E (h _ _ _ _ q),fun A outer s H args us vs Q E hr he hb hv hs=>F.run A outer s H args us vs Q E hr he hb hv (h _ _ _ _ hs)⟩
theorem Env0.make {P:Program} {w:World} {K:PySem.W.Frag} {mg:Str->Option Value} {base:Heap} {A:Around} {outer:List Env} {s:Shared} {H:Hp} (e:Env0 P w K mg base A outer s H) (C:Addr) (us:List Value) (kw:List (Str × Value)) :
  Env0 P w K mg base (A.under (.builtin "type.__call__" ⟨.ref C :: us,kw⟩)) outer s H:=⟨by first | exact e.frames | (simpa [Around.under,Code.envs,Code.isFrame,pushEnvs] using e.frames),e.mod,e.bs,e.bsz,e.funs,e.frf,e.hok,e.bare⟩
section
variable {X:Cx} {pins:List (Addr × Obj)} {Y:St} {H:Hp} {s s':Shared}
theorem Inv.env0 (I:Inv X pins Y H s):Env0 X.prog X.w X.K X.mg X.base X.A X.stack s H:=
 ⟨I.ok.frames,I.ok.mod,I.bs,Nat.le_trans I.ok.bsz I.sz,I.stack,I.stkFree,I.hok,I.bare⟩
theorem Inv.after {Q:VK} {u:Value} (I:Inv X pins Y H s) (h:CE X.stack X.prog X.w H s Q u s'):EP X pins Y Q u s':=by
 obtain ⟨v,H',os,bare,un,hok,r,q⟩:=h
 obtain ⟨hh,g,d,t,os'⟩:=s'
 obtain rfl:os' = s.os:=os
 exact ⟨v,H',I.call (h':=hh) (g':=g) (d':=d) (t':=t) (ch:=[]) un hok bare (fun b z=>absurd z (by simp)),r,q⟩
end
def h_t (K:PySem.W.Frag) (fd:FuncData) (ps:List Str) (ds:List Value):Prop:=
 ∀ (s:Shared) (us:List Value),K.In s.heap->(us ++ ds).length=ps.length->BindsTo s fd ⟨us,[]⟩ (ps.zip (us ++ ds))
theorem h_t.all {K:PySem.W.Frag} {fd:FuncData} {ps:List Str} (h:∀ us:List Value,us.length=ps.length->bindArgs fd ⟨us,[]⟩=pure (ps.zip us)):h_t K fd ps []:=fun s us _ hl=>by
 rw [List.append_nil] at hl ⊢
 exact .of_eq (h us hl)
section
variable {X:Cx} {CX:CXT} {k:Nat} {f C:Addr} {fd:FuncData} {ps:List Str} {sp:Sp} {dvs:List V} {ds:List Value} {E:XK} {x m:Str} {p pos apos:Pos} {e o:Expr} {es:List Expr} {ta:TE} {t:TA}
structure Mk (K:PySem.W.Frag) (C f:Addr):Prop where
 makes:PySem.W.makesIn K C=true
 init:findIn K (.ref C) "__init__" = some (some (.ref f))
 fn:isFn K (.ref f)=true
 kp:keepIn K (.ref C)=true
end
def PK (X:Cx) (kws:List Keyword) (t:TA):Prop:=
 ∀ (pos:Pos) (pins:List (Addr × Obj)) (s:Shared) (Y:St) (H:Hp) (Q:List V->Hp->Prop),Inv X pins Y H s->t Y H Q->wpAny (model X.prog X.w) X.A (evalAll ((backToKw pos (keywordEach kws X.env)).map (·.2))) (AP X pins Y Q) X.xe s
section
variable {X:Cx} {CX:CXT} {k:Nat} {f C:Addr} {fd:FuncData} {ps ks:List Str} {sp:Sp} {E:XK} {x m:Str} {p pos apos kpos:Pos} {e o:Expr} {es:List Expr} {kws:List Keyword} {te ta:TE} {t tk:TA} {nm:Option Str}
theorem u_p:PK X [] x_y:=fun _ _ _ _ H Q I h=>wpAny_evalAll_nil ⟨[],H,I,.nil,h⟩
theorem r_G (ha:PE X e te) (hr:PK X kws t):PK X (⟨nm,e,kpos⟩ :: kws) (t_6 te t):=by
 intro pos pins s Y H Q I h
 show wpAny _ _ (evalAll ((do let v <-eval e X.env; standAt pos; pure v) :: (backToKw pos (keywordEach kws X.env)).map (·.2))) _ _ s
 refine wpAny_evalAll_cons (wpAny_bind (thn (ha pins s Y H _ I h) fun u s1 ⟨x,H1,I1,r1,q1⟩=>wpAny_bind (wpAny_standAt (wpAny_pure ?_))))
 exact thn (hr pos pins s1 Y H1 _ I1 q1) fun us s2 ⟨xs,H2,I2,r2,q2⟩=>⟨x :: xs,H2,I2,.cons r1 r2,q2⟩
variable {g:List Value->List Value->List Value} {gV:List V->List V->List V}
end
structure FnScope (N P:List Str) (sc:Scope):Prop where
 kind:sc.kind=.function
 co:sc.isCoroutine=false
 gen:sc.isGenerator=false
 nd:N.Nodup
 pre:N.take P.length=P
 par:∀ x ∈ P,sc.names.lookup x=some .local\/sc.names.lookup x=some .cell
 nofree:∀ y ∈ sc.names,y.2 ≠ .free
theorem k_X {kindOf:Str->Option NameKind} {x:Str}:∀ {binds:List (Str × Value)} {m:Str->Option Value},(∀ v,(x,v) ∉ binds)->bindL kindOf binds m x=m x
 | [],_,_=>rfl
 | (n,v) :: r,m,h=>by
  unfold bindL
  rw [k_X fun w hw=>h w (List.mem_cons_of_mem _ hw)]
  split
  ·have:x ≠ n:=by rintro rfl; exact h v List.mem_cons_self
   simp [this]
  ·rfl
theorem j_9 {kindOf:Str->Option NameKind} {x:Str}:∀ {binds:List (Str × Value)} {m:Str->Option Value},(∀ v,(x,v) ∉ binds)->bindC kindOf binds m x=m x
 | [],_,_=>rfl
 | (n,v) :: r,m,h=>by
  unfold bindC
  rw [j_9 fun w hw=>h w (List.mem_cons_of_mem _ hw)]
  split
  ·rfl
  ·have:x ≠ n:=by rintro rfl; exact h v List.mem_cons_self
   simp [this]
theorem k_M {kindOf:Str->Option NameKind} {x:Str} {v:Value}:∀ {P:List Str} {vs:List Value} {i:Nat} {m:Str->Option Value},P.Nodup->P[i]? = some x->vs[i]? = some v->kindOf x=some .local->
  bindL kindOf (P.zip vs) m x=some v
 | [],_,_,_,_,h,_,_=>by simp at h
 | _ :: _,[],_,_,_,_,h,_=>by simp at h
 | p :: P,w :: vs,0,m,nd,h1,h2,hk=>by
  simp at h1 h2; subst h1; subst h2
  show bindL kindOf ((p,w) :: P.zip vs) m p=_
  unfold bindL
  rw [k_X fun v hv=>(List.nodup_cons.mp nd).1 (List.of_mem_zip hv).1,if_pos hk]
  simp
 | p :: P,w :: vs,i + 1,m,nd,h1,h2,hk=>by
  show bindL kindOf ((p,w) :: P.zip vs) m x=_
  unfold bindL
  exact k_M (i:=i) (List.nodup_cons.mp nd).2 (by simpa using h1) (by simpa using h2) hk
theorem k_G {kindOf:Str->Option NameKind} {x:Str} {v:Value}:∀ {P:List Str} {vs:List Value} {i:Nat} {m:Str->Option Value},P.Nodup->P[i]? = some x->vs[i]? = some v->kindOf x ≠ some .local->
  bindC kindOf (P.zip vs) m x=some v
 | [],_,_,_,_,h,_,_=>by simp at h
 | _ :: _,[],_,_,_,_,h,_=>by simp at h
 | p :: P,w :: vs,0,m,nd,h1,h2,hk=>by
  simp at h1 h2; subst h1; subst h2
  show bindC kindOf ((p,w) :: P.zip vs) m p=_
  unfold bindC
  rw [j_9 fun v hv=>(List.nodup_cons.mp nd).1 (List.of_mem_zip hv).1,if_neg hk]
  simp
 | p :: P,w :: vs,i + 1,m,nd,h1,h2,hk=>by
  show bindC kindOf ((p,w) :: P.zip vs) m x=_
  unfold bindC
  exact k_G (i:=i) (List.nodup_cons.mp nd).2 (by simpa using h1) (by simpa using h2) hk
def start (N:List Str) (vs:List V):St:=vs.map some ++ List.replicate (N.length - vs.length) none
def p_8 (CX:CXT) (P:Program) (w:World) (K:PySem.W.Frag) (mg:Str->Option Value) (base:Heap) (N:List Str) (qual:Str) (scope:Scope) (f:Addr) (cd:Value) (A:Around) (outer:List Env) (s:Shared) (H:Hp) (E:XK):Cx where
 prog:=P
 w:=w
 K:=K
 mg:=mg
 base:=base
 A:=A.deeper (envOfC qual scope s.heap.objs.size f cd)
 N:=N
 s₀:=s
 H₀:=H
 env:=envOfC qual scope s.heap.objs.size f cd
 outer:=outer
 stack:=envOfC qual scope s.heap.objs.size f cd :: outer
 ex:=[]
 calm:=true
 fn:=fun _=>true
 pn:=[]
 xe:=fun e s'=>wpAny (model P w) (A.deeper (envOfC qual scope s.heap.objs.size f cd)) (leaving (envOfC qual scope s.heap.objs.size f cd) e) (fun _ s''=>CX outer H s E e s'') (fun e' s''=>CX outer H s E e' s'') s'
theorem l_7 {sc:Scope} {n:Nat} {x:Str} (h:sc.names.lookup x=some .cell):∃ c,(cellsFrom n sc.names []).lookup x=some c:=by
 have q:=PySem.W.cellsFrom_some sc.names n [] (.inl h)
 exact Option.isSome_iff_exists.mp q
theorem k_V {CX:CXT} {P:Program} {w:World} {K:PySem.W.Frag} {mg:Str->Option Value} {base:Heap} {N ps:List Str} {qual:Str} {scope:Scope} {f:Addr} {cd:Value} {A:Around} {outer:List Env} {s s1:Shared} {H:Hp} {E:XK} {us:List Value} {vs:List V}
  (S:FnScope N ps scope) (hd:A.handled=none) (e0:Env0 P w K mg base A outer s H) (hl:vs.length=ps.length) (r:b_y vs us)
  (x:InCallC s s.heap.objs.size (bindL (envOfC qual scope s.heap.objs.size f cd).kindOf (ps.zip us) fun _=>none) (cellsFrom (s.heap.objs.size + 1) scope.names []) (bindC (envOfC qual scope s.heap.objs.size f cd).kindOf (ps.zip us) fun _=>none) s1) :
  Inv (p_8 CX P w K mg base N qual scope f cd A outer s H E) [] (start N vs) H s1:=by
 have hpl:ps.length<=N.length:=by have:=congrArg List.length S.pre; rw [List.length_take] at this; omega
 obtain ⟨h1,tk,rfl,hk⟩:=x.done
 have noA:∀ b:Addr,b ∉ (p_8 CX P w K mg base N qual scope f cd A outer s H E).ex:=fun b z=>absurd (show b ∈ ([]:List Addr) from z) (by simp)
 refine ⟨⟨e0.mod,S.kind,rfl,rfl,Nat.le_refl _,fun y z c h1 h2=>?_,fun y hy=>?_,fun y c _ h=>?_,fun _=>hd,Around.frames_deeper e0.frames,.inr ⟨rfl,rfl⟩,fun b z=>absurd z (noA b),e0.bs,e0.bsz,fun b _ _=>noA b,fun b z=>absurd z (noA b),e0.funs,e0.frf⟩,
  rfl,e0.bare,Un.kept hk,⟨_,x.toInCall.ns,fun i y v h1 h2 h3=>?_⟩,fun y c h=>⟨_,x.cell y c h⟩,e0.hok.fresh (Nat.le_refl _),fun y c h=>?_,fun p hp=>absurd (show p ∈ ([]:List (Addr × Obj)) from hp) (by simp),e0.hok.kept hk,?_⟩
 ·exact name_of_addr x.apart (PySem.mem_of_lookup h1) (PySem.mem_of_lookup h2)
 ·have hy:scope.names.lookup y=some .cell\/scope.names.lookup y=some .free:=hy
  rcases hy with hy | hy
  ·exact l_7 hy
  ·exact absurd rfl (S.nofree _ (PySem.mem_of_lookup hy))
 ·exact Nat.le_of_lt (x.above y c (PySem.mem_of_lookup h))
 ·have hi:i < vs.length:=by
   unfold start at h2
   by_cases hi:i < vs.length
   ·exact hi
   ·rw [List.getElem?_append_right (by simpa using hi)] at h2
    rw [List.getElem?_replicate] at h2
    split at h2 <;> cases h2
  have ha:vs[i]? = some v:=by
   unfold start at h2
   rw [List.getElem?_append_left (by simpa using hi),List.getElem?_map] at h2
   cases e:vs[i]? with
   | none=>rw [e] at h2; cases h2
   | some a=>rw [e] at h2; cases h2; rfl
  obtain ⟨u,hu,rv⟩:=r.get ha
  have hp:ps[i]? = some y:=by
   rw [<-S.pre,List.getElem?_take_of_lt (by omega)]; exact h1
  have ndP:ps.Nodup:=by rw [<-S.pre]; exact S.nd.sublist (List.take_sublist _ _)
  refine ⟨u,rv,?_⟩
  rcases S.par y (List.mem_of_getElem? hp) with k | k
  ·exact .inl ⟨k,k_M ndP hp hu k⟩
  ·obtain ⟨c,e⟩:=l_7 (n:=s.heap.objs.size + 1) k
   refine .inr ⟨.inl k,c,e,?_⟩
   have q:=x.cell y c e
   rw [k_G ndP hp hu (by show scope.names.lookup y ≠ _; rw [k]; decide)] at q
   exact q
 ·exact e0.hok.fresh (Nat.le_of_lt (x.above y c (PySem.mem_of_lookup h)))
 ·unfold start
  show _=N.length
  rw [List.length_append,List.length_map,List.length_replicate]
  omega
theorem w_L {CX:CXT} {P:Program} {w:World} {K:PySem.W.Frag} {mg:Str->Option Value} {base:Heap} {k:Nat} {f:Addr} {name qual:Str} {params:Arguments} {body:List Stmt} {scope:Scope} {dV kV doc pm cdv ct oc:Value} {an od:Option Addr}
  {osl:Array (Option Value)} {N ps:List Str} {sp:Sp} (lk:K.lookup f=some ⟨oc,od,.func (fnOf name qual params body scope dV kV doc pm an cdv ct),osl⟩) (hcd:codeIn K cdv qual=true) (S:FnScope N ps scope)
  (len:∀ vs H Q E,sp vs H Q E->vs.length=ps.length)
  (hbody:∀ (A:Around) (outer:List Env) (s:Shared) (H:Hp) (vs:List V) (Q:VK) (E:XK),Room k (A.deeper (envOfC qual scope s.heap.objs.size f cdv))->sp vs H Q E->
   ∃ t,PSs (p_8 CX P w K mg base N qual scope f cdv A outer s H E) body t/\t { nx:=fun _ H'=>Q .non H',rt:=Q } (start N vs) H) :
  FnOk P w K mg base CX (k + 1) f (fnOf name qual params body scope dV kV doc pm an cdv ct) ps sp:=by
 refine ⟨len,fun A outer s H args us vs Q E hr e0 hb r hsp=>?_⟩
 have hl:=len _ _ _ _ hsp
 have KX:K.In s.heap:=e0.mod.kin.keeps fun b o e=>(e0.bs b o e).1
 have lim:s.heap.NoLimit:=e0.mod.nolimit.keeps fun b o e=>(e0.bs b o e).1
 have hkind:∀ y ∈ ps.zip us,scope.names.lookup y.1=some .local\/(scope.names.lookup y.1=some .cell/\((cellsFrom (s.heap.objs.size + 1) scope.names []).lookup y.1).isSome=true):=fun ⟨n,v⟩ hy=>by
  rcases S.par n (List.of_mem_zip hy).1 with q | q
  ·exact .inl q
  ·exact .inr ⟨q,PySem.W.cellsFrom_some _ _ _ (.inl q)⟩
 refine codeAny_call_function hr.depth (KX _ _ lk) rfl S.co S.gen rfl (PySem.W.codeRec_of KX hcd) (hb _ _ _ _ ?_)
 refine wpAny_newFunctionEnv_cells S.kind hkind fun env he s1 x=>?_
 subst he
 refine ⟨lim.keeps x.toInCall.keep,codeAny_func ?_⟩
 obtain ⟨t,ht,hq⟩:=hbody A outer s H vs Q E (hr.deeper _) hsp
 have I:Inv (p_8 CX P w K mg base N qual scope f cdv A outer s H E) [] (start N vs) H s1:=k_V S hr.hd e0 hl r x
 refine wpAny_mono (ht [] s1 (start N vs) H _ I hq) (fun fl s' hs=>?_) fun e s' hs=>hs
 have fin:∀ {Y':St} {H':Hp} {v:V} {u:Value},Inv (p_8 CX P w K mg base N qual scope f cdv A outer s H E) [] Y' H' s'->b_P v u->Q v H'->CE outer P w H s Q u s':=
  fun {Y' H' v u} J rv q=>⟨v,H',J.os,J.bare,J.base,J.hok,rv,q⟩
 cases fl with
 | ret u=>
  obtain ⟨v,Y',H',J,rv,q⟩:=hs
  exact fin J rv q
 | next=>
  obtain ⟨Y',H',J,q⟩:=hs
  exact fin (v:=V.non) (u:=Value.none) J rfl q
 | brk=>
  obtain ⟨_,_,_,q⟩:=hs
  exact False.elim q
 | cont=>
  obtain ⟨_,_,_,q⟩:=hs
  exact False.elim q
section
variable {X:Cx} {x:Str} {p pos:Pos} {e:Expr} {es:List Expr} {t:TA} {id T:String} {r:List V->Hp->VK->Prop}
def tCB (r:List V->Hp->VK->Prop) (t:TA):TE:=fun Y H Q=>t Y H fun vs H1=>r vs H1 Q
theorem f_v (hc:h_2 X (.builtin id) r) (hg:Gl X x) (hm:X.mg x=none) (hv:bootBuiltins x=some (.builtin id)) (ha:PA X (e :: es) t) (hn:x ≠ "__name__":=by decide) (hdb:(x == ("__debug__":Str))=false:=by decide)
  (he:starEach (e :: es) X.env=(false,eval e X.env) :: starEach es X.env:=by rfl) (hpl:(backTo pos (starEach es X.env)).any (·.1)=false:=by rfl):PE X (.Call (.Name x p) (e :: es) [] pos) (tCB r t):=by
 intro pins s Y H Q I h
 refine wpAny_Call_Name_kw (h_f I hg hm hv ?_ hn hdb)
 exact PyProof.Rows.callWith_builtin1 (thn (ha pos pins s Y H _ I h) fun us s1 ⟨vs,H1,I1,r1,q1⟩=>hc pins s1 Y H1 vs us Q I1 r1 q1) he hpl
theorem h_8 (hc:h_2 X (.type T) r) (hg:Gl X x) (hm:X.mg x=none) (hv:bootBuiltins x=some (.type T)) (ha:PA X (e :: es) t) (hn:x ≠ "__name__":=by decide) (hdb:(x == ("__debug__":Str))=false:=by decide)
  (he:starEach (e :: es) X.env=(false,eval e X.env) :: starEach es X.env:=by rfl) (hpl:(backTo pos (starEach es X.env)).any (·.1)=false:=by rfl):PE X (.Call (.Name x p) (e :: es) [] pos) (tCB r t):=by
 intro pins s Y H Q I h
 refine wpAny_Call_Name_kw (h_f I hg hm hv ?_ hn hdb)
 exact PyProof.Rows.callWith_type1 (thn (ha pos pins s Y H _ I h) fun us s1 ⟨vs,H1,I1,r1,q1⟩=>hc pins s1 Y H1 vs us Q I1 r1 q1) he hpl
end
end L2
namespace HT
open PySem PyProof.Rows
def lexLt:List Int->List Int->Bool
 | [],[]=>false
 | [],_ :: _=>true
 | _ :: _,[]=>false
 | x :: xs,y :: ys=>if x=y then lexLt xs ys else decide (x < y)
theorem n_c (x y:Int) (xs ys:List Int):lexLt (x :: xs) (y :: ys)=if x=y then lexLt xs ys else decide (x < y):=rfl
theorem j_g:lexLt [] []=false:=rfl
theorem i_M (y:Int) (ys:List Int):lexLt [] (y :: ys)=true:=rfl
theorem i_E (x:Int) (xs:List Int):lexLt (x :: xs) []=false:=rfl
theorem p_X (A:Around) (s:Shared) (a:Int) (t:Tok) (c:Int) (u:Tok):∃ e,SeqAt.EqAt A s (.int a t) (.int c u) e/\(e=true ↔ a=c):=
 ⟨(a == c),SeqAt.EqAt.int_int a t c u,by simp⟩
theorem p_K (A:Around) (s:Shared) (a:Int) (t:Tok) (c:Int) (u:Tok) (prog:Program) (w:World) (E:Value->Shared->Prop) (Q:Value->Shared->Prop) (h:Q (.bool (decide (a < c))) s) :
  wpAny (model prog w) A (richCompare .Lt (.int a t) (.int c u)) Q E s:=
 (PyProof.Rows.lt_int h:wpAny (model prog w) A (compareOp .Lt (.int a t) (.int c u)) Q E s)
section
open PySem.SeqAt
open PySem.AutoSeq1 (wpAny_loadPart')
open PySem.MeetsSeq PySem.MeetsSeq2 PySem.MeetsSeq3
theorem j_D (l b:Addr) (items items2:Array Value) (n n2:Nat) (dd dd2:Option Addr) (sl sl2:Array (Option Value)) (ns ms:List Int) (hi:IntsAre items.toList ns) (hj:IntsAre items2.toList ms) :
  Meets (Builtin.«tuple.__lt__» ⟨[.ref l,.ref b],[]⟩)
   (fun _ R s=>s.heap.get? l=some { cls:=.type "tuple",dict:=dd,data:=.seq items n,slots:=sl }/\s.heap.get? b=some { cls:=.type "tuple",dict:=dd2,data:=.seq items2 n2,slots:=sl2 }/\
    R (.ok (.ret (.bool (lexLt ns ms)))) s):=
 .of_wp fun prog w A R s h=>by
  obtain ⟨hp,g,d,tk,os⟩:=s; obtain ⟨hl,hb,h⟩:=h
  have f2:=AutoSeq1.sub_tuple_tuple
  have z1:items.size=ns.length:=by rw [<-hi.length]; simp
  have z2:items2.size=ms.length:=by rw [<-hj.length]; simp
  wp_walk using wpAny_loadPart' hl,wpAny_loadPart' hb,wpAny_forIn_list _ (fun rest b s'=>b.1=none/\s' = ⟨hp,g,d,tk,os⟩/\∃ (vs ws:List Value) (ns' ms':List Int),rest=vs.zip ws/\
   IntsAre vs ns'/\IntsAre ws ms'/\ns'.length + items2.size=ms'.length + items.size/\R (.ok (.ret (.bool (lexLt ns' ms')))) ⟨hp,g,d,tk,os⟩) _
  case turn=>
   rintro ⟨y,x⟩ rest b s' ⟨hb',rfl,vs,ws,ns',ms',hz,hvi,hwi,hlen,hR⟩
   cases hvi with
   | nil=>rw [List.zip_nil_left] at hz; cases hz
   | cons a t hvi'=>
    cases hwi with
    | nil=>rw [List.zip_nil_right] at hz; cases hz
    | cons c u hwi'=>
     rw [List.zip_cons_cons] at hz
     injection hz with hyx hrest
     injection hyx with hy hx
     subst hy hx
     rw [n_c] at hR
     simp only [List.length_cons] at hlen
     obtain ⟨e,he,hiff⟩:=p_X A.in1 ⟨hp,g,d,tk,os⟩ a t c u
     refine wpAny_bind (he prog w _ _ ?_)
     cases e with
     | true=>
      rw [if_pos (hiff.mp rfl)] at hR
      wp_walk
      exact ⟨rfl,rfl,_,_,_,_,hrest,hvi',hwi',by omega,hR⟩
     | false=>
      rw [if_neg (fun q=>absurd (hiff.mpr q) Bool.false_ne_true)] at hR
      have hri:=p_K A.in1 ⟨hp,g,d,tk,os⟩ a t c u prog w
      wp_walk using hri
      exact ⟨_,rfl,by simpa using hR⟩
  case fin=>
   rintro ⟨b1,b2⟩ s' ⟨hb',rfl,vs,ws,ns',ms',hz,hvi,hwi,hlen,hR⟩
   simp only at hb'
   subst hb'
   have hv:lexLt ns' ms' = decide (items.size < items2.size):=by
    cases hvi with
    | nil=>
     cases hwi with
     | nil=>
      simp only [List.length_nil] at hlen
      rw [j_g]
      exact (decide_eq_false (by omega)).symm
     | cons c u hw=>
      simp only [List.length_nil,List.length_cons] at hlen
      rw [i_M]
      exact (decide_eq_true (by omega)).symm
    | cons a t hv=>
     cases hwi with
     | nil=>
      simp only [List.length_nil,List.length_cons] at hlen
      rw [i_E]
      exact (decide_eq_false (by omega)).symm
     | cons c u hw=>
      rw [List.zip_cons_cons] at hz
      cases hz
   rw [hv] at hR
   wp_walk
   exact ⟨_,rfl,by simpa [Builtin.Tuple.tupleCompareSizes] using hR⟩
  case h=>
   exact ⟨rfl,rfl,items.toList,items2.toList,ns,ms,rfl,hi,hj,by omega,h⟩
end
section
variable {prog:Program} {w:World} {A:Around} {E:Value->Shared->Prop} {s:Shared}
theorem lt_tupInts {l b:Addr} {items items2:Array Value} {ns ms:List Int} {Q:Value->Shared->Prop} (hl:IsTup s.heap l items) (hb:IsTup s.heap b items2) (hi:IntsAre items.toList ns) (hj:IntsAre items2.toList ms)
  (hu:A.units < cLine) (h:Q (.bool (lexLt ns ms)) s):wpAny (model prog w) A (compareOp .Lt (.ref l) (.ref b)) Q E s:=by
 obtain ⟨⟨cls,dd,data,sl⟩,ho,hc,n,hd⟩:=id hl
 obtain ⟨⟨cls2,dd2,data2,sl2⟩,ho2,hc2,n2,hd2⟩:=id hb
 simp only at hc hd hc2 hd2
 subst hc hd hc2 hd2
 exact richCompare_meets_room (op:=.Lt) ⟨_,ho,rfl⟩ ⟨_,ho2,rfl⟩ PySem.F.slot_tuple_lt PySem.F.entry_tuple_lt (PySem.F.args_tuple_lt_2 _ _) (j_D l b items items2 n n2 dd dd2 sl sl2 ns ms hi hj)
  ⟨ho,ho2,show Value.bool (lexLt ns ms) ≠ Value.notImplemented/\Q (.bool (lexLt ns ms)) s from ⟨(fun x=>nomatch x),h⟩⟩ hu
def sIx (n d:Nat):Option Int->Nat
 | none=>d
 | some v=>if v < 0 then (v + (n:Int)).toNat else min v.toNat n
theorem sIx_none (n d:Nat):sIx n d none=d:=rfl
theorem sIx_nat (n d k:Nat):sIx n d (some (k:Int))=min k n:=by
 show (if (k:Int) < 0 then ((k:Int) + (n:Int)).toNat else min (k:Int).toNat n)=min k n
 rw [if_neg (by omega),Int.toNat_natCast]
theorem v_k (n d:Nat) (hd:d<=n) (o:Option Int):sIx n d o<=n:=by
 cases o with
 | none=>exact hd
 | some v=>
  show (if v < 0 then (v + (n:Int)).toNat else min v.toNat n)<=n
  by_cases hv:v < 0
  ·rw [if_pos hv]; omega
  ·rw [if_neg hv]; exact Nat.min_le_right _ _
theorem o_N (v:Int) (n d:Nat):(if v < 0 then max (v + (n:Int)) 0 else min v (n:Int))=((sIx n d (some v):Nat):Int):=by
 show (if v < 0 then max (v + (n:Int)) 0 else min v (n:Int))=(((if v < 0 then (v + (n:Int)).toNat else min v.toNat n):Nat):Int)
 by_cases hv:v < 0
 ·simp only [if_pos hv]; omega
 ·simp only [if_neg hv]; omega
theorem m_X (lo hi:Option Int) (n:Nat):Builtin.Slice.sliceAdjust lo hi 1 (n:Int)=(((sIx n 0 lo:Nat):Int),((sIx n n hi:Nat):Int)):=by
 have h1:¬ ((1:Int) < 0):=by omega
 unfold Builtin.Slice.sliceAdjust
 simp only [h1,if_false]
 refine Prod.ext ?_ ?_
 ·cases lo with
  | none=>rfl
  | some v=>exact o_N v n 0
 ·cases hi with
  | none=>rfl
  | some v=>exact o_N v n n
theorem m_T (i j:Nat):Builtin.Slice.slicePlaces (i:Int) (j:Int) 1=j - i:=by
 unfold Builtin.Slice.slicePlaces
 have h1:(1:Int) > 0:=by omega
 simp only [h1,if_true,Int.ediv_one]
 split <;> omega
theorem i_4 {v:Value} {o:Option Int} {Q:Option Int->Shared->Prop} (p:IsPart v o) (h:Q o s):wpAny (model prog w) A (Builtin.Slice.slicePartIndex v) Q E s:=by
 cases p with
 | none=>exact slicePart_none h
 | int i t=>exact slicePart_int h
theorem e_U {sl:Addr} {vl vu:Value} {lo hi:Option Int} {n:Nat} {Q:Int × Int × Nat->Shared->Prop} (hs:s.heap.IsSliceOf sl vl vu .none) (pl:IsPart vl lo) (pu:IsPart vu hi)
  (h:Q (((sIx n 0 lo:Nat):Int),1,sIx n n hi - sIx n 0 lo) s):wpAny (model prog w) A (Builtin.Slice.sliceApplied (.ref sl) (pure (n:Int))) Q E s:=by
 obtain ⟨os,hos,hcs,hds⟩:=id hs
 unfold Builtin.Slice.sliceApplied Builtin.Slice.sliceFields
 refine wpAny_bind (wpAny_bind (wpAny_field hos hds (x:=vl) rfl (wpAny_bind (wpAny_field hos hds (x:=vu) rfl (wpAny_bind (wpAny_field hos hds (x:=.none) rfl (wpAny_pure ?_)))))))
 refine wpAny_bind (slicePart_none ?_)
 show wpAny _ _ (if ((1:Int) == 0)=true then _ else _) _ _ s
 rw [if_neg (by decide)]
 refine wpAny_bind (i_4 pl (wpAny_bind (i_4 pu (wpAny_bind (wpAny_pure ?_)))))
 show wpAny _ _ (match Builtin.Slice.sliceAdjust lo hi 1 (n:Int) with | (lo,hi)=>pure (lo,(1:Int),Builtin.Slice.slicePlaces lo hi 1)) _ _ s
 rw [m_X lo hi n]
 show wpAny _ _ (pure (((sIx n 0 lo:Nat):Int),(1:Int),Builtin.Slice.slicePlaces ((sIx n 0 lo:Nat):Int) ((sIx n n hi:Nat):Int) 1)) _ _ s
 rw [m_T]
 exact wpAny_pure h
theorem q_z (xs:Array Value) (i k:Nat):((List.range k).filterMap fun (m:Nat)=>xs[((i:Int) + (m:Int) * 1).toNat]?).toArray=((xs.toList.drop i).take k).toArray:=by
 have e:(fun (m:Nat)=>xs[((i:Int) + (m:Int) * 1).toNat]?)=fun m=>xs[i + m]?:=by
  funext m
  have:((i:Int) + (m:Int) * 1).toNat=i + m:=by omega
  rw [this]
 rw [e]
 have:=pick_run xs i k
 rw [List.filterMap_map] at this
 have e2:((fun x=>xs[x]?) ∘ fun x=>i + x)=fun m=>xs[i + m]?:=rfl
 rw [e2] at this
 rw [this]
theorem getItem_tuple_cut {t sl:Addr} {items:Array Value} {vl vu:Value} {lo hi:Option Int} {Q:Value->Shared->Prop} (ht:IsTup s.heap t items) (hs:s.heap.IsSliceOf sl vl vu .none) (pl:IsPart vl lo) (pu:IsPart vu hi)
  (hw:¬ (sIx items.size 0 lo=0/\sIx items.size items.size hi=items.size))
  (h:Q (.ref s.heap.objs.size) { s with heap:=s.heap.push { cls:=.type "tuple",data:=.seq ((items.toList.drop (sIx items.size 0 lo)).take (sIx items.size items.size hi - sIx items.size 0 lo)).toArray } })
  (hsz:items.size<=sizeLine):wpAny (model prog w) A (getItem (.ref t) (.ref sl)) Q E s:=by
 have htake:sizeOk (.seq ((items.toList.drop (sIx items.size 0 lo)).take (sIx items.size items.size hi - sIx items.size 0 lo)).toArray):=by
  show ((items.toList.drop (sIx items.size 0 lo)).take (sIx items.size items.size hi - sIx items.size 0 lo)).toArray.size<=sizeLine
  rw [List.size_toArray,List.length_take,List.length_drop,Array.length_toList]
  omega
 have hj:sIx items.size items.size hi<=items.size:=v_k _ _ (Nat.le_refl _) hi
 obtain ⟨os,hos,hcs,hds⟩:=id hs
 have hTs:s.TypeIs (.ref sl) "slice":=⟨os,hos,hcs⟩
 unfold getItem
 try with_reducible refine wpAny_holding ?_
 first | refine wpAny_bind (wpAny_pure ?_) | skip
 refine wpAny_bind (wpAny_sequenceKey ht.typeIs (by decide) ?_)
 refine wpAny_bind (wpAny_callSpecial?_slot (name:=Str.ofString "__getitem__") ht.typeIs PyProof.Rows.slot_tuple_getitem
  (wpAny_call_entry PyProof.Rows.slot_tuple_getitem ht.typeIs entry_tuple_getitem ?_ (args_tuple_getitem _ _)))
 show wpAny _ _ (Builtin.Tuple.tupleItemsOf (.ref t) >>= _) _ _ s
 refine wpAny_bind (tupleItemsOf_ ht ?_)
 refine wpAny_bind (wpAny_typeOf hTs ?_)
 rw [if_pos (by decide)]
 refine wpAny_bind (e_U hs pl pu ?_)
 have hno:¬ ((((sIx items.size 0 lo:Nat):Int) == 0 && (1:Int) == 1 && (sIx items.size items.size hi - sIx items.size 0 lo) == items.size)=true):=by
  intro q
  rw [Bool.and_eq_true,Bool.and_eq_true] at q
  have q1:((sIx items.size 0 lo:Nat):Int)=0:=eq_of_beq q.1.1
  have q2:sIx items.size items.size hi - sIx items.size 0 lo=items.size:=eq_of_beq q.2
  exact hw ⟨by omega,by omega⟩
 show wpAny _ _ (if (((sIx items.size 0 lo:Nat):Int) == 0 && (1:Int) == 1 && (sIx items.size items.size hi - sIx items.size 0 lo) == items.size)=true then _ else _) _ _ s
 rw [if_neg hno,q_z]
 first
  | exact wpAny_bind (m:=Builtin.Tuple.tupleExact _) (wpAny_newObj_type (wpAny_pure ⟨_,rfl,wpAny_pure h⟩) htake)
  | exact wpAny_bind (m:=Builtin.Tuple.tupleExact _) (wpAny_newObj_type (wpAny_bind (wpAny_pure (wpAny_pure ⟨_,rfl,wpAny_pure h⟩))) htake)
  | exact wpAny_bind (wpAny_bind (m:=Builtin.Tuple.tupleExact _) (wpAny_newObj_type (wpAny_pure (wpAny_pure ⟨_,rfl,wpAny_pure h⟩)) htake))
  | exact wpAny_bind (wpAny_bind (m:=Builtin.Tuple.tupleExact _) (wpAny_newObj_type (wpAny_pure ⟨_,rfl,wpAny_pure h⟩) htake))
end
end HT
namespace L2
open PySem PySem.Spec PyProof.Rows
abbrev TO:=St->Hp->(Option Int->Hp->Prop)->Prop
def PO (X:Cx) (e:Option Expr) (t:TO):Prop:=
 ∀ (pins:List (Addr × Obj)) (s:Shared) (Y:St) (H:Hp) (Q:Option Int->Hp->Prop),Inv X pins Y H s->t Y H Q->
  wpAny (model X.prog X.w) X.A (evalPart e X.env) (fun u s'=>∃ o H',Inv X pins Y H' s'/\IsPart u o/\Q o H') X.xe s
def s_6:TO:=fun _ H Q=>Q none H
def x_n (t:TE):TO:=fun Y H Q=>t Y H fun x H1=>∃ i,x=.int i/\Q (some i) H1
section
variable {X:Cx} {e:Expr} {te:TE} {lo hi:Option Expr} {tl th:TO} {pos p2:Pos}
theorem o_E:PO X none s_6:=by
 intro pins s Y H Q I h
 rw [evalPart_none]
 exact wpAny_pure ⟨none,H,I,.none,h⟩
theorem o_f (h:PE X e te):PO X (some e) (x_n te):=by
 intro pins s Y H Q I hw
 rw [evalPart_some]
 refine thn (h pins s Y H _ I hw) fun u s1 ⟨x,H1,I1,r1,q1⟩=>?_
 obtain ⟨i,rfl,q⟩:=q1
 obtain ⟨t,rfl⟩:=r1
 exact ⟨some i,H1,I1,.int i t,q⟩
def SlR (X:Cx) (r:V->Option Int->Option Int->Hp->VK->Prop):Prop:=
 ∀ (pins:List (Addr × Obj)) (s:Shared) (Y:St) (H:Hp) (x:V) (v vl vu:Value) (lo hi:Option Int) (sl:Addr) (Q:VK),Inv X pins Y H s->b_P x v->s.heap.IsSliceOf sl vl vu .none->IsPart vl lo->IsPart vu hi->r x lo hi H Q->
  ∃ T id,typeLookup (.type T) "__getitem__" = pure (some (.builtin id))/\s.TypeIs v T/\wpAny (model X.prog X.w) X.A (getItem v (.ref sl)) (EP X pins Y Q) X.xe s
theorem SlR.or {r r':V->Option Int->Option Int->Hp->VK->Prop} (h:SlR X r) (h':SlR X r'):SlR X (fun x lo hi H Q=>r x lo hi H Q\/r' x lo hi H Q):=by
 intro pins s Y H x v vl vu lo hi sl Q I rx hs pl pu q
 rcases q with q | q
 ·exact h pins s Y H x v vl vu lo hi sl Q I rx hs pl pu q
 ·exact h' pins s Y H x v vl vu lo hi sl Q I rx hs pl pu q
def tSl (r:V->Option Int->Option Int->Hp->VK->Prop) (te:TE) (tl th:TO):TE:=fun Y H Q=>te Y H fun x H1=>tl Y H1 fun l H2=>th Y H2 fun u H3=>r x l u H3 Q
theorem m_E {r:V->Option Int->Option Int->Hp->VK->Prop} (hr:SlR X r) (he:PE X e te) (hl:PO X lo tl) (hu:PO X hi th):PE X (.Subscript e (.Slice lo hi none p2) pos) (tSl r te tl th):=by
 intro pins s Y H Q I h
 refine Subscript_ (thn (he pins s Y H _ I h) fun v s1 ⟨x,H1,I1,r1,q1⟩=>?_)
 refine wpAny_Slice (thn (hl pins s1 Y H1 _ I1 q1) fun vl s2 ⟨l,H2,I2,pl,q2⟩=>thn (hu pins s2 Y H2 _ I2 q2) fun vu s3 ⟨u,H3,I3,pu,q3⟩=>?_)
 rw [evalPart_none]
 refine wpAny_pure ?_
 have I4:Inv X pins Y H3 { s3 with heap:=s3.heap.push { cls:=.type "slice",data:=.fields #[vl,vu,.none] } }:=I3.kept (t':=s3.toks) fun b ob q=>Heap.get?_push_of_some _ q
 obtain ⟨T,id,hT,ht,hg⟩:=hr pins { s3 with heap:=s3.heap.push { cls:=.type "slice",data:=.fields #[vl,vu,.none] } } Y H3 x v vl vu l u s3.heap.objs.size Q I4 r1 (Heap.IsSliceOf.new ..) pl pu q3
 show wpAny (model X.prog X.w) X.A (subscriptTail e (.Slice lo hi none p2) v (.ref s3.heap.objs.size)) (EP X pins Y Q) X.xe { s3 with heap:=s3.heap.push { cls:=.type "slice",data:=.fields #[vl,vu,.none] } }
 exact tail_any (ops:=[.ref s3.heap.objs.size,v]) ht hT hg (by with_unfolding_all rfl)
def p_s (xs:List V) (lo hi:Option Int):List V:=(xs.drop (HT.sIx xs.length 0 lo)).take (HT.sIx xs.length xs.length hi - HT.sIx xs.length 0 lo)
theorem i_m (xs:List V) (lo hi:Option Int):(p_s xs lo hi).length<=xs.length:=by
 unfold p_s
 rw [List.length_take,List.length_drop]
 omega
def y_F (K:PySem.W.Frag):V->Option Int->Option Int->Hp->VK->Prop:=fun x lo hi H Q=>∃ a xs,x=.ref a/\SqT K H a xs/\
 ¬ (HT.sIx xs.length 0 lo=0/\HT.sIx xs.length xs.length hi=xs.length)/\∀ p,H p=none->Q (.ref p) (upd H p (.tup (p_s xs lo hi)))
theorem u_W:SlR X (y_F X.K):=by
 intro pins s Y H x v vl vu lo hi sl Q I rx hs pl pu h
 obtain ⟨a,xs,rfl,hx,hw,q⟩:=h
 cases rx
 obtain ⟨its,r,ht,hz⟩:=I.tuple hx
 have hlen:its.toArray.size=xs.length:=by rw [List.size_toArray]; exact r.length.symm
 refine ⟨"tuple",_,PyProof.Rows.slot_tuple_getitem.lookup,ht.typeIs,?_⟩
 refine HT.getItem_tuple_cut ht hs pl pu (by rw [hlen]; exact hw) ?_ (by rw [hlen]; exact hz)
 rw [hlen]
 refine ⟨.ref s.heap.objs.size,_,I.laid (t':=s.toks) (o:=.tup (p_s xs lo hi)) (fun b ob q=>Heap.get?_push_of_some _ q) (Nat.le_refl _) ?_,rfl,q _ (I.hok.fresh (Nat.le_refl _))⟩
 exact ⟨Nat.le_trans (i_m xs lo hi) hz,_,(r.drop (HT.sIx xs.length 0 lo)).take (HT.sIx xs.length xs.length hi - HT.sIx xs.length 0 lo),IsTup.new _ _⟩
end
def ixN (n:Nat) (i:Int):Option Nat:=if 0<=i then (if i < n then some i.toNat else none) else if -(n:Int)<=i then some (i + n).toNat else none
def atI {α:Type} (xs:List α) (i:Int):Option α:=(ixN xs.length i).bind fun j=>xs[j]?
theorem o_x {n:Nat} {i:Int} {j:Nat} (h:ixN n i=some j):seqIndex? i n=some j/\j < n/\-(n:Int)<=i/\i < n:=by
 unfold ixN at h
 by_cases h0:0<=i
 ·rw [if_pos h0] at h
  by_cases h1:i < n
  ·rw [if_pos h1] at h
   have e:i.toNat=j:=Option.some.inj h
   exact ⟨by rw [seqIndex_of h0 h1,e],by omega,by omega,h1⟩
  ·rw [if_neg h1] at h; cases h
 ·rw [if_neg h0] at h
  by_cases h1:-(n:Int)<=i
  ·rw [if_pos h1] at h
   have e:(i + n).toNat=j:=Option.some.inj h
   exact ⟨by rw [seqIndex_neg (by omega) h1,e],by omega,h1,by omega⟩
  ·rw [if_neg h1] at h; cases h
theorem n_Z {α:Type} {xs:List α} {i:Int} {v:α} (h:atI xs i=some v):∃ j,seqIndex? i xs.length=some j/\xs[j]? = some v/\j < xs.length/\-(xs.length:Int)<=i/\i < xs.length:=by
 unfold atI at h
 cases e:ixN xs.length i with
 | none=>rw [e] at h; cases h
 | some j=>
  rw [e] at h
  obtain ⟨h1,h2,h3,h4⟩:=o_x e
  exact ⟨j,h1,h,h2,h3,h4⟩
def h_7 (b:Expr):Prop:=∀ o i,subscripted b false o i=operate [o,i] (getItem o i)
def IxR (X:Cx) (r:R2):Prop:=
 ∀ (value slice:Expr) (pins:List (Addr × Obj)) (s:Shared) (Y:St) (H:Hp) (x y:V) (v u:Value) (Q:VK),Inv X pins Y H s->b_P x v->b_P y u->r x y H Q->
  subscripted slice false v u=operate [v,u] (getItem v u)->wpAny (model X.prog X.w) X.A (subscriptTail value slice v u) (EP X pins Y Q) X.xe s
def MtR (X:Cx) (id:String) (r:V->List V->Hp->VK->Prop):Prop:=
 ∀ (pins:List (Addr × Obj)) (s:Shared) (Y:St) (H:Hp) (x:V) (xs:List V) (v:Value) (us:List Value) (Q:VK),Inv X pins Y H s->b_P x v->b_y xs us->r x xs H Q->
  wpAny (model X.prog X.w) X.A (call (.builtin id) (v :: us)) (EP X pins Y Q) X.xe s
section
variable {X:Cx} {a b:Expr} {ta tb:TE} {pos:Pos}
theorem IxR.or {r r':R2} (h:IxR X r) (h':IxR X r'):IxR X (fun x y H Q=>r x y H Q\/r' x y H Q):=by
 intro value slice pins s Y H x y v u Q I rx ry q hs
 rcases q with q | q
 ·exact h value slice pins s Y H x y v u Q I rx ry q hs
 ·exact h' value slice pins s Y H x y v u Q I rx ry q hs
theorem s_n {r:R2} (hr:IxR X r) (ha:PE X a ta) (hb:PE X b tb) (hs:h_7 b):PE X (.Subscript a b pos) (tOp r ta tb):=by
 intro pins s Y H Q I h
 exact Subscript_ (w_w ha hb I h fun v u s2 x y H2 I2 rx ry q=>hr a b pins s2 Y H2 x y v u Q I2 rx ry q (hs _ _))
def w_C (K:PySem.W.Frag):R2:=fun x y H Q=>∃ p xs i v,x=.ref p/\y=.int i/\SqL K H p xs/\atI xs i=some v/\Q v H
def w_6 (K:PySem.W.Frag):R2:=fun x y H Q=>∃ p xs i v,x=.ref p/\y=.int i/\SqT K H p xs/\atI xs i=some v/\Q v H
theorem l_w:IxR X (w_C X.K):=by
 intro value slice pins s Y H x y v u Q I rx ry h hs
 obtain ⟨p,xs,i,z,rfl,rfl,hq,he,q⟩:=h
 cases rx
 obtain ⟨t,rfl⟩:=ry
 obtain ⟨its,r,pl,hz⟩:=I.list hq
 obtain ⟨j,h1,h2,h3,h4,h5⟩:=n_Z he
 obtain ⟨w,ew,rw'⟩:=r.get h2
 have hl:=r.length
 have hn:=line63
 have fin:EP X pins Y Q w s:=⟨z,H,I,rw',q⟩
 by_cases h0:0<=i
 ·have hj:i.toNat=j:=by
   rw [seqIndex_of h0 h5] at h1
   exact Option.some.inj h1
  exact item_listR pl.isList h0 (by omega) (by rw [hj]; simpa using ew) fin hs
 ·have hj:(i + (its.toArray.size:Int)).toNat=j:=by
   rw [seqIndex_neg (by omega) h4] at h1
   rw [List.size_toArray,<-hl]
   exact Option.some.inj h1
  exact subscriptTail_builtinR (x:=w) pl.isList.typeIs slot_list_getitem.lookup
   (wpAny_getItem_list_neg (Q:=fun r s'=>r=w/\EP X pins Y Q r s') pl.isList (by omega) (by rw [List.size_toArray] <;> omega) (by omega) (by rw [hj]; simpa using ew) ⟨rfl,fin⟩) hs
theorem u_Z:IxR X (w_6 X.K):=by
 intro value slice pins s Y H x y v u Q I rx ry h hs
 obtain ⟨p,xs,i,z,rfl,rfl,hq,he,q⟩:=h
 cases rx
 obtain ⟨t,rfl⟩:=ry
 obtain ⟨its,r,pl,hz⟩:=I.tuple hq
 obtain ⟨j,h1,h2,h3,h4,h5⟩:=n_Z he
 obtain ⟨w,ew,rw'⟩:=r.get h2
 have hl:=r.length
 have hn:=line63
 have fin:EP X pins Y Q w s:=⟨z,H,I,rw',q⟩
 exact subscriptTail_builtinR (x:=w) pl.typeIs slot_tuple_getitem.lookup
  (getItem_tuple (j:=j) (Q:=fun r s'=>r=w/\EP X pins Y Q r s') pl (by omega) (by omega) (by rw [List.size_toArray,<-hl]; exact h1) (by simpa using ew) ⟨rfl,fin⟩) hs
theorem m_Z (its:List Value) (n j:Nat) (u:Value):Obj.mapSeq (·.setIfInBounds j u) { cls:=.type "list",data:=.seq its.toArray n } = { cls:=.type "list",data:=.seq (its.set j u).toArray n }:=by
 simp [Obj.mapSeq]
theorem Inv.lst {pins:List (Addr × Obj)} {Y:St} {H:Hp} {s:Shared} {p:Addr} {xs:List V} (I:Inv X pins Y H s) (h:H p=some (.lst xs)) :
  ∃ (its:List Value) (n:Nat),b_y xs its/\s.heap.get? p=some { cls:=.type "list",data:=.seq its.toArray n }/\xs.length<=sizeLine:=by
 obtain ⟨z,its,n,r,e⟩:=I.hok p _ h
 exact ⟨its,n,r,e,z⟩
theorem Inv.lstUpd {pins:List (Addr × Obj)} {Y:St} {H:Hp} {s:Shared} {p:Addr} {xs ys:List V} {its its':List Value} {n n':Nat} {f:Obj->Obj} (I:Inv X pins Y H s) (h:H p=some (.lst xs))
  (ho:s.heap.get? p=some { cls:=.type "list",data:=.seq its.toArray n }) (hf:f { cls:=.type "list",data:=.seq its.toArray n } = { cls:=.type "list",data:=.seq its'.toArray n' }) (r:b_y ys its') (hz:ys.length<=sizeLine) (t:Nat) :
  Inv X pins Y (upd H p (.lst ys)) { s with heap:=s.heap.update p f,toks:=t }:=by
 have e:(s.heap.update p f).get? p=some { cls:=.type "list",data:=.seq its'.toArray n' }:=by
  rw [Heap.get?_update_self f ho (by rw [hf] <;> rfl),hf]
 refine I.write (x:=p) (e:=p) (by rw [h]; trivial) (.inl rfl) (fun b u hb q=>(Heap.get?_update_other _ _ (Ne.symm hb)).trans q) ⟨_,e⟩ ?_
 exact ⟨hz,its',n',r,e⟩
def w_D:V->V->V->Hp->(Hp->Prop)->Prop:=fun o i v H Q=>∃ p xs k j,o=.ref p/\i=.int k/\H p=some (.lst xs)/\ixN xs.length k=some j/\Q (upd H p (.lst (xs.set j v)))
theorem p_y:x_A X w_D:=by
 intro pins s Y H o i v ov iv u Q I ro ri rv h
 obtain ⟨p,xs,k,j,rfl,rfl,hp,hj,q⟩:=h
 cases ro
 obtain ⟨t,rfl⟩:=ri
 obtain ⟨its,n,r,ho,hz⟩:=I.lst hp
 obtain ⟨h1,h2,h3,h4⟩:=o_x hj
 have hl:=r.length
 have hn:=line63
 have I':Inv X pins Y (upd H p (.lst (xs.set j v))) { s with heap:=s.heap.update p (Obj.mapSeq (·.setIfInBounds j u)) }:=
  I.lstUpd hp ho (m_Z its n j u) (r.set rv j) (by rw [List.length_set]; exact hz) s.toks
 by_cases h0:0<=k
 ·have hk:k.toNat=j:=by
   rw [seqIndex_of h0 h4] at h1
   exact Option.some.inj h1
  exact PySem.W.ki_setAt ho h0 (by omega) (by rw [List.size_toArray,<-hl]; exact h4) (by rw [hk]; exact ⟨_,I',q⟩)
 ·have hk:(k + (its.toArray.size:Int)).toNat=j:=by
   rw [seqIndex_neg (by omega) h3] at h1
   rw [List.size_toArray,<-hl]
   exact Option.some.inj h1
  exact PySem.W.ki_setBack ho (by omega) (by rw [List.size_toArray,<-hl]; exact h3) (by omega) (by rw [hk]; exact ⟨_,I',q⟩)
theorem k_5 (lo hi:Option Int) (n:Nat):(sliceBounds lo hi none n).1=((HT.sIx n 0 lo:Nat):Int)/\(sliceBounds lo hi none n).2.1=((HT.sIx n n hi:Nat):Int)/\(sliceBounds lo hi none n).2.2=1:=by
 refine ⟨?_,?_,rfl⟩
 ·cases lo with
  | none=>simp [sliceBounds,HT.sIx]
  | some i=>
   simp only [sliceBounds,HT.sIx,Option.getD_none,show (1:Int) > 0 by decide,if_true]
   by_cases h:i < 0
   ·simp only [h,if_true] <;> omega
   ·simp only [h,if_false] <;> omega
 ·cases hi with
  | none=>simp [sliceBounds,HT.sIx]
  | some i=>
   simp only [sliceBounds,HT.sIx,Option.getD_none,show (1:Int) > 0 by decide,if_true]
   by_cases h:i < 0
   ·simp only [h,if_true] <;> omega
   ·simp only [h,if_false] <;> omega
theorem j_h (its:List Value) (lo hi:Option Int):slicePick its.toArray lo hi none=((its.drop (HT.sIx its.length 0 lo)).take (HT.sIx its.length its.length hi - HT.sIx its.length 0 lo)).toArray:=by
 obtain ⟨h1,h2,h3⟩:=k_5 lo hi its.toArray.size
 unfold slicePick
 rw [h1,h2,h3]
 simp only [sliceRange_one,pick_run,List.size_toArray] <;> rfl
def z_e (K:PySem.W.Frag):V->Option Int->Option Int->Hp->VK->Prop:=fun x lo hi H Q=>∃ a xs,x=.ref a/\SqL K H a xs/\∀ p,H p=none->Q (.ref p) (upd H p (.lst (p_s xs lo hi)))
theorem o_H:SlR X (z_e X.K):=by
 intro pins s Y H x v vl vu lo hi sl Q I rx hs pl pu h
 obtain ⟨a,xs,rfl,hx,q⟩:=h
 cases rx
 obtain ⟨its,r,ht,hz⟩:=I.list hx
 have hlen:=r.length
 refine ⟨"list",_,slot_list_getitem.lookup,ht.isList.typeIs,?_⟩
 refine wpAny_getItem_list_slice ht.isList hs pl pu .none (by simp) ?_ (by rw [List.size_toArray] <;> omega)
 rw [j_h,<-hlen]
 refine ⟨.ref s.heap.objs.size,_,I.laid (t':=s.toks) (o:=.lst (p_s xs lo hi)) (fun b ob q=>Heap.get?_push_of_some _ q) (Nat.le_refl _) ?_,rfl,q _ (I.hok.fresh (Nat.le_refl _))⟩
 exact ⟨Nat.le_trans (i_m xs lo hi) hz,_,0,(r.drop (HT.sIx xs.length 0 lo)).take (HT.sIx xs.length xs.length hi - HT.sIx xs.length 0 lo),Heap.get?_push_size _ rfl⟩
def e_6:V->Bool
 | .non=>true
 | .bl _=>true
 | .int _=>true
 | .str _=>true
 | _=>false
def eqV:V->V->Bool
 | .non,.non=>true
 | .bl a,.bl b=>a == b
 | .bl a,.int b=>(if a then 1 else 0) == b
 | .int a,.bl b=>a == (if b then 1 else 0)
 | .int a,.int b=>a == b
 | .str a,.str b=>a == b
 | _,_=>false
theorem q_8 {A:Around} {s:Shared} {y x:V} {u v:Value} (ry:b_P y u) (rx:b_P x v) (fy:e_6 y=true) (fx:e_6 x=true):SeqAt.EqAt A s u v (eqV y x):=by
 cases y with
 | non=>
  cases ry
  cases x with
  | non=>cases rx; exact SeqAt.EqAt.same _
  | bl b=>cases rx; exact SeqAt.EqAt.none_bool b
  | int b=>obtain ⟨t,rfl⟩:=rx; exact SeqAt.EqAt.none_int b t
  | str b=>obtain ⟨t,rfl⟩:=rx; exact SeqAt.EqAt.none_str b t
  | _=>exact absurd (show false=true from fx) Bool.false_ne_true
 | bl a=>
  cases ry
  cases x with
  | non=>cases rx; exact SeqAt.EqAt.bool_none a
  | bl b=>cases rx; exact SeqAt.EqAt.bool_bool a b
  | int b=>obtain ⟨t,rfl⟩:=rx; exact SeqAt.EqAt.bool_int a b t
  | str b=>obtain ⟨t,rfl⟩:=rx; exact SeqAt.EqAt.bool_str a b t
  | _=>exact absurd (show false=true from fx) Bool.false_ne_true
 | int a=>
  obtain ⟨t',rfl⟩:=ry
  cases x with
  | non=>cases rx; exact SeqAt.EqAt.int_none a t'
  | bl b=>cases rx; exact SeqAt.EqAt.int_bool a t' b
  | int b=>obtain ⟨t,rfl⟩:=rx; exact SeqAt.EqAt.int_int a t' b t
  | str b=>obtain ⟨t,rfl⟩:=rx; exact SeqAt.EqAt.int_str a t' b t
  | _=>exact absurd (show false=true from fx) Bool.false_ne_true
 | str a=>
  obtain ⟨t',rfl⟩:=ry
  cases x with
  | non=>cases rx; exact SeqAt.EqAt.str_none a t'
  | bl b=>cases rx; exact SeqAt.EqAt.str_bool a t' b
  | int b=>obtain ⟨t,rfl⟩:=rx; exact SeqAt.EqAt.str_int a t' b t
  | str b=>obtain ⟨t,rfl⟩:=rx; exact SeqAt.EqAt.str_str a t' b t
  | _=>exact absurd (show false=true from fx) Bool.false_ne_true
 | _=>exact absurd (show false=true from fy) Bool.false_ne_true
def eqU (x:V) (u:Value):Bool:=match u with
 | .none=>eqV .non x
 | .bool b=>eqV (.bl b) x
 | .int i _=>eqV (.int i) x
 | .str z _=>eqV (.str z) x
 | _=>false
theorem q_Q {x y:V} {u:Value} (r:b_P y u) (f:e_6 y=true):eqU x u=eqV y x:=by
 cases y with
 | non=>cases r; rfl
 | bl b=>cases r; rfl
 | int i=>obtain ⟨t,rfl⟩:=r; rfl
 | str z=>obtain ⟨t,rfl⟩:=r; rfl
 | _=>exact absurd (show false=true from f) Bool.false_ne_true
theorem l_R {x:V}:∀ {xs:List V} {us:List Value},b_y xs us->xs.all e_6=true->us.any (eqU x)=xs.any fun y=>eqV y x
 | _,_,.nil,_=>rfl
 | y :: xs,u :: us,.cons r t,f=>by
  rw [List.all_cons,Bool.and_eq_true] at f
  rw [List.any_cons,List.any_cons,q_Q r f.1,l_R t f.2]
theorem j_1 {A:Around} {s:Shared} {x:V} {v:Value} (rx:b_P x v) (fx:e_6 x=true):∀ {xs:List V} {us:List Value},b_y xs us->xs.all e_6=true->∀ u ∈ us,SeqAt.EqAt A s u v (eqU x u)
 | _,_,.nil,_=>fun u hu=>by cases hu
 | y :: xs,u :: us,.cons r t,f=>fun u' hu=>by
  rw [List.all_cons,Bool.and_eq_true] at f
  rcases List.mem_cons.mp hu with rfl | hu
  ·rw [q_Q r f.1]; exact q_8 r rx f.1 fx
  ·exact j_1 rx fx t f.2 u' hu
def inV (x:V) (xs:List V):Bool:=xs.any fun y=>eqV y x
def rIn (K:PySem.W.Frag) (neg:Bool):R2:=fun x y H Q=>∃ p xs,y=.ref p/\(SqL K H p xs\/SqT K H p xs)/\e_6 x=true/\xs.all e_6=true/\Q (.bl (if neg then !inV x xs else inV x xs)) H
theorem o_w:OpR X (compareOp .In) (rIn X.K false):=by
 intro pins s Y H x y v u Q I rx ry h
 obtain ⟨p,xs,rfl,hq,fx,fs,q⟩:=h
 cases ry
 rcases hq with hq | hq
 ·obtain ⟨its,r,pl,hz⟩:=I.list hq
  refine SeqAt.in_listAt (eqU x) pl.isList (fun w hw=>j_1 rx fx r fs w (by simpa using hw)) ⟨.bl _,H,I,rfl,?_⟩
  rw [show its.toArray.any (eqU x)=its.any (eqU x) by simp,l_R r fs]
  exact q
 ·obtain ⟨its,r,pl,hz⟩:=I.tuple hq
  refine SeqAt.in_tupleAt (eqU x) pl (fun w hw=>j_1 rx fx r fs w (by simpa using hw)) ⟨.bl _,H,I,rfl,?_⟩
  rw [show its.toArray.any (eqU x)=its.any (eqU x) by simp,l_R r fs]
  exact q
theorem a_9:h_2 X (.builtin "len") (fun xs H Q=>∃ p ys,xs=[.ref p]/\(SqL X.K H p ys\/SqT X.K H p ys)/\Q (.int ys.length) H):=by
 intro pins s Y H xs us Q I r h
 obtain ⟨p,ys,rfl,hq,q⟩:=h
 obtain ⟨u,rfl,rx⟩:=vals1 r
 cases rx
 have hn:=line63
 rcases hq with hq | hq
 ·obtain ⟨its,r',pl,hz⟩:=I.list hq
  have hlen:=r'.length
  exact Calls.call_len_list pl.isList (by simp only [List.size_toArray] <;> omega) ⟨.int ys.length,H,I.tok _,⟨s.toks + 1,by rw [List.size_toArray,hlen]⟩,q⟩
 ·obtain ⟨its,r',pl,hz⟩:=I.tuple hq
  have hlen:=r'.length
  exact len_tuple pl (by simp only [List.size_toArray] <;> omega) ⟨.int ys.length,H,I.tok _,⟨s.toks + 1,by rw [List.size_toArray,hlen]⟩,q⟩
theorem k_d:h_2 X (.type "list") (fun xs H Q=>∃ p ys,xs=[.ref p]/\(SqL X.K H p ys\/SqT X.K H p ys)/\∀ l,H l=none->Q (.ref l) (upd H l (.lst ys))):=by
 intro pins s Y H xs us Q I r h
 obtain ⟨p,ys,rfl,hq,q⟩:=h
 obtain ⟨u,rfl,rx⟩:=vals1 r
 cases rx
 have fin:∀ (its:List Value),b_y ys its->ys.length<=sizeLine->∀ (h':Heap) (c':Nat),(∀ b o',s.heap.get? b=some o'->h'.get? b=some o')->
   h'.get? s.heap.objs.size=some { cls:=.type "list",dict:=none,data:=.seq its.toArray c',slots:=#[] }->EP X pins Y Q (.ref s.heap.objs.size) { s with heap:=h' }:=fun its r' hz h' c' kp e=>
  ⟨.ref s.heap.objs.size,_,I.laid (t':=s.toks) kp (Nat.le_refl _) (show b_6 X.prog X.w _ h' _ (.lst ys) from ⟨hz,its,c',r',e⟩),rfl,q _ (I.hok.fresh (Nat.le_refl _))⟩
 rcases hq with hq | hq
 ·obtain ⟨its,r',pl,hz⟩:=I.list hq
  have hlen:=r'.length
  obtain ⟨o,ho,hc,n,hd⟩:=pl.isList
  exact call_list_seq p (.inl rfl) ho hc hd (fun h' c' kp e=>fin its r' hz h' c' kp e) (by simp only [List.size_toArray] <;> omega)
 ·obtain ⟨its,r',pl,hz⟩:=I.tuple hq
  have hlen:=r'.length
  obtain ⟨o,ho,hc,n,hd⟩:=pl
  exact call_list_seq p (.inr rfl) ho hc hd (fun h' c' kp e=>fin its r' hz h' c' kp e) (by simp only [List.size_toArray] <;> omega)
theorem e_M:h_2 X (.type "tuple") (fun xs H Q=>∃ p ys,xs=[.ref p]/\((SqL X.K H p ys/\∀ l,H l=none->Q (.ref l) (upd H l (.tup ys)))\/(SqT X.K H p ys/\Q (.ref p) H))):=by
 intro pins s Y H xs us Q I r h
 obtain ⟨p,ys,rfl,h⟩:=h
 obtain ⟨u,rfl,rx⟩:=vals1 r
 cases rx
 rcases h with ⟨hq,q⟩ | ⟨hq,q⟩
 ·obtain ⟨its,r',pl,hz⟩:=I.list hq
  have hlen:=r'.length
  refine call_tuple_list pl.isList (fun h' kp=>?_) (by simp only [List.size_toArray] <;> omega)
  have I1:Inv X pins Y H { s with heap:=h' }:=I.kept (t':=s.toks) kp
  have I2:Inv X pins Y (upd H h'.objs.size (.tup ys)) { s with heap:=h'.push { cls:=.type "tuple",data:=.seq its.toArray } }:=
   I1.laid (t':=s.toks) (fun b o e=>Heap.get?_push_of_some _ e) (Nat.le_refl _) (show b_6 X.prog X.w _ _ _ (.tup ys) from ⟨hz,its,r',IsTup.new _ _⟩)
  exact ⟨.ref h'.objs.size,_,I2,rfl,q _ (I1.hok.fresh (Nat.le_refl _))⟩
 ·obtain ⟨its,r',pl,hz⟩:=I.tuple hq
  exact call_tuple_same pl ⟨.ref p,H,I,rfl,q⟩
def tyV (K:PySem.W.Frag) (T:String) (x:V) (H:Hp):Prop:=match x with
 | .str _=>T = "str"
 | .int _=>T = "int"
 | .ref p=>(T = "list"/\∃ xs,SqL K H p xs)\/(T = "tuple"/\∃ o,K.lookup p=some o/\o.cls=.type "tuple"/\o.dict=none)\/
   (T = "dict"/\((∃ kvs,H p=some (.dK kvs))\/∃ kvs,H p=some (.dT kvs)))\/(T = "set"/\∃ S n,H p=some (.set S n))
 | _=>False
theorem u_b {pins:List (Addr × Obj)} {Y:St} {H:Hp} {s:Shared} {T:String} {x:V} {v:Value} (I:Inv X pins Y H s) (r:b_P x v) (ty:tyV X.K T x H) :
  s.TypeIs v T/\∀ a,v=.ref a->∃ ob,s.heap.get? a=some ob/\ob.dict=none:=by
 cases x with
 | str z=>
  obtain ⟨t,rfl⟩:=r
  cases (show T = "str" from ty)
  exact ⟨typeIs_str s z t,fun _ e=>nomatch e⟩
 | int i=>
  obtain ⟨t,rfl⟩:=r
  cases (show T = "int" from ty)
  exact ⟨typeIs_int s i t,fun _ e=>nomatch e⟩
 | ref p=>
  cases r
  rcases ty with ⟨rfl,xs,hq⟩ | ⟨rfl,o,hk,hc,hd⟩ | ⟨rfl,hk⟩ | ⟨rfl,S,n,hk⟩
  ·obtain ⟨its,_,pl,_⟩:=I.list hq
   refine ⟨pl.isList.typeIs,fun a e=>?_⟩
   cases e
   obtain ⟨o,n,e,c,hd,_⟩:=pl
   exact ⟨o,e,hd⟩
  ·refine ⟨⟨o,I.kIn p o hk,hc⟩,fun a e=>?_⟩
   cases e
   exact ⟨o,I.kIn _ o hk,hd⟩
  ·have z:∃ o,s.heap.get? p=some o/\o.ExactDict:=by
    rcases hk with ⟨kvs,hk⟩ | ⟨kvs,hk⟩
    ·obtain ⟨_,_,_,_,o,_,_,e,ex,_⟩:=I.hok p _ hk
     exact ⟨o,e,ex⟩
    ·obtain ⟨_,_,_,_,o,_,_,e,ex,_⟩:=I.hok p _ hk
     exact ⟨o,e,ex⟩
   obtain ⟨o,e,ex⟩:=z
   refine ⟨⟨o,e,ex.1⟩,fun a e2=>?_⟩
   cases e2
   exact ⟨o,e,ex.2.1⟩
  ·obtain ⟨o,_,_,_,e,ex,_⟩:=I.hok p _ hk
   refine ⟨⟨o,e,ex.1⟩,fun a e2=>?_⟩
   cases e2
   exact ⟨o,e,ex.2.1⟩
 | _=>exact False.elim ty
def tBM (K:PySem.W.Frag) (T:String) (r:V->List V->Hp->VK->Prop) (to:TE) (t:TA):TE:=fun Y H Q=>to Y H fun x H1=>tyV K T x H1/\t Y H1 fun xs H2=>r x xs H2 Q
variable {o e:Expr} {es:List Expr} {to:TE} {t:TA} {name:Str} {apos cpos:Pos} {T id:String} {r:V->List V->Hp->VK->Prop}
theorem q_b (pa:PlainAttrs T) (slot:Slot T name id) (hty:typeOf (.builtin id)=pure (.type "method_descriptor")) (hm:MtR X id r) (ho:PE X o to) (ha:PA X (e :: es) t)
  (hbase:attributeBase o name X.env (eval o X.env)=eval o X.env:=by rfl)
  (hfew:((backTo cpos (starEach (e :: es) X.env)).all (fun x=>!x.1) && (backToKw cpos (keywordEach [] X.env)).all (fun x=>x.1.isSome)
   && decide ((e :: es).length + ([]:List Keyword).length + (if ([]:List Keyword).isEmpty then 0 else 1) < 30))=true:=by rfl)
  (hline:(apos.endLine == cpos.line)=true:=by rfl) (hs:starEach (e :: es) X.env=(false,eval e X.env) :: starEach es X.env:=by rfl) (hplain:(backTo cpos (starEach es X.env)).any (·.1)=false:=by rfl) :
  PE X (.Call (.Attribute o name apos) (e :: es) [] cpos) (tBM X.K T r to t):=by
 intro pins s Y H Q I h
 refine wpAny_Call_method_late hbase hfew hline rfl (thn (ho pins s Y H _ I h) fun v s1 ⟨x,H1,I1,r1,ty,q1⟩=>?_)
 obtain ⟨h1,h2⟩:=u_b I1 r1 ty
 refine ⟨T,id,pa,slot,hty,h1,h2,?_⟩
 have hA:=ha cpos pins s1 Y H1 _ I1 q1
 rw [hs] at hA ⊢
 refine Calls.callWith_builtin (by show (false || (backTo cpos (starEach es X.env)).any (·.1))=false; rw [hplain] <;> rfl) (Calls.evalArgs_plain ?_)
 exact thn hA fun us s2 ⟨vs,H2,I2,r2,q2⟩=>hm pins s2 Y H2 x vs v us Q I2 r1 r2 q2
end
def MtM (X:Cx) (id:String) (r:V->List V->Hp->VK->Prop):Prop:=
 ∀ (pins:List (Addr × Obj)) (s:Shared) (Y:St) (H:Hp) (x:V) (xs:List V) (v:Value) (us:List Value) (Q:VK),Inv X pins Y H s->b_P x v->b_y xs us->r x xs H Q->
  wpAny (model X.prog X.w) X.A (call (.builtin id) (v :: us)) (EP X pins Y Q) X.xe s
theorem b_y.one:∀ {x:V} {us:List Value},b_y [x] us->∃ u,us=[u]/\b_P x u
 | _,_,.cons r .nil=>⟨_,rfl,r⟩
theorem b_y.rep {xs:List V} {us:List Value} (h:b_y xs us):∀ k:Nat,b_y (List.replicate k xs).flatten (List.replicate k us).flatten
 | 0=>.nil
 | k + 1=>by
  rw [List.replicate_succ,List.replicate_succ,List.flatten_cons,List.flatten_cons]
  exact b_y.append h (b_y.rep h k)
theorem k_e (its:List Value):∀ (k:Nat) (acc:List Value),
  List.foldl (fun x1 x2=>x1 ++ x2) acc.toArray (List.replicate k its.toArray)=(acc ++ (List.replicate k its).flatten).toArray
 | 0,acc=>by simp
 | k + 1,acc=>by
  have e:acc.toArray ++ its.toArray=(acc ++ its).toArray:=by simp
  have e2:(acc ++ its) ++ (List.replicate k its).flatten=acc ++ (List.replicate (k + 1) its).flatten:=by
   rw [List.replicate_succ,List.flatten_cons,List.append_assoc]
  rw [<-e2,<-k_e its k (acc ++ its),<-e,List.replicate_succ,List.foldl_cons]
section
variable {X:Cx} {pins:List (Addr × Obj)} {Y:St} {H:Hp} {s:Shared} {l b:Addr} {xs ys zs:List V}
theorem Inv.lset {its its':List Value} {n:Nat} {f:Array Value->Array Value} {t':Nat} (I:Inv X pins Y H s) (hH:H l=some (.lst xs))
  (e:s.heap.get? l=some { cls:=.type "list",data:=.seq its.toArray n }) (hf:f its.toArray=its'.toArray) (hv:b_y ys its') (hz:ys.length<=sizeLine) :
  Inv X pins Y (upd H l (.lst ys)) { s with heap:=s.heap.update l (Obj.mapSeq f),toks:=t' }:=by
 have q:=PySem.IsL.update e f
 rw [hf] at q
 refine I.write (x:=l) (e:=l) (by rw [hH]; exact trivial) (.inl rfl) (fun b' u hb hu=>(Heap.get?_update_other s.heap (Obj.mapSeq f) (Ne.symm hb)).trans hu) ⟨_,q⟩ ?_
 exact ⟨hz,its',_,hv,q⟩
theorem Inv.lnew {its:List Value} {t':Nat} (I:Inv X pins Y H s) (hv:b_y ys its) (hz:ys.length<=sizeLine) :
  Inv X pins Y (upd H s.heap.objs.size (.lst ys)) { s with heap:=s.heap.push { cls:=.type "list",data:=.seq its.toArray },toks:=t' }:=
 I.laid (fun _ _ q=>Heap.get?_push_of_some _ q) (Nat.le_refl _) ⟨hz,its,0,hv,Heap.get?_push_size _ rfl⟩
theorem Inv.fresh (I:Inv X pins Y H s):H s.heap.objs.size=none:=I.hok.fresh (Nat.le_refl _)
theorem Inv.lstM (I:Inv X pins Y H s) (hH:H l=some (.lst xs)):xs.length<=sizeLine/\∃ (its:List Value) (n:Nat),b_y xs its/\xs.length=its.length/\s.heap.get? l=some { cls:=.type "list",data:=.seq its.toArray n }:=by
 obtain ⟨z,its,n,r,e⟩:=I.hok l _ hH
 exact ⟨z,its,n,r,r.length,e⟩
theorem m_p {n:Nat} (h:n<=sizeLine):Builtin.List.listTooLong n=false:=by
 unfold Builtin.List.listTooLong
 exact decide_eq_false (by omega)
end
section
variable {X:Cx}
def s_R:V->List V->Hp->VK->Prop:=fun x vs H Q=>∃ l xs y,x=.ref l/\vs=[y]/\H l=some (.lst xs)/\xs.length < sizeLine/\Q .non (upd H l (.lst (xs ++ [y])))
theorem k_r:MtM X "list.append" s_R:=by
 intro pins s Y H x vs v us Q I rx rv h
 obtain ⟨l,xs,y,rfl,rfl,hH,hz,q⟩:=h
 cases rx
 obtain ⟨u,rfl,ru⟩:=rv.one
 obtain ⟨z,its,n,r,hl,e⟩:=I.lstM hH
 refine call_meets F.slot_list_append ⟨_,e,rfl⟩ F.entry_list_append (F.args_list_append_2 _ _) (PySem.list_append l its.toArray n u (by rw [List.size_toArray]; omega)) ⟨e,?_⟩
 refine ⟨.non,_,I.lset (its':=its ++ [u]) hH e (by simp) (r.append (.cons ru .nil)) ?_,rfl,q⟩
 rw [List.length_append,List.length_singleton]
 omega
def r_E:V->List V->Hp->VK->Prop:=fun x vs H Q=>∃ l b xs zs,x=.ref l/\vs=[.ref b]/\H l=some (.lst xs)/\H b=some (.lst zs)/\xs.length + zs.length<=sizeLine/\Q .non (upd H l (.lst (xs ++ zs)))
theorem p_e:MtM X "list.extend" r_E:=by
 intro pins s Y H x vs v us Q I rx rv h
 obtain ⟨l,b,xs,zs,rfl,rfl,hH,hB,hz,q⟩:=h
 cases rx
 obtain ⟨u,rfl,ru⟩:=rv.one
 cases ru
 obtain ⟨z,its,n,r,hl,e⟩:=I.lstM hH
 obtain ⟨z2,its2,n2,r2,hl2,e2⟩:=I.lstM hB
 have hsz:its.toArray.size + its2.toArray.size<=sizeLine:=by rw [List.size_toArray,List.size_toArray]; omega
 have hlong:¬ (!its.toArray.isEmpty && Builtin.List.listTooLong (its.toArray.size + its2.toArray.size))=true:=by
  rw [m_p hsz,Bool.and_false]
  exact Bool.false_ne_true
 refine call_meets F.slot_list_extend ⟨_,e,rfl⟩ F.entry_list_extend (F.args_list_extend_2 _ _)
  (AutoSeq1.list_extend_list_list_0 l its.toArray n b its2.toArray n2 hlong (by rw [List.size_toArray]; omega) (by omega)) ⟨e,e2,?_⟩
 refine ⟨.non,_,I.lset (its':=its ++ its2) hH e (by simp) (r.append r2) ?_,rfl,q⟩
 rw [List.length_append]
 omega
def y_b:R2:=fun x y H Q=>∃ l b xs zs,x=.ref l/\y=.ref b/\H l=some (.lst xs)/\H b=some (.lst zs)/\xs.length + zs.length<=sizeLine/\∀ p,H p=none->Q (.ref p) (upd H p (.lst (xs ++ zs)))
theorem v_o:OpR X (binaryOp .Add) y_b:=by
 intro pins s Y H x y v u Q I rx ry h
 obtain ⟨l,b,xs,zs,rfl,rfl,hH,hB,hz,q⟩:=h
 cases rx
 cases ry
 obtain ⟨z,its,n,r,hl,e⟩:=I.lstM hH
 obtain ⟨z2,its2,n2,r2,hl2,e2⟩:=I.lstM hB
 refine PySem.P.add_list e e2 ?_ (by rw [List.size_toArray,List.size_toArray]; omega)
 have ea:its.toArray ++ its2.toArray=(its ++ its2).toArray:=by simp
 rw [ea]
 exact ⟨.ref _,_,I.lnew (t':=s.toks) (r.append r2) (by rw [List.length_append]; omega),rfl,q _ I.fresh⟩
def y_c:R2:=fun x y H Q=>∃ l k xs,x=.ref l/\y=.int k/\H l=some (.lst xs)/\-(2 ^ 63)<=k/\k < 2 ^ 63/\xs.length * k.toNat<=sizeLine/\
 ∀ p,H p=none->Q (.ref p) (upd H p (.lst (List.replicate k.toNat xs).flatten))
theorem s_b {α:Type} (xs:List α) (k:Nat):(List.replicate k xs).flatten.length=k * xs.length:=by
 induction k with
 | zero=>simp
 | succ k ih=>rw [List.replicate_succ,List.flatten_cons,List.length_append,ih,Nat.succ_mul,Nat.add_comm]
theorem t_W:OpR X (binaryOp .Mult) y_c:=by
 intro pins s Y H x y v u Q I rx ry h
 obtain ⟨l,k,xs,rfl,rfl,hH,h1,h2,hz,q⟩:=h
 cases rx
 obtain ⟨t,rfl⟩:=ry
 obtain ⟨z,its,n,r,hl,e⟩:=I.lstM hH
 have hlen:its.toArray.size * k.toNat<=sizeLine:=by rw [List.size_toArray,<-hl]; exact hz
 have hcap:¬ its.toArray.size * k.toNat > (2 ^ 63 - 1) / 8:=by
  have:(sizeLine:Nat)<=(2 ^ 63 - 1) / 8:=by decide
  omega
 have hfit:¬ (!Builtin.List.listFitsIndex k)=true:=by
  rw [fitsIndex_both h1 h2]
  exact Bool.false_ne_true
 have hlong:¬ Builtin.List.listTooLong (its.toArray.size * k.toNat)=true:=by
  rw [m_p hlen]
  exact Bool.false_ne_true
 have hnew:List.foldl (fun x1 x2=>x1 ++ x2) #[] (List.replicate (if its.toArray.isEmpty=true then 0 else k.toNat) its.toArray)=(List.replicate k.toNat its).flatten.toArray:=by
  have f0:∀ m:Nat,List.foldl (fun x1 x2=>x1 ++ x2) #[] (List.replicate m its.toArray)=(List.replicate m its).flatten.toArray:=fun m=>by
   have:=k_e its m []
   rw [List.nil_append] at this
   exact this
  rw [f0]
  cases its with
  | nil=>simp
  | cons a r'=>rw [if_neg (by simp)]
 refine wpAny_binaryOp_repeat_ref (T:="list") (U:="int") (by decide) ⟨_,e,rfl⟩ (fun s'=>typeIs_int s' k t) noFill_list_mul F.fills_int_mul F.slot_int_rmul repeat_list F.slot_int_index.lookup
  (call_meets F.slot_int_rmul (typeIs_int s k t) F.entry_int_rmul (F.args_int_rmul_2 _ _) (int___rmul___int_list k t l its.toArray n)
   ⟨e,rfl,⟨_,e,rfl⟩,call_meets F.slot_list_mul ⟨_,e,rfl⟩ F.entry_list_mul (F.args_list_mul_2 _ _) (AutoListH.list___mul___list_int_3 l its.toArray n k t hfit hcap hlong) ⟨e,?_⟩⟩)
 rw [hnew]
 exact ⟨.ref _,_,I.lnew (t':=s.toks) (r.rep k.toNat) (by rw [s_b,Nat.mul_comm]; exact hz),rfl,q _ I.fresh⟩
end
section
variable {prog:Program} {w:World} {A:Around} {E:Value->Shared->Prop} {s:Shared}
set_option maxRecDepth 100000 in
end
end L2
namespace Att
open PySem PySem.W PySem.Calls PyProof.Rows
theorem i_d {P:Params} {h:Heap}:∀ (ns:List Int) (vs:List Value),WellAll P h vs (ns.map WData.int)->IntsAre vs ns:=by
 intro ns
 induction ns with
 | nil=>
  intro vs w
  rw [List.map_nil] at w
  cases w
  exact .nil
 | cons n ns ih=>
  intro vs w
  rw [List.map_cons] at w
  cases w with
  | cons a b=>
   cases a
   exact .cons _ _ (ih _ b)
theorem o_y {l:OpenLaw} {n:Nat} (hn:l.most=some n) {P:Params} {h:Heap} {args:List WData} {vals:List Value}
  (hpre:l.row.toRowW.claim.pre args=true) (hwl:WellAll P h vals args) :
  ∃ a vs ns,vals=[Value.ref a]/\args=[WData.list (ns.map WData.int)]/\h.get? a=some { cls:=.type "list",data:=.seq vs.toArray }/\IntsAre vs ns/\ns.length<=n:=by
 have hsh:WShape.hasAll [] args [.list .int]=true:=(pre_splitW hpre).1
 have hc:l.pre.holds [] { args:=args } = true:=(pre_splitW hpre).2
 obtain ⟨d,r,rfl,h1,h2⟩:=hasAllW_cons hsh
 obtain rfl:=hasAllW_nil h2
 obtain ⟨xs,rfl,h3⟩:=hasW_list h1
 obtain ⟨ns,rfl⟩:=items_int h3
 have hlen:ns.length<=n:=by
  unfold OpenLaw.pre at hc
  have h4:(WTm.not (.lt (.lit (.int (n:Int))) (.len (.arg 0)))).holds [] { args:=[.list (ns.map .int)] } = true:=by
   have h4:=(holds_andW hc).1
   rw [hn] at h4
   exact h4
  have h5:=condW_of h4 (w_not (w_lt w_lit (w_len_list (w_arg rfl))))
  rw [List.length_map] at h5
  refine Nat.le_of_not_lt fun q=>?_
  have q':(n:Int) < ((ns.length:Nat):Int):=by omega
  first
   | (rw [decide_eq_true q'] at h5; exact absurd h5 (by decide))
   | (simp at h5; omega)
 cases hwl with
 | cons w1 w2=>
  cases w2
  cases w1 with
  | list ho hall=>exact ⟨_,_,ns,rfl,rfl,ho,i_d ns _ hall,hlen⟩
theorem n_U (l:OpenLaw) (args:List WData):l.row.toRowW.claim.post args (.bool true) args=true:=
 postW_of (r:=l.row.toRowW) (X:=(true == true))
  (show WShape.has [] (.bool true) .bool=true by first | rfl | decide | simp [WShape.has,WShape.arms,WShape.armsAll])
  (show (WTm.eq .res (.lit (.bool true))).value [] { args:=args,res:=some (.bool true),after:=args } = some (.bool (true == true)) from w_eq_bool (w_res rfl) w_lit) rfl
theorem attach_call {l:OpenLaw} {n:Nat} {q:Program} {loose:List Str} {XP:(Str->Option Value)->Heap->Prop} {YP:World->Heap->Prop} {d:DefRec}
  (hn:l.most=some n) (hdf:d.params.defaults=[])
  (call:∀ (w:World) (s₀ s₁:Shared) (mg mb:Str->Option Value) (fa:Addr) (o:Obj) (pm cd doc:Value) (a:Addr) (vs:List Value) (ns:List Int),
   Ground q loose [] XP w s₀ mg mb s₁.heap->YP w s₁.heap->
   s₁.heap.get? fa=some o->o.data=.func (docDef d.name d.params d.body d.scope pm cd doc)->s₁.heap.CodeRec cd d.name->mg d.name=some (.ref fa)->
   s₁.heap.get? a=some { cls:=.type "list",data:=.seq vs.toArray }->IntsAre vs ns->ns.length<=n->s₁.gens = #[]->
   codeAny (model l.prog w) callerA (.call (.ref fa) ⟨[.ref a],[]⟩) (fun r s'=>r=.ok (.ret (.bool true))/\OldK s₁.heap s'.heap/\s'.os=s₁.os/\AllBare s'.gens) s₁) :
  WalkO q loose XP YP l.row.toRowW d [] (fun f vs=>PySem.call f vs):=by
 intro w s₀ s₁ mg mb G Y9 fa o pm cd doc dV kV ho hd hcd hD hmg hg args vals as hpre hlay hrd hwl hlo
 obtain rfl:dV=.none:=Dflts.none hD hdf
 obtain rfl:kV=.none:=Dflts.noKw hD
 obtain ⟨a,vs,ns,rfl,rfl,hobj,hints,hlen⟩:=o_y hn hpre hwl
 refine enter_call (codeAny_mono (call w s₀ s₁ mg mb fa o pm cd doc a vs ns G Y9 ho (fd_plain hd) hcd hmg hobj hints hlen hg) fun r s' hq=>?_)
 obtain ⟨rfl,h2,h3,h4⟩:=hq
 exact ⟨.inl ⟨.bool true,.bool true,[],rfl,fun _=>rfl,.bool true,n_U l _,fun _=>⟨List.Pairwise.nil,fun _ hm=>(nomatch hm)⟩⟩,h2,h3,h4⟩
end Att
namespace L2
open PySem PySem.Spec PyProof.Rows
theorem k_Q:∀ {vs:List Value} {ns:List Int},IntsAre vs ns->b_y (ns.map V.int) vs
 | _,_,.nil=>.nil
 | _,_,.cons n t h=>.cons ⟨t,rfl⟩ (k_Q h)
def v_T (H:Hp):Prop:=∀ b,H b=none\/∃ o xs,H b=some (.frz o (.lst xs))
theorem p_S {P:Program} {w:World} {K:PySem.W.Frag} {mg mb:Str->Option Value} {CX:CXT} {k:Nat} {fa a:Addr} {fd:FuncData} {x:Str} {sp:Sp} {s₁:Shared} {vs:List Value} {ns:List Int}
  (KX:K.In s₁.heap) (hns:s₁.heap.Ns mainGlobals mg) (hb:s₁.heap.Ns builtinsNs mb) (hbb:∀ x:Str,x ≠ "__name__"->mb x=bootBuiltins x) (hlim:s₁.heap.NoLimit) (hg:s₁.gens = #[])
  (ha:s₁.heap.get? a=some { cls:=.type "list",data:=.seq vs.toArray }) (hi:IntsAre vs ns) (hl:ns.length<=sizeLine) (hr:Room k callerA)
  (F:∀ base:Heap,K.In base->base.Ns mainGlobals mg->FnOk P w K mg base CX k fa fd [x] sp) (hbind:∀ (s:Shared) (u:Value),BindsTo s fd ⟨[u],[]⟩ [(x,u)])
  (hsp:∀ H:Hp,v_T H->SqL K H a (ns.map V.int)->sp [.ref a] H (fun v _=>v=.bl true) fun _ _ _=>False)
  (hCX:∀ H e s',CX [] H s₁ (fun _ _ _=>False) e s'->False) :
  codeAny (model P w) callerA (.call (.ref fa) ⟨[.ref a],[]⟩) (fun r s'=>r=.ok (.ret (.bool true))/\OldK s₁.heap s'.heap/\s'.os=s₁.os/\AllBare s'.gens) s₁:=by
 have rv:=k_Q hi
 have lenV:=hi.length
 have core:∀ H:Hp,v_T H->SqL K H a (ns.map V.int)->HOk P w H s₁.heap->(∀ b,H b ≠ none->b=a)->(H a ≠ none->K.lookup a=none)->
   codeAny (model P w) callerA (.call (.ref fa) ⟨[.ref a],[]⟩) (fun r s'=>r=.ok (.ret (.bool true))/\OldK s₁.heap s'.heap/\s'.os=s₁.os/\AllBare s'.gens) s₁:=by
  intro H hO hS hok hA hK
  have base_of:∀ {b:Addr} {o:Obj},s₁.heap.get? b=some o->H b=none->(q_q s₁.heap H).get? b=some o:=fun e n=>q_y e n
  have noA:∀ {b:Addr} {o:Obj} {es:Array DictEntry} {ep:Nat},s₁.heap.get? b=some o->o.data=.dict es ep->H b=none:=fun {b o es ep} e d=>by
   cases q:H b with
   | none=>rfl
   | some u=>
    have e':b=a:=hA b (by rw [q]; simp)
    subst e'
    rw [ha] at e; cases e
    have d':Data.seq vs.toArray _=Data.dict es ep:=d
    cases d'
  have nsK:∀ {b:Addr} {m:Str->Option Value},s₁.heap.Ns b m->(q_q s₁.heap H).Ns b m:=fun {b m} ⟨o,es,ep,e,d,r⟩=>⟨o,es,ep,base_of e (noA e d),d,r⟩
  have hKb:K.In (q_q s₁.heap H):=fun b o e=>base_of (KX b o e) (by
   cases q:H b with
   | none=>rfl
   | some u=>
    have e':b=a:=hA b (by rw [q]; simp)
    subst e'
    rw [hK (by rw [q]; simp)] at e; cases e)
  have hM:Mod K mg (q_q s₁.heap H):=⟨hKb,nsK hns,⟨mb,nsK hb,hbb⟩,let ⟨mc,h1,h2⟩:=hlim; ⟨mc,nsK h1,h2⟩⟩
  have e0:Env0 P w K mg (q_q s₁.heap H) callerA [] s₁ H:=⟨rfl,hM,fun b o e=>s_V e,Nat.le_of_eq (n_3 _ _),trivial,fun b hb=>absurd (show b ∈ ([]:List Addr) from hb) (by simp),hok,.of_eq hg⟩
  refine codeAny_mono ((F _ hKb (nsK hns)).run callerA [] s₁ H ⟨[.ref a],[]⟩ [.ref a] [.ref a] _ _ hr e0 (hbind s₁ (.ref a)) (.cons rfl .nil) (hsp H hO hS)) fun r s' h=>?_
  cases r with
  | error e=>exact (hCX H e s' h).elim
  | ok fl=>
   cases fl with
   | next=>exact False.elim h
   | brk=>exact False.elim h
   | cont=>exact False.elim h
   | ret u=>
    obtain ⟨v,H',os,bare,un,hok',r',q⟩:=h
    have q':v=.bl true:=q
    subst q'
    obtain rfl:u=Value.bool true:=r'
    refine ⟨rfl,OldK.of_keep fun b o e=>?_,os,bare⟩
    cases q:H b with
    | none=>exact un.keep b o e q (by intro z; exact absurd (show b ∈ ([]:List Addr) from z) (by simp)) (by simp)
    | some u=>
     rcases hO b with z | ⟨ob,xs,z⟩
     ·rw [q] at z; cases z
     ·have z2:=un.frzs b ob _ z
      obtain ⟨e1,_⟩:=hok b _ z
      obtain ⟨e2,_⟩:=hok' b _ z2
      rw [e] at e1; cases e1
      exact e2
 cases hk:K.lookup a with
 | some o=>
  have e:=KX a o hk
  rw [ha] at e
  cases e
  refine core (fun _=>none) (fun _=>.inl rfl) (.inr ⟨_,vs.toArray,_,hk,rfl,rfl,rfl,by rw [List.size_toArray,lenV]; exact hl,by simpa using rv⟩) (fun b u z=>by have z':(none:Option HO)=some u:=z; cases z') (fun b z=>absurd rfl z) fun z=>absurd rfl z
 | none=>
  refine core (fun b=>if b=a then some (.frz { cls:=.type "list",data:=.seq vs.toArray } (.lst (ns.map V.int))) else none) (fun b=>?_) (.inl (.inr ⟨{ cls:=.type "list",data:=.seq vs.toArray },if_pos rfl⟩)) (fun b u z=>?_) (fun b z=>?_) fun _=>hk
  ·by_cases hb:b=a
   ·exact .inr ⟨_,_,if_pos hb⟩
   ·exact .inl (if_neg hb)
  ·by_cases hb:b=a
   ·have z':=(if_pos hb).symm.trans z
    cases z'
    subst hb
    exact ⟨ha,by rw [List.length_map]; exact hl,vs,_,rv,ha⟩
   ·have z':=(if_neg hb).symm.trans z
    cases z'
  ·by_cases hb:b=a
   ·exact hb
   ·exact absurd (if_neg hb) z
theorem walk_of {l:PySem.W.OpenLaw} {n k:Nat} {q:Program} {loose:List Str} {XP:(Str->Option Value)->Heap->Prop} {YP:World->Heap->Prop} {d:DefRec} {K:Params->PySem.W.Frag} {CX:World->CXT} {sp:World->Sp} {x:Str}
  (hn:l.most=some n) (hn2:n<=sizeLine) (hdf:d.params.defaults=[]) (hr:Room k callerA)
  (hY:∀ (w:World) (h:Heap),YP w h->(K w.params).In h)
  (F:∀ (w:World) (mg:Str->Option Value) (fa:Addr) (h:Heap),(K w.params).In h->h.Ns mainGlobals mg->mg d.name=some (.ref fa)->
   ∃ fd:FuncData,(∀ (s:Shared) (u:Value),BindsTo s fd ⟨[u],[]⟩ [(x,u)])/\
    ∀ base:Heap,(K w.params).In base->base.Ns mainGlobals mg->FnOk l.prog w (K w.params) mg base (CX w) k fa fd [x] (sp w))
  (hsp:∀ (w:World) (H:Hp) (a:Addr) (ns:List Int),ns.length<=n->v_T H->SqL (K w.params) H a (ns.map V.int)->sp w [.ref a] H (fun v _=>v=.bl true) fun _ _ _=>False)
  (hCX:∀ (w:World) (H:Hp) (s:Shared) (e:Value) (s':Shared),CX w [] H s (fun _ _ _=>False) e s'->False) :
  PySem.W.WalkO q loose XP YP l.row.toRowW d [] (fun f vs=>PySem.call f vs):=by
 refine Att.attach_call hn hdf fun w s₀ s₁ mg mb fa o pm cd doc a vs ns G Y9 ho hd hcd hmg hobj hints hlen hg=>?_
 have KX:=hY w _ Y9
 obtain ⟨fd,hb,hF⟩:=F w mg fa _ KX G.T.g hmg
 exact p_S KX G.T.g G.T.b G.T.builtins G.T.nolimit hg hobj hints (Nat.le_trans hlen hn2) hr hF hb (fun H hO hS=>hsp w H a ns hlen hO hS) fun H e s'=>hCX w H s₁ e s'
def b_Z (s:Stmt) (j:Nat):Stmt:=match s with
 | .ClassDef _ _ _ body _ _ _ _ _ _ _=>body.getD j (.Pass ⟨0,0,0,0⟩)
 | _=>.Pass ⟨0,0,0,0⟩
def g_I (s:Stmt):Arguments:=match s with
 | .FunctionDef _ a _ _ _ _ _ _ _ _=>a
 | _=>{ posonlyargs:=[],args:=[],vararg:=none,kwonlyargs:=[],kw_defaults:=[],kwarg:=none,defaults:=[] }
def f_k (s:Stmt):List Stmt:=match s with
 | .FunctionDef _ _ b _ _ _ _ _ _ _=>b
 | _=>[]
def a_d (s:Stmt):Scope:=match s with
 | .FunctionDef _ _ _ _ _ _ sc _ _ _=>sc
 | _=>{ kind:=.function,names:=[],isGenerator:=false,isCoroutine:=false }
structure Fun (K:PySem.W.Frag) (x qual:Str) (st:Stmt) (f:Addr) (fd:FuncData):Prop where
 ex:∃ (oc:Value) (od:Option Addr) (kV doc pm:Value) (an:Option Addr) (cdv ct:Value) (osl:Array (Option Value)),
  fd=fnOf x qual (g_I st) (f_k st) (a_d st) .none kV doc pm an cdv ct/\K.lookup f=some ⟨oc,od,.func fd,osl⟩/\codeIn K cdv qual=true
 kp:keepIn K (.ref f)=true
section
variable {P:Program} {w:World} {K:PySem.W.Frag} {mg:Str->Option Value} {base:Heap}
theorem Fun.binds {x qual:Str} {st:Stmt} {f:Addr} {fd:FuncData} {ps:List Str} (F:Fun K x qual st f fd)
  (h:∀ (kV doc pm:Value) (an:Option Addr) (cdv ct:Value) (us:List Value),us.length=ps.length->bindArgs (fnOf x qual (g_I st) (f_k st) (a_d st) .none kV doc pm an cdv ct) ⟨us,[]⟩=pure (ps.zip us)):h_t K fd ps []:=by
 obtain ⟨oc,od,kV,doc,pm,an,cdv,ct,osl,rfl,lk,hcd⟩:=F.ex
 exact .all (h kV doc pm an cdv ct)
theorem a_y {x qual:Str} {st:Stmt} {f:Addr} {oc:Value} {od an:Option Addr} {osl:Array (Option Value)} {kV doc pm cdv ct:Value} (l:K.lookup f=some ⟨oc,od,.func (fnOf x qual (g_I st) (f_k st) (a_d st) .none kV doc pm an cdv ct),osl⟩)
  (c:codeIn K cdv qual=true) (k:keepIn K (.ref f)=true):Fun K x qual st f (fnOf x qual (g_I st) (f_k st) (a_d st) .none kV doc pm an cdv ct):=⟨⟨oc,od,kV,doc,pm,an,cdv,ct,osl,rfl,l,c⟩,k⟩
end
theorem t_o {A:Around} {k:Nat} (hr:Room k A):A.units + 1 < cLine:=Nat.lt_of_le_of_lt (Nat.add_le_add_left (by decide:1<=64) _) hr.units
section
variable {X:Cx}
theorem pv (i:Nat) {x:Str} {pos:Pos} (hN:X.N[i]? = some x:=by rfl) (hv:Vis X.env.scope x:=by first | exact Or.inl rfl | exact Or.inr (Or.inl rfl) | exact Or.inr (Or.inr rfl)) (hd:(x == ("__debug__":Str))=false:=by decide)
  (hcd:(x == ("__classdict__":Str))=false:=by decide):PE X (.Name x pos) (e_A i):=u_t hN hv hd hcd
end
theorem j_7 {A B:Prop} (h:B):if false=true then A else B:=by
 rw [if_neg Bool.false_ne_true]
 exact h
theorem j_6 {A B:Prop} (h:A):if true=true then A else B:=by
 rw [if_pos rfl]
 exact h
def e_W (H H':Hp):Prop:=∀ b o,H b=some o->H' b=some o
theorem e_W.seq {K:PySem.W.Frag} {H H':Hp} {a:Addr} {xs:List V} (e:e_W H H') (h:SqL K H a xs):SqL K H' a xs:=by
 rcases h with (h | ⟨o,h⟩) | h
 ·exact .inl (.inl (e _ _ h))
 ·exact .inl (.inr ⟨o,e _ _ h⟩)
 ·exact .inr h
end L2
set_option maxHeartbeats 4000000
namespace L2
open PySem PySem.Spec PyProof.Rows
section
variable {κ:Type} [DecidableEq κ]
def p_r (kvs:List (κ × V)) (k:κ):Option V:=(kvs.find? fun kv=>decide (kv.1=k)).map (·.2)
def l_f (kvs:List (κ × V)) (k:κ) (v:V):List (κ × V):=
 if (kvs.any fun kv=>decide (kv.1=k))=true then kvs.map (fun kv=>if kv.1=k then (kv.1,v) else kv) else kvs ++ [(k,v)]
theorem j_p {p:κ × V} {r:List (κ × V)} {k:κ} (e:p.1=k):p_r (p :: r) k=some p.2:=by simp [p_r,List.find?_cons,e]
theorem j_K {p:κ × V} {r:List (κ × V)} {k:κ} (e:¬ p.1=k):p_r (p :: r) k=p_r r k:=by simp [p_r,List.find?_cons,e]
theorem h_H (k:κ):∀ kvs:List (κ × V),(kvs.any fun kv=>decide (kv.1=k))=(p_r kvs k).isSome
 | []=>rfl
 | p :: r=>by
  rw [List.any_cons]
  by_cases e:p.1=k
  ·simp only [j_p e,decide_eq_true e,Bool.true_or,Option.isSome_some]
  ·rw [j_K e,decide_eq_false e,Bool.false_or]; exact h_H k r
theorem i_o (kvs:List (κ × V)) (k:κ) (v:V):(l_f kvs k v).length<=kvs.length + 1:=by
 unfold l_f
 split
 ·rw [List.length_map]; omega
 ·rw [List.length_append,List.length_cons,List.length_nil]; omega
theorem p_U {kvs:List (κ × V)} {k:κ} (v:V) (h:p_r kvs k=none):l_f kvs k v=kvs ++ [(k,v)]:=by
 unfold l_f
 rw [h_H,h]
 exact if_neg (by decide)
theorem n_e.isSome_eq {o:Option V} {u:Option Value} (r:n_e o u):o.isSome=u.isSome:=by
 cases o with
 | none=>cases u with
  | none=>rfl
  | some _=>exact (show False from r).elim
 | some _=>cases u with
  | none=>exact (show False from r).elim
  | some _=>rfl
theorem KV.any {kvs:List (κ × V)} {vs:List (κ × Value)} (r:KV kvs vs) (k:κ):(kvs.any fun kv=>decide (kv.1=k))=vs.any fun kv=>decide (kv.1=k):=by
 unfold KV at r
 induction r with
 | nil=>rfl
 | cons h t ih=>rw [List.any_cons,List.any_cons,ih,h.1]
theorem KV.repl {kvs:List (κ × V)} {vs:List (κ × Value)} (r:KV kvs vs) (k:κ) {y:V} {u:Value} (ry:b_P y u) :
  KV (kvs.map fun kv=>if kv.1=k then (kv.1,y) else kv) (vs.map fun kv=>if kv.1=k then (kv.1,u) else kv):=by
 unfold KV at r ⊢
 induction r with
 | nil=>exact .nil
 | @cons p q ps qs h t ih=>
  rw [List.map_cons,List.map_cons]
  refine .cons ?_ ih
  obtain ⟨h1,h2⟩:=h
  by_cases e:p.1=k
  ·rw [if_pos e,if_pos (h1.symm.trans e)]; exact ⟨h1,ry⟩
  ·rw [if_neg e,if_neg (fun z=>e (h1.trans z))]; exact ⟨h1,h2⟩
theorem KV.put {kvs:List (κ × V)} {vs:List (κ × Value)} (r:KV kvs vs) (k:κ) {y:V} {u:Value} (ry:b_P y u):KV (l_f kvs k y) (stored vs k u):=by
 unfold l_f stored
 rw [r.any k]
 by_cases e:(vs.any fun kv=>decide (kv.1=k))=true
 ·rw [if_pos e,if_pos e]; exact r.repl k ry
 ·rw [if_neg e,if_neg e]; exact Paired.snoc r ⟨rfl,ry⟩
theorem KV.length {kvs:List (κ × V)} {vs:List (κ × Value)} (r:KV kvs vs):kvs.length=vs.length:=Paired.length r
end
theorem v_y {P:Program} {w:World} {k:Key} {u:Value} (r:b_P (kV k) u):(c_R P w).is k u=true:=by
 cases k with
 | inl i=>obtain ⟨t,e⟩:=(show ∃ t,u=Value.int i t from r); subst e; exact l_1 P w i t
 | inr x=>obtain ⟨t,e⟩:=(show ∃ t,u=Value.str x t from r); subst e; exact l_3 P w x t
theorem k_s {P:Program} {w:World}:∀ {ks:List Key} {us:List Value},b_y (ks.map kV) us->ItemsAre (c_R P w) ks us
 | [],_,r=>by rw [List.map_nil] at r; cases r; exact .nil
 | k :: ks,_,r=>by
  rw [List.map_cons] at r
  cases r with
  | cons h t=>exact .cons (v_y h) (k_s t)
abbrev KT (H:Hp):List (List Key × V)->List (List Key × Addr × Value)->Prop:=Paired fun p q=>p.1=q.1/\H q.2.1=some (.tup (p.1.map kV))/\b_P p.2 q.2.2
theorem KT.val {H:Hp} {kvs:List (List Key × V)} {xs:List (List Key × Addr × Value)} (r:KT H kvs xs) (k:List Key):n_e (p_r kvs k) ((atKey xs k).map (·.2)):=by
 induction r with
 | nil=>exact True.intro
 | @cons p q ps qs h t ih=>
  obtain ⟨h1,_,h2⟩:=h
  by_cases e:p.1=k
  ·have e':q.1=k:=h1.symm.trans e
   have b:atKey (q :: qs) k=some q.2:=by simp [atKey,List.find?_cons,e']
   rw [j_p e,b]; exact h2
  ·have e':¬ q.1=k:=fun z=>e (h1.trans z)
   have b:atKey (q :: qs) k=atKey qs k:=by simp [atKey,List.find?_cons,e']
   rw [j_K e,b]; exact ih
theorem KT.repl {H:Hp} {kvs:List (List Key × V)} {xs:List (List Key × Addr × Value)} (r:KT H kvs xs) (k:List Key) {y:V} {u:Value} (ry:b_P y u) :
  KT H (kvs.map fun kv=>if kv.1=k then (kv.1,y) else kv) (xs.map (putAt k u)):=by
 induction r with
 | nil=>exact .nil
 | @cons p q ps qs h t ih=>
  rw [List.map_cons,List.map_cons]
  refine .cons ?_ ih
  obtain ⟨h1,h2,h3⟩:=h
  unfold putAt
  by_cases e:p.1=k
  ·rw [if_pos e,if_pos (h1.symm.trans e)]; exact ⟨h1,h2,ry⟩
  ·rw [if_neg e,if_neg (fun z=>e (h1.trans z))]; exact ⟨h1,h2,h3⟩
theorem KT.put {H:Hp} {kvs:List (List Key × V)} {xs:List (List Key × Addr × Value)} (r:KT H kvs xs) (k:List Key) {b:Addr} {y:V} {u:Value} (hb:H b=some (.tup (k.map kV))) (ry:b_P y u) :
  KT H (l_f kvs k y) (storedH xs k b u):=by
 have e:(kvs.any fun kv=>decide (kv.1=k))=(atKey xs k).isSome:=by
  rw [h_H,(r.val k).isSome_eq,Option.isSome_map]
 unfold l_f storedH
 rw [e]
 by_cases q:(atKey xs k).isSome=true
 ·rw [if_pos q,if_pos q]; exact r.repl k ry
 ·rw [if_neg q,if_neg q]; exact Paired.snoc r ⟨rfl,hb,ry⟩
theorem KT.keeps {H H':Hp} {kvs:List (List Key × V)} {xs:List (List Key × Addr × Value)} (r:KT H kvs xs) (ht:∀ b ys,H b=some (.tup ys)->H' b=some (.tup ys)):KT H' kvs xs:=
 Paired.mapP r fun _ _ z=>⟨z.1,ht _ _ z.2.1,z.2.2⟩
section
variable {P:Program} {w:World} {H:Hp} {h:Heap} {a:Addr}
theorem t_3 {u:HO} (ok:HOk P w H h) (e:Rd H a u):b_6 P w H h a u:=e.ok ok
theorem w_F {kvs:List (Key × V)} (ok:HOk P w H h) (e:Rd H a (.dK kvs)):kvs.length<=sizeLine/\(a == sysModules)=false/\∃ vs,KV kvs vs/\h.DictOf (c_R P w) a vs:=
 show b_6 P w H h a (.dK kvs) from t_3 ok e
theorem w_d {kvs:List (Key × V)} (ok:HOk P w H h) (e:H a=some (.dK kvs)):kvs.length<=sizeLine/\(a == sysModules)=false/\∃ vs,KV kvs vs/\h.DictOf (c_R P w) a vs:=w_F ok (.inl e)
theorem q_M {ks:List Key} (ok:HOk P w H h) (e:H a=some (.tup (ks.map kV))):(tupleKind (c_R P w)).is h ks a:=by
 obtain ⟨_,its,r,o,h1,h2,n,h3⟩:=(show b_6 P w H h a (.tup (ks.map kV)) from ok a _ e)
 exact ⟨o,its.toArray,n,h1,h2,h3,by simpa using k_s r⟩
theorem w_M {kvs:List (List Key × V)} (ok:HOk P w H h) (e:Rd H a (.dT kvs)):kvs.length<=sizeLine/\(a == sysModules)=false/\
  ∃ xs,KT H kvs xs/\h.DictOfH (tupleKind (c_R P w)) a xs:=by
 obtain ⟨z,y,xs,r,o,es,ep,h1,h2,h3,h4,h5⟩:=(show b_6 P w H h a (.dT kvs) from t_3 ok e)
 refine ⟨z,y,xs,r,o,es,ep,h1,h2,h3,h4,fun x hx=>?_,h5⟩
 have all:∀ {l:List (List Key × V)} {m:List (List Key × Addr × Value)},KT H l m->∀ x ∈ m,(tupleKind (c_R P w)).is h x.1 x.2.1:=by
  intro l m q
  induction q with
  | nil=>intro x hx; exact nomatch hx
  | @cons p q ps qs hq t ih=>
   intro x hx
   rcases List.mem_cons.mp hx with e | hx
   ·subst e
    exact q_M ok (by rw [<-hq.1]; exact hq.2.1)
   ·exact ih x hx
 exact all r x hx
theorem x_d {kvs:List (List Key × V)} (ok:HOk P w H h) (e:H a=some (.dT kvs)):kvs.length<=sizeLine/\(a == sysModules)=false/\
  ∃ xs,KT H kvs xs/\h.DictOfH (tupleKind (c_R P w)) a xs:=w_M ok (.inl e)
end
def s_o (H:Hp) (a:Addr) (y v:V) (H':Hp):Prop:=
 (∃ kvs k,H a=some (.dK kvs)/\y=kV k/\kvs.length < sizeLine/\H' = upd H a (.dK (l_f kvs k v)))\/
 ∃ kvs k b,H a=some (.dT kvs)/\y=.ref b/\H b=some (.tup (k.map kV))/\kvs.length < sizeLine/\H' = upd H a (.dT (l_f kvs k v))
theorem s_o.k {H:Hp} {a:Addr} {kvs:List (Key × V)} {k:Key} {v:V} (e:H a=some (.dK kvs)) (hl:kvs.length < sizeLine):s_o H a (kV k) v (upd H a (.dK (l_f kvs k v))):=.inl ⟨kvs,k,e,rfl,hl,rfl⟩
theorem s_o.t {H:Hp} {a b:Addr} {kvs:List (List Key × V)} {k:List Key} {v:V} (e:H a=some (.dT kvs)) (eb:H b=some (.tup (k.map kV))) (hl:kvs.length < sizeLine) :
  s_o H a (.ref b) v (upd H a (.dT (l_f kvs k v))):=.inr ⟨kvs,k,b,e,rfl,eb,hl,rfl⟩
section
variable {X:Cx} {pins:List (Addr × Obj)} {Y:St} {H:Hp} {s:Shared} {a:Addr} {y v:V} {u r:Value} {o:Option V} {A:Around} {E:Value->Shared->Prop}
theorem Inv.big (I:Inv X pins Y H s):sysModules < s.heap.objs.size:=by
 have h:mainGlobals < s.heap.objs.size:=(I.mod.glob.keeps I.bk).lt
 exact Nat.lt_trans (by decide) h
theorem n_V {h':Heap} {t':Nat} {ob:HO} (I:Inv X pins Y H s) (mu:Mut (H a)) (hs:Heap.SameBut a s.heap h') (he:∃ q,h'.get? a=some q) (new:b_6 X.prog X.w (upd H a ob) h' a ob) :
  Inv X pins Y (upd H a ob) { s with heap:=h',toks:=t' }:=
 I.write (x:=a) (e:=a) mu (.inl rfl) (fun b q hb z=>(hs.2 b hb).trans z) he new
theorem v_b {P:Program} {w:World} {H':Hp} {h':Heap} {kvs:List (Key × V)} {vs:List (Key × Value)} (z:kvs.length<=sizeLine) (hd:(a == sysModules)=false) (rel:KV kvs vs) (dd:h'.DictOf (c_R P w) a vs) :
  b_6 P w H' h' a (.dK kvs):=⟨z,hd,vs,rel,dd⟩
theorem n_I {H':Hp} {Q:Unit->Shared->Prop} (hu:A.units + 1 < cLine) (I:Inv X pins Y H s) (g:s_o H a y v H') (ry:b_P y u) (rv:b_P v r) (h:∀ s',Inv X pins Y H' s'->Q () s') :
  wpAny (model X.prog X.w) A (setItem (.ref a) u r) Q E s:=by
 rcases g with ⟨kvs,k,e,ey,l,eH⟩ | ⟨kvs,k,b,e,ey,eb,l,eH⟩
 ·subst ey eH
  obtain ⟨z,hd,vs,rel,dd⟩:=w_d I.hok e
  have hz:vs.length<=sizeLine:=by rw [<-rel.length]; exact z
  have hl:(l_f kvs k v).length<=sizeLine:=by have:=i_o kvs k v; omega
  refine wpAny_setItem_pairs (hsz:=hz) (v_y ry) dd fun h' dd' hs=>h _ ?_
  have he:∃ q,h'.get? a=some q:=let ⟨q,_,_,hq,_⟩:=dd'; ⟨q,hq⟩
  exact n_V I (by rw [e]; exact True.intro) hs he (v_b hl hd (rel.put k rv) dd')
 ·subst ey eH
  cases (show u=Value.ref b from ry)
  obtain ⟨z,hd,xs,rel,dd⟩:=x_d I.hok e
  have hz:xs.length<=sizeLine:=by rw [<-Paired.length rel]; exact z
  have hl:(l_f kvs k v).length<=sizeLine:=by have:=i_o kvs k v; omega
  refine wpAny_setItem_heap (hsz:=hz) (tupleKind_room_in1 hu) (q_M I.hok eb) dd fun h' dd' hs=>h _ ?_
  obtain ⟨q,es,ep,hq,h2,h3,h4,_,h5⟩:=dd'
  refine n_V I (by rw [e]; exact True.intro) hs ⟨q,hq⟩ ⟨hl,hd,_,(rel.put k eb rv).keeps fun c ys ec=>?_,q,es,ep,hq,h2,h3,h4,h5⟩
  rw [a_p (w_Y ec e (fun z=>nomatch z))]
  exact ec
end
def x_p (td ty tv:TE):TS:=fun D Y H=>tv Y H fun v H1=>td Y H1 fun x H2=>ty Y H2 fun y H3=>∃ a H4,x=.ref a/\s_o H3 a y v H4/\D.nx Y H4
section
variable {X:Cx} {o i e value:Expr} {pos pos' tpos:Pos} {td ty tv:TE}
theorem s_z (hu:X.A.units + 1 < cLine) (ho:PE X o td) (hi:PE X i ty) (hv:PE X value tv) (hs:swapsWith value (some (.Subscript o i pos')) pos.line X.env=pure false) :
  PS X (.Assign [.Subscript o i pos'] value pos) (x_p td ty tv):=by
 intro pins s Y H D I h
 refine wpAny_Assign_Subscript (thn (hv pins s Y H _ I h) fun r s1 ⟨v,H1,I1,rv,q1⟩=>thn (ho pins s1 Y H1 _ I1 q1) fun u s2 ⟨x,H2,I2,rx,q2⟩=>thn (hi pins s2 Y H2 _ I2 q2) fun iv s3 ⟨y,H3,I3,ry,a,H4,ex,g,q3⟩=>?_) hs
 subst ex
 obtain rfl:u=Value.ref a:=rx
 exact n_I hu I3 g ry rv fun s4 I4=>⟨Y,H4,I4,q3⟩
end
theorem q_g {P:Program} {w:World} {H:Hp} (h:Heap) (hb:sysModules < h.objs.size):b_6 P w H (h.push { cls:=.type "dict",data:=.dict #[] }) h.objs.size (.dT []):=
 ⟨Nat.zero_le _,beq_eq_false_iff_ne.mpr (Ne.symm (Nat.ne_of_lt hb)),[],.nil,_,#[],0,Heap.get?_push_size _ rfl,⟨rfl,rfl,rfl⟩,rfl,rfl,List.nodup_nil⟩
def u_P:TE:=fun _ H Q=>∀ p,H p=none->Q (.ref p) (upd H p (.dT []))
section
variable {X:Cx} {pos:Pos}
theorem q_x:PE X (.Dict [] [] pos) u_P:=fun pins s Y H Q I h=>
 wpAny_Dict_empty ⟨.ref s.heap.objs.size,_,I.laid (a:=s.heap.objs.size) (o:=.dT []) (t':=s.toks) (fun _ _ q=>Heap.get?_push_of_some _ q) (Nat.le_refl _) (q_g s.heap I.big),rfl,h _ (I.hok.fresh (Nat.le_refl _))⟩
end
def g_h (env:Env):List (Str × NameKind)->List (Str × Addr)->List (Str × Addr)
 | [],acc=>acc
 | (n,k) :: r,acc=>if k == .free then g_h env r ((n,(env.cells.lookup n).getD 0) :: acc) else g_h env r acc
theorem g_9 (env:Env):∀ (names:List (Str × NameKind)) (acc:List (Str × Addr)),(∀ y ∈ names,y.2=.free->(env.cells.lookup y.1).isSome=true)->
  (forIn names acc fun (x:Str × NameKind) (cs:List (Str × Addr))=>if (x.2 == NameKind.free)=true then (do let c <-cellOf env x.1; pure (ForInStep.yield ((x.1,c) :: cs))) else (pure (ForInStep.yield cs):Sem (ForInStep (List (Str × Addr)))))=pure (g_h env names acc)
 | [],acc,_=>rfl
 | (n,k) :: r,acc,h=>by
  have ih:=fun a=>g_9 env r a fun y hy=>h y (List.mem_cons_of_mem _ hy)
  rw [List.forIn_cons]
  unfold g_h
  by_cases hk:(k == NameKind.free)=true
  ·obtain ⟨c,hc⟩:=Option.isSome_iff_exists.mp (h (n,k) List.mem_cons_self (by simpa using hk))
   simp only [hk,if_true]
   have:cellOf env n=pure c:=by unfold cellOf; rw [hc]
   rw [this,hc]
   exact ih _
  ·simp only [hk]
   exact ih _
theorem e_S {scope:Scope} {env:Env} (h:∀ y ∈ scope.names,y.2=.free->(env.cells.lookup y.1).isSome=true):closureFor scope env=pure (g_h env scope.names []):=by
 have e:=g_9 env scope.names [] h
 unfold closureFor
 exact congrArg (fun m=>m >>= pure) e
theorem g_G {env:Env} {x:Str}:∀ {names:List (Str × NameKind)} {acc:List (Str × Addr)} {c:Addr},(∀ y ∈ names,y.2=.free->(env.cells.lookup y.1).isSome=true)->
  (∀ c,acc.lookup x=some c->env.cells.lookup x=some c)->(g_h env names acc).lookup x=some c->env.cells.lookup x=some c
 | [],_,_,_,ha,h=>ha _ h
 | (n,k) :: r,acc,c,hn,ha,h=>by
  unfold g_h at h
  by_cases hk:(k == NameKind.free)=true
  ·rw [if_pos hk] at h
   refine g_G (fun y hy=>hn y (List.mem_cons_of_mem _ hy)) (fun c' e=>?_) h
   rw [List.lookup_cons] at e
   cases hx:x == n with
   | true=>
    rw [hx] at e
    have:x=n:=by simpa using hx
    subst this
    obtain ⟨d,hd⟩:=Option.isSome_iff_exists.mp (hn (x,k) List.mem_cons_self (by simpa using hk))
    rw [hd] at e ⊢
    exact e
   | false=>
    rw [hx] at e
    exact ha _ e
  ·rw [if_neg hk] at h
   exact g_G (fun y hy=>hn y (List.mem_cons_of_mem _ hy)) ha h
theorem g_b {env:Env} {x:Str}:∀ {names:List (Str × NameKind)} {acc:List (Str × Addr)},((x,NameKind.free) ∈ names\/(acc.lookup x).isSome=true)->((g_h env names acc).lookup x).isSome=true
 | [],_,h=>by rcases h with h | h; cases h; exact h
 | (n,k) :: r,acc,h=>by
  unfold g_h
  by_cases hk:(k == NameKind.free)=true
  ·rw [if_pos hk]
   refine g_b ?_
   rw [List.lookup_cons]
   cases hx:x == n with
   | true=>exact .inr rfl
   | false=>
    rcases h with h | h
    ·rcases List.mem_cons.mp h with e | h
     ·cases e; simp at hx
     ·exact .inl h
    ·exact .inr h
  ·rw [if_neg hk]
   refine g_b ?_
   rcases h with h | h
   ·rcases List.mem_cons.mp h with e | h
    ·cases e; simp at hk
    ·exact .inl h
   ·exact .inr h
abbrev rlab (env:Env):Str × NameKind->Str × NameKind:=fun (n,k)=>if (k == NameKind.free && env.scope.kind == .function && env.kindOf n == some .cell) then (n,NameKind.cell) else (n,k)
theorem g_F {env:Env}:∀ {names:List (Str × NameKind)} {x:Str} {k:NameKind},names.lookup x=some k->
  (names.map (rlab env)).lookup x=some k\/(k=.free/\(names.map (rlab env)).lookup x=some .cell)
 | [],_,_,h=>by simp at h
 | (n,k) :: r,x,k',h=>by
  have ih:=@g_F env r x k'
  rw [List.map_cons]
  have e:rlab env (n,k)=(n,k)\/(k=.free/\rlab env (n,k)=(n,.cell)):=by
   by_cases hc:(k == NameKind.free && env.scope.kind == .function && env.kindOf n == some .cell)=true
   ·refine .inr ⟨?_,if_pos hc⟩
    cases k <;> first | rfl | (simp at hc)
   ·exact .inl (if_neg hc)
  cases hx:x == n with
  | true=>
   simp only [List.lookup_cons,hx] at h
   cases h
   rcases e with e | ⟨e1,e⟩
   ·rw [e]; exact .inl (by simp only [List.lookup_cons,hx])
   ·rw [e]; exact .inr ⟨e1,by simp only [List.lookup_cons,hx]⟩
  | false=>
   simp only [List.lookup_cons,hx] at h
   rcases e with e | ⟨e1,e⟩ <;> (rw [e]; simp only [List.lookup_cons,hx]; exact ih h)
theorem g_3 {env:Env}:∀ {names:List (Str × NameKind)} {x:Str},names.lookup x=none->(names.map (rlab env)).lookup x=none
 | [],_,_=>rfl
 | (n,k) :: r,x,h=>by
  have ih:=@g_3 env r x
  rw [List.map_cons]
  have e:rlab env (n,k)=(n,k)\/rlab env (n,k)=(n,.cell):=by
   by_cases hc:(k == NameKind.free && env.scope.kind == .function && env.kindOf n == some .cell)=true
   ·exact .inr (if_pos hc)
   ·exact .inl (if_neg hc)
  cases hx:x == n with
  | true=>simp only [List.lookup_cons,hx] at h; cases h
  | false=>
   simp only [List.lookup_cons,hx] at h
   rcases e with e | e <;> (rw [e]; simp only [List.lookup_cons,hx]; exact ih h)
section
variable {prog:Program} {w:World} {A:Around} {E:Value->Shared->Prop} {R:Result->Shared->Prop} {s:Shared}
theorem k_2 {elt target iter:Expr} {ifs:List Expr} {scope:Scope} {pos:Pos} {it acc:Value} {env:Env} (I:Nat->Shared->Prop)
  (turn:∀ n s,I n s->wpAny (model prog w) A (pyNext it) (fun r s₁=>match r with
   | none=>R (.ok .next) s₁
   | some v=>wpAny (model prog w) A (letOwnedTupleGo target it v) (fun _ s₁'=>wpAny (model prog w) A (assign target env v) (fun _ s₂=>
     wpAny (model prog w) A (forIn ifs true fun c r=>if r=true then do let ok <-isTrue c env (eval c env); pure (ForInStep.yield ok) else pure (ForInStep.yield r)) (fun ok s₃=>
      if ok=true then wpAny (model prog w) A (eval elt env) (fun x s₄=>
       wpAny (model prog w) A (call (.builtin "list.append") [acc,x]) (fun _ s₅=>∃ m,m < n/\I m s₅) (fun _ _=>False) s₄) (fun _ _=>False) s₃
      else ∃ m,m < n/\I m s₃) (fun _ _=>False) s₂) (fun _ _=>False) s₁') (fun _ _=>False) s₁) (fun _ _=>False) s)
  (n:Nat) (h:I n s) :
  codeAny (model prog w) A (.compLoop (.ListComp elt [⟨target,iter,ifs,0⟩] scope pos) 0 it acc env) R s:=by
 refine codeAny_loop rfl I (fun n s hI=>?_) n h
 show wpAny _ A ((compTurn (.ListComp elt [⟨target,iter,ifs,0⟩] scope pos) 0 it acc env).onRaise (fun x=>do noteFrame x env; theTreesLotGoes x)) _ _ s
 refine wpAny_noted (wpAny_noRaise ?_)
 rw [compTurn_list]
 refine wpAny_bind (wpAny_standAt (wpAny_bind (wpAny_mono (turn n s hI) (fun r s₁ h₁=>?_) fun _ _ h'=>h')))
 cases r with
 | none=>exact wpAny_pure h₁
 | some v=>
  refine wpAny_bind (wpAny_mono h₁ (fun _ s₁' h₁'=>?_) fun _ _ h'=>h')
  refine wpAny_bind (wpAny_mono h₁' (fun _ s₂ h₂=>wpAny_bind (wpAny_mono h₂ (fun ok s₃ h₃=>?_) fun _ _ h'=>h')) fun _ _ h'=>h')
  cases ok with
  | false=>exact wpAny_pure ⟨rfl,h₃⟩
  | true=>
   exact wpAny_bind (wpAny_bind (wpAny_mono h₃ (fun x s₄ h₄=>wpAny_bind (wpAny_mono h₄ (fun _ s₅ h₅=>wpAny_pure (wpAny_pure ⟨rfl,h₅⟩)) fun _ _ h'=>h')) fun _ _ h'=>h'))
end
abbrev a_U (X:Cx) (scope:Scope) (N':List Str) (C:Addr) (fp:List Addr) (s₂:Shared) (H₂:Hp) (pl:List (Addr × Obj)):Cx where
 prog:=X.prog
 w:=X.w
 K:=X.K
 mg:=X.mg
 base:=X.base
 A:=X.A
 N:=N'
 s₀:=s₂
 H₀:=H₂
 env:=compEnvC scope (g_h X.env scope.names []) C X.env
 outer:=X.stack
 stack:=X.stack
 ex:=fp
 fn:=fun _=>false
 calm:=X.calm
 pn:=X.pn ++ pl
 xe:=fun _ _=>False
structure CompScope (X:Cx) (scope:Scope) (own capN:List Str) (caps:List Nat):Prop where
 kind:scope.kind=.function
 nocell:∀ y ∈ scope.names,y.2 ≠ .cell
 free:∀ y ∈ scope.names,y.2=.free->X.env.kindOf y.1=some .cell\/X.env.kindOf y.1=some .free
 loc:∀ y ∈ scope.names,y.2=.local->scope.names.lookup y.1=some .local
 caps:caps.map (fun j=>X.N[j]?)=capN.map some
 capf:∀ x ∈ capN,scope.names.lookup x=some .free
def g_a (own:List Str) (caps:List Nat) (Y:St):St:=own.map (fun _=>none) ++ caps.map (fun j=>(Y[j]?).getD none)
section
variable {X:Cx} {scope:Scope} {own capN:List Str} {caps:List Nat}
theorem CompScope.cells (S:CompScope X scope own capN caps) (ok:X.Ok):∀ y ∈ scope.names,y.2=.free->(X.env.cells.lookup y.1).isSome=true:=fun y hy hf=>by
 obtain ⟨c,hc⟩:=ok.has y.1 (S.free y hy hf)
 rw [hc]; rfl
theorem CompScope.cl (S:CompScope X scope own capN caps) (ok:X.Ok) {x:Str} {c:Addr} (h:(g_h X.env scope.names []).lookup x=some c):X.env.cells.lookup x=some c:=
 g_G (S.cells ok) (fun _ e=>by simp at e) h
theorem p_2 {pins:List (Addr × Obj)} {Y:St} {H₂:Hp} {s₂:Shared} {h₁:Heap} {C:Addr} {fp:List Addr} {tk:Nat} {m:Str->Option Value} (S:CompScope X scope own capN caps) (I:Inv X pins Y H₂ s₂)
  (hf:∀ b ∈ fp,n_t X pins H₂ b) (hfo:∀ b ∈ fp,b < s₂.heap.objs.size) (hC:s₂.heap.objs.size<=C) (hk:∀ b o,s₂.heap.get? b=some o->h₁.get? b=some o) (hn:h₁.Ns C m) :
  Inv (a_U X scope (own ++ capN) C fp s₂ H₂ pins) [] (g_a own caps Y) H₂ { s₂ with heap:=h₁,toks:=tk }:=by
 have cl:=fun {x:Str} {c:Addr}=>S.cl (x:=x) (c:=c) I.ok
 have kindRel:∀ x,((relabel scope X.env).names.lookup x=some .cell\/(relabel scope X.env).names.lookup x=some .free)->scope.names.lookup x=some .free:=fun x hx=>by
  cases e:scope.names.lookup x with
  | none=>
   have z:(relabel scope X.env).names.lookup x=none:=g_3 (env:=X.env) e
   rw [z] at hx
   rcases hx with q | q <;> cases q
  | some k=>
   rcases g_F (env:=X.env) e with z | ⟨z,_⟩
   ·have z':(relabel scope X.env).names.lookup x=some k:=z
    rw [z'] at hx
    rcases hx with q | q
    ·cases q; exact absurd rfl (S.nocell _ (PySem.mem_of_lookup e))
    ·cases q; rfl
   ·rw [z]
 have stk:∀ b,b ≠ X.env.locals->b ∉ X.fs->b ∉ frs X.stack:=fun b h1 h2 z=>(List.mem_cons.mp (I.stkSub b z)).elim h1 h2
 refine ⟨⟨I.ok.mod,S.kind,I.ok.glob,I.ok.blt,hC,fun x y c h1 h2=>I.ok.inj x y c (cl h1) (cl h2),fun x hx=>?_,fun x c h _=>(by cases h),I.ok.hd,I.ok.frames,.inl rfl,fun b hb=>⟨?_,fun x c h=>(hf b hb).2.2.2.2.1 x c (cl h)⟩,
   I.bs,Nat.le_trans I.ok.bsz I.sz,fun b o e hb=>?_,fun b hb=>stk b (hf b hb).2.1 (hf b hb).2.2.1,I.stack,I.stkFree⟩,
  rfl,I.bare,Un.kept hk,⟨m,hn,fun i x v h1 h2 h3=>?_⟩,fun x c h=>?_,I.hok.fresh hC,fun x c h=>I.freeC x c (cl h),fun p hp=>?_,I.hok.kept hk,?_⟩
 ·have q:=kindRel x hx
  exact Option.isSome_iff_exists.mp (g_b (env:=X.env) (.inl (PySem.mem_of_lookup q)))
 ·exact Nat.ne_of_lt (Nat.lt_of_lt_of_le (hfo b hb) hC)
 ·rcases (hf b hb).2.2.2.1 with z | z
  ·exact I.ok.noex b o e z
  ·exact absurd (Nat.lt_of_lt_of_le (Heap.lt_size (I.ok.bs b o e).1) z) (Nat.lt_irrefl _)
 ·
  have hi:own.length<=i:=by
   refine Nat.le_of_not_lt fun hlt=>?_
   unfold g_a at h2
   rw [List.getElem?_append_left (by simpa using hlt),List.getElem?_map] at h2
   cases q:own[i]? with
   | none=>rw [q] at h2; cases h2
   | some y=>rw [q] at h2; cases h2
  have h1':capN[i - own.length]? = some x:=by
   have:(own ++ capN)[i]? = some x:=h1
   rwa [List.getElem?_append_right hi] at this
  have h2':(caps.map (fun j=>(Y[j]?).getD none))[i - own.length]? = some (some v):=by
   unfold g_a at h2
   rwa [List.getElem?_append_right (by simpa using hi),List.length_map] at h2
  rw [List.getElem?_map] at h2'
  obtain ⟨j,hj,hj2⟩:=Option.map_eq_some_iff.mp h2'
  have hX:X.N[j]? = some x:=by
   have q:=congrArg (fun l=>l[i - own.length]?) S.caps
   simp only [List.getElem?_map,hj,h1',Option.map_some] at q
   exact Option.some.inj q
  have hY:Y[j]? = some (some v):=by
   cases q:Y[j]? with
   | none=>rw [q] at hj2; cases hj2
   | some z=>rw [q] at hj2; simp at hj2; rw [hj2]
  have hfr:=S.capf x (List.mem_of_getElem? h1')
  have hmem:(x,NameKind.free) ∈ scope.names:=PySem.mem_of_lookup hfr
  have hkX:=S.free _ hmem rfl
  obtain ⟨m',hm',hl⟩:=I.loc
  obtain ⟨u,ru,l⟩:=hl j x v hX hY (hkX.elim (fun q=>.inr (.inl q)) fun q=>.inr (.inr q))
  refine ⟨u,ru,.inr ⟨?_,?_⟩⟩
  ·rcases g_F (env:=X.env) hfr with z | ⟨_,z⟩
   ·exact .inr z
   ·exact .inl z
  ·rcases l with ⟨l,_⟩ | ⟨_,c,hc,hcell⟩
   ·have l':X.env.kindOf x=some .local:=l
    rcases hkX with q | q <;> (rw [l'] at q; cases q)
   ·obtain ⟨c',hc'⟩:=Option.isSome_iff_exists.mp (g_b (env:=X.env) (acc:=[]) (.inl hmem))
    have:=cl hc'
    rw [hc] at this
    cases this
    obtain ⟨o,ho,hd⟩:=hcell
    exact ⟨c,hc',o,hk c o ho,hd⟩
 ·obtain ⟨v,o,ho,hd⟩:=I.cell x c (cl h)
  exact ⟨v,o,hk c o ho,hd⟩
 ·have hp':p ∈ X.pn ++ pins:=by simpa using hp
  obtain ⟨e,n,ne,nf,d⟩:=I.pin p hp'
  exact ⟨hk _ _ e,n,Nat.ne_of_lt (Nat.lt_of_lt_of_le (Heap.lt_size e) hC),stk p.1 ne nf,d⟩
 ·unfold g_a
  have hl:=congrArg List.length S.caps
  simp only [List.length_map] at hl
  show (own.map (fun _=>(none:Option V)) ++ caps.map (fun j=>(Y[j]?).getD none)).length=(own ++ capN).length
  rw [List.length_append,List.length_append,List.length_map,List.length_map,hl]
end
def PTs (X:Cx) (ifs:List Expr) (t:TT):Prop:=
 ∀ (pins:List (Addr × Obj)) (s:Shared) (Y:St) (H:Hp) (Q:Bool->Hp->Prop),Inv X pins Y H s->t Y H Q->
  wpAny (model X.prog X.w) X.A (forIn ifs true fun c r=>if r=true then do let ok <-isTrue c X.env (eval c X.env); pure (ForInStep.yield ok) else pure (ForInStep.yield r)) (TP X pins Y Q) X.xe s
def y_w:TT:=fun _ H Q=>Q true H
theorem s_g {X:Cx}:PTs X [] y_w:=fun _ _ _ H _ I h=>wpAny_tests_nil ⟨H,I,h⟩
theorem s_Q {X:Cx} {c:Expr} {t:TT} (h:PT X c t):PTs X [c] t:=fun pins s Y H Q I q=>wpAny_tests_one (h pins s Y H Q I q)
def m_I (own:List Str) (caps:List Nat) (wi:TI) (g:TG) (tc:TT) (te:TE):TE:=fun Y H Q=>wi Y H fun J H1=>∃ W:Nat->Nat->List V->St->Hp->Prop,(∃ m,W 0 m [] (g_a own caps Y) H1)/\∀ i m ys Y' H,W i m ys Y' H->
 (J.stop i H/\ys.length<=sizeLine/\∀ p,H p=none->Q (.ref p) (upd H p (.lst ys)))\/
 (J.go i H/\∀ x H',J.yld i H x H'->g x Y' H' fun Y2 H2=>tc Y2 H2 fun b H3=>if b=true then te Y2 H3 fun y H4=>ys.length < sizeLine/\∃ m',m' < m/\W (i + 1) m' (ys ++ [y]) Y2 H4 else ∃ m',m' < m/\W (i + 1) m' ys Y2 H3)
section
variable {X:Cx} {scope:Scope} {own capN:List Str} {caps:List Nat} {tg iter elt:Expr} {ifs:List Expr} {wi:TI} {g:TG} {tc:TT} {te:TE} {pos:Pos}
theorem k_b {pins:List (Addr × Obj)} {Y:St} {H:Hp} {s:Shared} {Q:VK} {RR:Value->Addr->Result->Shared->Prop} (S:CompScope X scope own capN caps) (hc:X.calm=true) (hi:PI X tg iter wi)
  (hin:∀ C fp s₂ H₂ pl,PG (a_U X scope (own ++ capN) C fp s₂ H₂ pl) tg g/\PTs (a_U X scope (own ++ capN) C fp s₂ H₂ pl) ifs tc/\PE (a_U X scope (own ++ capN) C fp s₂ H₂ pl) elt te)
  (I:Inv X pins Y H s) (h:m_I own caps wi g tc te Y H Q)
  (hRR:∀ (D C:Addr) (s':Shared) (H':Hp) (m:Str->Option Value),Inv X pins Y H' s'->n_t X pins H' C->s'.heap.Ns C m->Q (.ref D) H'->RR (.ref D) C (.ok .next) s') :
  wpAny (model X.prog X.w) X.A (eval iter X.env) (fun x s₁=>wpAny (model X.prog X.w) X.A (pyIter x) (fun it s₂=>wpAny (model X.prog X.w) X.A (newList []) (fun acc s₃=>
   wpAny (model X.prog X.w) X.A (newFunctionEnv scope X.env.globals (g_h X.env scope.names []) [] X.env.qual none .none (some X.env)) (fun cenv s₄=>
    codeAny (model X.prog X.w) X.A (.compStart (.ListComp elt [⟨tg,iter,ifs,0⟩] scope pos) 0 it acc { cenv with scope:=relabel scope X.env }) (RR acc cenv.locals) s₄) X.xe s₃) X.xe s₂) X.xe s₁) X.xe s:=by
 refine thn (hi pins s Y H _ I h) fun v s1 h1=>thn h1 fun itv s2 h2=>?_
 obtain ⟨it,fp,tn,J,H2,e,I2,T,st2,f2,W,⟨m0,w0⟩,turn⟩:=h2
 subst e
 have hfo:∀ b ∈ fp,b < s2.heap.objs.size:=fun b hb=>by obtain ⟨o,e,_⟩:=T.obj _ _ st2 b hb; exact Heap.lt_size e
 refine wpAny_newObj_type (wpAny_newFunctionEnv S.nocell (by intro y hy; simp at hy) (fun h₁ hns₁ hsb₁=>?_) S.kind)
 dsimp only at hns₁ hsb₁ ⊢
 generalize hH2:s2.heap.push { cls:=.type "list",dict:=none,data:=.seq ([]:List Value).toArray } = HH at hns₁ hsb₁ ⊢
 have hC:HH.objs.size=s2.heap.objs.size + 1:=by rw [<-hH2,Heap.size_push]
 have hCle:s2.heap.objs.size<=HH.objs.size:=by rw [hC]; exact Nat.le_succ _
 have hDC:s2.heap.objs.size ≠ HH.objs.size:=by rw [hC]; exact Nat.ne_of_lt (Nat.lt_succ_self _)
 have below:∀ b,b < s2.heap.objs.size->b ≠ HH.objs.size:=fun b hb=>by rw [hC]; exact Nat.ne_of_lt (Nat.lt_succ_of_lt hb)
 have old:∀ b o,s2.heap.get? b=some o->h₁.get? b=some o:=fun b o e=>hsb₁.extBut b o (below b (Heap.lt_size e)) (Heap.get?_push_of_some _ (hH2 ▸ Heap.get?_push_of_some _ e))
 have hacc:h₁.get? s2.heap.objs.size=some { cls:=.type "list",dict:=none,data:=.seq ([]:List Value).toArray }:=hsb₁.extBut _ _ hDC (Heap.get?_push_of_some _ (hH2 ▸ Heap.get?_push_size _ rfl))
 generalize hCe:HH.objs.size=C at hns₁ hDC hCle below ⊢
 generalize hDe:s2.heap.objs.size=D at hacc hDC ⊢
 clear hsb₁ hH2 hC hCe HH
 obtain ⟨hg,ht,he⟩:=hin C fp s2 H2 pins
 have Ic:Inv (a_U X scope (own ++ capN) C fp s2 H2 pins) [] (g_a own caps Y) H2 { s2 with heap:=h₁,toks:=s2.toks + ([]:List (Str × Value)).length }:=p_2 S I2 f2 hfo (by rw [hDe]; rw [hDe] at hCle; exact hCle) old hns₁
 have cellsD:∀ x c,(g_h X.env scope.names []).lookup x=some c->c ≠ D:=fun x c e z=>by
  obtain ⟨v,q⟩:=I2.cell x c (S.cl I2.ok e)
  exact absurd q.lt (by rw [z,hDe]; exact Nat.lt_irrefl _)
 have DnotFs:D ∉ frs X.stack:=fun z=>by
  rcases List.mem_cons.mp (I2.stkSub D z) with q | q
  ·exact absurd I2.lt (by rw [<-q,hDe]; exact Nat.lt_irrefl _)
  ·exact I2.nofs (by rw [hDe]; exact Nat.le_refl _) q
 have DnotPin:∀ p ∈ X.pn ++ pins,p.1 ≠ D:=fun p hp z=>absurd (Heap.lt_size (I2.pin p hp).1) (by rw [z,hDe]; exact Nat.lt_irrefl _)
 have pinD:∀ {Y':St} {H':Hp} {s':Shared} {us:List Value} {k:Nat},Inv (a_U X scope (own ++ capN) C fp s2 H2 pins) [] Y' H' s'->s'.heap.get? D=some { cls:=.type "list",data:=.seq us.toArray k }->H' D=none->
   Inv (a_U X scope (own ++ capN) C fp s2 H2 pins) [(D,{ cls:=.type "list",data:=.seq us.toArray k })] Y' H' s':=fun J e n=>J.pins_of fun p hp=>by
  obtain rfl:=List.mem_singleton.mp hp
  exact ⟨e,n,hDC,DnotFs,fun v z=>by cases z⟩
 have fpc:∀ {H':Hp} {o:Obj},(∀ b ∈ fp,H' b=none)->∀ b ∈ fp,n_t (a_U X scope (own ++ capN) C fp s2 H2 pins) [(D,o)] H' b:=fun hn b hb=>by
  obtain ⟨f0,f1,f2',f3,f4,f5⟩:=f2 b hb
  refine ⟨hn b hb,Nat.ne_of_lt (Nat.lt_of_lt_of_le (hfo b hb) (by rw [hDe]; rw [hDe] at hCle; exact hCle)),fun z=>(List.mem_cons.mp (I2.stkSub b z)).elim f1 f2',.inl hb,fun x c e=>f4 x c (S.cl I2.ok e),fun p hp=>?_⟩
  rcases List.mem_append.mp hp with hp | hp
  ·exact f5 p hp
  ·obtain rfl:=List.mem_singleton.mp hp
   intro z
   have z':D=b:=z
   exact absurd (hfo b hb) (by rw [<-z',hDe]; exact Nat.lt_irrefl _)
 have loop:codeAny (model X.prog X.w) X.A (.compLoop (.ListComp elt [⟨tg,iter,ifs,0⟩] scope pos) 0 (.ref it) (.ref D) (compEnvC scope (g_h X.env scope.names []) C X.env)) (RR (.ref D) C) { s2 with heap:=h₁,toks:=s2.toks + ([]:List (Str × Value)).length }:=by
  refine k_2 (fun n s'=>∃ i ys us k Y' H',Inv (a_U X scope (own ++ capN) C fp s2 H2 pins) [(D,{ cls:=.type "list",data:=.seq us.toArray k })] Y' H' s'/\tn i s'.heap/\(∀ b ∈ fp,H' b=none)/\b_y ys us/\W i n ys Y' H') ?_ m0
   ⟨0,[],[],0,_,H2,pinD Ic hacc (I2.hok.fresh (by rw [hDe]; exact Nat.le_refl _)),T.keep _ _ _ st2 fun b _ o e=>old b o e,fun b hb=>(f2 b hb).1,.nil,w0⟩
  rintro n s3 ⟨i,ys,us,k,Y3,H3,I3,st3,fr3,r3,w3⟩
  rcases turn i n ys Y3 H3 w3 with ⟨stop,hz,qn⟩ | ⟨go,step⟩
  ·refine thn (T.done (a_U X scope (own ++ capN) C fp s2 H2 pins) rfl rfl rfl hc i _ s3 Y3 H3 _ I3 (fpc fr3) st3 stop) fun r s4 ⟨hr,I4⟩=>?_
   subst hr
   obtain ⟨eD,nD,_⟩:=I4.pin (D,_) (List.mem_append_right _ (List.mem_singleton.mpr rfl))
   have nD':H3 D=none:=nD
   have I5:Inv X pins Y (upd H3 D (.lst ys)) s4:=by
    refine I2.call' (ch:=fp) I4.os ⟨I4.base.keep,I4.base.slot,fun b o e n hx=>?_,I4.base.there,fun b xs e=>?_,fun b o u e=>?_,fun b ps e=>?_⟩ (fun b u e=>?_) I4.bare fun b hb=>⟨(f2 b hb).2.2.2.1,(f2 b hb).2.1,(f2 b hb).2.2.2.2.1,(f2 b hb).2.2.2.2.2⟩
    ·rw [a_p (by intro z; exact absurd (Heap.lt_size e) (by rw [z,hDe]; exact Nat.lt_irrefl _))]
     exact I4.base.free b o e n hx
    ·have q:=I4.base.tups b xs e
     rw [a_p (b_g q nD')]; exact q
    ·have q:=I4.base.frzs b o u e
     rw [a_p (b_g q nD')]; exact q
    ·obtain ⟨more,q⟩:=I4.base.tbls b ps e
     exact ⟨more,by rw [a_p (b_g q nD')]; exact q⟩
    ·by_cases hb:b=D
     ·subst hb
      rw [a_A] at e; cases e
      exact ⟨hz,us,k,r3,eD⟩
     ·rw [a_p hb] at e
      exact (I4.hok b u e).stay (fun _ _ _ q=>q) (fun c q=>by rw [a_p (b_g q nD')]; exact q) fun c xs q=>by rw [a_p (b_g q nD')]; exact q
   obtain ⟨m,hm,_⟩:=I4.loc
   exact hRR D C s4 _ m I5 (I2.fpOk (by rw [hDe]; rw [hDe] at hCle; exact hCle) (by rw [a_p (Ne.symm hDC)]; exact I4.free)) hm (qn D nD')
  ·refine thn (T.item (a_U X scope (own ++ capN) C fp s2 H2 pins) rfl rfl rfl hc i _ s3 Y3 H3 _ I3 (fpc fr3) st3 go) fun r s4 ⟨u,hr,h4⟩=>?_
   subst hr
   refine thn h4 fun _ s5 ⟨x,H5,I5,r5,y5,st5,fr5⟩=>?_
   have I5':=I5.pinned (fpc fr5) (T.obj _ _ st5)
   refine thn (hg _ s5 Y3 H5 x u _ I5' r5 (step x H5 y5)) fun _ s6 ⟨Y6,H6,I6,q6⟩=>?_
   refine thn (ht _ s6 Y6 H6 _ I6 q6) fun ok s7 ⟨H7,I7,q7⟩=>?_
   have back:∀ {Y8:St} {H8:Hp} {s8:Shared},Inv (a_U X scope (own ++ capN) C fp s2 H2 pins) ([(D,{ cls:=.type "list",data:=.seq us.toArray k })] ++ k_o fp s5.heap) Y8 H8 s8->tn (i + 1) s8.heap/\(∀ b ∈ fp,H8 b=none):=fun {Y8 H8 s8} I8=>by
    refine ⟨T.keep _ _ _ st5 fun b hb o e=>(I8.pin (b,o) (List.mem_append_right _ (List.mem_append_right _ (f_t hb e)))).1,fun b hb=>?_⟩
    obtain ⟨o,e,d⟩:=T.obj _ _ st5 b hb
    exact (I8.pin (b,o) (List.mem_append_right _ (List.mem_append_right _ (f_t hb e)))).2.1
   cases ok with
   | false=>
    obtain ⟨m',hm,w7⟩:=q7
    obtain ⟨t7,n7⟩:=back I7
    exact ⟨m',hm,i + 1,ys,us,k,Y6,H7,I7.unpinned,t7,n7,r3,w7⟩
   | true=>
    refine thn (he _ s7 Y6 H7 _ I7 q7) fun u8 s8 ⟨y,H8,I8,r8,hz,m',hm,w8⟩=>?_
    obtain ⟨t8,n8⟩:=back I8
    have I9:=I8.unpinned
    obtain ⟨eD,nD,neD,nfD,_⟩:=I9.pin (D,_) (List.mem_append_right _ (List.mem_singleton.mpr rfl))
    have hl:=r3.length
    refine call_meets F.slot_list_append ⟨_,eD,rfl⟩ F.entry_list_append (F.args_list_append_2 _ _) (PySem.list_append D us.toArray k u8 (by rw [List.size_toArray]; omega)) ⟨eD,?_⟩
    have q:=PySem.IsL.update eD (fun a=>a.push u8)
    have e2:us.toArray.push u8=(us ++ [u8]).toArray:=by simp
    rw [e2] at q
    have keep:∀ b o,b ≠ D->s8.heap.get? b=some o->(s8.heap.update D (Obj.mapSeq fun a=>a.push u8)).get? b=some o:=fun b o hb e=>(Heap.get?_update_other s8.heap _ (Ne.symm hb)).trans e
    have I10:Inv (a_U X scope (own ++ capN) C fp s2 H2 pins) [] Y6 H8 { s8 with heap:=s8.heap.update D (Obj.mapSeq fun a=>a.push u8) }:=by
     refine (I9.pins_of (pins':=[]) fun p hp=>absurd hp (by simp)).turned (t':=s8.toks) (it:=D) keep nD neD (.inr (by rw [hDe]; exact Nat.le_refl _)) cellsD fun p hp=>?_
     exact DnotPin p (by simpa using hp)
    exact ⟨m',hm,i + 1,ys ++ [y],us ++ [u8],_,Y6,H8,pinD I10 q nD,T.keep _ _ _ t8 fun b hb o e=>keep b o (by intro z; exact absurd (hfo b hb) (by rw [z,hDe]; exact Nat.lt_irrefl _)) e,n8,r3.append (.cons r8 .nil),w8⟩
 exact codeAny_compStart_list loop (wpAny_noRaise (T.self _ 0 _ _ _ (T.keep _ _ _ st2 fun b _ o e=>old b o e) loop))
theorem o_P (S:CompScope X scope own capN caps) (hc:X.calm=true) (hi:PI X tg iter wi)
  (hin:∀ C fp s₂ H₂ pl,PG (a_U X scope (own ++ capN) C fp s₂ H₂ pl) tg g/\PTs (a_U X scope (own ++ capN) C fp s₂ H₂ pl) ifs tc/\PE (a_U X scope (own ++ capN) C fp s₂ H₂ pl) elt te)
  (hs:∀ x,foldedSetIterable iter X.env x=pure x:=by intro _; rfl):PE X (.ListComp elt [⟨tg,iter,ifs,0⟩] scope pos) (m_I own caps wi g tc te):=by
 intro pins s Y H Q I h
 rw [eval_ListComp]
 refine wpAny_comprehension_free (use:=none) rfl hs (e_S (S.cells I.ok)) S.kind S.loc ?_
 refine k_b S hc hi hin I h fun D C s' H' m I' f hm q=>⟨m,hm,fun h' hs'=>?_⟩
 exact ⟨.ref D,H',I'.turned (t':=s'.toks) (it:=C) (fun b o hb e=>(hs'.2 b hb).trans e) f.1 f.2.1 f.2.2.2.1 f.2.2.2.2.1 f.2.2.2.2.2,rfl,q⟩
theorem n_a {i:Nat} {y:Str} {py spos:Pos} (hN:X.N.Nodup) (hi':X.N[i]? = some y) (hx:Loc X.env.scope y) (S:CompScope X scope own capN caps) (hc:X.calm=true) (hi:PI X tg iter wi)
  (hin:∀ C fp s₂ H₂ pl,PG (a_U X scope (own ++ capN) C fp s₂ H₂ pl) tg g/\PTs (a_U X scope (own ++ capN) C fp s₂ H₂ pl) ifs tc/\PE (a_U X scope (own ++ capN) C fp s₂ H₂ pl) elt te)
  (hsw:swapsWith (.ListComp elt [⟨tg,iter,ifs,0⟩] scope pos) (some (.Name y py)) spos.line X.env=pure true:=by rfl)
  (hs:∀ x,foldedSetIterable iter X.env x=pure x:=by intro _; rfl) (hf:X.fn y=true\/X.env.scope.names.lookup y=some .local:=by first | exact .inl rfl | exact .inr rfl | assumption) :
  PS X (.Assign [.Name y py] (.ListComp elt [⟨tg,iter,ifs,0⟩] scope pos) spos) (x_q (m_I own caps wi g tc te) (q_s i)):=by
 intro pins s Y H D I h
 rw [exec_Assign_Name_used _ _ _ _ hsw]
 refine wpAny_bind (wpAny_standAt (wpAny_bind ?_))
 show wpAny _ X.A (do let _ <-comprehension (.ListComp elt [⟨tg,iter,ifs,0⟩] scope pos) scope X.env _ (newList []) false (eval iter X.env) (some (assign (.Name y py) X.env))) _ _ s
 refine wpAny_bind (wpAny_mono (wpAny_comprehension_free (use:=some (assign (.Name y py) X.env)) (Q:=fun _ s'=>SP X pins D .next s') rfl hs (e_S (S.cells I.ok)) S.kind S.loc ?_) (fun _ s' hq=>wpAny_pure (wpAny_pure hq)) fun _ _ e=>e)
 refine k_b S hc hi hin I h fun Da C s' H' m I' f hm q=>?_
 show wpAny _ X.A (assign (.Name y py) X.env (.ref Da)) _ _ _
 refine wpAny_assign_Name (k_t I' hN hi' hx (v:=.ref Da) rfl (fun s2 I2 ⟨a,sb,ha⟩=>⟨m,?_,fun h' hs'=>?_⟩) hf)
 ·refine hm.sameBut sb ?_
  rcases ha with z | z
  ·rw [z]; exact f.2.1
  ·exact Ne.symm (f.2.2.2.2.1 y a z)
 ·exact ⟨_,H',I2.turned (t':=s2.toks) (it:=C) (fun b o hb e=>(hs'.2 b hb).trans e) f.1 f.2.1 f.2.2.2.1 f.2.2.2.2.1 f.2.2.2.2.2,q⟩
end
end L2
namespace L2
open PySem
theorem g_Q {M:Model} {A:Around} {E:Value->Shared->Prop} {s:Shared} {a:Addr} {Q:Option Obj->Shared->Prop} (h:Q (s.heap.get? a) s):wpAny M A (loadIfAlive a) Q E s:=by
 intro Γ p hΓ
 unfold loadIfAlive
 rw [Sem.wp_loadIfAlive]
 exact wpAny_pure h Γ p hΓ
abbrev d_f (h:Heap) (z TI TO:Addr) (f0 f1:Value):Prop:=
 h.get? z=some { cls:=.type "zip",dict:=none,data:=.fields #[f0,f1,.bool false,.ref TI,.ref TO],slots:=#[] }
abbrev b_N (h:Heap) (T:Addr) (a b c:Value):Prop:=h.get? T=some { cls:=.type "tuple",data:=.seq #[a,b,c] }
section
variable {prog:Program} {w:World} {A:Around} {E:Value->Shared->Prop} {s:Shared}
theorem d_7 {T:Addr} {a b c x:Value} {k:Nat} {Q:Unit->Shared->Prop} (hT:b_N s.heap T a b c)
  (h:∀ h',h'.get? T=some { cls:=.type "tuple",data:=.seq ((#[a,b,c]:Array Value).setIfInBounds k x) }->Heap.SameBut T s.heap h'->Q () { s with heap:=h' }) :
  wpAny (model prog w) A (updateSeq T (·.setIfInBounds k x)) Q E s:=by
 refine wpAny_updateSeq hT rfl (h _ ?_ (Heap.SameBut.update ..))
 rw [Heap.get?_update_self _ hT rfl]
 simp [Obj.mapSeq]
theorem m_M {z TI TO i1 i2 i3 l1 l2 l3:Addr} {k:Nat} {xs ys zs:Array Value} {x y v a b c:Value} {Q:Value->Shared->Prop}
  (nd:[z,TI,TO,i1,i2,i3].Nodup) (hl:∀ l ∈ [l1,l2,l3],∀ j ∈ [z,TI,TO,i1,i2,i3],l ≠ j)
  (hz:d_f s.heap z TI TO .none (.bool false)) (hTI:b_N s.heap TI (.ref i1) (.ref i2) (.ref i3)) (hTO:b_N s.heap TO a b c)
  (h1:s.heap.IsListIter i1 l1 k) (h2:s.heap.IsListIter i2 l2 k) (h3:s.heap.IsListIter i3 l3 k) (hl1:s.heap.IsList l1 xs) (hl2:s.heap.IsList l2 ys) (hl3:s.heap.IsList l3 zs)
  (hx:xs[k]? = some x) (hy:ys[k]? = some y) (hv:zs[k]? = some v)
  (hQ:∀ h',d_f h' z TI TO (rawInt s.heap.objs.size) (.bool false)->b_N h' TO x y v->h'.IsListIter i1 l1 (k + 1)->h'.IsListIter i2 l2 (k + 1)->h'.IsListIter i3 l3 (k + 1)->b_N h' s.heap.objs.size x y v->h'.objs.size=s.heap.objs.size + 1->
   (∀ c o,c ∉ [z,TO,i1,i2,i3]->s.heap.get? c=some o->h'.get? c=some o)->Q (.ref s.heap.objs.size) { s with heap:=h' }) :
  wpAny (model prog w) A (Builtin.«zip.__next__» ⟨[.ref z],[]⟩) (fun fin s'=>∃ v,fin=.done (.ret v)/\Q v s') E s:=by
 simp only [List.nodup_cons,List.mem_cons,List.not_mem_nil,or_false,not_or,not_false_eq_true,and_true,List.nodup_nil] at nd
 obtain ⟨⟨zTI,zTO,z1,z2,z3⟩,⟨TITO,TI1,TI2,TI3⟩,⟨TO1,TO2,TO3⟩,⟨i12,i13⟩,i23⟩:=nd
 have n1:∀ j ∈ [z,TI,TO,i1,i2,i3],l1 ≠ j:=hl l1 (by simp)
 have n2:∀ j ∈ [z,TI,TO,i1,i2,i3],l2 ≠ j:=hl l2 (by simp)
 have n3:∀ j ∈ [z,TI,TO,i1,i2,i3],l3 ≠ j:=hl l3 (by simp)
 show wpAny _ _ (field (.ref z) 2 >>= _) _ _ _
 refine wpAny_bind (wpAny_field hz rfl (x:=.bool false) rfl ?_)
 show wpAny _ _ (field (.ref z) 3 >>= _) _ _ _
 refine wpAny_bind (wpAny_field hz rfl (x:=.ref TI) rfl ?_)
 refine wpAny_bind (wpAny_seqItems hTI rfl ?_)
 show wpAny _ _ (Builtin.SmallTypes.ownedTupleIsFree (.ref z) >>= _) _ _ _
 refine wpAny_bind ?_
 unfold Builtin.SmallTypes.ownedTupleIsFree
 refine wpAny_bind (wpAny_field hz rfl (x:=.none) rfl (wpAny_pure ?_))
 simp only [if_true]
 refine wpAny_bind (wpAny_rule ?_)
 refine wpAny_bind (wpAny_field hz rfl (x:=.ref TO) rfl ?_)
 refine wpAny_bind (wpAny_setField_rec hz (by simp) fun h₁ hz₁ hs₁=>?_)
 replace hz₁:d_f h₁ z TI TO .ellipsis (.bool false):=hz₁
 refine wpAny_bind ?_
 simp only [List.zipIdx_cons,List.zipIdx_nil,List.forIn_cons,List.forIn_nil]
 refine wpAny_bind (wpAny_bind (wpAny_onRaise ?_))
 show wpAny _ _ (Builtin.SmallTypes.nextOf (.ref i1) >>= _) _ _ _
 refine wpAny_bind (wpAny_nextOf_list_item (h1.extBut hs₁.extBut (Ne.symm z1)) (hl1.extBut hs₁.extBut (n1 z (by simp))) hx fun h₂ h1₂ hs₂=>wpAny_pure ?_)
 have hTO₂:b_N h₂ TO a b c:=hs₂.extBut _ _ TO1 (hs₁.extBut _ _ (Ne.symm zTO) hTO)
 refine wpAny_bind (wpAny_seqItems hTO₂ rfl ?_)
 refine wpAny_bind (d_7 hTO₂ fun h₃ hTO₃ hs₃=>?_)
 replace hTO₃:b_N h₃ TO x b c:=hTO₃
 refine wpAny_bind (wpAny_letGo (wpAny_pure ?_))
 refine wpAny_bind (wpAny_bind (wpAny_onRaise ?_))
 show wpAny _ _ (Builtin.SmallTypes.nextOf (.ref i2) >>= _) _ _ _
 refine wpAny_bind (wpAny_nextOf_list_item (((h2.extBut hs₁.extBut (Ne.symm z2)).extBut hs₂.extBut (Ne.symm i12)).extBut hs₃.extBut (Ne.symm TO2))
  (((hl2.extBut hs₁.extBut (n2 z (by simp))).extBut hs₂.extBut (n2 i1 (by simp))).extBut hs₃.extBut (n2 TO (by simp))) hy fun h₄ h2₄ hs₄=>wpAny_pure ?_)
 have hTO₄:b_N h₄ TO x b c:=hs₄.extBut _ _ TO2 hTO₃
 refine wpAny_bind (wpAny_seqItems hTO₄ rfl ?_)
 refine wpAny_bind (d_7 hTO₄ fun h₅ hTO₅ hs₅=>?_)
 replace hTO₅:b_N h₅ TO x y c:=hTO₅
 refine wpAny_bind (wpAny_letGo (wpAny_pure ?_))
 refine wpAny_bind (wpAny_bind (wpAny_onRaise ?_))
 show wpAny _ _ (Builtin.SmallTypes.nextOf (.ref i3) >>= _) _ _ _
 refine wpAny_bind (wpAny_nextOf_list_item (((((h3.extBut hs₁.extBut (Ne.symm z3)).extBut hs₂.extBut (Ne.symm i13)).extBut hs₃.extBut (Ne.symm TO3)).extBut hs₄.extBut (Ne.symm i23)).extBut hs₅.extBut (Ne.symm TO3))
  (((((hl3.extBut hs₁.extBut (n3 z (by simp))).extBut hs₂.extBut (n3 i1 (by simp))).extBut hs₃.extBut (n3 TO (by simp))).extBut hs₄.extBut (n3 i2 (by simp))).extBut hs₅.extBut (n3 TO (by simp))) hv fun h₆ h3₆ hs₆=>wpAny_pure ?_)
 have hTO₆:b_N h₆ TO x y c:=hs₆.extBut _ _ TO3 hTO₅
 refine wpAny_bind (wpAny_seqItems hTO₆ rfl ?_)
 refine wpAny_bind (d_7 hTO₆ fun h₇ hTO₇ hs₇=>?_)
 replace hTO₇:b_N h₇ TO x y v:=hTO₇
 refine wpAny_bind (wpAny_letGo (wpAny_pure (wpAny_pure ?_)))
 refine wpAny_bind (wpAny_seqItems hTO₇ rfl ?_)
 refine wpAny_bind (wpAny_newTuple ?_)
 have up₇:∀ c o,c ∉ [z,TO,i1,i2,i3]->s.heap.get? c=some o->h₇.get? c=some o:=fun c o hc e=>by
  simp only [List.mem_cons,List.not_mem_nil,or_false,not_or] at hc
  obtain ⟨c1,c2,c3,c4,c5⟩:=hc
  exact hs₇.extBut _ _ c2 (hs₆.extBut _ _ c5 (hs₅.extBut _ _ c2 (hs₄.extBut _ _ c4 (hs₃.extBut _ _ c2 (hs₂.extBut _ _ c3 (hs₁.extBut _ _ c1 e))))))
 have hsz:h₇.objs.size=s.heap.objs.size:=by rw [hs₇.1,hs₆.1,hs₅.1,hs₄.1,hs₃.1,hs₂.1,hs₁.1]
 have hz₇:d_f h₇ z TI TO .ellipsis (.bool false):=hs₇.extBut _ _ zTO (hs₆.extBut _ _ z3 (hs₅.extBut _ _ zTO (hs₄.extBut _ _ z2 (hs₃.extBut _ _ zTO (hs₂.extBut _ _ z1 hz₁)))))
 have h1₇:h₇.IsListIter i1 l1 (k + 1):=((((h1₂.extBut hs₃.extBut (Ne.symm TO1)).extBut hs₄.extBut i12).extBut hs₅.extBut (Ne.symm TO1)).extBut hs₆.extBut i13).extBut hs₇.extBut (Ne.symm TO1)
 have h2₇:h₇.IsListIter i2 l2 (k + 1):=((h2₄.extBut hs₅.extBut (Ne.symm TO2)).extBut hs₆.extBut i23).extBut hs₇.extBut (Ne.symm TO2)
 have h3₇:h₇.IsListIter i3 l3 (k + 1):=h3₆.extBut hs₇.extBut (Ne.symm TO3)
 have hzlt:z < h₇.objs.size:=Heap.lt_size hz₇
 show wpAny _ _ (Builtin.SmallTypes.ownedTupleHandOut (.ref z) (.ref h₇.objs.size) >>= _) _ _ _
 refine wpAny_bind ?_
 unfold Builtin.SmallTypes.ownedTupleHandOut
 have hz₈:d_f (h₇.push { cls:=.type "tuple",data:=.seq #[x,y,v] }) z TI TO .ellipsis (.bool false):=Heap.get?_push_of_some _ hz₇
 refine wpAny_bind (wpAny_setField_rec hz₈ (by simp) fun h₉ hz₉ hs₉=>?_)
 replace hz₉:d_f h₉ z TI TO (rawInt h₇.objs.size) (.bool false):=hz₉
 refine wpAny_setField_rec hz₉ (by simp) fun hA hzA hsA=>?_
 replace hzA:d_f hA z TI TO (rawInt h₇.objs.size) (.bool false):=hzA
 have up:∀ c o,c ≠ z->h₇.get? c=some o->hA.get? c=some o:=fun c o c1 e=>hsA.extBut _ _ c1 (hs₉.extBut _ _ c1 (Heap.get?_push_of_some _ e))
 have hTA:b_N hA h₇.objs.size x y v:=hsA.extBut _ _ (Nat.ne_of_gt hzlt) (hs₉.extBut _ _ (Nat.ne_of_gt hzlt) (Heap.get?_push_size _ rfl))
 have hzA':hA.objs.size=h₇.objs.size + 1:=by rw [hsA.1,hs₉.1,Heap.size_push]
 rw [hsz] at hzA hTA hzA'
 refine wpAny_pure ⟨_,rfl,?_⟩
 show Q (.ref h₇.objs.size) _
 rw [hsz]
 exact hQ hA hzA (up _ _ (Ne.symm zTO) hTO₇) (h1₇.at fun o e=>up _ o (Ne.symm z1) e) (h2₇.at fun o e=>up _ o (Ne.symm z2) e) (h3₇.at fun o e=>up _ o (Ne.symm z3) e) hTA hzA' fun c o hc e=>up c o (fun q=>hc (by simp [q])) (up₇ c o hc e)
theorem g_2 {z TI TO T:Addr} {f1:Value} {oT:Obj} {Q:Bool->Shared->Prop} (hf1:f1=.bool false\/f1=.bool true) (hz:d_f s.heap z TI TO (rawInt T) f1) (hT:s.heap.get? T=some oT)
  (hQ:∀ h',d_f h' z TI TO (rawInt T) (.bool true)->Heap.SameBut z s.heap h'->Q false { s with heap:=h' }):wpAny (model prog w) A (Builtin.SmallTypes.ownedTupleIsFree (.ref z)) Q E s:=by
 unfold Builtin.SmallTypes.ownedTupleIsFree
 refine wpAny_bind (wpAny_field hz rfl (x:=rawInt T) rfl ?_)
 show wpAny _ _ (loadIfAlive (Int.toNat T) >>= _) _ _ _
 refine wpAny_bind (g_Q ?_)
 rw [Int.toNat_natCast,hT]
 show wpAny _ _ (field (.ref z) 1 >>= _) _ _ _
 refine wpAny_bind (wpAny_field hz rfl (x:=f1) rfl ?_)
 rcases hf1 with rfl | rfl
 ·show wpAny _ _ (setField (.ref z) 1 (.bool true) >>= _) _ _ _
  exact wpAny_bind (wpAny_setField_rec hz (by simp) fun h₁ hz₁ hs₁=>wpAny_pure (hQ h₁ hz₁ hs₁))
 ·exact wpAny_pure (hQ s.heap hz (Heap.SameBut.refl ..))
theorem q_l {z TI TO i1 i2 i3 l1 l2 l3 T:Addr} {k:Nat} {f1:Value} {oT:Obj} {xs ys zs:Array Value} {x y v:Value} {Q:Value->Shared->Prop}
  (nd:[z,TI,TO,i1,i2,i3].Nodup) (hl:∀ l ∈ [l1,l2,l3],∀ j ∈ [z,TI,TO,i1,i2,i3],l ≠ j) (hf1:f1=.bool false\/f1=.bool true)
  (hz:d_f s.heap z TI TO (rawInt T) f1) (hT:s.heap.get? T=some oT) (hTI:b_N s.heap TI (.ref i1) (.ref i2) (.ref i3))
  (h1:s.heap.IsListIter i1 l1 k) (h2:s.heap.IsListIter i2 l2 k) (h3:s.heap.IsListIter i3 l3 k) (hl1:s.heap.IsList l1 xs) (hl2:s.heap.IsList l2 ys) (hl3:s.heap.IsList l3 zs)
  (hx:xs[k]? = some x) (hy:ys[k]? = some y) (hv:zs[k]? = some v)
  (hQ:∀ h',d_f h' z TI TO (rawInt T) (.bool true)->h'.IsListIter i1 l1 (k + 1)->h'.IsListIter i2 l2 (k + 1)->h'.IsListIter i3 l3 (k + 1)->b_N h' s.heap.objs.size x y v->h'.objs.size=s.heap.objs.size + 1->
   (∀ c o,c ∉ [z,i1,i2,i3]->s.heap.get? c=some o->h'.get? c=some o)->Q (.ref s.heap.objs.size) { s with heap:=h' }) :
  wpAny (model prog w) A (Builtin.«zip.__next__» ⟨[.ref z],[]⟩) (fun fin s'=>∃ v,fin=.done (.ret v)/\Q v s') E s:=by
 simp only [List.nodup_cons,List.mem_cons,List.not_mem_nil,or_false,not_or,not_false_eq_true,and_true,List.nodup_nil] at nd
 obtain ⟨⟨zTI,zTO,z1,z2,z3⟩,⟨TITO,TI1,TI2,TI3⟩,⟨TO1,TO2,TO3⟩,⟨i12,i13⟩,i23⟩:=nd
 have n1:∀ j ∈ [z,TI,TO,i1,i2,i3],l1 ≠ j:=hl l1 (by simp)
 have n2:∀ j ∈ [z,TI,TO,i1,i2,i3],l2 ≠ j:=hl l2 (by simp)
 have n3:∀ j ∈ [z,TI,TO,i1,i2,i3],l3 ≠ j:=hl l3 (by simp)
 show wpAny _ _ (field (.ref z) 2 >>= _) _ _ _
 refine wpAny_bind (wpAny_field hz rfl (x:=.bool false) rfl ?_)
 show wpAny _ _ (field (.ref z) 3 >>= _) _ _ _
 refine wpAny_bind (wpAny_field hz rfl (x:=.ref TI) rfl ?_)
 refine wpAny_bind (wpAny_seqItems hTI rfl ?_)
 show wpAny _ _ (Builtin.SmallTypes.ownedTupleIsFree (.ref z) >>= _) _ _ _
 refine wpAny_bind (g_2 hf1 hz hT fun h₁ hz₁ hs₁=>?_)
 simp only [Bool.false_eq_true,if_false]
 refine wpAny_bind ?_
 simp only [List.forIn_toArray,List.forIn_cons,List.forIn_nil]
 refine wpAny_bind (wpAny_bind (wpAny_holding ?_))
 show wpAny _ _ (Builtin.SmallTypes.nextOf (.ref i1) >>= _) _ _ _
 refine wpAny_bind (wpAny_nextOf_list_item (h1.extBut hs₁.extBut (Ne.symm z1)) (hl1.extBut hs₁.extBut (n1 z (by simp))) hx fun h₂ h1₂ hs₂=>wpAny_pure (wpAny_pure ?_))
 refine wpAny_bind (wpAny_bind (wpAny_holding ?_))
 show wpAny _ _ (Builtin.SmallTypes.nextOf (.ref i2) >>= _) _ _ _
 refine wpAny_bind (wpAny_nextOf_list_item ((h2.extBut hs₁.extBut (Ne.symm z2)).extBut hs₂.extBut (Ne.symm i12)) ((hl2.extBut hs₁.extBut (n2 z (by simp))).extBut hs₂.extBut (n2 i1 (by simp))) hy fun h₃ h2₃ hs₃=>wpAny_pure (wpAny_pure ?_))
 refine wpAny_bind (wpAny_bind (wpAny_holding ?_))
 show wpAny _ _ (Builtin.SmallTypes.nextOf (.ref i3) >>= _) _ _ _
 refine wpAny_bind (wpAny_nextOf_list_item (((h3.extBut hs₁.extBut (Ne.symm z3)).extBut hs₂.extBut (Ne.symm i13)).extBut hs₃.extBut (Ne.symm i23)) (((hl3.extBut hs₁.extBut (n3 z (by simp))).extBut hs₂.extBut (n3 i1 (by simp))).extBut hs₃.extBut (n3 i2 (by simp))) hv fun h₄ h3₄ hs₄=>wpAny_pure (wpAny_pure (wpAny_pure ?_)))
 show wpAny _ _ (newTuple [x,y,v] >>= _) _ _ _
 refine wpAny_bind (wpAny_newTuple ?_)
 refine wpAny_pure ⟨_,rfl,?_⟩
 have hsz:h₄.objs.size=s.heap.objs.size:=by rw [hs₄.1,hs₃.1,hs₂.1,hs₁.1]
 show Q (.ref h₄.objs.size) { s with heap:=h₄.push { cls:=.type "tuple",data:=.seq #[x,y,v] } }
 have up:∀ c o,c ∉ [z,i1,i2,i3]->s.heap.get? c=some o->h₄.get? c=some o:=fun c o hc e=>by
  simp only [List.mem_cons,List.not_mem_nil,or_false,not_or] at hc
  obtain ⟨c1,c2,c3,c4⟩:=hc
  exact hs₄.extBut _ _ c4 (hs₃.extBut _ _ c3 (hs₂.extBut _ _ c2 (hs₁.extBut _ _ c1 e)))
 rw [hsz]
 refine hQ _ (Heap.get?_push_of_some _ (hs₄.extBut _ _ z3 (hs₃.extBut _ _ z2 (hs₂.extBut _ _ z1 hz₁)))) (((h1₂.extBut hs₃.extBut i12).extBut hs₄.extBut i13).at fun o e=>Heap.get?_push_of_some _ e) ((h2₃.extBut hs₄.extBut i23).at fun o e=>Heap.get?_push_of_some _ e)
  (h3₄.at fun o e=>Heap.get?_push_of_some _ e) ?_ (by rw [Heap.size_push,hsz]) fun c o hc e=>Heap.get?_push_of_some _ (up c o hc e)
 rw [<-hsz]
 exact Heap.get?_push_size _ rfl
theorem p_N {z TI TO i1 i2 i3 l1 l2 l3 T:Addr} {k:Nat} {f1:Value} {oT:Obj} {xs:Array Value} {Q:Fin->Shared->Prop} (hh:A.handled=none)
  (nd:[z,TI,TO,i1,i2,i3].Nodup) (hl:∀ l ∈ [l1,l2,l3],∀ j ∈ [z,TI,TO,i1,i2,i3],l ≠ j) (hf1:f1=.bool false\/f1=.bool true)
  (hz:d_f s.heap z TI TO (rawInt T) f1) (hT:s.heap.get? T=some oT) (hTI:b_N s.heap TI (.ref i1) (.ref i2) (.ref i3))
  (h1:s.heap.IsListIter i1 l1 k) (hl1:s.heap.IsList l1 xs) (hx:xs[k]? = none)
  (hE:∀ h' e,(∀ c o,c ∉ [z,i1]->s.heap.get? c=some o->h'.get? c=some o)->(∃ o,h'.get? e=some o/\o.cls=.type "StopIteration")->E (.ref e) { s with heap:=h' }) :
  wpAny (model prog w) A (Builtin.«zip.__next__» ⟨[.ref z],[]⟩) Q E s:=by
 simp only [List.nodup_cons,List.mem_cons,List.not_mem_nil,or_false,not_or,not_false_eq_true,and_true,List.nodup_nil] at nd
 obtain ⟨⟨zTI,zTO,z1,z2,z3⟩,⟨TITO,TI1,TI2,TI3⟩,⟨TO1,TO2,TO3⟩,⟨i12,i13⟩,i23⟩:=nd
 have n1:∀ j ∈ [z,TI,TO,i1,i2,i3],l1 ≠ j:=hl l1 (by simp)
 show wpAny _ _ (field (.ref z) 2 >>= _) _ _ _
 refine wpAny_bind (wpAny_field hz rfl (x:=.bool false) rfl ?_)
 show wpAny _ _ (field (.ref z) 3 >>= _) _ _ _
 refine wpAny_bind (wpAny_field hz rfl (x:=.ref TI) rfl ?_)
 refine wpAny_bind (wpAny_seqItems hTI rfl ?_)
 show wpAny _ _ (Builtin.SmallTypes.ownedTupleIsFree (.ref z) >>= _) _ _ _
 refine wpAny_bind (g_2 hf1 hz hT fun h₁ hz₁ hs₁=>?_)
 simp only [Bool.false_eq_true,if_false]
 refine wpAny_bind ?_
 simp only [List.forIn_toArray,List.forIn_cons,List.forIn_nil]
 refine wpAny_bind (wpAny_bind (wpAny_holding ?_))
 show wpAny _ _ (Builtin.SmallTypes.nextOf (.ref i1) >>= _) _ _ _
 refine wpAny_bind (wpAny_nextOf_list_end hh (h1.extBut hs₁.extBut (Ne.symm z1)) (hl1.extBut hs₁.extBut (n1 z (by simp))) hx fun h₂ e hs₂ he=>?_)
 refine hE h₂ e (fun c o hc x=>?_) he
 simp only [List.mem_cons,List.not_mem_nil,or_false,not_or] at hc
 exact hs₂ _ _ hc.2 (hs₁.extBut _ _ hc.1 x)
end
structure Z3 (h:Heap) (z TI TO i1 i2 i3 l1 l2 l3:Addr) (xs ys zs:Array Value) (S:Addr) (i:Nat):Prop where
 zrec:∃ (f0 f1:Value),d_f h z TI TO f0 f1/\(f1=.bool false\/f1=.bool true)/\((i=0/\f0=.none/\f1=.bool false)\/(0 < i/\∃ (T:Addr) (oT:Obj),f0=rawInt T/\h.get? T=some oT/\T ∉ [S,z,TO,i1,i2,i3]))
 ti:b_N h TI (.ref i1) (.ref i2) (.ref i3)
 to:∃ a b c,b_N h TO a b c
 h1:h.IsListIter i1 l1 i
 h2:h.IsListIter i2 l2 i
 h3:h.IsListIter i3 l3 i
 l1:h.IsList l1 xs
 l2:h.IsList l2 ys
 l3:h.IsList l3 zs
def q_v (h:Heap) (n:Addr) (xs ys zs:Array Value) (acc:List Value):Prop:=
 ∀ (j:Nat) (v:Value),acc[j]? = some v->∃ (T:Addr) (x y u:Value),v=Value.ref T/\n<=T/\b_N h T x y u/\xs[j]? = some x/\ys[j]? = some y/\zs[j]? = some u
section
variable {prog:Program} {w:World} {A:Around} {E:Value->Shared->Prop} {s:Shared}
theorem h_r {z TI TO i1 i2 i3 l1 l2 l3 S:Addr} {i:Nat} {xs ys zs:Array Value} {x y v:Value} {Q:Option Value->Shared->Prop}
  (nd:[z,TI,TO,i1,i2,i3].Nodup) (hl:∀ l ∈ [l1,l2,l3],∀ j ∈ [z,TI,TO,i1,i2,i3],l ≠ j) (st:Z3 s.heap z TI TO i1 i2 i3 l1 l2 l3 xs ys zs S i) (hS:S < s.heap.objs.size)
  (hx:xs[i]? = some x) (hy:ys[i]? = some y) (hv:zs[i]? = some v)
  (hQ:∀ h',Z3 h' z TI TO i1 i2 i3 l1 l2 l3 xs ys zs S (i + 1)->b_N h' s.heap.objs.size x y v->h'.objs.size=s.heap.objs.size + 1->(∀ c o,c ∉ [z,TO,i1,i2,i3]->s.heap.get? c=some o->h'.get? c=some o)->Q (some (.ref s.heap.objs.size)) { s with heap:=h' }) :
  wpAny (model prog w) A (pyNext (.ref z)) Q E s:=by
 obtain ⟨⟨f0,f1,hz,hf1,hf⟩,ti,⟨a,b,c,to⟩,h1,h2,h3,hl1,hl2,hl3⟩:=st
 have hT:s.TypeIs (.ref z) "zip":=⟨_,hz,rfl⟩
 have lt:∀ {c o},s.heap.get? c=some o->s.heap.objs.size ≠ c:=fun e=>Nat.ne_of_gt (Heap.lt_size e)
 have new:s.heap.objs.size ∉ [S,z,TO,i1,i2,i3]:=by
  simp only [List.mem_cons,List.not_mem_nil,or_false,not_or]
  exact ⟨Nat.ne_of_gt hS,lt hz,lt to,(by obtain ⟨_,e,_⟩:=h1; exact lt e),(by obtain ⟨_,e,_⟩:=h2; exact lt e),(by obtain ⟨_,e,_⟩:=h3; exact lt e)⟩
 have sub:∀ l ∈ [l1,l2,l3],l ∉ [z,TO,i1,i2,i3]:=fun l hm z'=>by
  simp only [List.mem_cons,List.not_mem_nil,or_false] at z'
  rcases z' with q | q | q | q | q <;> exact hl l hm _ (by simp) q
 have tiN:TI ∉ [z,TO,i1,i2,i3]:=by
  simp only [List.nodup_cons,List.mem_cons,List.not_mem_nil,or_false,not_or,not_false_eq_true,and_true,List.nodup_nil] at nd
  obtain ⟨⟨zTI,zTO,z1,z2,z3⟩,⟨TITO,TI1,TI2,TI3⟩,_⟩:=nd
  simp only [List.mem_cons,List.not_mem_nil,or_false,not_or]
  exact ⟨Ne.symm zTI,TITO,TI1,TI2,TI3⟩
 unfold pyNext
 refine wpAny_bind (wpAny_attempt (wpAny_callSpecial?_slot (name:=Str.ofString "__next__") hT F.slot_zip_next (wpAny_call_entry F.slot_zip_next hT F.entry_zip_next ?_ (F.args_zip_next_1 _))))
 rcases hf with ⟨hi,rfl,rfl⟩ | ⟨hi,T,oT,rfl,eT,nT⟩
 ·refine m_M nd hl hz ti to h1 h2 h3 hl1 hl2 hl3 hx hy hv fun h' a1 a2 a3 a4 a5 a6 a7 a8=>wpAny_pure ?_
  exact hQ h' ⟨⟨_,_,a1,.inl rfl,.inr ⟨Nat.succ_pos _,_,_,rfl,a6,new⟩⟩,a8 _ _ tiN ti,⟨_,_,_,a2⟩,a3,a4,a5,hl1.at fun o e=>a8 _ o (sub l1 (by simp)) e,hl2.at fun o e=>a8 _ o (sub l2 (by simp)) e,hl3.at fun o e=>a8 _ o (sub l3 (by simp)) e⟩ a6 a7 a8
 ·refine q_l nd hl hf1 hz eT ti h1 h2 h3 hl1 hl2 hl3 hx hy hv fun h' a1 a3 a4 a5 a6 a7 a8=>wpAny_pure ?_
  have a8':∀ c o,c ∉ [z,TO,i1,i2,i3]->s.heap.get? c=some o->h'.get? c=some o:=fun c o hc e=>a8 c o (fun q=>hc (by simp only [List.mem_cons,List.not_mem_nil,or_false] at q ⊢; rcases q with q | q | q | q <;> simp [q])) e
  have TO4:TO ∉ [z,i1,i2,i3]:=by
   simp only [List.nodup_cons,List.mem_cons,List.not_mem_nil,or_false,not_or,not_false_eq_true,and_true,List.nodup_nil] at nd
   obtain ⟨⟨zTI,zTO,z1,z2,z3⟩,⟨TITO,TI1,TI2,TI3⟩,⟨TO1,TO2,TO3⟩,_⟩:=nd
   simp only [List.mem_cons,List.not_mem_nil,or_false,not_or]
   exact ⟨Ne.symm zTO,TO1,TO2,TO3⟩
  refine hQ h' ⟨⟨_,_,a1,.inr rfl,.inr ⟨Nat.succ_pos _,_,_,rfl,a8' T oT (fun q=>nT (List.mem_cons_of_mem _ q)) eT,nT⟩⟩,a8' _ _ tiN ti,⟨a,b,c,a8 _ _ TO4 to⟩,a3,a4,a5,hl1.at fun o e=>a8' _ o (sub l1 (by simp)) e,hl2.at fun o e=>a8' _ o (sub l2 (by simp)) e,hl3.at fun o e=>a8' _ o (sub l3 (by simp)) e⟩ a6 a7 a8'
theorem h_N {z TI TO i1 i2 i3 l1 l2 l3 S:Addr} {i:Nat} {xs ys zs:Array Value} {Q:Option Value->Shared->Prop} (hh:A.handled=none)
  (nd:[z,TI,TO,i1,i2,i3].Nodup) (hl:∀ l ∈ [l1,l2,l3],∀ j ∈ [z,TI,TO,i1,i2,i3],l ≠ j) (st:Z3 s.heap z TI TO i1 i2 i3 l1 l2 l3 xs ys zs S i) (hi:0 < i) (hx:xs[i]? = none)
  (hQ:∀ h',(∀ c o,c ∉ [z,i1]->s.heap.get? c=some o->h'.get? c=some o)->Q none { s with heap:=h' }) :
  wpAny (model prog w) A (pyNext (.ref z)) Q E s:=by
 obtain ⟨⟨f0,f1,hz,hf1,hf⟩,ti,⟨a,b,c,to⟩,h1,h2,h3,hl1,hl2,hl3⟩:=st
 have hT:s.TypeIs (.ref z) "zip":=⟨_,hz,rfl⟩
 rcases hf with ⟨hi0,_⟩ | ⟨_,T,oT,rfl,eT,nT⟩
 ·omega
 ·unfold pyNext
  refine wpAny_bind (wpAny_attempt (wpAny_callSpecial?_slot (name:=Str.ofString "__next__") hT F.slot_zip_next
   (wpAny_call_entry F.slot_zip_next hT F.entry_zip_next (p_N hh nd hl hf1 hz eT ti h1 hl1 hx fun h' e hk he=>?_) (F.args_zip_next_1 _))))
  obtain ⟨o,ho,hc⟩:=he
  refine wpAny_bind (wpAny_isInstance (T:="StopIteration") (b:=true) ⟨o,ho,hc⟩ isSubtype_stop ?_)
  exact wpAny_pure (hQ _ hk)
end
section
variable {prog:Program} {w:World} {A:Around} {R:Result->Shared->Prop}
theorem Z3.keep {h h':Heap} {z TI TO i1 i2 i3 l1 l2 l3 S:Addr} {xs ys zs:Array Value} {i:Nat} (st:Z3 h z TI TO i1 i2 i3 l1 l2 l3 xs ys zs S i) (hS:S ∉ [z,TI,TO,i1,i2,i3,l1,l2,l3]) (k:∀ b o,b ≠ S->h.get? b=some o->h'.get? b=some o) :
  Z3 h' z TI TO i1 i2 i3 l1 l2 l3 xs ys zs S i:=by
 simp only [List.mem_cons,List.not_mem_nil,or_false,not_or] at hS
 obtain ⟨n1,n2,n3,n4,n5,n6,n7,n8,n9⟩:=hS
 obtain ⟨⟨f0,f1,hz,hf1,hf⟩,ti,⟨a,b,c,to⟩,h1,h2,h3,hl1,hl2,hl3⟩:=st
 refine ⟨⟨f0,f1,k _ _ (Ne.symm n1) hz,hf1,?_⟩,k _ _ (Ne.symm n2) ti,⟨a,b,c,k _ _ (Ne.symm n3) to⟩,h1.at fun o e=>k _ o (Ne.symm n4) e,h2.at fun o e=>k _ o (Ne.symm n5) e,h3.at fun o e=>k _ o (Ne.symm n6) e,hl1.at fun o e=>k _ o (Ne.symm n7) e,hl2.at fun o e=>k _ o (Ne.symm n8) e,hl3.at fun o e=>k _ o (Ne.symm n9) e⟩
 rcases hf with hf | ⟨hi,T,oT,e,eT,nT⟩
 ·exact .inl hf
 ·exact .inr ⟨hi,T,oT,e,k _ _ (fun q=>nT (by simp [q])) eT,nT⟩
abbrev d_c (a:Array Value) (v:Value) (c:Nat):Nat:=if (a.push v).size == a.size then c else c + 1
theorem l_z {z TI TO i1 i2 i3 l1 l2 l3 S n₀:Addr} {xs ys zs:Array Value} (hh:A.handled=none)
  (nd:[z,TI,TO,i1,i2,i3].Nodup) (hl:∀ l ∈ [l1,l2,l3],∀ j ∈ [z,TI,TO,i1,i2,i3],l ≠ j) (hS:S ∉ [z,TI,TO,i1,i2,i3,l1,l2,l3]) (hb:∀ j ∈ [S,z,TI,TO,i1,i2,i3],j < n₀)
  (e2:ys.size=xs.size) (e3:zs.size=xs.size) (hpos:0 < xs.size) (hn:xs.size<=sizeLine) (res:Value) :
  ∀ (k i:Nat) (s:Shared) (acc:List Value) (c:Nat),xs.size - i=k->i<=xs.size->Z3 s.heap z TI TO i1 i2 i3 l1 l2 l3 xs ys zs S i->n₀<=s.heap.objs.size->s.heap.get? S=some { cls:=.type "list",dict:=none,data:=.seq acc.toArray c,slots:=#[] }->acc.length=i->q_v s.heap n₀ xs ys zs acc->
  (∀ h' acc' c',(∀ b o,b ∉ [S,z,TO,i1,i2,i3]->s.heap.get? b=some o->h'.get? b=some o)->h'.get? S=some { cls:=.type "list",dict:=none,data:=.seq acc'.toArray c',slots:=#[] }->acc'.length=xs.size->q_v h' n₀ xs ys zs acc'->R (.ok (.ret res)) { s with heap:=h' })->
  codeAny (model prog w) A (.builtin "list.extend.loop" ⟨[.ref S,.ref z,res],[]⟩) R s:=by
 intro k
 induction k with
 | zero=>
  intro i s acc c hk hi st hsz hSo hlen tr hR
  have hin:i=xs.size:=by omega
  refine codeAny_builtin F.entry_extend_loop ?_
  rw [Around.under_plainId F.plain_extend_loop _]
  show wpAny _ A.in1 (pyNext (.ref z) >>= _) _ _ s
  have nS:S ∉ [z,i1]:=fun q=>hS (by simp only [List.mem_cons,List.not_mem_nil,or_false] at q ⊢; rcases q with q | q <;> simp [q])
  refine wpAny_bind (h_N hh nd hl st (by omega) (by rw [hin]; exact Array.getElem?_eq_none (Nat.le_refl _)) fun h' hk'=>?_)
  refine wpAny_pure (hR h' acc c (fun b o hb e=>hk' b o (fun q=>hb (by simp only [List.mem_cons,List.not_mem_nil,or_false] at q ⊢; rcases q with q | q <;> simp [q])) e) (hk' S _ nS hSo) (hlen.trans hin) fun j v hj=>?_)
  obtain ⟨T,x,y,u,e,hT,t,q⟩:=tr j v hj
  refine ⟨T,x,y,u,e,hT,hk' T _ (fun m=>?_) t,q⟩
  simp only [List.mem_cons,List.not_mem_nil,or_false] at m
  rcases m with m | m
  ·exact absurd (hb z (by simp)) (by rw [<-m]; exact Nat.not_lt.mpr hT)
  ·exact absurd (hb i1 (by simp)) (by rw [<-m]; exact Nat.not_lt.mpr hT)
 | succ k ih=>
  intro i s acc c hk hi st hsz hSo hlen tr hR
  have hlt:i < xs.size:=by omega
  refine codeAny_builtin F.entry_extend_loop ?_
  rw [Around.under_plainId F.plain_extend_loop _]
  show wpAny _ A.in1 (pyNext (.ref z) >>= _) _ _ s
  refine wpAny_bind (h_r nd hl st (Heap.lt_size hSo) (x:=xs[i]) (y:=ys[i]) (v:=zs[i]) (Array.getElem?_eq_getElem hlt) (Array.getElem?_eq_getElem (by omega)) (Array.getElem?_eq_getElem (by omega)) fun h' st' hT' hsz' hk'=>?_)
  have nS:S ∉ [z,TO,i1,i2,i3]:=fun q=>hS (by simp only [List.mem_cons,List.not_mem_nil,or_false] at q ⊢; rcases q with q | q | q | q | q <;> simp [q])
  have hS':=hk' S _ nS hSo
  have ha:acc.toArray.size=i:=by rw [List.size_toArray]; exact hlen
  show wpAny _ A.in1 (updateSeq S (·.push (.ref s.heap.objs.size)) >>= _) _ _ _
  refine wpAny_bind ?_
  have old:∀ b o,b ≠ S->h'.get? b=some o->(h'.update S (Obj.mapSeq (·.push (.ref s.heap.objs.size)))).get? b=some o:=fun b o hb e=>(Heap.get?_update_other _ _ (Ne.symm hb)).trans e
  have big:∀ T,n₀<=T->T ∉ [S,z,TO,i1,i2,i3]:=fun T hT m=>by
   simp only [List.mem_cons,List.not_mem_nil,or_false] at m
   rcases m with m | m | m | m | m | m <;> exact absurd (hb T (by rw [m]; simp)) (Nat.not_lt.mpr hT)
  refine wpAny_updateSeq hS' rfl (wpAny_pure ⟨plainId_quiet F.plain_extend_loop _,ih (i + 1) _ (acc ++ [.ref s.heap.objs.size]) (d_c acc.toArray (.ref s.heap.objs.size) c) (by omega) hlt (st'.keep hS old) ?_ ?_ (by rw [List.length_append,hlen]; rfl) ?_ fun h'' acc' c' hk'' hS'' hl' tr''=>?_⟩)
   (by rw [ha]; omega) (by show (acc.toArray.push _).size<=sizeLine + 1; rw [Array.size_push,ha]; omega)
  ·show n₀<=(h'.update S (Obj.mapSeq (·.push (.ref s.heap.objs.size)))).objs.size
   rw [show (h'.update S (Obj.mapSeq (·.push (Value.ref s.heap.objs.size)))).objs.size=h'.objs.size from (Heap.SameBut.update ..).1,hsz']
   exact Nat.le_succ_of_le hsz
  ·have q:=Heap.get?_update_self (Obj.mapSeq (·.push (Value.ref s.heap.objs.size))) hS' rfl
   have e:acc.toArray.push (Value.ref s.heap.objs.size)=(acc ++ [Value.ref s.heap.objs.size]).toArray:=by simp
   have q':(h'.update S (Obj.mapSeq (·.push (Value.ref s.heap.objs.size)))).get? S=some { cls:=.type "list",dict:=none,data:=.seq (acc.toArray.push (Value.ref s.heap.objs.size)) (d_c acc.toArray (Value.ref s.heap.objs.size) c),slots:=#[] }:=q
   rw [e] at q'
   exact q'
  ·intro j v hj
   by_cases hji:j < acc.length
   ·rw [List.getElem?_append_left hji] at hj
    obtain ⟨T,x,y,u,e,hT,t,q⟩:=tr j v hj
    have nb:=big T hT
    exact ⟨T,x,y,u,e,hT,old T _ (fun z'=>nb (by simp [z'])) (hk' T _ (fun z'=>nb (List.mem_cons_of_mem _ z')) t),q⟩
   ·have hj':j=acc.length:=by
     have:=(List.getElem?_eq_some_iff.mp hj).1
     rw [List.length_append,List.length_singleton] at this
     omega
    subst hj'
    rw [List.getElem?_append_right (Nat.le_refl _),Nat.sub_self] at hj
    cases hj
    have nb:=big s.heap.objs.size hsz
    refine ⟨s.heap.objs.size,xs[i],ys[i],zs[i],rfl,hsz,old _ _ (fun z'=>nb (by simp [z'])) hT',?_,?_,?_⟩ <;> (rw [hlen]; exact Array.getElem?_eq_getElem (by omega))
  ·refine hR h'' acc' c' (fun b o hb' e=>hk'' b o hb' (old b o (fun z'=>hb' (by simp [z'])) (hk' b o (fun z'=>hb' (List.mem_cons_of_mem _ z')) e))) hS'' hl' tr''
end
namespace F3
theorem zip_no_len:typeLookup (.type "zip") "__len__" = pure none:=by rw [typeLookup_type,builtinLookup_eq_fast]; kernel_rfl
theorem zip_no_hint:typeLookup (.type "zip") "__length_hint__" = pure none:=by rw [typeLookup_type,builtinLookup_eq_fast]; kernel_rfl
theorem typeCall_zip_3 (a b c:Value):checkTypeCall "zip" ⟨[a,b,c],[]⟩=pure ():=by kernel_rfl
theorem newCall_zip_3 (a b c:Value):checkBuiltinCall "zip.__new__" ⟨[.type "zip",a,b,c],[]⟩=pure ():=by kernel_rfl
theorem args_object_init_4 (a b c d:Value):argsOk "object.__init__" ⟨[a,b,c,d],[]⟩:=by
 unfold argsOk; rw [signature?_of (id:="object.__init__") (n:=['_','_','t','i','n','i','_','_']) (o:=['t','c','e','j','b','o']) (by kernel_rfl) F.owner_object]; kernel_rfl
end F3
abbrev zA (h:Heap) (l1:Addr):Heap:=h.push { cls:=.type "list_iterator",data:=.fields #[.ref l1,.int 0 0] }
abbrev zB (h:Heap) (l1 l2:Addr):Heap:=(zA h l1).push { cls:=.type "list_iterator",data:=.fields #[.ref l2,.int 0 0] }
abbrev zC (h:Heap) (l1 l2 l3:Addr):Heap:=(zB h l1 l2).push { cls:=.type "list_iterator",data:=.fields #[.ref l3,.int 0 0] }
abbrev zD (h:Heap) (l1 l2 l3:Addr):Heap:=(zC h l1 l2 l3).push { cls:=.type "tuple",data:=.seq #[.ref h.objs.size,.ref (zA h l1).objs.size,.ref (zB h l1 l2).objs.size] }
abbrev zE (h:Heap) (l1 l2 l3:Addr):Heap:=(zD h l1 l2 l3).push { cls:=.type "tuple",data:=.seq #[.none,.none,.none] }
abbrev zF (h:Heap) (l1 l2 l3:Addr):Heap:=(zE h l1 l2 l3).push { cls:=.type "zip",data:=.fields #[.none,.bool false,.bool false,.ref (zC h l1 l2 l3).objs.size,.ref (zD h l1 l2 l3).objs.size] }
theorem i_N (l1 l2 l3:Addr) (xs ys zs:Array Value) :
  Meets (Builtin.«zip.__new__» ⟨[.type "zip",.ref l1,.ref l2,.ref l3],[]⟩) (fun _ R s=>s.heap.IsList l1 xs/\s.heap.IsList l2 ys/\s.heap.IsList l3 zs/\
   R (.ok (.ret (.ref (zE s.heap l1 l2 l3).objs.size))) { s with heap:=zF s.heap l1 l2 l3 }):=
 .of_wp fun prog w A R s h=>by
  obtain ⟨hp,g,d,tk,os⟩:=s; obtain ⟨hl1,hl2,hl3,h⟩:=h
  have hsub:=sub_zip
  have hL1:Heap.IsList (Shared.heap ⟨hp,g,d,tk,os⟩) l1 xs:=hl1
  have hL2:Heap.IsList (Shared.heap ⟨hp.push { cls:=.type "list_iterator",data:=.fields #[.ref l1,.int 0 0] },g,d,tk,os⟩) l2 ys:=Heap.IsList.push hl2 _
  have hL3:Heap.IsList (Shared.heap ⟨(hp.push { cls:=.type "list_iterator",data:=.fields #[.ref l1,.int 0 0] }).push { cls:=.type "list_iterator",data:=.fields #[.ref l2,.int 0 0] },g,d,tk,os⟩) l3 zs:=Heap.IsList.push (Heap.IsList.push hl3 _) _
  wp_walk using wpAny_pyIter_list hL1,wpAny_pyIter_list hL2,wpAny_pyIter_list hL3
  exact ⟨_,rfl,h⟩
section
variable {prog:Program} {w:World} {A:Around} {E:Value->Shared->Prop} {s:Shared}
theorem m_S {l1 l2 l3:Addr} {xs ys zs:Array Value} {Q:Value->Shared->Prop} (hl1:s.heap.IsList l1 xs) (hl2:s.heap.IsList l2 ys) (hl3:s.heap.IsList l3 zs)
  (h:∀ h',d_f h' (s.heap.objs.size + 5) (s.heap.objs.size + 3) (s.heap.objs.size + 4) .none (.bool false)->b_N h' (s.heap.objs.size + 3) (.ref s.heap.objs.size) (.ref (s.heap.objs.size + 1)) (.ref (s.heap.objs.size + 2))->
   b_N h' (s.heap.objs.size + 4) .none .none .none->h'.IsListIter s.heap.objs.size l1 0->h'.IsListIter (s.heap.objs.size + 1) l2 0->h'.IsListIter (s.heap.objs.size + 2) l3 0->h'.objs.size=s.heap.objs.size + 6->
   (∀ c o,s.heap.get? c=some o->h'.get? c=some o)->Q (.ref (s.heap.objs.size + 5)) { s with heap:=h' }) :
  wpAny (model prog w) A (call (.type "zip") [.ref l1,.ref l2,.ref l3]) Q E s:=by
 refine callType_new F.called_zip (by decide) (F3.typeCall_zip_3 _ _ _) (F3.newCall_zip_3 _ _ _) (fun obj=>F3.args_object_init_4 obj _ _ _) F.entry_zip_new
  (i_N l1 l2 l3 xs ys zs) ⟨hl1,hl2,hl3,?_⟩
 have z1:(zA s.heap l1).objs.size=s.heap.objs.size + 1:=Heap.size_push ..
 have z2:(zB s.heap l1 l2).objs.size=s.heap.objs.size + 2:=by rw [Heap.size_push,z1]
 have z3:(zC s.heap l1 l2 l3).objs.size=s.heap.objs.size + 3:=by rw [Heap.size_push,z2]
 have z4:(zD s.heap l1 l2 l3).objs.size=s.heap.objs.size + 4:=by rw [Heap.size_push,z3]
 have z5:(zE s.heap l1 l2 l3).objs.size=s.heap.objs.size + 5:=by rw [Heap.size_push,z4]
 have z6:(zF s.heap l1 l2 l3).objs.size=s.heap.objs.size + 6:=by rw [Heap.size_push,z5]
 have g6:(zF s.heap l1 l2 l3).get? (zE s.heap l1 l2 l3).objs.size=some _:=Heap.get?_push_size _ rfl
 have g5:(zF s.heap l1 l2 l3).get? (zD s.heap l1 l2 l3).objs.size=some _:=Heap.get?_push_of_some _ (Heap.get?_push_size _ rfl)
 have g4:(zF s.heap l1 l2 l3).get? (zC s.heap l1 l2 l3).objs.size=some _:=Heap.get?_push_of_some _ (Heap.get?_push_of_some _ (Heap.get?_push_size _ rfl))
 have g3:(zF s.heap l1 l2 l3).get? (zB s.heap l1 l2).objs.size=some _:=Heap.get?_push_of_some _ (Heap.get?_push_of_some _ (Heap.get?_push_of_some _ (Heap.get?_push_size _ rfl)))
 have g2:(zF s.heap l1 l2 l3).get? (zA s.heap l1).objs.size=some _:=Heap.get?_push_of_some _ (Heap.get?_push_of_some _ (Heap.get?_push_of_some _ (Heap.get?_push_of_some _ (Heap.get?_push_size _ rfl))))
 have g1:(zF s.heap l1 l2 l3).get? s.heap.objs.size=some _:=Heap.get?_push_of_some _ (Heap.get?_push_of_some _ (Heap.get?_push_of_some _ (Heap.get?_push_of_some _ (Heap.get?_push_of_some _ (Heap.get?_push_size _ rfl)))))
 show _/\_
 rw [z3,z4,z5] at g6
 rw [z1,z2,z3] at g4
 rw [z4] at g5
 rw [z2] at g3
 rw [z1] at g2
 rw [z5]
 exact ⟨⟨_,g6,rfl⟩,h _ g6 g4 g5 ⟨_,g1,rfl,rfl⟩ ⟨_,g2,rfl,rfl⟩ ⟨_,g3,rfl,rfl⟩ z6 fun c o x=>
  Heap.get?_push_of_some _ (Heap.get?_push_of_some _ (Heap.get?_push_of_some _ (Heap.get?_push_of_some _ (Heap.get?_push_of_some _ (Heap.get?_push_of_some _ x)))))⟩
theorem i_R {z TI TO i1 i2 i3 l1 l2 l3:Addr} {xs ys zs:Array Value} {Q:Value->Shared->Prop} (hh:A.handled=none)
  (nd:[z,TI,TO,i1,i2,i3].Nodup) (hl:∀ l ∈ [l1,l2,l3],∀ j ∈ [z,TI,TO,i1,i2,i3],l ≠ j) (hlt:∀ j ∈ [z,TI,TO,i1,i2,i3,l1,l2,l3],j < s.heap.objs.size)
  (hz:d_f s.heap z TI TO .none (.bool false)) (ti:b_N s.heap TI (.ref i1) (.ref i2) (.ref i3)) (to:b_N s.heap TO .none .none .none)
  (h1:s.heap.IsListIter i1 l1 0) (h2:s.heap.IsListIter i2 l2 0) (h3:s.heap.IsListIter i3 l3 0) (hl1:s.heap.IsList l1 xs) (hl2:s.heap.IsList l2 ys) (hl3:s.heap.IsList l3 zs)
  (e2:ys.size=xs.size) (e3:zs.size=xs.size) (hpos:0 < xs.size) (hn:xs.size<=sizeLine)
  (hQ:∀ h' acc c,(∀ b o,b ∉ [z,TO,i1,i2,i3]->s.heap.get? b=some o->h'.get? b=some o)->h'.get? s.heap.objs.size=some { cls:=.type "list",dict:=none,data:=.seq acc.toArray c,slots:=#[] }->acc.length=xs.size->q_v h' (s.heap.objs.size + 1) xs ys zs acc->
   Q (.ref s.heap.objs.size) { s with heap:=h' }):wpAny (model prog w) A (call (.type "list") [.ref z]) Q E s:=by
 have hSf:s.heap.objs.size ∉ [z,TI,TO,i1,i2,i3,l1,l2,l3]:=fun hm=>Nat.lt_irrefl _ (hlt _ hm)
 have hSI:s.heap.objs.size ≠ z:=fun e=>hSf (by simp [e])
 refine callType_codes (Q₁:=fun obj s₁=>obj=.ref s.heap.objs.size/\s₁ = { s with heap:=s.heap.push { cls:=.type "list",data:=.seq #[] } }) F.called_list (F.typeCall_list_1 _) F.entry_list_init
  (code_list_new _ ⟨rfl,rfl⟩) fun obj s₁ h₁=>?_
 obtain ⟨rfl,rfl⟩:=h₁
 have hS:(s.heap.push { cls:=.type "list",data:=.seq #[] }).get? s.heap.objs.size=some { cls:=.type "list",data:=.seq #[] }:=Heap.get?_push_size _ rfl
 have hTz:∀ h',d_f h' z TI TO .none (.bool false)->Shared.TypeIs { s with heap:=h' } (.ref z) "zip":=fun h' q=>⟨_,q,rfl⟩
 refine ⟨⟨_,hS,rfl⟩,F.args_list_init_2 _ _,?_⟩
 have pu:∀ b o,s.heap.get? b=some o->(s.heap.push { cls:=.type "list",data:=.seq #[] }).get? b=some o:=fun b o e=>Heap.get?_push_of_some _ e
 show wpAny _ A.in1.in1 (do let old <-Builtin.List.listItems (.ref s.heap.objs.size); Builtin.List.listUpdate (.ref s.heap.objs.size) (fun _=>#[]); letGo old.toList.reverse; Builtin.List.listExtendWith (.ref s.heap.objs.size) (.ref z) .none) _ _ _
 refine wpAny_bind ?_
 unfold Builtin.List.listItems
 refine wpAny_bind (wpAny_seqItems hS rfl (wpAny_pure ?_))
 show wpAny _ _ (updateSeq s.heap.objs.size (fun _=>#[]) >>= fun _=>letGo (#[]:Array Value).toList.reverse >>= fun _=>Builtin.List.listExtendWith (.ref s.heap.objs.size) (.ref z) .none) _ _ _
 refine wpAny_bind (wpAny_updateSeq hS rfl ?_)
 have hS₂:=Heap.get?_update_self (Obj.mapSeq (fun _=>(#[]:Array Value))) hS rfl
 refine wpAny_bind (wpAny_letGo ?_)
 generalize hg1:(s.heap.push { cls:=.type "list",data:=.seq #[] }).update s.heap.objs.size (Obj.mapSeq (fun _=>(#[]:Array Value)))=H1 at hS₂ ⊢
 have oth1:∀ b o,s.heap.get? b=some o->H1.get? b=some o:=fun b o e=>by
  rw [<-hg1]; exact (Heap.get?_update_other _ _ (Nat.ne_of_gt (Heap.lt_size e))).trans (pu b o e)
 have sz1:H1.objs.size=s.heap.objs.size + 1:=by rw [<-hg1,show ((s.heap.push { cls:=.type "list",data:=.seq #[] }).update s.heap.objs.size (Obj.mapSeq (fun _=>(#[]:Array Value)))).objs.size=(s.heap.push { cls:=.type "list",data:=.seq #[] }).objs.size from (Heap.SameBut.update ..).1,Heap.size_push]
 unfold Builtin.List.listExtendWith
 refine wpAny_bind (wpAny_typeOf (hTz _ (oth1 _ _ hz)) ?_)
 have g1:Builtin.List.listSameRef (.ref s.heap.objs.size) (.ref z)=false:=by simp [Builtin.List.listSameRef,hSI]
 have g2:(Value.type "zip" == Value.type "list")=false:=by decide
 have g3:(Value.type "zip" == Value.type "tuple")=false:=by decide
 simp only [g1,g2,g3,Bool.or_false,Bool.false_eq_true,if_false]
 refine wpAny_bind (wpAny_pyIter_zip (s:={ s with heap:=H1 }) (oth1 _ _ hz) ?_)
 refine wpAny_bind (wpAny_holding ?_)
 unfold Builtin.List.listLengthHint
 refine wpAny_bind (wpAny_specialOf (hTz _ (oth1 _ _ hz)) F3.zip_no_len ?_)
 show wpAny _ _ (specialOf (Value.ref z) (Str.ofString "__length_hint__") >>= _) _ _ _
 refine wpAny_bind (wpAny_specialOf (hTz _ (oth1 _ _ hz)) F3.zip_no_hint ?_)
 refine wpAny_pure ?_
 show wpAny _ _ (rule "list.extend.makes-room" >>= fun _=>Builtin.List.listTouch (.ref s.heap.objs.size) >>= fun _=>
  again (.builtin "list.extend.loop" ⟨[.ref s.heap.objs.size,.ref z,.none],[]⟩)) _ _ _
 refine wpAny_bind (wpAny_rule ?_)
 refine wpAny_bind ?_
 show wpAny _ _ (updateSeq s.heap.objs.size (·.push .none) >>= fun _=>updateSeq s.heap.objs.size (·.pop)) _ _ _
 refine wpAny_bind (wpAny_updateSeq hS₂ rfl ?_)
 have hS₃:=Heap.get?_update_self (Obj.mapSeq (·.push Value.none)) hS₂ rfl
 refine wpAny_updateSeq (hz:=by seq_fits) hS₃ rfl ?_
 have hS₄:=Heap.get?_update_self (Obj.mapSeq (·.pop)) hS₃ rfl
 generalize hg2:(H1.update s.heap.objs.size (Obj.mapSeq (·.push Value.none))).update s.heap.objs.size (Obj.mapSeq (·.pop))=H2 at hS₄ ⊢
 have oth2:∀ b o,s.heap.get? b=some o->H2.get? b=some o:=fun b o e=>by
  rw [<-hg2]; exact (Heap.get?_update_other _ _ (Nat.ne_of_gt (Heap.lt_size e))).trans ((Heap.get?_update_other _ _ (Nat.ne_of_gt (Heap.lt_size e))).trans (oth1 b o e))
 have sz2:H2.objs.size=s.heap.objs.size + 1:=by
  rw [<-hg2,show ((H1.update s.heap.objs.size (Obj.mapSeq (·.push Value.none))).update s.heap.objs.size (Obj.mapSeq (·.pop))).objs.size=(H1.update s.heap.objs.size (Obj.mapSeq (·.push Value.none))).objs.size from (Heap.SameBut.update ..).1,
   show (H1.update s.heap.objs.size (Obj.mapSeq (·.push Value.none))).objs.size=H1.objs.size from (Heap.SameBut.update ..).1,sz1]
 refine wpAny_pure ⟨plainId_quiet F.plain_extend_loop _,l_z (A:=A.in1) (n₀:=s.heap.objs.size + 1) (show A.in1.handled=none from hh) nd hl hSf (fun j hj=>?_) e2 e3 hpos hn _ xs.size 0 _ [] _ rfl (Nat.zero_le _)
  ⟨⟨_,_,oth2 _ _ hz,.inl rfl,.inl ⟨rfl,rfl,rfl⟩⟩,oth2 _ _ ti,⟨_,_,_,oth2 _ _ to⟩,h1.at fun o e=>oth2 _ o e,h2.at fun o e=>oth2 _ o e,h3.at fun o e=>oth2 _ o e,hl1.at fun o e=>oth2 _ o e,hl2.at fun o e=>oth2 _ o e,hl3.at fun o e=>oth2 _ o e⟩
  (Nat.le_of_eq sz2.symm) hS₄ rfl (fun j v h=>by simp at h) fun h' acc' c' hk' hS' hl' tr'=>?_⟩
 ·rcases List.mem_cons.mp hj with rfl | hj
  ·exact Nat.lt_succ_self _
  ·refine Nat.lt_succ_of_lt (hlt j ?_)
   simp only [List.mem_cons,List.not_mem_nil,or_false] at hj ⊢
   rcases hj with q | q | q | q | q | q <;> simp [q]
 ·refine ⟨rfl,hQ h' acc' c' (fun b o hb e=>hk' b o (fun m=>?_) (oth2 b o e)) hS' hl' tr'⟩
  rcases List.mem_cons.mp m with q | q
  ·exact absurd (Heap.lt_size e) (by rw [q]; exact Nat.lt_irrefl _)
  ·exact hb q
end
end L2
namespace L2
open PySem PySem.Spec PyProof.Rows
mutual
inductive DV (H:Hp):V->PyData->Prop where
 | non:DV H .non .none
 | bl (b:Bool):DV H (.bl b) (.bool b)
 | int (i:Int):DV H (.int i) (.int i)
 | str (x:Str):DV H (.str x) (.str x)
 | lst {a:Addr} {xs:List V} {ds:List PyData}:H a=some (.lst xs)->DVs H xs ds->DV H (.ref a) (.list ds)
 | tup {a:Addr} {xs:List V} {ds:List PyData}:H a=some (.tup xs)->DVs H xs ds->DV H (.ref a) (.tuple ds)
inductive DVs (H:Hp):List V->List PyData->Prop where
 | nil:DVs H [] []
 | cons {x:V} {xs:List V} {d:PyData} {ds:List PyData}:DV H x d->DVs H xs ds->DVs H (x :: xs) (d :: ds)
end
section
variable {H H':Hp}
mutual
theorem DV.mono (s:e_W H H'):∀ {v:V} {d:PyData},DV H v d->DV H' v d
 | _,_,.non=>.non
 | _,_,.bl b=>.bl b
 | _,_,.int i=>.int i
 | _,_,.str x=>.str x
 | _,_,.lst h r=>.lst (s _ _ h) (DVs.mono s r)
 | _,_,.tup h r=>.tup (s _ _ h) (DVs.mono s r)
theorem DVs.mono (s:e_W H H'):∀ {vs:List V} {ds:List PyData},DVs H vs ds->DVs H' vs ds
 | _,_,.nil=>.nil
 | _,_,.cons h r=>.cons (DV.mono s h) (DVs.mono s r)
end
theorem DVs.length:∀ {vs:List V} {ds:List PyData},DVs H vs ds->vs.length=ds.length
 | _,_,.nil=>rfl
 | _,_,.cons _ r=>congrArg (· + 1) r.length
theorem DVs.append:∀ {vs ws:List V} {ds es:List PyData},DVs H vs ds->DVs H ws es->DVs H (vs ++ ws) (ds ++ es)
 | _,_,_,_,.nil,s=>s
 | _,_,_,_,.cons h r,s=>.cons h (r.append s)
theorem DVs.get:∀ {vs:List V} {ds:List PyData} {i:Nat} {d:PyData},DVs H vs ds->ds[i]? = some d->∃ v,vs[i]? = some v/\DV H v d
 | _,_,_,_,.nil,e=>by simp at e
 | _,_,0,_,.cons h _,e=>by simp at e; subst e; exact ⟨_,rfl,h⟩
 | _,_,i + 1,d,.cons _ r,e=>by
  obtain ⟨v,h1,h2⟩:=r.get (i:=i) (d:=d) (by simpa using e)
  exact ⟨v,by simpa using h1,h2⟩
theorem DVs.get':∀ {vs:List V} {ds:List PyData} {i:Nat} {v:V},DVs H vs ds->vs[i]? = some v->∃ d,ds[i]? = some d/\DV H v d
 | _,_,_,_,.nil,e=>by simp at e
 | _,_,0,_,.cons h _,e=>by simp at e; subst e; exact ⟨_,rfl,h⟩
 | _,_,i + 1,d,.cons _ r,e=>by
  obtain ⟨v,h1,h2⟩:=r.get' (i:=i) (v:=d) (by simpa using e)
  exact ⟨v,by simpa using h1,h2⟩
theorem DVs.drop:∀ {vs:List V} {ds:List PyData} (n:Nat),DVs H vs ds->DVs H (vs.drop n) (ds.drop n)
 | _,_,0,r=>r
 | _,_,_ + 1,.nil=>.nil
 | _,_,n + 1,.cons _ r=>r.drop n
theorem a_n {a:Addr} {o:HO} (h:H a=none):e_W H (upd H a o):=fun b u e=>by rw [a_p (b_g e h)]; exact e
theorem DV.tup_inv {v:V} {ds:List PyData} (h:DV H v (.tuple ds)):∃ a xs,v=.ref a/\H a=some (.tup xs)/\DVs H xs ds:=by
 cases h with | tup h r=>exact ⟨_,_,rfl,h,r⟩
theorem DV.lst_inv {v:V} {ds:List PyData} (h:DV H v (.list ds)):∃ a xs,v=.ref a/\H a=some (.lst xs)/\DVs H xs ds:=by
 cases h with | lst h r=>exact ⟨_,_,rfl,h,r⟩
theorem DV.int_inv {v:V} {i:Int} (h:DV H v (.int i)):v=.int i:=by cases h; rfl
theorem DV.str_inv {v:V} {x:Str} (h:DV H v (.str x)):v=.str x:=by cases h; rfl
theorem DV.bl_inv {v:V} {b:Bool} (h:DV H v (.bool b)):v=.bl b:=by cases h; rfl
theorem DV.non_inv {v:V} (h:DV H v .none):v=.non:=by cases h; rfl
end
section
variable {X:Cx} {pins:List (Addr × Obj)} {Y:St} {H:Hp} {s:Shared}
mutual
theorem Inv.reads (I:Inv X pins Y H s):∀ {v:V} {d:PyData} {u:Value},DV H v d->b_P v u->∃ as,Reads s.heap u d as
 | _,_,_,.non,r=>by cases r; exact ⟨_,.none⟩
 | _,_,_,.bl b,r=>by cases r; exact ⟨_,.bool b⟩
 | _,_,_,.int i,r=>by obtain ⟨t,rfl⟩:=r; exact ⟨_,.int i t⟩
 | _,_,_,.str x,r=>by obtain ⟨t,rfl⟩:=r; exact ⟨_,.str x t⟩
 | _,_,_,.lst h q,r=>by
  cases r
  obtain ⟨_,its,n,rv,e⟩:=I.hok _ _ h
  obtain ⟨as,z⟩:=I.readsAll q rv
  exact ⟨_,reads_list_at e rfl rfl (by simpa using z)⟩
 | _,_,_,.tup h q,r=>by
  cases r
  obtain ⟨_,its,rv,o,e,c,n,d⟩:=I.hok _ _ h
  obtain ⟨as,z⟩:=I.readsAll q rv
  exact ⟨_,reads_tuple_at e c d (by simpa using z)⟩
theorem Inv.readsAll (I:Inv X pins Y H s):∀ {vs:List V} {ds:List PyData} {us:List Value},DVs H vs ds->b_y vs us->∃ as,ReadsAll s.heap us ds as
 | _,_,_,.nil,.nil=>⟨_,.nil⟩
 | _,_,_,.cons h q,.cons r rr=>by
  obtain ⟨as,z⟩:=I.reads h r
  obtain ⟨bs,z'⟩:=I.readsAll q rr
  exact ⟨_,.cons z z'⟩
end
end
section
variable {X:Cx}
def v_6 (neg:Bool):R2:=fun x y H Q=>∃ d e,DV H x d/\DV H y e/\SeqAt.shaped d=true/\SeqAt.shaped e=true/\Q (.bl (PyData.eqv d e != neg)) H
theorem r_q (hu:X.A.units + 64 < cLine):OpR X (compareOp .Eq) (v_6 false):=by
 intro pins s Y H x y v u Q I rx ry h
 obtain ⟨d,e,h1,h2,h3,h4,q⟩:=h
 obtain ⟨as,z1⟩:=I.reads h1 rx
 obtain ⟨bs,z2⟩:=I.reads h2 ry
 exact eq_dataH z1 z2 h3 h4 hu ⟨_,H,I,by show Value.bool (PyData.eqv d e)=Value.bool (PyData.eqv d e != false); rw [Bool.bne_false],q⟩
theorem q_I (hu:X.A.units + 64 < cLine):OpR X (compareOp .NotEq) (v_6 true):=by
 intro pins s Y H x y v u Q I rx ry h
 obtain ⟨d,e,h1,h2,h3,h4,q⟩:=h
 obtain ⟨as,z1⟩:=I.reads h1 rx
 obtain ⟨bs,z2⟩:=I.reads h2 ry
 exact ne_dataH z1 z2 h3 h4 hu ⟨_,H,I,by show Value.bool (!PyData.eqv d e)=Value.bool (PyData.eqv d e != true); rw [Bool.bne_true],q⟩
@[simp] def p_9:PyData->String
 | .none=>"NoneType"
 | .bool _=>"bool"
 | .int _=>"int"
 | .str _=>"str"
 | .list _=>"list"
 | .tuple _=>"tuple"
 | .dict _=>"dict"
theorem DV.ty {H:Hp} {K:PySem.W.Frag} {v:V} {d:PyData} (h:DV H v d):TyOf K H v (.type (p_9 d)):=by
 cases h with
 | non=>exact .non
 | bl b=>exact .bl b
 | int i=>exact .int i
 | str x=>exact .str x
 | lst h r=>exact .lst h
 | tup h r=>exact .tup h
def z_a:List V->Hp->VK->Prop:=fun xs H Q=>∃ x d n b,xs=[x,.ty n]/\DV H x d/\(∀ K:PySem.W.Frag,kitOne K (.type (p_9 d)) (.type n)=some b)/\Q (.bl b) H
theorem l_6:h_2 X (.builtin "isinstance") z_a:=by
 intro pins s Y H xs us Q I r h
 obtain ⟨x,d,n,b,rfl,hd,e,q⟩:=h
 obtain ⟨u,w,rfl,r1,r2⟩:=vals2 r
 cases r2
 exact o_v I r1 hd.ty (e _) fun tk=>⟨.bl b,H,I.tok tk,rfl,q⟩
end
section
variable {X:Cx} {pins:List (Addr × Obj)} {Y:St} {H:Hp} {s:Shared} {h':Heap}
theorem Inv.turnedNew {ch:List Addr} {a:Addr} {o:HO} {t':Nat} (I:Inv X pins Y H s) (hch:∀ b ∈ ch,n_t X pins H b) (k:∀ b ob,b ∉ ch->s.heap.get? b=some ob->h'.get? b=some ob) (hp:s.heap.objs.size<=a)
  (there:∀ b ∈ ch,∀ ob,s.heap.get? b=some ob->∃ ob',h'.get? b=some ob') (new:b_6 X.prog X.w (upd H a o) h' a o):Inv X pins Y (upd H a o) { s with heap:=h',toks:=t' }:=by
 have hn:=I.hok.fresh hp
 have nch:∀ b u,H b=some u->b ∉ ch:=fun b u e z=>by rw [(hch b z).1] at e; cases e
 refine I.step (g':=s.gens) (d':=s.drawn) (ch:=ch) (fun b hb=>⟨(hch b hb).2.2.2.1,(hch b hb).2.1,(hch b hb).2.2.2.2.1,(hch b hb).2.2.2.2.2⟩) (fun b ob _ _ hc e _=>k b ob hc e) (fun b ob _ _ hc e _=>⟨ob.slots,k b ob hc e⟩)
  (fun b ob _ e n=>by rw [a_p (Nat.ne_of_lt (Nat.lt_of_lt_of_le (Heap.lt_size e) hp))]; exact n) (fun b ob hc e=>⟨ob,k b ob hc e⟩) (fun b xs e=>a_n hn b _ e) (fun b ob u e=>a_n hn b _ e) (fun b ps e=>⟨#[],by rw [a_n hn b _ e]; simp⟩) (fun m hm=>?_) (fun b u e=>?_) I.bare
 ·obtain ⟨oL,es,ep,ho,r⟩:=hm
  exact ⟨oL,es,ep,k _ oL (fun z=>(hch _ z).2.1 rfl) ho,r⟩
 ·by_cases hb:b=a
  ·subst hb; rw [a_A] at e; cases e; exact new
  ·rw [a_p hb] at e
   refine (I.hok b u e).stay (fun c v hc q=>k c v ?_ q) (fun c q=>a_n hn c _ q) fun c xs q=>a_n hn c _ q
   rcases hc with z | z
   ·rw [z]; exact nch b u e
   ·exact nch c _ z
end
def Ite (K:PySem.W.Frag) (a:Addr):It:=
 ⟨fun i H=>∃ xs x,SqL K H a xs/\xs[i]? = some x,fun i H v H'=>∃ T x,v=.ref T/\H T=none/\H' = upd H T (.tup [.int i,x])/\∀ xs,SqL K H a xs->xs[i]? = some x,fun i H=>∃ xs,SqL K H a xs/\xs.length<=i⟩
theorem p_k {P:Program} {w:World} {K:PySem.W.Frag} {elts:List Expr} {kk:Nat} {tpos:Pos} (a e it:Addr) (hne:e ≠ it):Turn P w K (.Tuple elts kk tpos) (Ite K a) [e,it] e (fun i h=>(∃ old,IsEnum h e it i old)/\h.IsListIter it a i) where
 mem:=by simp
 obj:=fun i h st b hb=>by
  obtain ⟨⟨old,he⟩,o,e1,c,d⟩:=st
  rcases List.mem_cons.mp hb with rfl | hb
  ·exact ⟨_,he,fun v z=>by cases z⟩
  ·obtain rfl:=List.mem_singleton.mp hb
   exact ⟨o,e1,fun v z=>by rw [d] at z; cases z⟩
 keep:=fun i h h' st k=>⟨st.1.elim fun old he=>⟨old,k e (by simp) _ he⟩,st.2.at fun o e'=>k it (by simp) o e'⟩
 item:=by
  intro X hP hw hK hc i pins s Y H E I hf st hg
  subst hP hw hK
  obtain ⟨⟨old,he⟩,hit⟩:=st
  obtain ⟨xs,x,hq,hx⟩:=hg
  obtain ⟨its,rv,p,hz⟩:=I.list hq
  obtain ⟨u,hu,ru⟩:=rv.get hx
  refine wpAny_pyNext_enum_item he hit p.isList (x:=u) (by simpa using hu) hne fun h' ho hi' hT hsz hk=>⟨_,rfl,?_⟩
  refine wpAny_letOwnedTupleGo_enum (s:={ s with heap:=h',toks:=s.toks + 1 }) ho fun h2 he2 hs2=>?_
  have hel:s.heap.objs.size ≠ e:=Nat.ne_of_gt (Heap.lt_size he)
  have k2:∀ b ob,b ∉ [e,it]->s.heap.get? b=some ob->h2.get? b=some ob:=fun b ob hb q=>by
   simp only [List.mem_cons,List.not_mem_nil,or_false,not_or] at hb
   exact (hs2.2 b hb.1).trans (hk b ob hb.1 hb.2 q)
  have I1:Inv X pins Y (upd H s.heap.objs.size (.tup [.int i,x])) { s with heap:=h2,toks:=s.toks + 1 }:=by
   refine I.turnedNew (ch:=[e,it]) hf k2 (Nat.le_refl _) (fun b hb ob q=>?_) ?_
   ·rcases List.mem_cons.mp hb with rfl | hb
    ·exact ⟨_,he2⟩
    ·obtain rfl:=List.mem_singleton.mp hb
     obtain ⟨o,e1,_⟩:=hi'
     exact ⟨o,(hs2.2 b (Ne.symm hne)).trans e1⟩
   ·exact ⟨by show 2<=sizeLine; decide,[.int i s.toks,u],.cons ⟨_,rfl⟩ (.cons ru .nil),⟨_,(hs2.2 _ hel).trans hT,rfl,_,rfl⟩⟩
  refine ⟨.ref s.heap.objs.size,_,I1,rfl,⟨_,x,rfl,I.hok.fresh (Nat.le_refl _),rfl,fun ys hy=>by rw [I.list_inj hy hq]; exact hx⟩,⟨⟨_,by simpa using he2⟩,hi'.at fun o e1=>(hs2.2 it (Ne.symm hne)).trans e1⟩,fun b hb=>?_⟩
  have hb':b < s.heap.objs.size:=by
   rcases List.mem_cons.mp hb with rfl | hb
   ·exact Heap.lt_size he
   ·obtain rfl:=List.mem_singleton.mp hb
    obtain ⟨o,e1,_⟩:=hit
    exact Heap.lt_size e1
  rw [a_p (Nat.ne_of_lt hb')]
  exact (hf b hb).1
 done:=by
  intro X hP hw hK hc i pins s Y H E I hf st hg
  subst hP hw hK
  obtain ⟨⟨old,he⟩,hit⟩:=st
  obtain ⟨xs,hq,hx⟩:=hg
  obtain ⟨its,rv,p,hz⟩:=I.list hq
  obtain ⟨f0,f1,f2,f3,f4,f5⟩:=hf it (by simp)
  have hl:=rv.length
  exact wpAny_pyNext_enum_end (I.ok.hd hc) he hit p.isList (by simp; omega) fun h' eb=>⟨rfl,I.turned (t':=s.toks) (fun b o hb e=>eb b o hb e) f0 f1 f3 f4 f5⟩
 self:=fun _ _ _ _ _ st h=>st.1.elim fun _ he=>wpAny_pyIter_enum he h
section
variable {X:Cx} {elts:List Expr} {kk:Nat} {tpos:Pos}
def w_v (K:PySem.W.Frag) (ta:TA):TI:=fun Y H R=>ta Y H fun vs H1=>∃ a xs,vs=[.ref a]/\SqL K H1 a xs/\R (Ite K a) H1
theorem r_v {a:Expr} {ta:TA} {p pos:Pos} (hg:Gl X "enumerate") (hm:X.mg "enumerate" = none) (ha:PA X [a] ta) (hs:starEach [a] X.env=[(false,eval a X.env)]:=by rfl):PI X (.Tuple elts kk tpos) (.Call (.Name "enumerate" p) [a] [] pos) (w_v X.K ta):=by
 intro pins s Y H R I h
 refine Call_ (h_f I hg hm (show bootBuiltins "enumerate" = some (.type "enumerate") by decide +kernel) (PyProof.Rows.callWith_type1 (thn (ha pos pins s Y H _ I h) fun us s1 ⟨vs,H1,I1,r1,q1⟩=>?_) hs rfl))
 obtain ⟨l,xs,rfl,hq,q⟩:=q1
 obtain ⟨u,rfl,ru⟩:=vals1 r1
 cases ru
 obtain ⟨its,rv,p,hz⟩:=I1.list hq
 refine call_enumerate_list p.isList fun h' he hi hsz hk=>?_
 refine wpAny_pyIter_enum (s:={ s1 with heap:=h' }) he ?_
 refine ⟨s1.heap.objs.size + 1,[s1.heap.objs.size + 1,s1.heap.objs.size],_,_,H1,rfl,I1.kept (t':=s1.toks) hk,p_k l _ _ (Nat.succ_ne_self _),⟨⟨_,he⟩,hi⟩,fun b hb=>?_,q⟩
 have hb':s1.heap.objs.size<=b:=by
  rcases List.mem_cons.mp hb with rfl | hb
  ·exact Nat.le_succ _
  ·obtain rfl:=List.mem_singleton.mp hb
   exact Nat.le_refl _
 exact I1.fpOk hb' (I1.hok.fresh hb')
end
end L2
namespace L2.L3
open PySem PySem.Spec PyProof.Rows
def hide (O:List Addr) (H:Hp):Hp:=fun b=>if b ∈ O then none else H b
section
variable {O O':List Addr} {H H' H1 H2:Hp}
theorem d_3 {b:Addr} {o:HO} (h:H b=some o) (n:b ∉ O):hide O H b=some o:=by unfold hide; rw [if_neg n]; exact h
theorem a_F {b:Addr} {o:HO} (h:hide O H b=some o):H b=some o/\b ∉ O:=by
 unfold hide at h
 by_cases e:b ∈ O
 ·rw [if_pos e] at h; cases h
 ·rw [if_neg e] at h; exact ⟨h,e⟩
theorem j_S:e_W (hide O H) H:=fun b o h=>(a_F h).1
structure Stp (O:List Addr) (H:Hp) (O':List Addr) (H':Hp):Prop where
 keep:∀ b o,b ∉ O->H b=some o->H' b=some o
 new:∀ a ∈ O',a ∈ O\/H a=none
theorem Stp.refl:Stp O H O H:=⟨fun _ _ _ h=>h,fun _ h=>.inl h⟩
theorem Stp.trans {O1 O2 O3:List Addr} {H3:Hp} (a:Stp O1 H1 O2 H2) (b:Stp O2 H2 O3 H3):Stp O1 H1 O3 H3:=by
 have nw:∀ c o,c ∉ O1->H1 c=some o->c ∉ O2:=fun c o hc e z=>(a.new c z).elim hc fun n=>by rw [n] at e; cases e
 refine ⟨fun c o hc e=>b.keep c o (nw c o hc e) (a.keep c o hc e),fun c h=>?_⟩
 by_cases hc:c ∈ O1
 ·exact .inl hc
 ·refine .inr ?_
  cases e:H1 c with
  | none=>rfl
  | some o=>
   rcases b.new c h with z | z
   ·exact absurd z (nw c o hc e)
   ·rw [a.keep c o hc e] at z; cases z
theorem Stp.same (s:e_W H H'):Stp O H O H':=⟨fun b o _ e=>s b o e,fun _ h=>.inl h⟩
theorem Stp.hid (s:Stp O H O' H'):e_W (hide O H) (hide O' H'):=fun b o e=>by
 obtain ⟨e1,n⟩:=a_F e
 refine d_3 (s.keep b o n e1) fun z=>?_
 rcases s.new b z with q | q
 ·exact n q
 ·rw [q] at e1; cases e1
theorem e_a (s:e_W H H'):e_W (hide O H) (hide O H'):=(Stp.same s).hid
theorem h_U (s:∀ a ∈ O',a ∈ O):e_W (hide O H) (hide O' H):=fun b o e=>by
 obtain ⟨e1,n⟩:=a_F e
 exact d_3 e1 fun z=>n (s b z)
end
inductive Fl where
 | d (x:PyData) | l (ds:List PyData) | m (tk:Bool) (kvs:List (PyData × PyData))
inductive Bx where
 | l (ds:List PyData) | m (tk:Bool) (kvs:List (PyData × PyData)) | o (C:Addr) (fs:List (Str × Fl)) | sd (fs:List (Str × Fl)) | ll (xs:List (List PyData))
inductive Cell where
 | dat (d:PyData)
 | own (io:Bool) (b:Bx)
 | scr (ns:List Int)
 | exc (c:Str)
 | vw (b:Bx)
abbrev a_r:=List (Option Cell)
structure Fx where
 H₀:Hp
 A₀:List Addr
 O₀:List Addr
 I₀:Nat->Addr
def Scr (K:PySem.W.Frag) (H:Hp) (a:Addr) (ns:List Int):Prop:=ns.length<=63/\((∃ o,H a=some (.frz o (.lst (ns.map V.int))))\/
 ∃ (o:Obj) (its:Array Value) (n:Nat),K.lookup a=some o/\o.cls=.type "list"/\o.dict=none/\o.data=.seq its n/\its.size<=sizeLine/\b_y (ns.map V.int) its.toList)
theorem Scr.sq {K:PySem.W.Frag} {H:Hp} {a:Addr} {ns:List Int} (h:Scr K H a ns):SqL K H a (ns.map V.int):=h.2.elim (fun ⟨o,e⟩=>.inl (.inr ⟨o,e⟩)) .inr
theorem Scr.mono {K:PySem.W.Frag} {H H':Hp} {a:Addr} {ns:List Int} (h:Scr K H a ns) (k:∀ o u,H a=some (.frz o u)->H' a=some (.frz o u)):Scr K H' a ns:=⟨h.1,h.2.imp (fun ⟨o,e⟩=>⟨o,k _ _ e⟩) id⟩
def v_m (K:PySem.W.Frag) (a:Addr) (c:Str) (h:Heap):Prop:=∃ C o,nsIn K mainGlobals c=some (some (.ref C))/\h.get? a=some o/\o.cls=.ref C
def n_L:Key->PyData
 | .inl i=>.int i
 | .inr x=>.str x
def v_B (ks:List Key):PyData:=.tuple (ks.map n_L)
def j_L (G H:Hp) (a:Addr):Bool->List (PyData × PyData)->Prop
 | false,kvs=>∃ ks:List (Key × V),H a=some (.dK ks)/\Paired (fun (p:Key × V) (q:PyData × PyData)=>n_L p.1=q.1/\DV G p.2 q.2) ks kvs
 | true,kvs=>∃ ks:List (List Key × V),H a=some (.dT ks)/\Paired (fun (p:List Key × V) (q:PyData × PyData)=>v_B p.1=q.1/\DV G p.2 q.2) ks kvs
def m_v (G H:Hp) (v:V):Fl->List Addr->Prop
 | .d x,fp=>fp=[]/\DV G v x
 | .l ds,fp=>∃ a xs,v=.ref a/\fp=[a]/\H a=some (.lst xs)/\DVs G xs ds
 | .m tk kvs,fp=>∃ a,v=.ref a/\fp=[a]/\j_L G H a tk kvs
inductive FlsAt (G H:Hp):List (Str × V)->List (Str × Fl)->List (List Addr)->Prop where
 | nil:FlsAt G H [] [] []
 | cons {n:Str} {v:V} {f:Fl} {fp:List Addr} {gs:List (Str × V)} {fs:List (Str × Fl)} {fps:List (List Addr)}:m_v G H v f fp->FlsAt G H gs fs fps->FlsAt G H ((n,v) :: gs) ((n,f) :: fs) (fp :: fps)
def v_E (G H:Hp) (b:Addr) (ds:List PyData):Prop:=∃ vs,H b=some (.lst vs)/\DVs G vs ds
def g_m (G H:Hp) (a:Addr):Bx->List Addr->Prop
 | .l ds,fp=>fp=[a]/\∃ xs,H a=some (.lst xs)/\DVs G xs ds
 | .m tk kvs,fp=>fp=[a]/\j_L G H a tk kvs
 | .o C fs,fp=>∃ dx gs fps,fp=a :: dx :: fps.flatten/\H a=some (.ins C dx gs)/\H dx=some (.own a)/\FlsAt G H gs fs fps
 | .sd fs,fp=>∃ gs fps,fp=a :: fps.flatten/\H a=some (.dK (gs.map fun p=>(Sum.inr p.1,p.2)))/\FlsAt G H gs fs fps
 | .ll xs,fp=>∃ bs:List Addr,fp=a :: bs/\H a=some (.lst (bs.map V.ref))/\Paired (v_E G H) bs xs
def Mv:HO->Prop
 | .lst _=>True
 | .dK _=>True
 | .dT _=>True
 | .ins _ _ _=>True
 | .own _=>True
 | _=>False
def c_f (K:PySem.W.Frag) (H:Hp) (O:List Addr) (v:V):Cell->List Addr->Prop
 | .dat d,_=>DV (hide O H) v d
 | .own _ b,fp=>∃ a,v=.ref a/\g_m (hide O H) H a b fp
 | .scr ns,_=>∃ a,v=.ref a/\Scr K H a ns
 | .exc c,_=>∃ a φ,v=.ref a/\hide O H a=some (.ext φ)/\∀ h,φ h->v_m K a c h
 | .vw b,_=>∃ a fp,v=.ref a/\g_m (hide O H) (hide O H) a b fp
section
variable {G G' H H':Hp} {a:Addr} {v:V} {fp:List Addr}
theorem j_L.keep {tk:Bool} {kvs:List (PyData × PyData)} (h:j_L G H a tk kvs) (k:H' a=H a) (g:e_W G G'):j_L G' H' a tk kvs:=by
 cases tk with
 | false=>obtain ⟨ks,e,p⟩:=h; exact ⟨ks,k.trans e,Paired.mapP p fun _ _ z=>⟨z.1,DV.mono g z.2⟩⟩
 | true=>obtain ⟨ks,e,p⟩:=h; exact ⟨ks,k.trans e,Paired.mapP p fun _ _ z=>⟨z.1,DV.mono g z.2⟩⟩
theorem j_L.live {tk:Bool} {kvs:List (PyData × PyData)} (h:j_L G H a tk kvs):∃ o,H a=some o/\Mv o:=by
 cases tk with
 | false=>obtain ⟨ks,e,p⟩:=h; exact ⟨_,e,trivial⟩
 | true=>obtain ⟨ks,e,p⟩:=h; exact ⟨_,e,trivial⟩
theorem m_v.keep {f:Fl} (h:m_v G H v f fp) (k:∀ c ∈ fp,H' c=H c) (g:e_W G G'):m_v G' H' v f fp:=by
 cases f with
 | d x=>exact ⟨h.1,DV.mono g h.2⟩
 | l ds=>obtain ⟨a,xs,e1,e2,e3,e4⟩:=h; exact ⟨a,xs,e1,e2,(k a (by simp [e2])).trans e3,DVs.mono g e4⟩
 | m tk kvs=>obtain ⟨a,e1,e2,e3⟩:=h; exact ⟨a,e1,e2,e3.keep (k a (by simp [e2])) g⟩
theorem m_v.live {f:Fl} (h:m_v G H v f fp):∀ c ∈ fp,∃ o,H c=some o/\Mv o:=by
 cases f with
 | d x=>obtain ⟨rfl,_⟩:=h; intro c hc; cases hc
 | l ds=>obtain ⟨a,xs,e1,rfl,e3,e4⟩:=h; intro c hc; obtain rfl:=List.mem_singleton.mp hc; exact ⟨_,e3,trivial⟩
 | m tk kvs=>obtain ⟨a,e1,rfl,e3⟩:=h; intro c hc; obtain rfl:=List.mem_singleton.mp hc; exact e3.live
theorem FlsAt.keep {gs:List (Str × V)} {fs:List (Str × Fl)} {fps:List (List Addr)} (h:FlsAt G H gs fs fps) (k:∀ c ∈ fps.flatten,H' c=H c) (g:e_W G G'):FlsAt G' H' gs fs fps:=by
 induction h with
 | nil=>exact .nil
 | cons a b ih=>exact .cons (a.keep (fun c hc=>k c (by simp [hc])) g) (ih fun c hc=>k c (by rw [List.flatten_cons]; exact List.mem_append_right _ hc))
theorem FlsAt.live {gs:List (Str × V)} {fs:List (Str × Fl)} {fps:List (List Addr)} (h:FlsAt G H gs fs fps):∀ c ∈ fps.flatten,∃ o,H c=some o/\Mv o:=by
 induction h with
 | nil=>intro c hc; cases hc
 | cons a b ih=>
  intro c hc
  rw [List.flatten_cons] at hc
  rcases List.mem_append.mp hc with hc | hc
  ·exact a.live c hc
  ·exact ih c hc
theorem Lls.keep {bs:List Addr} {xs:List (List PyData)} (h:Paired (v_E G H) bs xs) (k:∀ c ∈ bs,H' c=H c) (g:e_W G G'):Paired (v_E G' H') bs xs:=by
 induction h with
 | nil=>exact .nil
 | cons a b ih=>obtain ⟨vs,e,d⟩:=a; exact .cons ⟨vs,(k _ List.mem_cons_self).trans e,DVs.mono g d⟩ (ih fun c hc=>k c (List.mem_cons_of_mem _ hc))
theorem Lls.live {bs:List Addr} {xs:List (List PyData)} (h:Paired (v_E G H) bs xs):∀ c ∈ bs,∃ o,H c=some o/\Mv o:=by
 induction h with
 | nil=>intro c hc; cases hc
 | cons a b ih=>
  intro c hc
  obtain ⟨vs,e,d⟩:=a
  rcases List.mem_cons.mp hc with rfl | hc
  ·exact ⟨_,e,trivial⟩
  ·exact ih c hc
theorem g_m.keep {b:Bx} (h:g_m G H a b fp) (k:∀ c ∈ fp,H' c=H c) (g:e_W G G'):g_m G' H' a b fp:=by
 cases b with
 | l ds=>obtain ⟨rfl,xs,e,d⟩:=h; exact ⟨rfl,xs,(k a (by simp)).trans e,DVs.mono g d⟩
 | m tk kvs=>obtain ⟨rfl,d⟩:=h; exact ⟨rfl,d.keep (k a (by simp)) g⟩
 | o C fs=>obtain ⟨dx,gs,fps,rfl,e1,e2,f⟩:=h; exact ⟨dx,gs,fps,rfl,(k a (by simp)).trans e1,(k dx (by simp)).trans e2,f.keep (fun c hc=>k c (by simp [hc])) g⟩
 | sd fs=>obtain ⟨gs,fps,rfl,e1,f⟩:=h; exact ⟨gs,fps,rfl,(k a (by simp)).trans e1,f.keep (fun c hc=>k c (by simp [hc])) g⟩
 | ll xs=>obtain ⟨bs,rfl,e1,f⟩:=h; exact ⟨bs,rfl,(k a (by simp)).trans e1,Lls.keep f (fun c hc=>k c (by simp [hc])) g⟩
theorem g_m.live {b:Bx} (h:g_m G H a b fp):∀ c ∈ fp,∃ o,H c=some o/\Mv o:=by
 cases b with
 | l ds=>obtain ⟨rfl,xs,e,d⟩:=h; intro c hc; obtain rfl:=List.mem_singleton.mp hc; exact ⟨_,e,trivial⟩
 | m tk kvs=>obtain ⟨rfl,d⟩:=h; intro c hc; obtain rfl:=List.mem_singleton.mp hc; exact d.live
 | o C fs=>
  obtain ⟨dx,gs,fps,rfl,e1,e2,f⟩:=h
  intro c hc
  rcases List.mem_cons.mp hc with rfl | hc
  ·exact ⟨_,e1,trivial⟩
  ·rcases List.mem_cons.mp hc with rfl | hc
   ·exact ⟨_,e2,trivial⟩
   ·exact f.live c hc
 | sd fs=>
  obtain ⟨gs,fps,rfl,e1,f⟩:=h
  intro c hc
  rcases List.mem_cons.mp hc with rfl | hc
  ·exact ⟨_,e1,trivial⟩
  ·exact f.live c hc
 | ll xs=>
  obtain ⟨bs,rfl,e1,f⟩:=h
  intro c hc
  rcases List.mem_cons.mp hc with rfl | hc
  ·exact ⟨_,e1,trivial⟩
  ·exact Lls.live f c hc
end
theorem c_f.keep {K:PySem.W.Frag} {H H':Hp} {O O':List Addr} {v:V} {c:Cell} {fp:List Addr} (h:c_f K H O v c fp) (s:Stp O H O' H') (k:∀ b ∈ fp,H' b=H b) (z:∀ b o u,H b=some (.frz o u)->H' b=some (.frz o u)):c_f K H' O' v c fp:=by
 cases c with
 | dat d=>exact DV.mono s.hid h
 | own io b=>obtain ⟨a,e,q⟩:=h; exact ⟨a,e,q.keep k s.hid⟩
 | scr ns=>obtain ⟨a,e1,q⟩:=h; exact ⟨a,e1,q.mono fun o u w=>z _ _ _ w⟩
 | exc c=>obtain ⟨a,φ,e1,e2,q⟩:=h; exact ⟨a,φ,e1,s.hid _ _ e2,q⟩
 | vw b=>obtain ⟨a,fp',e1,q⟩:=h; exact ⟨a,fp',e1,q.keep (fun c hc=>by obtain ⟨o,e2,_⟩:=q.live c hc; rw [e2]; exact s.hid _ _ e2) s.hid⟩
structure DStW (K:PySem.W.Frag) (F:Fx) (H:Hp) (Y:St) (U:a_r) (W:List (List Addr)):Prop where
 at_:∀ (i:Nat) (c:Cell),U[i]? = some (some c)->∃ v fp,Y[i]? = some (some v)/\W[i]? = some fp/\c_f K H (W.flatten ++ F.O₀) v c fp
 nd:(W.flatten ++ F.O₀).Nodup
 kept:∀ b o,b ∉ F.A₀->F.H₀ b=some o->H b=some o
 new:∀ a ∈ W.flatten,a ∈ F.A₀\/F.H₀ a=none
 live:∀ a ∈ W.flatten ++ F.O₀,∃ o,H a=some o/\Mv o
 len:U.length=Y.length
 lw:W.length=U.length
 io:∀ (i:Nat) (b:Bx),U[i]? = some (some (.own true b))->Y[i]? = some (some (.ref (F.I₀ i)))
def DSt (K:PySem.W.Frag) (F:Fx) (H:Hp) (Y:St) (U:a_r) (O:List Addr):Prop:=∃ W,DStW K F H Y U W/\O=W.flatten ++ F.O₀
theorem d_d {α:Type} {l:List α} {i j:Nat} {x y:α} (e:(l.set i x)[j]? = some y):(j=i/\y=x/\i < l.length)\/(j ≠ i/\l[j]? = some y):=by
 by_cases hj:j=i
 ·subst hj
  have hlt:j < l.length:=by
   have:=(List.getElem?_eq_some_iff.mp e).1
   rwa [List.length_set] at this
  rw [List.getElem?_set_self hlt] at e
  exact .inl ⟨rfl,(Option.some.inj e).symm,hlt⟩
 ·rw [List.getElem?_set_ne (Ne.symm hj)] at e
  exact .inr ⟨hj,e⟩
theorem a_E {α:Type} {W:List (List α)} {i:Nat} {fp:List α} {a:α} (h:a ∈ (W.set i fp).flatten):a ∈ fp\/∃ j l,j ≠ i/\W[j]? = some l/\a ∈ l:=by
 obtain ⟨l,hl,ha⟩:=List.mem_flatten.mp h
 obtain ⟨j,hj⟩:=List.getElem?_of_mem hl
 rcases d_d hj with ⟨_,rfl,_⟩ | ⟨hj',e⟩
 ·exact .inl ha
 ·exact .inr ⟨j,l,hj',e,ha⟩
theorem a_g {α:Type} {W:List (List α)} {j:Nat} {l:List α} {a:α} (h:W[j]? = some l) (ha:a ∈ l):a ∈ W.flatten:=List.mem_flatten.mpr ⟨l,List.mem_of_getElem? h,ha⟩
theorem k_W {α:Type} {W:List (List α)} {i j:Nat} {fp l:List α} {a:α} (hj:j ≠ i) (h:W[j]? = some l) (ha:a ∈ l):a ∈ (W.set i fp).flatten:=a_g (j:=j) (by rw [List.getElem?_set_ne (Ne.symm hj)]; exact h) ha
theorem f_5 {α:Type} {W:List (List α)} {i:Nat} {fp:List α} {a:α} (hi:i < W.length) (ha:a ∈ fp):a ∈ (W.set i fp).flatten:=a_g (j:=i) (List.getElem?_set_self hi) ha
theorem d_D {α:Type}:∀ {W:List (List α)} {i j:Nat} {l m:List α} {a:α},W.flatten.Nodup->W[i]? = some l->W[j]? = some m->i ≠ j->a ∈ l->a ∉ m
 | [],_,_,_,_,_,_,h,_,_,_=>by simp at h
 | w :: W,0,0,_,_,_,_,_,_,hn,_=>absurd rfl hn
 | w :: W,0,j + 1,l,m,a,nd,h1,h2,_,ha=>fun hm=>by
  have e:w=l:=by simpa using h1
  subst e
  rw [List.flatten_cons] at nd
  exact (List.nodup_append.mp nd).2.2 a ha a (a_g (j:=j) (by simpa using h2) hm) rfl
 | w :: W,i + 1,0,l,m,a,nd,h1,h2,_,ha=>fun hm=>by
  have e:w=m:=by simpa using h2
  subst e
  rw [List.flatten_cons] at nd
  exact (List.nodup_append.mp nd).2.2 a hm a (a_g (j:=i) (by simpa using h1) ha) rfl
 | w :: W,i + 1,j + 1,l,m,a,nd,h1,h2,hn,ha=>d_D (W:=W) (i:=i) (j:=j) (by rw [List.flatten_cons] at nd; exact (List.nodup_append.mp nd).2.1) (by simpa using h1) (by simpa using h2) (by omega) ha
theorem e_7 {α:Type} [DecidableEq α]:∀ {W:List (List α)} {i:Nat} {fp O:List α},(W.flatten ++ O).Nodup->fp.Nodup->(∀ a ∈ fp,(∀ j l,j ≠ i->W[j]? = some l->a ∉ l)/\a ∉ O)->((W.set i fp).flatten ++ O).Nodup
 | [],i,fp,O,h,_,_=>by simpa using h
 | w :: W,0,fp,O,h,hf,hd=>by
  rw [List.set_cons_zero,List.flatten_cons,List.append_assoc]
  rw [List.flatten_cons,List.append_assoc] at h
  refine List.nodup_append.mpr ⟨hf,(List.nodup_append.mp h).2.1,fun a ha b hb e=>?_⟩
  subst e
  rcases List.mem_append.mp hb with hb | hb
  ·obtain ⟨l,hl,hal⟩:=List.mem_flatten.mp hb
   obtain ⟨j,hj⟩:=List.getElem?_of_mem hl
   exact (hd a ha).1 (j + 1) l (by omega) (by simpa using hj) hal
  ·exact (hd a ha).2 hb
 | w :: W,i + 1,fp,O,h,hf,hd=>by
  rw [List.set_cons_succ,List.flatten_cons,List.append_assoc]
  rw [List.flatten_cons,List.append_assoc] at h
  obtain ⟨h1,h2,h3⟩:=List.nodup_append.mp h
  have ih:=e_7 (W:=W) (i:=i) (fp:=fp) (O:=O) h2 hf fun a ha=>⟨fun j l hj e=>(hd a ha).1 (j + 1) l (by omega) (by simpa using e),(hd a ha).2⟩
  refine List.nodup_append.mpr ⟨h1,ih,fun a ha b hb e=>?_⟩
  subst e
  rcases List.mem_append.mp hb with hb | hb
  ·rcases a_E hb with hb | ⟨j,l,hj,e,hl⟩
   ·exact (hd a hb).1 0 w (by omega) (by simp) ha
   ·exact h3 a ha a (List.mem_append_left _ (a_g e hl)) rfl
  ·exact h3 a ha a (List.mem_append_right _ hb) rfl
section
variable {K:PySem.W.Frag} {F:Fx} {H H':Hp} {Y:St} {U:a_r} {O O':List Addr} {W:List (List Addr)}
theorem DStW.nofrz (st:DStW K F H Y U W) {b:Addr} (h:b ∈ W.flatten ++ F.O₀) {o:Obj} {u:HO}:H b ≠ some (.frz o u):=fun z=>by
 obtain ⟨o',e,m⟩:=st.live b h
 rw [z] at e; cases e; exact m
theorem DStW.put (st:DStW K F H Y U W) {i:Nat} {v:V} {c:Cell} {fp:List Addr} (hi:i < U.length)
  (keep:∀ j l b,j ≠ i->W[j]? = some l->b ∈ l->H' b=H b) (keepO:∀ b ∈ F.O₀,H' b=H b) (frz:∀ b o,b ∉ W.flatten ++ F.O₀->H b=some o->H' b=some o)
  (nd:fp.Nodup) (ap:∀ a ∈ fp,(∀ j l,j ≠ i->W[j]? = some l->a ∉ l)/\a ∉ F.O₀) (new:∀ a ∈ fp,a ∈ W.flatten\/H a=none) (liv:∀ a ∈ fp,∃ o,H' a=some o/\Mv o)
  (hc:Stp (W.flatten ++ F.O₀) H ((W.set i fp).flatten ++ F.O₀) H'->c_f K H' ((W.set i fp).flatten ++ F.O₀) v c fp) (hio:∀ b,c=.own true b->v=.ref (F.I₀ i)) :
  DStW K F H' (Y.set i (some v)) (U.set i (some c)) (W.set i fp)/\Stp (W.flatten ++ F.O₀) H ((W.set i fp).flatten ++ F.O₀) H':=by
 have stp:Stp (W.flatten ++ F.O₀) H ((W.set i fp).flatten ++ F.O₀) H':=⟨frz,fun a h=>by
  rcases List.mem_append.mp h with h | h
  ·rcases a_E h with h | ⟨j,l,_,e,hl⟩
   ·exact (new a h).imp (List.mem_append_left _) id
   ·exact .inl (List.mem_append_left _ (a_g e hl))
  ·exact .inl (List.mem_append_right _ h)⟩
 have zf:∀ b o u,H b=some (.frz o u)->H' b=some (.frz o u):=fun b o u e=>frz b _ (fun z=>st.nofrz z e) e
 have hiW:i < W.length:=by rw [st.lw]; exact hi
 refine ⟨⟨fun j d e=>?_,e_7 st.nd nd ap,fun b o hA e=>?_,fun a h=>?_,fun a h=>?_,by rw [List.length_set,List.length_set,st.len],by rw [List.length_set,List.length_set,st.lw],fun j b e=>?_⟩,stp⟩
 ·rcases d_d e with ⟨rfl,e1,_⟩ | ⟨hj,e1⟩
  ·cases e1
   exact ⟨v,fp,List.getElem?_set_self (by rw [<-st.len]; exact hi),List.getElem?_set_self hiW,hc stp⟩
  ·obtain ⟨w,l,h1,h2,h3⟩:=st.at_ j d e1
   exact ⟨w,l,by rw [List.getElem?_set_ne (Ne.symm hj)]; exact h1,by rw [List.getElem?_set_ne (Ne.symm hj)]; exact h2,h3.keep stp (fun b hb=>keep j l b hj h2 hb) zf⟩
 ·have e1:=st.kept b o hA e
  by_cases hO:b ∈ F.O₀
  ·rw [keepO b hO]; exact e1
  ·refine frz b o (fun z=>?_) e1
   rcases List.mem_append.mp z with z | z
   ·rcases st.new b z with q | q
    ·exact hA q
    ·rw [q] at e; cases e
   ·exact hO z
 ·rcases a_E h with h | ⟨j,l,_,e,hl⟩
  ·rcases new a h with q | q
   ·exact st.new a q
   ·by_cases hA:a ∈ F.A₀
    ·exact .inl hA
    ·refine .inr ?_
     cases e:F.H₀ a with
     | none=>rfl
     | some o=>rw [st.kept a o hA e] at q; cases q
  ·exact st.new a (a_g e hl)
 ·rcases List.mem_append.mp h with h | h
  ·rcases a_E h with h | ⟨j,l,hj,e,hl⟩
   ·exact liv a h
   ·obtain ⟨o,h1,h2⟩:=st.live a (List.mem_append_left _ (a_g e hl))
    exact ⟨o,by rw [keep j l a hj e hl]; exact h1,h2⟩
  ·obtain ⟨o,h1,h2⟩:=st.live a (List.mem_append_right _ h)
   exact ⟨o,by rw [keepO a h]; exact h1,h2⟩
 ·rcases d_d e with ⟨rfl,e1,_⟩ | ⟨hj,e1⟩
  ·rw [List.getElem?_set_self (by rw [<-st.len]; exact hi),hio b (Option.some.inj e1).symm]
  ·rw [List.getElem?_set_ne (Ne.symm hj)]; exact st.io j b e1
theorem DStW.grow (st:DStW K F H Y U W) (s:e_W H H'):DStW K F H' Y U W where
 at_:=fun i c e=>let ⟨v,fp,h1,h2,h3⟩:=st.at_ i c e; ⟨v,fp,h1,h2,h3.keep (.same s) (fun b hb=>by
  obtain ⟨o,e1,_⟩:=st.live b (List.mem_append_left _ (a_g h2 hb))
  rw [e1]; exact s _ _ e1) fun b o u e=>s _ _ e⟩
 nd:=st.nd
 kept:=fun b o n e=>s b o (st.kept b o n e)
 new:=st.new
 live:=fun a h=>let ⟨o,e,m⟩:=st.live a h; ⟨o,s _ _ e,m⟩
 len:=st.len
 lw:=st.lw
 io:=st.io
theorem DSt.grow (st:DSt K F H Y U O) (s:e_W H H'):DSt K F H' Y U O:=let ⟨W,h,e⟩:=st; ⟨W,h.grow s,e⟩
theorem DSt.nofree (st:DSt K F H Y U O):∀ p,H p=none->p ∉ O:=fun p hp z=>by
 obtain ⟨W,h,rfl⟩:=st
 obtain ⟨o,e,_⟩:=h.live p z
 rw [hp] at e; cases e
theorem DSt.lenE (st:DSt K F H Y U O):U.length=Y.length:=let ⟨_,h,_⟩:=st; h.len
theorem DSt.dat (st:DSt K F H Y U O) {i:Nat} {d:PyData} (e:U[i]? = some (some (.dat d))):∃ v,Y[i]? = some (some v)/\DV (hide O H) v d:=by
 obtain ⟨W,h,rfl⟩:=st
 obtain ⟨v,fp,h1,h2,h3⟩:=h.at_ i _ e
 exact ⟨v,h1,h3⟩
theorem DSt.scr (st:DSt K F H Y U O) {i:Nat} {ns:List Int} (e:U[i]? = some (some (.scr ns))):∃ a,Y[i]? = some (some (.ref a))/\Scr K H a ns:=by
 obtain ⟨W,h,rfl⟩:=st
 obtain ⟨v,fp,h1,h2,a,rfl,h3⟩:=h.at_ i _ e
 exact ⟨a,h1,h3⟩
theorem DSt.set (st:DSt K F H Y U O) {i:Nat} {v:V} {d:PyData} (h:DV (hide O H) v d):DSt K F H (Y.set i (some v)) (U.set i (some (.dat d))) O:=by
 obtain ⟨W,st,rfl⟩:=st
 refine ⟨W,⟨fun j c e=>?_,st.nd,st.kept,st.new,st.live,by rw [List.length_set,List.length_set,st.len],by rw [List.length_set,st.lw],fun j b e=>?_⟩,rfl⟩
 rotate_left
 ·rcases d_d e with ⟨rfl,e1,_⟩ | ⟨hj,e1⟩
  ·cases e1
  ·rw [List.getElem?_set_ne (Ne.symm hj)]; exact st.io j b e1
 rcases d_d e with ⟨rfl,e1,hlt⟩ | ⟨hj,e1⟩
 ·cases e1
  obtain ⟨fp,hfp⟩:∃ fp,W[j]? = some fp:=⟨W[j]'(by rw [st.lw]; exact hlt),List.getElem?_eq_getElem _⟩
  exact ⟨v,fp,List.getElem?_set_self (by rw [<-st.len]; exact hlt),hfp,h⟩
 ·obtain ⟨w,l,h1,h2,h3⟩:=st.at_ j c e1
  exact ⟨w,l,by rw [List.getElem?_set_ne (Ne.symm hj)]; exact h1,h2,h3⟩
theorem DSt.box (st:DSt K F H Y U O) {i:Nat} {io:Bool} {b:Bx} (e:U[i]? = some (some (.own io b))):∃ a fp,Y[i]? = some (some (.ref a))/\g_m (hide O H) H a b fp/\(∀ c ∈ fp,c ∈ O)/\
  ∀ (H':Hp) (b':Bx) (fp':List Addr),(∀ c o,c ∉ fp->H c=some o->H' c=some o)->fp'.Nodup->(∀ c ∈ fp',c ∈ fp\/H c=none)->(∀ G,(∀ O',Stp O H O' H'->G=hide O' H'->(∀ c ∈ fp',c ∈ O')->e_W (hide O H) G/\g_m G H' a b' fp'))->
   ∃ O',DSt K F H' Y (U.set i (some (.own io b'))) O'/\Stp O H O' H'/\(∀ c ∈ O',c ∈ fp'\/c ∈ O):=by
 obtain ⟨W,st,rfl⟩:=st
 obtain ⟨v,fp,h1,h2,a,rfl,h3⟩:=st.at_ i _ e
 have hi:i < U.length:=(List.getElem?_eq_some_iff.mp e).1
 have hiW:i < W.length:=by rw [st.lw]; exact hi
 refine ⟨a,fp,h1,h3,fun c hc=>List.mem_append_left _ (a_g h2 hc),fun H' b' fp' keep nd fr hb=>?_⟩
 have ndW:W.flatten.Nodup:=(List.nodup_append.mp st.nd).1
 have nO:∀ c ∈ fp,c ∉ F.O₀:=fun c hc z=>(List.nodup_append.mp st.nd).2.2 c (a_g h2 hc) c z rfl
 have kj:∀ j l c,j ≠ i->W[j]? = some l->c ∈ l->H' c=H c:=fun j l c hj ej hc=>by
  obtain ⟨o,eo,_⟩:=st.live c (List.mem_append_left _ (a_g ej hc))
  rw [eo]
  exact keep c o (fun z=>d_D ndW ej h2 hj hc z) eo
 have kO:∀ c ∈ F.O₀,H' c=H c:=fun c hc=>by
  obtain ⟨o,eo,_⟩:=st.live c (List.mem_append_right _ hc)
  rw [eo]
  exact keep c o (fun z=>nO c z hc) eo
 have ap:∀ c ∈ fp',(∀ j l,j ≠ i->W[j]? = some l->c ∉ l)/\c ∉ F.O₀:=fun c hc=>by
  rcases fr c hc with q | q
  ·exact ⟨fun j l hj ej z=>d_D ndW h2 ej (Ne.symm hj) q z,nO c q⟩
  ·refine ⟨fun j l _ ej z=>?_,fun z=>?_⟩
   ·obtain ⟨o,eo,_⟩:=st.live c (List.mem_append_left _ (a_g ej z)); rw [q] at eo; cases eo
   ·obtain ⟨o,eo,_⟩:=st.live c (List.mem_append_right _ z); rw [q] at eo; cases eo
 have frz:∀ c o,c ∉ W.flatten ++ F.O₀->H c=some o->H' c=some o:=fun c o hc ec=>keep c o (fun z=>hc (List.mem_append_left _ (a_g h2 z))) ec
 have stp:Stp (W.flatten ++ F.O₀) H ((W.set i fp').flatten ++ F.O₀) H':=⟨frz,fun c h=>by
  rcases List.mem_append.mp h with h | h
  ·rcases a_E h with h | ⟨j,l,_,ej,hl⟩
   ·exact (fr c h).imp (fun z=>List.mem_append_left _ (a_g h2 z)) id
   ·exact .inl (List.mem_append_left _ (a_g ej hl))
  ·exact .inl (List.mem_append_right _ h)⟩
 have inO':∀ c ∈ fp',c ∈ (W.set i fp').flatten ++ F.O₀:=fun c hc=>List.mem_append_left _ (f_5 hiW hc)
 have hbx:=(hb _ _ stp rfl inO').2
 obtain ⟨s1,s2⟩:=st.put (H':=H') (i:=i) (v:=.ref a) (c:=.own io b') (fp:=fp') hi kj kO frz nd ap (fun c hc=>(fr c hc).imp (fun z=>a_g h2 z) id) (fun c hc=>hbx.live c hc) (fun _=>⟨a,rfl,hbx⟩) (fun b2 z=>by cases z; have:=st.io i b e; rw [h1] at this; exact (Option.some.inj (Option.some.inj this)))
 have eY:Y.set i (some (.ref a))=Y:=by
  apply List.ext_getElem?
  intro j
  by_cases hj:j=i
  ·subst hj; rw [List.getElem?_set_self (List.getElem?_eq_some_iff.mp h1).1,h1]
  ·rw [List.getElem?_set_ne (Ne.symm hj)]
 rw [eY] at s1
 refine ⟨_,⟨_,s1,rfl⟩,s2,fun c hc=>?_⟩
 rcases List.mem_append.mp hc with hc | hc
 ·rcases a_E hc with hc | ⟨j,l,_,ej,hl⟩
  ·exact .inl hc
  ·exact .inr (List.mem_append_left _ (a_g ej hl))
 ·exact .inr (List.mem_append_right _ hc)
theorem DSt.freeze (st:DSt K F H Y U O) {i:Nat} {ds:List PyData} (e:U[i]? = some (some (.own false (.l ds)))) :
  ∃ v O',Y[i]? = some (some v)/\DSt K F H Y (U.set i (some (.dat (.list ds)))) O'/\Stp O H O' H/\DV (hide O' H) v (.list ds):=by
 obtain ⟨W,st,rfl⟩:=st
 obtain ⟨v,fp,h1,h2,a,rfl,rfl,xs,h3,h4⟩:=st.at_ i _ e
 have hi:i < U.length:=(List.getElem?_eq_some_iff.mp e).1
 have ndW:W.flatten.Nodup:=(List.nodup_append.mp st.nd).1
 have nin:a ∉ (W.set i []).flatten ++ F.O₀:=fun z=>by
  rcases List.mem_append.mp z with z | z
  ·rcases a_E z with z | ⟨j,l,hj,ej,hl⟩
   ·cases z
   ·exact d_D ndW h2 ej (Ne.symm hj) List.mem_cons_self hl
  ·exact (List.nodup_append.mp st.nd).2.2 a (a_g h2 List.mem_cons_self) a z rfl
 have dv:Stp (W.flatten ++ F.O₀) H ((W.set i []).flatten ++ F.O₀) H->DV (hide ((W.set i []).flatten ++ F.O₀) H) (.ref a) (.list ds):=fun s=>.lst (d_3 h3 nin) (DVs.mono s.hid h4)
 obtain ⟨s1,s2⟩:=st.put (H':=H) (i:=i) (v:=.ref a) (c:=.dat (.list ds)) (fp:=[]) hi (fun _ _ _ _ _ _=>rfl) (fun _ _=>rfl) (fun _ _ _ e=>e) List.nodup_nil (fun a h=>by cases h) (fun a h=>by cases h) (fun a h=>by cases h) (fun s=>dv s) (fun _ z=>by cases z)
 have eY:Y.set i (some (.ref a))=Y:=by
  apply List.ext_getElem?
  intro j
  by_cases hj:j=i
  ·subst hj; rw [List.getElem?_set_self (List.getElem?_eq_some_iff.mp h1).1,h1]
  ·rw [List.getElem?_set_ne (Ne.symm hj)]
 rw [eY] at s1
 exact ⟨_,_,h1,⟨_,s1,rfl⟩,s2,dv s2⟩
end
abbrev DT:=a_r->(PyData->a_r->Prop)->Prop
def Mn (t:DT):Prop:=∀ U Q Q',(∀ d U',Q d U'->Q' d U')->t U Q->t U Q'
def rdE (K:PySem.W.Frag) (F:Fx) (t:DT):TE:=fun Y H Q=>∃ U O,DSt K F H Y U O/\t U fun d U'=>∀ v H' O',DSt K F H' Y U' O'->Stp O H O' H'->DV (hide O' H') v d->Q v H'
structure DE (X:Cx) (F:Fx) (e:Expr) (t:DT):Prop where
 mn:Mn t
 pe:PE X e (rdE X.K F t)
theorem _root_.L2.PE.imp {X:Cx} {e:Expr} {t t':TE} (h:PE X e t) (k:∀ Y H Q,t' Y H Q->t Y H Q):PE X e t':=fun pins s Y H Q I q=>h pins s Y H Q I (k Y H Q q)
theorem _root_.L2.PT.imp {X:Cx} {e:Expr} {t t':TT} (h:PT X e t) (k:∀ Y H Q,t' Y H Q->t Y H Q):PT X e t':=fun pins s Y H Q I q=>h pins s Y H Q I (k Y H Q q)
theorem _root_.L2.PS.imp {X:Cx} {e:Stmt} {t t':TS} (h:PS X e t) (k:∀ D Y H,t' D Y H->t D Y H):PS X e t':=fun pins s Y H D I q=>h pins s Y H D I (k D Y H q)
theorem _root_.L2.PSs.imp {X:Cx} {e:List Stmt} {t t':TS} (h:PSs X e t) (k:∀ D Y H,t' D Y H->t D Y H):PSs X e t':=fun pins s Y H D I q=>h pins s Y H D I (k D Y H q)
section
variable {X:Cx} {F:Fx} {a b e:Expr} {ta tb:DT} {pos:Pos}
def dC (d:PyData):DT:=fun U Q=>Q d U
def dV (i:Nat):DT:=fun U Q=>(∃ d,U[i]? = some (some (.dat d))/\Q d U)\/∃ ds,U[i]? = some (some (.own false (.l ds)))/\Q (.list ds) (U.set i (some (.dat (.list ds))))
theorem y_K {d:PyData}:Mn (dC d):=fun _ _ _ h q=>h _ _ q
theorem f_3 {d:PyData} {v:V} (h:PE X e (tC v)) (hd:∀ H,DV H v d):DE X F e (dC d):=
 ⟨y_K,h.imp fun Y H Q ⟨U,O,st,q⟩=>q v H O st .refl (hd _)⟩
theorem a_b {i j}:DE X F (.Constant (.int i) j pos) (dC (.int i)):=f_3 p_b fun _=>.int i
theorem h_p {i j}:DE X F (.Constant (.bool i) j pos) (dC (.bool i)):=f_3 w_R fun _=>.bl i
theorem c_v {j}:DE X F (.Constant .none j pos) (dC .none):=f_3 q_1 fun _=>.non
theorem a_K {x j}:DE X F (.Constant (.str x) j pos) (dC (.str x)):=f_3 r_g fun _=>.str x
theorem q_U (i:Nat) {x:Str} (h:PE X (.Name x pos) (e_A i)):DE X F (.Name x pos) (dV i):=
 ⟨fun _ _ _ k q=>q.imp (fun ⟨d,e,q⟩=>⟨d,e,k _ _ q⟩) fun ⟨d,e,q⟩=>⟨d,e,k _ _ q⟩,h.imp fun Y H Q ⟨U,O,st,q⟩=>by
  rcases q with ⟨d,e,q⟩ | ⟨ds,e,q⟩
  ·obtain ⟨v,h1,h2⟩:=st.dat e
   exact ⟨v,h1,q v H O st .refl h2⟩
  ·obtain ⟨v,O',h1,h2,h3,h4⟩:=st.freeze e
   exact ⟨v,h1,q v H O' h2 h3 h4⟩⟩
abbrev D2:=PyData->PyData->(PyData->Prop)->Prop
def dOp (f:D2) (ta tb:DT):DT:=fun U Q=>ta U fun x U1=>tb U1 fun y U2=>f x y fun d=>Q d U2
structure Op2 (r:R2) (f:D2):Prop where
 mn:∀ x y Q Q',(∀ d,Q d->Q' d)->f x y Q->f x y Q'
 ok:∀ (O:List Addr) (H:Hp) (u v:V) (x y:PyData) (Q:VK),(∀ p,H p=none->p ∉ O)->DV (hide O H) u x->DV (hide O H) v y->f x y (fun d=>∀ w H',e_W H H'->DV (hide O H') w d->Q w H')->r u v H Q
theorem rd2 {r:R2} {f:D2} {ta tb:DT} (o:Op2 r f) (ha:Mn ta) (hb:Mn tb) {K:PySem.W.Frag}:∀ Y H Q,rdE K F (dOp f ta tb) Y H Q->tOp r (rdE K F ta) (rdE K F tb) Y H Q:=fun Y H Q ⟨U,O,st,q⟩=>by
 refine ⟨U,O,st,ha _ _ _ (fun x U1 q1 v1 H1 O1 st1 s1 d1=>?_) q⟩
 refine ⟨U1,O1,st1,hb _ _ _ (fun y U2 q2 v2 H2 O2 st2 s2 d2=>?_) q1⟩
 refine o.ok O2 H2 v1 v2 x y Q st2.nofree (DV.mono s2.hid d1) d2 (o.mn _ _ _ _ (fun d q3 w H3 s3 d3=>?_) q2)
 exact q3 w H3 O2 (st2.grow s3) (s1.trans (s2.trans (.same s3))) d3
theorem mn2 {r:R2} {f:D2} (o:Op2 r f) (ha:Mn ta) (hb:Mn tb):Mn (dOp f ta tb):=fun _ _ _ k q=>ha _ _ _ (fun _ _ q1=>hb _ _ _ (fun _ _ q2=>o.mn _ _ _ _ (fun _ q3=>k _ _ q3) q2) q1) q
theorem l_T {op:Operator} {r:R2} {f:D2} (ho:OpR X (binaryOp op) r) (o:Op2 r f) (ha:DE X F a ta) (hb:DE X F b tb):DE X F (.BinOp a op b pos) (dOp f ta tb):=
 ⟨mn2 o ha.mn hb.mn,(w_T ho ha.pe hb.pe).imp (rd2 o ha.mn hb.mn)⟩
theorem i_r {op:CmpOp} {r:R2} {f:D2} (ho:OpR X (compareOp op) r) (o:Op2 r f) (ha:DE X F a ta) (hb:DE X F b tb) (hm:behindInMarks op b=false):DE X F (.Compare a [op] [b] pos) (dOp f ta tb):=
 ⟨mn2 o ha.mn hb.mn,(s_h ho ha.pe hb.pe hm).imp (rd2 o ha.mn hb.mn)⟩
theorem w_Q {r:R2} {f:D2} (hr:IxR X r) (o:Op2 r f) (ha:DE X F a ta) (hb:DE X F b tb) (hs:h_7 b):DE X F (.Subscript a b pos) (dOp f ta tb):=
 ⟨mn2 o ha.mn hb.mn,(s_n hr ha.pe hb.pe hs).imp (rd2 o ha.mn hb.mn)⟩
def fI (C:Int->Int->Prop) (g:Int->Int->PyData):D2:=fun x y Q=>∃ i j,x=.int i/\y=.int j/\C i j/\Q (g i j)
theorem s_j {C:Int->Int->Prop} {g:Int->Int->V} {g':Int->Int->PyData} (hg:∀ i j H,DV H (g i j) (g' i j)):Op2 (rI C g) (fI C g') where
 mn:=fun _ _ _ _ k ⟨i,j,e1,e2,c,q⟩=>⟨i,j,e1,e2,c,k _ q⟩
 ok:=fun O H u v x y Q hO h1 h2 ⟨i,j,e1,e2,c,q⟩=>by
  subst e1 e2
  exact ⟨i,j,h1.int_inv,h2.int_inv,c,q _ H (fun _ _ h=>h) (hg i j _)⟩
theorem h_a {g:Int->Int->V} {g':Int->Int->PyData} (hg:∀ i j H,DV H (g i j) (g' i j)):Op2 (rI0 g) (fI (fun _ _=>True) g') where
 mn:=fun _ _ _ _ k ⟨i,j,e1,e2,c,q⟩=>⟨i,j,e1,e2,c,k _ q⟩
 ok:=fun O H u v x y Q hO h1 h2 ⟨i,j,e1,e2,_,q⟩=>by
  subst e1 e2
  exact ⟨i,j,h1.int_inv,h2.int_inv,q _ H (fun _ _ h=>h) (hg i j _)⟩
def fEq (neg:Bool):D2:=fun x y Q=>SeqAt.shaped x=true/\SeqAt.shaped y=true/\Q (.bool (PyData.eqv x y != neg))
theorem v_J {neg:Bool}:Op2 (v_6 neg) (fEq neg) where
 mn:=fun _ _ _ _ k ⟨e1,e2,q⟩=>⟨e1,e2,k _ q⟩
 ok:=fun O H u v x y Q hO h1 h2 ⟨e1,e2,q⟩=>⟨x,y,DV.mono j_S h1,DV.mono j_S h2,e1,e2,q _ H (fun _ _ h=>h) (.bl _)⟩
@[simp] def isNone:PyData->Bool
 | .none=>true
 | _=>false
def fIs:D2:=fun x y Q=>y=.none/\Q (.bool (isNone x))
def o_O:D2:=fun x y Q=>y=.none/\Q (.bool (!isNone x))
theorem q_J {H:Hp} {v:V} {d:PyData} (h:DV H v d):decide (v=.non)=isNone d:=by
 cases h <;> first | rfl | (exact decide_eq_false (fun z=>by cases z))
theorem x_O:Op2 (fun x y H Q=>y=.non/\Q (.bl (decide (x=.non))) H) fIs where
 mn:=fun _ _ _ _ k ⟨e,q⟩=>⟨e,k _ q⟩
 ok:=fun O H u v x y Q hO h1 h2 ⟨e,q⟩=>by
  subst e
  exact ⟨h2.non_inv,by rw [q_J h1]; exact q _ H (fun _ _ h=>h) (.bl _)⟩
theorem o_3:Op2 (fun x y H Q=>y=.non/\Q (.bl (!decide (x=.non))) H) o_O where
 mn:=fun _ _ _ _ k ⟨e,q⟩=>⟨e,k _ q⟩
 ok:=fun O H u v x y Q hO h1 h2 ⟨e,q⟩=>by
  subst e
  exact ⟨h2.non_inv,by rw [q_J h1]; exact q _ H (fun _ _ h=>h) (.bl _)⟩
def y_d:D2:=fun x y Q=>∃ ds i d,x=.tuple ds/\y=.int i/\atI ds i=some d/\Q d
def x_5:D2:=fun x y Q=>∃ ds i d,x=.list ds/\y=.int i/\atI ds i=some d/\Q d
theorem q_4 {H:Hp} {vs:List V} {ds:List PyData} {i:Int} {d:PyData} (h:DVs H vs ds) (e:atI ds i=some d):∃ v,atI vs i=some v/\DV H v d:=by
 unfold atI at e ⊢
 rw [h.length]
 cases q:ixN ds.length i with
 | none=>rw [q] at e; cases e
 | some j=>
  rw [q] at e
  exact h.get e
theorem u_4 {K:PySem.W.Frag}:Op2 (w_6 K) y_d where
 mn:=fun _ _ _ _ k ⟨ds,i,d,e1,e2,e3,q⟩=>⟨ds,i,d,e1,e2,e3,k _ q⟩
 ok:=fun O H u v x y Q hO h1 h2 ⟨ds,i,d,e1,e2,e3,q⟩=>by
  subst e1 e2
  obtain ⟨a,xs,rfl,ha,hd⟩:=h1.tup_inv
  obtain ⟨w,ew,hw⟩:=q_4 hd e3
  exact ⟨a,xs,i,w,rfl,h2.int_inv,.of (a_F ha).1,ew,q w H (fun _ _ h=>h) hw⟩
theorem t_1 {K:PySem.W.Frag}:Op2 (w_C K) x_5 where
 mn:=fun _ _ _ _ k ⟨ds,i,d,e1,e2,e3,q⟩=>⟨ds,i,d,e1,e2,e3,k _ q⟩
 ok:=fun O H u v x y Q hO h1 h2 ⟨ds,i,d,e1,e2,e3,q⟩=>by
  subst e1 e2
  obtain ⟨a,xs,rfl,ha,hd⟩:=h1.lst_inv
  obtain ⟨w,ew,hw⟩:=q_4 hd e3
  exact ⟨a,xs,i,w,rfl,h2.int_inv,.of (a_F ha).1,ew,q w H (fun _ _ h=>h) hw⟩
theorem c_H {O:List Addr} {H:Hp} {p:Addr} {xs:List V} {ds:List PyData} (hp:H p=none) (hO:p ∉ O) (h:DVs (hide O H) xs ds):DV (hide O (upd H p (.lst xs))) (.ref p) (.list ds):=
 .lst (d_3 a_A hO) (DVs.mono (e_a (a_n hp)) h)
theorem d_q {O:List Addr} {H:Hp} {p:Addr} {xs:List V} {ds:List PyData} (hp:H p=none) (hO:p ∉ O) (h:DVs (hide O H) xs ds):DV (hide O (upd H p (.tup xs))) (.ref p) (.tuple ds):=
 .tup (d_3 a_A hO) (DVs.mono (e_a (a_n hp)) h)
def r_A:D2:=fun x y Q=>∃ ds es,x=.list ds/\y=.list es/\ds.length + es.length<=sizeLine/\Q (.list (ds ++ es))
theorem u_x:Op2 y_b r_A where
 mn:=fun _ _ _ _ k ⟨ds,es,e1,e2,e3,q⟩=>⟨ds,es,e1,e2,e3,k _ q⟩
 ok:=fun O H u v x y Q hO h1 h2 ⟨ds,es,e1,e2,e3,q⟩=>by
  subst e1 e2
  obtain ⟨a,xs,rfl,ha,hd⟩:=h1.lst_inv
  obtain ⟨b,ys,rfl,hb,he⟩:=h2.lst_inv
  refine ⟨a,b,xs,ys,rfl,rfl,(a_F ha).1,(a_F hb).1,by rw [hd.length,he.length]; exact e3,fun p hp=>q _ _ (a_n hp) (c_H hp (hO p hp) (hd.append he))⟩
end
theorem ofT {A B:Prop} (h:if true=true then A else B):A:=by rw [if_pos rfl] at h; exact h
theorem ofF {A B:Prop} (h:if false=true then A else B):B:=by rw [if_neg Bool.false_ne_true] at h; exact h
abbrev DTA:=a_r->(List PyData->a_r->Prop)->Prop
def MnA (t:DTA):Prop:=∀ U Q Q',(∀ d U',Q d U'->Q' d U')->t U Q->t U Q'
def rdA (K:PySem.W.Frag) (F:Fx) (t:DTA):TA:=fun Y H Q=>∃ U O,DSt K F H Y U O/\t U fun ds U'=>∀ vs H' O',DSt K F H' Y U' O'->Stp O H O' H'->DVs (hide O' H') vs ds->Q vs H'
structure DA (X:Cx) (F:Fx) (es:List Expr) (t:DTA):Prop where
 mn:MnA t
 pa:PA X es (rdA X.K F t)
theorem _root_.L2.PA.imp {X:Cx} {e:List Expr} {t t':TA} (h:PA X e t) (k:∀ Y H Q,t' Y H Q->t Y H Q):PA X e t':=fun pos pins s Y H Q I q=>h pos pins s Y H Q I (k Y H Q q)
section
variable {X:Cx} {F:Fx} {a b e c:Expr} {es:List Expr} {ta tb tc:DT} {tA:DTA} {pos:Pos}
def z_b:DTA:=fun U Q=>Q [] U
def w_7 (ta:DT) (tr:DTA):DTA:=fun U Q=>ta U fun d U1=>tr U1 fun ds U2=>Q (d :: ds) U2
theorem t_C:DA X F [] z_b:=⟨fun _ _ _ k q=>k _ _ q,c_w.imp fun Y H Q ⟨U,O,st,q⟩=>q [] H O st .refl .nil⟩
theorem s_X (ha:DE X F e ta) (hr:DA X F es tA) (hs:starEach (e :: es) X.env=(false,eval e X.env) :: starEach es X.env:=by rfl):DA X F (e :: es) (w_7 ta tA):=
 ⟨fun _ _ _ k q=>ha.mn _ _ _ (fun _ _ q1=>hr.mn _ _ _ (fun _ _ q2=>k _ _ q2) q1) q,(b_e ha.pe hr.pa hs).imp fun Y H Q ⟨U,O,st,q⟩=>
  ⟨U,O,st,ha.mn _ _ _ (fun d U1 q1 v H1 O1 st1 s1 d1=>⟨U1,O1,st1,hr.mn _ _ _ (fun ds U2 q2 vs H2 O2 st2 s2 d2=>q2 (v :: vs) H2 O2 st2 (s1.trans s2) (.cons (DV.mono s2.hid d1) d2)) q1⟩) q⟩⟩
def y_p (t:DTA):DT:=fun U Q=>t U fun ds U'=>ds.length<=sizeLine/\Q (.tuple ds) U'
def y_t (t:DTA):DT:=fun U Q=>t U fun ds U'=>ds.length<=sizeLine/\Q (.list ds) U'
theorem u_f {x1} (h:DA X F es tA):DE X F (.Tuple es x1 pos) (y_p tA):=
 ⟨fun _ _ _ k q=>h.mn _ _ _ (fun _ _ q1=>⟨q1.1,k _ _ q1.2⟩) q,(q_P h.pa).imp fun Y H Q ⟨U,O,st,q⟩=>
  ⟨U,O,st,h.mn _ _ _ (fun ds U1 q1 vs H1 O1 st1 s1 d1=>⟨by rw [d1.length]; exact q1.1,fun p hp=>q1.2 _ _ O1 (st1.grow (a_n hp)) (s1.trans (.same (a_n hp))) (d_q hp (st1.nofree p hp) d1)⟩) q⟩⟩
theorem u_9 (h:DA X F es tA):DE X F (.List es pos) (y_t tA):=
 ⟨fun _ _ _ k q=>h.mn _ _ _ (fun _ _ q1=>⟨q1.1,k _ _ q1.2⟩) q,(l_9 h.pa).imp fun Y H Q ⟨U,O,st,q⟩=>
  ⟨U,O,st,h.mn _ _ _ (fun ds U1 q1 vs H1 O1 st1 s1 d1=>⟨by rw [d1.length]; exact q1.1,fun p hp=>q1.2 _ _ O1 (st1.grow (a_n hp)) (s1.trans (.same (a_n hp))) (c_H hp (st1.nofree p hp) d1)⟩) q⟩⟩
def y_7 (ta:DT):DT:=fun U Q=>ta U fun d U'=>∃ i,d=.int i/\Q (.int (-i)) U'
theorem u_X (ha:DE X F a ta):DE X F (.UnaryOp .USub a pos) (y_7 ta):=
 ⟨fun _ _ _ k q=>ha.mn _ _ _ (fun _ _ ⟨i,e,q⟩=>⟨i,e,k _ _ q⟩) q,(v_S u_2 ha.pe).imp fun Y H Q ⟨U,O,st,q⟩=>
  ⟨U,O,st,ha.mn _ _ _ (fun d U1 ⟨i,e,q1⟩ v H1 O1 st1 s1 d1=>by subst e; exact ⟨i,d1.int_inv,q1 _ H1 O1 st1 s1 (.int _)⟩) q⟩⟩
def y_H (ta:DT):DT:=fun U Q=>ta U fun d U'=>∃ b,d=.bool b/\Q (.bool (!b)) U'
theorem t_z (ha:DE X F a ta):DE X F (.UnaryOp .Not a pos) (y_H ta):=
 ⟨fun _ _ _ k q=>ha.mn _ _ _ (fun _ _ ⟨i,e,q⟩=>⟨i,e,k _ _ q⟩) q,(u_R ha.pe).imp fun Y H Q ⟨U,O,st,q⟩=>
  ⟨U,O,st,ha.mn _ _ _ (fun d U1 ⟨i,e,q1⟩ v H1 O1 st1 s1 d1=>by subst e; exact ⟨i,d1.bl_inv,q1 _ H1 O1 st1 s1 (.bl _)⟩) q⟩⟩
def y_1 (ta tb:DT):DT:=fun U Q=>ta U fun d U1=>∃ b,d=.bool b/\if b=true then tb U1 Q else Q (.bool false) U1
def dOr (ta tb:DT):DT:=fun U Q=>ta U fun d U1=>∃ b,d=.bool b/\if b=true then Q (.bool true) U1 else tb U1 Q
theorem t_X {op} (h:DE X F a ta):DE X F (.BoolOp op [a] pos) ta:=⟨h.mn,u_h h.pe⟩
theorem u_L {rest:List Expr} (ha:DE X F a ta) (hb:DE X F (.BoolOp .And (b :: rest) pos) tb):DE X F (.BoolOp .And (a :: b :: rest) pos) (y_1 ta tb):=
 ⟨fun _ _ _ k q=>ha.mn _ _ _ (fun _ _ ⟨i,e,q⟩=>⟨i,e,by cases i <;> first | exact k _ _ q | exact hb.mn _ _ _ k q⟩) q,(v_r ha.pe hb.pe).imp fun Y H Q ⟨U,O,st,q⟩=>
  ⟨U,O,st,ha.mn _ _ _ (fun d U1 ⟨i,e,q1⟩ v H1 O1 st1 s1 d1=>by
   subst e
   refine ⟨i,d1.bl_inv,?_⟩
   cases i with
   | true=>exact j_6 ⟨U1,O1,st1,hb.mn _ _ _ (fun d U2 q2 w H2 O2 st2 s2 d2=>q2 w H2 O2 st2 (s1.trans s2) d2) (ofT q1)⟩
   | false=>exact j_7 (ofF q1 _ H1 O1 st1 s1 (.bl _))) q⟩⟩
theorem w_3 {rest:List Expr} (ha:DE X F a ta) (hb:DE X F (.BoolOp .Or (b :: rest) pos) tb):DE X F (.BoolOp .Or (a :: b :: rest) pos) (dOr ta tb):=
 ⟨fun _ _ _ k q=>ha.mn _ _ _ (fun _ _ ⟨i,e,q⟩=>⟨i,e,by cases i <;> first | exact k _ _ q | exact hb.mn _ _ _ k q⟩) q,(w_E ha.pe hb.pe).imp fun Y H Q ⟨U,O,st,q⟩=>
  ⟨U,O,st,ha.mn _ _ _ (fun d U1 ⟨i,e,q1⟩ v H1 O1 st1 s1 d1=>by
   subst e
   refine ⟨i,d1.bl_inv,?_⟩
   cases i with
   | false=>exact j_7 ⟨U1,O1,st1,hb.mn _ _ _ (fun d U2 q2 w H2 O2 st2 s2 d2=>q2 w H2 O2 st2 (s1.trans s2) d2) (ofF q1)⟩
   | true=>exact j_6 (ofT q1 _ H1 O1 st1 s1 (.bl _))) q⟩⟩
def o_j (p p':Int->Int->Bool) (ta tb tc:DT):DT:=fun U Q=>ta U fun x U1=>tb U1 fun y U2=>∃ i j,x=.int i/\y=.int j/\if p i j=true then tc U2 (fun z U3=>∃ k,z=.int k/\Q (.bool (p' j k)) U3) else Q (.bool false) U2
theorem p_w {op op':CmpOp} {p p':Int->Int->Bool} (ho:OpR X (compareOp op) (rI0 fun i j=>.bl (p i j))) (ho':OpR X (compareOp op') (rI0 fun i j=>.bl (p' i j))) (ha:DE X F a ta) (hb:DE X F b tb) (hc:DE X F c tc)
  (hm:lastMarks [op,op'] [b,c]=false:=by with_unfolding_all rfl):DE X F (.Compare a [op,op'] [b,c] pos) (o_j p p' ta tb tc):=
 ⟨fun _ _ _ k q=>ha.mn _ _ _ (fun _ _ q1=>hb.mn _ _ _ (fun _ _ ⟨i,j,e1,e2,q2⟩=>⟨i,j,e1,e2,by
   by_cases h:p i j=true
   ·rw [if_pos h] at q2 ⊢; exact hc.mn _ _ _ (fun _ _ ⟨l,e,q3⟩=>⟨l,e,k _ _ q3⟩) q2
   ·rw [if_neg h] at q2 ⊢; exact k _ _ q2⟩) q1) q,
  (p_W ho ho' ha.pe hb.pe hc.pe hm).imp fun Y H Q ⟨U,O,st,q⟩=>
  ⟨U,O,st,ha.mn _ _ _ (fun x U1 q1 v H1 O1 st1 s1 d1=>⟨U1,O1,st1,hb.mn _ _ _ (fun y U2 ⟨i,j,e1,e2,q2⟩ w H2 O2 st2 s2 d2=>by
   subst e1 e2
   refine ⟨i,j,(DV.mono s2.hid d1).int_inv,d2.int_inv,p i j,rfl,?_⟩
   by_cases h:p i j=true
   ·rw [if_pos h] at q2 ⊢
    exact ⟨U2,O2,st2,hc.mn _ _ _ (fun z U3 ⟨l,e,q3⟩ u H3 O3 st3 s3 d3=>by subst e; exact ⟨j,l,(DV.mono s3.hid d2).int_inv,d3.int_inv,q3 _ H3 O3 st3 (s1.trans (s2.trans s3)) (.bl _)⟩) q2⟩
   ·rw [if_neg h] at q2 ⊢
    exact q2 _ H2 O2 st2 (s1.trans s2) (.bl _)) q1⟩) q⟩⟩
end
abbrev DTT:=a_r->(Bool->a_r->Prop)->Prop
def MnT (t:DTT):Prop:=∀ U Q Q',(∀ d U',Q d U'->Q' d U')->t U Q->t U Q'
def rdT (K:PySem.W.Frag) (F:Fx) (t:DTT):TT:=fun Y H Q=>∃ U O,DSt K F H Y U O/\t U fun b U'=>∀ H' O',DSt K F H' Y U' O'->Stp O H O' H'->Q b H'
structure DB (X:Cx) (F:Fx) (e:Expr) (t:DTT):Prop where
 mn:MnT t
 pt:PT X e (rdT X.K F t)
section
variable {X:Cx} {F:Fx} {a b e c:Expr} {ta tb tc:DT} {tA tB:DTT} {pos:Pos}
def l_r (ta:DT):DTT:=fun U Q=>ta U fun d U'=>∃ b,d=.bool b/\Q b U'
theorem q_3 (h:Mn ta):MnT (l_r ta):=fun _ _ _ k q=>h _ _ _ (fun _ _ ⟨b,e,q1⟩=>⟨b,e,k _ _ q1⟩) q
theorem q_Y {K:PySem.W.Frag} (h:Mn ta):∀ Y H Q,rdT K F (l_r ta) Y H Q->rdE K F ta Y H fun x H'=>∃ k,x=.bl k/\Q k H':=fun Y H Q ⟨U,O,st,q⟩=>
 ⟨U,O,st,h _ _ _ (fun d U1 ⟨b,e,q1⟩ v H1 O1 st1 s1 d1=>by subst e; exact ⟨b,d1.bl_inv,q1 H1 O1 st1 s1⟩) q⟩
theorem b_O (h:DE X F e ta) (he:∀ whole,isTrue e X.env whole=(do let v <-whole; standAt e.pos; holding [v] (truthy v)):=by intro _; rfl):DB X F e (l_r ta):=⟨q_3 h.mn,(u_8 h.pe he).imp (q_Y h.mn)⟩
theorem h_i {op:CmpOp} {r:R2} {f:D2} (ho:OpR X (compareOp op) r) (o:Op2 r f) (ha:DE X F a ta) (hb:DE X F b tb) (hm:behindInMarks op b=false):DB X F (.Compare a [op] [b] pos) (l_r (dOp f ta tb)):=
 ⟨q_3 (mn2 o ha.mn hb.mn),(o_5 ho ha.pe hb.pe hm).imp fun Y H Q q=>rd2 o ha.mn hb.mn Y H _ (q_Y (mn2 o ha.mn hb.mn) Y H Q q)⟩
def y_n (t:DTT):DTT:=fun U Q=>t U fun b U'=>Q (!b) U'
theorem v_i (h:DB X F a tA):DB X F (.UnaryOp .Not a pos) (y_n tA):=⟨fun _ _ _ k q=>h.mn _ _ _ (fun _ _ q=>k _ _ q) q,(t_H h.pt).imp fun Y H Q ⟨U,O,st,q⟩=>⟨U,O,st,h.mn _ _ _ (fun b U1 q1 H1 O1 st1 s1=>q1 H1 O1 st1 s1) q⟩⟩
structure DW (X:Cx) (F:Fx) (e:Expr) (t:DTT):Prop where
 mn:MnT t
 pw:PW X e (rdT X.K F t)
theorem _root_.L2.PW.imp {X:Cx} {e:Expr} {t t':TT} (h:PW X e t) (k:∀ Y H Q,t' Y H Q->t Y H Q):PW X e t':=fun wh pins s Y H Q I q=>h wh pins s Y H Q I (k Y H Q q)
theorem DW.db {t:DTT} (h:DW X F e t):DB X F e t:=⟨h.mn,h.pw.pt⟩
def y_U (t u:DTT):DTT:=fun U Q=>t U fun b U1=>if b=true then u U1 Q else Q false U1
def bOr (t u:DTT):DTT:=fun U Q=>t U fun b U1=>if b=true then Q true U1 else u U1 Q
theorem r_N (h:DB X F a tA):DW X F (.BoolOp .And [a] pos) tA:=⟨h.mn,s_M h.pt⟩
theorem t_p (h:DB X F a tA):DW X F (.BoolOp .Or [a] pos) tA:=⟨h.mn,u_G h.pt⟩
theorem t_K {rest:List Expr} (ha:DB X F a tA) (hb:DW X F (.BoolOp .And (b :: rest) pos) tB):DW X F (.BoolOp .And (a :: b :: rest) pos) (y_U tA tB):=
 ⟨fun _ _ _ k q=>ha.mn _ _ _ (fun b _ q=>by cases b <;> first | exact k _ _ q | exact hb.mn _ _ _ k q) q,(v_w ha.pt hb.pw).imp fun Y H Q ⟨U,O,st,q⟩=>
  ⟨U,O,st,ha.mn _ _ _ (fun b U1 q1 H1 O1 st1 s1=>by
   cases b with
   | true=>exact j_6 ⟨U1,O1,st1,hb.mn _ _ _ (fun b U2 q2 H2 O2 st2 s2=>q2 H2 O2 st2 (s1.trans s2)) (ofT q1)⟩
   | false=>exact j_7 (ofF q1 H1 O1 st1 s1)) q⟩⟩
theorem w_k {rest:List Expr} (ha:DB X F a tA) (hb:DW X F (.BoolOp .Or (b :: rest) pos) tB):DW X F (.BoolOp .Or (a :: b :: rest) pos) (bOr tA tB):=
 ⟨fun _ _ _ k q=>ha.mn _ _ _ (fun b _ q=>by cases b <;> first | exact k _ _ q | exact hb.mn _ _ _ k q) q,(w_z ha.pt hb.pw).imp fun Y H Q ⟨U,O,st,q⟩=>
  ⟨U,O,st,ha.mn _ _ _ (fun b U1 q1 H1 O1 st1 s1=>by
   cases b with
   | false=>exact j_7 ⟨U1,O1,st1,hb.mn _ _ _ (fun b U2 q2 H2 O2 st2 s2=>q2 H2 O2 st2 (s1.trans s2)) (ofF q1)⟩
   | true=>exact j_6 (ofT q1 H1 O1 st1 s1)) q⟩⟩
def dIf (t:DTT) (ta tb:DT):DT:=fun U Q=>t U fun b U1=>if b=true then ta U1 Q else tb U1 Q
theorem w_r (hc:DB X F c tA) (ha:DE X F a ta) (hb:DE X F b tb):DE X F (.IfExp c a b pos) (dIf tA ta tb):=
 ⟨fun _ _ _ k q=>hc.mn _ _ _ (fun b _ q=>by cases b <;> first | exact ha.mn _ _ _ k q | exact hb.mn _ _ _ k q) q,(q_a hc.pt ha.pe hb.pe).imp fun Y H Q ⟨U,O,st,q⟩=>
  ⟨U,O,st,hc.mn _ _ _ (fun b U1 q1 H1 O1 st1 s1=>by
   cases b with
   | true=>exact j_6 ⟨U1,O1,st1,ha.mn _ _ _ (fun d U2 q2 v H2 O2 st2 s2 d2=>q2 v H2 O2 st2 (s1.trans s2) d2) (ofT q1)⟩
   | false=>exact j_7 ⟨U1,O1,st1,hb.mn _ _ _ (fun d U2 q2 v H2 O2 st2 s2 d2=>q2 v H2 O2 st2 (s1.trans s2) d2) (ofF q1)⟩) q⟩⟩
end
abbrev DN:=List PyData->(PyData->Prop)->Prop
structure OpN (r:List V->Hp->VK->Prop) (f:DN):Prop where
 mn:∀ xs Q Q',(∀ d,Q d->Q' d)->f xs Q->f xs Q'
 ok:∀ (O:List Addr) (H:Hp) (vs:List V) (xs:List PyData) (Q:VK),(∀ p,H p=none->p ∉ O)->DVs (hide O H) vs xs->f xs (fun d=>∀ w H',e_W H H'->DV (hide O H') w d->Q w H')->r vs H Q
def dCB (f:DN) (t:DTA):DT:=fun U Q=>t U fun ds U'=>f ds fun d=>Q d U'
section
variable {X:Cx} {F:Fx} {e:Expr} {es:List Expr} {tA:DTA} {pos p:Pos} {x:Str} {id T:String} {r:List V->Hp->VK->Prop} {f:DN}
theorem rdN {K:PySem.W.Frag} (o:OpN r f) (h:MnA tA):∀ Y H Q,rdE K F (dCB f tA) Y H Q->tCB r (rdA K F tA) Y H Q:=fun Y H Q ⟨U,O,st,q⟩=>
 ⟨U,O,st,h _ _ _ (fun ds U1 q1 vs H1 O1 st1 s1 d1=>o.ok O1 H1 vs ds Q st1.nofree d1 (o.mn _ _ _ (fun d q2 w H2 s2 d2=>q2 w H2 O1 (st1.grow s2) (s1.trans (.same s2)) d2) q1)) q⟩
theorem mnN (o:OpN r f) (h:MnA tA):Mn (dCB f tA):=fun _ _ _ k q=>h _ _ _ (fun _ _ q1=>o.mn _ _ _ (fun _ q2=>k _ _ q2) q1) q
theorem c_Y (hc:h_2 X (.builtin id) r) (o:OpN r f) (hg:Gl X x) (hm:X.mg x=none) (hv:bootBuiltins x=some (.builtin id)) (ha:DA X F (e :: es) tA) (hn:x ≠ "__name__":=by decide) (hdb:(x == ("__debug__":Str))=false:=by decide)
  (he:starEach (e :: es) X.env=(false,eval e X.env) :: starEach es X.env:=by rfl) (hpl:(backTo pos (starEach es X.env)).any (·.1)=false:=by rfl):DE X F (.Call (.Name x p) (e :: es) [] pos) (dCB f tA):=
 ⟨mnN o ha.mn,(f_v hc hg hm hv ha.pa hn hdb he hpl).imp (rdN o ha.mn)⟩
theorem k_P (hc:h_2 X (.type T) r) (o:OpN r f) (hg:Gl X x) (hm:X.mg x=none) (hv:bootBuiltins x=some (.type T)) (ha:DA X F (e :: es) tA) (hn:x ≠ "__name__":=by decide) (hdb:(x == ("__debug__":Str))=false:=by decide)
  (he:starEach (e :: es) X.env=(false,eval e X.env) :: starEach es X.env:=by rfl) (hpl:(backTo pos (starEach es X.env)).any (·.1)=false:=by rfl):DE X F (.Call (.Name x p) (e :: es) [] pos) (dCB f tA):=
 ⟨mnN o ha.mn,(h_8 hc hg hm hv ha.pa hn hdb he hpl).imp (rdN o ha.mn)⟩
end
def y_j (n:String) (ta:DT):DT:=fun U Q=>ta U fun d U'=>∃ b,(∀ K:PySem.W.Frag,kitOne K (.type (p_9 d)) (.type n)=some b)/\Q (.bool b) U'
section
variable {X:Cx} {F:Fx} {e:Expr} {ta:DT} {pos p p2:Pos} {T:String} {x:Str}
theorem c_8 (hg:Gl X "isinstance") (hm:X.mg "isinstance" = none) (h:DE X F e ta) (ht:PE X (.Name x p2) (tC (.ty T)))
  (he:starEach [e,.Name x p2] X.env=(false,eval e X.env) :: starEach [.Name x p2] X.env:=by rfl) (he2:starEach [.Name x p2] X.env=(false,eval (.Name x p2) X.env) :: starEach [] X.env:=by rfl) (hpl:(backTo pos (starEach [.Name x p2] X.env)).any (·.1)=false:=by rfl) :
  DE X F (.Call (.Name "isinstance" p) [e,.Name x p2] [] pos) (y_j T ta):=
 ⟨fun _ _ _ k q=>h.mn _ _ _ (fun _ _ ⟨b,e,q⟩=>⟨b,e,k _ _ q⟩) q,
  (f_v l_6 hg hm (show bootBuiltins "isinstance" = some (.builtin "isinstance") by decide +kernel) (b_e h.pe (b_e ht c_w he2) he) (by decide) (by decide) he hpl).imp fun Y H Q ⟨U,O,st,q⟩=>
  ⟨U,O,st,h.mn _ _ _ (fun d U1 ⟨b,e,q1⟩ v H1 O1 st1 s1 d1=>⟨v,d,T,b,rfl,DV.mono j_S d1,e,q1 _ H1 O1 st1 s1 (.bl b)⟩) q⟩⟩
end
structure ExS (g:Heap) (H:Hp) (h:Heap) (a:Addr) (C:Value) (fl:Option Value):Prop where
 gh:∀ b o,g.get? b=some o->∃ o',h.get? b=some o'
 lo:g.get? a=none
 un:H a=none
 ob:∃ oe vs a0,h.get? a=some oe/\oe.cls=C/\oe.data=.fields vs/\vs[0]? = some a0/\
  ((fl=none/\vs[1]? = some .none)\/∃ T oT ts f,fl=some f/\vs[1]? = some (.ref T)/\g.get? T=none/\H T=none/\T ≠ a/\h.get? T=some oT/\oT.data=.fields ts/\ts[3]? = some f)
structure Ch (g:Heap) (H:Hp) (fs:List Addr) (h h':Heap):Prop where
 keep:∀ b o,h.get? b=some o->((∃ o',g.get? b=some o')\/H b ≠ none)->b ∉ fs->h'.get? b=some o
 slot:∀ b o,b ∈ fs->h.get? b=some o->∃ sl,h'.get? b=some { o with slots:=sl }
 there:∀ b o,h.get? b=some o->∃ o',h'.get? b=some o'
theorem Ch.refl {g:Heap} {H:Hp} {fs:List Addr} {h:Heap}:Ch g H fs h h:=⟨fun _ _ e _ _=>e,fun b o _ e=>⟨o.slots,e⟩,fun b o e=>⟨o,e⟩⟩
theorem Ch.trans {g:Heap} {H:Hp} {fs:List Addr} {h h1 h2:Heap} (x:Ch g H fs h h1) (y:Ch g H fs h1 h2):Ch g H fs h h2 where
 keep:=fun b o e q n=>y.keep b o (x.keep b o e q n) q n
 slot:=fun b o m e=>let ⟨_,e1⟩:=x.slot b o m e; let ⟨sl,e2⟩:=y.slot b _ m e1; ⟨sl,e2⟩
 there:=fun b o e=>let ⟨o1,e1⟩:=x.there b o e; y.there b o1 e1
theorem HOk.some_of {P:Program} {w:World} {H:Hp} {h:Heap} (k:HOk P w H h) {b:Addr} (e:h.get? b=none):H b=none:=by
 cases q:H b with
 | none=>rfl
 | some u=>
  exfalso
  have x:=k b u q
  have:∀ (u:HO),b_6 P w H h b u->∃ o,h.get? b=some o:=by
   intro u
   induction u with
   | lst xs=>exact fun ⟨_,_,_,_,e⟩=>⟨_,e⟩
   | tup xs=>exact fun ⟨_,_,_,o,e,_⟩=>⟨_,e⟩
   | dK kvs=>exact fun ⟨_,_,_,_,o,_,_,e,_⟩=>⟨_,e⟩
   | dT kvs=>exact fun ⟨_,_,_,_,o,_,_,e,_⟩=>⟨_,e⟩
   | set S n=>exact fun ⟨o,_,_,_,e,_⟩=>⟨_,e⟩
   | ins C dx fs=>exact fun ⟨_,_,_,e,_⟩=>⟨_,e⟩
   | own y=>exact fun ⟨_,e⟩=>⟨_,e⟩
   | xd fs=>exact fun ⟨_,⟨_,_,_,e,_⟩,_⟩=>⟨_,e⟩
   | rng lo hi=>exact fun ⟨_,_,_,e⟩=>⟨_,e⟩
   | frz ob u _=>exact fun ⟨e,_⟩=>⟨_,e⟩
   | tbl ps=>exact fun e=>⟨_,e⟩
   | met f y=>exact fun e=>⟨_,e⟩
   | ext φ=>exact fun ⟨_,⟨_,e⟩,_⟩=>⟨_,e⟩
  obtain ⟨o,eo⟩:=this u x
  rw [e] at eo; cases eo
theorem g_c {h base base':Heap}:∀ {l:List Env},(∀ b ∈ frs l,base'.get? b=none)->h.FunFrames base l->h.FunFrames base' l
 | [],_,_=>trivial
 | env :: r,hb,⟨hk,⟨L,o,hf,_,ho,hd⟩,hr⟩=>by
  have e:frs (env :: r)=L :: frs r:=by unfold frs; rw [List.filterMap_cons,hf]
  exact ⟨hk,⟨L,o,hf,hb L (by rw [e]; exact List.mem_cons_self),ho,hd⟩,g_c (fun b h=>hb b (by rw [e]; exact List.mem_cons_of_mem _ h)) hr⟩
section
variable {P:Program} {w:World} {M:Model} {A:Around} {E:Value->Shared->Prop} {s:Shared} {g base:Heap} {H:Hp} {env:Env} {outer:List Env} {L a:Addr} {C fv:Value} {fl:Option Value}
theorem k_c {oe:Obj} {vs:Array Value} {head a0:Value} {hadNext:Bool} {Q:Unit->Shared->Prop} (hfr:A.frames=some (env :: outer)) (hl:s.heap.FunFrames base (env :: outer)) (hf:env.frame=some L) (hk:∀ b,s.heap.get? b=none->H b=none)
  (gh:∀ b o,g.get? b=some o->∃ o',s.heap.get? b=some o') (lo:g.get? a=none) (un:H a=none) (he:s.heap.get? a=some oe) (hc:oe.cls=C) (hd:oe.data=.fields vs) (hsz:1 < vs.size) (h0:vs[0]? = some a0)
  (h:∀ h',Ch g H (frs (env :: outer)) s.heap h'->ExS g H h' a C (some (rawInt L))->Q () { s with heap:=h' }) :
  wpAny M A (do let x <-frameOf env; let pl <-entryPlaceOf L hadNext; let b <-EntryCells.newEntry head x .none (rawInt L) .none pl; setField (.ref a) 1 b) Q E s:=by
 refine wpAny_entryW (base:=PySem.W.hideAll s.heap (a :: frs (env :: outer))) hfr (g_c (fun b hb=>PySem.W.hideAll_none _ (List.mem_cons_of_mem _ hb)) hl) hf he (fun b o e=>PySem.W.of_hideAll _ e) (PySem.W.hideAll_none _ List.mem_cons_self) hd hsz h0 fun h' ⟨k1,k2,k3,k4⟩=>?_
 obtain ⟨oe',vs',T,oT,ts,e1,⟨e2,e20⟩,e3,e4,e5,e6,e7,e8,e9⟩:=k3
 have sl:∀ b o,b ∈ frs (env :: outer)->s.heap.get? b=some o->∃ sl,h'.get? b=some { o with slots:=sl }:=fun b o hb e=>by
  obtain ⟨_,o',e',nf⟩:=hl.mem hb
  rw [e] at e'; cases e'
  exact k4 b o e nf
 have kp:∀ b o,s.heap.get? b=some o->b ≠ a->b ∉ frs (env :: outer)->h'.get? b=some o:=fun b o e n1 n2=>k1 b o (PySem.W.hideAll_get _ e fun z=>(List.mem_cons.mp z).elim n1 n2)
 have hT:g.get? T=none/\H T=none:=by
  cases q:s.heap.get? T with
  | some o=>
   exfalso
   by_cases hfT:T ∈ frs (env :: outer)
   ·obtain ⟨_,o',e',nf⟩:=hl.mem hfT
    rw [q] at e'; cases e'
    obtain ⟨sl',e''⟩:=sl T o hfT q
    rw [e7] at e''; cases e''
    exact nf ts e8
   ·rw [PySem.W.hideAll_get _ q (fun z=>(List.mem_cons.mp z).elim e6 hfT)] at e5; cases e5
  | none=>
   refine ⟨?_,hk T q⟩
   cases q2:g.get? T with
   | none=>rfl
   | some o=>obtain ⟨o',e'⟩:=gh T o q2; rw [q] at e'; cases e'
 have ch:Ch g H (frs (env :: outer)) s.heap h':=⟨fun b o e q n=>kp b o e (fun z=>?_) n,fun b o hb e=>sl b o hb e,fun b o e=>?_⟩
 ·refine h h' ch ⟨fun b o e=>?_,lo,un,oe',vs',a0,e1,e2.trans hc,e3,e20,.inr ⟨T,oT,ts,_,rfl,e4,hT.1,hT.2,e6,e7,e8,e9⟩⟩
  obtain ⟨o',e'⟩:=gh b o e
  exact ch.there b o' e'
 ·subst z
  rcases q with ⟨o',q⟩ | q
  ·rw [lo] at q; cases q
  ·exact q un
 ·by_cases n2:b ∈ frs (env :: outer)
  ·obtain ⟨sl',e'⟩:=sl b o n2 e; exact ⟨_,e'⟩
  ·by_cases n1:b=a
   ·subst n1; exact ⟨_,e1⟩
   ·exact ⟨o,kp b o e n1 n2⟩
theorem j_H {h:Heap} {l:List Env} {T:Addr} {oT:Obj} {ts:Array Value} {f:Obj->Obj} (hl:h.FunFrames base l) (hT:h.get? T=some oT) (hd:oT.data=.fields ts):(h.update T f).FunFrames base l:=
 hl.of_keeps fun b o hb nf=>⟨o,by rw [Heap.get?_update_other _ _ (fun z=>nf ts (by subst z; rw [hT] at hb; cases hb; exact hd))]; exact hb,rfl⟩
theorem k_u {h:Heap} {fs:List Addr} {T:Addr} {oT:Obj} {ts:Array Value} {f:Array Value->Array Value} (hT:h.get? T=some oT) (hd:oT.data=.fields ts) (hg:g.get? T=none) (hH:H T=none) (hfs:T ∉ fs):Ch g H fs h (h.update T (Obj.mapFields f)):=by
 have self:(h.update T (Obj.mapFields f)).get? T=some (oT.mapFields f):=Heap.get?_update_self _ hT (Obj.isFreed_of_fields (Obj.data_mapFields hd f))
 refine ⟨fun b o e q n=>?_,fun b o m e=>⟨o.slots,?_⟩,fun b o e=>?_⟩
 ·rw [Heap.get?_update_other _ _ (fun z=>?_)]
  ·exact e
  ·subst z
   rcases q with ⟨o',q⟩ | q
   ·rw [hg] at q; cases q
   ·exact q hH
 ·rw [Heap.get?_update_other _ _ (fun z=>hfs (by rw [z]; exact m))]; exact e
 ·by_cases z:b=T
  ·subst z; exact ⟨_,self⟩
  ·exact ⟨o,by rw [Heap.get?_update_other _ _ (Ne.symm z)]; exact e⟩
theorem m_u {Q:Unit->Shared->Prop} (hfr:A.frames=some (env :: outer)) (hl:s.heap.FunFrames base (env :: outer)) (hf:env.frame=some L) (hk:∀ b,s.heap.get? b=none->H b=none) (x:ExS g H s.heap a C fl)
  (h:∀ h',Ch g H (frs (env :: outer)) s.heap h'->ExS g H h' a C (some (rawInt L))->Q () { s with heap:=h' }):wpAny M A (noteFrame (.ref a) env) Q E s:=by
 obtain ⟨gh,lo,un,oe,vs,a0,he,hc,hd,h0,hx⟩:=x
 unfold noteFrame
 simp only [hf]
 rcases hx with ⟨_,h1⟩ | ⟨T,oT,ts,f,_,h1,hgT,hHT,hTa,hT,hdT,h3⟩
 ·refine wpAny_bind (wpAny_field he hd h1 ?_)
  rw [if_neg (by decide)]
  exact k_c hfr hl hf hk gh lo un he hc hd (Array.getElem?_eq_some_iff.mp h1).1 h0 h
 ·refine wpAny_bind (wpAny_field he hd h1 ?_)
  rw [if_pos (show (Value.ref T != Value.none)=true from by simp)]
  refine wpAny_bind (wpAny_field hT hdT h3 ?_)
  by_cases hfl:(f == rawInt L)=true
  ·rw [if_pos hfl]
   have e:f=rawInt L:=by simpa using hfl
   subst e
   exact wpAny_pure (h s.heap .refl ⟨gh,lo,un,oe,vs,a0,he,hc,hd,h0,.inr ⟨T,oT,ts,_,rfl,h1,hgT,hHT,hTa,hT,hdT,h3⟩⟩)
  ·rw [if_neg hfl]
   refine wpAny_bind (wpAny_setField hT hdT (Array.getElem?_eq_some_iff.mp h3).1 ?_)
   have hTf:T ∉ frs (env :: outer):=fun z=>by
    obtain ⟨_,o',e',nf⟩:=hl.mem z
    rw [hT] at e'; cases e'; exact nf ts hdT
   have c1:=k_u (g:=g) (H:=H) (f:=(·.setIfInBounds 3 Value.none)) hT hdT hgT hHT hTf
   refine k_c (s:={ s with heap:=s.heap.update T (Obj.mapFields (·.setIfInBounds 3 Value.none)) }) hfr (j_H hl hT hdT) hf (fun b e=>?_) (fun b o e=>?_) lo un ?_ hc hd (Array.getElem?_eq_some_iff.mp h1).1 h0 fun h' ch ex=>h h' (c1.trans ch) ex
   ·refine hk b ?_
    cases q:s.heap.get? b with
    | none=>rfl
    | some o=>obtain ⟨o',e'⟩:=c1.there b o q; rw [show ({ s with heap:=s.heap.update T (Obj.mapFields (·.setIfInBounds 3 Value.none)) }:Shared).heap=s.heap.update T (Obj.mapFields (·.setIfInBounds 3 Value.none)) from rfl] at e; rw [e] at e'; cases e'
   ·obtain ⟨o',e'⟩:=gh b o e
    exact c1.there b o' e'
   ·show (s.heap.update T _).get? a=some oe
    rw [Heap.get?_update_other _ _ hTa]; exact he
theorem g_D {Q:Unit->Shared->Prop} {fs:List Addr} (fr:Option Addr) (hfs:∀ b ∈ fs,∃ o,s.heap.get? b=some o/\∀ vs,o.data ≠ .fields vs) (x:ExS g H s.heap a C (some fv))
  (h:∀ h',Ch g H fs s.heap h'->ExS g H h' a C (some (fr.elim Value.none fun f=>rawInt f))->Q () { s with heap:=h' }):wpAny M A (setFlight (.ref a) fr) Q E s:=by
 obtain ⟨gh,lo,un,oe,vs,a0,he,hc,hd,h0,hx⟩:=x
 rcases hx with ⟨z,_⟩ | ⟨T,oT,ts,f,_,h1,hgT,hHT,hTa,hT,hdT,h3⟩
 ·cases z
 ·unfold setFlight
  refine wpAny_bind (wpAny_field he hd h1 ?_)
  rw [if_pos (show (Value.ref T != Value.none)=true from by simp)]
  have hTf:T ∉ fs:=fun z=>by obtain ⟨o,e1,e2⟩:=hfs T z; rw [hT] at e1; cases e1; exact e2 ts hdT
  have hsz:=(Array.getElem?_eq_some_iff.mp h3).1
  have c1:=k_u (g:=g) (H:=H) (f:=(·.setIfInBounds 3 (fr.elim Value.none fun f=>rawInt f))) hT hdT hgT hHT hTf
  refine wpAny_setField hT hdT hsz (h _ c1 ⟨fun b o e=>?_,lo,un,oe,vs,a0,?_,hc,hd,h0,.inr ⟨T,_,_,_,rfl,h1,hgT,hHT,hTa,Heap.get?_update_self _ hT (Obj.isFreed_of_fields (Obj.data_mapFields hdT _)),Obj.data_mapFields hdT _,?_⟩⟩)
  ·obtain ⟨o',e'⟩:=gh b o e
   exact c1.there b o' e'
  ·rw [Heap.get?_update_other _ _ hTa]; exact he
  ·simp [hsz]
theorem f_I {h:Heap} {l:List Env} (hl:h.FunFrames base l):∀ b ∈ frs l,∃ o,h.get? b=some o/\∀ vs,o.data ≠ .fields vs:=fun b hb=>let ⟨_,o,e,n⟩:=hl.mem hb; ⟨o,e,n⟩
theorem Ch.frames {fs:List Addr} {h h':Heap} {l:List Env} (c:Ch g H fs h h') (hs:∀ b ∈ frs l,b ∈ fs) (hl:h.FunFrames base l):h'.FunFrames base l:=by
 induction l with
 | nil=>trivial
 | cons env r ih=>
  obtain ⟨hk,⟨L,o,hf,hn,ho,hd⟩,hr⟩:=hl
  have e:frs (env :: r)=L :: frs r:=by unfold frs; rw [List.filterMap_cons,hf]
  obtain ⟨sl,e'⟩:=c.slot L o (hs L (by rw [e]; exact List.mem_cons_self)) ho
  exact ⟨hk,⟨L,_,hf,hn,e',hd⟩,ih (fun b hb=>hs b (by rw [e]; exact List.mem_cons_of_mem _ hb)) hr⟩
theorem k_n {Q:Unit->Shared->Prop} (hfr:A.frames=some (env :: outer)) (hl:s.heap.FunFrames base (env :: outer)) (hf:env.frame=some L) (hk:∀ b,s.heap.get? b=none->H b=none) (x:ExS g H s.heap a C fl)
  (h:∀ h',Ch g H (frs (env :: outer)) s.heap h'->ExS g H h' a C (some .none)->Q () { s with heap:=h' }):wpAny M A (leaving env (.ref a)) Q E s:=by
 unfold leaving
 refine wpAny_bind (m_u hfr hl hf hk x fun h1 c1 x1=>?_)
 refine g_D (s:={ s with heap:=h1 }) (fs:=frs (env :: outer)) none (f_I (c1.frames (fun _ h=>h) hl)) x1 fun h2 c2 x2=>h h2 (c1.trans c2) x2
end
structure Cov (X:Cx) (pins:List (Addr × Obj)) (g:Heap):Prop where
 s0:∀ b o,X.s₀.heap.get? b=some o->b ∉ X.ex->∃ o',g.get? b=some o'
 loc:∃ o,g.get? X.env.locals=some o
 cell:∀ x c,X.env.cells.lookup x=some c->∃ o,g.get? c=some o
 pin:∀ p ∈ X.pn ++ pins,∃ o,g.get? p.1=some o
section
variable {X:Cx} {pins:List (Addr × Obj)} {Y:St} {H:Hp} {s:Shared} {g h':Heap}
theorem _root_.L2.Inv.cov (I:Inv X pins Y H s):Cov X pins s.heap:=by
 refine ⟨fun b o e n=>I.base.there b o e n,?_,fun x c e=>?_,fun p hp=>⟨_,(I.pin p hp).1⟩⟩
 ·obtain ⟨m,⟨o,es,ep,ho,_⟩,_⟩:=I.loc; exact ⟨o,ho⟩
 ·obtain ⟨v,o,ho,_⟩:=I.cell x c e; exact ⟨o,ho⟩
theorem _root_.L2.Inv.stkIn (I:Inv X pins Y H s) {b:Addr} (h:b ∉ frs X.stack):b ∉ X.fs:=by
 rcases I.ok.stk with e | ⟨e,hf⟩
 ·rw [e] at h; exact h
 ·rw [e] at h; unfold frs at h; rw [List.filterMap_cons,hf] at h; exact fun z=>h (List.mem_cons_of_mem _ z)
theorem _root_.L2.Inv.stkOut (I:Inv X pins Y H s) {b:Addr} (h:b ∉ X.fs) (h2:b ≠ X.env.locals):b ∉ frs X.stack:=fun z=>(List.mem_cons.mp (I.stkSub b z)).elim h2 h
theorem p_Z {h h':Heap} {a:Addr} {m:Str->Option Value} (k:∀ o,h.get? a=some o->∃ sl,h'.get? a=some { o with slots:=sl }) (hn:h.Ns a m):h'.Ns a m:=by
 obtain ⟨o,es,ep,ho,hd,r⟩:=hn
 obtain ⟨sl,hs⟩:=k o ho
 exact ⟨_,es,ep,hs,hd,r⟩
theorem _root_.L2.Inv.ch (I:Inv X pins Y H s) (cv:Cov X pins g) (c:Ch g H (frs X.stack) s.heap h'):Inv X pins Y H { s with heap:=h' }:=by
 have ht:∀ b o,s.heap.get? b=some o->H b ≠ none->h'.get? b=some o:=fun b o e n=>c.keep b o e (.inr n) fun z=>n (I.stkFree b z)
 have ck:∀ x cc,X.env.cells.lookup x=some cc->∀ o,s.heap.get? cc=some o->∃ o',h'.get? cc=some o'/\o'.data=o.data:=fun x cc e o ho=>by
  by_cases hs:cc ∈ frs X.stack
  ·obtain ⟨sl,e1⟩:=c.slot cc o hs ho; exact ⟨_,e1,rfl⟩
  ·exact ⟨o,c.keep cc o ho (.inl (cv.cell x cc e)) hs,rfl⟩
 refine ⟨I.ok,I.os,I.bare,⟨fun b o e n hf hx=>?_,fun b o e n hf hx=>?_,fun b o e n hx=>I.base.free b o e n hx,fun b o e hx=>?_,I.base.tups,I.base.frzs,I.base.tbls⟩,?_,fun x cc e=>?_,I.free,I.freeC,fun p hp=>?_,fun b u e=>?_,I.len⟩
 ·have e1:=I.base.keep b o e n hf hx
  refine c.keep b o e1 (.inl (cv.s0 b o e hx)) (I.stkOut hf fun z=>?_)
  have h1:=I.ok.above
  have h2:b < X.s₀.heap.objs.size:=Heap.lt_size e
  rw [z] at h2
  exact Nat.lt_irrefl _ (Nat.lt_of_lt_of_le h2 h1)
 ·obtain ⟨sl,e1⟩:=I.base.slot b o e n hf hx
  by_cases hs:b ∈ frs X.stack
  ·obtain ⟨sl',e2⟩:=c.slot b _ hs e1; exact ⟨sl',e2⟩
  ·exact absurd hf (I.stkIn hs)
 ·obtain ⟨o1,e1⟩:=I.base.there b o e hx
  exact c.there b o1 e1
 ·obtain ⟨m,hn,hl⟩:=I.loc
  refine ⟨m,p_Z (fun o ho=>?_) hn,fun i x v h1 h2 h3=>?_⟩
  ·by_cases hs:X.env.locals ∈ frs X.stack
   ·exact c.slot _ o hs ho
   ·exact ⟨o.slots,c.keep _ o ho (.inl cv.loc) hs⟩
  ·obtain ⟨u,r,l⟩:=hl i x v h1 h2 h3
   refine ⟨u,r,?_⟩
   rcases l with l | ⟨k,cc,e,o,ho,hd⟩
   ·exact .inl l
   ·obtain ⟨o',h1,h2⟩:=ck x cc e o ho
    exact .inr ⟨k,cc,e,o',h1,h2.trans hd⟩
 ·obtain ⟨v,o,ho,hd⟩:=I.cell x cc e
  obtain ⟨o',h1,h2⟩:=ck x cc e o ho
  exact ⟨v,o',h1,h2.trans hd⟩
 ·obtain ⟨h1,h2,h3,h4,h5⟩:=I.pin p hp
  exact ⟨c.keep _ _ h1 (.inl (cv.pin p hp)) (I.stkOut h4 h3),h2,h3,h4,h5⟩
 ·refine (I.hok b u e).stay (fun d v hd q=>ht d v q ?_) (fun _ q=>q) fun _ _ q=>q
  rcases hd with rfl | hd
  ·rw [e]; exact fun z=>by cases z
  ·rw [hd]; exact fun z=>by cases z
def CXM (P:Program) (w:World):CXT:=fun outer H s E e s'=>∃ a C H',e=.ref a/\s'.os=s.os/\AllBare s'.gens/\Un (frs outer) [] H H' s.heap s'.heap/\HOk P w H' s'.heap/\ExS s.heap H' s'.heap a C (some .none)/\E C none H'
structure Fly (X:Cx) (pins:List (Addr × Obj)) (Y:St) (H:Hp) (s:Shared) (e:Value) (c:Str):Prop where
 inv:Inv X pins Y H s
 ex:∃ a C g fl,e=.ref a/\Cov X pins g/\ExS g H s.heap a C fl/\X.mg c=some C
def XOk (X:Cx) (F:Fx) (E:Str->a_r->Prop):Prop:=∀ (pins:List (Addr × Obj)) (Y:St) (H:Hp) (s:Shared) (e:Value) (c:Str) (U:a_r) (O:List Addr),Fly X pins Y H s e c->DSt X.K F H Y U O->E c U->X.xe e s
theorem ExS.weak {g g':Heap} {H:Hp} {h:Heap} {a:Addr} {C:Value} {fl:Option Value} (x:ExS g H h a C fl) (k:∀ b o,g'.get? b=some o->∃ o',g.get? b=some o'):ExS g' H h a C fl:=by
 have nn:∀ b,g.get? b=none->g'.get? b=none:=fun b e=>by
  cases q:g'.get? b with
  | none=>rfl
  | some o=>obtain ⟨o',e'⟩:=k b o q; rw [e] at e'; cases e'
 obtain ⟨gh,lo,un,oe,vs,a0,he,hc,hd,h0,hx⟩:=x
 refine ⟨fun b o e=>let ⟨o',e'⟩:=k b o e; gh b o' e',nn a lo,un,oe,vs,a0,he,hc,hd,h0,hx.imp id ?_⟩
 rintro ⟨T,oT,ts,f,h1,h2,h3,h4⟩
 exact ⟨T,oT,ts,f,h1,h2,nn T h3,h4⟩
theorem _root_.L2.Inv.flies {E:XK} {e:Value} {s':Shared} (I:Inv X pins Y H s) (h:CXM X.prog X.w X.stack H s E e s'):∃ a C H',e=.ref a/\Inv X pins Y H' s'/\Cov X pins s.heap/\ExS s.heap H' s'.heap a C (some .none)/\E C none H':=by
 obtain ⟨a,C,H',e1,os,bare,un,hok,ex,q⟩:=h
 obtain ⟨hh,g,d,t,os'⟩:=s'
 obtain rfl:os' = s.os:=os
 exact ⟨a,C,H',e1,I.call (h':=hh) (g':=g) (d':=d) (t':=t) (ch:=[]) un hok bare (fun b z=>absurd z (by simp)),I.cov,ex,q⟩
end
theorem v_u {P:Program} {w:World} {K:PySem.W.Frag} {mg:Str->Option Value} {base:Heap} {N:List Str} {qual:Str} {scope:Scope} {f:Addr} {cd:Value} {A:Around} {outer:List Env} {s:Shared} {H:Hp} {E:XK} {F:Fx} {E':Str->a_r->Prop}
  (hE:∀ c C U' Y' H' O',mg c=some C->DSt K F H' Y' U' O'->E' c U'->E C none H'):XOk (p_8 (CXM P w) P w K mg base N qual scope f cd A outer s H E) F E':=by
 intro pins Y H1 s1 e c U O ⟨I,a,C,g,fl,e1,cv,ex,hm⟩ st q
 subst e1
 have fr:(A.deeper (envOfC qual scope s.heap.objs.size f cd)).frames=some (envOfC qual scope s.heap.objs.size f cd :: outer):=I.ok.frames
 have hb:∀ b,s1.heap.get? b=none->H1 b=none:=fun b z=>HOk.some_of I.hok z
 have stk:frs (envOfC qual scope s.heap.objs.size f cd :: outer)=s.heap.objs.size :: frs outer:=rfl
 refine k_n (base:=base) fr I.stack rfl hb ex fun h' ch ex'=>?_
 have J:=I.ch cv ch
 refine ⟨a,C,H1,rfl,J.os,J.bare,J.base,J.hok,ex'.weak fun b o eb=>cv.s0 b o eb (by intro z; cases z),hE c C U Y H1 O hm st q⟩
def Fx.plus (F:Fx) (fp:List Addr):Fx:={ F with O₀:=fp ++ F.O₀ }
theorem Fx.plus_plus {F:Fx} {l m:List Addr}:(F.plus l).plus m=F.plus (m ++ l):=by unfold Fx.plus; simp
section
variable {K:PySem.W.Frag} {F:Fx} {H H':Hp} {Y:St} {U:a_r} {O O':List Addr} {W:List (List Addr)} {fp:List Addr} {v:V} {c:Cell}
structure Res (K:PySem.W.Frag) (F:Fx) (H:Hp) (Y:St) (U:a_r) (O:List Addr) (v:V) (c:Cell) (fp:List Addr):Prop where
 st:DSt K (F.plus fp) H Y U O
 at_:c_f K H O v c fp
 new:∀ a ∈ fp,a ∈ F.A₀\/F.H₀ a=none
theorem b_E (h:∀ a ∈ O',a ∈ O):Stp O H O' H:=⟨fun _ _ _ e=>e,fun a z=>.inl (h a z)⟩
theorem DStW.less {F':Fx} (st:DStW K F H Y U W) (h1:F'.H₀=F.H₀) (h2:F'.A₀=F.A₀) (h4:F'.I₀=F.I₀) (h3:F'.O₀.Sublist F.O₀):DStW K F' H Y U W:=by
 have sub:(W.flatten ++ F'.O₀).Sublist (W.flatten ++ F.O₀):=List.Sublist.append (List.Sublist.refl _) h3
 have mem:∀ a ∈ W.flatten ++ F'.O₀,a ∈ W.flatten ++ F.O₀:=fun a h=>sub.subset h
 refine ⟨fun i c e=>?_,st.nd.sublist sub,by rw [h1,h2]; exact st.kept,by rw [h1,h2]; exact st.new,fun a h=>st.live a (mem a h),st.len,st.lw,by rw [h4]; exact st.io⟩
 obtain ⟨v,fp,e1,e2,e3⟩:=st.at_ i c e
 exact ⟨v,fp,e1,e2,e3.keep (b_E mem) (fun _ _=>rfl) (fun _ _ _ e=>e)⟩
theorem DSt.unplus (st:DSt K (F.plus fp) H Y U O):∃ O',DSt K F H Y U O'/\Stp O H O' H/\(∀ a ∈ fp,a ∉ O'):=by
 obtain ⟨W,st,rfl⟩:=st
 have st':DStW K F H Y U W:=st.less rfl rfl rfl (List.sublist_append_right _ _)
 refine ⟨_,⟨W,st',rfl⟩,b_E fun a h=>?_,fun a ha z=>?_⟩
 ·rcases List.mem_append.mp h with h | h
  ·exact List.mem_append_left _ h
  ·exact List.mem_append_right _ (List.mem_append_right _ h)
 ·have nd:(W.flatten ++ (fp ++ F.O₀)).Nodup:=st.nd
  obtain ⟨_,n2,n3⟩:=List.nodup_append.mp nd
  rcases List.mem_append.mp z with z | z
  ·exact n3 a z a (List.mem_append_left _ ha) rfl
  ·exact (List.nodup_append.mp n2).2.2 a ha a z rfl
theorem Res.drop (r:Res K F H Y U O v c fp):∃ O',DSt K F H Y U O'/\Stp O H O' H:=let ⟨O',h1,h2,_⟩:=r.st.unplus; ⟨O',h1,h2⟩
@[simp] def frz:Cell->Option PyData
 | .dat d=>some d
 | .own _ (.l ds)=>some (.list ds)
 | _=>none
theorem Res.frz {d:PyData} (r:Res K F H Y U O v c fp) (e:frz c=some d):∃ O',DSt K F H Y U O'/\Stp O H O' H/\DV (hide O' H) v d:=by
 obtain ⟨O',h1,h2,h3⟩:=r.st.unplus
 refine ⟨O',h1,h2,?_⟩
 have ra:=r.at_
 cases c with
 | dat x=>cases e; exact DV.mono h2.hid ra
 | scr ns=>cases e
 | exc c=>cases e
 | vw c=>cases e
 | own io b=>
  cases b with
  | l ds=>
   cases e
   obtain ⟨a,rfl,rfl,xs,e1,e2⟩:=ra
   exact .lst (d_3 e1 (h3 a (by simp))) (DVs.mono h2.hid e2)
  | m _ _=>cases e
  | o _ _=>cases e
  | sd _=>cases e
  | ll _=>cases e
theorem r_C (st:DSt K F H Y U O) {d:PyData} (h:DV (hide O H) v d):Res K F H Y U O v (.dat d) []:=⟨st,h,fun a h=>by cases h⟩
theorem DSt.put1 {io:Bool} (st:DSt K (F.plus fp) H Y U O) (hc:c_f K H O v c fp) (new:∀ a ∈ fp,a ∈ F.A₀\/F.H₀ a=none) {i:Nat} (hi:i < U.length) (hio:∀ b,c=.own true b->v=.ref (F.I₀ i)) :
  ∃ O',DSt K F H (Y.set i (some v)) (U.set i (some c)) O'/\Stp O H O' H:=by
 obtain ⟨W,st,rfl⟩:=st
 have nd:(W.flatten ++ (fp ++ F.O₀)).Nodup:=st.nd
 obtain ⟨n1,n2,n3⟩:=List.nodup_append.mp nd
 obtain ⟨n4,n5,n6⟩:=List.nodup_append.mp n2
 have hiW:i < W.length:=by rw [st.lw]; exact hi
 have sub:∀ a ∈ (W.set i fp).flatten ++ F.O₀,a ∈ W.flatten ++ (fp ++ F.O₀):=fun a h=>by
  rcases List.mem_append.mp h with h | h
  ·rcases a_E h with h | ⟨j,l,_,e,hl⟩
   ·exact List.mem_append_right _ (List.mem_append_left _ h)
   ·exact List.mem_append_left _ (a_g e hl)
  ·exact List.mem_append_right _ (List.mem_append_right _ h)
 have stp:=b_E (H:=H) sub
 refine ⟨_,⟨W.set i fp,⟨fun j d e=>?_,e_7 (List.nodup_append.mpr ⟨n1,n5,fun a ha b hb=>n3 a ha b (List.mem_append_right _ hb)⟩) n4 fun a ha=>⟨fun j l _ e z=>n3 a (a_g e z) a (List.mem_append_left _ ha) rfl,fun z=>n6 a ha a z rfl⟩,st.kept,fun a h=>?_,fun a h=>st.live a (sub a h),by rw [List.length_set,List.length_set,st.len],by rw [List.length_set,List.length_set,st.lw],fun j b e=>?_⟩,rfl⟩,stp⟩
 ·rcases d_d e with ⟨rfl,e1,_⟩ | ⟨hj,e1⟩
  ·cases e1
   exact ⟨v,fp,List.getElem?_set_self (by rw [<-st.len]; exact hi),List.getElem?_set_self hiW,hc.keep stp (fun _ _=>rfl) (fun _ _ _ e=>e)⟩
  ·obtain ⟨w,l,h1,h2,h3⟩:=st.at_ j d e1
   exact ⟨w,l,by rw [List.getElem?_set_ne (Ne.symm hj)]; exact h1,by rw [List.getElem?_set_ne (Ne.symm hj)]; exact h2,h3.keep stp (fun _ _=>rfl) (fun _ _ _ e=>e)⟩
 ·rcases a_E h with h | ⟨j,l,_,e,hl⟩
  ·exact new a h
  ·exact st.new a (a_g e hl)
 ·rcases d_d e with ⟨rfl,e1,_⟩ | ⟨hj,e1⟩
  ·rw [List.getElem?_set_self (by rw [<-st.len]; exact hi),hio b (Option.some.inj e1).symm]
  ·rw [List.getElem?_set_ne (Ne.symm hj)]; exact st.io j b e1
theorem DSt.take (st:DSt K F H Y U O) {i:Nat} {io:Bool} {b:Bx} (e:U[i]? = some (some (.own io b))):∃ a fp O',Y[i]? = some (some (.ref a))/\DSt K (F.plus fp) H Y (U.set i none) O'/\g_m (hide O' H) H a b fp/\Stp O H O' H/\Stp O' H O H/\(∀ a ∈ fp,a ∈ F.A₀\/F.H₀ a=none)/\(io=true->a=F.I₀ i):=by
 obtain ⟨W,st,rfl⟩:=st
 obtain ⟨v,fp,h1,h2,a,rfl,h3⟩:=st.at_ i _ e
 have hi:i < U.length:=(List.getElem?_eq_some_iff.mp e).1
 have hiW:i < W.length:=by rw [st.lw]; exact hi
 obtain ⟨n1,n2,n3⟩:=List.nodup_append.mp st.nd
 have s1:∀ x ∈ (W.set i []).flatten ++ (fp ++ F.O₀),x ∈ W.flatten ++ F.O₀:=fun x h=>by
  rcases List.mem_append.mp h with h | h
  ·rcases a_E h with h | ⟨j,l,_,ej,hl⟩
   ·cases h
   ·exact List.mem_append_left _ (a_g ej hl)
  ·rcases List.mem_append.mp h with h | h
   ·exact List.mem_append_left _ (a_g h2 h)
   ·exact List.mem_append_right _ h
 have s2:∀ x ∈ W.flatten ++ F.O₀,x ∈ (W.set i []).flatten ++ (fp ++ F.O₀):=fun x h=>by
  rcases List.mem_append.mp h with h | h
  ·obtain ⟨l,hl,hx⟩:=List.mem_flatten.mp h
   obtain ⟨j,hj⟩:=List.getElem?_of_mem hl
   by_cases hji:j=i
   ·subst hji; rw [h2] at hj; cases hj; exact List.mem_append_right _ (List.mem_append_left _ hx)
   ·exact List.mem_append_left _ (k_W hji hj hx)
  ·exact List.mem_append_right _ (List.mem_append_right _ h)
 have nfp:fp.Nodup:=by
  have:∀ {W:List (List Addr)} {i:Nat} {l:List Addr},W.flatten.Nodup->W[i]? = some l->l.Nodup:=fun {W i l} nd hl=>nd.sublist (by
   have:=List.mem_of_getElem? hl
   exact List.sublist_flatten_of_mem this)
  exact this n1 h2
 have nd':((W.set i []).flatten ++ (fp ++ F.O₀)).Nodup:=by
  have q:((W.set i []).flatten ++ ([] ++ F.O₀)).Nodup:=e_7 (fp:=[]) (O:=F.O₀) st.nd List.nodup_nil (fun a h=>by cases h)
  obtain ⟨q1,_,q3⟩:=List.nodup_append.mp q
  refine List.nodup_append.mpr ⟨q1,List.nodup_append.mpr ⟨nfp,n2,fun x hx y hy z=>n3 x (a_g h2 hx) y hy z⟩,fun x hx y hy z=>?_⟩
  subst z
  rcases List.mem_append.mp hy with hy | hy
  ·rcases a_E hx with hx | ⟨j,l,hj,ej,hl⟩
   ·cases hx
   ·exact d_D n1 h2 ej (Ne.symm hj) hy hl
  ·exact q3 x hx x hy rfl
 have stp:=b_E (H:=H) s1
 have k:=b_E (H:=H) s2
 refine ⟨a,fp,_,h1,⟨W.set i [],⟨fun j d ej=>?_,nd',st.kept,fun x h=>?_,fun x h=>st.live x (s1 x h),by rw [List.length_set,st.len],by rw [List.length_set,List.length_set,st.lw],fun j b' ej=>?_⟩,rfl⟩,h3.keep (fun _ _=>rfl) stp.hid,stp,k,fun x hx=>st.new x (a_g h2 hx),fun hio=>?_⟩
 ·rcases d_d ej with ⟨rfl,e1,_⟩ | ⟨hj,e1⟩
  ·cases e1
  ·obtain ⟨w,l,q1,q2,q3⟩:=st.at_ j d e1
   exact ⟨w,l,q1,by rw [List.getElem?_set_ne (Ne.symm hj)]; exact q2,q3.keep stp (fun _ _=>rfl) (fun _ _ _ e=>e)⟩
 ·rcases a_E h with h | ⟨j,l,_,ej,hl⟩
  ·cases h
  ·exact st.new x (a_g ej hl)
 ·rcases d_d ej with ⟨rfl,e1,_⟩ | ⟨hj,e1⟩
  ·cases e1
  ·exact st.io j b' e1
 ·subst hio
  have:=st.io i b e
  rw [h1] at this
  cases this; rfl
theorem DSt.swap {L L':List Addr} (st:DSt K (F.plus L) H Y U O) (keep:∀ b o,b ∉ L->H b=some o->H' b=some o) (nd:L'.Nodup) (new:∀ a ∈ L',a ∈ L\/H a=none) (hA:∀ a ∈ L,a ∈ F.A₀\/F.H₀ a=none) (liv:∀ a ∈ L',∃ o,H' a=some o/\Mv o) :
  ∃ O',DSt K (F.plus L') H' Y U O'/\Stp O H O' H'/\(∀ a ∈ L',a ∈ O')/\(∀ a ∈ O',a ∈ L'\/a ∈ O/\a ∉ L)/\∀ a ∈ O,a ∉ L->a ∈ O':=by
 obtain ⟨W,st,rfl⟩:=st
 have ndO:(W.flatten ++ (L ++ F.O₀)).Nodup:=st.nd
 obtain ⟨n1,n2,n3⟩:=List.nodup_append.mp ndO
 obtain ⟨n4,n5,n6⟩:=List.nodup_append.mp n2
 have wl:∀ a ∈ W.flatten,a ∉ L:=fun a h z=>n3 a h a (List.mem_append_left _ z) rfl
 have ol:∀ a ∈ F.O₀,a ∉ L:=fun a h z=>n6 a z a h rfl
 have lv:∀ a ∈ W.flatten ++ F.O₀,∃ o,H a=some o/\Mv o:=fun a h=>st.live a (by
  rcases List.mem_append.mp h with h | h
  ·exact List.mem_append_left _ h
  ·exact List.mem_append_right _ (List.mem_append_right _ h))
 have kp:∀ a ∈ W.flatten ++ F.O₀,H' a=H a:=fun a h=>by
  obtain ⟨o,e,_⟩:=lv a h
  rw [e]
  exact keep a o ((List.mem_append.mp h).elim (wl a) (ol a)) e
 have ap:∀ a ∈ L',a ∉ W.flatten ++ F.O₀:=fun a h z=>by
  rcases new a h with q | q
  ·rcases List.mem_append.mp z with z | z
   ·exact wl a z q
   ·exact ol a z q
  ·obtain ⟨o,e,_⟩:=lv a z; rw [q] at e; cases e
 have stp:Stp (W.flatten ++ (L ++ F.O₀)) H (W.flatten ++ (L' ++ F.O₀)) H':=⟨fun b o hb e=>keep b o (fun z=>hb (List.mem_append_right _ (List.mem_append_left _ z))) e,fun a h=>by
  rcases List.mem_append.mp h with h | h
  ·exact .inl (List.mem_append_left _ h)
  ·rcases List.mem_append.mp h with h | h
   ·exact (new a h).imp (fun z=>List.mem_append_right _ (List.mem_append_left _ z)) id
   ·exact .inl (List.mem_append_right _ (List.mem_append_right _ h))⟩
 have zf:∀ b o u,H b=some (.frz o u)->H' b=some (.frz o u):=fun b o u e=>keep b _ (fun z=>st.nofrz (List.mem_append_right _ (List.mem_append_left _ z)) e) e
 refine ⟨_,⟨W,⟨fun i c e=>?_,?_,fun b o hb e=>?_,st.new,fun a h=>?_,st.len,st.lw,st.io⟩,rfl⟩,stp,fun a h=>List.mem_append_right _ (List.mem_append_left _ h),fun a h=>?_,fun a h hn=>?_⟩
 ·obtain ⟨v,fp,h1,h2,h3⟩:=st.at_ i c e
  exact ⟨v,fp,h1,h2,h3.keep stp (fun b hb=>kp b (List.mem_append_left _ (a_g h2 hb))) zf⟩
 ·refine List.nodup_append.mpr ⟨n1,List.nodup_append.mpr ⟨nd,n5,fun a ha b hb z=>?_⟩,fun a ha b hb z=>?_⟩
  ·subst z; exact ap a ha (List.mem_append_right _ hb)
  ·subst z
   rcases List.mem_append.mp hb with hb | hb
   ·exact ap a hb (List.mem_append_left _ ha)
   ·exact n3 a ha a (List.mem_append_right _ hb) rfl
 ·have e1:=st.kept b o hb e
  by_cases hL:b ∈ L
  ·rcases hA b hL with q | q
   ·exact absurd q hb
   ·have e':F.H₀ b=some o:=e
    rw [q] at e'; cases e'
  ·exact keep b o hL e1
 ·rcases List.mem_append.mp h with h | h
  ·obtain ⟨o,e1,e2⟩:=lv a (List.mem_append_left _ h)
   exact ⟨o,by rw [kp a (List.mem_append_left _ h)]; exact e1,e2⟩
  ·rcases List.mem_append.mp h with h | h
   ·exact liv a h
   ·obtain ⟨o,e1,e2⟩:=lv a (List.mem_append_right _ h)
    exact ⟨o,by rw [kp a (List.mem_append_right _ h)]; exact e1,e2⟩
 ·rcases List.mem_append.mp h with h | h
  ·exact .inr ⟨List.mem_append_left _ h,wl a h⟩
  ·rcases List.mem_append.mp h with h | h
   ·exact .inl h
   ·exact .inr ⟨List.mem_append_right _ (List.mem_append_right _ h),ol a h⟩
 ·rcases List.mem_append.mp h with h | h
  ·exact List.mem_append_left _ h
  ·rcases List.mem_append.mp h with h | h
   ·exact absurd h hn
   ·exact List.mem_append_right _ (List.mem_append_right _ h)
end
abbrev DTO:=a_r->(Cell->a_r->Prop)->Prop
def MnO (t:DTO):Prop:=∀ U Q Q',(∀ c U',Q c U'->Q' c U')->t U Q->t U Q'
def rdO (K:PySem.W.Frag) (F:Fx) (t:DTO):TE:=fun Y H Q=>∃ U O,DSt K F H Y U O/\t U fun c U'=>∀ v H' O' fp,Res K F H' Y U' O' v c fp->Stp O H O' H'->Q v H'
structure DO (X:Cx) (F:Fx) (e:Expr) (t:DTO):Prop where
 mn:MnO t
 pe:PE X e (rdO X.K F t)
section
variable {X:Cx} {F:Fx} {e:Expr} {te:DT} {to:DTO}
def y_R (t:DTO):DT:=fun U Q=>t U fun c U'=>∃ d,frz c=some d/\Q d U'
theorem DO.de (h:DO X F e to):DE X F e (y_R to):=
 ⟨fun _ _ _ k q=>h.mn _ _ _ (fun _ _ ⟨d,e,q⟩=>⟨d,e,k _ _ q⟩) q,h.pe.imp fun Y H Q ⟨U,O,st,q⟩=>⟨U,O,st,h.mn _ _ _ (fun c U' ⟨d,e,q⟩ v H' O' fp r s=>by
  obtain ⟨O2,st2,s2,dv⟩:=r.frz e
  exact q v H' O2 st2 (s.trans s2) dv) q⟩⟩
end
abbrev DTG:=PyData->a_r->(a_r->Prop)->Prop
def rdG (K:PySem.W.Frag) (F:Fx) (t:DTG):TG:=fun v Y H Q=>∃ U O d,DSt K F H Y U O/\DV (hide O H) v d/\t d U fun U'=>∀ Y' H' O',DSt K F H' Y' U' O'->Stp O H O' H'->Q Y' H'
structure DG (X:Cx) (F:Fx) (tg:Expr) (t:DTG):Prop where
 mn:∀ d U Q Q',(∀ U',Q U'->Q' U')->t d U Q->t d U Q'
 pg:PG X tg (rdG X.K F t)
abbrev q_Z:=List PyData->a_r->(a_r->Prop)->Prop
def y_D (K:PySem.W.Frag) (F:Fx) (t:q_Z):TGs:=fun vs Y H Q=>∃ U O ds,DSt K F H Y U O/\DVs (hide O H) vs ds/\t ds U fun U'=>∀ Y' H' O',DSt K F H' Y' U' O'->Stp O H O' H'->Q Y' H'
structure DGs (X:Cx) (F:Fx) (tg:List Expr) (t:q_Z):Prop where
 mn:∀ d U Q Q',(∀ U',Q U'->Q' U')->t d U Q->t d U Q'
 pg:PGs X tg (y_D X.K F t)
theorem _root_.L2.PG.imp {X:Cx} {e:Expr} {t t':TG} (h:PG X e t) (k:∀ v Y H Q,t' v Y H Q->t v Y H Q):PG X e t':=fun pins s Y H v u Q I r q=>h pins s Y H v u Q I r (k v Y H Q q)
theorem _root_.L2.PGs.imp {X:Cx} {e:List Expr} {t t':TGs} (h:PGs X e t) (k:∀ v Y H Q,t' v Y H Q->t v Y H Q):PGs X e t':=fun pins s Y H v u Q I r q=>h pins s Y H v u Q I r (k v Y H Q q)
section
variable {X:Cx} {F:Fx} {e:Expr} {es:List Expr} {pos:Pos} {x:Str} {t:DTG} {ts:q_Z}
def gN (i:Nat):DTG:=fun d U Q=>Q (U.set i (some (.dat d)))
theorem r_D {i:Nat} (h:PG X (.Name x pos) (q_s i)):DG X F (.Name x pos) (gN i):=⟨fun _ _ _ _ k q=>k _ q,h.imp fun v Y H Q ⟨U,O,d,st,hd,q⟩=>q _ H O (st.set hd) .refl⟩
def gNl:q_Z:=fun ds U Q=>ds=[]/\Q U
def gCs (t:DTG) (u:q_Z):q_Z:=fun ds U Q=>∃ d r,ds=d :: r/\t d U fun U'=>u r U' Q
theorem s_G:DGs X F [] gNl:=⟨fun _ _ _ _ k q=>⟨q.1,k _ q.2⟩,s_5.imp fun vs Y H Q ⟨U,O,ds,st,hd,e,q⟩=>by
 subst e
 cases hd
 exact ⟨rfl,q _ H O st .refl⟩⟩
theorem q_p (h1:DG X F e t) (h2:DGs X F es ts) (hs:(assignEach (e :: es) X.env).map (·.2)=assign e X.env :: (assignEach es X.env).map (·.2):=by rfl):DGs X F (e :: es) (gCs t ts):=
 ⟨fun _ _ _ _ k ⟨d,r,e,q⟩=>⟨d,r,e,h1.mn _ _ _ _ (fun _ q1=>h2.mn _ _ _ _ k q1) q⟩,(p_G h1.pg h2.pg hs).imp fun vs Y H Q ⟨U,O,ds,st,hd,d,r,e,q⟩=>by
  subst e
  cases hd with
  | cons hd hr=>
   exact ⟨_,_,rfl,U,O,d,st,hd,h1.mn _ _ _ _ (fun U1 q1 Y1 H1 O1 st1 s1=>⟨U1,O1,r,st1,DVs.mono s1.hid hr,h2.mn _ _ _ _ (fun U2 q2 Y2 H2 O2 st2 s2=>q2 Y2 H2 O2 st2 (s1.trans s2)) q1⟩) q⟩⟩
def gTp (n:Nat) (t:q_Z):DTG:=fun d U Q=>∃ ds,d=.tuple ds/\ds.length=n/\t ds U Q
theorem t_0 {k n:Nat} (hc:X.calm=true) (h:DGs X F es ts) (hn:(assignEach es X.env).length=n:=by rfl) (hst:(assignEach es X.env).findIdx? (·.1)=none:=by rfl):DG X F (.Tuple es k pos) (gTp n ts):=
 ⟨fun _ _ _ _ k ⟨ds,e,l,q⟩=>⟨ds,e,l,h.mn _ _ _ _ k q⟩,(u_J hc h.pg hn hst).imp fun v Y H Q ⟨U,O,d,st,hd,ds,e,l,q⟩=>by
  subst e
  obtain ⟨a,xs,rfl,ha,hx⟩:=hd.tup_inv
  exact ⟨a,xs,rfl,.of (a_F ha).1,by rw [hx.length]; exact l,U,O,ds,st,hx,q⟩⟩
end
structure DEnds where
 nx:a_r->Prop
 rt:Cell->a_r->Prop
 bk:a_r->Prop:=fun _=>False
 ct:a_r->Prop:=fun _=>False
abbrev DTS:=DEnds->a_r->Prop
structure Fits (K:PySem.W.Frag) (F:Fx) (O:List Addr) (H:Hp) (D:Ends) (DD:DEnds):Prop where
 nx:∀ Y' H' U' O',DSt K F H' Y' U' O'->Stp O H O' H'->DD.nx U'->D.nx Y' H'
 rt:∀ v Y' H' c U' O' fp,Res K F H' Y' U' O' v c fp->Stp O H O' H'->DD.rt c U'->D.rt v H'
 bk:∀ Y' H' U' O',DSt K F H' Y' U' O'->Stp O H O' H'->DD.bk U'->D.bk Y' H'
 ct:∀ Y' H' U' O',DSt K F H' Y' U' O'->Stp O H O' H'->DD.ct U'->D.ct Y' H'
theorem Fits.later {K:PySem.W.Frag} {F:Fx} {O O':List Addr} {H H':Hp} {D:Ends} {DD:DEnds} (f:Fits K F O H D DD) (s:Stp O H O' H'):Fits K F O' H' D DD:=
 ⟨fun Y H U O st s' q=>f.nx Y H U O st (s.trans s') q,fun v Y H c U O fp r s' q=>f.rt v Y H c U O fp r (s.trans s') q,fun Y H U O st s' q=>f.bk Y H U O st (s.trans s') q,fun Y H U O st s' q=>f.ct Y H U O st (s.trans s') q⟩
def rdS (K:PySem.W.Frag) (F:Fx) (t:DTS):TS:=fun D Y H=>∃ U O DD,DSt K F H Y U O/\t DD U/\Fits K F O H D DD
def DS (X:Cx) (F:Fx) (s:Stmt) (t:DTS):Prop:=PS X s (rdS X.K F t)
def DSs (X:Cx) (F:Fx) (s:List Stmt) (t:DTS):Prop:=PSs X s (rdS X.K F t)
section
variable {X:Cx} {F:Fx} {e:Expr} {es:List Expr} {st:Stmt} {rest:List Stmt} {t u:DTS} {te:DT} {to:DTO} {tA:DTA} {tc:DTT} {tg:DTG} {pos:Pos} {x:Str}
def w_A:DTS:=fun D U=>D.nx U
def y_Z (t u:DTS):DTS:=fun D U=>t { D with nx:=fun U'=>u D U' } U
theorem s_F:DSs X F [] w_A:=r_W.imp fun D Y H ⟨U,O,DD,st,q,f⟩=>f.nx Y H U O st .refl q
theorem q_c (h1:DS X F st t) (h2:DSs X F rest u):DSs X F (st :: rest) (y_Z t u):=
 (p_H h1 h2).imp fun D Y H ⟨U,O,DD,s,q,f⟩=>⟨U,O,_,s,q,⟨fun Y' H' U' O' st' s' q'=>⟨U',O',DD,st',q',f.later s'⟩,f.rt,f.bk,f.ct⟩⟩
theorem r_R (h:DS X F st t):DSs X F [st] t:=s_J h
def w_s (te:DT) (tg:DTG):DTS:=fun D U=>te U fun d U'=>tg d U' D.nx
theorem u_Q {i:Nat} {pos':Pos} (hN:X.N.Nodup) (hi:X.N[i]? = some x) (hx:Loc X.env.scope x) (he:DE X F e te) (hs:swapsWith e (some (.Name x pos')) pos.line X.env=pure false:=by rfl)
  (hf:X.fn x=true\/X.env.scope.names.lookup x=some .local:=by first | exact .inl rfl | exact .inr rfl | assumption):DS X F (.Assign [.Name x pos'] e pos) (w_s te (gN i)):=
 (q_5 hN hi hx he.pe hs hf).imp fun D Y H ⟨U,O,DD,st,q,f⟩=>⟨U,O,st,he.mn _ _ _ (fun d U1 q1 v H1 O1 st1 s1 d1=>f.nx _ H1 _ O1 (st1.set d1) s1 q1) q⟩
def y_0 (te:DT):DTS:=fun D U=>te U fun d U'=>D.rt (.dat d) U'
theorem r_b (he:DE X F e te):DS X F (.Return (some e) pos) (y_0 te):=
 (p_j he.pe).imp fun D Y H ⟨U,O,DD,st,q,f⟩=>⟨U,O,st,he.mn _ _ _ (fun d U1 q1 v H1 O1 st1 s1 d1=>f.rt v Y H1 (.dat d) U1 O1 [] (r_C st1 d1) s1 q1) q⟩
def w_4 (to:DTO):DTS:=fun D U=>to U fun c U'=>D.rt c U'
theorem s_s (he:DO X F e to):DS X F (.Return (some e) pos) (w_4 to):=
 (p_j he.pe).imp fun D Y H ⟨U,O,DD,st,q,f⟩=>⟨U,O,st,he.mn _ _ _ (fun c U1 q1 v H1 O1 fp r s1=>f.rt v Y H1 c U1 O1 fp r s1 q1) q⟩
def u_A (i:Nat):DTS:=fun D U=>∃ b,U[i]? = some (some (.own false b))/\D.rt (.own false b) (U.set i none)
theorem p_C {i:Nat} {p1:Pos} (hv:PE X (.Name x p1) (e_A i)):DS X F (.Return (some (.Name x p1)) pos) (u_A i):=
 (p_j hv).imp fun D Y H ⟨U,O,DD,st,⟨b,e,q⟩,f⟩=>by
  obtain ⟨a,fp,O',h1,h2,h3,h4,h5,h6,_⟩:=st.take e
  exact ⟨_,h1,f.rt _ Y H (.own false b) _ O' fp ⟨h2,⟨a,rfl,h3⟩,h6⟩ h4 q⟩
def w_J (i:Nat) (to:DTO):DTS:=fun D U=>to U fun c U'=>i < U'.length/\(∀ b,c ≠ .own true b)/\D.nx (U'.set i (some c))
theorem s_S {i:Nat} {pos':Pos} (hN:X.N.Nodup) (hi:X.N[i]? = some x) (hx:Loc X.env.scope x) (he:DO X F e to) (hs:swapsWith e (some (.Name x pos')) pos.line X.env=pure false:=by rfl)
  (hf:X.fn x=true\/X.env.scope.names.lookup x=some .local:=by first | exact .inl rfl | exact .inr rfl | assumption):DS X F (.Assign [.Name x pos'] e pos) (w_J i to):=
 (q_5 hN hi hx he.pe hs hf).imp fun D Y H ⟨U,O,DD,st,q,f⟩=>⟨U,O,st,he.mn _ _ _ (fun c U1 ⟨hl,hn,q1⟩ v H1 O1 fp r s1=>by
  obtain ⟨O2,st2,s2⟩:=DSt.put1 (io:=true) r.st r.at_ r.new hl (fun b z=>absurd z (hn b))
  exact f.nx _ H1 _ O2 st2 (s1.trans s2) q1) q⟩
def t_N (to:DTO):DTS:=fun D U=>to U fun _ U'=>D.nx U'
theorem q_t (he:DO X F e to) (hs:swapsWith e none pos.line X.env=pure false:=by rfl):DS X F (.Expr e pos) (t_N to):=
 (j_0 he.pe hs).imp fun D Y H ⟨U,O,DD,st,q,f⟩=>⟨U,O,st,he.mn _ _ _ (fun c U1 q1 v H1 O1 fp r s1=>by
  obtain ⟨O2,st2,s2⟩:=r.drop
  exact f.nx _ _ _ _ st2 (s1.trans s2) q1) q⟩
def sIf (tc:DTT) (t u:DTS):DTS:=fun D U=>tc U fun b U'=>if b=true then t D U' else u D U'
theorem w_f {c:Expr} {a b:List Stmt} (hc:DB X F c tc) (ha:DSs X F a t) (hb:DSs X F b u):DS X F (.If c a b pos) (sIf tc t u):=
 (w_8 hc.pt ha hb).imp fun D Y H ⟨U,O,DD,st,q,f⟩=>⟨U,O,st,hc.mn _ _ _ (fun b U1 q1 H1 O1 st1 s1=>by
  cases b with
  | true=>exact j_6 ⟨U1,O1,DD,st1,ofT q1,f.later s1⟩
  | false=>exact j_7 ⟨U1,O1,DD,st1,ofF q1,f.later s1⟩) q⟩
end
inductive OutF where
 | rt (c:Cell) (outs:List Bx) | ex (c:Str) (outs:List Bx) | bad
abbrev FM:=List Cell->OutF
inductive ArgsAt (K:PySem.W.Frag) (H:Hp) (O:List Addr):List V->List Cell->List (List Addr)->Prop where
 | nil:ArgsAt K H O [] [] []
 | dat {v:V} {d:PyData} {vs:List V} {cs:List Cell} {fps:List (List Addr)}:DV (hide O H) v d->ArgsAt K H O vs cs fps->ArgsAt K H O (v :: vs) (.dat d :: cs) ([] :: fps)
 | oth {v:V} {c:Cell} {vs:List V} {cs:List Cell} {fps:List (List Addr)}:(∀ d,c ≠ .dat d)->(∀ io b,c ≠ .own io b)->c_f K H O v c []->ArgsAt K H O vs cs fps->ArgsAt K H O (v :: vs) (c :: cs) ([] :: fps)
 | own {a:Addr} {b:Bx} {fp:List Addr} {vs:List V} {cs:List Cell} {fps:List (List Addr)}:g_m (hide O H) H a b fp->ArgsAt K H O vs cs fps->ArgsAt K H O (.ref a :: vs) (.own true b :: cs) (fp :: fps)
inductive OutsAt (H:Hp) (O:List Addr):List V->List Cell->List Bx->List (List Addr)->Prop where
 | nil:OutsAt H O [] [] [] []
 | skip {v:V} {c:Cell} {vs:List V} {cs:List Cell} {bs:List Bx} {fps:List (List Addr)}:(∀ io b,c ≠ .own io b)->OutsAt H O vs cs bs fps->OutsAt H O (v :: vs) (c :: cs) bs fps
 | own {a:Addr} {io:Bool} {b b':Bx} {fp:List Addr} {vs:List V} {cs:List Cell} {bs:List Bx} {fps:List (List Addr)}:g_m (hide O H) H a b' fp->OutsAt H O vs cs bs fps->OutsAt H O (.ref a :: vs) (.own io b :: cs) (b' :: bs) (fp :: fps)
structure Beh (H H':Hp) (L L' O₀:List Addr):Prop where
 nd:(L' ++ O₀).Nodup
 live:∀ a ∈ L',∃ o,H' a=some o/\Mv o
 keep:∀ b o,b ∉ L->H b=some o->H' b=some o
 new:∀ a ∈ L',a ∈ L\/H a=none
def spF (K:PySem.W.Frag) (mg:Str->Option Value) (f:FM):Sp:=fun vs H Q E=>∃ (cs:List Cell) (fps:List (List Addr)) (O₀:List Addr),ArgsAt K H (fps.flatten ++ O₀) vs cs fps/\(fps.flatten ++ O₀).Nodup/\(∀ a ∈ fps.flatten ++ O₀,∃ o,H a=some o/\Mv o)/\
 match f cs with
 | .rt c outs=>∀ v H' fp fps',c_f K H' (fps'.flatten ++ fp ++ O₀) v c fp->OutsAt H' (fps'.flatten ++ fp ++ O₀) vs cs outs fps'->Beh H H' fps.flatten (fps'.flatten ++ fp) O₀->Q v H'
 | .ex c outs=>∀ C H' fps',mg c=some C->OutsAt H' (fps'.flatten ++ O₀) vs cs outs fps'->Beh H H' fps.flatten fps'.flatten O₀->E C none H'
 | .bad=>False
theorem ArgsAt.len {K:PySem.W.Frag} {H:Hp} {O:List Addr} {vs:List V} {cs:List Cell} {fps:List (List Addr)} (h:ArgsAt K H O vs cs fps):vs.length=cs.length/\fps.length=cs.length:=by
 induction h with
 | nil=>exact ⟨rfl,rfl⟩
 | dat _ _ ih=>exact ⟨congrArg Nat.succ ih.1,congrArg Nat.succ ih.2⟩
 | oth _ _ _ _ ih=>exact ⟨congrArg Nat.succ ih.1,congrArg Nat.succ ih.2⟩
 | own _ _ ih=>exact ⟨congrArg Nat.succ ih.1,congrArg Nat.succ ih.2⟩
theorem ArgsAt.get {K:PySem.W.Frag} {H:Hp} {O:List Addr} {vs:List V} {cs:List Cell} {fps:List (List Addr)} (h:ArgsAt K H O vs cs fps):∀ (i:Nat) (c:Cell),cs[i]? = some c->∃ v fp,vs[i]? = some v/\fps[i]? = some fp/\c_f K H O v c fp:=by
 induction h with
 | nil=>intro i c e; simp at e
 | dat h _ ih=>
  intro i c e
  cases i with
  | zero=>simp at e; subst e; exact ⟨_,_,rfl,rfl,h⟩
  | succ i=>exact ih i c (by simpa using e)
 | oth _ _ h _ ih=>
  intro i c e
  cases i with
  | zero=>simp at e; subst e; exact ⟨_,_,rfl,rfl,h⟩
  | succ i=>exact ih i c (by simpa using e)
 | own h _ ih=>
  intro i c e
  cases i with
  | zero=>simp at e; subst e; exact ⟨_,_,rfl,rfl,⟨_,rfl,h⟩⟩
  | succ i=>exact ih i c (by simpa using e)
theorem ArgsAt.mono {K:PySem.W.Frag} {H:Hp} {O O':List Addr} {vs:List V} {cs:List Cell} {fps:List (List Addr)} (h:ArgsAt K H O vs cs fps) (s:Stp O H O' H):ArgsAt K H O' vs cs fps:=by
 induction h with
 | nil=>exact .nil
 | dat h _ ih=>exact .dat (DV.mono s.hid h) ih
 | oth h1 h2 h _ ih=>exact .oth h1 h2 (h.keep s (fun _ _=>rfl) (fun _ _ _ e=>e)) ih
 | own h _ ih=>exact .own (h.keep (fun _ _=>rfl) s.hid) ih
theorem OutsAt.mono {H:Hp} {O O':List Addr} {vs:List V} {cs:List Cell} {bs:List Bx} {fps:List (List Addr)} (h:OutsAt H O vs cs bs fps) (s:Stp O H O' H):OutsAt H O' vs cs bs fps:=by
 induction h with
 | nil=>exact .nil
 | skip h1 _ ih=>exact .skip h1 ih
 | own h _ ih=>exact .own (h.keep (fun _ _=>rfl) s.hid) ih
inductive OutS where
 | nx (U:a_r) | rt (c:Cell) (U:a_r) | bk (U:a_r) | ct (U:a_r) | ex (c:Str) (U:a_r) | bad
abbrev SM:=a_r->OutS
def wpS (E:Str->a_r->Prop) (m:SM):DTS:=fun D U=>match m U with
 | .nx U'=>D.nx U'
 | .rt c U'=>D.rt c U'
 | .bk U'=>D.bk U'
 | .ct U'=>D.ct U'
 | .ex c U'=>E c U'
 | .bad=>False
@[simp] def a_4:List Cell->a_r->Option (List Bx)
 | [],_=>some []
 | .own _ _ :: cs,some (.own true b) :: U=>(a_4 cs U).map (b :: ·)
 | .own _ _ :: _,_=>none
 | _ :: cs,_ :: U=>a_4 cs U
 | _ :: _,[]=>none
@[simp] def fnM (n N:Nat) (m:SM):FM:=fun cs=>if cs.length=n then (match m (cs.map some ++ List.replicate (N - n) none) with
 | .nx U=>(match a_4 cs U with | some o=>.rt (.dat .none) o | none=>.bad)
 | .rt c U=>(match a_4 cs U with | some o=>.rt c o | none=>.bad)
 | .ex c U=>(match a_4 cs U with | some o=>.ex c o | none=>.bad)
 | _=>.bad) else .bad
section
variable {K:PySem.W.Frag} {F:Fx} {H:Hp} {Y:St} {U:a_r} {W:List (List Addr)}
theorem i_x {α:Type} {l:List α} {k:Nat} {x:α} {r:List α} (h:l.drop k=x :: r):l[k]? = some x/\l.drop (k + 1)=r:=by
 constructor
 ·rw [<-List.head?_drop,h]; rfl
 ·rw [<-List.drop_drop,h]; rfl
theorem j_o (st:DStW K F H Y U W):∀ (cs:List Cell) (vs:List V) (k:Nat) (outs:List Bx),vs.length=cs.length->(∀ (i:Nat) io b,cs[i]? = some (.own io b)->vs[i]? = some (.ref (F.I₀ (k + i))))->a_4 cs (U.drop k)=some outs->
  ∃ fps,OutsAt H (W.flatten ++ F.O₀) vs cs outs fps/\fps.flatten.Sublist (W.drop k).flatten
 | [],[],k,outs,_,_,e=>by cases e; exact ⟨[],.nil,by simp⟩
 | [],_ :: _,_,_,hl,_,_=>by cases hl
 | _ :: _,[],_,_,hl,_,_=>by cases hl
 | c :: cs,v :: vs,k,outs,hl,hI,e=>by
  have hl':vs.length=cs.length:=Nat.succ.inj hl
  have hI':∀ (i:Nat) io b,cs[i]? = some (.own io b)->vs[i]? = some (.ref (F.I₀ (k + 1 + i))):=fun i io b h=>by
   have:=hI (i + 1) io b (by simpa using h)
   rw [show k + 1 + i=k + (i + 1) by omega]
   simpa using this
  have sub1:(W.drop (k + 1)).flatten.Sublist (W.drop k).flatten:=by
   cases hw:W.drop k with
   | nil=>rw [show W.drop (k + 1)=[] from by rw [<-List.drop_drop,hw]; rfl]; exact List.Sublist.refl _
   | cons w r=>rw [(i_x hw).2,List.flatten_cons]; exact List.sublist_append_right _ _
  cases hd:U.drop k with
  | nil=>
   rw [hd] at e
   cases c with
   | own io b=>cases e
   | dat d=>cases e
   | scr n=>cases e
   | exc n=>cases e
   | vw n=>cases e
  | cons x r=>
   obtain ⟨h1,h2⟩:=i_x hd
   rw [hd] at e
   have nonown:(∀ io b,c ≠ .own io b)->a_4 cs r=some outs->∃ fps,OutsAt H (W.flatten ++ F.O₀) (v :: vs) (c :: cs) outs fps/\fps.flatten.Sublist (W.drop k).flatten:=fun hn he=>by
    obtain ⟨fps,o,s⟩:=j_o st cs vs (k + 1) outs hl' hI' (by rw [h2]; exact he)
    exact ⟨fps,.skip hn o,s.trans sub1⟩
   cases c with
   | dat d=>exact nonown (fun _ _ z=>by cases z) e
   | scr n=>exact nonown (fun _ _ z=>by cases z) e
   | exc n=>exact nonown (fun _ _ z=>by cases z) e
   | vw n=>exact nonown (fun _ _ z=>by cases z) e
   | own io b=>
    cases x with
    | none=>cases e
    | some x=>
     cases x with
     | dat d=>cases e
     | scr n=>cases e
     | exc n=>cases e
     | vw n=>cases e
     | own io' b'=>
      cases io' with
      | false=>cases e
      | true=>
       cases q:a_4 cs r with
       | none=>simp [a_4,q] at e
       | some o'=>
        simp [a_4,q] at e
        subst e
        obtain ⟨fps,o,s⟩:=j_o st cs vs (k + 1) o' hl' hI' (by rw [h2]; exact q)
        obtain ⟨u,fp,e1,e2,a,rfl,bx⟩:=st.at_ k _ h1
        have e3:=st.io k b' h1
        rw [e1] at e3
        have ea:a=F.I₀ k:=by cases e3; rfl
        have hv:=hI 0 io b rfl
        have hv':v=.ref a:=by rw [ea]; simpa using hv
        subst hv'
        refine ⟨fp :: fps,.own bx o,?_⟩
        cases hw:W.drop k with
        | nil=>rw [<-List.head?_drop,hw] at e2; cases e2
        | cons w wr=>
         obtain ⟨w1,w2⟩:=i_x hw
         rw [e2] at w1
         cases w1
         rw [List.flatten_cons,List.flatten_cons]
         rw [w2] at s
         exact List.Sublist.append (List.Sublist.refl _) s
end
theorem g_z {α:Type} (n:Nat):(List.replicate n ([]:List α)).flatten=[]:=by induction n with | zero=>rfl | succ n ih=>rw [List.replicate_succ,List.flatten_cons,ih]; rfl
def e_c (N n:Nat) (cs:List Cell):a_r:=cs.map some ++ List.replicate (N - n) none
section
variable {P:Program} {w:World} {K:PySem.W.Frag} {mg:Str->Option Value} {base:Heap} {x qual:Str} {st:Stmt} {f:Addr} {fd:FuncData} {N ps:List Str} {k:Nat} {m:SM}
def s_e (vs:List V) (i:Nat):Addr:=match vs[i]? with
 | some (.ref a)=>a
 | _=>0
theorem k_k {H:Hp} {vs:List V} {cs:List Cell} {fps:List (List Addr)} {O₀:List Addr} (ha:ArgsAt K H (fps.flatten ++ O₀) vs cs fps) (nd:(fps.flatten ++ O₀).Nodup) (live:∀ a ∈ fps.flatten ++ O₀,∃ o,H a=some o/\Mv o) (hl:cs.length<=N.length) :
  DStW K ⟨H,fps.flatten,O₀,s_e vs⟩ H (start N vs) (e_c N.length cs.length cs) (fps ++ List.replicate (N.length - cs.length) []):=by
 have fl:(fps ++ List.replicate (N.length - cs.length) ([]:List Addr)).flatten=fps.flatten:=by rw [List.flatten_append,g_z,List.append_nil]
 obtain ⟨l1,l2⟩:=ha.len
 have get:∀ (i:Nat) c,(e_c N.length cs.length cs)[i]? = some (some c)->cs[i]? = some c:=fun i c e=>by
  unfold e_c at e
  by_cases h:i < cs.length
  ·rw [List.getElem?_append_left (by simpa using h),List.getElem?_map] at e
   obtain ⟨d,h1,h2⟩:=Option.map_eq_some_iff.mp e
   cases h2
   exact h1
  ·rw [List.getElem?_append_right (by simpa using Nat.le_of_not_lt h),List.getElem?_replicate] at e
   split at e <;> cases e
 have put:∀ (i:Nat) v,vs[i]? = some v->(start N vs)[i]? = some (some v):=fun i v e=>by
  unfold start
  rw [List.getElem?_append_left (by simpa using (List.getElem?_eq_some_iff.mp e).1),List.getElem?_map,e]
  rfl
 refine ⟨fun i c e=>?_,by rw [fl]; exact nd,fun _ _ _ h=>h,fun a h=>.inl (by rw [fl] at h; exact h),by rw [fl]; exact live,?_,?_,fun i b e=>?_⟩
 ·obtain ⟨v,fp,h1,h2,h3⟩:=ha.get i c (get i c e)
  exact ⟨v,fp,put i v h1,by rw [List.getElem?_append_left (List.getElem?_eq_some_iff.mp h2).1]; exact h2,by rw [fl]; exact h3⟩
 ·unfold e_c start
  rw [List.length_append,List.length_append,List.length_map,List.length_map,List.length_replicate,List.length_replicate,l1]
 ·unfold e_c
  rw [List.length_append,List.length_append,List.length_map,List.length_replicate,List.length_replicate,l2]
 ·obtain ⟨v,fp,h1,h2,a,rfl,h3⟩:=ha.get i _ (get i _ e)
  rw [put i _ h1]
  show _=some (some (V.ref (s_e vs i)))
  unfold s_e
  rw [h1]
theorem ArgsAt.ios {H:Hp} {O:List Addr} {vs:List V} {cs:List Cell} {fps:List (List Addr)} (h:ArgsAt K H O vs cs fps):∀ (i:Nat) io b,cs[i]? = some (.own io b)->vs[i]? = some (.ref (s_e vs (0 + i))):=fun i io b e=>by
 obtain ⟨v,fp,h1,_,a,rfl,_⟩:=h.get i _ e
 rw [Nat.zero_add]
 unfold s_e
 rw [h1]
theorem c_3 (Fn:Fun K x qual st f fd) (S:FnScope N ps (a_d st)) (hN:ps.length<=N.length)
  (der:∀ (cdv:Value) (A:Around) (outer:List Env) (s:Shared) (H:Hp) (E:XK) (F:Fx) (E':Str->a_r->Prop),Room k (A.deeper (envOfC qual (a_d st) s.heap.objs.size f cdv))->XOk (p_8 (CXM P w) P w K mg base N qual (a_d st) f cdv A outer s H E) F E'->
   DSs (p_8 (CXM P w) P w K mg base N qual (a_d st) f cdv A outer s H E) F (f_k st) (wpS E' m)):FnOk P w K mg base (CXM P w) (k + 1) f fd ps (spF K mg (fnM ps.length N.length m)):=by
 obtain ⟨oc,od,kV,doc,pm,an,cdv,ct,osl,rfl,lk,hcd⟩:=Fn.ex
 have hlen:∀ vs H Q E,spF K mg (fnM ps.length N.length m) vs H Q E->vs.length=ps.length:=fun vs H Q E ⟨cs,fps,O₀,ha,_,_,q⟩=>by
  rw [ha.len.1]
  unfold fnM at q
  by_cases h:cs.length=ps.length
  ·exact h
  ·rw [if_neg h] at q; exact q.elim
 refine w_L lk hcd S hlen fun A outer s H vs Q E hr hsp=>?_
 have hlv:=hlen vs H Q E hsp
 obtain ⟨cs,fps,O₀,ha,nd,live,q⟩:=hsp
 obtain ⟨l1,l2⟩:=ha.len
 have hlc:cs.length=ps.length:=by omega
 let F:Fx:=⟨H,fps.flatten,O₀,s_e vs⟩
 have st0:=k_k (N:=N) ha nd live (by omega)
 have fin:∀ {Y':St} {H':Hp} {U':a_r} {O':List Addr} {fp:List Addr} {outs:List Bx},DSt K (F.plus fp) H' Y' U' O'->(∀ a ∈ fp,a ∈ F.A₀\/F.H₀ a=none)->a_4 cs U' = some outs->∃ fps',OutsAt H' (fps'.flatten ++ fp ++ O₀) vs cs outs fps'/\Beh H H' fps.flatten (fps'.flatten ++ fp) O₀/\Stp O' H' (fps'.flatten ++ fp ++ O₀) H':=by
  rintro Y' H' U' O' fp outs ⟨W,st',rfl⟩ hfp ho
  obtain ⟨fps',o,sb⟩:=j_o st' cs vs 0 outs l1 (fun i io b e=>ha.ios i io b e) ho
  have sb':fps'.flatten.Sublist W.flatten:=sb
  have sub:(fps'.flatten ++ fp ++ O₀).Sublist (W.flatten ++ (fp ++ O₀)):=by rw [List.append_assoc]; exact List.Sublist.append sb' (List.Sublist.refl _)
  have stp:Stp (W.flatten ++ (fp ++ O₀)) H' (fps'.flatten ++ fp ++ O₀) H':=b_E fun a h=>sub.subset h
  refine ⟨fps',o.mono stp,⟨st'.nd.sublist sub,fun a h=>st'.live a (sub.subset (List.mem_append_left _ h)),fun b o hb e=>st'.kept b o hb e,fun a h=>?_⟩,stp⟩
  rcases List.mem_append.mp h with h | h
  ·exact st'.new a (sb'.subset h)
  ·exact hfp a h
 have hfn:fnM ps.length N.length m cs=(match m (e_c N.length ps.length cs) with
  | .nx U=>(match a_4 cs U with | some o=>.rt (.dat .none) o | none=>.bad)
  | .rt c U=>(match a_4 cs U with | some o=>.rt c o | none=>.bad)
  | .ex c U=>(match a_4 cs U with | some o=>.ex c o | none=>.bad)
  | _=>.bad):=by unfold fnM e_c; rw [if_pos hlc]
 rw [hfn] at q
 rw [hlc] at st0
 let E':Str->a_r->Prop:=fun c U'=>∃ outs,a_4 cs U' = some outs/\∀ C H' fps',mg c=some C->OutsAt H' (fps'.flatten ++ O₀) vs cs outs fps'->Beh H H' fps.flatten fps'.flatten O₀->E C none H'
 refine ⟨_,der cdv A outer s H E F E' hr (v_u fun c C U' Y' H' O' hm st' ⟨outs,ho,k⟩=>?_),?_⟩
 ·obtain ⟨fps',o,b,_⟩:=fin (fp:=[]) st' (fun a h=>by cases h) ho
  rw [List.append_nil] at o b
  exact k C H' fps' hm o b
 ·refine ⟨e_c N.length ps.length cs,_,⟨fun U'=>∃ outs,a_4 cs U' = some outs/\∀ H' fps',OutsAt H' (fps'.flatten ++ [] ++ O₀) vs cs outs fps'->Beh H H' fps.flatten (fps'.flatten ++ []) O₀->Q .non H',fun c U'=>∃ outs,a_4 cs U' = some outs/\∀ v H' fp fps',c_f K H' (fps'.flatten ++ fp ++ O₀) v c fp->OutsAt H' (fps'.flatten ++ fp ++ O₀) vs cs outs fps'->Beh H H' fps.flatten (fps'.flatten ++ fp) O₀->Q v H',fun _=>False,fun _=>False⟩,⟨_,st0,rfl⟩,?_,?_⟩
  ·unfold wpS
   cases hm:m (e_c N.length ps.length cs) with
   | nx U'=>
    rw [hm] at q
    cases ho:a_4 cs U' with
    | none=>simp [ho] at q
    | some outs=>
     simp only [ho] at q
     exact ⟨outs,ho,fun H' fps' o b=>q .non H' [] fps' .non o b⟩
   | rt c U'=>
    rw [hm] at q
    cases ho:a_4 cs U' with
    | none=>simp [ho] at q
    | some outs=>
     simp only [ho] at q
     exact ⟨outs,ho,q⟩
   | ex c U'=>
    rw [hm] at q
    cases ho:a_4 cs U' with
    | none=>simp [ho] at q
    | some outs=>
     simp only [ho] at q
     exact ⟨outs,ho,q⟩
   | bk U'=>rw [hm] at q; exact q
   | ct U'=>rw [hm] at q; exact q
   | bad=>rw [hm] at q; exact q
  ·refine ⟨fun Y' H' U' O' st' s' ⟨outs,ho,k⟩=>?_,fun v Y' H' c U' O' fp r s' ⟨outs,ho,k⟩=>?_,fun _ _ _ _ _ _ z=>z.elim,fun _ _ _ _ _ _ z=>z.elim⟩
   ·obtain ⟨fps',o,b,_⟩:=fin (fp:=[]) st' (fun a h=>by cases h) ho
    exact k H' fps' o b
   ·obtain ⟨fps',o,b,stp⟩:=fin r.st r.new ho
    exact k v H' fp fps' (r.at_.keep stp (fun _ _=>rfl) (fun _ _ _ e=>e)) o b
end
inductive AX where
 | d (x:PyData) | s (j:Nat)
inductive AxAt (Y:St) (G:Hp):List V->List AX->Prop where
 | nil:AxAt Y G [] []
 | d {v:V} {x:PyData} {vs:List V} {as:List AX}:DV G v x->AxAt Y G vs as->AxAt Y G (v :: vs) (.d x :: as)
 | s {v:V} {j:Nat} {vs:List V} {as:List AX}:Y[j]? = some (some v)->AxAt Y G vs as->AxAt Y G (v :: vs) (.s j :: as)
abbrev DTX:=a_r->(List AX->a_r->Prop)->Prop
def MnX (t:DTX):Prop:=∀ U Q Q',(∀ d U',Q d U'->Q' d U')->t U Q->t U Q'
def rdX (K:PySem.W.Frag) (F:Fx) (t:DTX):TA:=fun Y H Q=>∃ U O,DSt K F H Y U O/\t U fun as U'=>∀ vs H' O',DSt K F H' Y U' O'->Stp O H O' H'->AxAt Y (hide O' H') vs as->Q vs H'
structure DX (X:Cx) (F:Fx) (es:List Expr) (t:DTX):Prop where
 mn:MnX t
 pa:PA X es (rdX X.K F t)
section
variable {X:Cx} {F:Fx} {e:Expr} {es:List Expr} {te:DT} {tX:DTX} {x:Str} {p:Pos} {j:Nat}
def y_8:DTX:=fun U Q=>Q [] U
def y_V (te:DT) (t:DTX):DTX:=fun U Q=>te U fun d U1=>t U1 fun as U2=>Q (.d d :: as) U2
def w_5 (j:Nat) (t:DTX):DTX:=fun U Q=>(∃ c,U[j]? = some (some c))/\t U fun as U2=>Q (.s j :: as) U2
theorem u_g:DX X F [] y_8:=⟨fun _ _ _ k q=>k _ _ q,c_w.imp fun Y H Q ⟨U,O,st,q⟩=>q [] H O st .refl .nil⟩
theorem u_w (ha:DE X F e te) (hr:DX X F es tX) (hs:starEach (e :: es) X.env=(false,eval e X.env) :: starEach es X.env:=by rfl):DX X F (e :: es) (y_V te tX):=
 ⟨fun _ _ _ k q=>ha.mn _ _ _ (fun _ _ q1=>hr.mn _ _ _ (fun _ _ q2=>k _ _ q2) q1) q,(b_e ha.pe hr.pa hs).imp fun Y H Q ⟨U,O,st,q⟩=>
  ⟨U,O,st,ha.mn _ _ _ (fun d U1 q1 v H1 O1 st1 s1 d1=>⟨U1,O1,st1,hr.mn _ _ _ (fun as U2 q2 vs H2 O2 st2 s2 d2=>q2 (v :: vs) H2 O2 st2 (s1.trans s2) (.d (DV.mono s2.hid d1) d2)) q1⟩) q⟩⟩
theorem s_E (hv:PE X (.Name x p) (e_A j)) (hr:DX X F es tX) (hs:starEach (.Name x p :: es) X.env=(false,eval (.Name x p) X.env) :: starEach es X.env:=by rfl):DX X F (.Name x p :: es) (w_5 j tX):=
 ⟨fun _ _ _ k ⟨h,q⟩=>⟨h,hr.mn _ _ _ (fun _ _ q2=>k _ _ q2) q⟩,(b_e hv hr.pa hs).imp fun Y H Q ⟨U,O,st,⟨c,hc⟩,q⟩=>by
  obtain ⟨W,h,rfl⟩:=id st
  obtain ⟨v,fp,h1,h2,h3⟩:=h.at_ j c hc
  exact ⟨v,h1,U,_,st,hr.mn _ _ _ (fun as U2 q2 vs H2 O2 st2 s2 d2=>q2 (v :: vs) H2 O2 st2 s2 (.s h1 d2)) q⟩⟩
end
@[simp] def b_U (U:a_r):List AX->Option (List Cell × List (Nat × Bool))
 | []=>some ([],[])
 | .d x :: as=>(match b_U U as with | some (cs,js)=>some (.dat x :: cs,js) | none=>none)
 | .s j :: as=>(match b_U U as with
  | some (cs,js)=>(match U[j]? with
   | some (some (.own io b))=>if js.any (fun p=>p.1 == j) then none else some (.own true b :: cs,(j,io) :: js)
   | some (some c)=>some (c :: cs,js)
   | _=>none)
  | none=>none)
@[simp] def clr:List (Nat × Bool)->a_r->a_r
 | [],U=>U
 | (j,_) :: r,U=>(clr r U).set j none
@[simp] def back:List (Nat × Bool)->List Bx->a_r->a_r
 | (j,io) :: r,b :: bs,U=>back r bs (U.set j (some (.own io b)))
 | _,_,U=>U
theorem j_M {js:List (Nat × Bool)} {U:a_r}:(clr js U).length=U.length:=by
 induction js with
 | nil=>rfl
 | cons p r ih=>obtain ⟨j,io⟩:=p; rw [clr,List.length_set,ih]
theorem s_a {js:List (Nat × Bool)} {U:a_r} {i:Nat} (h:∀ p ∈ js,p.1 ≠ i):(clr js U)[i]? = U[i]?:=by
 induction js with
 | nil=>rfl
 | cons p r ih=>
  obtain ⟨j,io⟩:=p
  rw [clr,List.getElem?_set_ne (h (j,io) List.mem_cons_self),ih fun q hq=>h q (List.mem_cons_of_mem _ hq)]
inductive JsAt (Y:St) (F:Fx) (n:Nat):List V->List Cell->List (Nat × Bool)->Prop where
 | nil:JsAt Y F n [] [] []
 | skip {v:V} {c:Cell} {vs:List V} {cs:List Cell} {js:List (Nat × Bool)}:(∀ io b,c ≠ .own io b)->JsAt Y F n vs cs js->JsAt Y F n (v :: vs) (c :: cs) js
 | own {a:Addr} {io:Bool} {b:Bx} {j:Nat} {vs:List V} {cs:List Cell} {js:List (Nat × Bool)}:Y[j]? = some (some (.ref a))->(io=true->a=F.I₀ j)->j < n->JsAt Y F n vs cs js->JsAt Y F n (.ref a :: vs) (.own true b :: cs) ((j,io) :: js)
section
variable {K:PySem.W.Frag} {F:Fx} {H H':Hp} {Y:St} {U:a_r} {O O':List Addr}
theorem h_y (st:DSt K F H Y U O):∀ (as:List AX) (vs:List V) (cs:List Cell) (js:List (Nat × Bool)),b_U U as=some (cs,js)->AxAt Y (hide O H) vs as->
  ∃ fps O',DSt K (F.plus fps.flatten) H Y (clr js U) O'/\ArgsAt K H O' vs cs fps/\Stp O H O' H/\Stp O' H O H/\(∀ a ∈ fps.flatten,a ∈ F.A₀\/F.H₀ a=none)/\JsAt Y F U.length vs cs js
 | [],vs,cs,js,e,h=>by
  cases e
  cases h
  refine ⟨[],O,st,.nil,.refl,.refl,?_,.nil⟩
  intro a h
  cases h
 | .d x :: as,vs,cs,js,e,h=>by
  cases h with
  | d hv hr=>
   unfold b_U at e
   cases q:b_U U as with
   | none=>rw [q] at e; cases e
   | some p=>
    obtain ⟨cs',js'⟩:=p
    rw [q] at e
    simp only [Option.some.injEq,Prod.mk.injEq] at e
    obtain ⟨e1,e2⟩:=e
    obtain ⟨fps,O',st',ar,s1,s2,nw,ja⟩:=h_y st as _ cs' js' q hr
    subst e1 e2
    exact ⟨[] :: fps,O',st',.dat (DV.mono s1.hid hv) ar,s1,s2,nw,.skip (fun _ _ z=>by cases z) ja⟩
 | .s j :: as,vs,cs,js,e,h=>by
  cases h with
  | @s v _ vs _ hv hr=>
   unfold b_U at e
   cases q:b_U U as with
   | none=>rw [q] at e; cases e
   | some p=>
    obtain ⟨cs',js'⟩:=p
    rw [q] at e
    obtain ⟨fps,O',st',ar,s1,s2,nw,ja⟩:=h_y st as _ cs' js' q hr
    cases hc:U[j]? with
    | none=>rw [hc] at e; cases e
    | some oc=>
     cases oc with
     | none=>rw [hc] at e; cases e
     | some c=>
      rw [hc] at e
      obtain ⟨W,stw,hOW⟩:=id st
      obtain ⟨v',fp',h1,h2,h3⟩:=stw.at_ j c hc
      rw [hv] at h1
      have ev:v' = v:=by cases h1; rfl
      subst ev
      rw [<-hOW] at h3
      have other:(∀ io b,c ≠ .own io b)->∃ fps O',DSt K (F.plus fps.flatten) H Y (clr js' U) O'/\ArgsAt K H O' (v' :: vs) (c :: cs') fps/\Stp O H O' H/\Stp O' H O H/\(∀ a ∈ fps.flatten,a ∈ F.A₀\/F.H₀ a=none)/\JsAt Y F U.length (v' :: vs) (c :: cs') js':=fun hn=>by
       refine ⟨[] :: fps,O',st',?_,s1,s2,nw,.skip hn ja⟩
       cases c with
       | dat d=>exact .dat (DV.mono s1.hid h3) ar
       | own io b=>exact absurd rfl (hn io b)
       | scr ns=>exact .oth (fun _ z=>by cases z) (fun _ _ z=>by cases z) (c_f.keep (c:=.scr ns) (fp:=[]) h3 s1 (fun _ _=>rfl) (fun _ _ _ e=>e)) ar
       | exc n=>exact .oth (fun _ z=>by cases z) (fun _ _ z=>by cases z) (c_f.keep (c:=.exc n) (fp:=[]) h3 s1 (fun _ _=>rfl) (fun _ _ _ e=>e)) ar
       | vw n=>exact .oth (fun _ z=>by cases z) (fun _ _ z=>by cases z) (c_f.keep (c:=.vw n) (fp:=[]) h3 s1 (fun _ _=>rfl) (fun _ _ _ e=>e)) ar
      cases c with
      | dat d=>
       simp only [Option.some.injEq,Prod.mk.injEq] at e
       rw [<-e.1,<-e.2]; exact other (fun _ _ z=>by cases z)
      | scr ns=>
       simp only [Option.some.injEq,Prod.mk.injEq] at e
       rw [<-e.1,<-e.2]; exact other (fun _ _ z=>by cases z)
      | exc n=>
       simp only [Option.some.injEq,Prod.mk.injEq] at e
       rw [<-e.1,<-e.2]; exact other (fun _ _ z=>by cases z)
      | vw n=>
       simp only [Option.some.injEq,Prod.mk.injEq] at e
       rw [<-e.1,<-e.2]; exact other (fun _ _ z=>by cases z)
      | own io b=>
       by_cases hj:js'.any (fun p=>p.1 == j)=true
       ·simp only [if_pos hj] at e; cases e
       ·simp only [if_neg hj,Option.some.injEq,Prod.mk.injEq] at e
        rw [<-e.1,<-e.2]
        have hjs:∀ p ∈ js',p.1 ≠ j:=fun p hp z=>hj (List.any_eq_true.mpr ⟨p,hp,by simp [z]⟩)
        obtain ⟨a,fp,O2,t1,t2,t3,t4,t5,t6,t7⟩:=st'.take (i:=j) (io:=io) (b:=b) (by rw [s_a hjs]; exact hc)
        rw [hv] at t1
        have ev:v' = .ref a:=by cases t1; rfl
        subst ev
        rw [Fx.plus_plus] at t2
        refine ⟨fp :: fps,O2,t2,.own t3 (ar.mono t4),s1.trans t4,t5.trans s2,fun x hx=>?_,.own hv t7 (List.getElem?_eq_some_iff.mp hc).1 ja⟩
        rcases List.mem_append.mp hx with hx | hx
        ·exact t6 x hx
        ·exact nw x hx
theorem h_E {fp:List Addr} {n:Nat} {vs:List V} {cs:List Cell} {js:List (Nat × Bool)} (ja:JsAt Y F n vs cs js):∀ {outs:List Bx} {fps:List (List Addr)} {U:a_r} {O:List Addr},U.length=n->DSt K (F.plus (fps.flatten ++ fp)) H Y U O->OutsAt H O vs cs outs fps->(∀ a ∈ fps.flatten,a ∈ F.A₀\/F.H₀ a=none)->
  ∃ O',DSt K (F.plus fp) H Y (back js outs U) O'/\Stp O H O' H:=by
 induction ja with
 | nil=>
  intro outs fps U O hn st oa nw
  cases oa
  exact ⟨O,st,.refl⟩
 | skip hn' _ ih=>
  intro outs fps U O hn st oa nw
  cases oa with
  | skip _ oa=>exact ih hn st oa nw
  | own _ _=>exact absurd rfl (hn' _ _)
 | @own a io b j vs cs js h1 h2 h3 ja ih=>
  intro outs fps U O hn st oa nw
  cases oa with
  | skip hn' _=>exact absurd rfl (hn' _ _)
  | @own _ _ _ b' f1 _ _ bs fr hb oa=>
   have st':DSt K ((F.plus (fr.flatten ++ fp)).plus f1) H Y U O:=by rw [Fx.plus_plus,<-List.append_assoc]; exact st
   obtain ⟨O1,st1,s1⟩:=DSt.put1 (io:=true) (c:=.own io b') (v:=.ref a) (i:=j) st' ⟨a,rfl,hb⟩ (fun x hx=>nw x (by rw [List.flatten_cons]; exact List.mem_append_left _ hx)) (by rw [hn]; exact h3) (fun b z=>by cases z; rw [h2 rfl]; rfl)
   have eY:Y.set j (some (.ref a))=Y:=by
    apply List.ext_getElem?
    intro i
    by_cases hj:i=j
    ·subst hj; rw [List.getElem?_set_self (List.getElem?_eq_some_iff.mp h1).1,h1]
    ·rw [List.getElem?_set_ne (Ne.symm hj)]
   rw [eY] at st1
   obtain ⟨O2,st2,s2⟩:=ih (by rw [List.length_set]; exact hn) st1 (oa.mono s1) (fun x hx=>nw x (by rw [List.flatten_cons]; exact List.mem_append_right _ hx))
   exact ⟨O2,st2,s1.trans s2⟩
end
def d_J (f:FM) (E:Str->a_r->Prop) (Q:Cell->a_r->Prop) (as:List AX) (U:a_r):Prop:=match b_U U as with
 | some (cs,js)=>(match f cs with
  | .rt c outs=>Q c (back js outs (clr js U))
  | .ex c outs=>E c (back js outs (clr js U))
  | .bad=>False)
 | none=>False
def s_I (f:FM) (E:Str->a_r->Prop) (t:DTX):DTO:=fun U Q=>t U fun as U1=>d_J f E Q as U1
section
variable {X:Cx} {F:Fx} {e:Expr} {es:List Expr} {tX:DTX} {E:Str->a_r->Prop} {pos p:Pos} {x:Str} {f:FM} {k:Nat} {g:Addr} {fd:FuncData} {ps:List Str}
theorem k_1 {Q Q':Cell->a_r->Prop} {as:List AX} {U:a_r} (h:∀ c U',Q c U'->Q' c U') (q:d_J f E Q as U):d_J f E Q' as U:=by
 unfold d_J at q ⊢
 split
 ·rename_i cs js e
  rw [e] at q
  simp only at q
  split
  ·rename_i e2; rw [e2] at q; exact h _ _ q
  ·rename_i e2; rw [e2] at q; exact q
  ·rename_i e2; rw [e2] at q; exact q
 ·rename_i e; rw [e] at q; exact q
theorem l_E {pins:List (Addr × Obj)} {Y:St} {H:Hp} {s:Shared} {Q:VK} {us:List Value} {vs:List V} {as:List AX} {U:a_r} {O:List Addr} {QC:Cell->a_r->Prop} (hx:XOk X F E) (G:FnOk X.prog X.w X.K X.mg X.base (CXM X.prog X.w) k g fd ps (spF X.K X.mg f)) (hr:Room k X.A) (hb:h_t X.K fd ps [])
  (I:Inv X pins Y H s) (r:b_y vs us) (st:DSt X.K F H Y U O) (ax:AxAt Y (hide O H) vs as) (q:d_J f E QC as U) (hQ:∀ c U',QC c U'->∀ v H' O' fp,Res X.K F H' Y U' O' v c fp->Stp O H O' H'->Q v H') :
  wpAny (model X.prog X.w) X.A (call (.ref g) us) (EP X pins Y Q) X.xe s:=by
 unfold d_J at q
 cases hc:b_U U as with
 | none=>rw [hc] at q; exact q.elim
 | some p=>
  obtain ⟨cs,js⟩:=p
  rw [hc] at q
  simp only at q
  obtain ⟨fps,O2,st2,ar,s1,s1',nw,ja⟩:=h_y st as vs cs js hc ax
  obtain ⟨W,stw,hO2⟩:=id st2
  have ndO:(W.flatten ++ (fps.flatten ++ F.O₀)).Nodup:=stw.nd
  have memO:∀ a,a ∈ O2 ↔ a ∈ fps.flatten ++ (W.flatten ++ F.O₀):=fun a=>by
   rw [hO2]
   show a ∈ W.flatten ++ (fps.flatten ++ F.O₀) ↔ _
   simp only [List.mem_append]
   constructor
   ·rintro (h | h | h) <;> simp [h]
   ·rintro (h | h | h) <;> simp [h]
  have perm:(fps.flatten ++ (W.flatten ++ F.O₀)).Perm (W.flatten ++ (fps.flatten ++ F.O₀)):=by
   rw [<-List.append_assoc,<-List.append_assoc]
   exact List.Perm.append_right _ List.perm_append_comm
  have nd1:(fps.flatten ++ (W.flatten ++ F.O₀)).Nodup:=perm.nodup_iff.mpr ndO
  have stE:Stp O2 H (fps.flatten ++ (W.flatten ++ F.O₀)) H:=b_E fun a h=>(memO a).mpr h
  have back2:∀ (H':Hp) (L':List Addr) (a:Addr),(a ∈ L' ++ (W.flatten ++ F.O₀))->a ∈ L'\/(a ∈ O2/\a ∉ fps.flatten):=fun H' L' a h=>by
   rcases List.mem_append.mp h with h | h
   ·exact .inl h
   ·refine .inr ⟨(memO a).mpr (List.mem_append_right _ h),fun z=>?_⟩
    exact (List.nodup_append.mp nd1).2.2 a z a h rfl
  have swapped:∀ (H':Hp) (L':List Addr),Beh H H' fps.flatten L' (W.flatten ++ F.O₀)->∃ O3,DSt X.K (F.plus L') H' Y (clr js U) O3/\Stp O2 H O3 H'/\∀ a,a ∈ O3 ↔ a ∈ L' ++ (W.flatten ++ F.O₀):=fun H' L' bh=>by
   obtain ⟨O3,t1,t2,t3,t4,t5⟩:=st2.swap (H':=H') (L':=L') bh.keep (List.nodup_append.mp bh.nd).1 bh.new nw bh.live
   refine ⟨O3,t1,t2,fun a=>⟨fun h=>?_,fun h=>?_⟩⟩
   ·rcases t4 a h with z | ⟨z1,z2⟩
    ·exact List.mem_append_left _ z
    ·rcases List.mem_append.mp ((memO a).mp z1) with z | z
     ·exact absurd z z2
     ·exact List.mem_append_right _ z
   ·rcases back2 H' L' a h with z | ⟨z1,z2⟩
    ·exact t3 a z
    ·exact t5 a z1 z2
  have r2:b_y (vs ++ []) (us ++ []):=by rw [List.append_nil,List.append_nil]; exact r
  let EX:XK:=fun C _ H'=>∃ c U' O',X.mg c=some C/\DSt X.K F H' Y U' O'/\E c U'
  have sp:spF X.K X.mg f vs H Q EX:=by
   refine ⟨cs,fps,W.flatten ++ F.O₀,ar.mono stE,nd1,fun a h=>?_,?_⟩
   ·exact stw.live a (by have:=(memO a).mpr h; rw [hO2] at this; exact this)
   ·cases hf:f cs with
    | bad=>rw [hf] at q; exact q
    | rt c outs=>
     rw [hf] at q
     simp only at q ⊢
     intro v H' fp fps' hca hou bh
     obtain ⟨O3,t1,t2,t3⟩:=swapped H' (fps'.flatten ++ fp) bh
     have eq3:Stp (fps'.flatten ++ fp ++ (W.flatten ++ F.O₀)) H' O3 H':=b_E fun a h=>(t3 a).mp h
     have nwo:∀ a ∈ fps'.flatten ++ fp,a ∈ F.A₀\/F.H₀ a=none:=fun a h=>by
      rcases bh.new a h with z | z
      ·exact nw a z
      ·by_cases hA:a ∈ F.A₀
       ·exact .inl hA
       ·refine .inr ?_
        cases e:F.H₀ a with
        | none=>rfl
        | some o=>have:=stw.kept a o hA e; rw [z] at this; cases this
     have lj:(clr js U).length=U.length:=j_M
     obtain ⟨O4,u1,u2⟩:=h_E (fp:=fp) ja lj t1 (hou.mono eq3) fun a h=>nwo a (List.mem_append_left _ h)
     exact hQ c _ q v H' O4 fp ⟨u1,hca.keep (eq3.trans u2) (fun _ _=>rfl) (fun _ _ _ e=>e),fun a h=>nwo a (List.mem_append_right _ h)⟩ (s1.trans (t2.trans u2))
    | ex c outs=>
     rw [hf] at q
     simp only at q ⊢
     intro C H' fps' hm hou bh
     obtain ⟨O3,t1,t2,t3⟩:=swapped H' fps'.flatten bh
     have eq3:Stp (fps'.flatten ++ (W.flatten ++ F.O₀)) H' O3 H':=b_E fun a h=>(t3 a).mp h
     have nwo:∀ a ∈ fps'.flatten,a ∈ F.A₀\/F.H₀ a=none:=fun a h=>by
      rcases bh.new a h with z | z
      ·exact nw a z
      ·by_cases hA:a ∈ F.A₀
       ·exact .inl hA
       ·refine .inr ?_
        cases e:F.H₀ a with
        | none=>rfl
        | some o=>have:=stw.kept a o hA e; rw [z] at this; cases this
     have lj:(clr js U).length=U.length:=j_M
     obtain ⟨O4,u1,u2⟩:=h_E (fp:=[]) ja lj (by rw [List.append_nil]; exact t1) (hou.mono eq3) nwo
     exact ⟨c,_,O4,hm,u1,q⟩
  have hl:(us ++ []).length=ps.length:=by rw [List.append_nil,<-r.length]; exact G.len _ _ _ _ sp
  refine wpAny_call (codeAny_mono (G.run X.A X.stack s H ⟨us,[]⟩ us vs Q EX hr I.env0 (by have:=hb s us I.kIn hl; rw [List.append_nil] at this; exact this) r sp) fun r s' hq=>?_)
  cases r with
  | error e=>
   obtain ⟨a,C,H',e1,I',cv,ex,c,U',O',hm,st',hE⟩:=I.flies hq
   exact hx pins Y H' s' e c U' O' ⟨I',a,C,s.heap,_,e1,cv,ex,hm⟩ st' hE
  | ok fl=>
   cases fl with
   | ret u=>exact I.after hq
   | next=>exact False.elim hq
   | brk=>exact False.elim hq
   | cont=>exact False.elim hq
theorem r_J (hx:XOk X F E) (G:FnOk X.prog X.w X.K X.mg X.base (CXM X.prog X.w) k g fd ps (spF X.K X.mg f)) (hr:Room k X.A) (hg:Gl X x) (hm:X.mg x=some (.ref g)) (hk:keepIn X.K (.ref g)=true) (hb:h_t X.K fd ps [])
  (ha:DX X F (e :: es) tX) (hdb:(x == ("__debug__":Str))=false:=by decide) (he:starEach (e :: es) X.env=(false,eval e X.env) :: starEach es X.env:=by rfl) (hpl:(backTo pos (starEach es X.env)).any (·.1)=false:=by rfl) :
  DO X F (.Call (.Name x p) (e :: es) [] pos) (s_I f E tX):=by
 refine ⟨fun U Q Q' k q=>ha.mn _ _ _ (fun as U1 q1=>k_1 k q1) q,fun pins s Y H Q I ⟨U,O,st,q⟩=>?_⟩
 refine wpAny_Call_Name_kw (g_V I hg hm ?_ hdb)
 refine PySem.W.callWith_K (h₀:=X.base) I.ok.mod.kin hk (thn (ha.pa pos pins s Y H (fun vs H1=>∃ as U1 O1,DSt X.K F H1 Y U1 O1/\Stp O H O1 H1/\AxAt Y (hide O1 H1) vs as/\d_J f E (fun c U'=>∀ v H' O' fp,Res X.K F H' Y U' O' v c fp->Stp O H O' H'->Q v H') as U1) I ⟨U,O,st,ha.mn _ _ _ (fun as U1 q1 vs H1 O1 st1 s1 ax=>⟨as,U1,O1,st1,s1,ax,q1⟩) q⟩) fun us s1 ⟨vs,H1,I1,r,as,U1,O1,st1,s01,ax,q1⟩=>⟨I1.kIn,?_⟩) he hpl
 exact l_E hx G hr hb I1 r st1 ax q1 fun c U' h v H' O' fp res s2=>h v H' O' fp res (s01.trans s2)
end
def OOk (H:Hp) (O:List Addr):Prop:=∀ a ∈ O,∃ o,H a=some o/\Mv o
theorem OOk.nofree {H:Hp} {O:List Addr} (h:OOk H O):∀ p,H p=none->p ∉ O:=fun p hp z=>by obtain ⟨o,e,_⟩:=h p z; rw [hp] at e; cases e
theorem DSt.live {K:PySem.W.Frag} {F:Fx} {H:Hp} {Y:St} {U:a_r} {O:List Addr} (st:DSt K F H Y U O):OOk H O:=by
 obtain ⟨W,h,rfl⟩:=st
 exact h.live
abbrev DTI:=a_r->(List PyData->a_r->Prop)->Prop
def Wk (O:List Addr) (H:Hp) (J:It) (its:List PyData):Prop:=∀ O' H',Stp O H O' H'->OOk H' O'->
 (∀ i d,its[i]? = some d->J.go i H'/\∀ x H'',J.yld i H' x H''->e_W H' H''/\DV (hide O' H'') x d)/\J.stop its.length H'
def rdI (K:PySem.W.Frag) (F:Fx) (s:DTI):TI:=fun Y H R=>∃ U O,DSt K F H Y U O/\s U fun its U'=>∀ J H' O',DSt K F H' Y U' O'->Stp O H O' H'->Wk O' H' J its->R J H'
structure DI (X:Cx) (F:Fx) (tg iter:Expr) (s:DTI):Prop where
 mn:∀ U Q Q',(∀ d U',Q d U'->Q' d U')->s U Q->s U Q'
 pi:PI X tg iter (rdI X.K F s)
theorem _root_.L2.PI.imp {X:Cx} {tg e:Expr} {t t':TI} (h:PI X tg e t) (k:∀ Y H Q,t' Y H Q->t Y H Q):PI X tg e t':=fun pins s Y H Q I q=>h pins s Y H Q I (k Y H Q q)
section
variable {X:Cx} {F:Fx} {tg e a b:Expr} {te:DT} {tA:DTA} {pos p:Pos}
def iL (te:DT):DTI:=fun U Q=>te U fun d U'=>∃ ds,d=.list ds/\Q ds U'
def iT (te:DT):DTI:=fun U Q=>te U fun d U'=>∃ ds,d=.tuple ds/\Q ds U'
theorem s_m {K:PySem.W.Frag} {O:List Addr} {H:Hp} {a:Addr} {xs:List V} {ds:List PyData} (ha:hide O H a=some (.lst xs)) (hd:DVs (hide O H) xs ds):Wk O H (Itl K a) ds:=fun O' H' s ok=>by
 obtain ⟨h1,n1⟩:=a_F ha
 have h2:=s.keep a _ n1 h1
 have hd':=DVs.mono s.hid hd
 refine ⟨fun i d e=>?_,⟨xs,.of h2,by rw [hd.length]; exact Nat.le_refl _⟩⟩
 obtain ⟨v,hv,dv⟩:=hd'.get e
 refine ⟨⟨xs,v,.of h2,hv⟩,fun x H'' ⟨e1,e2⟩=>?_⟩
 subst e1
 have:=e2 xs (.of h2)
 rw [hv] at this
 cases this
 exact ⟨fun _ _ h=>h,dv⟩
theorem u_s {K:PySem.W.Frag} {O:List Addr} {H:Hp} {a:Addr} {xs:List V} {ds:List PyData} (ha:hide O H a=some (.tup xs)) (hd:DVs (hide O H) xs ds):Wk O H (Itt K a) ds:=fun O' H' s ok=>by
 obtain ⟨h1,n1⟩:=a_F ha
 have h2:=s.keep a _ n1 h1
 have hd':=DVs.mono s.hid hd
 refine ⟨fun i d e=>?_,⟨xs,.of h2,by rw [hd.length]; exact Nat.le_refl _⟩⟩
 obtain ⟨v,hv,dv⟩:=hd'.get e
 refine ⟨⟨xs,v,.of h2,hv⟩,fun x H'' ⟨e1,e2⟩=>?_⟩
 subst e1
 have:=e2 xs (.of h2)
 rw [hv] at this
 cases this
 exact ⟨fun _ _ h=>h,dv⟩
theorem r_F (h:DE X F e te):DI X F tg e (iL te):=
 ⟨fun _ _ _ k q=>h.mn _ _ _ (fun _ _ ⟨ds,e,q⟩=>⟨ds,e,k _ _ q⟩) q,(r_H h.pe).imp fun Y H R ⟨U,O,st,q⟩=>
  ⟨U,O,st,h.mn _ _ _ (fun d U1 ⟨ds,e,q1⟩ v H1 O1 st1 s1 d1=>by
   subst e
   obtain ⟨a,xs,rfl,ha,hd⟩:=d1.lst_inv
   exact ⟨a,rfl,⟨xs,.of (a_F ha).1⟩,q1 _ H1 O1 st1 s1 (s_m ha hd)⟩) q⟩⟩
theorem v_x (h:DE X F e te):DI X F tg e (iT te):=
 ⟨fun _ _ _ k q=>h.mn _ _ _ (fun _ _ ⟨ds,e,q⟩=>⟨ds,e,k _ _ q⟩) q,(u_r h.pe).imp fun Y H R ⟨U,O,st,q⟩=>
  ⟨U,O,st,h.mn _ _ _ (fun d U1 ⟨ds,e,q1⟩ v H1 O1 st1 s1 d1=>by
   subst e
   obtain ⟨a,xs,rfl,ha,hd⟩:=d1.tup_inv
   exact ⟨a,rfl,⟨xs,.of (a_F ha).1⟩,q1 _ H1 O1 st1 s1 (u_s ha hd)⟩) q⟩⟩
def intsFrom (lo:Int) (n:Nat):List PyData:=(List.range n).map fun (i:Nat)=>PyData.int (lo + i)
theorem c_t (lo:Int) (n:Nat):(intsFrom lo n).length=n:=by unfold intsFrom; rw [List.length_map,List.length_range]
theorem q_e {O:List Addr} {H:Hp} {lo:Int} {n:Nat}:Wk O H (Itr lo n) (intsFrom lo n):=fun O' H' s ok=>by
 refine ⟨fun i d e=>?_,by show n<=(intsFrom lo n).length; rw [c_t]; exact Nat.le_refl _⟩
 unfold intsFrom at e
 rw [List.getElem?_map] at e
 obtain ⟨j,e1,e2⟩:=Option.map_eq_some_iff.mp e
 obtain ⟨hlt,e3⟩:=List.getElem?_eq_some_iff.mp e1
 rw [List.length_range] at hlt
 rw [List.getElem_range] at e3
 subst e3 e2
 exact ⟨hlt,fun x H'' ⟨q1,q2⟩=>by subst q1 q2; exact ⟨fun _ _ h=>h,.int _⟩⟩
def iR1 (t:DTA):DTI:=fun U Q=>t U fun ds U'=>∃ j:Int,ds=[.int j]/\-(2 ^ 62)<=j/\j < 2 ^ 62/\Q (intsFrom 0 j.toNat) U'
theorem e_5 (hg:Gl X "range") (hm:X.mg "range" = none) (ha:DA X F [a] tA) (hs:starEach [a] X.env=[(false,eval a X.env)]:=by rfl):DI X F tg (.Call (.Name "range" p) [a] [] pos) (iR1 tA):=
 ⟨fun _ _ _ k q=>ha.mn _ _ _ (fun _ _ ⟨j,e,h1,h2,q⟩=>⟨j,e,h1,h2,k _ _ q⟩) q,(n_8 hg hm ha.pa hs).imp fun Y H R ⟨U,O,st,q⟩=>
  ⟨U,O,st,ha.mn _ _ _ (fun ds U1 ⟨j,e,h1,h2,q1⟩ vs H1 O1 st1 s1 d1=>by
   subst e
   cases d1 with
   | cons d r=>
    cases r
    obtain rfl:=d.int_inv
    exact ⟨j,rfl,h1,h2,q1 _ H1 O1 st1 s1 q_e⟩) q⟩⟩
def numbered (ds:List PyData):List PyData:=ds.mapIdx fun i d=>PyData.tuple [.int i,d]
def iE (t:DTA):DTI:=fun U Q=>t U fun ds U'=>∃ es,ds=[.list es]/\Q (numbered es) U'
theorem r_I {elts:List Expr} {kk:Nat} {tpos:Pos} (hg:Gl X "enumerate") (hm:X.mg "enumerate" = none) (ha:DA X F [a] tA) (hs:starEach [a] X.env=[(false,eval a X.env)]:=by rfl):DI X F (.Tuple elts kk tpos) (.Call (.Name "enumerate" p) [a] [] pos) (iE tA):=
 ⟨fun _ _ _ k q=>ha.mn _ _ _ (fun _ _ ⟨j,e,q⟩=>⟨j,e,k _ _ q⟩) q,(r_v hg hm ha.pa hs).imp fun Y H R ⟨U,O,st,q⟩=>
  ⟨U,O,st,ha.mn _ _ _ (fun ds U1 ⟨es,e,q1⟩ vs H1 O1 st1 s1 d1=>by
   subst e
   cases d1 with
   | cons d r=>
    cases r
    obtain ⟨a,xs,rfl,hx,hd⟩:=d.lst_inv
    obtain ⟨hx1,hn1⟩:=a_F hx
    refine ⟨a,xs,rfl,.of hx1,q1 _ H1 O1 st1 s1 fun O' H' s ok=>?_⟩
    have h2:=s.keep a _ hn1 hx1
    have hd':=DVs.mono s.hid hd
    refine ⟨fun i d e=>?_,⟨xs,.of h2,by unfold numbered; rw [List.length_mapIdx,hd.length]; exact Nat.le_refl _⟩⟩
    unfold numbered at e
    rw [List.getElem?_mapIdx] at e
    obtain ⟨d0,e1,e2⟩:=Option.map_eq_some_iff.mp e
    subst e2
    obtain ⟨v,hv,dv⟩:=hd'.get e1
    refine ⟨⟨xs,v,.of h2,hv⟩,fun x H'' ⟨T,y,q1,q2,q3,q4⟩=>?_⟩
    subst q1 q3
    have:=q4 xs (.of h2)
    rw [hv] at this
    cases this
    exact ⟨a_n q2,d_q q2 (ok.nofree T q2) (.cons (.int _) (.cons dv .nil))⟩) q⟩⟩
end
def y_3 (s:DTI) (g:DTG) (tb:DTS):DTS:=fun D U=>s U fun its U1=>∃ Iv:Nat->a_r->Prop,Iv 0 U1/\(∀ i d U,its[i]? = some d->Iv i U->g d U fun U2=>tb { D with nx:=Iv (i + 1),ct:=Iv (i + 1),bk:=D.nx } U2)/\∀ U,Iv its.length U->D.nx U
section
variable {X:Cx} {F:Fx} {tg iter:Expr} {body:List Stmt} {s:DTI} {g:DTG} {tb:DTS} {pos:Pos}
theorem u_B (hp:PassesOwn (model X.prog X.w) X.A X.env X.xe) (hc:X.calm=true) (hi:DI X F tg iter s) (hg:DG X F tg g) (hb:DSs X F body tb) (hs:∀ x,foldedSetIterable iter X.env x=pure x:=by intro _; rfl):DS X F (.For tg iter body [] pos) (y_3 s g tb):=
 (t_m hp hc hi.pi hg.pg hb hs).imp fun D Y H ⟨U,O,DD,st,q,f⟩=>by
  refine ⟨U,O,st,hi.mn _ _ _ (fun its U1 ⟨Iv,i0,step,fin⟩ J H1 O1 st1 s1 wk=>?_) q⟩
  refine ⟨fun i m Y' H'=>∃ U' O',DSt X.K F H' Y' U' O'/\Stp O1 H1 O' H'/\Iv i U'/\i<=its.length/\m=its.length - i,⟨its.length,U1,O1,st1,.refl,i0,Nat.zero_le _,rfl⟩,?_⟩
  rintro i m Y' H' ⟨U',O',st',s',iv,hi',rfl⟩
  obtain ⟨w1,w2⟩:=wk O' H' s' st'.live
  by_cases hlt:i < its.length
  ·obtain ⟨go,yld⟩:=w1 i its[i] (List.getElem?_eq_getElem hlt)
   refine .inr ⟨go,fun Y2 H2=>∃ U2 O2,DSt X.K F H2 Y2 U2 O2/\Stp O1 H1 O2 H2/\Iv (i + 1) U2,fun Y2 H2 ⟨U2,O2,st2,s2,iv2⟩=>⟨its.length - (i + 1),by omega,U2,O2,st2,s2,iv2,hlt,rfl⟩,fun x H2 hy=>?_⟩
   obtain ⟨sm,dv⟩:=yld x H2 hy
   refine ⟨U',O',its[i],st'.grow sm,dv,hg.mn _ _ _ _ (fun U2 q2 Y3 H3 O3 st3 s3=>?_) (step i its[i] U' (List.getElem?_eq_getElem hlt) iv)⟩
   have s13:Stp O1 H1 O3 H3:=s'.trans ((Stp.same sm).trans s3)
   have nxt:∀ Y4 H4 U4 O4,DSt X.K F H4 Y4 U4 O4->Stp O3 H3 O4 H4->Iv (i + 1) U4->∃ U2 O2,DSt X.K F H4 Y4 U2 O2/\Stp O1 H1 O2 H4/\Iv (i + 1) U2:=fun Y4 H4 U4 O4 st4 s4 q4=>⟨U4,O4,st4,s13.trans s4,q4⟩
   exact ⟨U2,O3,_,st3,q2,⟨nxt,fun v Y4 H4 d U4 O4 fp4 st4 s4 q4=>f.rt v Y4 H4 d U4 O4 fp4 st4 (s1.trans (s13.trans s4)) q4,fun Y4 H4 U4 O4 st4 s4 q4=>f.nx Y4 H4 U4 O4 st4 (s1.trans (s13.trans s4)) q4,nxt⟩⟩
  ·have e:i=its.length:=by omega
   subst e
   exact .inl ⟨w2,f.nx Y' H' U' O' st' (s1.trans s') (fin U' iv)⟩
end
def u_0 (c:DTT) (tb:DTS):DTS:=fun D U=>∃ (Iv:a_r->Prop) (μ:a_r->Nat),Iv U/\∀ U,Iv U->c U fun b U1=>if b=true then tb { D with nx:=fun U2=>Iv U2/\μ U2 < μ U,ct:=fun U2=>Iv U2/\μ U2 < μ U,bk:=D.nx } U1 else D.nx U1
section
variable {X:Cx} {F:Fx} {c:Expr} {body:List Stmt} {tc:DTT} {tb:DTS} {pos:Pos}
theorem p_1 (hp:PassesOwn (model X.prog X.w) X.A X.env X.xe) (hc:DB X F c tc) (hb:DSs X F body tb):DS X F (.While c body [] pos) (u_0 tc tb):=
 (p_u hp hc.pt hb).imp fun D Y H ⟨U,O,DD,st,⟨Iv,μ,i0,step⟩,f⟩=>by
  refine ⟨fun m Y' H'=>∃ U' O',DSt X.K F H' Y' U' O'/\Stp O H O' H'/\Iv U'/\m=μ U',⟨μ U,U,O,st,.refl,i0,rfl⟩,?_⟩
  rintro m Y' H' ⟨U',O',st',s',iv,rfl⟩
  refine ⟨U',O',st',hc.mn _ _ _ (fun b U1 q1 H1 O1 st1 s1=>?_) (step U' iv)⟩
  cases b with
  | false=>exact j_7 (f.nx _ _ _ _ st1 (s'.trans s1) (ofF q1))
  | true=>
   refine j_6 ⟨fun Y2 H2=>∃ U2 O2,DSt X.K F H2 Y2 U2 O2/\Stp O H O2 H2/\Iv U2/\μ U2 < μ U',fun Y2 H2 ⟨U2,O2,st2,s2,iv2,lt⟩=>⟨μ U2,lt,U2,O2,st2,s2,iv2,rfl⟩,?_⟩
   have nxt:∀ Y4 H4 U4 O4,DSt X.K F H4 Y4 U4 O4->Stp O1 H1 O4 H4->(Iv U4/\μ U4 < μ U')->∃ U2 O2,DSt X.K F H4 Y4 U2 O2/\Stp O H O2 H4/\Iv U2/\μ U2 < μ U':=fun Y4 H4 U4 O4 st4 s4 q4=>⟨U4,O4,st4,s'.trans (s1.trans s4),q4⟩
   exact ⟨U1,O1,_,st1,ofT q1,⟨nxt,fun v Y4 H4 d U4 O4 fp4 st4 s4 q4=>f.rt v Y4 H4 d U4 O4 fp4 st4 (s'.trans (s1.trans s4)) q4,fun Y4 H4 U4 O4 st4 s4 q4=>f.nx Y4 H4 U4 O4 st4 (s'.trans (s1.trans s4)) q4,nxt⟩⟩
end
@[simp] def x_M:Option (Option Cell)->Option Cell
 | some (some (.dat d))=>some (.dat d)
 | some (some (.scr ns))=>some (.scr ns)
 | some (some (.vw b))=>some (.vw b)
 | _=>none
def d_1 (own:List Str) (caps:List Nat) (U:a_r):a_r:=own.map (fun _=>none) ++ caps.map fun j=>x_M U[j]?
def u_K (own:List Str) (caps:List Nat) (s:DTI) (g:DTG) (tc:DTT) (te:DT):DT:=fun U Q=>s U fun its U1=>∃ Iv:Nat->List PyData->a_r->Prop,Iv 0 [] (d_1 own caps U1)/\
 (∀ i d ys U',its[i]? = some d->Iv i ys U'->g d U' fun U2=>tc U2 fun b U3=>if b=true then te U3 fun y U4=>ys.length < sizeLine/\Iv (i + 1) (ys ++ [y]) U4 else Iv (i + 1) ys U3)/\
 ∀ ys U',Iv its.length ys U'->ys.length<=sizeLine/\Q (.list ys) U1
def MnI (s:DTI):Prop:=∀ U Q Q',(∀ d U',Q d U'->Q' d U')->s U Q->s U Q'
section
variable {K:PySem.W.Frag} {F:Fx} {own:List Str} {caps:List Nat} {s:DTI} {g:DTG} {tc:DTT} {te:DT}
theorem n_G (hs:MnI s):Mn (u_K own caps s g tc te):=fun _ _ _ k q=>hs _ _ _ (fun _ _ ⟨Iv,h0,h1,h2⟩=>⟨Iv,h0,h1,fun ys U' h=>⟨(h2 ys U' h).1,k _ _ (h2 ys U' h).2⟩⟩) q
theorem q_A (hs:MnI s) (hg:∀ d U Q Q',(∀ U',Q U'->Q' U')->g d U Q->g d U Q') (ht:MnT tc) (he:Mn te):∀ Y H Q,rdE K F (u_K own caps s g tc te) Y H Q->
  m_I own caps (rdI K F s) (fun v Y H Q=>∃ F',rdG K F' g v Y H Q) (fun Y H Q=>∃ F',rdT K F' tc Y H Q) (fun Y H Q=>∃ F',rdE K F' te Y H Q) Y H Q:=fun Y H Q ⟨U,O,st,q⟩=>by
 refine ⟨U,O,st,hs _ _ _ (fun its U1 ⟨Iv,i0,step,fin⟩ J H1 O1 st1 s1 wk=>?_) q⟩
 refine ⟨fun i m ys Y' H'=>∃ U' O' ds,DSt K ⟨H1,[],O1,fun _=>0⟩ H' Y' U' O'/\Iv i ds U'/\DVs (hide O' H') ys ds/\i<=its.length/\m=its.length - i,⟨its.length,d_1 own caps U1,O1,[],?_,i0,.nil,Nat.zero_le _,rfl⟩,?_⟩
 ·have cell:∀ (i:Nat) (c:Cell),(d_1 own caps U1)[i]? = some (some c)->(∀ io b,c ≠ .own io b)/\∃ v,(g_a own caps Y)[i]? = some (some v)/\c_f K H1 O1 v c []:=fun i c e=>by
   unfold d_1 at e
   unfold g_a
   by_cases hi:i < own.length
   ·rw [List.getElem?_append_left (by simpa using hi),List.getElem?_map] at e
    cases h:own[i]? with
    | none=>rw [h] at e; cases e
    | some y=>rw [h] at e; cases e
   ·rw [List.getElem?_append_right (by simpa using Nat.le_of_not_lt hi),List.length_map,List.getElem?_map] at e
    rw [List.getElem?_append_right (by simpa using Nat.le_of_not_lt hi),List.length_map,List.getElem?_map]
    obtain ⟨j,h1,h2⟩:=Option.map_eq_some_iff.mp e
    rw [h1]
    show _/\∃ v,some ((Y[j]?).getD none)=some (some v)/\_
    cases h3:U1[j]? with
    | none=>rw [h3] at h2; cases h2
    | some o=>
     cases o with
     | none=>rw [h3] at h2; cases h2
     | some c'=>
      rw [h3] at h2
      obtain ⟨W,stw,rfl⟩:=id st1
      obtain ⟨v,fp,e1,_,e2⟩:=stw.at_ j c' h3
      rw [e1]
      cases c' with
      | dat d=>cases h2; exact ⟨(fun _ _ z=>by cases z),v,rfl,e2⟩
      | scr ns=>cases h2; exact ⟨(fun _ _ z=>by cases z),v,rfl,e2⟩
      | own _ _=>cases h2
      | exc _=>cases h2
      | vw b=>cases h2; exact ⟨(fun _ _ z=>by cases z),v,rfl,e2⟩
  obtain ⟨W,stw,hO1⟩:=id st1
  have ln:(d_1 own caps U1).length=(g_a own caps Y).length:=by unfold d_1 g_a; simp
  have fl:(List.replicate (d_1 own caps U1).length ([]:List Addr)).flatten ++ O1=O1:=by rw [g_z]; rfl
  refine ⟨List.replicate (d_1 own caps U1).length [],⟨fun i c e=>?_,by show (_ ++ O1).Nodup; rw [fl,hO1]; exact stw.nd,fun _ _ _ h=>h,fun a h=>?_,by show OOk H1 (_ ++ O1); rw [fl]; exact st1.live,ln,by simp,fun i b e=>absurd rfl ((cell i _ e).1 true b)⟩,fl.symm⟩
  ·obtain ⟨_,v,e1,e2⟩:=cell i c e
   refine ⟨v,[],e1,?_,by show c_f K H1 (_ ++ O1) v c []; rw [fl]; exact e2⟩
   rw [List.getElem?_replicate,if_pos (List.getElem?_eq_some_iff.mp e).1]
  ·rw [g_z] at h; cases h
 ·rintro i m ys Y' H' ⟨U',O',ds,st',iv,dv,hi,rfl⟩
  have sm:e_W H1 H':=fun b o e=>by obtain ⟨W',h',_⟩:=id st'; exact h'.kept b o (by simp) e
  have stp:Stp O1 H1 O' H':=⟨fun b o _ e=>sm b o e,fun a h=>by
   obtain ⟨W',h',rfl⟩:=id st'
   rcases List.mem_append.mp h with h | h
   ·exact (h'.new a h).elim (fun z=>absurd z (by simp)) .inr
   ·exact .inl h⟩
  have sub1:∀ a ∈ O1,a ∈ O':=fun a h=>by obtain ⟨W',h',rfl⟩:=id st'; exact List.mem_append_right _ h
  obtain ⟨w1,w2⟩:=wk O' H' stp st'.live
  by_cases hlt:i < its.length
  ·obtain ⟨go,yld⟩:=w1 i its[i] (List.getElem?_eq_getElem hlt)
   refine .inr ⟨go,fun x H2 hy=>?_⟩
   obtain ⟨sm2,dx⟩:=yld x H2 hy
   refine ⟨⟨H1,[],O1,fun _=>0⟩,U',O',its[i],st'.grow sm2,dx,hg _ _ _ _ (fun U2 q2 Y3 H3 O3 st3 s3=>?_) (step i its[i] ds U' (List.getElem?_eq_getElem hlt) iv)⟩
   refine ⟨⟨H1,[],O1,fun _=>0⟩,U2,O3,st3,ht _ _ _ (fun b U3 q3 H4 O4 st4 s4=>?_) q2⟩
   have d4:DVs (hide O4 H4) ys ds:=DVs.mono s4.hid (DVs.mono s3.hid (DVs.mono (e_a sm2) dv))
   cases b with
   | false=>exact j_7 ⟨its.length - (i + 1),by omega,U3,O4,ds,st4,ofF q3,d4,hlt,rfl⟩
   | true=>
    refine j_6 ⟨⟨H1,[],O1,fun _=>0⟩,U3,O4,st4,he _ _ _ (fun y U4 q4 v H5 O5 st5 s5 dy=>?_) (ofT q3)⟩
    refine ⟨by rw [d4.length]; exact q4.1,its.length - (i + 1),by omega,U4,O5,ds ++ [y],st5,q4.2,(DVs.mono s5.hid d4).append (.cons dy .nil),hlt,rfl⟩
  ·have e:i=its.length:=by omega
   subst e
   obtain ⟨hz,q⟩:=fin ds U' iv
   refine .inl ⟨w2,by rw [dv.length]; exact hz,fun p hp=>?_⟩
   have pO':=st'.nofree p hp
   exact q _ _ O1 (st1.grow fun b o e=>a_n hp _ _ (sm b o e)) (s1.trans (.same fun b o e=>a_n hp _ _ (sm b o e))) (c_H hp (fun z=>pO' (sub1 p z)) (DVs.mono (h_U sub1) dv))
end
def DBs (X:Cx) (F:Fx) (ifs:List Expr) (t:DTT):Prop:=MnT t/\PTs X ifs (rdT X.K F t)
def y_4:DTT:=fun U Q=>Q true U
theorem s_4 {X:Cx} {F:Fx}:DBs X F [] y_4:=⟨fun _ _ _ k q=>k _ _ q,fun pins s Y H Q I ⟨U,O,st,q⟩=>s_g pins s Y H Q I (q H O st .refl)⟩
theorem s_x {X:Cx} {F:Fx} {c:Expr} {t:DTT} (h:DB X F c t):DBs X F [c] t:=⟨h.mn,s_Q h.pt⟩
section
variable {X:Cx} {F:Fx} {scope:Scope} {own capN:List Str} {caps:List Nat} {tg iter elt:Expr} {ifs:List Expr} {s:DTI} {g:DTG} {tc:DTT} {te:DT} {pos:Pos}
theorem r_U (S:CompScope X scope own capN caps) (hc:X.calm=true) (hi:DI X F tg iter s)
  (hin:∀ C fp s₂ H₂ pl F',DG (a_U X scope (own ++ capN) C fp s₂ H₂ pl) F' tg g/\DBs (a_U X scope (own ++ capN) C fp s₂ H₂ pl) F' ifs tc/\DE (a_U X scope (own ++ capN) C fp s₂ H₂ pl) F' elt te)
  (hs:∀ x,foldedSetIterable iter X.env x=pure x:=by intro _; rfl):DE X F (.ListComp elt [⟨tg,iter,ifs,0⟩] scope pos) (u_K own caps s g tc te):=by
 have F0:Fx:=F
 obtain ⟨hg,ht,he⟩:=hin 0 [] (PySem.start X.prog).1 (fun _=>none) [] F
 refine ⟨n_G hi.mn,(o_P S hc hi.pi (fun C fp s₂ H₂ pl=>⟨fun pins s Y H v u Q I r ⟨F',q⟩=>(hin C fp s₂ H₂ pl F').1.pg pins s Y H v u Q I r q,fun pins s Y H Q I ⟨F',q⟩=>(hin C fp s₂ H₂ pl F').2.1.2 pins s Y H Q I q,fun pins s Y H Q I ⟨F',q⟩=>(hin C fp s₂ H₂ pl F').2.2.pe pins s Y H Q I q⟩) hs).imp (q_A hi.mn hg.mn ht.1 he.mn)⟩
theorem m_5 {i:Nat} {y:Str} {py spos:Pos} (hN:X.N.Nodup) (hi':X.N[i]? = some y) (hx:Loc X.env.scope y) (S:CompScope X scope own capN caps) (hc:X.calm=true) (hi:DI X F tg iter s)
  (hin:∀ C fp s₂ H₂ pl F',DG (a_U X scope (own ++ capN) C fp s₂ H₂ pl) F' tg g/\DBs (a_U X scope (own ++ capN) C fp s₂ H₂ pl) F' ifs tc/\DE (a_U X scope (own ++ capN) C fp s₂ H₂ pl) F' elt te)
  (hsw:swapsWith (.ListComp elt [⟨tg,iter,ifs,0⟩] scope pos) (some (.Name y py)) spos.line X.env=pure true:=by rfl)
  (hs:∀ x,foldedSetIterable iter X.env x=pure x:=by intro _; rfl) (hf:X.fn y=true\/X.env.scope.names.lookup y=some .local:=by first | exact .inl rfl | exact .inr rfl | assumption) :
  DS X F (.Assign [.Name y py] (.ListComp elt [⟨tg,iter,ifs,0⟩] scope pos) spos) (w_s (u_K own caps s g tc te) (gN i)):=by
 obtain ⟨hg,ht,he⟩:=hin 0 [] (PySem.start X.prog).1 (fun _=>none) [] F
 refine (n_a hN hi' hx S hc hi.pi (fun C fp s₂ H₂ pl=>⟨fun pins s Y H v u Q I r ⟨F',q⟩=>(hin C fp s₂ H₂ pl F').1.pg pins s Y H v u Q I r q,fun pins s Y H Q I ⟨F',q⟩=>(hin C fp s₂ H₂ pl F').2.1.2 pins s Y H Q I q,fun pins s Y H Q I ⟨F',q⟩=>(hin C fp s₂ H₂ pl F').2.2.pe pins s Y H Q I q⟩) hsw hs hf).imp
  fun D Y H ⟨U,O,DD,st,q,f⟩=>q_A hi.mn hg.mn ht.1 he.mn Y H _ ⟨U,O,st,n_G hi.mn _ _ _ (fun d U1 q1 v H1 O1 st1 s1 d1=>f.nx _ H1 _ O1 (st1.set d1) s1 q1) q⟩
end
end L2.L3
namespace L2
open PySem PySem.Spec PyProof.Rows
section
variable {X:Cx} {pins:List (Addr × Obj)} {Y:St} {H:Hp} {s:Shared}
theorem Inv.track {a:Addr} {o:HO} (I:Inv X pins Y H s) (f:n_t X pins H a) (new:b_6 X.prog X.w (upd H a o) s.heap a o):Inv X pins Y (upd H a o) s:=by
 have hn:=f.1
 refine I.step (h':=s.heap) (g':=s.gens) (d':=s.drawn) (t':=s.toks) (ch:=[a]) (fun b hb=>by obtain rfl:=List.mem_singleton.mp hb; exact ⟨f.2.2.2.1,f.2.1,f.2.2.2.2.1,f.2.2.2.2.2⟩) (fun b ob _ _ _ e _=>e) (fun b ob _ _ _ e _=>⟨ob.slots,e⟩)
  (fun b ob hc _ n=>by rw [a_p (fun z=>hc (by simp [z]))]; exact n) (fun b ob _ e=>⟨ob,e⟩) (fun b xs e=>a_n hn b _ e) (fun b ob u e=>a_n hn b _ e) (fun b ps e=>⟨#[],by rw [a_n hn b _ e]; simp⟩) (fun m hm=>hm) (fun b u e=>?_) I.bare
 by_cases hb:b=a
 ·subst hb; rw [a_A] at e; cases e; exact new
 ·rw [a_p hb] at e
  exact (I.hok b u e).stay (fun _ _ _ q=>q) (fun c q=>a_n hn c _ q) fun c xs q=>a_n hn c _ q
end
theorem vals3 {x y z:V} {us:List Value} (r:b_y [x,y,z] us):∃ u v w,us=[u,v,w]/\b_P x u/\b_P y v/\b_P z w:=by
 cases r with
 | cons r1 r=>cases r with
  | cons r2 r=>cases r with
   | cons r3 r=>cases r; exact ⟨_,_,_,rfl,r1,r2,r3⟩
section
variable {X:Cx} {a b c:Expr} {t:TA} {pos p1 p2 pos2:Pos}
def tLZ (t:TA):TE:=fun Y H Q=>t Y H fun vs H1=>∃ l1 l2 l3 xs ys zs,vs=[.ref l1,.ref l2,.ref l3]/\H1 l1=some (.lst xs)/\H1 l2=some (.lst ys)/\H1 l3=some (.lst zs)/\ys.length=xs.length/\zs.length=xs.length/\0 < xs.length/\
 ∀ p H2 (qs:List Addr),e_W H1 H2->H1 p=none->H2 p=some (.lst (qs.map V.ref))->qs.length=xs.length->(∀ (i:Nat) (q:Addr),qs[i]? = some q->∃ x y z,xs[i]? = some x/\ys[i]? = some y/\zs[i]? = some z/\H1 q=none/\H2 q=some (.tup [x,y,z]))->Q (.ref p) H2
theorem p_n:∀ {acc:List Value},(∀ (j:Nat) (w:Value),acc[j]? = some w->∃ T,w=Value.ref T)->∃ qs:List Addr,acc=qs.map Value.ref
 | [],_=>⟨[],rfl⟩
 | v :: r,h=>by
  obtain ⟨T,e⟩:=h 0 v rfl
  obtain ⟨qs,hq⟩:=p_n (acc:=r) fun j w e=>h (j + 1) w (by simpa using e)
  exact ⟨T :: qs,by rw [hq,e]; rfl⟩
theorem m_Y {h:Heap} {n:Addr} {xs ys zs:Array Value} {acc:List Value} (t:q_v h n xs ys zs acc):∃ qs:List Addr,acc=qs.map Value.ref:=
 p_n fun j w e=>by obtain ⟨T,_,_,_,e,_⟩:=t j w e; exact ⟨T,e⟩
theorem l_Q (hc:X.calm=true) (hg1:Gl X "list") (hm1:X.mg "list" = none) (hg2:Gl X "zip") (hm2:X.mg "zip" = none) (ha:PA X [a,b,c] t)
  (he:starEach [.Call (.Name "zip" p2) [a,b,c] [] pos2] X.env=[(false,eval (.Call (.Name "zip" p2) [a,b,c] [] pos2) X.env)]:=by rfl)
  (hs:starEach [a,b,c] X.env=(false,eval a X.env) :: starEach [b,c] X.env:=by rfl) (hpl:(backTo pos2 (starEach [b,c] X.env)).any (·.1)=false:=by rfl) :
  PE X (.Call (.Name "list" p1) [.Call (.Name "zip" p2) [a,b,c] [] pos2] [] pos) (tLZ t):=by
 intro pins s Y H Q I h
 refine wpAny_Call_Name_kw (h_f I hg1 hm1 (show bootBuiltins "list" = some (.type "list") by decide +kernel) ?_ (by decide) (by decide))
 refine PyProof.Rows.callWith_type1 ?_ (by rw [he]; rfl) rfl
 rw [he]
 show wpAny _ _ (spliced [(false,eval (.Call (.Name "zip" p2) [a,b,c] [] pos2) X.env)]) _ _ s
 refine Calls.spliced_cons ?_
 refine wpAny_Call_Name_kw (h_f I hg2 hm2 boot_zip ?_ (by decide) (by decide))
 refine PyProof.Rows.callWith_type1 (thn (ha pos2 pins s Y H _ I h) fun us s1 ⟨vs,H1,I1,r1,q1⟩=>?_) hs hpl
 obtain ⟨l1,l2,l3,xs,ys,zs,rfl,h1,h2,h3,e2,e3,hpos,q⟩:=q1
 obtain ⟨u1,u2,u3,rfl,ru1,ru2,ru3⟩:=vals3 r1
 cases ru1; cases ru2; cases ru3
 obtain ⟨z1,its1,n1,r1',g1⟩:=I1.hok _ _ h1
 obtain ⟨z2,its2,n2,r2',g2⟩:=I1.hok _ _ h2
 obtain ⟨z3,its3,n3,r3',g3⟩:=I1.hok _ _ h3
 have L1:s1.heap.IsList l1 its1.toArray:=⟨_,g1,rfl,_,rfl⟩
 have L2':s1.heap.IsList l2 its2.toArray:=⟨_,g2,rfl,_,rfl⟩
 have L3':s1.heap.IsList l3 its3.toArray:=⟨_,g3,rfl,_,rfl⟩
 have len1:=r1'.length
 have len2:=r2'.length
 have len3:=r3'.length
 refine m_S L1 L2' L3' fun h' hz hti hto hi1 hi2 hi3 hsz hk=>?_
 refine Calls.spliced_nil ?_
 have lt1:l1 < s1.heap.objs.size:=Heap.lt_size g1
 have lt2:l2 < s1.heap.objs.size:=Heap.lt_size g2
 have lt3:l3 < s1.heap.objs.size:=Heap.lt_size g3
 have nd:[s1.heap.objs.size + 5,s1.heap.objs.size + 3,s1.heap.objs.size + 4,s1.heap.objs.size,s1.heap.objs.size + 1,s1.heap.objs.size + 2].Nodup:=by
  generalize s1.heap.objs.size=n
  simp only [List.nodup_cons,List.mem_cons,List.not_mem_nil,or_false,not_or,not_false_eq_true,and_true,List.nodup_nil]
  refine ⟨⟨?_,?_,?_,?_,?_⟩,⟨?_,?_,?_,?_⟩,⟨?_,?_,?_⟩,⟨?_,?_⟩,?_⟩ <;> exact (by intro e; exact absurd (show (_:Nat)=_ from e) (by omega))
 have ge:∀ j ∈ [s1.heap.objs.size + 5,s1.heap.objs.size + 3,s1.heap.objs.size + 4,s1.heap.objs.size,s1.heap.objs.size + 1,s1.heap.objs.size + 2],s1.heap.objs.size<=j:=fun j hj=>by
  simp only [List.mem_cons,List.not_mem_nil,or_false] at hj
  rcases hj with rfl | rfl | rfl | rfl | rfl | rfl
  ·exact Nat.le_add_right _ _
  ·exact Nat.le_add_right _ _
  ·exact Nat.le_add_right _ _
  ·exact Nat.le_refl _
  ·exact Nat.le_add_right _ _
  ·exact Nat.le_add_right _ _
 have I2:Inv X pins Y H1 { s1 with heap:=h' }:=I1.kept (t':=s1.toks) hk
 refine i_R (s:={ s1 with heap:=h' }) (I1.ok.hd hc) nd (fun l hl j hj=>?_) (fun j hj=>?_) hz hti hto hi1 hi2 hi3 (L1.at fun o e=>hk _ _ e) (L2'.at fun o e=>hk _ _ e) (L3'.at fun o e=>hk _ _ e)
  (by simp only [List.size_toArray]; omega) (by simp only [List.size_toArray]; omega) (by simp only [List.size_toArray]; omega) (by simp only [List.size_toArray]; omega) fun h2 acc cc hk2 hS hl tr=>?_
 ·simp only [List.mem_cons,List.not_mem_nil,or_false] at hl
  rcases hl with rfl | rfl | rfl
  ·exact Nat.ne_of_lt (Nat.lt_of_lt_of_le lt1 (ge j hj))
  ·exact Nat.ne_of_lt (Nat.lt_of_lt_of_le lt2 (ge j hj))
  ·exact Nat.ne_of_lt (Nat.lt_of_lt_of_le lt3 (ge j hj))
 ·show j < h'.objs.size
  rw [hsz]
  simp only [List.mem_cons,List.not_mem_nil,or_false] at hj
  generalize s1.heap.objs.size=n at *
  rcases hj with rfl | rfl | rfl | rfl | rfl | rfl | rfl | rfl | rfl
  ·exact Nat.lt_succ_self _
  ·exact Nat.add_lt_add_left (show (3:Nat) < 6 by decide) _
  ·exact Nat.add_lt_add_left (show (4:Nat) < 6 by decide) _
  ·exact Nat.lt_add_of_pos_right (by decide)
  ·exact Nat.add_lt_add_left (show (1:Nat) < 6 by decide) _
  ·exact Nat.add_lt_add_left (show (2:Nat) < 6 by decide) _
  ·exact Nat.lt_of_lt_of_le lt1 (Nat.le_add_right _ _)
  ·exact Nat.lt_of_lt_of_le lt2 (Nat.le_add_right _ _)
  ·exact Nat.lt_of_lt_of_le lt3 (Nat.le_add_right _ _)
 ·
  have kp:∀ b ob,s1.heap.get? b=some ob->h2.get? b=some ob:=fun b ob e=>hk2 b ob (fun z=>absurd (ge b (by
   simp only [List.mem_cons,List.not_mem_nil,or_false] at z ⊢
   rcases z with z | z | z | z | z <;> simp [z])) (Nat.not_le.mpr (Heap.lt_size e))) (hk b ob e)
  have I3:Inv X pins Y H1 { s1 with heap:=h2 }:=I1.kept (t':=s1.toks) kp
  obtain ⟨qs,hqs⟩:=m_Y tr
  have big:∀ b,h'.objs.size<=b->n_t X pins H1 b:=fun b hb=>I2.fpOk hb (I2.hok.fresh hb)
  have hlq:qs.length=xs.length:=by
   have:=congrArg List.length hqs
   rw [List.length_map] at this
   rw [<-this,hl,List.size_toArray]
   exact len1.symm
  have vq:∀ qs:List Addr,b_y (qs.map V.ref) (qs.map Value.ref):=fun qs=>by
   induction qs with
   | nil=>exact .nil
   | cons q r ih=>exact .cons rfl ih
  have I4:Inv X pins Y (upd H1 h'.objs.size (.lst (qs.map V.ref))) { s1 with heap:=h2 }:=I3.track (big _ (Nat.le_refl _)) ⟨by rw [List.length_map,hlq]; exact z1,_,_,vq qs,by rw [<-hqs]; exact hS⟩
  have all:∀ k,k<=qs.length->∃ H2,e_W H1 H2/\Inv X pins Y H2 { s1 with heap:=h2 }/\H2 h'.objs.size=some (.lst (qs.map V.ref))/\(∀ b,h'.objs.size < b->H2 b=none\/∃ row,H2 b=some (.tup row))/\
    ∀ (i:Nat) (q:Addr),i < k->qs[i]? = some q->∃ x y z,xs[i]? = some x/\ys[i]? = some y/\zs[i]? = some z/\H1 q=none/\H2 q=some (.tup [x,y,z]):=fun k=>by
   induction k with
   | zero=>exact fun _=>⟨_,a_n (big _ (Nat.le_refl _)).1,I4,a_A,fun b hb=>.inl (by rw [a_p (Nat.ne_of_gt hb)]; exact (big b (Nat.le_of_lt hb)).1),fun i q h=>absurd h (Nat.not_lt_zero _)⟩
   | succ k ih=>
    intro hk'
    obtain ⟨H2,sm,J,hp,hb2,hrow⟩:=ih (Nat.le_of_succ_le hk')
    have hkl:k < qs.length:=hk'
    have eqk:qs[k]? = some qs[k]:=List.getElem?_eq_getElem hkl
    obtain ⟨T,x',y',u',eT,hT,trp,ex,ey,eu⟩:=tr k (.ref qs[k]) (by rw [hqs,List.getElem?_map,eqk]; rfl)
    cases eT
    have hTlt:h'.objs.size < qs[k]:=hT
    have kx:k < xs.length:=by rw [<-hlq]; exact hkl
    have vx:xs[k]? = some xs[k]:=List.getElem?_eq_getElem kx
    have vy:ys[k]? = some (ys[k]'(by omega)):=List.getElem?_eq_getElem (by omega)
    have vz:zs[k]? = some (zs[k]'(by omega)):=List.getElem?_eq_getElem (by omega)
    obtain ⟨w1,hw1,rw1⟩:=r1'.get vx
    obtain ⟨w2,hw2,rw2⟩:=r2'.get vy
    obtain ⟨w3,hw3,rw3⟩:=r3'.get vz
    have e1:x' = w1:=by simp only [List.getElem?_toArray] at ex; rw [hw1] at ex; exact (Option.some.inj ex).symm
    have e2':y' = w2:=by simp only [List.getElem?_toArray] at ey; rw [hw2] at ey; exact (Option.some.inj ey).symm
    have e3':u' = w3:=by simp only [List.getElem?_toArray] at eu; rw [hw3] at eu; exact (Option.some.inj eu).symm
    subst e1 e2' e3'
    have rel:b_y [xs[k],ys[k]'(by omega),zs[k]'(by omega)] [x',y',u']:=.cons rw1 (.cons rw2 (.cons rw3 .nil))
    have H1q:H1 qs[k]=none:=(big _ (Nat.le_of_lt hTlt)).1
    rcases hb2 qs[k] hTlt with hn | ⟨row,hr⟩
    ·refine ⟨upd H2 qs[k] (.tup [xs[k],ys[k]'(by omega),zs[k]'(by omega)]),fun b o e=>a_n hn _ _ (sm b o e),J.track ⟨hn,(big _ (Nat.le_of_lt hTlt)).2⟩ ⟨by show 3<=sizeLine; decide,_,rel,⟨_,trp,rfl,_,rfl⟩⟩,
      by rw [a_p (Nat.ne_of_lt hTlt)]; exact hp,fun b hb=>?_,fun i q hi hq=>?_⟩
     ·by_cases e:b=qs[k]
      ·subst e; exact .inr ⟨_,a_A⟩
      ·rw [a_p e]; exact hb2 b hb
     ·rcases Nat.lt_succ_iff_lt_or_eq.mp hi with hi | rfl
      ·obtain ⟨x,y,z,a1,a2,a3,a4,a5⟩:=hrow i q hi hq
       exact ⟨x,y,z,a1,a2,a3,a4,a_n hn _ _ a5⟩
      ·rw [eqk] at hq; cases hq
       exact ⟨_,_,_,vx,vy,vz,H1q,a_A⟩
    ·have same:row=[xs[k],ys[k]'(by omega),zs[k]'(by omega)]:=by
      obtain ⟨_,its,rv,o,eo,co,n,dn⟩:=J.hok _ _ hr
      have eo':h2.get? qs[k]=some o:=eo
      rw [trp] at eo'
      cases eo'
      have d':(#[x',y',u']:Array Value)=its.toArray:=by injection dn
      have:its=[x',y',u']:=by have:=congrArg Array.toList d'; simpa using this.symm
      subst this
      exact rv.inj rel
     refine ⟨H2,sm,J,hp,hb2,fun i q hi hq=>?_⟩
     rcases Nat.lt_succ_iff_lt_or_eq.mp hi with hi | rfl
     ·exact hrow i q hi hq
     ·rw [eqk] at hq; cases hq
      exact ⟨_,_,_,vx,vy,vz,H1q,by rw [hr,same]⟩
  obtain ⟨H2,sm,J,hp,_,hrow⟩:=all qs.length (Nat.le_refl _)
  exact ⟨.ref h'.objs.size,H2,J,rfl,q h'.objs.size H2 qs sm (big _ (Nat.le_refl _)).1 hp hlq fun i qq e=>hrow i qq (List.getElem?_eq_some_iff.mp e).1 e⟩
theorem o_h (hc:X.calm=true):h_2 X (.builtin "all") (fun xs H Q=>∃ (l:Addr) (bs:List Bool),xs=[.ref l]/\H l=some (.lst (bs.map V.bl))/\Q (.bl (bs.all id)) H):=by
 intro pins s Y H xs us Q I r h
 obtain ⟨l,bs,rfl,hl,q⟩:=h
 obtain ⟨u,rfl,ru⟩:=vals1 r
 cases ru
 obtain ⟨z,its,n,rv,e⟩:=I.hok _ _ hl
 have L:s.heap.IsList l its.toArray:=⟨_,e,rfl,_,rfl⟩
 have hlt:l < s.heap.objs.size:=Heap.lt_size e
 have len:=rv.length
 rw [List.length_map] at len
 refine call_all_walk (wpAny_pyIter_list L ?_)
 refine ⟨s.heap.objs.size,_,_,_,_,_,fun i=>bs.getD i true,rfl,Walks.list (A:=X.A.in1) (show X.A.in1.handled=none from I.ok.hd hc) s.heap.objs.size l (Nat.ne_of_lt hlt) its.toArray,⟨⟨_,Heap.get?_push_size _ rfl,rfl,rfl⟩,L.push _⟩,?_,fun h' tk hk=>?_⟩
 ·intro i v s' Q' E' hv hq
  have hi:its[i]? = some v:=by simpa using hv
  have hlt:i < bs.length:=by rw [len]; exact (List.getElem?_eq_some_iff.mp hi).1
  obtain ⟨w,hw,rw'⟩:=rv.get (i:=i) (x:=.bl bs[i]) (by rw [List.getElem?_map,List.getElem?_eq_getElem hlt]; rfl)
  rw [hi] at hw
  cases hw
  cases rw'
  refine wpAny_truthy_bool ?_
  have:bs.getD i true=bs[i]:=by simp [List.getD,hlt]
  have hq:Q' (bs.getD i true) s':=hq
  rw [this] at hq
  exact hq
 ·have e1:(List.range its.toArray.size).all (fun i=>bs.getD i true)=bs.all id:=by
   rw [List.size_toArray,<-len]
   rw [Bool.eq_iff_iff,List.all_eq_true,List.all_eq_true]
   constructor
   ·intro h b hb
    obtain ⟨i,hi,rfl⟩:=List.getElem_of_mem hb
    have:=h i (List.mem_range.mpr hi)
    simpa [List.getD,hi] using this
   ·intro h i hi
    have hi':=List.mem_range.mp hi
    have:=h bs[i] (List.getElem_mem hi')
    simpa [List.getD,hi'] using this
  rw [e1]
  exact ⟨.bl (bs.all id),H,I.kept fun b o eb=>hk b o (fun zz=>absurd (Heap.lt_size eb) (by rw [List.mem_singleton.mp zz]; exact Nat.lt_irrefl _)) (Heap.get?_push_of_some _ eb),rfl,q⟩
end
end L2
namespace L2.L3
open PySem PySem.Spec PyProof.Rows
def y_g:DN:=fun xs Q=>∃ ds,(xs=[.list ds]\/xs=[.tuple ds])/\Q (.int ds.length)
theorem l_I {K:PySem.W.Frag}:OpN (fun xs H Q=>∃ p ys,xs=[.ref p]/\(SqL K H p ys\/SqT K H p ys)/\Q (.int ys.length) H) y_g where
 mn:=fun _ _ _ k ⟨ds,e,q⟩=>⟨ds,e,k _ q⟩
 ok:=fun O H vs xs Q hO hd ⟨ds,e,q⟩=>by
  rcases e with rfl | rfl
  ·cases hd with
   | cons d r=>
    cases r
    obtain ⟨a,ys,rfl,ha,hy⟩:=d.lst_inv
    exact ⟨a,ys,rfl,.inl (.of (a_F ha).1),by rw [hy.length]; exact q _ H (fun _ _ h=>h) (.int _)⟩
  ·cases hd with
   | cons d r=>
    cases r
    obtain ⟨a,ys,rfl,ha,hy⟩:=d.tup_inv
    exact ⟨a,ys,rfl,.inr (.of (a_F ha).1),by rw [hy.length]; exact q _ H (fun _ _ h=>h) (.int _)⟩
theorem dvs2 {H:Hp} {vs:List V} {a b:PyData} (h:DVs H vs [a,b]):∃ x y,vs=[x,y]/\DV H x a/\DV H y b:=by
 cases h with | cons d r=>cases r with | cons d' r=>cases r; exact ⟨_,_,rfl,d,d'⟩
theorem dvs1 {H:Hp} {vs:List V} {a:PyData} (h:DVs H vs [a]):∃ x,vs=[x]/\DV H x a:=by
 cases h with | cons d r=>cases r; exact ⟨_,rfl,d⟩
theorem dvs3 {H:Hp} {vs:List V} {a b c:PyData} (h:DVs H vs [a,b,c]):∃ x y z,vs=[x,y,z]/\DV H x a/\DV H y b/\DV H z c:=by
 cases h with | cons d r=>cases r with | cons d' r=>cases r with | cons d'' r=>cases r; exact ⟨_,_,_,rfl,d,d',d''⟩
def y_f:DN:=fun xs Q=>∃ i j:Int,xs=[.int i,.int j]/\Q (.int (max i j))
theorem t_G:OpN (fun xs H Q=>∃ i j,xs=[.int i,.int j]/\Q (.int (if j > i then j else i)) H) y_f where
 mn:=fun _ _ _ k ⟨i,j,e,q⟩=>⟨i,j,e,k _ q⟩
 ok:=fun O H vs xs Q hO hd ⟨i,j,e,q⟩=>by
  subst e
  obtain ⟨x,y,rfl,h1,h2⟩:=dvs2 hd
  have e:(if j > i then j else i)=max i j:=by split <;> omega
  exact ⟨i,j,by rw [h1.int_inv,h2.int_inv],by rw [e]; exact q _ H (fun _ _ h=>h) (.int _)⟩
def q_H:DN:=fun xs Q=>(∃ ds,xs=[.list ds]/\Q (.tuple ds))\/∃ ds,xs=[.tuple ds]/\Q (.tuple ds)
theorem n_5 {K:PySem.W.Frag}:OpN (fun xs H Q=>∃ p ys,xs=[.ref p]/\((SqL K H p ys/\∀ l,H l=none->Q (.ref l) (upd H l (.tup ys)))\/(SqT K H p ys/\Q (.ref p) H))) q_H where
 mn:=fun _ _ _ k q=>q.imp (fun ⟨i,e,q⟩=>⟨i,e,k _ q⟩) fun ⟨i,e,q⟩=>⟨i,e,k _ q⟩
 ok:=fun O H vs xs Q hO hd q=>by
  rcases q with ⟨ds,e,q⟩ | ⟨ds,e,q⟩
  ·subst e
   obtain ⟨x,rfl,h1⟩:=dvs1 hd
   obtain ⟨a,ys,rfl,ha,hy⟩:=h1.lst_inv
   exact ⟨a,ys,rfl,.inl ⟨.of (a_F ha).1,fun p hp=>q _ _ (a_n hp) (d_q hp (hO p hp) hy)⟩⟩
  ·subst e
   obtain ⟨x,rfl,h1⟩:=dvs1 hd
   obtain ⟨a,ys,e,ha,hy⟩:=h1.tup_inv
   subst e
   exact ⟨a,ys,rfl,.inr ⟨.of (a_F ha).1,q _ H (fun _ _ h=>h) h1⟩⟩
def x_u:DN:=fun xs Q=>∃ bs:List Bool,xs=[.list (bs.map .bool)]/\Q (.bool (bs.all id))
theorem k_8 {H:Hp}:∀ {bs:List Bool} {vs:List V},DVs H vs (bs.map PyData.bool)->vs=bs.map V.bl
 | [],_,h=>by cases h; rfl
 | b :: r,_,h=>by
  cases h with
  | cons d q=>rw [d.bl_inv,k_8 q]; rfl
theorem v_X:OpN (fun xs H Q=>∃ (l:Addr) (bs:List Bool),xs=[.ref l]/\H l=some (.lst (bs.map V.bl))/\Q (.bl (bs.all id)) H) x_u where
 mn:=fun _ _ _ k ⟨bs,e,q⟩=>⟨bs,e,k _ q⟩
 ok:=fun O H vs xs Q hO hd ⟨bs,e,q⟩=>by
  subst e
  obtain ⟨x,rfl,h1⟩:=dvs1 hd
  obtain ⟨a,ys,rfl,ha,hy⟩:=h1.lst_inv
  exact ⟨a,bs,rfl,by rw [(a_F ha).1,k_8 hy],q _ H (fun _ _ h=>h) (.bl _)⟩
def p_g (as bs cs:List PyData):List PyData:=(as.zip (bs.zip cs)).map fun q=>PyData.tuple [q.1,q.2.1,q.2.2]
def dLZ (t:DTA):DT:=fun U Q=>t U fun ds U'=>∃ as bs cs,ds=[.list as,.list bs,.list cs]/\bs.length=as.length/\cs.length=as.length/\0 < as.length/\Q (.list (p_g as bs cs)) U'
theorem r_m:∀ {H:Hp} {vs:List V} {ds:List PyData},vs.length=ds.length->(∀ (i:Nat) v d,vs[i]? = some v->ds[i]? = some d->DV H v d)->DVs H vs ds
 | _,[],[],_,_=>.nil
 | _,[],_ :: _,e,_=>by cases e
 | _,_ :: _,[],e,_=>by cases e
 | H,v :: vs,d :: ds,e,h=>.cons (h 0 v d rfl rfl) (r_m (by simpa using e) fun i v' d' e1 e2=>h (i + 1) v' d' (by simpa using e1) (by simpa using e2))
section
variable {X:Cx} {F:Fx} {a b c e:Expr} {te:DT} {tA:DTA} {pos p1 p2 pos2:Pos}
theorem l_N (hc:X.calm=true) (hg1:Gl X "list") (hm1:X.mg "list" = none) (hg2:Gl X "zip") (hm2:X.mg "zip" = none) (ha:DA X F [a,b,c] tA)
  (he:starEach [.Call (.Name "zip" p2) [a,b,c] [] pos2] X.env=[(false,eval (.Call (.Name "zip" p2) [a,b,c] [] pos2) X.env)]:=by rfl)
  (hs:starEach [a,b,c] X.env=(false,eval a X.env) :: starEach [b,c] X.env:=by rfl) (hpl:(backTo pos2 (starEach [b,c] X.env)).any (·.1)=false:=by rfl) :
  DE X F (.Call (.Name "list" p1) [.Call (.Name "zip" p2) [a,b,c] [] pos2] [] pos) (dLZ tA):=
 ⟨fun _ _ _ k q=>ha.mn _ _ _ (fun _ _ ⟨x,y,z,e,h1,h2,h3,q⟩=>⟨x,y,z,e,h1,h2,h3,k _ _ q⟩) q,(l_Q hc hg1 hm1 hg2 hm2 ha.pa he hs hpl).imp fun Y H Q ⟨U,O,st,q⟩=>
  ⟨U,O,st,ha.mn _ _ _ (fun ds U1 ⟨as,bs,cs,e,l1,l2,l3,q1⟩ vs H1 O1 st1 s1 d1=>by
   subst e
   obtain ⟨x,y,z,rfl,h1,h2,h3⟩:=dvs3 d1
   obtain ⟨a1,xs,rfl,ha1,hx⟩:=h1.lst_inv
   obtain ⟨a2,ys,rfl,ha2,hy⟩:=h2.lst_inv
   obtain ⟨a3,zs,rfl,ha3,hz⟩:=h3.lst_inv
   refine ⟨a1,a2,a3,xs,ys,zs,rfl,(a_F ha1).1,(a_F ha2).1,(a_F ha3).1,by rw [hx.length,hy.length]; exact l1,by rw [hx.length,hz.length]; exact l2,by rw [hx.length]; exact l3,fun p H2 qs sm hp hH2 hl hrow=>?_⟩
   have nO:∀ b,H1 b=none->b ∉ O1:=st1.nofree
   refine q1 _ H2 O1 (st1.grow sm) (s1.trans (.same sm)) (.lst (d_3 hH2 (nO p hp)) (r_m ?_ fun i v d e1 e2=>?_))
   ·unfold p_g
    rw [List.length_map,List.length_map,List.length_zip,List.length_zip,hl,hx.length]
    omega
   ·rw [List.getElem?_map] at e1
    obtain ⟨qq,e3,e4⟩:=Option.map_eq_some_iff.mp e1
    subst e4
    obtain ⟨x,y,z,g1,g2,g3,g4,g5⟩:=hrow i qq e3
    unfold p_g at e2
    rw [List.getElem?_map] at e2
    obtain ⟨⟨d0,d1,d2⟩,e5,e6⟩:=Option.map_eq_some_iff.mp e2
    subst e6
    obtain ⟨e7,e8⟩:=List.getElem?_zip_eq_some.mp e5
    obtain ⟨e9,e10⟩:=List.getElem?_zip_eq_some.mp e8
    obtain ⟨dx,k1,k2⟩:=hx.get' g1
    obtain ⟨dy,k3,k4⟩:=hy.get' g2
    obtain ⟨dz,k5,k6⟩:=hz.get' g3
    have e7':as[i]? = some d0:=e7
    have e9':bs[i]? = some d1:=e9
    have e10':cs[i]? = some d2:=e10
    rw [k1] at e7'; rw [k3] at e9'; rw [k5] at e10'
    cases e7'; cases e9'; cases e10'
    have m:=e_a (O:=O1) sm
    exact .tup (d_3 g5 (nO qq g4)) (.cons (DV.mono m k2) (.cons (DV.mono m k4) (.cons (DV.mono m k6) .nil)))) q⟩⟩
def t_I (te:DT) (k:Nat):DT:=fun U Q=>te U fun d U'=>∃ ds,d=.list ds/\Q (.list (ds.drop k)) U'
theorem r_B {k j:Nat} {kp sp:Pos} (he:DE X F e te):DE X F (.Subscript e (.Slice (some (.Constant (.int (k:Int)) j kp)) none none sp) pos) (t_I te k):=
 ⟨fun _ _ _ k q=>he.mn _ _ _ (fun _ _ ⟨ds,e,q⟩=>⟨ds,e,k _ _ q⟩) q,(m_E o_H he.pe (o_f p_b) o_E).imp fun Y H Q ⟨U,O,st,q⟩=>
  ⟨U,O,st,he.mn _ _ _ (fun d U1 ⟨ds,e,q1⟩ v H1 O1 st1 s1 d1=>by
   subst e
   obtain ⟨a,xs,rfl,ha,hx⟩:=d1.lst_inv
   refine ⟨(k:Int),rfl,a,xs,rfl,.of (a_F ha).1,fun p hp=>q1 _ _ O1 (st1.grow (a_n hp)) (s1.trans (.same (a_n hp))) (c_H hp (st1.nofree p hp) ?_)⟩
   have:p_s xs (some (k:Int)) none=xs.drop k:=by
    unfold p_s
    rw [HT.sIx_none,HT.sIx_nat]
    by_cases h:k<=xs.length
    ·rw [Nat.min_eq_left h,List.take_of_length_le (by rw [List.length_drop]; exact Nat.le_refl _)]
    ·rw [Nat.min_eq_right (by omega),List.drop_of_length_le (Nat.le_refl _),List.drop_of_length_le (by omega)]
     simp
   rw [this]
   exact hx.drop k) q⟩⟩
end
section
variable {X:Cx} {F:Fx} {a b c e:Expr} {te:DT} {tA:DTA} {pos p p1 p2 pos2:Pos} {x:Str} {i:Nat}
def u_k (i:Nat):DT:=fun U Q=>∃ ns,U[i]? = some (some (.scr ns))/\(ns.length<=63->Q (.int ns.length) U)
theorem o_t (hg:Gl X "len") (hm:X.mg "len" = none) (h:PE X (.Name x p1) (e_A i)) (he:starEach [.Name x p1] X.env=(false,eval (.Name x p1) X.env) :: starEach [] X.env:=by rfl) (hpl:(backTo pos (starEach [] X.env)).any (·.1)=false:=by rfl) :
  DE X F (.Call (.Name "len" p) [.Name x p1] [] pos) (u_k i):=
 ⟨fun _ _ _ k ⟨ns,e,q⟩=>⟨ns,e,fun h=>k _ _ (q h)⟩,(f_v a_9 hg hm PySem.boot_len (b_e h c_w he) (by decide) (by decide) he hpl).imp fun Y H Q ⟨U,O,st,ns,e,q⟩=>by
  obtain ⟨sa,hv,hs⟩:=st.scr e
  refine ⟨_,hv,sa,ns.map V.int,rfl,.inl hs.sq,?_⟩
  rw [List.length_map]
  exact q hs.1 _ H O st .refl (.int _)⟩
def x_V (i:Nat) (te:DT):DT:=fun U Q=>∃ ns,U[i]? = some (some (.scr ns))/\te U fun d U'=>∃ k n,d=.int k/\atI ns k=some n/\Q (.int n) U'
theorem r_V {α β:Type} {g:α->β} {l:List α} {k:Int} {n:α} (h:atI l k=some n):atI (l.map g) k=some (g n):=by
 unfold atI at h ⊢
 rw [List.length_map]
 cases q:ixN l.length k with
 | none=>rw [q] at h; cases h
 | some j=>
  rw [q] at h
  show (l.map g)[j]? = some (g n)
  rw [List.getElem?_map]
  have h:l[j]? = some n:=h
  rw [h]
  rfl
theorem q_C (h:PE X (.Name x p1) (e_A i)) (he:DE X F e te) (hs:h_7 e):DE X F (.Subscript (.Name x p1) e pos) (x_V i te):=
 ⟨fun _ _ _ k ⟨ns,e,q⟩=>⟨ns,e,he.mn _ _ _ (fun _ _ ⟨k',n,e1,e2,q⟩=>⟨k',n,e1,e2,k _ _ q⟩) q⟩,(s_n l_w h he.pe hs).imp fun Y H Q ⟨U,O,st,ns,e,q⟩=>by
  obtain ⟨sa,hv,hs⟩:=st.scr e
  refine ⟨_,hv,U,O,st,he.mn _ _ _ (fun d U1 ⟨k,n,e1,e2,q1⟩ w H1 O1 st1 s1 d1=>?_) q⟩
  subst e1
  have hs1:Scr X.K H1 sa ns:=hs.mono fun o u q=>s1.keep _ _ (fun z=>by obtain ⟨xs,e,m⟩:=st.live _ z; rw [q] at e; cases e; exact m) q
  exact ⟨sa,ns.map V.int,k,.int n,rfl,d1.int_inv,hs1.sq,r_V e2,q1 _ H1 O1 st1 s1 (.int _)⟩⟩
def y_N (K:PySem.W.Frag):R2:=fun x y H Q=>∃ a b ns,x=.ref a/\y=.ref b/\SqL K H a (ns.map V.int)/\H b=some (.lst [])/\Q (.bl (decide (ns=[]))) H
theorem i_W {h:Heap}:∀ {ns:List Int} {us:List Value},b_y (ns.map V.int) us->∃ as,ReadsAll h us (ns.map PyData.int) as
 | [],_,r=>by cases r; exact ⟨_,.nil⟩
 | n :: ns,_,r=>by
  cases r with
  | cons r1 r=>
   obtain ⟨t,rfl⟩:=r1
   obtain ⟨as,q⟩:=i_W r
   exact ⟨_,.cons (.int n t) q⟩
theorem u_T (hu:X.A.units + 64 < cLine):OpR X (compareOp .Eq) (y_N X.K):=by
 intro pins s Y H x y v u Q I rx ry h
 obtain ⟨a,b,ns,rfl,rfl,h1,h2,q⟩:=h
 cases rx; cases ry
 obtain ⟨its,rv,⟨o,n,e,c1,_,d1⟩,hz⟩:=I.list h1
 obtain ⟨_,its2,n2,rv2,e2⟩:=I.hok _ _ h2
 cases rv2
 obtain ⟨as,ra⟩:=i_W (h:=s.heap) rv
 have e3:PyData.eqv (.list (ns.map .int)) (.list [])=decide (ns=[]):=by cases ns <;> rfl
 refine eq_dataH (reads_list_at e c1 d1 (by simpa using ra)) (reads_list_at (xs:=[]) e2 rfl rfl .nil) ?_ (by decide) hu (by rw [e3]; exact ⟨.bl _,H,I,rfl,q⟩)
 unfold SeqAt.shaped
 have c0:PyData.canLay0 (.list (ns.map .int))=true:=by
  have:∀ ns:List Int,PyData.canLayAll0 (ns.map .int)=true:=fun ns=>by
   induction ns with
   | nil=>rfl
   | cons n r ih=>rw [List.map_cons]; simp only [PyData.canLayAll0,PyData.canLay0,ih,Bool.and_self]
  simp only [PyData.canLay0,this]
 have dp:PyData.depth (.list (ns.map .int))<=64:=by
  have:∀ ns:List Int,PyData.depthAll (ns.map .int)<=1:=fun ns=>by
   induction ns with
   | nil=>simp [PyData.depthAll]
   | cons n r ih=>rw [List.map_cons]; simp only [PyData.depthAll,PyData.depth]; omega
  have:=this ns
  simp only [PyData.depth]
  omega
 rw [c0,Bool.true_and]
 exact decide_eq_true dp
def x_X (i:Nat):DTT:=fun U Q=>∃ ns,U[i]? = some (some (.scr ns))/\Q (decide (ns=[])) U
theorem u_7 {lp:Pos} (hu:X.A.units + 64 < cLine) (h:PE X (.Name x p1) (e_A i)):DB X F (.Compare (.Name x p1) [.Eq] [.List [] lp] pos) (x_X i):=
 ⟨fun _ _ _ k ⟨ns,e,q⟩=>⟨ns,e,k _ _ q⟩,(o_5 (u_T hu) h (l_9 c_w) (nomark _)).imp fun Y H Q ⟨U,O,st,ns,e,q⟩=>by
  obtain ⟨sa,hv,hs⟩:=st.scr e
  refine ⟨_,hv,Nat.zero_le _,fun p hp=>⟨sa,p,ns,rfl,rfl,(a_n hp).seq hs.sq,a_A,_,rfl,q _ O (st.grow (a_n hp)) (.same (a_n hp))⟩⟩⟩
end
structure FD (K:PySem.W.Frag) (mg:Str->Option Value) (x:Str) (st:Stmt) (ps:List Str) (g:Addr) (fd:FuncData):Prop where
 fn:Fun K x x st g fd
 mgf:mg x=some (.ref g)
 b:h_t K fd ps []
section
variable {X:Cx} {scope:Scope} {own capN:List Str} {caps:List Nat}
theorem CompScope.of (h1:scope.kind=.function:=by rfl) (h2:(scope.names.all fun y=>y.2 != .cell)=true:=by rfl)
  (h3:(scope.names.all fun y=>y.2 != .free || (X.env.kindOf y.1 == some .cell || X.env.kindOf y.1 == some .free))=true:=by rfl)
  (h4:(scope.names.all fun y=>y.2 != .local || scope.names.lookup y.1 == some .local)=true:=by rfl) (h5:caps.map (fun j=>X.N[j]?)=capN.map some:=by rfl)
  (h6:(capN.all fun x=>scope.names.lookup x == some .free)=true:=by rfl):CompScope X scope own capN caps where
 kind:=h1
 nocell:=fun y hy e=>by
  have:=List.all_eq_true.mp h2 y hy
  rw [e] at this
  exact absurd this (by decide)
 free:=fun y hy e=>by
  have:=List.all_eq_true.mp h3 y hy
  rw [e] at this
  rw [Bool.or_eq_true] at this
  rcases this with z | z
  ·exact absurd z (by decide)
  ·rw [Bool.or_eq_true] at z
   exact z.imp (fun z=>eq_of_beq z) fun z=>eq_of_beq z
 loc:=fun y hy e=>by
  have:=List.all_eq_true.mp h4 y hy
  rw [e] at this
  rw [Bool.or_eq_true] at this
  rcases this with z | z
  ·exact absurd z (by decide)
  ·exact eq_of_beq z
 caps:=h5
 capf:=fun x hx=>eq_of_beq (List.all_eq_true.mp h6 x hx)
end
section
variable {X:Cx} {F:Fx} {a b c e:Expr} {ta tb tc:DT} {pos:Pos}
abbrev qI (g:Int->Int->Int):D2:=fI (fun _ _=>True) fun i j=>.int (g i j)
abbrev qB (g:Int->Int->Bool):D2:=fI (fun _ _=>True) fun i j=>.bool (g i j)
theorem t_B (ha:DE X F a ta) (hb:DE X F b tb):DE X F (.BinOp a .Add b pos) (dOp (qI fun i j=>i + j) ta tb):=l_T u_H (h_a fun _ _ _=>.int _) ha hb
theorem t_4 (ha:DE X F a ta) (hb:DE X F b tb):DE X F (.BinOp a .Sub b pos) (dOp (qI fun i j=>i - j) ta tb):=l_T t_Q (h_a fun _ _ _=>.int _) ha hb
theorem u_i (ha:DE X F a ta) (hb:DE X F b tb):DE X F (.BinOp a .Mult b pos) (dOp (fI t_Z fun i j=>.int (i * j)) ta tb):=l_T t_w (s_j fun _ _ _=>.int _) ha hb
theorem t_s (ha:DE X F a ta) (hb:DE X F b tb):DE X F (.BinOp a .FloorDiv b pos) (dOp (fI v_9 fun i j=>.int (i / j)) ta tb):=l_T s_p (s_j fun _ _ _=>.int _) ha hb
theorem v_f (ha:DE X F a ta) (hb:DE X F b tb):DE X F (.BinOp a .Mod b pos) (dOp (fI (fun _ j=>0 < j) fun i j=>.int (i % j)) ta tb):=l_T u_a (s_j fun _ _ _=>.int _) ha hb
theorem u_M (ha:DE X F a ta) (hb:DE X F b tb):DE X F (.BinOp a .Add b pos) (dOp r_A ta tb):=l_T v_o u_x ha hb
theorem v_5 (ha:DE X F a ta) (hb:DE X F b tb):DE X F (.Compare a [.Lt] [b] pos) (dOp (qB fun i j=>decide (i < j)) ta tb):=i_r u_6 (h_a fun _ _ _=>.bl _) ha hb (nomark _)
theorem w_G (ha:DE X F a ta) (hb:DE X F b tb):DE X F (.Compare a [.LtE] [b] pos) (dOp (qB fun i j=>decide (i<=j)) ta tb):=i_r p_P (h_a fun _ _ _=>.bl _) ha hb (nomark _)
theorem v_7 (ha:DE X F a ta) (hb:DE X F b tb):DE X F (.Compare a [.Gt] [b] pos) (dOp (qB fun i j=>decide (j < i)) ta tb):=i_r v_a (h_a fun _ _ _=>.bl _) ha hb (nomark _)
theorem w_W (ha:DE X F a ta) (hb:DE X F b tb):DB X F (.Compare a [.Lt] [b] pos) (l_r (dOp (qB fun i j=>decide (i < j)) ta tb)):=h_i u_6 (h_a fun _ _ _=>.bl _) ha hb (nomark _)
theorem w_a (ha:DE X F a ta) (hb:DE X F b tb):DB X F (.Compare a [.LtE] [b] pos) (l_r (dOp (qB fun i j=>decide (i<=j)) ta tb)):=h_i p_P (h_a fun _ _ _=>.bl _) ha hb (nomark _)
theorem w_u (ha:DE X F a ta) (hb:DE X F b tb):DB X F (.Compare a [.Gt] [b] pos) (l_r (dOp (qB fun i j=>decide (j < i)) ta tb)):=h_i v_a (h_a fun _ _ _=>.bl _) ha hb (nomark _)
theorem w_U (hu:X.A.units + 64 < cLine) (ha:DE X F a ta) (hb:DE X F b tb):DE X F (.Compare a [.Eq] [b] pos) (dOp (fEq false) ta tb):=i_r (r_q hu) v_J ha hb (nomark _)
theorem v_U (hu:X.A.units + 64 < cLine) (ha:DE X F a ta) (hb:DE X F b tb):DE X F (.Compare a [.NotEq] [b] pos) (dOp (fEq true) ta tb):=i_r (q_I hu) v_J ha hb (nomark _)
theorem x_g (hu:X.A.units + 64 < cLine) (ha:DE X F a ta) (hb:DE X F b tb):DB X F (.Compare a [.Eq] [b] pos) (l_r (dOp (fEq false) ta tb)):=h_i (r_q hu) v_J ha hb (nomark _)
theorem v_W (hu:X.A.units + 64 < cLine) (ha:DE X F a ta) (hb:DE X F b tb):DB X F (.Compare a [.NotEq] [b] pos) (l_r (dOp (fEq true) ta tb)):=h_i (q_I hu) v_J ha hb (nomark _)
theorem u_S (ha:DE X F a ta) (hb:DE X F b tb):DE X F (.Compare a [.Is] [b] pos) (dOp fIs ta tb):=i_r q_6 x_O ha hb (nomark _)
theorem t_n (ha:DE X F a ta) (hb:DE X F b tb):DB X F (.Compare a [.Is] [b] pos) (l_r (dOp fIs ta tb)):=h_i q_6 x_O ha hb (nomark _)
theorem r_S (ha:DE X F a ta) (hb:DE X F b tb):DB X F (.Compare a [.IsNot] [b] pos) (l_r (dOp o_O ta tb)):=h_i n_2 o_3 ha hb (nomark _)
theorem r_7 (ha:DE X F a ta) (hb:DE X F b tb) (hc:DE X F c tc) (hm:lastMarks [.LtE,.LtE] [b,c]=false:=by with_unfolding_all rfl):DE X F (.Compare a [.LtE,.LtE] [b,c] pos) (o_j (fun i j=>decide (i<=j)) (fun i j=>decide (i<=j)) ta tb tc):=p_w p_P p_P ha hb hc hm
theorem b_d {x:Str} {i:Int} {t:Tok} (hg:Gl X x) (hm:X.mg x=some (.int i t)) (hd:(x == ("__debug__":Str))=false:=by decide):DE X F (.Name x pos) (dC (.int i)):=f_3 (v:=.int i) (p_i hg hm ⟨t,rfl⟩ hd) fun _=>.int i
mutual
theorem m_e:∀ (d:PyData),d.canLay0=true->PyData.eqv d d=true
 | .none,_=>rfl
 | .bool b,_=>by simp [PyData.eqv]
 | .int i,_=>by simp [PyData.eqv]
 | .str s,_=>by simp [PyData.eqv]
 | .list xs,h=>by rw [PyData.eqv]; exact f_T xs (by simpa [PyData.canLay0] using h)
 | .tuple xs,h=>by rw [PyData.eqv]; exact f_T xs (by simpa [PyData.canLay0] using h)
 | .dict kvs,h=>by simp [PyData.canLay0] at h
theorem f_T:∀ (ds:List PyData),PyData.canLayAll0 ds=true->PyData.eqvAll ds ds=true
 | [],_=>rfl
 | x :: xs,h=>by
  simp only [PyData.canLayAll0,Bool.and_eq_true] at h
  rw [PyData.eqvAll,m_e x h.1,f_T xs h.2]
  rfl
end
theorem i_T {d:PyData} (h:SeqAt.shaped d=true):PyData.eqv d d=true:=m_e d (SeqAt.canLay_of_shaped h)
end
section
variable {X:Cx} {F:Fx} {a b:Expr} {ta tb:DT} {pos:Pos} {q:PyData->Prop}
def w_e:D2:=fun x y Q=>∃ ds k,x=.list ds/\y=.int k/\(-(2 ^ 63)<=k/\k < 2 ^ 63/\ds.length * k.toNat<=sizeLine)/\Q (.list (List.replicate k.toNat ds).flatten)
theorem o_l {H:Hp} {vs:List V} {ds:List PyData} (r:DVs H vs ds):∀ k:Nat,DVs H (List.replicate k vs).flatten (List.replicate k ds).flatten
 | 0=>.nil
 | k + 1=>by
  rw [List.replicate_succ,List.replicate_succ,List.flatten_cons,List.flatten_cons]
  exact r.append (o_l r k)
theorem v_Y:Op2 y_c w_e where
 mn:=fun _ _ _ _ k ⟨ds,n,e1,e2,e3,q⟩=>⟨ds,n,e1,e2,e3,k _ q⟩
 ok:=fun O H u v x y Q hO h1 h2 ⟨ds,k,e1,e2,⟨e3,e4,e5⟩,q⟩=>by
  subst e1 e2
  obtain ⟨a,xs,rfl,ha,hd⟩:=h1.lst_inv
  refine ⟨a,k,xs,rfl,h2.int_inv,(a_F ha).1,e3,e4,by rw [hd.length]; exact e5,fun p hp=>q _ _ (a_n hp) (c_H hp (hO p hp) (o_l hd _))⟩
theorem t_7 (ha:DE X F a ta) (hb:DE X F b tb):DE X F (.BinOp a .Mult b pos) (dOp w_e ta tb):=l_T t_W v_Y ha hb
end
section
variable {X:Cx} {F:Fx} {tA:DTA} {U:a_r} {N B C:a_r->Prop} {R:PyData->a_r->Prop}
def y_5:DTS:=fun D U=>D.bk U
theorem p_O {pos:Pos}:DS X F (.Break pos) y_5:=p_7.imp fun D Y H ⟨U,O,DD,st,q,f⟩=>f.bk Y H U O st .refl q
end
inductive Out (α:Type) where
 | ok (a:α) (U:a_r) | ex (c:Str) (U:a_r) | bad
@[simp] def Out.bind {α β:Type} (o:Out α) (k:α->a_r->Out β):Out β:=match o with
 | .ok a U=>k a U
 | .ex c U=>.ex c U
 | .bad=>.bad
@[simp] def lift {α:Type} (o:Option α) (U:a_r):Out α:=match o with
 | some a=>.ok a U
 | none=>.bad
abbrev XM (α:Type):=a_r->Out α
def wp {α:Type} (E:Str->a_r->Prop) (m:XM α):a_r->(α->a_r->Prop)->Prop:=fun U Q=>match m U with
 | .ok a U'=>Q a U'
 | .ex c U'=>E c U'
 | .bad=>False
section
variable {α β:Type} {E:Str->a_r->Prop}
theorem a_m {m:XM α}:∀ U (Q Q':α->a_r->Prop),(∀ d U',Q d U'->Q' d U')->wp E m U Q->wp E m U Q':=fun U Q Q' k q=>by
 unfold wp at q ⊢
 generalize m U=o at q ⊢
 cases o with
 | ok a U'=>exact k _ _ q
 | ex c U'=>exact q
 | bad=>exact q
theorem a_w {m:XM α} {k:α->XM β} {U:a_r} {Q:β->a_r->Prop} (h:wp E (fun U=>(m U).bind k) U Q):wp E m U fun a U'=>wp E (k a) U' Q:=by
 unfold wp at h ⊢
 unfold Out.bind at h
 simp only at h
 generalize m U=o at h ⊢
 cases o with
 | ok a U'=>exact h
 | ex c U'=>exact h
 | bad=>exact h
theorem a_Y {o:Option α} {U:a_r} {Q:α->a_r->Prop} (h:wp E (lift o) U Q):∃ a,o=some a/\Q a U:=by
 unfold wp lift at h
 cases o with
 | some a=>exact ⟨a,rfl,h⟩
 | none=>exact h.elim
end
section
variable {X:Cx} {F:Fx} {E:Str->a_r->Prop} {e a b c:Expr} {es:List Expr} {pos:Pos}
theorem DE.imp {t t':DT} (h:DE X F e t) (mn:Mn t') (k:∀ U Q,t' U Q->t U Q):DE X F e t':=⟨mn,h.pe.imp fun Y H Q ⟨U,O,st,q⟩=>⟨U,O,st,k U _ q⟩⟩
theorem DO.imp {t t':DTO} (h:DO X F e t) (mn:MnO t') (k:∀ U Q,t' U Q->t U Q):DO X F e t':=⟨mn,h.pe.imp fun Y H Q ⟨U,O,st,q⟩=>⟨U,O,st,k U _ q⟩⟩
theorem DA.imp {t t':DTA} (h:DA X F es t) (mn:MnA t') (k:∀ U Q,t' U Q->t U Q):DA X F es t':=⟨mn,h.pa.imp fun Y H Q ⟨U,O,st,q⟩=>⟨U,O,st,k U _ q⟩⟩
theorem DX.imp {t t':DTX} (h:DX X F es t) (mn:MnX t') (k:∀ U Q,t' U Q->t U Q):DX X F es t':=⟨mn,h.pa.imp fun Y H Q ⟨U,O,st,q⟩=>⟨U,O,st,k U _ q⟩⟩
theorem DB.imp {t t':DTT} (h:DB X F e t) (mn:MnT t') (k:∀ U Q,t' U Q->t U Q):DB X F e t':=⟨mn,h.pt.imp fun Y H Q ⟨U,O,st,q⟩=>⟨U,O,st,k U _ q⟩⟩
theorem DW.imp {t t':DTT} (h:DW X F e t) (mn:MnT t') (k:∀ U Q,t' U Q->t U Q):DW X F e t':=⟨mn,h.pw.imp fun Y H Q ⟨U,O,st,q⟩=>⟨U,O,st,k U _ q⟩⟩
theorem DSs.imp {sts:List Stmt} {t t':DTS} (h:DSs X F sts t) (k:∀ D U,t' D U->t D U):DSs X F sts t':=PSs.imp h fun D Y H ⟨U,O,DD,st,q,f⟩=>⟨U,O,DD,st,k DD U q,f⟩
theorem DS.imp {s:Stmt} {t t':DTS} (h:DS X F s t) (k:∀ D U,t' D U->t D U):DS X F s t':=PS.imp h fun D Y H ⟨U,O,DD,st,q,f⟩=>⟨U,O,DD,st,k DD U q,f⟩
abbrev FE (X:Cx) (F:Fx) (E:Str->a_r->Prop) (e:Expr) (m:XM PyData):Prop:=DE X F e (wp E m)
abbrev FO (X:Cx) (F:Fx) (E:Str->a_r->Prop) (e:Expr) (m:XM Cell):Prop:=DO X F e (wp E m)
abbrev FB (X:Cx) (F:Fx) (E:Str->a_r->Prop) (e:Expr) (m:XM Bool):Prop:=DB X F e (wp E m)
abbrev FW (X:Cx) (F:Fx) (E:Str->a_r->Prop) (e:Expr) (m:XM Bool):Prop:=DW X F e (wp E m)
abbrev FA (X:Cx) (F:Fx) (E:Str->a_r->Prop) (es:List Expr) (m:XM (List PyData)):Prop:=DA X F es (wp E m)
abbrev FX (X:Cx) (F:Fx) (E:Str->a_r->Prop) (es:List Expr) (m:XM (List AX)):Prop:=DX X F es (wp E m)
abbrev FI (X:Cx) (F:Fx) (E:Str->a_r->Prop) (tg iter:Expr) (m:XM (List PyData)):Prop:=DI X F tg iter (wp E m)
abbrev GM:=PyData->a_r->Option a_r
def wpG (g:GM):DTG:=fun d U Q=>match g d U with
 | some U'=>Q U'
 | none=>False
abbrev FG (X:Cx) (F:Fx) (tg:Expr) (g:GM):Prop:=DG X F tg (wpG g)
abbrev FS (X:Cx) (F:Fx) (E:Str->a_r->Prop) (s:Stmt) (m:SM):Prop:=DS X F s (wpS E m)
abbrev FSs (X:Cx) (F:Fx) (E:Str->a_r->Prop) (s:List Stmt) (m:SM):Prop:=DSs X F s (wpS E m)
@[simp] def xC (d:PyData):XM PyData:=fun U=>.ok d U
@[simp] def xV (i:Nat):XM PyData:=fun U=>match U[i]? with
 | some (some (.dat d))=>.ok d U
 | some (some (.own false (.l ds)))=>.ok (.list ds) (U.set i (some (.dat (.list ds))))
 | _=>.bad
theorem a_i {d:PyData} (h:DE X F e (dC d)):FE X F E e (xC d):=h.imp a_m fun _ _ q=>q
theorem y_X {i:Nat} (h:DE X F e (dV i)):FE X F E e (xV i):=h.imp a_m fun U Q q=>by
 unfold wp xV at q
 unfold dV
 cases h:U[i]? with
 | none=>rw [h] at q; exact q.elim
 | some o=>
  rw [h] at q
  cases o with
  | none=>exact q.elim
  | some c=>
   cases c with
   | dat d=>exact .inl ⟨d,rfl,q⟩
   | scr n=>exact q.elim
   | exc n=>exact q.elim
   | vw n=>exact q.elim
   | own io bx=>
    cases io with
    | true=>exact q.elim
    | false=>
     cases bx with
     | l ds=>exact .inr ⟨ds,rfl,q⟩
     | m _ _=>exact q.elim
     | o _ _=>exact q.elim
     | sd _=>exact q.elim
     | ll _=>exact q.elim
@[simp] def xOp (g:PyData->PyData->Option PyData) (a b:XM PyData):XM PyData:=fun U=>(a U).bind fun x U1=>(b U1).bind fun y=>lift (g x y)
def F2 (f:D2) (g:PyData->PyData->Option PyData):Prop:=∀ x y d Q,g x y=some d->Q d->f x y Q
theorem f_O {f:D2} {g:PyData->PyData->Option PyData} {ma mb:XM PyData} (hg:F2 f g) (h:DE X F e (dOp f (wp E ma) (wp E mb))):FE X F E e (xOp g ma mb):=h.imp a_m fun U Q q=>by
 refine a_m _ _ _ (fun x U1 q1=>?_) (a_w q)
 refine a_m _ _ _ (fun y U2 q2=>?_) (a_w q1)
 obtain ⟨d,e1,q3⟩:=a_Y q2
 exact hg x y d _ e1 q3
@[simp] def b_A (m:XM PyData):XM Bool:=fun U=>(m U).bind fun d=>lift (match d with | .bool b=>some b | _=>none)
theorem r_a {U:a_r} {Q:Bool->a_r->Prop} {m:XM PyData} (q:wp E (b_A m) U Q):l_r (wp E m) U Q:=a_m _ _ _ (fun d U1 q1=>by
 obtain ⟨b,e1,q2⟩:=a_Y q1
 cases d with
 | bool b'=>cases e1; exact ⟨_,rfl,q2⟩
 | _=>cases e1) (a_w q)
theorem k_I {f:D2} {g:PyData->PyData->Option PyData} {ma mb:XM PyData} (hg:F2 f g) (h:DB X F e (l_r (dOp f (wp E ma) (wp E mb)))):FB X F E e (b_A (xOp g ma mb)):=h.imp a_m fun U Q q=>by
 have q':=r_a q
 refine a_m _ _ _ (fun x U1 q1=>?_) (a_w q')
 refine a_m _ _ _ (fun y U2 q2=>?_) (a_w q1)
 obtain ⟨d,e1,q3⟩:=a_Y q2
 exact hg x y d _ e1 q3
theorem b_J {m:XM PyData} (h:DB X F e (l_r (wp E m))):FB X F E e (b_A m):=h.imp a_m fun U Q q=>r_a q
@[simp] def gI (g:Int->Int->PyData):PyData->PyData->Option PyData:=fun x y=>match x,y with
 | .int i,.int j=>some (g i j)
 | _,_=>none
@[simp] def gIC (C:Int->Int->Bool) (g:Int->Int->PyData):PyData->PyData->Option PyData:=fun x y=>match x,y with
 | .int i,.int j=>if C i j=true then some (g i j) else none
 | _,_=>none
theorem r_e {g:Int->Int->PyData}:F2 (fI (fun _ _=>True) g) (gI g):=fun x y d Q e q=>by
 unfold gI at e
 split at e
 ·cases e; exact ⟨_,_,rfl,rfl,trivial,q⟩
 ·cases e
theorem r_K {C:Int->Int->Bool} {P:Int->Int->Prop} {g:Int->Int->PyData} (h:∀ i j,C i j=true->P i j):F2 (fI P g) (gIC C g):=fun x y d Q e q=>by
 unfold gIC at e
 split at e
 ·split at e
  ·rename_i hc; cases e; exact ⟨_,_,rfl,rfl,h _ _ hc,q⟩
  ·cases e
 ·cases e
def q_D (i j:Int):Bool:=(decide (-(2 ^ 64) < i) && decide (i < 2 ^ 64)) || (decide (-(2 ^ 64) < j) && decide (j < 2 ^ 64))
def v_G (_ j:Int):Bool:=decide (0 < j) && decide (j < 1073741824)
def t_b (_ j:Int):Bool:=decide (0 < j)
theorem s_W (i j:Int) (h:q_D i j=true):t_Z i j:=by
 unfold q_D at h
 simp only [Bool.or_eq_true,Bool.and_eq_true,decide_eq_true_eq] at h
 exact h
theorem r_T (i j:Int) (h:v_G i j=true):v_9 i j:=by
 unfold v_G at h
 simp only [Bool.and_eq_true,decide_eq_true_eq] at h
 exact h
theorem s_t (i j:Int) (h:t_b i j=true):0 < j:=by
 unfold t_b at h
 simpa using h
def gEq (neg:Bool):PyData->PyData->Option PyData:=fun x y=>if (SeqAt.shaped x && SeqAt.shaped y)=true then some (.bool (PyData.eqv x y != neg)) else none
theorem q_n {neg:Bool}:F2 (fEq neg) (gEq neg):=fun x y d Q e q=>by
 unfold gEq at e
 split at e
 ·rename_i h
  cases e
  exact ⟨(Bool.and_eq_true_iff.mp h).1,(Bool.and_eq_true_iff.mp h).2,q⟩
 ·cases e
@[simp] def gIs:PyData->PyData->Option PyData:=fun x y=>match y with | .none=>some (.bool (isNone x)) | _=>none
@[simp] def e_Q:PyData->PyData->Option PyData:=fun x y=>match y with | .none=>some (.bool (!isNone x)) | _=>none
theorem v_l:F2 fIs gIs:=fun x y d Q e q=>by
 unfold gIs at e
 split at e
 ·cases e; exact ⟨rfl,q⟩
 ·cases e
theorem m_j:F2 o_O e_Q:=fun x y d Q e q=>by
 unfold e_Q at e
 split at e
 ·cases e; exact ⟨rfl,q⟩
 ·cases e
@[simp] def m_7:PyData->PyData->Option PyData:=fun x y=>match x,y with
 | .list ds,.list es=>if ds.length + es.length<=sizeLine then some (.list (ds ++ es)) else none
 | _,_=>none
theorem r_u:F2 r_A m_7:=fun x y d Q e q=>by
 unfold m_7 at e
 split at e
 ·split at e
  ·rename_i h; cases e; exact ⟨_,_,rfl,rfl,h,q⟩
  ·cases e
 ·cases e
@[simp] def v_I:PyData->PyData->Option PyData:=fun x y=>match x,y with
 | .list ds,.int k=>if (decide (-(2 ^ 63)<=k) && decide (k < 2 ^ 63) && decide (ds.length * k.toNat<=sizeLine))=true then some (.list (List.replicate k.toNat ds).flatten) else none
 | _,_=>none
theorem t_8:F2 w_e v_I:=fun x y d Q e q=>by
 unfold v_I at e
 split at e
 ·split at e
  ·rename_i h
   cases e
   simp only [Bool.and_eq_true,decide_eq_true_eq] at h
   exact ⟨_,_,rfl,rfl,⟨h.1.1,h.1.2,h.2⟩,q⟩
  ·cases e
 ·cases e
@[simp] def w_V (a:XM PyData):XM PyData:=fun U=>(a U).bind fun d=>lift (match d with | .int i=>some (.int (-i)) | _=>none)
theorem q_F {ma:XM PyData} (ha:FE X F E a ma):FE X F E (.UnaryOp .USub a pos) (w_V ma):=(u_X ha).imp a_m fun U Q q=>a_m _ _ _ (fun d U1 q1=>by
 obtain ⟨y,e1,q2⟩:=a_Y q1
 cases d with
 | int i=>cases e1; exact ⟨i,rfl,q2⟩
 | _=>cases e1) (a_w q)
@[simp] def y_e (a:XM PyData):XM PyData:=fun U=>(a U).bind fun d=>lift (match d with | .bool b=>some (.bool (!b)) | _=>none)
theorem v_s {ma:XM PyData} (ha:FE X F E a ma):FE X F E (.UnaryOp .Not a pos) (y_e ma):=(t_z ha).imp a_m fun U Q q=>a_m _ _ _ (fun d U1 q1=>by
 obtain ⟨y,e1,q2⟩:=a_Y q1
 cases d with
 | bool b=>cases e1; exact ⟨b,rfl,q2⟩
 | _=>cases e1) (a_w q)
@[simp] def x_9 (b:XM PyData) (d:PyData):XM PyData:=fun U1=>match d with
 | .bool true=>b U1
 | .bool false=>.ok (.bool false) U1
 | _=>.bad
@[simp] def orK (b:XM PyData) (d:PyData):XM PyData:=fun U1=>match d with
 | .bool true=>.ok (.bool true) U1
 | .bool false=>b U1
 | _=>.bad
@[simp] def j_5 (a b:XM PyData):XM PyData:=fun U=>(a U).bind (x_9 b)
@[simp] def xOr (a b:XM PyData):XM PyData:=fun U=>(a U).bind (orK b)
theorem c_5 {rest:List Expr} {ma mb:XM PyData} (ha:FE X F E a ma) (hb:FE X F E (.BoolOp .And (b :: rest) pos) mb):FE X F E (.BoolOp .And (a :: b :: rest) pos) (j_5 ma mb):=(u_L ha hb).imp a_m fun U Q q=>a_m _ _ _ (fun d U1 q1=>by
 cases d with
 | bool b=>cases b with
  | true=>exact ⟨true,rfl,j_6 q1⟩
  | false=>exact ⟨false,rfl,j_7 q1⟩
 | _=>exact q1.elim) (a_w (k:=x_9 mb) q)
theorem u_j {rest:List Expr} {ma mb:XM PyData} (ha:FE X F E a ma) (hb:FE X F E (.BoolOp .Or (b :: rest) pos) mb):FE X F E (.BoolOp .Or (a :: b :: rest) pos) (xOr ma mb):=(w_3 ha hb).imp a_m fun U Q q=>a_m _ _ _ (fun d U1 q1=>by
 cases d with
 | bool b=>cases b with
  | true=>exact ⟨true,rfl,j_6 q1⟩
  | false=>exact ⟨false,rfl,j_7 q1⟩
 | _=>exact q1.elim) (a_w (k:=orK mb) q)
theorem d_Y {op} {ma:XM PyData} (h:FE X F E a ma):FE X F E (.BoolOp op [a] pos) ma:=t_X h
@[simp] def o_4 (p p':Int->Int->Bool) (a b c:XM PyData):XM PyData:=fun U=>(a U).bind fun x U1=>(b U1).bind fun y U2=>match x,y with
 | .int i,.int j=>if p i j=true then (c U2).bind (fun z=>lift (match z with | .int k=>some (.bool (p' j k)) | _=>none)) else .ok (.bool false) U2
 | _,_=>.bad
theorem q_k {p p':Int->Int->Bool} {ma mb mc:XM PyData} (h:DE X F e (o_j p p' (wp E ma) (wp E mb) (wp E mc))):FE X F E e (o_4 p p' ma mb mc):=h.imp a_m fun U Q q=>by
 refine a_m _ _ _ (fun x U1 q1=>?_) (a_w q)
 refine a_m _ _ _ (fun y U2 q2=>?_) (a_w q1)
 unfold wp at q2
 cases x with
 | int i=>cases y with
  | int j=>
   refine ⟨i,j,rfl,rfl,?_⟩
   by_cases hp:p i j=true
   ·simp only [if_pos hp] at q2
    rw [if_pos hp]
    refine a_m _ _ _ (fun z U3 q3=>?_) (a_w (m:=mc) (k:=fun z=>lift (match z with | .int k=>some (PyData.bool (p' j k)) | _=>none)) q2)
    obtain ⟨d,e1,q4⟩:=a_Y q3
    cases z with
    | int k=>cases e1; exact ⟨k,rfl,q4⟩
    | _=>cases e1
   ·simp only [if_neg hp] at q2
    rw [if_neg hp]
    exact q2
  | _=>exact q2.elim
 | _=>exact q2.elim
@[simp] def f_x (a:XM Bool):XM Bool:=fun U=>(a U).bind fun b U1=>.ok (!b) U1
theorem d_x {ma:XM Bool} (h:FB X F E a ma):FB X F E (.UnaryOp .Not a pos) (f_x ma):=(v_i h).imp a_m fun U Q q=>a_m _ _ _ (fun d U1 q1=>q1) (a_w (k:=fun b U1=>.ok (!b) U1) q)
@[simp] def o_s (a b:XM Bool):XM Bool:=fun U=>(a U).bind fun x U1=>if x=true then b U1 else .ok false U1
@[simp] def q_i (a b:XM Bool):XM Bool:=fun U=>(a U).bind fun x U1=>if x=true then .ok true U1 else b U1
theorem l_n {ma:XM Bool} (h:FB X F E a ma):FW X F E (.BoolOp .And [a] pos) ma:=r_N h
theorem h_c {ma:XM Bool} (h:FB X F E a ma):FW X F E (.BoolOp .Or [a] pos) ma:=t_p h
theorem o_I {rest:List Expr} {ma mb:XM Bool} (ha:FB X F E a ma) (hb:FW X F E (.BoolOp .And (b :: rest) pos) mb):FW X F E (.BoolOp .And (a :: b :: rest) pos) (o_s ma mb):=(t_K ha hb).imp a_m fun U Q q=>a_m _ _ _ (fun d U1 q1=>by
 cases d with
 | true=>exact j_6 q1
 | false=>exact j_7 q1) (a_w (k:=fun x U1=>if x=true then mb U1 else .ok false U1) q)
theorem k_9 {rest:List Expr} {ma mb:XM Bool} (ha:FB X F E a ma) (hb:FW X F E (.BoolOp .Or (b :: rest) pos) mb):FW X F E (.BoolOp .Or (a :: b :: rest) pos) (q_i ma mb):=(w_k ha hb).imp a_m fun U Q q=>a_m _ _ _ (fun d U1 q1=>by
 cases d with
 | true=>exact j_6 q1
 | false=>exact j_7 q1) (a_w (k:=fun x U1=>if x=true then .ok true U1 else mb U1) q)
theorem n_F {ma:XM Bool} (h:FW X F E e ma):FB X F E e ma:=h.db
@[simp] def xIf {α:Type} (t:XM Bool) (a b:XM α):XM α:=fun U=>(t U).bind fun x U1=>if x=true then a U1 else b U1
theorem s_r {mt:XM Bool} {ma mb:XM PyData} (hc:FB X F E c mt) (ha:FE X F E a ma) (hb:FE X F E b mb):FE X F E (.IfExp c a b pos) (xIf mt ma mb):=(w_r hc ha hb).imp a_m fun U Q q=>a_m _ _ _ (fun d U1 q1=>by
 cases d with
 | true=>exact j_6 q1
 | false=>exact j_7 q1) (a_w (k:=fun x U1=>if x=true then ma U1 else mb U1) q)
@[simp] def b_i:XM (List PyData):=fun U=>.ok [] U
@[simp] def a_f (a:XM PyData) (r:XM (List PyData)):XM (List PyData):=fun U=>(a U).bind fun d U1=>(r U1).bind fun ds U2=>.ok (d :: ds) U2
theorem a_o:FA X F E [] b_i:=t_C.imp a_m fun _ _ q=>q
theorem s_u {ma:XM PyData} {mr:XM (List PyData)} (ha:FE X F E e ma) (hr:FA X F E es mr) (hs:starEach (e :: es) X.env=(false,eval e X.env) :: starEach es X.env:=by rfl):FA X F E (e :: es) (a_f ma mr):=(s_X ha hr hs).imp a_m fun U Q q=>
 a_m _ _ _ (fun d U1 q1=>a_m _ _ _ (fun ds U2 q2=>q2) (a_w (k:=fun ds U2=>.ok (d :: ds) U2) q1)) (a_w (k:=fun d U1=>(mr U1).bind fun ds U2=>.ok (d :: ds) U2) q)
@[simp] def g_J (a:XM (List PyData)):XM PyData:=fun U=>(a U).bind fun ds=>lift (if ds.length<=sizeLine then some (.tuple ds) else none)
@[simp] def l_d (a:XM (List PyData)):XM PyData:=fun U=>(a U).bind fun ds=>lift (if ds.length<=sizeLine then some (.list ds) else none)
theorem b_j {x1} {ma:XM (List PyData)} (h:FA X F E es ma):FE X F E (.Tuple es x1 pos) (g_J ma):=(u_f h).imp a_m fun U Q q=>a_m _ _ _ (fun ds U1 q1=>by
 obtain ⟨d,e1,q2⟩:=a_Y q1
 split at e1
 ·rename_i h; cases e1; exact ⟨h,q2⟩
 ·cases e1) (a_w q)
theorem d_N {ma:XM (List PyData)} (h:FA X F E es ma):FE X F E (.List es pos) (l_d ma):=(u_9 h).imp a_m fun U Q q=>a_m _ _ _ (fun ds U1 q1=>by
 obtain ⟨d,e1,q2⟩:=a_Y q1
 split at e1
 ·rename_i h; cases e1; exact ⟨h,q2⟩
 ·cases e1) (a_w q)
@[simp] def xCB (g:List PyData->Option PyData) (a:XM (List PyData)):XM PyData:=fun U=>(a U).bind fun ds=>lift (g ds)
def FN (f:DN) (g:List PyData->Option PyData):Prop:=∀ ds d Q,g ds=some d->Q d->f ds Q
theorem h_q {f:DN} {g:List PyData->Option PyData} {ma:XM (List PyData)} (hg:FN f g) (h:DE X F e (dCB f (wp E ma))):FE X F E e (xCB g ma):=h.imp a_m fun U Q q=>a_m _ _ _ (fun ds U1 q1=>by
 obtain ⟨d,e1,q2⟩:=a_Y q1
 exact hg ds d _ e1 q2) (a_w q)
end
section
variable {X:Cx} {F:Fx} {E:Str->a_r->Prop} {e a b c:Expr} {es:List Expr} {st:Stmt} {rest:List Stmt} {pos:Pos} {x:Str}
@[simp] def n_v:List PyData->Option PyData:=fun xs=>match xs with
 | [.list ds]=>some (.int ds.length)
 | [.tuple ds]=>some (.int ds.length)
 | _=>none
theorem i_c:FN y_g n_v:=fun xs d Q e q=>by
 unfold n_v at e
 split at e
 ·cases e; exact ⟨_,.inl rfl,q⟩
 ·cases e; exact ⟨_,.inr rfl,q⟩
 ·cases e
@[simp] def v_D:List PyData->Option PyData:=fun xs=>match xs with
 | [.int i,.int j]=>some (.int (max i j))
 | _=>none
theorem r_k:FN y_f v_D:=fun xs d Q e q=>by
 unfold v_D at e
 split at e
 ·cases e; exact ⟨_,_,rfl,q⟩
 ·cases e
@[simp] def m_g:List PyData->Option PyData:=fun xs=>match xs with
 | [.list ds]=>some (.tuple ds)
 | [.tuple ds]=>some (.tuple ds)
 | _=>none
theorem m_F:FN q_H m_g:=fun xs d Q e q=>by
 unfold m_g at e
 split at e
 ·cases e; exact .inl ⟨_,rfl,q⟩
 ·cases e; exact .inr ⟨_,rfl,q⟩
 ·cases e
def bools?:List PyData->Option (List Bool)
 | []=>some []
 | .bool i :: r=>(bools? r).map (i :: ·)
 | _ :: _=>none
theorem m_o:∀ {ds:List PyData} {ns:List Bool},bools? ds=some ns->ds=ns.map .bool
 | [],_,e=>by cases e; rfl
 | d :: r,ns,e=>by
  cases d with
  | bool i=>
   cases q:bools? r with
   | none=>simp [bools?,q] at e
   | some l=>simp [bools?,q] at e; subst e; rw [m_o q]; rfl
  | _=>cases e
def t_e:List PyData->Option PyData:=fun xs=>match xs with
 | [.list ds]=>(bools? ds).map fun bs=>.bool (bs.all id)
 | _=>none
theorem v_j:FN x_u t_e:=fun xs d Q e q=>by
 unfold t_e at e
 split at e
 ·obtain ⟨bs,e1,e2⟩:=Option.map_eq_some_iff.mp e
  rw [m_o e1]
  subst e2
  exact ⟨bs,rfl,q⟩
 ·cases e
@[simp] def q_d (i:Nat):XM PyData:=fun U=>match U[i]? with
 | some (some (.scr ns))=>if ns.length<=63 then .ok (.int ns.length) U else .bad
 | _=>.bad
@[simp] def v_R (i:Nat) (a:XM PyData):XM PyData:=fun U=>match U[i]? with
 | some (some (.scr ns))=>(a U).bind fun d=>lift (match d with | .int k=>(atI ns k).map .int | _=>none)
 | _=>.bad
@[simp] def x_o (i:Nat):XM Bool:=fun U=>match U[i]? with
 | some (some (.scr ns))=>.ok (decide (ns=[])) U
 | _=>.bad
theorem n_Q {i:Nat} (h:DE X F e (u_k i)):FE X F E e (q_d i):=h.imp a_m fun U Q q=>by
 unfold wp q_d at q
 cases h:U[i]? with
 | none=>rw [h] at q; exact q.elim
 | some o=>
  rw [h] at q
  cases o with
  | none=>exact q.elim
  | some c=>
   cases c with
   | scr ns=>
    simp only at q
    by_cases hl:ns.length<=63
    ·rw [if_pos hl] at q; exact ⟨ns,h,fun _=>q⟩
    ·rw [if_neg hl] at q; exact q.elim
   | _=>exact q.elim
theorem q_E {i:Nat} {ma:XM PyData} (h:DE X F e (x_V i (wp E ma))):FE X F E e (v_R i ma):=h.imp a_m fun U Q q=>by
 unfold wp v_R at q
 cases h:U[i]? with
 | none=>rw [h] at q; exact q.elim
 | some o=>
  rw [h] at q
  cases o with
  | none=>exact q.elim
  | some c=>
   cases c with
   | scr ns=>
    refine ⟨ns,h,a_m _ _ _ (fun d U1 q1=>?_) (a_w (m:=ma) (k:=fun d=>lift (match d with | .int k=>(atI ns k).map PyData.int | _=>none)) q)⟩
    obtain ⟨y,e1,q2⟩:=a_Y q1
    cases d with
    | int k=>
     obtain ⟨n,e2,e3⟩:=Option.map_eq_some_iff.mp e1
     subst e3
     exact ⟨k,n,rfl,e2,q2⟩
    | _=>cases e1
   | _=>exact q.elim
theorem t_V {i:Nat} (h:DB X F e (x_X i)):FB X F E e (x_o i):=h.imp a_m fun U Q q=>by
 unfold wp x_o at q
 cases h:U[i]? with
 | none=>rw [h] at q; exact q.elim
 | some o=>
  rw [h] at q
  cases o with
  | none=>exact q.elim
  | some c=>
   cases c with
   | scr ns=>exact ⟨ns,h,q⟩
   | _=>exact q.elim
@[simp] def gNm (i:Nat):GM:=fun d U=>some (U.set i (some (.dat d)))
theorem r_5 {i:Nat} (h:DG X F e (gN i)):FG X F e (gNm i):=⟨fun d U Q Q' k q=>k _ q,h.pg.imp fun v Y H Q ⟨U,O,d,st,hd,q⟩=>⟨U,O,d,st,hd,q⟩⟩
abbrev GMs:=List PyData->a_r->Option a_r
def t_i (g:GMs):q_Z:=fun d U Q=>match g d U with
 | some U'=>Q U'
 | none=>False
abbrev FGs (X:Cx) (F:Fx) (tg:List Expr) (g:GMs):Prop:=DGs X F tg (t_i g)
@[simp] def k_z:GMs:=fun ds U=>match ds with | []=>some U | _=>none
@[simp] def d_e (t:GM) (u:GMs):GMs:=fun ds U=>match ds with | d :: r=>(t d U).bind fun U'=>u r U' | []=>none
theorem t_P {g:GM}:∀ d U (Q Q':a_r->Prop),(∀ U',Q U'->Q' U')->wpG g d U Q->wpG g d U Q':=fun d U Q Q' k q=>by
 unfold wpG at q ⊢
 generalize g d U=o at q ⊢
 cases o with
 | some U'=>exact k _ q
 | none=>exact q
theorem o_D {g:GMs}:∀ d U (Q Q':a_r->Prop),(∀ U',Q U'->Q' U')->t_i g d U Q->t_i g d U Q':=fun d U Q Q' k q=>by
 unfold t_i at q ⊢
 generalize g d U=o at q ⊢
 cases o with
 | some U'=>exact k _ q
 | none=>exact q
theorem l_y:FGs X F [] k_z:=⟨o_D,s_G.pg.imp fun v Y H Q ⟨U,O,d,st,hd,q⟩=>⟨U,O,d,st,hd,by
 unfold t_i k_z at q
 cases d with
 | nil=>exact ⟨rfl,q⟩
 | cons _ _=>exact q.elim⟩⟩
theorem e_K {g:GM} {gs:GMs} (h1:FG X F e g) (h2:FGs X F es gs) (hs:(assignEach (e :: es) X.env).map (·.2)=assign e X.env :: (assignEach es X.env).map (·.2):=by rfl):FGs X F (e :: es) (d_e g gs):=⟨o_D,(q_p h1 h2 hs).pg.imp fun v Y H Q ⟨U,O,d,st,hd,q⟩=>⟨U,O,d,st,hd,by
 unfold t_i d_e at q
 cases d with
 | nil=>exact q.elim
 | cons d r=>
  refine ⟨d,r,rfl,?_⟩
  unfold wpG
  simp only at q
  cases hg:g d U with
  | none=>rw [hg] at q; exact q
  | some U'=>rw [hg] at q; exact q⟩⟩
@[simp] def k_h (n:Nat) (t:GMs):GM:=fun d U=>match d with | .tuple ds=>if ds.length=n then t ds U else none | _=>none
theorem p_l {k n:Nat} {gs:GMs} (hc:X.calm=true) (h:FGs X F es gs) (hn:(assignEach es X.env).length=n:=by rfl) (hst:(assignEach es X.env).findIdx? (·.1)=none:=by rfl):FG X F (.Tuple es k pos) (k_h n gs):=⟨t_P,(t_0 hc h hn hst).pg.imp fun v Y H Q ⟨U,O,d,st,hd,q⟩=>⟨U,O,d,st,hd,by
 unfold wpG k_h at q
 cases d with
 | tuple ds=>
  simp only at q
  by_cases hl:ds.length=n
  ·rw [if_pos hl] at q; exact ⟨ds,rfl,hl,q⟩
  ·rw [if_neg hl] at q; exact q.elim
 | _=>exact q.elim⟩⟩
@[simp] def a_M:XM (List AX):=fun U=>.ok [] U
@[simp] def a_s (a:XM PyData) (r:XM (List AX)):XM (List AX):=fun U=>(a U).bind fun d U1=>(r U1).bind fun as U2=>.ok (.d d :: as) U2
@[simp] def a_t (j:Nat) (r:XM (List AX)):XM (List AX):=fun U=>match U[j]? with
 | some (some _)=>(r U).bind fun as U2=>.ok (.s j :: as) U2
 | _=>.bad
theorem a_e:FX X F E [] a_M:=u_g.imp a_m fun _ _ q=>q
theorem u_F {ma:XM PyData} {mr:XM (List AX)} (ha:FE X F E e ma) (hr:FX X F E es mr) (hs:starEach (e :: es) X.env=(false,eval e X.env) :: starEach es X.env:=by rfl):FX X F E (e :: es) (a_s ma mr):=(u_w ha hr hs).imp a_m fun U Q q=>
 a_m _ _ _ (fun d U1 q1=>a_m _ _ _ (fun ds U2 q2=>q2) (a_w (k:=fun as U2=>Out.ok (AX.d d :: as) U2) q1)) (a_w (m:=ma) (k:=fun d U1=>(mr U1).bind fun as U2=>Out.ok (AX.d d :: as) U2) q)
theorem r_9 {p:Pos} {j:Nat} {mr:XM (List AX)} (hv:PE X (.Name x p) (e_A j)) (hr:FX X F E es mr) (hs:starEach (.Name x p :: es) X.env=(false,eval (.Name x p) X.env) :: starEach es X.env:=by rfl):FX X F E (.Name x p :: es) (a_t j mr):=(s_E hv hr hs).imp a_m fun U Q q=>by
 unfold wp a_t at q
 cases h:U[j]? with
 | none=>rw [h] at q; exact q.elim
 | some o=>
  rw [h] at q
  cases o with
  | none=>exact q.elim
  | some c=>exact ⟨⟨c,h⟩,a_m _ _ _ (fun as U2 q2=>q2) (a_w (m:=mr) (k:=fun as U2=>Out.ok (AX.s j :: as) U2) (show wp E (fun U=>(mr U).bind fun as U2=>Out.ok (AX.s j :: as) U2) U Q from q))⟩
@[simp] def l_F (f:FM) (as:List AX):XM Cell:=fun U=>match b_U U as with
 | some (cs,js)=>(match f cs with
  | .rt c outs=>.ok c (back js outs (clr js U))
  | .ex c outs=>.ex c (back js outs (clr js U))
  | .bad=>.bad)
 | none=>.bad
@[simp] def a_q (f:FM) (a:XM (List AX)):XM Cell:=fun U=>(a U).bind (l_F f)
theorem p_o {g:FM} {ma:XM (List AX)} (h:DO X F e (s_I g E (wp E ma))):FO X F E e (a_q g ma):=h.imp a_m fun U Q q=>a_m _ _ _ (fun as U1 q1=>by
 unfold wp l_F at q1
 unfold d_J
 cases ha:b_U U1 as with
 | none=>rw [ha] at q1; exact q1
 | some p=>
  obtain ⟨cs,js⟩:=p
  rw [ha] at q1
  simp only at q1 ⊢
  cases hf:g cs with
  | rt c outs=>rw [hf] at q1; exact q1
  | ex c outs=>rw [hf] at q1; exact q1
  | bad=>rw [hf] at q1; exact q1) (a_w (k:=l_F g) q)
@[simp] def a_7 (a:XM Cell):XM PyData:=fun U=>(a U).bind fun c=>lift (frz c)
theorem a_k {ma:XM Cell} (h:FO X F E e ma):FE X F E e (a_7 ma):=h.de.imp a_m fun U Q q=>a_m _ _ _ (fun c U1 q1=>a_Y q1) (a_w q)
@[simp] def sNx:SM:=fun U=>.nx U
@[simp] def a_h (m k:SM):SM:=fun U=>match m U with
 | .nx U'=>k U'
 | o=>o
theorem a_u:FSs X F E [] sNx:=s_F.imp fun _ _ q=>q
theorem a_a {m k:SM} (h1:FS X F E st m) (h2:FSs X F E rest k):FSs X F E (st :: rest) (a_h m k):=(q_c h1 h2).imp fun D U q=>by
 show wpS E m _ U
 unfold wpS a_h at q
 unfold wpS
 generalize m U=o at q ⊢
 cases o with
 | nx U'=>exact q
 | _=>exact q
theorem a_c {m:SM} (h:FS X F E st m):FSs X F E [st] m:=r_R h
@[simp] def ofX {α:Type} (o:Out α) (k:α->a_r->OutS):OutS:=match o with
 | .ok a U=>k a U
 | .ex c U=>.ex c U
 | .bad=>.bad
theorem c_p {α:Type} {m:XM α} {k:α->SM} {D:DEnds} {U:a_r} (q:wpS E (fun U=>ofX (m U) k) D U):wp E m U fun a U'=>wpS E (k a) D U':=by
 unfold wpS ofX at q
 unfold wp
 simp only at q
 generalize m U=o at q ⊢
 cases o with
 | ok a U'=>exact q
 | ex c U'=>exact q
 | bad=>exact q
@[simp] def w_g (o:Option a_r):OutS:=match o with
 | some U=>.nx U
 | none=>.bad
@[simp] def c_L (m:XM PyData) (g:GM):SM:=fun U=>ofX (m U) fun d U1=>w_g (g d U1)
theorem r_f {m:XM PyData} {g:GM} {D:DEnds} {U:a_r} (q:wpS E (c_L m g) D U):w_s (wp E m) (wpG g) D U:=a_m _ _ _ (fun d U1 q1=>by
 unfold wpS w_g at q1
 unfold wpG
 simp only at q1
 generalize g d U1=o at q1 ⊢
 cases o with
 | some U'=>exact q1
 | none=>exact q1) (c_p (k:=fun d U1=>w_g (g d U1)) q)
theorem a_G {i:Nat} {pos':Pos} {m:XM PyData} (hN:X.N.Nodup) (hi:X.N[i]? = some x) (hx:Loc X.env.scope x) (he:FE X F E e m) (hs:swapsWith e (some (.Name x pos')) pos.line X.env=pure false:=by rfl)
  (hf:X.fn x=true\/X.env.scope.names.lookup x=some .local:=by first | exact .inl rfl | exact .inr rfl | assumption):FS X F E (.Assign [.Name x pos'] e pos) (c_L m (gNm i)):=(u_Q hN hi hx he hs hf).imp fun D U q=>r_f q
@[simp] def v_1 (i:Nat) (c:Cell):SM:=fun U1=>if i < U1.length then (match c with | .own true _=>.bad | c=>.nx (U1.set i (some c))) else .bad
@[simp] def g_v (i:Nat) (m:XM Cell):SM:=fun U=>ofX (m U) (v_1 i)
theorem d_B {i:Nat} {pos':Pos} {m:XM Cell} (hN:X.N.Nodup) (hi:X.N[i]? = some x) (hx:Loc X.env.scope x) (he:FO X F E e m) (hs:swapsWith e (some (.Name x pos')) pos.line X.env=pure false:=by rfl)
  (hf:X.fn x=true\/X.env.scope.names.lookup x=some .local:=by first | exact .inl rfl | exact .inr rfl | assumption):FS X F E (.Assign [.Name x pos'] e pos) (g_v i m):=(s_S hN hi hx he hs hf).imp fun D U q=>a_m _ _ _ (fun c U1 q1=>by
 unfold wpS v_1 at q1
 by_cases hl:i < U1.length
 ·simp only [if_pos hl] at q1
  cases c with
  | own io b=>cases io with
   | true=>exact q1.elim
   | false=>exact ⟨hl,(fun _ z=>by cases z),q1⟩
  | dat d=>exact ⟨hl,(fun _ z=>by cases z),q1⟩
  | scr d=>exact ⟨hl,(fun _ z=>by cases z),q1⟩
  | exc d=>exact ⟨hl,(fun _ z=>by cases z),q1⟩
  | vw d=>exact ⟨hl,(fun _ z=>by cases z),q1⟩
 ·simp only [if_neg hl] at q1) (c_p (k:=v_1 i) q)
@[simp] def a_N (m:XM PyData):SM:=fun U=>ofX (m U) fun d U1=>.rt (.dat d) U1
@[simp] def e_O (m:XM Cell):SM:=fun U=>ofX (m U) fun c U1=>.rt c U1
@[simp] def l_Z (m:XM Cell):SM:=fun U=>ofX (m U) fun _ U1=>.nx U1
theorem a_z {m:XM PyData} (he:FE X F E e m):FS X F E (.Return (some e) pos) (a_N m):=(r_b he).imp fun D U q=>a_m _ _ _ (fun c U1 q1=>q1) (c_p (k:=fun d U1=>.rt (.dat d) U1) q)
theorem b_x {m:XM Cell} (he:FO X F E e m):FS X F E (.Return (some e) pos) (e_O m):=(s_s he).imp fun D U q=>a_m _ _ _ (fun c U1 q1=>q1) (c_p (k:=fun d U1=>.rt d U1) q)
theorem b_D {m:XM Cell} (he:FO X F E e m) (hs:swapsWith e none pos.line X.env=pure false:=by rfl):FS X F E (.Expr e pos) (l_Z m):=(q_t he hs).imp fun D U q=>a_m _ _ _ (fun c U1 q1=>q1) (c_p (k:=fun _ U1=>.nx U1) q)
@[simp] def sMv (i:Nat):SM:=fun U=>match U[i]? with
 | some (some (.own false b))=>.rt (.own false b) (U.set i none)
 | some (some (.dat d))=>.rt (.dat d) U
 | _=>.bad
@[simp] def d_p (t:XM Bool) (a b:SM):SM:=fun U=>ofX (t U) fun x U1=>if x=true then a U1 else b U1
theorem a_6 {cnd:Expr} {sa sb:List Stmt} {mt:XM Bool} {ma mb:SM} (hc:FB X F E cnd mt) (ha:FSs X F E sa ma) (hb:FSs X F E sb mb):FS X F E (.If cnd sa sb pos) (d_p mt ma mb):=(w_f hc ha hb).imp fun D U q=>a_m _ _ _ (fun x U1 q1=>by
 cases x with
 | true=>exact j_6 q1
 | false=>exact j_7 q1) (c_p (k:=fun x U1=>if x=true then ma U1 else mb U1) q)
@[simp] def x_4:SM:=fun U=>.bk U
theorem p_6:FS X F E (.Break pos) x_4:=p_O.imp fun _ _ q=>q
end
def b_0 (d n:String):Option Bool:=if d=n then some true else
 if d = "bool"/\n = "int" then some true else
 if (d = "int"\/d = "bool"\/d = "str"\/d = "list"\/d = "tuple"\/d = "NoneType")/\(n = "int"\/n = "bool"\/n = "str"\/n = "list"\/n = "tuple") then some false else none
theorem s_D {d n:String} {b:Bool} (h:b_0 d n=some b) (K:PySem.W.Frag):kitOne K (.type d) (.type n)=some b:=by
 unfold b_0 at h
 split at h
 ·rename_i e; cases h; subst e; unfold kitOne; rw [if_pos (by simp)]
 ·split at h
  ·rename_i e; cases h; obtain ⟨rfl,rfl⟩:=e; rfl
  ·rename_i n1 n2
   split at h
   ·rename_i e
    cases h
    obtain ⟨e1,e2⟩:=e
    rcases e1 with rfl | rfl | rfl | rfl | rfl | rfl <;> rcases e2 with rfl | rfl | rfl | rfl | rfl <;> first | rfl | (exact absurd rfl n1) | (exact absurd ⟨rfl,rfl⟩ n2)
   ·cases h
@[simp] def xIs (n:String) (a:XM PyData):XM PyData:=fun U=>(a U).bind fun d=>lift ((b_0 (p_9 d) n).map .bool)
section
variable {X:Cx} {F:Fx} {E:Str->a_r->Prop} {e a b c:Expr} {es:List Expr} {st:Stmt} {rest:List Stmt} {pos:Pos} {x:Str}
theorem k_A {n:String} {ma:XM PyData} (h:DE X F e (y_j n (wp E ma))):FE X F E e (xIs n ma):=h.imp a_m fun U Q q=>a_m _ _ _ (fun d U1 q1=>by
 obtain ⟨y,e1,q2⟩:=a_Y q1
 obtain ⟨b,e2,e3⟩:=Option.map_eq_some_iff.mp e1
 subst e3
 exact ⟨b,s_D e2,q2⟩) (a_w q)
theorem t_5 {i:Nat} {p1:Pos} (hv:PE X (.Name x p1) (e_A i)):FS X F E (.Return (some (.Name x p1)) pos) (sMv i):=fun pins s Y H D I ⟨U,O,DD,stt,q,f⟩=>by
 unfold wpS sMv at q
 cases h:U[i]? with
 | none=>rw [h] at q; exact q.elim
 | some o=>
  rw [h] at q
  cases o with
  | none=>exact q.elim
  | some c=>
   cases c with
   | own io b=>cases io with
    | true=>exact q.elim
    | false=>exact p_C hv pins s Y H D I ⟨U,O,DD,stt,⟨b,h,q⟩,f⟩
   | dat d=>exact r_b (q_U i hv) pins s Y H D I ⟨U,O,DD,stt,.inl ⟨d,h,q⟩,f⟩
   | scr n=>exact q.elim
   | exc n=>exact q.elim
   | vw n=>exact q.elim
def c_m (g:GM) (b:SM):List PyData->SM
 | [],U=>.nx U
 | d :: r,U=>(match g d U with
  | some U1=>(match b U1 with
   | .nx U2=>c_m g b r U2
   | .ct U2=>c_m g b r U2
   | .bk U2=>.nx U2
   | o=>o)
  | none=>.bad)
@[simp] def i_e (s:XM (List PyData)) (g:GM) (b:SM):SM:=fun U=>ofX (s U) (c_m g b)
theorem g_7 {tg iter:Expr} {body:List Stmt} {s:XM (List PyData)} {g:GM} {mb:SM} (hp:PassesOwn (model X.prog X.w) X.A X.env X.xe) (hc:X.calm=true) (hi:FI X F E tg iter s) (hg:FG X F tg g) (hb:FSs X F E body mb) (hs:∀ x,foldedSetIterable iter X.env x=pure x:=by intro _; rfl):FS X F E (.For tg iter body [] pos) (i_e s g mb):=
 (u_B hp hc hi hg hb hs).imp fun D U q=>a_m _ _ _ (fun its U1 q1=>by
  refine ⟨fun i U=>wpS E (c_m g mb (its.drop i)) D U,q1,fun i d U hd hi=>?_,fun U h=>?_⟩
  ·have e:its.drop i=d :: its.drop (i + 1):=by
    obtain ⟨hlt,he⟩:=List.getElem?_eq_some_iff.mp hd
    rw [<-he]
    exact List.drop_eq_getElem_cons hlt
   simp only [e] at hi
   unfold wpS c_m at hi
   unfold wpG
   generalize g d U=o at hi ⊢
   cases o with
   | none=>exact hi
   | some U1=>
    show wpS E mb _ U1
    simp only at hi
    unfold wpS
    generalize mb U1=o2 at hi ⊢
    cases o2 with
    | nx U2=>exact hi
    | ct U2=>exact hi
    | bk U2=>exact hi
    | rt c U2=>exact hi
    | ex c U2=>exact hi
    | bad=>exact hi
  ·simp only [List.drop_length] at h
   exact h) (c_p (k:=c_m g mb) q)
def d_z (c:XM Bool) (b:SM):Nat->SM
 | 0,_=>.bad
 | n + 1,U=>ofX (c U) fun t U1=>if t=true then (match b U1 with
   | .nx U2=>d_z c b n U2
   | .ct U2=>d_z c b n U2
   | .bk U2=>.nx U2
   | o=>o) else .nx U1
theorem least {p:Nat->Prop}:(∃ k,p k)->∃ k,p k/\∀ j,p j->k<=j:=by
 rintro ⟨k,hk⟩
 induction k using Nat.strongRecOn with
 | _ k ih=>
  by_cases h:∃ j,j < k/\p j
  ·obtain ⟨j,h1,h2⟩:=h
   exact ih j h1 h2
  ·exact ⟨k,hk,fun j hj=>Nat.le_of_not_lt fun z=>h ⟨j,z,hj⟩⟩
theorem q_m {cnd:Expr} {body:List Stmt} {mc:XM Bool} {mb:SM} {n:Nat} (hp:PassesOwn (model X.prog X.w) X.A X.env X.xe) (hc:FB X F E cnd mc) (hb:FSs X F E body mb):FS X F E (.While cnd body [] pos) (d_z mc mb n):=
 (p_1 hp hc hb).imp fun D U q=>by
  classical
  let ok:Nat->a_r->Prop:=fun k U=>wpS E (d_z mc mb k) D U
  let Iv:a_r->Prop:=fun U=>∃ k,ok k U
  let μ:a_r->Nat:=fun U=>if h:Iv U then (least h).choose else 0
  have μs:∀ U,Iv U->ok (μ U) U/\∀ j,ok j U->μ U<=j:=fun U h=>by
   rw [show μ U=(least h).choose from dif_pos h]
   exact (least h).choose_spec
  refine ⟨Iv,μ,⟨n,q⟩,fun U hI=>?_⟩
  have h1:ok (μ U) U:=(μs U hI).1
  cases hk:μ U with
  | zero=>rw [hk] at h1; exact h1.elim
  | succ k=>
   rw [hk] at h1
   have less:∀ U2,ok k U2->Iv U2/\μ U2 < k + 1:=fun U2 h2=>⟨⟨k,h2⟩,Nat.lt_succ_of_le ((μs U2 ⟨k,h2⟩).2 k h2)⟩
   refine a_m _ _ _ (fun t U1 q1=>?_) (c_p (m:=mc) (k:=fun t U1=>if t=true then (match mb U1 with | .nx U2=>d_z mc mb k U2 | .ct U2=>d_z mc mb k U2 | .bk U2=>.nx U2 | o=>o) else .nx U1) h1)
   cases t with
   | false=>exact j_7 q1
   | true=>
    refine j_6 ?_
    unfold wpS at q1 ⊢
    simp only [if_true] at q1
    generalize mb U1=o2 at q1 ⊢
    cases o2 with
    | nx U2=>exact less U2 q1
    | ct U2=>exact less U2 q1
    | bk U2=>exact q1
    | rt c U2=>exact q1
    | ex c U2=>exact q1
    | bad=>exact q1
@[simp] def iLs (a:XM PyData):XM (List PyData):=fun U=>(a U).bind fun d=>lift (match d with | .list ds=>some ds | _=>none)
@[simp] def iTs (a:XM PyData):XM (List PyData):=fun U=>(a U).bind fun d=>lift (match d with | .tuple ds=>some ds | _=>none)
theorem DI.imp {tg iter:Expr} {t t':DTI} (h:DI X F tg iter t) (mn:∀ U Q Q',(∀ d U',Q d U'->Q' d U')->t' U Q->t' U Q') (k:∀ U Q,t' U Q->t U Q):DI X F tg iter t':=⟨mn,h.pi.imp fun Y H Q ⟨U,O,st,q⟩=>⟨U,O,st,k U _ q⟩⟩
theorem n_K {tg:Expr} {ma:XM PyData} (h:FE X F E e ma):FI X F E tg e (iLs ma):=(r_F h).imp a_m fun U Q q=>a_m _ _ _ (fun d U1 q1=>by
 obtain ⟨y,e1,q2⟩:=a_Y q1
 cases d with
 | list ds=>cases e1; exact ⟨_,rfl,q2⟩
 | _=>cases e1) (a_w q)
theorem h_X {tg:Expr} {ma:XM PyData} (h:FE X F E e ma):FI X F E tg e (iTs ma):=(v_x h).imp a_m fun U Q q=>a_m _ _ _ (fun d U1 q1=>by
 obtain ⟨y,e1,q2⟩:=a_Y q1
 cases d with
 | tuple ds=>cases e1; exact ⟨_,rfl,q2⟩
 | _=>cases e1) (a_w q)
@[simp] def iLf (g:List PyData->Option (List PyData)) (a:XM (List PyData)):XM (List PyData):=fun U=>(a U).bind fun ds=>lift (g ds)
@[simp] def rng1:List PyData->Option (List PyData):=fun xs=>match xs with
 | [.int j]=>if (decide (-(2 ^ 62)<=j) && decide (j < 2 ^ 62))=true then some (intsFrom 0 j.toNat) else none
 | _=>none
theorem e_4 {tg:Expr} {ma:XM (List PyData)} (h:DI X F tg e (iR1 (wp E ma))):FI X F E tg e (iLf rng1 ma):=h.imp a_m fun U Q q=>a_m _ _ _ (fun ds U1 q1=>by
 obtain ⟨y,e1,q2⟩:=a_Y q1
 unfold rng1 at e1
 split at e1
 ·split at e1
  ·rename_i h; cases e1; simp only [Bool.and_eq_true,decide_eq_true_eq] at h; exact ⟨_,rfl,h.1,h.2,q2⟩
  ·cases e1
 ·cases e1) (a_w q)
@[simp] def enm1:List PyData->Option (List PyData):=fun xs=>match xs with
 | [.list ds]=>some (numbered ds)
 | _=>none
theorem r_z {tg:Expr} {ma:XM (List PyData)} (h:DI X F tg e (iE (wp E ma))):FI X F E tg e (iLf enm1 ma):=h.imp a_m fun U Q q=>a_m _ _ _ (fun ds U1 q1=>by
 obtain ⟨y,e1,q2⟩:=a_Y q1
 unfold enm1 at e1
 split at e1
 ·cases e1; exact ⟨_,rfl,q2⟩
 ·cases e1) (a_w q)
def b_c (g:GM) (t:XM Bool) (m:XM PyData):List PyData->List PyData->a_r->Option (List PyData)
 | [],ys,_=>some ys
 | d :: r,ys,U=>(match g d U with
  | some U1=>(match t U1 with
   | .ok true U2=>(match m U2 with
    | .ok y U3=>if ys.length < sizeLine then b_c g t m r (ys ++ [y]) U3 else none
    | _=>none)
   | .ok false U2=>b_c g t m r ys U2
   | _=>none)
  | none=>none)
@[simp] def j_P (own:Nat) (caps:List Nat) (U:a_r):a_r:=List.replicate own none ++ caps.map fun j=>x_M U[j]?
@[simp] def u_1 (own:Nat) (caps:List Nat) (g:GM) (t:XM Bool) (m:XM PyData) (its:List PyData):XM PyData:=fun U1=>lift ((b_c g t m its [] (j_P own caps U1)).bind fun ys=>if ys.length<=sizeLine then some (.list ys) else none) U1
@[simp] def j_b (own:Nat) (caps:List Nat) (s:XM (List PyData)) (g:GM) (t:XM Bool) (m:XM PyData):XM PyData:=fun U=>(s U).bind (u_1 own caps g t m)
abbrev E0':Str->a_r->Prop:=fun _ _=>False
theorem o_1 {own:List Str} {caps:List Nat} {s:XM (List PyData)} {g:GM} {t:XM Bool} {m:XM PyData} {U:a_r} {Q:PyData->a_r->Prop} (q:wp E (j_b own.length caps s g t m) U Q):u_K own caps (wp E s) (wpG g) (wp E0' t) (wp E0' m) U Q:=a_m _ _ _ (fun its U1 q1=>by
 obtain ⟨y,e1,q2⟩:=a_Y (o:=(b_c g t m its [] (j_P own.length caps U1)).bind fun ys=>if ys.length<=sizeLine then some (PyData.list ys) else none) (U:=U1) (E:=E) (Q:=Q) q1
 obtain ⟨ys0,e2,e3⟩:=Option.bind_eq_some_iff.mp e1
 have hl:ys0.length<=sizeLine/\y=.list ys0:=by
  split at e3
  ·rename_i h; cases e3; exact ⟨h,rfl⟩
  ·cases e3
 have eL:d_1 own caps U1=j_P own.length caps U1:=by
  unfold d_1 j_P
  rw [List.map_const']
 refine ⟨fun i ys U=>b_c g t m (its.drop i) ys U=some ys0,by rw [eL]; exact e2,fun i d ys U hd hi=>?_,fun ys U h=>?_⟩
 ·have e:its.drop i=d :: its.drop (i + 1):=by
   obtain ⟨hlt,he⟩:=List.getElem?_eq_some_iff.mp hd
   rw [<-he]
   exact List.drop_eq_getElem_cons hlt
  simp only [e] at hi
  unfold b_c at hi
  unfold wpG
  cases hg:g d U with
  | none=>rw [hg] at hi; cases hi
  | some U2=>
   rw [hg] at hi
   simp only at hi ⊢
   unfold wp
   cases ht:t U2 with
   | ex c U3=>rw [ht] at hi; cases hi
   | bad=>rw [ht] at hi; cases hi
   | ok b U3=>
    rw [ht] at hi
    cases b with
    | false=>exact j_7 hi
    | true=>
     refine j_6 ?_
     simp only at hi ⊢
     cases hm:m U3 with
     | ex c U4=>rw [hm] at hi; cases hi
     | bad=>rw [hm] at hi; cases hi
     | ok y' U4=>
      rw [hm] at hi
      simp only at hi ⊢
      split at hi
      ·rename_i h; exact ⟨h,hi⟩
      ·cases hi
 ·simp only [List.drop_length] at h
  have:ys=ys0:=by unfold b_c at h; exact Option.some.inj h
  subst this
  rw [hl.2] at q2
  exact ⟨hl.1,q2⟩) (a_w (k:=u_1 own.length caps g t m) q)
abbrev FBs (X:Cx) (F:Fx) (E:Str->a_r->Prop) (ifs:List Expr) (m:XM Bool):Prop:=DBs X F ifs (wp E m)
def h_s:XM Bool:=fun U=>.ok true U
theorem i_b:FBs X F E [] h_s:=⟨a_m,fun pins s Y H Q I ⟨U,O,st,q⟩=>s_4.2 pins s Y H Q I ⟨U,O,st,q⟩⟩
theorem p_a {ma:XM Bool} (h:FB X F E c ma):FBs X F E [c] ma:=s_x h
theorem j_u {scope:Scope} {own capN:List Str} {caps:List Nat} {tg iter elt:Expr} {ifs:List Expr} {s:XM (List PyData)} {g:GM} {t:XM Bool} {m:XM PyData} {n:Nat} (S:CompScope X scope own capN caps) (hc:X.calm=true) (hn:own.length=n) (hi:FI X F E tg iter s)
  (hin:∀ C fp s₂ H₂ pl F',FG (a_U X scope (own ++ capN) C fp s₂ H₂ pl) F' tg g/\FBs (a_U X scope (own ++ capN) C fp s₂ H₂ pl) F' E0' ifs t/\FE (a_U X scope (own ++ capN) C fp s₂ H₂ pl) F' E0' elt m)
  (hs:∀ x,foldedSetIterable iter X.env x=pure x:=by intro _; rfl):FE X F E (.ListComp elt [⟨tg,iter,ifs,0⟩] scope pos) (j_b n caps s g t m):=by
 subst hn
 exact (r_U S hc hi hin hs).imp a_m fun U Q q=>o_1 q
theorem i_6 {scope:Scope} {own capN:List Str} {caps:List Nat} {tg iter elt:Expr} {ifs:List Expr} {s:XM (List PyData)} {g:GM} {t:XM Bool} {m:XM PyData} {n i:Nat} {y:Str} {py spos:Pos} (hN:X.N.Nodup) (hi':X.N[i]? = some y) (hx:Loc X.env.scope y) (S:CompScope X scope own capN caps) (hc:X.calm=true) (hn:own.length=n) (hi:FI X F E tg iter s)
  (hin:∀ C fp s₂ H₂ pl F',FG (a_U X scope (own ++ capN) C fp s₂ H₂ pl) F' tg g/\FBs (a_U X scope (own ++ capN) C fp s₂ H₂ pl) F' E0' ifs t/\FE (a_U X scope (own ++ capN) C fp s₂ H₂ pl) F' E0' elt m)
  (hsw:swapsWith (.ListComp elt [⟨tg,iter,ifs,0⟩] scope pos) (some (.Name y py)) spos.line X.env=pure true:=by rfl)
  (hs:∀ x,foldedSetIterable iter X.env x=pure x:=by intro _; rfl) (hf:X.fn y=true\/X.env.scope.names.lookup y=some .local:=by first | exact .inl rfl | exact .inr rfl | assumption) :
  FS X F E (.Assign [.Name y py] (.ListComp elt [⟨tg,iter,ifs,0⟩] scope pos) spos) (c_L (j_b n caps s g t m) (gNm i)):=by
 subst hn
 exact (m_5 hN hi' hx S hc hi hin hsw hs hf).imp fun D U q=>by
  have q':=r_f q
  exact n_G (s:=wp E s) a_m U _ _ (fun d U' h=>h) (o_1 (Q:=fun d U'=>wpG (gNm i) d U' D.nx) q')
end
section
variable {K:PySem.W.Frag} {F:Fx} {H H':Hp} {Y:St} {U:a_r} {O O':List Addr}
theorem DSt.fresh (st:DSt K F H Y U O) {p:Addr} {o:HO} (hp:H p=none) (ho:Mv o):∃ O',DSt K (F.plus [p]) (upd H p o) Y U O'/\Stp O H O' (upd H p o):=by
 obtain ⟨O',h1,h2,_⟩:=DSt.swap (L:=[]) (L':=[p]) (H':=upd H p o) (F:=F) st (fun b u _ e=>a_n hp b u e) (by simp) (fun a h=>.inr (by obtain rfl:=List.mem_singleton.mp h; exact hp)) (fun a h=>by cases h) (fun a h=>by obtain rfl:=List.mem_singleton.mp h; exact ⟨o,a_A,ho⟩)
 exact ⟨O',h1,h2⟩
theorem DSt.new1 (st:DSt K F H Y U O) {p:Addr} (hp:H p=none):∀ a ∈ [p],a ∈ F.A₀\/F.H₀ a=none:=fun a h=>by
 obtain rfl:=List.mem_singleton.mp h
 by_cases hA:a ∈ F.A₀
 ·exact .inl hA
 ·refine .inr ?_
  cases e:F.H₀ a with
  | none=>rfl
  | some o=>obtain ⟨W,h,_⟩:=st; have:=h.kept a o hA e; rw [hp] at this; cases this
end
section
variable {X:Cx} {F:Fx} {E:Str->a_r->Prop} {e a b c:Expr} {es:List Expr} {st:Stmt} {rest:List Stmt} {pos:Pos} {x:Str}
def v_V (t:DTA):DTO:=fun U Q=>t U fun ds U'=>ds.length<=sizeLine/\Q (.own false (.l ds)) U'
theorem t_O {tA:DTA} (h:DA X F es tA):DO X F (.List es pos) (v_V tA):=
 ⟨fun _ _ _ k q=>h.mn _ _ _ (fun _ _ q1=>⟨q1.1,k _ _ q1.2⟩) q,(l_9 h.pa).imp fun Y H Q ⟨U,O,st,q⟩=>
  ⟨U,O,st,h.mn _ _ _ (fun ds U1 q1 vs H1 O1 st1 s1 d1=>⟨by rw [d1.length]; exact q1.1,fun p hp=>by
   obtain ⟨O2,st2,s2⟩:=st1.fresh (o:=.lst vs) hp trivial
   exact q1.2 _ _ O2 [p] ⟨st2,⟨p,rfl,rfl,vs,a_A,DVs.mono s2.hid d1⟩,st1.new1 hp⟩ (s1.trans s2)⟩) q⟩⟩
@[simp] def i_H (a:XM (List PyData)):XM Cell:=fun U=>(a U).bind fun ds=>lift (if ds.length<=sizeLine then some (.own false (.l ds)) else none)
theorem i_f {ma:XM (List PyData)} (h:FA X F E es ma):FO X F E (.List es pos) (i_H ma):=(t_O h).imp a_m fun U Q q=>a_m _ _ _ (fun ds U1 q1=>by
 obtain ⟨d,e1,q2⟩:=a_Y q1
 split at e1
 ·rename_i h; cases e1; exact ⟨h,q2⟩
 ·cases e1) (a_w q)
@[simp] def w_X (i:Nat) (d:PyData):SM:=fun U1=>match U1[i]? with
 | some (some (.own io (.l ds)))=>if ds.length < sizeLine then .nx (U1.set i (some (.own io (.l (ds ++ [d]))))) else .bad
 | _=>.bad
@[simp] def p_p (i:Nat) (m:XM PyData):SM:=fun U=>match U[i]? with
 | some (some (.own _ (.l _)))=>ofX (m U) (w_X i)
 | _=>.bad
theorem h_b {i:Nat} {m:XM PyData} {p1 apos cpos:Pos} (hv:PE X (.Name x p1) (e_A i)) (he:FE X F E e m) (hsw:swapsWith (.Call (.Attribute (.Name x p1) "append" apos) [e] [] cpos) none pos.line X.env=pure false:=by rfl)
  (hbase:attributeBase (.Name x p1) "append" X.env (eval (.Name x p1) X.env)=eval (.Name x p1) X.env:=by rfl)
  (hfew:((backTo cpos (starEach [e] X.env)).all (fun x=>!x.1) && (backToKw cpos (keywordEach [] X.env)).all (fun x=>x.1.isSome) && decide (([e]:List Expr).length + ([]:List Keyword).length + (if ([]:List Keyword).isEmpty then 0 else 1) < 30))=true:=by rfl)
  (hline:(apos.endLine == cpos.line)=true:=by rfl) (hs:starEach [e] X.env=(false,eval e X.env) :: starEach [] X.env:=by rfl) (hplain:(backTo cpos (starEach [] X.env)).any (·.1)=false:=by rfl) :
  FS X F E (.Expr (.Call (.Attribute (.Name x p1) "append" apos) [e] [] cpos) pos) (p_p i m):=
 (j_0 (q_b PySem.F.plainAttrs_list PySem.F.slot_list_append PySem.F.type_list_append k_r hv (b_e he.pe c_w hs) hbase hfew hline hs hplain) hsw).imp fun D Y H ⟨U,O,DD,st,q,f⟩=>by
  unfold wpS p_p at q
  cases h0:U[i]? with
  | none=>rw [h0] at q; exact q.elim
  | some o=>
   rw [h0] at q
   cases o with
   | none=>exact q.elim
   | some c0=>
    cases c0 with
    | dat d=>exact q.elim
    | scr d=>exact q.elim
    | exc d=>exact q.elim
    | vw d=>exact q.elim
    | own io0 b0=>
     cases b0 with
     | m _ _=>exact q.elim
     | o _ _=>exact q.elim
     | sd _=>exact q.elim
     | ll _=>exact q.elim
     | l ds0=>
      obtain ⟨a,fp,hv0,⟨_,xs,hH,_⟩,_,_⟩:=st.box h0
      refine ⟨_,hv0,.inl ⟨rfl,xs,.of hH⟩,U,O,st,a_m _ _ _ (fun d U1 q1 w H1 O1 st1 s1 d1=>?_) (c_p (m:=m) (k:=w_X i) q)⟩
      unfold wpS w_X at q1
      cases h1:U1[i]? with
      | none=>rw [h1] at q1; exact q1.elim
      | some o=>
       rw [h1] at q1
       cases o with
       | none=>exact q1.elim
       | some c1=>
        cases c1 with
        | dat d=>exact q1.elim
        | scr d=>exact q1.elim
        | exc d=>exact q1.elim
        | vw d=>exact q1.elim
        | own io1 b1=>
         cases b1 with
         | m _ _=>exact q1.elim
         | o _ _=>exact q1.elim
         | sd _=>exact q1.elim
         | ll _=>exact q1.elim
         | l ds=>
          simp only at q1
          obtain ⟨a1,fp1,hv1,⟨e1,ys,hH1,hd⟩,hO,up⟩:=st1.box h1
          rw [hv0] at hv1; cases hv1
          subst e1
          by_cases hz:ds.length < sizeLine
          ·rw [if_pos hz] at q1
           refine ⟨a,ys,w,rfl,rfl,hH1,by rw [hd.length]; exact hz,?_⟩
           obtain ⟨O2,st2,s2,_⟩:=up (upd H1 a (.lst (ys ++ [w]))) (.l (ds ++ [d])) [a] (fun c o hc e=>by rw [a_p (by simpa using hc)]; exact e) (by simp) (fun c hc=>.inl hc) (fun G O' s hG _=>by
            subst hG
            exact ⟨s.hid,rfl,ys ++ [w],a_A,(DVs.mono s.hid hd).append (.cons (DV.mono s.hid d1) .nil)⟩)
           exact f.nx _ _ _ _ st2 (s1.trans s2) q1
          ·rw [if_neg hz] at q1; exact q1.elim
@[simp] def y_M:Cell->Option PyData
 | .dat (.list ds)=>some (.int ds.length)
 | .dat (.tuple ds)=>some (.int ds.length)
 | .own _ (.l ds)=>some (.int ds.length)
 | _=>none
@[simp] def s_P (i:Nat):XM PyData:=fun U=>match U[i]? with
 | some (some c)=>lift (y_M c) U
 | _=>.bad
theorem s_q {i:Nat} {p p1:Pos} (hg:Gl X "len") (hm:X.mg "len" = none) (h:PE X (.Name x p1) (e_A i)) (he:starEach [.Name x p1] X.env=(false,eval (.Name x p1) X.env) :: starEach [] X.env:=by rfl) (hpl:(backTo pos (starEach [] X.env)).any (·.1)=false:=by rfl) :
  FE X F E (.Call (.Name "len" p) [.Name x p1] [] pos) (s_P i):=
 ⟨a_m,(f_v a_9 hg hm PySem.boot_len (b_e h c_w he) (by decide) (by decide) he hpl).imp fun Y H Q ⟨U,O,st,q⟩=>by
  unfold wp s_P at q
  cases h0:U[i]? with
  | none=>rw [h0] at q; exact q.elim
  | some o=>
   rw [h0] at q
   cases o with
   | none=>exact q.elim
   | some c0=>
    unfold lift at q
    cases c0 with
    | scr d=>exact q.elim
    | exc d=>exact q.elim
    | vw d=>exact q.elim
    | dat d=>
     obtain ⟨v,hv,hd⟩:=st.dat h0
     cases d with
     | list ds=>
      obtain ⟨a,xs,rfl,ha,hx⟩:=hd.lst_inv
      exact ⟨_,hv,a,xs,rfl,.inl (.of (a_F ha).1),by rw [hx.length]; exact q _ H O st .refl (.int _)⟩
     | tuple ds=>
      obtain ⟨a,xs,rfl,ha,hx⟩:=hd.tup_inv
      exact ⟨_,hv,a,xs,rfl,.inr (.of (a_F ha).1),by rw [hx.length]; exact q _ H O st .refl (.int _)⟩
     | _=>exact q.elim
    | own io b=>
     cases b with
     | l ds=>
      obtain ⟨a,fp,hv,⟨_,xs,hH,hx⟩,_,_⟩:=st.box h0
      exact ⟨_,hv,a,xs,rfl,.inl (.of hH),by rw [hx.length]; exact q _ H O st .refl (.int _)⟩
     | _=>exact q.elim⟩
end
def k_Z:PyData->Option Key
 | .int i=>some (.inl i)
 | .str x=>some (.inr x)
 | _=>none
def i_i:List PyData->Option (List Key)
 | []=>some []
 | d :: r=>(match k_Z d,i_i r with | some k,some l=>some (k :: l) | _,_=>none)
def n_u:Bool->PyData->Option (List Key)
 | false,d=>(k_Z d).map fun k=>[k]
 | true,.tuple ds=>i_i ds
 | true,_=>none
abbrev KVs:=List (PyData × PyData)
def k_f (tk:Bool):KVs->List Key->Option PyData
 | [],_=>none
 | p :: r,k=>if n_u tk p.1=some k then some p.2 else k_f tk r k
def l_j (tk:Bool) (k:List Key) (v:PyData):KVs->KVs
 | []=>[]
 | p :: r=>(if n_u tk p.1=some k then (p.1,v) else p) :: l_j tk k v r
def h_g (tk:Bool) (kvs:KVs) (d:PyData) (k:List Key) (v:PyData):KVs:=if (k_f tk kvs k).isSome=true then l_j tk k v kvs else kvs ++ [(d,v)]
theorem t_y {G:Hp} {v:V} {d:PyData} {k:Key} (h:DV G v d) (e:k_Z d=some k):v=kV k:=by
 cases d with
 | int i=>cases e; exact h.int_inv
 | str x=>cases e; exact h.str_inv
 | _=>cases e
theorem s_C {k:Key}:k_Z (n_L k)=some k:=by cases k <;> rfl
theorem u_D {d:PyData} {k:Key} (e:k_Z d=some k):d=n_L k:=by
 cases d with
 | int i=>cases e; rfl
 | str x=>cases e; rfl
 | _=>cases e
theorem r_l:∀ {ks:List Key},i_i (ks.map n_L)=some ks
 | []=>rfl
 | k :: r=>by show (match k_Z (n_L k),i_i (r.map n_L) with | some k,some l=>some (k :: l) | _,_=>none)=_; rw [s_C,r_l]
theorem o_2:∀ {ds:List PyData} {ks:List Key},i_i ds=some ks->ds=ks.map n_L
 | [],ks,e=>by cases e; rfl
 | d :: r,ks,e=>by
  unfold i_i at e
  cases h1:k_Z d with
  | none=>rw [h1] at e; cases e
  | some k=>
   cases h2:i_i r with
   | none=>rw [h1,h2] at e; cases e
   | some l=>rw [h1,h2] at e; cases e; rw [u_D h1,o_2 h2]; rfl
theorem q_O {G:Hp}:∀ {vs:List V} {ks:List Key},DVs G vs (ks.map n_L)->vs=ks.map kV
 | [],[],_=>rfl
 | _ :: _,k :: r,.cons h1 h2=>by rw [t_y h1 s_C,q_O h2]; rfl
theorem m_d {κ:Type} [DecidableEq κ] {R:κ->PyData->Prop} {G:Hp} {tk:Bool} {inj:κ->List Key} (hk:∀ k d,R k d->n_u tk d=some (inj k)) (hi:∀ a b,inj a=inj b->a=b) :
  ∀ {ks:List (κ × V)} {kvs:KVs} (k:κ),Paired (fun (p:κ × V) (q:PyData × PyData)=>R p.1 q.1/\DV G p.2 q.2) ks kvs->(p_r ks k=none/\k_f tk kvs (inj k)=none)\/∃ v d,p_r ks k=some v/\k_f tk kvs (inj k)=some d/\DV G v d
 | [],[],k,_=>.inl ⟨rfl,rfl⟩
 | p :: r,q :: s,k,.cons h t=>by
  by_cases e:p.1=k
  ·refine .inr ⟨p.2,q.2,j_p e,?_,h.2⟩
   unfold k_f
   rw [if_pos (by rw [hk _ _ h.1,e])]
  ·rw [j_K e]
   unfold k_f
   rw [if_neg (by rw [hk _ _ h.1]; exact fun z=>e (hi _ _ (Option.some.inj z)))]
   exact m_d hk hi k t
theorem m_a {κ:Type} [DecidableEq κ] {R:κ->PyData->Prop} {G:Hp} {tk:Bool} {inj:κ->List Key} (hk:∀ k d,R k d->n_u tk d=some (inj k)) (hi:∀ a b,inj a=inj b->a=b) {v:V} {x:PyData} (hv:DV G v x) :
  ∀ {ks:List (κ × V)} {kvs:KVs} (k:κ),Paired (fun (p:κ × V) (q:PyData × PyData)=>R p.1 q.1/\DV G p.2 q.2) ks kvs->Paired (fun (p:κ × V) (q:PyData × PyData)=>R p.1 q.1/\DV G p.2 q.2) (ks.map fun kv=>if kv.1=k then (kv.1,v) else kv) (l_j tk (inj k) x kvs)
 | [],[],k,_=>.nil
 | p :: r,q :: s,k,.cons h t=>by
  refine .cons ?_ (m_a hk hi hv k t)
  dsimp only
  by_cases e:p.1=k
  ·rw [if_pos e,if_pos (by rw [hk _ _ h.1,e])]; exact ⟨h.1,hv⟩
  ·rw [if_neg e,if_neg (by rw [hk _ _ h.1]; exact fun z=>e (hi _ _ (Option.some.inj z)))]; exact h
theorem r_n {α β:Type} {R:α->β->Prop}:∀ {xs:List α} {ys:List β} {us:List α} {vs:List β},Paired R xs ys->Paired R us vs->Paired R (xs ++ us) (ys ++ vs)
 | _,_,_,_,.nil,h=>h
 | _,_,_,_,.cons h t,r=>.cons h (r_n t r)
theorem o_n {κ:Type} [DecidableEq κ] {R:κ->PyData->Prop} {G:Hp} {tk:Bool} {inj:κ->List Key} (hk:∀ k d,R k d->n_u tk d=some (inj k)) (hi:∀ a b,inj a=inj b->a=b) {v:V} {x d:PyData} (hv:DV G v x)
  {ks:List (κ × V)} {kvs:KVs} {k:κ} (hd:R k d) (h:Paired (fun (p:κ × V) (q:PyData × PyData)=>R p.1 q.1/\DV G p.2 q.2) ks kvs):Paired (fun (p:κ × V) (q:PyData × PyData)=>R p.1 q.1/\DV G p.2 q.2) (l_f ks k v) (h_g tk kvs d (inj k) x):=by
 rcases m_d hk hi k h with ⟨e1,e2⟩ | ⟨v',d',e1,e2,_⟩
 ·rw [p_U v e1]
  unfold h_g
  rw [e2,if_neg (by simp)]
  exact r_n h (.cons ⟨hd,hv⟩ .nil)
 ·unfold h_g
  rw [e2,if_pos (by rfl)]
  unfold l_f
  rw [if_pos (by rw [h_H,e1]; rfl)]
  exact m_a hk hi hv k h
theorem hk1:∀ (k:Key) (d:PyData),n_L k=d->n_u false d=some [k]:=fun k d e=>by subst e; show (k_Z (n_L k)).map _=_; rw [s_C]; rfl
theorem hi1:∀ (a b:Key),[a]=[b]->a=b:=fun a b e=>by cases e; rfl
theorem hk2:∀ (k:List Key) (d:PyData),v_B k=d->n_u true d=some k:=fun k d e=>by subst e; exact r_l
section
variable {G H:Hp} {a:Addr} {tk:Bool} {kvs:KVs}
theorem s_2 (h:j_L G H a tk kvs) (hG:e_W G H) {y v:V} {d x:PyData} {k:List Key} (hy:DV G y d) (hv:DV G v x) (e:n_u tk d=some k) (hl:kvs.length < sizeLine) :
  ∃ o,s_o H a y v (upd H a o)/\Mv o/\∀ G',e_W G G'->j_L G' (upd H a o) a tk (h_g tk kvs d k x):=by
 cases tk with
 | false=>
  obtain ⟨ks,hH,pr⟩:=h
  obtain ⟨k',e1,e2⟩:=Option.map_eq_some_iff.mp e
  subst e2
  obtain rfl:=t_y hy e1
  refine ⟨_,.k hH (by rw [Paired.length pr]; exact hl),trivial,fun G' s=>⟨_,a_A,o_n hk1 hi1 (DV.mono s hv) (u_D e1).symm (Paired.mapP pr fun _ _ z=>⟨z.1,DV.mono s z.2⟩)⟩⟩
 | true=>
  obtain ⟨ks,hH,pr⟩:=h
  cases d with
  | tuple ds=>
   obtain ⟨b,xs,rfl,hb,hx⟩:=hy.tup_inv
   rw [o_2 e] at hx
   rw [q_O hx] at hb
   exact ⟨_,.t hH (hG _ _ hb) (by rw [Paired.length pr]; exact hl),trivial,fun G' s=>⟨_,a_A,o_n (inj:=id) hk2 (fun _ _ z=>z) (DV.mono s hv) (show v_B k=_ by unfold v_B; rw [<-o_2 e]) (Paired.mapP pr fun _ _ z=>⟨z.1,DV.mono s z.2⟩)⟩⟩
  | _=>cases e
end
section
variable {X:Cx} {F:Fx} {E:Str->a_r->Prop} {e a b c:Expr} {es:List Expr} {st:Stmt} {rest:List Stmt} {pos:Pos} {x:Str}
@[simp] def nLZ:List PyData->Option PyData:=fun xs=>match xs with
 | [.list as,.list bs,.list cs]=>if bs.length=as.length/\cs.length=as.length/\0 < as.length then some (.list (p_g as bs cs)) else none
 | _=>none
theorem v_2 {ma:XM (List PyData)} (h:DE X F e (dLZ (wp E ma))):FE X F E e (xCB nLZ ma):=h.imp a_m fun U Q q=>a_m _ _ _ (fun ds U1 q1=>by
 obtain ⟨d,e1,q2⟩:=a_Y q1
 unfold nLZ at e1
 split at e1
 ·split at e1
  ·rename_i h; cases e1; exact ⟨_,_,_,rfl,h.1,h.2.1,h.2.2,q2⟩
  ·cases e1
 ·cases e1) (a_w q)
@[simp] def u_U (k:Nat):PyData->Option PyData:=fun d=>match d with | .list ds=>some (.list (ds.drop k)) | _=>none
@[simp] def xU (g:PyData->Option PyData) (a:XM PyData):XM PyData:=fun U=>(a U).bind fun d=>lift (g d)
theorem r_O {k:Nat} {ma:XM PyData} (h:DE X F e (t_I (wp E ma) k)):FE X F E e (xU (u_U k) ma):=h.imp a_m fun U Q q=>a_m _ _ _ (fun d U1 q1=>by
 obtain ⟨y,e1,q2⟩:=a_Y q1
 cases d with
 | list ds=>cases e1; exact ⟨_,rfl,q2⟩
 | _=>cases e1) (a_w q)
end
abbrev bmV:List Value:=[.type "ValueError",.type "Exception",.type "BaseException",.type "object"]
def r_1 (h:Heap) (C:Addr):Prop:=∃ tl N nm q bs hdct sn sub ab col dd k0 k1 k2 k3 k5 mN,h.get? C=some (excClassObj nm q C N bs tl hdct sn sub ab col dd k0 k1 k2 k3 k5 "ValueError.__new__")/\h.Ns N mN/\mN "__init__" = none/\OwnTail h bmV tl
theorem j_j {K:PySem.W.Frag} {h:Heap} {C:Addr} (X:K.In h) (e:excIn K C bmV "ValueError.__new__" = true):r_1 h C:=by
 unfold excIn at e
 split at e
 ·rename_i o1 o2 o3 o4
  split at e
  ·rename_i a1 a2 a3 a4 a5 a6 a7 a8 a9 a10
   have e':=e
   simp only [Bool.and_eq_true,beq_iff_eq] at e'
   obtain ⟨⟨⟨⟨⟨r1,r2⟩,r3⟩,r4⟩,r5⟩,r6⟩:=e'
   obtain ⟨n1,n2,n3,n4,n5,n6,n7,n8,n9,n10,n11⟩:=o2
   obtain ⟨l⟩:=o3
   simp at r3 a9 a10 r5 r6
   subst r1 r2 r3 a9 a10
   exact ⟨a2,n4,n1,n5,n2,n6,n7,n8,n9,n10,o1,a3,a4,a5,a6,a8,_,X _ _ o4,.of_isNs (PySem.W.isNs_of_in X r5),PySem.W.nsMap_none_of_in X r5 r6,PySem.W.tail_of_in X r4⟩
  ·cases e
 ·cases e
structure EC (K:PySem.W.Frag) (mg:Str->Option Value) (c:Str) (C:Addr):Prop where
 mg:mg c=some (.ref C)
 ns:nsIn K mainGlobals c=some (some (.ref C))
 ex:excIn K C bmV "ValueError.__new__" = true
@[simp] def d_6 (c:Str):SM:=fun U=>.ex c U
section
variable {X:Cx} {F:Fx} {E:Str->a_r->Prop}
theorem _root_.L2.Inv.madeX {pins:List (Addr × Obj)} {Y:St} {H:Hp} {s:Shared} {h':Heap} {e:Addr} {C:Value} {us:List Value} (I:Inv X pins Y H s) (m:Heap.MadeExcOf s.heap h' e C us):Inv X pins Y H { s with heap:=h' }/\Cov X pins s.heap/\ExS s.heap H h' e C none:=by
 have hb:∀ b,s.heap.get? b=none->H b=none:=fun b z=>HOk.some_of I.hok z
 obtain ⟨t,h1,h2,h3⟩:=m.there
 refine ⟨I.ch I.cov ⟨fun b o q _ _=>m.keeps b o q,fun b o _ q=>⟨o.slots,m.keeps b o q⟩,fun b o q=>⟨o,m.keeps b o q⟩⟩,I.cov,⟨fun b o q=>⟨o,m.keeps b o q⟩,m.new,hb e m.new,_,_,_,h1,rfl,rfl,rfl,.inl ⟨rfl,rfl⟩⟩⟩
theorem d_h {c tx:Str} {C:Addr} {j:Nat} {np cpos pos kp:Pos} (hx:XOk X F E) (hh:X.A.handled=none) (hg:Gl X c) (ec:EC X.K X.mg c C) (hdb:(c == ("__debug__":Str))=false:=by decide)
  (he:starEach [.Constant (.str tx) j kp] X.env=(false,eval (.Constant (.str tx) j kp) X.env) :: starEach [] X.env:=by rfl) :
  FS X F E (.Raise (some (.Call (.Name c np) [.Constant (.str tx) j kp] [] cpos)) none pos) (d_6 c):=fun pins s Y H D I ⟨U,O,DD,st,q,f⟩=>by
 obtain ⟨tl,N,nm,qn,bs,hdct,sn,sub,ab,col,dd,k0,k1,k2,k3,k5,mN,hC,hN,hni,T⟩:=j_j I.ok.mod.kin ec.ex
 refine wpAny_Raise_call_subU (C:=C) (nm:=nm) (q:=qn) (N:=N) (bs:=bs) (bm:=tl) (hdct:=hdct) (sn:=sn) (sub:=sub) (ab:=ab) (col:=col) (dd:=dd) (k0:=k0) (k1:=k1) (k2:=k2) (k3:=k3) (k5:=k5) (mN:=mN)
  PySem.F.excBase_ValueError (by decide) PySem.F.excBase_ValueError (T.hasType (by decide)) hh (by rw [he]; rfl) hni (g_V I hg ec.mg ⟨rfl,?_⟩ hdb)
 have pa:PA X [.Constant (.str tx) j kp] _:=b_e (r_g (X:=X)) c_w he
 have w:=pa cpos pins s Y H (fun vs H1=>vs.length=1/\H1=H) I (by exact ⟨rfl,rfl⟩)
 rw [he] at w ⊢
 refine Calls.evalArgs_plain (thn w fun us s2 ⟨vs,H1,I1,r,h1,h2⟩=>?_)
 subst h2
 refine ⟨rfl,by show us.length<=_; rw [<-r.length,h1]; decide,I1.bk _ _ hC,hN.keeps I1.bk,T.keeps I1.bk,fun h' e m=>?_⟩
 obtain ⟨I2,cv,ex⟩:=I1.madeX m
 exact hx pins Y _ _ _ c U O ⟨I2,e,.ref C,s2.heap,none,rfl,cv,ex,ec.mg⟩ st q
end
def j_i (K:PySem.W.Frag) (C D:Addr):Bool:=match K.lookup C with
 | some ⟨_,_,.cls cd,_⟩=>cd.mro.contains (.ref D)
 | _=>false
def k_L (K:PySem.W.Frag) (C:Addr):Bool:=findIn K (.ref C) "__getattribute__" == some (some (.builtin "BaseException.__getattribute__")) && findIn K (.ref C) "__class__" == some (some (.builtin "object.__class__")) && findIn K (.ref C) "__getattr__" == some none &&
 mroIn K C (.type "BaseException") == some true && mroIn K C (.type "object") == some true
def q_S (K:PySem.W.Frag) (D:Addr) (l:List Str):Bool:=l.all fun c=>match nsIn K mainGlobals c with
 | some (some (.ref C))=>excIn K C bmV "ValueError.__new__" && j_i K C D && k_L K C && (kitOne K (.ref C) (.type "ValueError") == some true) && l.all fun d=>match nsIn K mainGlobals d with
  | some (some (.ref D'))=>kitOne K (.ref C) (.ref D') == some (c == d)
  | _=>false
 | _=>false
structure XT (K:PySem.W.Frag) (mg:Str->Option Value) (l:List Str) (D:Addr):Prop where
 top:EC K mg "DueError" D
 tab:q_S K D l=true
 mgs:∀ c C,nsIn K mainGlobals c=some (some (.ref C))->mg c=some (.ref C)
theorem XT.at_ {K:PySem.W.Frag} {mg:Str->Option Value} {l:List Str} {D:Addr} (x:XT K mg l D) {c:Str} (h:c ∈ l):∃ C,EC K mg c C/\j_i K C D=true/\k_L K C=true/\kitOne K (.ref C) (.type "ValueError")=some true/\
  ∀ d ∈ l,∃ D',mg d=some (.ref D')/\nsIn K mainGlobals d=some (some (.ref D'))/\kitOne K (.ref C) (.ref D')=some (c == d):=by
 have t:=List.all_eq_true.mp x.tab c h
 split at t
 ·rename_i C e
  simp only [Bool.and_eq_true] at t
  obtain ⟨⟨⟨⟨t1,t2⟩,t0⟩,t3⟩,t4⟩:=t
  refine ⟨C,⟨x.mgs c C e,e,t1⟩,t2,t0,by simpa using t3,fun d hd=>?_⟩
  have u:=List.all_eq_true.mp t4 d hd
  split at u
  ·rename_i D' e'
   exact ⟨D',x.mgs d D' e',e',by simpa using u⟩
  ·cases u
 ·cases t
theorem p_F {K:PySem.W.Frag} {h:Heap} {C D N:Addr} {nm q:Str} {bs tl:List Value} {hdct:Bool} {sn:List Str} {sub:List Value} {ab:Bool} {col:Option Bool} {dd:Option Addr} {k0 k1 k2 k3 k5:Option Value} {newId:String}
  (X:K.In h) (e:j_i K C D=true) (hC:h.get? C=some (excClassObj nm q C N bs tl hdct sn sub ab col dd k0 k1 k2 k3 k5 newId)):(Value.ref C :: tl).contains (.ref D)=true:=by
 unfold j_i at e
 split at e
 ·rename_i o
  have:=X _ _ o
  rw [hC] at this
  cases this
  exact e
 ·cases e
theorem l_x {M:Model} {A:Around} {E:Value->Shared->Prop} {h:Heap} {g:Array GenState} {d:Drawn} {t:Nat} {os:OsState} {e C D:Addr} {oe:Obj} {Q:Bool->Shared->Prop}
  (xc:r_1 h C) (xd:r_1 h D) (hu:∀ {nm q N bs tl hdct sn sub ab col dd k0 k1 k2 k3 k5 newId},h.get? C=some (excClassObj nm q C N bs tl hdct sn sub ab col dd k0 k1 k2 k3 k5 newId)->(Value.ref C :: tl).contains (.ref D)=true)
  (he:h.get? e=some oe) (hcls:oe.cls=.ref C) (hq:Q true ⟨h,g,d,t,os⟩):wpAny M A (excMatches (.ref e) (.ref D)) Q E ⟨h,g,d,t,os⟩:=by
 obtain ⟨tl,N,nm,q,bs,hdct,sn,sub,ab,col,dd,k0,k1,k2,k3,k5,mN,hC,_,_,_⟩:=xc
 obtain ⟨tl',N',nm',q',bs',hdct',sn',sub',ab',col',dd',k0',k1',k2',k3',k5',mN',hD,_,_,T'⟩:=xd
 have cB:(Value.ref D :: tl').contains (.type "BaseException")=true:=by rw [List.contains_cons,T'.hasType (X:="BaseException") (b:=true) (by decide),Bool.or_true]
 have cC:=hu hC
 have f:=tc_notTuple
 unfold excMatches
 repeat (first | (with_reducible refine wpAny_loadPart_at he ?_; rw [hcls]) | with_reducible refine wpAny_loadPart_at hD ?_ | (with_reducible refine wpAny_isSubtype_exc hD ?_; rw [cB]) | (with_reducible refine wpAny_isSubtype_exc hC ?_; rw [cC]) | wp_step)
 exact hq
abbrev reX (X:Cx) (A:Around) (b:Bool) (pn:List (Addr × Obj)) (xe:Value->Shared->Prop):Cx:={ X with A:=A,calm:=b,pn:=pn,xe:=xe }
section
variable {X:Cx} {F:Fx} {E:Str->a_r->Prop} {pins pins':List (Addr × Obj)} {Y:St} {H:Hp} {s:Shared} {A:Around} {b:Bool} {xe:Value->Shared->Prop}
theorem _root_.L2.Inv.re (I:Inv X pins Y H s) (A:Around) (b:Bool) (xe:Value->Shared->Prop) (hA:A.frames=X.A.frames) (hb:b=true->A.handled=none):Inv (reX X A b (X.pn ++ pins) xe) [] Y H s:=
 ⟨⟨I.ok.mod,I.ok.kind,I.ok.glob,I.ok.blt,I.ok.above,I.ok.inj,I.ok.has,I.ok.cab,hb,hA.trans I.ok.frames,I.ok.stk,I.ok.exf,I.ok.bs,I.ok.bsz,I.ok.noex,I.ok.exfs,I.ok.funs,I.ok.frf⟩,I.os,I.bare,I.base,I.loc,I.cell,I.free,I.freeC,fun p hp=>I.pin p (by simpa using hp),I.hok,I.len⟩
theorem _root_.L2.Inv.unre (ok:X.Ok) (I:Inv (reX X A b (X.pn ++ pins) xe) pins' Y H s):Inv X pins Y H s:=
 ⟨ok,I.os,I.bare,I.base,I.loc,I.cell,I.free,I.freeC,fun p hp=>I.pin p (List.mem_append_left _ hp),I.hok,I.len⟩
theorem l_8 (ok:X.Ok) {D:Ends} {f:Flow} {s':Shared} (h:SP (reX X A b (X.pn ++ pins) xe) pins' D f s'):SP X pins D f s':=by
 cases f with
 | next=>obtain ⟨Y',H',I,q⟩:=h; exact ⟨Y',H',I.unre ok,q⟩
 | brk=>obtain ⟨Y',H',I,q⟩:=h; exact ⟨Y',H',I.unre ok,q⟩
 | cont=>obtain ⟨Y',H',I,q⟩:=h; exact ⟨Y',H',I.unre ok,q⟩
 | ret u=>obtain ⟨v,Y',H',I,r,q⟩:=h; exact ⟨v,Y',H',I.unre ok,r,q⟩
theorem _root_.L2.Inv.caught {g:Heap} {a:Addr} {C:Value} {fl:Option Value} (I:Inv X pins Y H s) (cv:Cov X pins g) (ex:ExS g H s.heap a C fl):Inv X pins Y (upd H a (.ext fun h=>∃ o,h.get? a=some o/\o.cls=C)) s:=by
 have ng:∀ b o,g.get? b=some o->b ≠ a:=fun b o e z=>by subst z; rw [ex.lo] at e; cases e
 obtain ⟨oe,vs,a0,he,hc,_⟩:=ex.ob
 have sm:e_W H (upd H a (.ext fun h=>∃ o,h.get? a=some o/\o.cls=C)):=a_n ex.un
 refine ⟨I.ok,I.os,I.bare,⟨I.base.keep,I.base.slot,fun b o e n hx=>?_,I.base.there,fun b xs e=>sm _ _ (I.base.tups b xs e),fun b o u e=>sm _ _ (I.base.frzs b o u e),fun b ps e=>let ⟨m,q⟩:=I.base.tbls b ps e; ⟨m,sm _ _ q⟩⟩,I.loc,I.cell,?_,fun x c e=>?_,fun p hp=>?_,fun b u e=>?_,I.len⟩
 ·obtain ⟨o',e'⟩:=cv.s0 b o e hx
  rw [a_p (ng _ _ e')]; exact I.base.free b o e n hx
 ·obtain ⟨o',e'⟩:=cv.loc
  rw [a_p (ng _ _ e')]; exact I.free
 ·obtain ⟨o',e'⟩:=cv.cell x c e
  rw [a_p (ng _ _ e')]; exact I.freeC x c e
 ·obtain ⟨o',e'⟩:=cv.pin p hp
  obtain ⟨h1,h2,h3⟩:=I.pin p hp
  exact ⟨h1,by rw [a_p (ng _ _ e')]; exact h2,h3⟩
 ·by_cases z:b=a
  ·subst z
   rw [a_A] at e
   cases e
   refine ⟨⟨oe,he,hc⟩,⟨oe,he⟩,fun h1 h2 ⟨o,q1,q2⟩ k=>⟨o,k o q1,q2⟩⟩
  ·rw [a_p z] at e
   exact (I.hok b u e).stay (fun d v hd q=>q) (fun d q=>sm _ _ q) fun d xs q=>sm _ _ q
theorem s_3 {M:Model} {A:Around} {E:Value->Shared->Prop} {i:Nat} {x:Str} {pos:Pos} {Q:Unit->Shared->Prop} (I:Inv X pins Y H s) (hN:X.N.Nodup) (hi:X.N[i]? = some x) (hx:X.env.scope.names.lookup x=some .local)
  (h:∀ s',Inv X pins (Y.set i none) H s'->Q () s'):wpAny M A (do bindName X.env x .none; unbindBehindTheSuite X.env x pos) Q E s:=by
 obtain ⟨m,hn,hl⟩:=id I.loc
 have hcls:(X.env.scope.kind == .class || (X.env.scope.kind == .module && X.env.locals != X.env.globals))=false:=by rw [I.ok.kind]; rfl
 have cne:=I.cne
 obtain ⟨oL,_,_,hoL,_⟩:=id hn
 refine wpAny_nameGoes_keeps hx hn hcls fun h' v hn' hs=>h _ ⟨I.ok,I.os,I.bare,⟨fun b o e n hb hx=>?_,fun b o e n hb hx=>?_,I.base.free,fun b o e hx=>?_,I.base.tups,I.base.frzs,I.base.tbls⟩,⟨_,hn',fun j y v' e1 e2 e3=>?_⟩,fun y c e=>?_,I.free,I.freeC,fun p hp=>?_,fun b ob e=>?_,?_⟩
 ·exact (hs.2 b (Nat.ne_of_lt (Nat.lt_of_lt_of_le (Heap.lt_size e) I.ok.above))).trans (I.base.keep b o e n hb hx)
 ·obtain ⟨sl,e1⟩:=I.base.slot b o e n hb hx
  exact ⟨sl,(hs.2 b (Nat.ne_of_lt (Nat.lt_of_lt_of_le (Heap.lt_size e) I.ok.above))).trans e1⟩
 ·obtain ⟨o',e1⟩:=I.base.there b o e hx
  exact ⟨o',(hs.2 b (Nat.ne_of_lt (Nat.lt_of_lt_of_le (Heap.lt_size e) I.ok.above))).trans e1⟩
 ·rcases d_d e2 with ⟨_,z,_⟩ | ⟨hj,e2'⟩
  ·cases z
  ·obtain ⟨u',r',q⟩:=hl j y v' e1 e2' e3
   refine ⟨u',r',?_⟩
   rcases q with ⟨k,e⟩ | ⟨k,c,e,z⟩
   ·refine .inl ⟨k,?_⟩
    have:y ≠ x:=fun e=>hj (j_Q hN e1 (e ▸ hi))
    simp [this,e]
   ·exact .inr ⟨k,c,e,z.sameBut hs (cne y c e)⟩
 ·obtain ⟨w',z⟩:=I.cell y c e
  exact ⟨w',z.sameBut hs (cne y c e)⟩
 ·obtain ⟨e,n,ne,nf,d⟩:=I.pin p hp
  exact ⟨(hs.2 p.1 ne).trans e,n,ne,nf,d⟩
 ·refine (I.hok b ob e).stay (fun c w' hc q=>(hs.2 c ?_).trans q) (fun _ q=>q) fun _ _ q=>q
  rintro rfl
  rcases hc with rfl | hc
  ·rw [I.free] at e; cases e
  ·rw [I.free] at hc; cases hc
 ·rw [List.length_set]; exact I.len
end
section
variable {K:PySem.W.Frag} {F:Fx} {H H':Hp} {Y Y':St} {U U':a_r} {O O':List Addr} {W:List (List Addr)}
def Fx.here (F:Fx) (H:Hp) (L:List Addr):Fx:=⟨H,L,F.O₀,F.I₀⟩
theorem DStW.here (st:DStW K F H Y U W):DStW K (F.here H W.flatten) H Y U W:=⟨st.at_,st.nd,fun _ _ _ e=>e,fun _ h=>.inl h,st.live,st.len,st.lw,st.io⟩
theorem j_k (st:DStW K F H Y U W) {a:Addr} (h:a ∈ W.flatten\/H a=none):a ∈ F.A₀\/F.H₀ a=none:=by
 rcases h with h | h
 ·exact st.new a h
 ·by_cases hA:a ∈ F.A₀
  ·exact .inl hA
  ·refine .inr ?_
   cases e:F.H₀ a with
   | none=>rfl
   | some o=>have:=st.kept a o hA e; rw [h] at this; cases this
theorem unhere {fp:List Addr} (st:DStW K F H Y U W) (st':DSt K ((F.here H W.flatten).plus fp) H' Y' U' O'):DSt K (F.plus fp) H' Y' U' O':=by
 obtain ⟨W',h,e⟩:=st'
 refine ⟨W',⟨h.at_,h.nd,fun b o hA e=>h.kept b o (fun z=>?_) (st.kept b o hA e),fun a ha=>j_k st (h.new a ha),h.live,h.len,h.lw,h.io⟩,e⟩
 rcases st.new b z with q | q
 ·exact hA q
 ·rw [show F.H₀ b=some o from e] at q; cases q
theorem p_v (st':DSt K (F.here H W.flatten) H' Y' U' O'):Stp (W.flatten ++ F.O₀) H O' H':=by
 obtain ⟨W',h,rfl⟩:=st'
 refine ⟨fun b o hb e=>h.kept b o (fun z=>hb (List.mem_append_left _ z)) e,fun a ha=>?_⟩
 rcases List.mem_append.mp ha with z | z
 ·exact (h.new a z).imp (List.mem_append_left _) id
 ·exact .inl (List.mem_append_right _ z)
theorem Fits.here {D:Ends} {DD:DEnds} (st:DStW K F H Y U W) (f:Fits K F O H D DD):Fits K (F.here H W.flatten) O H D DD:=
 ⟨fun Y' H' U' O' s1 s2 q=>f.nx Y' H' U' O' (unhere (fp:=[]) st s1) s2 q,fun v Y' H' c U' O' fp r s2 q=>f.rt v Y' H' c U' O' fp ⟨unhere st r.st,r.at_,fun a h=>j_k st (r.new a h)⟩ s2 q,
  fun Y' H' U' O' s1 s2 q=>f.bk Y' H' U' O' (unhere (fp:=[]) st s1) s2 q,fun Y' H' U' O' s1 s2 q=>f.ct Y' H' U' O' (unhere (fp:=[]) st s1) s2 q⟩
theorem DSt.clear (st:DSt K F H Y U O) (i:Nat):∃ O',DSt K F H Y (U.set i none) O'/\Stp O H O' H:=by
 obtain ⟨W,h,rfl⟩:=st
 have sub:∀ a ∈ (W.set i []).flatten,a ∈ W.flatten:=fun a ha=>by
  rcases a_E ha with z | ⟨j,l,_,e,hl⟩
  ·cases z
  ·exact a_g e hl
 have stp:Stp (W.flatten ++ F.O₀) H ((W.set i []).flatten ++ F.O₀) H:=b_E fun a ha=>by
  rcases List.mem_append.mp ha with z | z
  ·exact List.mem_append_left _ (sub a z)
  ·exact List.mem_append_right _ z
 refine ⟨_,⟨W.set i [],⟨fun j c e=>?_,e_7 h.nd List.nodup_nil (fun a ha=>by cases ha),h.kept,fun a ha=>h.new a (sub a ha),fun a ha=>h.live a ?_,by rw [List.length_set]; exact h.len,by rw [List.length_set,List.length_set]; exact h.lw,fun j b e=>?_⟩,rfl⟩,stp⟩
 ·rcases d_d e with ⟨_,z,_⟩ | ⟨hj,e1⟩
  ·cases z
  ·obtain ⟨v,fp,h1,h2,h3⟩:=h.at_ j c e1
   exact ⟨v,fp,h1,by rw [List.getElem?_set_ne (Ne.symm hj)]; exact h2,h3.keep stp (fun _ _=>rfl) fun _ _ _ e=>e⟩
 ·rcases List.mem_append.mp ha with z | z
  ·exact List.mem_append_left _ (sub a z)
  ·exact List.mem_append_right _ z
 ·rcases d_d e with ⟨_,z,_⟩ | ⟨hj,e1⟩
  ·cases z
  ·exact h.io j b e1
end
def i_P (l:List Str) (i:Nat) (mb mh:SM):SM:=fun U=>match mb U with
 | .ex c U'=>if c ∈ l then (match mh (U'.set i (some (.exc c))) with | .rt d U''=>.rt d (U''.set i none) | _=>.bad) else .bad
 | o=>o
section
variable {X:Cx} {F:Fx} {E:Str->a_r->Prop}
theorem p_D {l:List Str} {D a:Addr} {c:Str} {C:Value} {g:Heap} {fl:Option Value} {np hpos:Pos} {nm:Option Str} {b₀:Stmt} {suite:List Stmt} {pins:List (Addr × Obj)} {Y:St} {H:Hp} {s:Shared} {Q:Flow->Shared->Prop} {E':Value->Shared->Prop}
  (xt:XT X.K X.mg l D) (hg:Gl X "DueError") (hst:X.stack=X.env :: X.outer) (hfr:X.env.frame=some X.env.locals) (hc:c ∈ l) (J:Inv X pins Y H s) (cv:Cov X pins g) (ex:ExS g H s.heap a C fl) (hm:X.mg c=some C)
  (h:∀ s',Inv X pins Y H s'->ExS g H s'.heap a C (some .none)->codeAny (model X.prog X.w) (X.A.mark (some (.ref a))) (.handlers (.ref a) [.ExceptHandler none nm (b₀ :: suite) hpos] X.env) (fun r s₂=>match r with
     | .ok f=>(match nm with
      | none=>Q f s₂
      | some n=>wpAny (model X.prog X.w) X.A (do bindName X.env n .none; unbindBehindTheSuite X.env n hpos) (fun _ s₃=>Q f s₃) E' s₂)
     | .error x=>cameBackBy (model X.prog X.w) X.A X.env E' x s₂) s') :
  wpAny (model X.prog X.w) X.A (noteFrame (.ref a) X.env) (fun _ s₂=>wpAny (model X.prog X.w) X.A (setFlight (.ref a) none) (fun _ s₃=>wpAny (model X.prog X.w) X.A (handleBy (.ref a) X.env [.ExceptHandler (some (.Name "DueError" np)) nm (b₀ :: suite) hpos]) Q E' s₃) E' s₂) E' s:=by
 have fr:X.A.frames=some (X.env :: X.outer):=by rw [J.ok.frames,hst]
 have stk:s.heap.FunFrames X.base (X.env :: X.outer):=by have:=J.stack; rw [hst] at this; exact this
 have hb:∀ b,s.heap.get? b=none->H b=none:=fun b z=>HOk.some_of J.hok z
 refine m_u (base:=X.base) fr stk hfr hb ex fun h1 c1 x1=>?_
 refine g_D (s:={ s with heap:=h1 }) (fs:=frs (X.env :: X.outer)) none (f_I (c1.frames (fun _ h=>h) stk)) x1 fun h2 c2 x2=>?_
 have J2:Inv X pins Y H { s with heap:=h2 }:=J.ch cv (by rw [hst]; exact c1.trans c2)
 refine wpAny_handleBy_cons (codeAny_handlers_test ?_) (by intro q; cases q)
 have J3:=J2.re (X.A.mark (some (.ref a))) false X.xe rfl (fun z=>by cases z)
 refine g_V (X:=reX X (X.A.mark (some (.ref a))) false (X.pn ++ pins) X.xe) J3 hg xt.top.mg ?_ (by decide)
 obtain ⟨C',ec,hu,_⟩:=xt.at_ hc
 have eC:C=.ref C':=Option.some.inj (hm.symm.trans ec.mg)
 obtain ⟨oe,vs,a0,he,hcl,_⟩:=x2.ob
 refine l_x (C:=C') (j_j J2.kIn ec.ex) (j_j J2.kIn xt.top.ex) (fun hC=>p_F J2.kIn hu hC) he (hcl.trans eC) ?_
 exact h _ J2 x2
theorem s_f {l:List Str} {D:Addr} {i:Nat} {n:Str} {np hpos pos:Pos} {body suite:List Stmt} {b₀:Stmt} {mb mh:SM} (xt:XT X.K X.mg l D) (hg:Gl X "DueError") (hst:X.stack=X.env :: X.outer) (hfr:X.env.frame=some X.env.locals) (hN:X.N.Nodup) (hi:X.N[i]? = some n) (hn:X.env.scope.names.lookup n=some .local)
  (hb:∀ F' pn xe E1,XOk (reX X X.A X.calm pn xe) F' E1->PassesOwn (model X.prog X.w) X.A X.env xe->FSs (reX X X.A X.calm pn xe) F' E1 body mb)
  (hs:∀ F' e pn xe,FSs (reX X (X.A.mark (some e)) false pn xe) F' E0' (b₀ :: suite) mh) :
  FS X F E (.Try body [.ExceptHandler (some (.Name "DueError" np)) (some n) (b₀ :: suite) hpos] [] [] pos) (i_P l i mb mh):=fun pins s Y H D' I ⟨U,O,DD,st,q,f⟩=>by
 obtain ⟨W,stw,rfl⟩:=id st
 let E1:Str->a_r->Prop:=fun c U'=>c ∈ l/\∃ d U'',mh (U'.set i (some (.exc c)))=.rt d U''/\DD.rt d (U''.set i none)
 have q1:wpS E1 mb DD U:=by
  unfold wpS i_P at q
  unfold wpS
  generalize mb U=o at q ⊢
  cases o with
  | ex c U'=>
   simp only at q
   by_cases hc:c ∈ l
   ·rw [if_pos hc] at q
    refine ⟨hc,?_⟩
    generalize mh (U'.set i (some (.exc c)))=o2 at q ⊢
    cases o2 with
    | rt d U''=>exact ⟨d,U'',rfl,q⟩
    | _=>exact q.elim
   ·rw [if_neg hc] at q; exact q.elim
  | _=>exact q
 refine wpAny_Try_except ?_
 refine thn (hb (F.here H W.flatten) (X.pn ++ pins) _ E1 ?_ PassesOwn.looking [] s Y H D' (I.re X.A X.calm _ rfl I.ok.hd) ⟨U,_,DD,⟨W,stw.here,rfl⟩,q1,f.here stw⟩) fun fw s1 h=>?_
 ·intro pins' Y' H' s' e c U' O' ⟨J1,a,C,g,fl,e1,cv,ex,hm⟩ st' ⟨hc,d,U'',hmh,hd⟩
  subst e1
  have J:Inv X pins Y' H' s':=J1.unre I.ok
  have cv':Cov X pins g:=⟨cv.s0,cv.loc,cv.cell,fun p hp=>cv.pin p (List.mem_append_left _ hp)⟩
  have hii:i < U'.length:=by rw [st'.lenE,J.len]; exact (List.getElem?_eq_some_iff.mp hi).1
  refine p_D xt hg hst hfr hc J cv' ex hm fun s3 J3 x3=>codeAny_handlers_suite_as ?_
  have stk:s3.heap.FunFrames X.base (X.env :: X.outer):=by have:=J3.stack; rw [hst] at this; exact this
  refine g_D (s:=s3) (fs:=frs (X.env :: X.outer)) none (f_I stk) x3 fun h4 c4 x4=>?_
  have J4:Inv X pins Y' H' { s3 with heap:=h4 }:=J3.ch cv' (by rw [hst]; exact c4)
  have J5:=J4.caught cv' x4
  obtain ⟨C',ec,_⟩:=xt.at_ hc
  have eC:C=.ref C':=Option.some.inj (hm.symm.trans ec.mg)
  refine j_l J5 hN hi (.inl hn) (v:=.ref a) rfl (fun s5 J6=>?_) (.inr hn)
  have sm:=a_n (o:=.ext fun h=>∃ o,h.get? a=some o/\o.cls=C) ex.un
  have na:a ∉ O':=st'.nofree a ex.un
  have cell:c_f X.K (upd H' a (.ext fun h=>∃ o,h.get? a=some o/\o.cls=C)) O' (.ref a) (.exc c) []:=⟨a,_,rfl,d_3 a_A na,fun h ⟨o,z1,z2⟩=>⟨C',o,ec.ns,z1,z2.trans eC⟩⟩
  obtain ⟨O6,st6,s6⟩:=DSt.put1 (io:=false) (F:=F.here H W.flatten) (fp:=[]) (i:=i) (st'.grow sm) cell (fun _ z=>by cases z) hii (fun _ z=>by cases z)
  have step:Stp (W.flatten ++ F.O₀) H O6 _:=(p_v st').trans ((Stp.same sm).trans s6)
  refine thn (hs (F.here H W.flatten) (.ref a) (X.pn ++ pins) _ [] s5 _ _ ⟨fun _ _=>False,D'.rt,fun _ _=>False,fun _ _=>False⟩ (J6.re (X.A.mark (some (.ref a))) false _ rfl (fun z=>by cases z)) ⟨_,O6,⟨fun _=>False,fun d U''=>DD.rt d (U''.set i none),fun _=>False,fun _=>False⟩,st6,?_,?_⟩) fun fw s6 h6=>?_
  ·unfold wpS; rw [hmh]; exact hd
  ·refine ⟨fun _ _ _ _ _ _ z=>z.elim,fun v Y2 H2 c2 U2 O2 fp r s2 qq=>?_,fun _ _ _ _ _ _ z=>z.elim,fun _ _ _ _ _ _ z=>z.elim⟩
   have r2:DSt X.K (F.plus fp) H2 Y2 U2 O2:=unhere stw r.st
   obtain ⟨O3,r3,s3⟩:=r2.clear i
   exact f.rt v Y2 H2 c2 _ O3 fp ⟨r3,r.at_.keep s3 (fun _ _=>rfl) (fun _ _ _ e=>e),fun x hx=>j_k stw (r.new x hx)⟩ (step.trans (s2.trans s3)) qq
  ·cases fw with
   | next=>obtain ⟨_,_,_,z⟩:=h6; exact z.elim
   | brk=>obtain ⟨_,_,_,z⟩:=h6; exact z.elim
   | cont=>obtain ⟨_,_,_,z⟩:=h6; exact z.elim
   | ret u=>
    obtain ⟨v,Y7,H7,J8,r8,q8⟩:=h6
    exact s_3 (J8.unre I.ok) hN hi hn fun s9 J9=>⟨v,_,H7,J9,r8,q8⟩
 ·cases fw with
  | next=>exact wpAny_execs_nil (l_8 I.ok h)
  | brk=>exact l_8 I.ok h
  | cont=>exact l_8 I.ok h
  | ret u=>exact l_8 I.ok h
end
structure RoomH (k:Nat) (A:Around):Prop where
 dp:A.depth + 3 * k + 5 < recursionLimit
 un:A.units + 16 * k + 200 < cLine
theorem Room.h {k:Nat} {A:Around} (r:Room k A) (v:Option Value):RoomH k (A.mark v):=⟨r.dp,r.un⟩
theorem RoomH.deeper {k:Nat} {A:Around} (r:RoomH (k + 1) A) (env:Env):RoomH k (A.deeper env):=
 ⟨by have:=r.dp; show A.depth + 1 + 3 * k + 5 < _; omega,by have:=r.un; show A.units + 3 + 16 * k + 200 < _; omega⟩
structure FnOkH (P:Program) (w:World) (K:PySem.W.Frag) (mg:Str->Option Value) (base:Heap) (CX:CXT) (k:Nat) (f:Addr) (fd:FuncData) (ps:List Str) (sp:Sp):Prop where
 len:∀ vs H Q E,sp vs H Q E->vs.length=ps.length
 run:∀ (A:Around) (outer:List Env) (s:Shared) (H:Hp) (args:Args) (us:List Value) (vs:List V) (Q:VK) (E:XK),RoomH k A->Env0 P w K mg base A outer s H->BindsTo s fd args (ps.zip us)->b_y vs us->sp vs H Q E->
  codeAny (model P w) A (.call (.ref f) args) (CR CX outer P w H s Q E) s
abbrev cxH (CX:CXT) (P:Program) (w:World) (K:PySem.W.Frag) (mg:Str->Option Value) (base:Heap) (N:List Str) (qual:Str) (scope:Scope) (f:Addr) (cd:Value) (A:Around) (outer:List Env) (s:Shared) (H:Hp) (E:XK):Cx:=
 { p_8 CX P w K mg base N qual scope f cd A outer s H E with calm:=false }
theorem m_9 {CX:CXT} {P:Program} {w:World} {K:PySem.W.Frag} {mg:Str->Option Value} {base:Heap} {N ps:List Str} {qual:Str} {scope:Scope} {f:Addr} {cd:Value} {A:Around} {outer:List Env} {s s1:Shared} {H:Hp} {E:XK} {us:List Value} {vs:List V}
  (S:FnScope N ps scope) (e0:Env0 P w K mg base A outer s H) (hl:vs.length=ps.length) (r:b_y vs us)
  (x:InCallC s s.heap.objs.size (bindL (envOfC qual scope s.heap.objs.size f cd).kindOf (ps.zip us) fun _=>none) (cellsFrom (s.heap.objs.size + 1) scope.names []) (bindC (envOfC qual scope s.heap.objs.size f cd).kindOf (ps.zip us) fun _=>none) s1) :
  Inv (cxH CX P w K mg base N qual scope f cd A outer s H E) [] (start N vs) H s1:=by
 have e1:Env0 P w K mg base { A with handled:=none } outer s H:=⟨e0.frames,e0.mod,e0.bs,e0.bsz,e0.funs,e0.frf,e0.hok,e0.bare⟩
 have I:=k_V (CX:=CX) (E:=E) (qual:=qual) (f:=f) (cd:=cd) S rfl e1 hl r x
 exact ⟨⟨I.ok.mod,I.ok.kind,I.ok.glob,I.ok.blt,I.ok.above,I.ok.inj,I.ok.has,I.ok.cab,(fun z=>by cases z),I.ok.frames,I.ok.stk,I.ok.exf,I.ok.bs,I.ok.bsz,I.ok.noex,I.ok.exfs,I.ok.funs,I.ok.frf⟩,I.os,I.bare,I.base,I.loc,I.cell,I.free,I.freeC,I.pin,I.hok,I.len⟩
theorem t_E {CX:CXT} {P:Program} {w:World} {K:PySem.W.Frag} {mg:Str->Option Value} {base:Heap} {k:Nat} {f:Addr} {name qual:Str} {params:Arguments} {body:List Stmt} {scope:Scope} {dV kV doc pm cdv ct oc:Value} {an od:Option Addr}
  {osl:Array (Option Value)} {N ps:List Str} {sp:Sp} (lk:K.lookup f=some ⟨oc,od,.func (fnOf name qual params body scope dV kV doc pm an cdv ct),osl⟩) (hcd:codeIn K cdv qual=true) (S:FnScope N ps scope)
  (len:∀ vs H Q E,sp vs H Q E->vs.length=ps.length)
  (hbody:∀ (A:Around) (outer:List Env) (s:Shared) (H:Hp) (vs:List V) (Q:VK) (E:XK),RoomH k (A.deeper (envOfC qual scope s.heap.objs.size f cdv))->sp vs H Q E->
   ∃ t,PSs (cxH CX P w K mg base N qual scope f cdv A outer s H E) body t/\t { nx:=fun _ H'=>Q .non H',rt:=Q } (start N vs) H) :
  FnOkH P w K mg base CX (k + 1) f (fnOf name qual params body scope dV kV doc pm an cdv ct) ps sp:=by
 refine ⟨len,fun A outer s H args us vs Q E hr e0 hb r hsp=>?_⟩
 have hl:=len _ _ _ _ hsp
 have KX:K.In s.heap:=e0.mod.kin.keeps fun b o e=>(e0.bs b o e).1
 have lim:s.heap.NoLimit:=e0.mod.nolimit.keeps fun b o e=>(e0.bs b o e).1
 have hkind:∀ y ∈ ps.zip us,scope.names.lookup y.1=some .local\/(scope.names.lookup y.1=some .cell/\((cellsFrom (s.heap.objs.size + 1) scope.names []).lookup y.1).isSome=true):=fun ⟨n,v⟩ hy=>by
  rcases S.par n (List.of_mem_zip hy).1 with q | q
  ·exact .inl q
  ·exact .inr ⟨q,PySem.W.cellsFrom_some _ _ _ (.inl q)⟩
 refine codeAny_call_function (by have:=hr.dp; omega) (KX _ _ lk) rfl S.co S.gen rfl (PySem.W.codeRec_of KX hcd) (hb _ _ _ _ ?_)
 refine wpAny_newFunctionEnv_cells S.kind hkind fun env he s1 x=>?_
 subst he
 refine ⟨lim.keeps x.toInCall.keep,codeAny_func ?_⟩
 obtain ⟨t,ht,hq⟩:=hbody A outer s H vs Q E (hr.deeper _) hsp
 have I:Inv (cxH CX P w K mg base N qual scope f cdv A outer s H E) [] (start N vs) H s1:=m_9 S e0 hl r x
 refine wpAny_mono (ht [] s1 (start N vs) H _ I hq) (fun fl s' hs=>?_) fun e s' hs=>hs
 have fin:∀ {Y':St} {H':Hp} {v:V} {u:Value},Inv (cxH CX P w K mg base N qual scope f cdv A outer s H E) [] Y' H' s'->b_P v u->Q v H'->CE outer P w H s Q u s':=
  fun {Y' H' v u} J rv q=>⟨v,H',J.os,J.bare,J.base,J.hok,rv,q⟩
 cases fl with
 | ret u=>
  obtain ⟨v,Y',H',J,rv,q⟩:=hs
  exact fin J rv q
 | next=>
  obtain ⟨Y',H',J,q⟩:=hs
  exact fin (v:=V.non) (u:=Value.none) J rfl q
 | brk=>
  obtain ⟨_,_,_,q⟩:=hs
  exact False.elim q
 | cont=>
  obtain ⟨_,_,_,q⟩:=hs
  exact False.elim q
theorem s_1 {P:Program} {w:World} {K:PySem.W.Frag} {mg:Str->Option Value} {base:Heap} {N:List Str} {qual:Str} {scope:Scope} {f:Addr} {cd:Value} {A:Around} {outer:List Env} {s:Shared} {H:Hp} {E:XK} {F:Fx} {E':Str->a_r->Prop}
  (hE:∀ c C U' Y' H' O',mg c=some C->DSt K F H' Y' U' O'->E' c U'->E C none H'):XOk (cxH (CXM P w) P w K mg base N qual scope f cd A outer s H E) F E':=by
 intro pins Y H1 s1 e c U O ⟨I,a,C,g,fl,e1,cv,ex,hm⟩ st q
 subst e1
 have fr:(A.deeper (envOfC qual scope s.heap.objs.size f cd)).frames=some (envOfC qual scope s.heap.objs.size f cd :: outer):=I.ok.frames
 have hb:∀ b,s1.heap.get? b=none->H1 b=none:=fun b z=>HOk.some_of I.hok z
 have stk:frs (envOfC qual scope s.heap.objs.size f cd :: outer)=s.heap.objs.size :: frs outer:=rfl
 refine k_n (base:=base) fr I.stack rfl hb ex fun h' ch ex'=>?_
 have J:=I.ch cv ch
 refine ⟨a,C,H1,rfl,J.os,J.bare,J.base,J.hok,ex'.weak fun b o eb=>cv.s0 b o eb (by intro z; cases z),hE c C U Y H1 O hm st q⟩
section
variable {P:Program} {w:World} {K:PySem.W.Frag} {mg:Str->Option Value} {base:Heap} {x qual:Str} {st:Stmt} {f:Addr} {fd:FuncData} {N ps:List Str} {k:Nat} {m:SM}
theorem w_1 (Fn:Fun K x qual st f fd) (S:FnScope N ps (a_d st)) (hN:ps.length<=N.length)
  (der:∀ (cdv:Value) (A:Around) (outer:List Env) (s:Shared) (H:Hp) (E:XK) (F:Fx) (E':Str->a_r->Prop),RoomH k (A.deeper (envOfC qual (a_d st) s.heap.objs.size f cdv))->XOk (cxH (CXM P w) P w K mg base N qual (a_d st) f cdv A outer s H E) F E'->
   DSs (cxH (CXM P w) P w K mg base N qual (a_d st) f cdv A outer s H E) F (f_k st) (wpS E' m)):FnOkH P w K mg base (CXM P w) (k + 1) f fd ps (spF K mg (fnM ps.length N.length m)):=by
 obtain ⟨oc,od,kV,doc,pm,an,cdv,ct,osl,rfl,lk,hcd⟩:=Fn.ex
 have hlen:∀ vs H Q E,spF K mg (fnM ps.length N.length m) vs H Q E->vs.length=ps.length:=fun vs H Q E ⟨cs,fps,O₀,ha,_,_,q⟩=>by
  rw [ha.len.1]
  unfold fnM at q
  by_cases h:cs.length=ps.length
  ·exact h
  ·rw [if_neg h] at q; exact q.elim
 refine t_E lk hcd S hlen fun A outer s H vs Q E hr hsp=>?_
 have hlv:=hlen vs H Q E hsp
 obtain ⟨cs,fps,O₀,ha,nd,live,q⟩:=hsp
 obtain ⟨l1,l2⟩:=ha.len
 have hlc:cs.length=ps.length:=by omega
 let F:Fx:=⟨H,fps.flatten,O₀,s_e vs⟩
 have st0:=k_k (N:=N) ha nd live (by omega)
 have fin:∀ {Y':St} {H':Hp} {U':a_r} {O':List Addr} {fp:List Addr} {outs:List Bx},DSt K (F.plus fp) H' Y' U' O'->(∀ a ∈ fp,a ∈ F.A₀\/F.H₀ a=none)->a_4 cs U' = some outs->∃ fps',OutsAt H' (fps'.flatten ++ fp ++ O₀) vs cs outs fps'/\Beh H H' fps.flatten (fps'.flatten ++ fp) O₀/\Stp O' H' (fps'.flatten ++ fp ++ O₀) H':=by
  rintro Y' H' U' O' fp outs ⟨W,st',rfl⟩ hfp ho
  obtain ⟨fps',o,sb⟩:=j_o st' cs vs 0 outs l1 (fun i io b e=>ha.ios i io b e) ho
  have sb':fps'.flatten.Sublist W.flatten:=sb
  have sub:(fps'.flatten ++ fp ++ O₀).Sublist (W.flatten ++ (fp ++ O₀)):=by rw [List.append_assoc]; exact List.Sublist.append sb' (List.Sublist.refl _)
  have stp:Stp (W.flatten ++ (fp ++ O₀)) H' (fps'.flatten ++ fp ++ O₀) H':=b_E fun a h=>sub.subset h
  refine ⟨fps',o.mono stp,⟨st'.nd.sublist sub,fun a h=>st'.live a (sub.subset (List.mem_append_left _ h)),fun b o hb e=>st'.kept b o hb e,fun a h=>?_⟩,stp⟩
  rcases List.mem_append.mp h with h | h
  ·exact st'.new a (sb'.subset h)
  ·exact hfp a h
 have hfn:fnM ps.length N.length m cs=(match m (e_c N.length ps.length cs) with
  | .nx U=>(match a_4 cs U with | some o=>.rt (.dat .none) o | none=>.bad)
  | .rt c U=>(match a_4 cs U with | some o=>.rt c o | none=>.bad)
  | .ex c U=>(match a_4 cs U with | some o=>.ex c o | none=>.bad)
  | _=>.bad):=by unfold fnM e_c; rw [if_pos hlc] <;> rfl
 rw [hfn] at q
 rw [hlc] at st0
 let E':Str->a_r->Prop:=fun c U'=>∃ outs,a_4 cs U' = some outs/\∀ C H' fps',mg c=some C->OutsAt H' (fps'.flatten ++ O₀) vs cs outs fps'->Beh H H' fps.flatten fps'.flatten O₀->E C none H'
 refine ⟨_,der cdv A outer s H E F E' hr (s_1 fun c C U' Y' H' O' hm st' ⟨outs,ho,k⟩=>?_),?_⟩
 ·obtain ⟨fps',o,b,_⟩:=fin (fp:=[]) st' (fun a h=>by cases h) ho
  rw [List.append_nil] at o b
  exact k C H' fps' hm o b
 ·refine ⟨e_c N.length ps.length cs,_,⟨fun U'=>∃ outs,a_4 cs U' = some outs/\∀ H' fps',OutsAt H' (fps'.flatten ++ [] ++ O₀) vs cs outs fps'->Beh H H' fps.flatten (fps'.flatten ++ []) O₀->Q .non H',fun c U'=>∃ outs,a_4 cs U' = some outs/\∀ v H' fp fps',c_f K H' (fps'.flatten ++ fp ++ O₀) v c fp->OutsAt H' (fps'.flatten ++ fp ++ O₀) vs cs outs fps'->Beh H H' fps.flatten (fps'.flatten ++ fp) O₀->Q v H',fun _=>False,fun _=>False⟩,⟨_,st0,rfl⟩,?_,?_⟩
  ·unfold wpS
   cases hm:m (e_c N.length ps.length cs) with
   | nx U'=>
    rw [hm] at q
    cases ho:a_4 cs U' with
    | none=>simp [ho] at q
    | some outs=>
     simp only [ho] at q
     exact ⟨outs,ho,fun H' fps' o b=>q .non H' [] fps' .non o b⟩
   | rt c U'=>
    rw [hm] at q
    cases ho:a_4 cs U' with
    | none=>simp [ho] at q
    | some outs=>
     simp only [ho] at q
     exact ⟨outs,ho,q⟩
   | ex c U'=>
    rw [hm] at q
    cases ho:a_4 cs U' with
    | none=>simp [ho] at q
    | some outs=>
     simp only [ho] at q
     exact ⟨outs,ho,q⟩
   | bk U'=>rw [hm] at q; exact q
   | ct U'=>rw [hm] at q; exact q
   | bad=>rw [hm] at q; exact q
  ·refine ⟨fun Y' H' U' O' st' s' ⟨outs,ho,k⟩=>?_,fun v Y' H' c U' O' fp r s' ⟨outs,ho,k⟩=>?_,fun _ _ _ _ _ _ z=>z.elim,fun _ _ _ _ _ _ z=>z.elim⟩
   ·obtain ⟨fps',o,b,_⟩:=fin (fp:=[]) st' (fun a h=>by cases h) ho
    exact k H' fps' o b
   ·obtain ⟨fps',o,b,stp⟩:=fin r.st r.new ho
    exact k v H' fp fps' (r.at_.keep stp (fun _ _=>rfl) (fun _ _ _ e=>e)) o b
end
section
variable {X:Cx} {F:Fx} {e:Expr} {es:List Expr} {tX:DTX} {E:Str->a_r->Prop} {pos p:Pos} {x:Str} {f:FM} {k:Nat} {g:Addr} {fd:FuncData} {ps:List Str}
theorem p_Q {pins:List (Addr × Obj)} {Y:St} {H:Hp} {s:Shared} {Q:VK} {us:List Value} {vs:List V} {as:List AX} {U:a_r} {O:List Addr} {QC:Cell->a_r->Prop} (hx:XOk X F E) (G:FnOkH X.prog X.w X.K X.mg X.base (CXM X.prog X.w) k g fd ps (spF X.K X.mg f)) (hr:RoomH k X.A) (hb:h_t X.K fd ps [])
  (I:Inv X pins Y H s) (r:b_y vs us) (st:DSt X.K F H Y U O) (ax:AxAt Y (hide O H) vs as) (q:d_J f E QC as U) (hQ:∀ c U',QC c U'->∀ v H' O' fp,Res X.K F H' Y U' O' v c fp->Stp O H O' H'->Q v H') :
  wpAny (model X.prog X.w) X.A (call (.ref g) us) (EP X pins Y Q) X.xe s:=by
 unfold d_J at q
 cases hc:b_U U as with
 | none=>rw [hc] at q; exact q.elim
 | some p=>
  obtain ⟨cs,js⟩:=p
  rw [hc] at q
  simp only at q
  obtain ⟨fps,O2,st2,ar,s1,s1',nw,ja⟩:=h_y st as vs cs js hc ax
  obtain ⟨W,stw,hO2⟩:=id st2
  have ndO:(W.flatten ++ (fps.flatten ++ F.O₀)).Nodup:=stw.nd
  have memO:∀ a,a ∈ O2 ↔ a ∈ fps.flatten ++ (W.flatten ++ F.O₀):=fun a=>by
   rw [hO2]
   show a ∈ W.flatten ++ (fps.flatten ++ F.O₀) ↔ _
   simp only [List.mem_append]
   constructor
   ·rintro (h | h | h) <;> simp [h]
   ·rintro (h | h | h) <;> simp [h]
  have perm:(fps.flatten ++ (W.flatten ++ F.O₀)).Perm (W.flatten ++ (fps.flatten ++ F.O₀)):=by
   rw [<-List.append_assoc,<-List.append_assoc]
   exact List.Perm.append_right _ List.perm_append_comm
  have nd1:(fps.flatten ++ (W.flatten ++ F.O₀)).Nodup:=perm.nodup_iff.mpr ndO
  have stE:Stp O2 H (fps.flatten ++ (W.flatten ++ F.O₀)) H:=b_E fun a h=>(memO a).mpr h
  have back2:∀ (H':Hp) (L':List Addr) (a:Addr),(a ∈ L' ++ (W.flatten ++ F.O₀))->a ∈ L'\/(a ∈ O2/\a ∉ fps.flatten):=fun H' L' a h=>by
   rcases List.mem_append.mp h with h | h
   ·exact .inl h
   ·refine .inr ⟨(memO a).mpr (List.mem_append_right _ h),fun z=>?_⟩
    exact (List.nodup_append.mp nd1).2.2 a z a h rfl
  have swapped:∀ (H':Hp) (L':List Addr),Beh H H' fps.flatten L' (W.flatten ++ F.O₀)->∃ O3,DSt X.K (F.plus L') H' Y (clr js U) O3/\Stp O2 H O3 H'/\∀ a,a ∈ O3 ↔ a ∈ L' ++ (W.flatten ++ F.O₀):=fun H' L' bh=>by
   obtain ⟨O3,t1,t2,t3,t4,t5⟩:=st2.swap (H':=H') (L':=L') bh.keep (List.nodup_append.mp bh.nd).1 bh.new nw bh.live
   refine ⟨O3,t1,t2,fun a=>⟨fun h=>?_,fun h=>?_⟩⟩
   ·rcases t4 a h with z | ⟨z1,z2⟩
    ·exact List.mem_append_left _ z
    ·rcases List.mem_append.mp ((memO a).mp z1) with z | z
     ·exact absurd z z2
     ·exact List.mem_append_right _ z
   ·rcases back2 H' L' a h with z | ⟨z1,z2⟩
    ·exact t3 a z
    ·exact t5 a z1 z2
  have r2:b_y (vs ++ []) (us ++ []):=by rw [List.append_nil,List.append_nil]; exact r
  let EX:XK:=fun C _ H'=>∃ c U' O',X.mg c=some C/\DSt X.K F H' Y U' O'/\E c U'
  have sp:spF X.K X.mg f vs H Q EX:=by
   refine ⟨cs,fps,W.flatten ++ F.O₀,ar.mono stE,nd1,fun a h=>?_,?_⟩
   ·exact stw.live a (by have:=(memO a).mpr h; rw [hO2] at this; exact this)
   ·cases hf:f cs with
    | bad=>rw [hf] at q; exact q
    | rt c outs=>
     rw [hf] at q
     simp only at q ⊢
     intro v H' fp fps' hca hou bh
     obtain ⟨O3,t1,t2,t3⟩:=swapped H' (fps'.flatten ++ fp) bh
     have eq3:Stp (fps'.flatten ++ fp ++ (W.flatten ++ F.O₀)) H' O3 H':=b_E fun a h=>(t3 a).mp h
     have nwo:∀ a ∈ fps'.flatten ++ fp,a ∈ F.A₀\/F.H₀ a=none:=fun a h=>by
      rcases bh.new a h with z | z
      ·exact nw a z
      ·by_cases hA:a ∈ F.A₀
       ·exact .inl hA
       ·refine .inr ?_
        cases e:F.H₀ a with
        | none=>rfl
        | some o=>have:=stw.kept a o hA e; rw [z] at this; cases this
     have lj:(clr js U).length=U.length:=j_M
     obtain ⟨O4,u1,u2⟩:=h_E (fp:=fp) ja lj t1 (hou.mono eq3) fun a h=>nwo a (List.mem_append_left _ h)
     exact hQ c _ q v H' O4 fp ⟨u1,hca.keep (eq3.trans u2) (fun _ _=>rfl) (fun _ _ _ e=>e),fun a h=>nwo a (List.mem_append_right _ h)⟩ (s1.trans (t2.trans u2))
    | ex c outs=>
     rw [hf] at q
     simp only at q ⊢
     intro C H' fps' hm hou bh
     obtain ⟨O3,t1,t2,t3⟩:=swapped H' fps'.flatten bh
     have eq3:Stp (fps'.flatten ++ (W.flatten ++ F.O₀)) H' O3 H':=b_E fun a h=>(t3 a).mp h
     have nwo:∀ a ∈ fps'.flatten,a ∈ F.A₀\/F.H₀ a=none:=fun a h=>by
      rcases bh.new a h with z | z
      ·exact nw a z
      ·by_cases hA:a ∈ F.A₀
       ·exact .inl hA
       ·refine .inr ?_
        cases e:F.H₀ a with
        | none=>rfl
        | some o=>have:=stw.kept a o hA e; rw [z] at this; cases this
     have lj:(clr js U).length=U.length:=j_M
     obtain ⟨O4,u1,u2⟩:=h_E (fp:=[]) ja lj (by rw [List.append_nil]; exact t1) (hou.mono eq3) nwo
     exact ⟨c,_,O4,hm,u1,q⟩
  have hl:(us ++ []).length=ps.length:=by rw [List.append_nil,<-r.length]; exact G.len _ _ _ _ sp
  refine wpAny_call (codeAny_mono (G.run X.A X.stack s H ⟨us,[]⟩ us vs Q EX hr I.env0 (by have:=hb s us I.kIn hl; rw [List.append_nil] at this; exact this) r sp) fun r s' hq=>?_)
  cases r with
  | error e=>
   obtain ⟨a,C,H',e1,I',cv,ex,c,U',O',hm,st',hE⟩:=I.flies hq
   exact hx pins Y H' s' e c U' O' ⟨I',a,C,s.heap,_,e1,cv,ex,hm⟩ st' hE
  | ok fl=>
   cases fl with
   | ret u=>exact I.after hq
   | next=>exact False.elim hq
   | brk=>exact False.elim hq
   | cont=>exact False.elim hq
theorem p_T (hx:XOk X F E) (G:FnOkH X.prog X.w X.K X.mg X.base (CXM X.prog X.w) k g fd ps (spF X.K X.mg f)) (hr:RoomH k X.A) (hg:Gl X x) (hm:X.mg x=some (.ref g)) (hk:keepIn X.K (.ref g)=true) (hb:h_t X.K fd ps [])
  (ha:DX X F (e :: es) tX) (hdb:(x == ("__debug__":Str))=false:=by decide) (he:starEach (e :: es) X.env=(false,eval e X.env) :: starEach es X.env:=by rfl) (hpl:(backTo pos (starEach es X.env)).any (·.1)=false:=by rfl) :
  DO X F (.Call (.Name x p) (e :: es) [] pos) (s_I f E tX):=by
 refine ⟨fun U Q Q' k q=>ha.mn _ _ _ (fun as U1 q1=>k_1 k q1) q,fun pins s Y H Q I ⟨U,O,st,q⟩=>?_⟩
 refine wpAny_Call_Name_kw (g_V I hg hm ?_ hdb)
 refine PySem.W.callWith_K (h₀:=X.base) I.ok.mod.kin hk (thn (ha.pa pos pins s Y H (fun vs H1=>∃ as U1 O1,DSt X.K F H1 Y U1 O1/\Stp O H O1 H1/\AxAt Y (hide O1 H1) vs as/\d_J f E (fun c U'=>∀ v H' O' fp,Res X.K F H' Y U' O' v c fp->Stp O H O' H'->Q v H') as U1) I ⟨U,O,st,ha.mn _ _ _ (fun as U1 q1 vs H1 O1 st1 s1 ax=>⟨as,U1,O1,st1,s1,ax,q1⟩) q⟩) fun us s1 ⟨vs,H1,I1,r,as,U1,O1,st1,s01,ax,q1⟩=>⟨I1.kIn,?_⟩) he hpl
 exact p_Q hx G hr hb I1 r st1 ax q1 fun c U' h v H' O' fp res s2=>h v H' O' fp res (s01.trans s2)
end
end L2.L3
namespace L2.L3
open PySem PySem.Spec PyProof.Rows Builtin Builtin.ObjectAttr Builtin.Getset_descriptor
section
variable {prog:Program} {w:World} {A:Around} {E:Value->Shared->Prop} {K:PySem.W.Frag} {h:Heap} {g:Array GenState} {d:Drawn} {t:Nat} {os:OsState} {a C:Addr} {o:Obj}
theorem o_b {Q:Option Value->Shared->Prop} (X:K.In h) (hx:h.get? a=some o) (hc:o.cls=.ref C) (f1:findIn K (.ref C) "__getattribute__" = some (some (.builtin "BaseException.__getattribute__")))
  (f2:findIn K (.ref C) "__class__" = some (some (.builtin "object.__class__"))) (f3:findIn K (.ref C) "__getattr__" = some none) (f4:mroIn K C (.type "BaseException")=some true) (f5:mroIn K C (.type "object")=some true)
  (hq:Q (some (.ref C)) ⟨h,g,d,t + 1,os⟩):wpAny (model prog w) A (getAttr? (.ref a) "__class__") Q E ⟨h,g,d,t,os⟩:=by
 have L0:PySem.W.Looks (model prog w) h (typeOf (.ref a)) (.ref C):=hc ▸ (PySem.W.Looks.ld hx).andThen .now
 have L1:=PySem.W.looks_findIn (M:=model prog w) X f1
 have L2:=PySem.W.looks_findIn (M:=model prog w) X f3
 have L3:=PySem.W.looks_findIn (M:=model prog w) X f2
 have L4:=PySem.W.looks_mroIn (M:=model prog w) X f4
 have L5:=PySem.W.looks_mroIn (M:=model prog w) X f5
 have g3:=F.attrBase_ValueError.ga.bind (.ref a)
 unfold getAttr? getAttrBy? getAttrBy; refine wpAny_bind (wpAny_mkText (wpAny_bind (wpAny_attempt (wpAny_holding (wpAny_bind (L0.at (wpAny_bind (L1.at ?_))))))))
 show wpAny _ _ (getAttrByItsOwn _ _ _ _ _ _) _ _ _
 unfold getAttrByItsOwn
 repeat (any_goals (first | assumption | with_reducible refine L0.at ?_ | with_reducible refine L2.at ?_ | wp_step))
 refine codeAny_call_builtin F.attrBase_ValueError.ga.plain F.entry_bexc_ga ?_
 have k1:builtinKind "BaseException.__getattribute__" = some .slot:=by decide +kernel
 have k2:splitId "BaseException.__getattribute__" = some ("BaseException","__getattribute__"):=by decide +kernel
 have k3:=F.args_bexc_ga (.ref a) (.str "__class__" t)
 simp only [checkBuiltinCall,k1,k2]; refine wpAny_bind ?_
 unfold isInstance
 repeat (any_goals (first | assumption | with_reducible refine L0.at ?_ | with_reducible refine L4.at ?_ | wp_step))
 have k4:typeOf (.builtin "object.__class__")=pure (.type "getset_descriptor"):=PySem.W.KF.type_class
 have k6:=F.slot_gs_get.lookup
 have k7:=F.slot_gs_set.lookup
 repeat (any_goals (first | assumption | with_reducible refine L0.at ?_ | with_reducible refine L3.at ?_ | wp_step))
 refine codeAny_call_builtin PySem.W.KF.slot_gs.plain PySem.W.KF.entry_gs (PySem.W.KF.slot_gs.check _ _ _ _ _ _ _ _ PySem.W.KF.type_class (PySem.W.KF.args_gs _ _ _) ?_)
 unfold Builtin.«getset_descriptor.__get__» descrGet; rw [PySem.W.dga_obj]; refine wpAny_bind (wpAny_pure ?_)
 unfold descrGetter descrCheckInstance descrNameAndClass isInstance; simp only [PySem.W.KF.owner_class]
 repeat (any_goals (first | assumption | with_reducible refine L0.at ?_ | with_reducible refine L5.at ?_ | wp_step))
 refine ⟨Code.quiet_builtin _ (by decide +kernel),codeAny_builtin PySem.W.KF.entry_class ?_⟩
 unfold Builtin.«object.__class__» PySem.shownTypeOf
 repeat (any_goals (first | assumption | with_reducible refine L0.at ?_ | with_reducible refine L5.at ?_ | wp_step))
theorem p_z (f:k_L K C=true) (hc:(clsIn K C).isSome=true):PySem.W.KitX K (.ref a) (.ref C) (fun h=>∃ o,h.get? a=some o/\o.cls=.ref C):=by
 unfold k_L at f
 simp only [Bool.and_eq_true,beq_iff_eq] at f
 obtain ⟨⟨⟨⟨f1,f2⟩,f3⟩,f4⟩,f5⟩:=f
 obtain ⟨cd,hcd⟩:=Option.isSome_iff_exists.mp hc
 unfold clsIn at hcd
 split at hcd
 ·rename_i o1 o2 o3 o4 ho
  refine ⟨fun M h X ⟨o,p1,p2⟩=>p2 ▸ (PySem.W.Looks.ld p1).andThen .now,fun M h X _=>?_,fun h tp dd its n sl X htp=>?_,fun {prog w A E Q s} X ⟨o,p1,p2⟩ k=>?_⟩
  ·intro A' Q' E' s' k q; unfold isType loadHead; exact wpAny_bind (wpAny_loadPart (k _ _ (X _ _ ho)) (wpAny_pure q))
  ·refine Bool.eq_false_iff.mpr fun q=>?_
   have e:C=tp:=Value.ref.inj (beq_iff_eq.mp q)
   subst e
   have zz:=(X _ _ ho).symm.trans htp
   cases zz
  ·obtain ⟨hh,g,d,t,os⟩:=s
   exact o_b X p1 p2 f1 f2 f3 f4 f5 k
 ·cases hcd
end
end L2.L3
namespace L2.L3
open PySem PySem.Spec PyProof.Rows
def vOf:Value->V
 | .bool b=>.bl b
 | .int i _=>.int i
 | .str x _=>.str x
 | _=>.non
theorem q_7 {v:V} {z:Value} (r:b_P v z) (f:e_6 v=true):vOf z=v:=by
 cases v with
 | non=>cases r; rfl
 | bl b=>cases r; rfl
 | int i=>obtain ⟨t,rfl⟩:=r; rfl
 | str i=>obtain ⟨t,rfl⟩:=r; rfl
 | _=>cases f
theorem l_p {A:Around} {s:Shared} {y:V} {u:Value} (ry:b_P y u) (fy:e_6 y=true):∀ {xs:List V} {its:List Value},b_y xs its->xs.all e_6=true->(∀ z ∈ its,SeqAt.EqAt A s z u (eqV (vOf z) y))/\its.map vOf=xs
 | _,_,.nil,_=>⟨(fun _ h=>nomatch h),rfl⟩
 | _,_,.cons h t,fl=>by
  rw [List.all_cons,Bool.and_eq_true] at fl
  obtain ⟨h1,h2⟩:=l_p (A:=A) (s:=s) ry fy t fl.2
  refine ⟨fun z hz=>?_,?_⟩
  ·rcases List.mem_cons.mp hz with rfl | hz
   ·rw [q_7 h fl.1]; exact q_8 h ry fl.1 fy
   ·exact h1 z hz
  ·rw [List.map_cons,h2,q_7 h fl.1]
section
variable {X:Cx} {F:Fx} {E:Str->a_r->Prop} {e a b c:Expr} {es:List Expr} {st:Stmt} {rest:List Stmt} {pos:Pos} {x:Str}
def q_R:V->List V->Hp->VK->Prop:=fun x vs H Q=>∃ l xs y,x=.ref l/\vs=[y]/\H l=some (.lst xs)/\xs.all e_6=true/\e_6 y=true/\Q (.int (xs.countP fun z=>eqV z y:Nat)) H
theorem p_4:MtR X "list.count" q_R:=by
 intro pins s Y H x vs v us Q I rx rv h
 obtain ⟨l,xs,y,rfl,rfl,hH,fl,fy,q⟩:=h
 cases rx
 obtain ⟨u,rfl,ru⟩:=rv.one
 obtain ⟨z,its,n,r,hl,e⟩:=I.lstM hH
 obtain ⟨h1,h2⟩:=l_p (A:=X.A.in1) (s:=s) ru fy r fl
 refine call_meets F.slot_list_count ⟨_,e,rfl⟩ F.entry_list_count (F.args_list_count_2 _ _) (SeqAt.list_countAt l its.toArray n none #[] u fun z=>eqV (vOf z) y) ⟨e,fun z hz=>h1 z (by simpa using hz),?_⟩
 refine ⟨.int _,H,I.tok _,⟨_,rfl⟩,?_⟩
 have:its.countP (fun z=>eqV (vOf z) y)=xs.countP fun z=>eqV z y:=by rw [<-h2,List.countP_map]; rfl
 rw [this]
 exact q
def r_c:V->List V->Hp->VK->Prop:=fun x vs H Q=>∃ l xs y,x=.ref l/\vs=[y]/\H l=some (.lst xs)/\xs.all e_6=true/\e_6 y=true/\(xs.findIdx fun z=>eqV z y) < xs.length/\Q (.int (xs.findIdx fun z=>eqV z y:Nat)) H
theorem q_o:MtR X "list.index" r_c:=by
 intro pins s Y H x vs v us Q I rx rv h
 obtain ⟨l,xs,y,rfl,rfl,hH,fl,fy,hlt,q⟩:=h
 cases rx
 obtain ⟨u,rfl,ru⟩:=rv.one
 obtain ⟨z,its,n,r,hl,e⟩:=I.lstM hH
 obtain ⟨h1,h2⟩:=l_p (A:=X.A.in1) (s:=s) ru fy r fl
 have gt:∀ m (hm:m < its.length),eqV (vOf its[m]) y=eqV (xs[m]'(by omega)) y:=fun m hm=>by
  have:xs[m]'(by omega)=vOf its[m]:=by subst h2; simp
  rw [this]
 have big:((xs.findIdx fun z=>eqV z y:Nat):Int) < 2 ^ 63 - 1:=by
  have:sizeLine < 2 ^ 62:=by decide
  omega
 refine call_meets F.slot_list_index ⟨_,e,rfl⟩ F.entry_list_index (F.args_list_index_2 _ _) (SeqAt.list_indexAt l its.toArray n none #[] u (fun z=>eqV (vOf z) y) (xs.findIdx fun z=>eqV z y) (by rw [List.size_toArray]; omega) big ?_ ?_) ⟨e,fun z hz=>h1 z (by simpa using hz),?_⟩
 ·show eqV (vOf its[xs.findIdx fun z=>eqV z y]) y=true
  rw [gt _ (by omega)]
  exact List.findIdx_getElem (w:=hlt)
 ·intro m hm h
  have hm':m < its.length:=by simpa using hm
  show eqV (vOf its[m]) y=false
  rw [gt m hm']
  have:=List.not_of_lt_findIdx h
  simpa using this
 ·exact ⟨.int _,H,I.tok _,⟨_,rfl⟩,q⟩
@[simp] def x_D:Cell->Option (List PyData)
 | .dat (.list ds)=>some ds
 | .own _ (.l ds)=>some ds
 | _=>none
@[simp] def asL (U:a_r) (i:Nat):Option (List PyData):=match U[i]? with
 | some (some c)=>x_D c
 | _=>none
theorem q_0 {K:PySem.W.Frag} {H:Hp} {Y:St} {U:a_r} {O:List Addr} {i:Nat} {ds:List PyData} (st:DSt K F H Y U O) (h:asL U i=some ds):∃ p vs,Y[i]? = some (some (.ref p))/\H p=some (.lst vs)/\DVs (hide O H) vs ds:=by
 unfold asL at h
 split at h
 ·rename_i c e
  unfold x_D at h
  split at h
  ·cases h
   obtain ⟨v,hv,hd⟩:=st.dat e
   obtain ⟨p,xs,rfl,hp,hx⟩:=hd.lst_inv
   exact ⟨p,xs,hv,(a_F hp).1,hx⟩
  ·cases h
   obtain ⟨p,fp,hv,⟨_,xs,hH,hx⟩,_⟩:=st.box e
   exact ⟨p,xs,hv,hH,hx⟩
  ·cases h
 ·cases h
@[simp] def l_G:PyData->Option V
 | .none=>some .non
 | .bool b=>some (.bl b)
 | .int i=>some (.int i)
 | .str x=>some (.str x)
 | _=>none
@[simp] def h_k:List PyData->Option (List V)
 | []=>some []
 | d :: r=>(match l_G d,h_k r with | some v,some l=>some (v :: l) | _,_=>none)
theorem j_x {G:Hp} {v w:V} {d:PyData} (h:DV G v d) (e:l_G d=some w):v=w/\e_6 v=true:=by
 cases d with
 | none=>cases e; rw [h.non_inv]; exact ⟨rfl,rfl⟩
 | bool b=>cases e; rw [h.bl_inv]; exact ⟨rfl,rfl⟩
 | int b=>cases e; rw [h.int_inv]; exact ⟨rfl,rfl⟩
 | str b=>cases e; rw [h.str_inv]; exact ⟨rfl,rfl⟩
 | _=>cases e
theorem h_x {G:Hp}:∀ {vs ws:List V} {ds:List PyData},DVs G vs ds->h_k ds=some ws->vs=ws/\vs.all e_6=true
 | [],_,[],.nil,e=>by cases e; exact ⟨rfl,rfl⟩
 | v :: vs,_,d :: ds,.cons h t,e=>by
  unfold h_k at e
  cases h1:l_G d with
  | none=>rw [h1] at e; cases e
  | some w=>
   cases h2:h_k ds with
   | none=>rw [h1,h2] at e; cases e
   | some l=>
    rw [h1,h2] at e
    cases e
    obtain ⟨e1,f1⟩:=j_x h h1
    obtain ⟨e2,f2⟩:=h_x t h2
    exact ⟨by rw [e1,e2],by rw [List.all_cons,f1,f2]; rfl⟩
@[simp] def v_P (ds:List PyData) (y:PyData):Option PyData:=match h_k ds,l_G y with
 | some ws,some w=>some (.int (ws.countP fun z=>eqV z w:Nat))
 | _,_=>none
@[simp] def ixD (ds:List PyData) (y:PyData):Option PyData:=match h_k ds,l_G y with
 | some ws,some w=>if (ws.findIdx fun z=>eqV z w) < ws.length then some (.int (ws.findIdx fun z=>eqV z w:Nat)) else none
 | _,_=>none
@[simp] def mtK (g:List PyData->PyData->Option PyData) (i:Nat) (d:PyData):XM PyData:=fun U=>lift (match asL U i with
 | some ds=>g ds d
 | none=>none) U
@[simp] def xMt (g:List PyData->PyData->Option PyData) (i:Nat) (m:XM PyData):XM PyData:=fun U=>match asL U i with
 | some _=>(m U).bind (mtK g i)
 | none=>.bad
theorem v_n {i:Nat} {m:XM PyData} {p1 apos cpos:Pos} {nm:Str} {id:String} {r:V->List V->Hp->VK->Prop} {g:List PyData->PyData->Option PyData} (slot:Slot "list" nm id) (hty:typeOf (.builtin id)=pure (.type "method_descriptor")) (hm:MtR X id r)
  (hg:∀ G l xs ds y d z H Q,H l=some (.lst xs)->DVs G xs ds->DV G y d->g ds d=some z->(∀ u,DV G u z->Q u H)->r (.ref l) [y] H Q)
  (hv:PE X (.Name x p1) (e_A i)) (he:FE X F E e m)
  (hbase:attributeBase (.Name x p1) nm X.env (eval (.Name x p1) X.env)=eval (.Name x p1) X.env:=by rfl)
  (hfew:((backTo cpos (starEach [e] X.env)).all (fun x=>!x.1) && (backToKw cpos (keywordEach [] X.env)).all (fun x=>x.1.isSome) && decide (([e]:List Expr).length + ([]:List Keyword).length + (if ([]:List Keyword).isEmpty then 0 else 1) < 30))=true:=by rfl)
  (hline:(apos.endLine == cpos.line)=true:=by rfl) (hs:starEach [e] X.env=(false,eval e X.env) :: starEach [] X.env:=by rfl) (hplain:(backTo cpos (starEach [] X.env)).any (·.1)=false:=by rfl) :
  FE X F E (.Call (.Attribute (.Name x p1) nm apos) [e] [] cpos) (xMt g i m):=
 ⟨a_m,(q_b PySem.F.plainAttrs_list slot hty hm hv (b_e he.pe c_w hs) hbase hfew hline hs hplain).imp fun Y H Q ⟨U,O,st,q⟩=>by
  unfold wp xMt at q
  cases h0:asL U i with
  | none=>rw [h0] at q; exact q.elim
  | some ds0=>
   rw [h0] at q
   obtain ⟨p,vs0,hv0,hH0,_⟩:=q_0 st h0
   refine ⟨_,hv0,.inl ⟨rfl,vs0,.of hH0⟩,U,O,st,a_m _ _ _ (fun d U1 q1 w H1 O1 st1 s1 d1=>?_) (a_w (m:=m) (k:=mtK g i) q)⟩
   obtain ⟨z,e1,q2⟩:=a_Y (o:=match asL U1 i with | some ds=>g ds d | none=>none) (U:=U1) (E:=E) q1
   cases h1:asL U1 i with
   | none=>rw [h1] at e1; cases e1
   | some ds1=>
    rw [h1] at e1
    obtain ⟨p',vs1,hv1,hH1,hd1⟩:=q_0 st1 h1
    rw [hv0] at hv1
    cases hv1
    exact hg _ _ _ _ _ _ _ _ _ hH1 hd1 d1 e1 fun u hu=>q2 u H1 O1 st1 s1 hu⟩
theorem u_C:∀ G l xs ds y d z H Q,H l=some (.lst xs)->DVs G xs ds->DV G y d->v_P ds d=some z->(∀ u,DV G u z->Q u H)->q_R (.ref l) [y] H Q:=fun G l xs ds y d z H Q hH hx hy e q=>by
 unfold v_P at e
 split at e
 ·rename_i ws w h1 h2
  cases e
  obtain ⟨rfl,f1⟩:=h_x hx h1
  obtain ⟨rfl,f2⟩:=j_x hy h2
  exact ⟨l,xs,y,rfl,rfl,hH,f1,f2,q _ (.int _)⟩
 ·cases e
theorem x_m:∀ G l xs ds y d z H Q,H l=some (.lst xs)->DVs G xs ds->DV G y d->ixD ds d=some z->(∀ u,DV G u z->Q u H)->r_c (.ref l) [y] H Q:=fun G l xs ds y d z H Q hH hx hy e q=>by
 unfold ixD at e
 split at e
 ·rename_i ws w h1 h2
  split at e
  ·rename_i hl
   cases e
   obtain ⟨rfl,f1⟩:=h_x hx h1
   obtain ⟨rfl,f2⟩:=j_x hy h2
   exact ⟨l,xs,y,rfl,rfl,hH,f1,f2,hl,q _ (.int _)⟩
  ·cases e
 ·cases e
end
section
variable {X:Cx} {F:Fx} {E:Str->a_r->Prop} {e a b c:Expr} {es:List Expr} {st:Stmt} {rest:List Stmt} {pos:Pos} {x:Str}
@[simp] def asO (U:a_r) (i:Nat):Option (Bool × List PyData):=match U[i]? with
 | some (some (.own io (.l ds)))=>some (io,ds)
 | _=>none
theorem o_k {U:a_r} {i:Nat} {io:Bool} {ds:List PyData} (h:asO U i=some (io,ds)):U[i]? = some (some (.own io (.l ds))):=by
 unfold asO at h
 split at h
 ·rename_i e; cases h; exact e
 ·cases h
@[simp] def w_q (i:Nat) (d:PyData):SM:=fun U1=>match asO U1 i,d with
 | some (io,ds),.list zs=>if ds.length + zs.length<=sizeLine then .nx (U1.set i (some (.own io (.l (ds ++ zs))))) else .bad
 | _,_=>.bad
@[simp] def v_K (i:Nat) (m:XM PyData):SM:=fun U=>match asO U i with
 | some _=>ofX (m U) (w_q i)
 | none=>.bad
theorem r_s {i:Nat} {m:XM PyData} {p1 apos cpos:Pos} (hv:PE X (.Name x p1) (e_A i)) (he:FE X F E e m) (hsw:swapsWith (.Call (.Attribute (.Name x p1) "extend" apos) [e] [] cpos) none pos.line X.env=pure false:=by rfl)
  (hbase:attributeBase (.Name x p1) "extend" X.env (eval (.Name x p1) X.env)=eval (.Name x p1) X.env:=by rfl)
  (hfew:((backTo cpos (starEach [e] X.env)).all (fun x=>!x.1) && (backToKw cpos (keywordEach [] X.env)).all (fun x=>x.1.isSome) && decide (([e]:List Expr).length + ([]:List Keyword).length + (if ([]:List Keyword).isEmpty then 0 else 1) < 30))=true:=by rfl)
  (hline:(apos.endLine == cpos.line)=true:=by rfl) (hs:starEach [e] X.env=(false,eval e X.env) :: starEach [] X.env:=by rfl) (hplain:(backTo cpos (starEach [] X.env)).any (·.1)=false:=by rfl) :
  FS X F E (.Expr (.Call (.Attribute (.Name x p1) "extend" apos) [e] [] cpos) pos) (v_K i m):=
 (j_0 (q_b PySem.F.plainAttrs_list PySem.F.slot_list_extend PySem.F.type_list_extend p_e hv (b_e he.pe c_w hs) hbase hfew hline hs hplain) hsw).imp fun D Y H ⟨U,O,DD,st,q,f⟩=>by
  unfold wpS v_K at q
  cases h0:asO U i with
  | none=>rw [h0] at q; exact q.elim
  | some p0=>
   obtain ⟨io0,ds0⟩:=p0
   rw [h0] at q
   obtain ⟨p,fp,hv0,⟨_,xs,hH,_⟩,_,_⟩:=st.box (o_k h0)
   refine ⟨_,hv0,.inl ⟨rfl,xs,.of hH⟩,U,O,st,a_m _ _ _ (fun d U1 q1 w H1 O1 st1 s1 d1=>?_) (c_p (m:=m) (k:=w_q i) q)⟩
   unfold wpS w_q at q1
   cases h1:asO U1 i with
   | none=>rw [h1] at q1; exact q1.elim
   | some p1=>
    obtain ⟨io1,ds1⟩:=p1
    rw [h1] at q1
    cases d with
    | list zs=>
     simp only at q1
     obtain ⟨p',fp',hv1,⟨e1,ys,hH1,hd⟩,hO,up⟩:=st1.box (o_k h1)
     rw [hv0] at hv1; cases hv1
     subst e1
     obtain ⟨b,ws,rfl,hb,hws⟩:=d1.lst_inv
     by_cases hz:ds1.length + zs.length<=sizeLine
     ·rw [if_pos hz] at q1
      refine ⟨p,b,ys,ws,rfl,rfl,hH1,(a_F hb).1,by rw [hd.length,hws.length]; exact hz,?_⟩
      obtain ⟨O2,st2,s2,_⟩:=up (upd H1 p (.lst (ys ++ ws))) (.l (ds1 ++ zs)) [p] (fun c o hc e=>by rw [a_p (by simpa using hc)]; exact e) (by simp) (fun c hc=>.inl hc) (fun G O' s hG _=>by
       subst hG
       exact ⟨s.hid,rfl,ys ++ ws,a_A,(DVs.mono s.hid hd).append (DVs.mono s.hid hws)⟩)
      exact f.nx _ _ _ _ st2 (s1.trans s2) q1
     ·rw [if_neg hz] at q1; exact q1.elim
    | _=>exact q1.elim
def y_E (K:PySem.W.Frag):List V->Hp->VK->Prop:=fun xs H Q=>∃ a φ C w b,xs=[.ref a,w]/\H a=some (.ext φ)/\(∀ h,φ h->∃ o,h.get? a=some o/\o.cls=.ref C)/\k_L K C=true/\(clsIn K C).isSome=true/\(∀ u,b_P w u->kitOne K (.ref C) u=some b)/\Q (.bl b) H
theorem m_z:h_2 X (.builtin "isinstance") (y_E X.K):=by
 intro pins s Y H xs us Q I r h
 obtain ⟨a,φ,C,w,b,rfl,hH,hφ,at_,cl,e,q⟩:=h
 obtain ⟨u,w',rfl,r1,r2⟩:=vals2 r
 cases r1
 obtain ⟨p,_,_⟩:=(show b_6 X.prog X.w H s.heap a (.ext φ) from I.hok a _ hH)
 exact kia_one (p_z at_ cl) I.kIn (hφ _ p) (e _ r2) (fun z=>nomatch z) fun tk=>⟨.bl b,H,I.tok tk,rfl,q⟩
theorem i_8 {K:PySem.W.Frag} {C:Addr} {l:List Value} {n:String} (h:excIn K C l n=true):(clsIn K C).isSome=true:=by
 unfold excIn at h
 unfold clsIn
 split at h
 ·rename_i e; rw [e]; rfl
 ·cases h
@[simp] def asX (U:a_r) (i:Nat):Option Str:=match U[i]? with
 | some (some (.exc c))=>some c
 | _=>none
theorem q_X {U:a_r} {i:Nat} {c:Str} (h:asX U i=some c):U[i]? = some (some (.exc c)):=by
 unfold asX at h
 split at h
 ·rename_i e; cases h; exact e
 ·cases h
@[simp] def m_O (i:Nat) (l:List Str) (cls:Str):XM PyData:=fun U=>match asX U i with
 | some c=>if c ∈ l/\cls ∈ l then .ok (.bool (c == cls)) U else .bad
 | none=>.bad
@[simp] def w_S (i:Nat) (l:List Str):XM PyData:=fun U=>match asX U i with
 | some c=>if c ∈ l then .ok (.bool true) U else .bad
 | none=>.bad
theorem r_d {K:PySem.W.Frag} {mg:Str->Option Value} {H:Hp} {Y:St} {U:a_r} {O:List Addr} {i:Nat} {c:Str} {C:Addr} (st:DSt K F H Y U O) (h:U[i]? = some (some (.exc c))) (ec:EC K mg c C):∃ a φ,Y[i]? = some (some (.ref a))/\H a=some (.ext φ)/\∀ h,φ h->∃ o,h.get? a=some o/\o.cls=.ref C:=by
 obtain ⟨W,h',rfl⟩:=st
 obtain ⟨v,fp,h1,h2,a,φ,rfl,h3,h4⟩:=h'.at_ i _ h
 refine ⟨a,φ,h1,(a_F h3).1,fun h p=>?_⟩
 obtain ⟨C',o,e1,e2,e3⟩:=h4 h p
 rw [ec.ns] at e1
 cases e1
 exact ⟨o,e2,e3⟩
theorem e_3 {l:List Str} {D:Addr} {i:Nat} {cls:Str} {p p1 p2:Pos} (xt:XT X.K X.mg l D) (hgi:Gl X "isinstance") (hmi:X.mg "isinstance" = none) (hv:PE X (.Name x p1) (e_A i)) (hgc:Gl X cls) (hcl:cls ∈ l) (hdb:(cls == ("__debug__":Str))=false:=by decide)
  (he:starEach [.Name x p1,.Name cls p2] X.env=(false,eval (.Name x p1) X.env) :: starEach [.Name cls p2] X.env:=by rfl) (he2:starEach [.Name cls p2] X.env=(false,eval (.Name cls p2) X.env) :: starEach [] X.env:=by rfl) (hpl:(backTo pos (starEach [.Name cls p2] X.env)).any (·.1)=false:=by rfl) :
  FE X F E (.Call (.Name "isinstance" p) [.Name x p1,.Name cls p2] [] pos) (m_O i l cls):=by
 obtain ⟨D',ed,_⟩:=xt.at_ hcl
 refine ⟨a_m,(f_v m_z hgi hmi (show bootBuiltins "isinstance" = some (.builtin "isinstance") by decide +kernel) (b_e hv (b_e (p_i (v:=.ref D') hgc ed.mg rfl hdb) c_w he2) he) (by decide) (by decide) he hpl).imp fun Y H Q ⟨U,O,st,q⟩=>?_⟩
 unfold wp m_O at q
 cases h0:asX U i with
 | none=>rw [h0] at q; exact q.elim
 | some c=>
  rw [h0] at q
  by_cases hc:c ∈ l/\cls ∈ l
  ·simp only [if_pos hc] at q
   obtain ⟨C,ec,_,at_,_,tb⟩:=xt.at_ hc.1
   obtain ⟨D2,m2,n2,k2⟩:=tb cls hc.2
   have eD:D2=D':=by have:=ed.mg.symm.trans m2; cases this; rfl
   subst eD
   obtain ⟨a,φ,h1,h2,h3⟩:=r_d st (q_X h0) ec
   exact ⟨_,h1,a,φ,C,.ref D2,_,rfl,h2,h3,at_,i_8 ec.ex,fun u ru=>by cases ru; exact k2,q _ H O st .refl (.bl _)⟩
  ·simp only [if_neg hc] at q
theorem v_t {l:List Str} {D:Addr} {i:Nat} {p p1 p2:Pos} (xt:XT X.K X.mg l D) (hgi:Gl X "isinstance") (hmi:X.mg "isinstance" = none) (hv:PE X (.Name x p1) (e_A i)) (hgc:Gl X "ValueError") (hmc:X.mg "ValueError" = none)
  (he:starEach [.Name x p1,.Name "ValueError" p2] X.env=(false,eval (.Name x p1) X.env) :: starEach [.Name "ValueError" p2] X.env:=by rfl) (he2:starEach [.Name "ValueError" p2] X.env=(false,eval (.Name "ValueError" p2) X.env) :: starEach [] X.env:=by rfl) (hpl:(backTo pos (starEach [.Name "ValueError" p2] X.env)).any (·.1)=false:=by rfl) :
  FE X F E (.Call (.Name "isinstance" p) [.Name x p1,.Name "ValueError" p2] [] pos) (w_S i l):=by
 refine ⟨a_m,(f_v m_z hgi hmi (show bootBuiltins "isinstance" = some (.builtin "isinstance") by decide +kernel) (b_e hv (b_e (e_F (v:=.ty "ValueError") hgc hmc (show bootBuiltins "ValueError" = some (.type "ValueError") by decide +kernel) rfl) c_w he2) he) (by decide) (by decide) he hpl).imp fun Y H Q ⟨U,O,st,q⟩=>?_⟩
 unfold wp w_S at q
 cases h0:asX U i with
 | none=>rw [h0] at q; exact q.elim
 | some c=>
  rw [h0] at q
  by_cases hc:c ∈ l
  ·simp only [if_pos hc] at q
   obtain ⟨C,ec,_,at_,k2,tb⟩:=xt.at_ hc
   obtain ⟨a,φ,h1,h2,h3⟩:=r_d st (q_X h0) ec
   exact ⟨_,h1,a,φ,C,.ty "ValueError",_,rfl,h2,h3,at_,i_8 ec.ex,fun u ru=>by cases ru; exact k2,q _ H O st .refl (.bl _)⟩
  ·simp only [if_neg hc] at q
end
section
variable {X:Cx} {F:Fx} {E:Str->a_r->Prop} {e a b c:Expr} {es:List Expr} {st:Stmt} {rest:List Stmt} {pos:Pos} {x:Str} {ma mb mc:XM PyData}
@[simp] def h_G:=gI fun i j=>.int (i + j)
@[simp] def p_q:=gI fun i j=>.int (i - j)
@[simp] def r_j:=gIC q_D fun i j=>.int (i * j)
@[simp] def x_E:=gIC v_G fun i j=>.int (i / j)
@[simp] def t_a:=gIC t_b fun i j=>.int (i % j)
@[simp] def gLt:=gI fun i j=>.bool (decide (i < j))
@[simp] def gLe:=gI fun i j=>.bool (decide (i<=j))
@[simp] def gGt:=gI fun i j=>.bool (decide (j < i))
theorem b_X (ha:FE X F E a ma) (hb:FE X F E b mb):FE X F E (.BinOp a .Add b pos) (xOp h_G ma mb):=f_O r_e (t_B ha hb)
theorem h_Q (ha:FE X F E a ma) (hb:FE X F E b mb):FE X F E (.BinOp a .Sub b pos) (xOp p_q ma mb):=f_O r_e (t_4 ha hb)
theorem i_A (ha:FE X F E a ma) (hb:FE X F E b mb):FE X F E (.BinOp a .Mult b pos) (xOp r_j ma mb):=f_O (r_K s_W) (u_i ha hb)
theorem v_c (ha:FE X F E a ma) (hb:FE X F E b mb):FE X F E (.BinOp a .FloorDiv b pos) (xOp x_E ma mb):=f_O (r_K r_T) (t_s ha hb)
theorem l_c (ha:FE X F E a ma) (hb:FE X F E b mb):FE X F E (.BinOp a .Mod b pos) (xOp t_a ma mb):=f_O (r_K s_t) (v_f ha hb)
theorem n_X (ha:FE X F E a ma) (hb:FE X F E b mb):FE X F E (.BinOp a .Add b pos) (xOp m_7 ma mb):=f_O r_u (u_M ha hb)
theorem v_z (ha:FE X F E a ma) (hb:FE X F E b mb):FE X F E (.BinOp a .Mult b pos) (xOp v_I ma mb):=f_O t_8 (t_7 ha hb)
theorem u_d (ha:FE X F E a ma) (hb:FE X F E b mb):FE X F E (.Compare a [.Lt] [b] pos) (xOp gLt ma mb):=f_O r_e (v_5 ha hb)
theorem v_p (ha:FE X F E a ma) (hb:FE X F E b mb):FE X F E (.Compare a [.LtE] [b] pos) (xOp gLe ma mb):=f_O r_e (w_G ha hb)
theorem w_p (ha:FE X F E a ma) (hb:FE X F E b mb):FE X F E (.Compare a [.Gt] [b] pos) (xOp gGt ma mb):=f_O r_e (v_7 ha hb)
theorem o_F (ha:FE X F E a ma) (hb:FE X F E b mb):FB X F E (.Compare a [.Lt] [b] pos) (b_A (xOp gLt ma mb)):=k_I r_e (w_W ha hb)
theorem w_O (ha:FE X F E a ma) (hb:FE X F E b mb):FB X F E (.Compare a [.LtE] [b] pos) (b_A (xOp gLe ma mb)):=k_I r_e (w_a ha hb)
theorem q_r (ha:FE X F E a ma) (hb:FE X F E b mb):FB X F E (.Compare a [.Gt] [b] pos) (b_A (xOp gGt ma mb)):=k_I r_e (w_u ha hb)
theorem l_K (hu:X.A.units + 64 < cLine) (ha:FE X F E a ma) (hb:FE X F E b mb):FE X F E (.Compare a [.Eq] [b] pos) (xOp (gEq false) ma mb):=f_O q_n (w_U hu ha hb)
theorem v_Z (hu:X.A.units + 64 < cLine) (ha:FE X F E a ma) (hb:FE X F E b mb):FE X F E (.Compare a [.NotEq] [b] pos) (xOp (gEq true) ma mb):=f_O q_n (v_U hu ha hb)
theorem f_w (hu:X.A.units + 64 < cLine) (ha:FE X F E a ma) (hb:FE X F E b mb):FB X F E (.Compare a [.Eq] [b] pos) (b_A (xOp (gEq false) ma mb)):=k_I q_n (x_g hu ha hb)
theorem m_6 (hu:X.A.units + 64 < cLine) (ha:FE X F E a ma) (hb:FE X F E b mb):FB X F E (.Compare a [.NotEq] [b] pos) (b_A (xOp (gEq true) ma mb)):=k_I q_n (v_W hu ha hb)
theorem t_t (ha:FE X F E a ma) (hb:FE X F E b mb):FE X F E (.Compare a [.Is] [b] pos) (xOp gIs ma mb):=f_O v_l (u_S ha hb)
theorem l_O (ha:FE X F E a ma) (hb:FE X F E b mb):FE X F E (.Compare a [.IsNot] [b] pos) (xOp e_Q ma mb):=f_O m_j (i_r n_2 o_3 ha hb (nomark _))
theorem r_h (ha:FE X F E a ma) (hb:FE X F E b mb):FB X F E (.Compare a [.Is] [b] pos) (b_A (xOp gIs ma mb)):=k_I v_l (t_n ha hb)
theorem j_Y (ha:FE X F E a ma) (hb:FE X F E b mb):FB X F E (.Compare a [.IsNot] [b] pos) (b_A (xOp e_Q ma mb)):=k_I m_j (r_S ha hb)
theorem s_v (ha:FE X F E a ma) (hb:FE X F E b mb) (hc:FE X F E c mc) (hm:lastMarks [.LtE,.LtE] [b,c]=false:=by with_unfolding_all rfl):FE X F E (.Compare a [.LtE,.LtE] [b,c] pos) (o_4 (fun i j=>decide (i<=j)) (fun i j=>decide (i<=j)) ma mb mc):=q_k (r_7 ha hb hc hm)
@[simp] def a_T:PyData->PyData->Option PyData:=fun x y=>match x,y with
 | .tuple ds,.int i=>atI ds i
 | .list ds,.int i=>atI ds i
 | _,_=>none
def x_Z:D2:=fun x y Q=>y_d x y Q\/x_5 x y Q
theorem x_j {K:PySem.W.Frag}:Op2 (fun x y H Q=>w_6 K x y H Q\/w_C K x y H Q) x_Z where
 mn:=fun x y Q Q' k h=>h.imp (u_4 (K:=K).mn x y Q Q' k) (t_1 (K:=K).mn x y Q Q' k)
 ok:=fun O H u v x y Q hO h1 h2 h=>h.imp (u_4.ok O H u v x y Q hO h1 h2) (t_1.ok O H u v x y Q hO h1 h2)
theorem v_q:F2 x_Z a_T:=fun x y d Q e q=>by
 unfold a_T at e
 split at e
 ·exact .inl ⟨_,_,_,rfl,rfl,e,q⟩
 ·exact .inr ⟨_,_,_,rfl,rfl,e,q⟩
 ·cases e
theorem a_x (ha:FE X F E a ma) (hb:FE X F E b mb) (hs:h_7 b:=by intro _ _; rfl):FE X F E (.Subscript a b pos) (xOp a_T ma mb):=f_O v_q (w_Q (IxR.or u_Z l_w) x_j ha hb hs)
end
def o_Y:Expr->Bool
 | .Starred ..=>true
 | _=>false
theorem l_P {e:Expr} {es:List Expr} {env:Env} (h:o_Y e=false):starEach (e :: es) env=(false,eval e env) :: starEach es env:=by
 cases e <;> first | rfl | cases h
section
variable {X:Cx} {F:Fx} {E:Str->a_r->Prop} {e a b c:Expr} {es:List Expr} {pos:Pos} {x:Str}
theorem a_D {ma:XM PyData} {mr:XM (List PyData)} (ha:FE X F E e ma) (hr:FA X F E es mr) (hs:o_Y e=false:=by rfl):FA X F E (e :: es) (a_f ma mr):=s_u ha hr (l_P hs)
theorem a_v {ma:XM PyData} {mr:XM (List AX)} (ha:FE X F E e ma) (hr:FX X F E es mr) (hs:o_Y e=false:=by rfl):FX X F E (e :: es) (a_s ma mr):=u_F ha hr (l_P hs)
theorem b_p {p:Pos} {j:Nat} {mr:XM (List AX)} (hv:PE X (.Name x p) (e_A j)) (hr:FX X F E es mr):FX X F E (.Name x p :: es) (a_t j mr):=r_9 hv hr (l_P rfl)
end
def a_3 (f:Str) (v:Fl):List (Str × Fl)->List (Str × Fl)
 | []=>[(f,v)]
 | (g,x) :: r=>if g=f then (g,v) :: r else (g,x) :: a_3 f v r
def b_G:Option Fl->Bool
 | none=>true
 | some (.d _)=>true
 | _=>false
def d_H (C:Addr) (U:a_r) (i:Nat):Option (Bool × List (Str × Fl)):=match U[i]? with
 | some (some (.own io (.o C' fs)))=>if C' = C then some (io,fs) else none
 | _=>none
theorem f_e {C:Addr} {U:a_r} {i:Nat} {io:Bool} {fs:List (Str × Fl)} (h:d_H C U i=some (io,fs)):U[i]? = some (some (.own io (.o C fs))):=by
 unfold d_H at h
 split at h
 ·rename_i e
  split at h
  ·rename_i hc; cases h; rw [e,hc]
  ·cases h
 ·cases h
section
variable {G H:Hp}
theorem g_x {gs:List (Str × V)} {fs:List (Str × Fl)} {fps:List (List Addr)} (h:FlsAt G H gs fs fps) (f:Str):(gs.lookup f=none/\fs.lookup f=none)\/∃ v x fp,gs.lookup f=some v/\fs.lookup f=some x/\m_v G H v x fp/\fp ∈ fps:=by
 induction h with
 | nil=>exact .inl ⟨rfl,rfl⟩
 | @cons n v x fp gs fs fps h1 h2 ih=>
  by_cases e:f=n
  ·subst e
   exact .inr ⟨v,x,fp,by simp [List.lookup],by simp [List.lookup],h1,List.mem_cons_self⟩
  ·have e':(f == n)=false:=by simpa using e
   rw [List.lookup_cons,List.lookup_cons,e']
   rcases ih with q | ⟨v',x',fp',q1,q2,q3,q4⟩
   ·exact .inl q
   ·exact .inr ⟨v',x',fp',q1,q2,q3,List.mem_cons_of_mem _ q4⟩
end
theorem t_J {α:Type}:∀ {W:List (List α)} {i:Nat} {l:List α},W.flatten.Nodup->W[i]? = some l->l.Nodup
 | w :: W,0,l,nd,h=>by
  simp only [List.getElem?_cons_zero,Option.some.injEq] at h
  subst h
  rw [List.flatten_cons] at nd
  exact (List.nodup_append.mp nd).1
 | w :: W,i + 1,l,nd,h=>by
  rw [List.flatten_cons] at nd
  exact t_J (List.nodup_append.mp nd).2.1 (by simpa using h)
theorem DSt.boxN {K:PySem.W.Frag} {F:Fx} {H:Hp} {Y:St} {U:a_r} {O:List Addr} (st:DSt K F H Y U O) {i:Nat} {io:Bool} {b:Bx} (e:U[i]? = some (some (.own io b))):∃ a fp,Y[i]? = some (some (.ref a))/\g_m (hide O H) H a b fp/\(∀ c ∈ fp,c ∈ O)/\fp.Nodup/\
  ∀ (H':Hp) (b':Bx) (fp':List Addr),(∀ c o,c ∉ fp->H c=some o->H' c=some o)->fp'.Nodup->(∀ c ∈ fp',c ∈ fp\/H c=none)->(∀ G,(∀ O',Stp O H O' H'->G=hide O' H'->(∀ c ∈ fp',c ∈ O')->e_W (hide O H) G/\g_m G H' a b' fp'))->
   ∃ O',DSt K F H' Y (U.set i (some (.own io b'))) O'/\Stp O H O' H'/\(∀ c ∈ O',c ∈ fp'\/c ∈ O):=by
 obtain ⟨W,st,rfl⟩:=st
 obtain ⟨v,fp,h1,h2,a,rfl,h3⟩:=st.at_ i _ e
 have hi:i < U.length:=(List.getElem?_eq_some_iff.mp e).1
 have hiW:i < W.length:=by rw [st.lw]; exact hi
 refine ⟨a,fp,h1,h3,fun c hc=>List.mem_append_left _ (a_g h2 hc),(t_J (List.nodup_append.mp st.nd).1 h2),fun H' b' fp' keep nd fr hb=>?_⟩
 have ndW:W.flatten.Nodup:=(List.nodup_append.mp st.nd).1
 have nO:∀ c ∈ fp,c ∉ F.O₀:=fun c hc z=>(List.nodup_append.mp st.nd).2.2 c (a_g h2 hc) c z rfl
 have kj:∀ j l c,j ≠ i->W[j]? = some l->c ∈ l->H' c=H c:=fun j l c hj ej hc=>by
  obtain ⟨o,eo,_⟩:=st.live c (List.mem_append_left _ (a_g ej hc))
  rw [eo]
  exact keep c o (fun z=>d_D ndW ej h2 hj hc z) eo
 have kO:∀ c ∈ F.O₀,H' c=H c:=fun c hc=>by
  obtain ⟨o,eo,_⟩:=st.live c (List.mem_append_right _ hc)
  rw [eo]
  exact keep c o (fun z=>nO c z hc) eo
 have ap:∀ c ∈ fp',(∀ j l,j ≠ i->W[j]? = some l->c ∉ l)/\c ∉ F.O₀:=fun c hc=>by
  rcases fr c hc with q | q
  ·exact ⟨fun j l hj ej z=>d_D ndW h2 ej (Ne.symm hj) q z,nO c q⟩
  ·refine ⟨fun j l _ ej z=>?_,fun z=>?_⟩
   ·obtain ⟨o,eo,_⟩:=st.live c (List.mem_append_left _ (a_g ej z)); rw [q] at eo; cases eo
   ·obtain ⟨o,eo,_⟩:=st.live c (List.mem_append_right _ z); rw [q] at eo; cases eo
 have frz:∀ c o,c ∉ W.flatten ++ F.O₀->H c=some o->H' c=some o:=fun c o hc ec=>keep c o (fun z=>hc (List.mem_append_left _ (a_g h2 z))) ec
 have stp:Stp (W.flatten ++ F.O₀) H ((W.set i fp').flatten ++ F.O₀) H':=⟨frz,fun c h=>by
  rcases List.mem_append.mp h with h | h
  ·rcases a_E h with h | ⟨j,l,_,ej,hl⟩
   ·exact (fr c h).imp (fun z=>List.mem_append_left _ (a_g h2 z)) id
   ·exact .inl (List.mem_append_left _ (a_g ej hl))
  ·exact .inl (List.mem_append_right _ h)⟩
 have inO':∀ c ∈ fp',c ∈ (W.set i fp').flatten ++ F.O₀:=fun c hc=>List.mem_append_left _ (f_5 hiW hc)
 have hbx:=(hb _ _ stp rfl inO').2
 obtain ⟨s1,s2⟩:=st.put (H':=H') (i:=i) (v:=.ref a) (c:=.own io b') (fp:=fp') hi kj kO frz nd ap (fun c hc=>(fr c hc).imp (fun z=>a_g h2 z) id) (fun c hc=>hbx.live c hc) (fun _=>⟨a,rfl,hbx⟩) (fun b2 z=>by cases z; have:=st.io i b e; rw [h1] at this; exact (Option.some.inj (Option.some.inj this)))
 have eY:Y.set i (some (.ref a))=Y:=by
  apply List.ext_getElem?
  intro j
  by_cases hj:j=i
  ·subst hj; rw [List.getElem?_set_self (List.getElem?_eq_some_iff.mp h1).1,h1]
  ·rw [List.getElem?_set_ne (Ne.symm hj)]
 rw [eY] at s1
 refine ⟨_,⟨_,s1,rfl⟩,s2,fun c hc=>?_⟩
 rcases List.mem_append.mp hc with hc | hc
 ·rcases a_E hc with hc | ⟨j,l,_,ej,hl⟩
  ·exact .inl hc
  ·exact .inr (List.mem_append_left _ (a_g ej hl))
 ·exact .inr (List.mem_append_right _ hc)
theorem FlsAt.len {G H:Hp} {gs:List (Str × V)} {fs:List (Str × Fl)} {fps:List (List Addr)} (h:FlsAt G H gs fs fps):gs.length=fs.length:=by
 induction h with
 | nil=>rfl
 | cons _ _ ih=>simp [ih]
theorem FlsAt.putD {G G' H H':Hp} {gs:List (Str × V)} {fs:List (Str × Fl)} {fps:List (List Addr)} {f:Str} {v:V} {d:PyData} (h:FlsAt G H gs fs fps) (hp:b_G (fs.lookup f)=true) (hd:DV G' v d) (g:e_W G G') (k:∀ c ∈ fps.flatten,H' c=H c) :
  FlsAt G' H' (f_1 f v gs) (a_3 f (.d d) fs) (if (fs.lookup f).isSome=true then fps else fps ++ [[]]):=by
 induction h with
 | nil=>exact .cons ⟨rfl,hd⟩ .nil
 | @cons n w x fp gs fs fps h1 h2 ih=>
  unfold f_1 a_3
  by_cases e:n=f
  ·subst e
   have hl:List.lookup n ((n,x) :: fs)=some x:=by simp [List.lookup]
   rw [hl] at hp ⊢
   rw [if_pos rfl,if_pos rfl]
   have h2':=h2.keep (H':=H') (fun c hc=>k c (by simp only [List.flatten_cons,List.mem_append]; exact .inr hc)) g
   cases x with
   | d y=>
    obtain ⟨rfl,_⟩:=h1
    exact .cons ⟨rfl,hd⟩ h2'
   | l ds=>cases hp
   | m tk kvs=>cases hp
  ·have e':(f == n)=false:=by simpa using fun z=>e z.symm
   rw [List.lookup_cons,e'] at hp ⊢
   rw [if_neg e,if_neg e]
   have h1':=h1.keep (H':=H') (fun c hc=>k c (by simp only [List.flatten_cons,List.mem_append]; exact .inl hc)) g
   have ih':=ih hp fun c hc=>k c (by simp only [List.flatten_cons,List.mem_append]; exact .inr hc)
   simp only at ih' ⊢
   split
   ·rename_i q; rw [if_pos q] at ih'; exact .cons h1' ih'
   ·rename_i q; rw [if_neg q] at ih'; exact .cons h1' ih'
section
variable {X:Cx} {F:Fx} {E:Str->a_r->Prop} {e a b c:Expr} {es:List Expr} {st:Stmt} {pos p1:Pos} {x f:Str} {C:Addr} {i:Nat}
def e_v (C:Addr) (i:Nat) (f:Str):XM PyData:=fun U=>match d_H C U i with
 | some (_,fs)=>(match fs.lookup f with
  | some (.d d)=>.ok d U
  | _=>.bad)
 | none=>.bad
theorem a_0 (cl:Cls X.K C) (na:b_a X.K C f) (hv:PE X (.Name x p1) (e_A i)) (hb:attributeBase (.Name x p1) f X.env (eval (.Name x p1) X.env)=eval (.Name x p1) X.env:=by rfl):FE X F E (.Attribute (.Name x p1) f pos) (e_v C i f):=
 ⟨a_m,(h_O hv hb).imp fun Y H Q ⟨U,O,st,q⟩=>by
  unfold wp e_v at q
  cases ho:d_H C U i with
  | none=>rw [ho] at q; exact q.elim
  | some p=>
   obtain ⟨io,fs⟩:=p
   rw [ho] at q
   simp only at q
   obtain ⟨a0,fp,hv0,⟨dx,gs,fps,e1,e2,e3,e4⟩,_,_⟩:=st.box (f_e ho)
   rcases g_x e4 f with ⟨l1,l2⟩ | ⟨v,y,fp',l1,l2,l3,_⟩
   ·rw [l2] at q; exact q.elim
   ·rw [l2] at q
    cases y with
    | d d=>exact ⟨_,hv0,a0,C,dx,gs,v,rfl,e2,cl,na,l1,q v H O st (.refl ..) l3.2⟩
    | l ds=>exact q.elim
    | m tk kvs=>exact q.elim⟩
def k_K (C:Addr) (i:Nat) (f:Str) (d:PyData):SM:=fun U=>match d_H C U i with
 | some (io,fs)=>if fs.length < 1000/\b_G (fs.lookup f)=true then .nx (U.set i (some (.own io (.o C (a_3 f (.d d) fs))))) else .bad
 | none=>.bad
def b_F (C:Addr) (i:Nat) (f:Str) (m:XM PyData):SM:=fun U=>ofX (m U) (k_K C i f)
theorem b_1 {m:XM PyData} {pos':Pos} (cl:Cls X.K C) (na:b_a X.K C f) (hv:PE X (.Name x p1) (e_A i)) (he:FE X F E e m) (hs:swapsWith e (some (.Attribute (.Name x p1) f pos')) pos.line X.env=pure false:=by rfl):FS X F E (.Assign [.Attribute (.Name x p1) f pos'] e pos) (b_F C i f m):=
 (m_s hv he.pe hs).imp fun D Y H ⟨U,O,DD,st,q,fD⟩=>⟨U,O,st,a_m _ _ _ (fun d U1 q1 vy H1 O1 st1 s1 d1=>by
  unfold wpS k_K at q1
  cases ho:d_H C U1 i with
  | none=>rw [ho] at q1; exact q1.elim
  | some p=>
   obtain ⟨io,fs⟩:=p
   rw [ho] at q1
   simp only at q1
   by_cases hc:fs.length < 1000/\b_G (fs.lookup f)=true
   ·rw [if_pos hc] at q1
    obtain ⟨a0,fp,hv0,⟨dx,gs,fps,e1,e2,e3,e4⟩,hO,nd,up⟩:=st1.boxN (f_e ho)
    subst e1
    obtain ⟨ndx,_⟩:dx ≠ a0/\True:=⟨fun z=>by subst z; simp at nd,trivial⟩
    refine ⟨_,hv0,a0,C,dx,gs,rfl,e2,cl,na,by rw [e4.len]; exact hc.1,?_⟩
    obtain ⟨O3,st3,s3,_⟩:=up (upd H1 a0 (.ins C dx (f_1 f vy gs))) (.o C (a_3 f (.d d) fs)) (a0 :: dx :: fps.flatten) (fun c o hcn e=>by rw [a_p (fun z=>hcn (by simp [z]))]; exact e) nd (fun c hc=>.inl hc) (fun G O' s hG _=>by
     subst hG
     refine ⟨s.hid,dx,f_1 f vy gs,if (fs.lookup f).isSome=true then fps else fps ++ [[]],?_,a_A,by rw [a_p ndx]; exact e3,?_⟩
     ·split
      ·rfl
      ·simp
     ·refine e4.putD hc.2 (DV.mono s.hid d1) s.hid fun c hc=>a_p (fun z=>?_)
      subst z
      exact absurd hc (by
       have:=(List.nodup_cons.mp nd).1
       exact fun w=>this (List.mem_cons_of_mem _ w)))
    exact fD.nx _ _ _ _ st3 (s1.trans s3) q1
   ·rw [if_neg hc] at q1; exact q1.elim) (c_p (m:=m) (k:=k_K C i f) q)⟩
end
section
variable {X:Cx} {F:Fx} {E:Str->a_r->Prop} {e:Expr} {es:List Expr} {pos p1 apos p:Pos} {x m:Str} {C:Addr} {i:Nat} {k:Nat} {g:Addr} {fd:FuncData} {ps:List Str} {f:FM} {mX:XM (List AX)}
theorem m_k {as:List AX} {U1:a_r} {Q:Cell->a_r->Prop} (q1:wp E (l_F f as) U1 Q):d_J f E Q as U1:=by
 unfold wp l_F at q1
 unfold d_J
 cases ha:b_U U1 as with
 | none=>rw [ha] at q1; exact q1
 | some p=>
  obtain ⟨cs,js⟩:=p
  rw [ha] at q1
  simp only at q1 ⊢
  cases hf:f cs with
  | rt c outs=>rw [hf] at q1; exact q1
  | ex c outs=>rw [hf] at q1; exact q1
  | bad=>rw [hf] at q1; exact q1
def b_m (f:FM) (i:Nat) (as:List AX):XM Cell:=l_F f (.s i :: as)
def a_J (C:Addr) (i:Nat) (m:Str) (f:FM) (mX:XM (List AX)):XM Cell:=fun U=>match d_H C U i with
 | some (_,fs)=>if fs.lookup m=none then (mX U).bind (b_m f i) else .bad
 | none=>.bad
theorem s_K {pl:Sem Bool} (hx:XOk X F E) (cl:Cls X.K C) (hm:Meth X.K C m g) (G:FnOk X.prog X.w X.K X.mg X.base (CXM X.prog X.w) k g fd ps (spF X.K X.mg f)) (hr:Room k X.A) (hb:h_t X.K fd ps []) (hv:PE X (.Name x p1) (e_A i)) (ha:FX X F E (e :: es) mX)
  (hst:starEach (e :: es) X.env=(false,eval e X.env) :: starEach es X.env:=by rfl) (hpl:(backTo pos (starEach es X.env)).any (·.1)=false:=by rfl)
  (ht:eval (.Call (.Attribute (.Name x p1) m apos) (e :: es) [] pos) X.env=(do
   let ov <-eval (.Name x p1) X.env
   standAt apos.atName
   let (f,first) <-holding [ov] (getMethod ov m pl)
   callWith pos f first (backTo pos (starEach (e :: es) X.env)) (backToKw pos (keywordEach [] X.env))):=by rfl) :
  FO X F E (.Call (.Attribute (.Name x p1) m apos) (e :: es) [] pos) (a_J C i m f mX):=by
 refine ⟨a_m,fun pins s Y H Q I ⟨U,O,st,q⟩=>?_⟩
 unfold wp a_J at q
 cases ho:d_H C U i with
 | none=>rw [ho] at q; exact q.elim
 | some p=>
  obtain ⟨io,fs⟩:=p
  rw [ho] at q
  simp only at q
  by_cases hl:fs.lookup m=none
  ·rw [if_pos hl] at q
   obtain ⟨a0,fp,hv0,⟨dx,gs,fps,e1,e2,e3,e4⟩,_,_⟩:=st.box (f_e ho)
   have hg:gs.lookup m=none:=by
    rcases g_x e4 m with ⟨l1,_⟩ | ⟨_,_,_,_,l2,_⟩
    ·exact l1
    ·rw [hl] at l2; cases l2
   refine PySem.W.methodCall_KW (pl:=pl) (thn (hv pins s Y H (fun v H1=>v=.ref a0/\H1=H) I ⟨_,hv0,rfl,rfl⟩) fun u s1 ⟨v,H1,I1,rx,ex,eH⟩=>?_) ht
   subst ex eH
   obtain rfl:u=Value.ref a0:=rx
   refine i_X I1 e2 cl hm hg ?_
   have q':=a_w (E:=E) (m:=mX) (k:=b_m f i) (U:=U) q
   refine PySem.W.callWith_K (first:=[.ref a0]) (h₀:=X.base) I.ok.mod.kin hm.kp (thn (ha.pa pos pins s1 Y H1 (fun vs H2=>∃ as U1 O1,DSt X.K F H2 Y U1 O1/\Stp O H1 O1 H2/\AxAt Y (hide O1 H2) vs as/\d_J f E (fun c U'=>∀ v H' O' fp,Res X.K F H' Y U' O' v c fp->Stp O H1 O' H'->Q v H') (.s i :: as) U1) I1 ⟨U,O,st,ha.mn _ _ _ (fun as U1 q1 vs H2 O1 st1 s1 ax=>⟨as,U1,O1,st1,s1,ax,m_k q1⟩) q'⟩) fun us s2 ⟨vs,H2,I2,r,as,U1,O1,st1,s01,ax,q1⟩=>⟨I2.kIn,?_⟩) hst hpl
   exact l_E hx G hr hb I2 (vs:=V.ref a0 :: vs) (us:=Value.ref a0 :: us) (.cons (show b_P (.ref a0) (.ref a0) from rfl) r) st1 (AxAt.s hv0 ax) q1 fun c U' h v H' O' fp res s2=>h v H' O' fp res (s01.trans s2)
  ·rw [if_neg hl] at q; exact q.elim
def b_z (C:Addr) (i:Nat) (m:Str) (f:FM):XM Cell:=fun U=>match d_H C U i with
 | some (_,fs)=>if fs.lookup m=none then l_F f [.s i] U else .bad
 | none=>.bad
theorem p_B {pl:Sem Bool} (hx:XOk X F E) (cl:Cls X.K C) (hm:Meth X.K C m g) (G:FnOk X.prog X.w X.K X.mg X.base (CXM X.prog X.w) k g fd ps (spF X.K X.mg f)) (hr:Room k X.A) (hb:h_t X.K fd ps []) (hv:PE X (.Name x p1) (e_A i))
  (ht:eval (.Call (.Attribute (.Name x p1) m apos) [] [] pos) X.env=(do
   let ov <-eval (.Name x p1) X.env
   standAt apos.atName
   let (f,first) <-holding [ov] (getMethod ov m pl)
   callWith pos f first (backTo pos (starEach [] X.env)) (backToKw pos (keywordEach [] X.env))):=by rfl) :
  FO X F E (.Call (.Attribute (.Name x p1) m apos) [] [] pos) (b_z C i m f):=by
 refine ⟨a_m,fun pins s Y H Q I ⟨U,O,st,q⟩=>?_⟩
 unfold wp b_z at q
 cases ho:d_H C U i with
 | none=>rw [ho] at q; exact q.elim
 | some p=>
  obtain ⟨io,fs⟩:=p
  rw [ho] at q
  simp only at q
  by_cases hl:fs.lookup m=none
  ·rw [if_pos hl] at q
   obtain ⟨a0,fp,hv0,⟨dx,gs,fps,e1,e2,e3,e4⟩,_,_⟩:=st.box (f_e ho)
   have hg:gs.lookup m=none:=by
    rcases g_x e4 m with ⟨l1,_⟩ | ⟨_,_,_,_,l2,_⟩
    ·exact l1
    ·rw [hl] at l2; cases l2
   refine PySem.W.methodCall_KW (pl:=pl) (thn (hv pins s Y H (fun v H1=>v=.ref a0/\H1=H) I ⟨_,hv0,rfl,rfl⟩) fun u s1 ⟨v,H1,I1,rx,ex,eH⟩=>?_) ht
   subst ex eH
   obtain rfl:u=Value.ref a0:=rx
   refine i_X I1 e2 cl hm hg ?_
   refine PySem.W.callWith_K0 (first:=[.ref a0]) I1.kIn hm.kp ?_
   exact l_E (vs:=[V.ref a0]) (us:=[Value.ref a0]) (as:=[.s i]) hx G hr hb I1 (.cons (show b_P (.ref a0) (.ref a0) from rfl) .nil) st (AxAt.s hv0 .nil) (m_k q) fun c U' h v H' O' fp res s2=>h v H' O' fp res s2
  ·rw [if_neg hl] at q; exact q.elim
def n_d (C:Addr) (f:FM) (ds:List PyData):XM Cell:=fun U=>match f (.own true (.o C []) :: ds.map .dat) with
 | .rt (.dat .none) [b]=>.ok (.own false b) U
 | .ex c _=>.ex c U
 | _=>.bad
def o_J (C:Addr) (f:FM) (mA:XM (List PyData)):XM Cell:=fun U=>(mA U).bind (n_d C f)
theorem m_i {K:PySem.W.Frag} {H:Hp} {O:List Addr}:∀ {vs:List V} {ds:List PyData},DVs (hide O H) vs ds->ArgsAt K H O vs (ds.map .dat) (ds.map fun _=>[])
 | _,_,.nil=>.nil
 | _,_,.cons h t=>.dat h (m_i t)
theorem m_f {H:Hp} {O:List Addr} {a:Addr} {b:Bx}:∀ {ds:List PyData} {vs:List V} {bs:List Bx} {fps:List (List Addr)},OutsAt H O vs (ds.map Cell.dat) bs fps->bs=[]/\fps=[]
 | [],_,_,_,.nil=>⟨rfl,rfl⟩
 | d :: ds,_,_,_,.skip _ h=>m_f (a:=a) (b:=b) h
theorem j_c {α β:Type}:∀ l:List α,(l.map fun _=>([]:List β)).flatten=[]
 | []=>rfl
 | _ :: r=>by simp [j_c r]
theorem o_7 {mA:XM (List PyData)} (hx:XOk X F E) (M:Mk X.K C g) (G:FnOk X.prog X.w X.K X.mg X.base (CXM X.prog X.w) k g fd ps (spF X.K X.mg f)) (hr:Room (k + 1) X.A) (hg:Gl X x) (hm:X.mg x=some (.ref C)) (hb:h_t X.K fd ps []) (ha:FA X F E (e :: es) mA)
  (hdb:(x == ("__debug__":Str))=false:=by decide) (he:starEach (e :: es) X.env=(false,eval e X.env) :: starEach es X.env:=by rfl) (hpl:(backTo pos (starEach es X.env)).any (·.1)=false:=by rfl) :
  FO X F E (.Call (.Name x p) (e :: es) [] pos) (o_J C f mA):=by
 refine ⟨a_m,fun pins s Y H Q I ⟨U,O,st,q⟩=>?_⟩
 refine wpAny_Call_Name_kw (g_V I hg hm ?_ hdb)
 have q':=a_w (E:=E) (m:=mA) (k:=n_d C f) (U:=U) q
 refine PySem.W.callWith_K (h₀:=X.base) I.ok.mod.kin M.kp (thn (ha.pa pos pins s Y H (fun vs H1=>∃ ds U1 O1,DSt X.K F H1 Y U1 O1/\Stp O H O1 H1/\DVs (hide O1 H1) vs ds/\wp E (n_d C f ds) U1 (fun c U'=>∀ v H' O' fp,Res X.K F H' Y U' O' v c fp->Stp O H O' H'->Q v H')) I ⟨U,O,st,ha.mn _ _ _ (fun ds U1 q1 vs H1 O1 st1 s1 dv=>⟨ds,U1,O1,st1,s1,dv,q1⟩) q'⟩) fun us s1 ⟨vs,H1,I1,r,ds,U1,O1,st1,s01,dv,q1⟩=>⟨I1.kIn,?_⟩) he hpl
 let EX:XK:=fun C _ H'=>∃ c U' O',X.mg c=some C/\DSt X.K F H' Y U' O'/\E c U'
 have h:∀ x dx,H1 x=none->H1 dx=none->dx ≠ x->spF X.K X.mg f (.ref x :: vs) (upd (upd H1 dx (.own x)) x (.ins C dx [])) (fun v H2=>v=.non/\Q (.ref x) H2) EX:=fun x dx h1 h2 hne=>by
  obtain ⟨W,stw,hO1⟩:=id st1
  have liv:∀ a ∈ O1,∃ o,H1 a=some o/\Mv o:=fun a h=>stw.live a (by rw [<-hO1]; exact h)
  have nx:x ∉ O1:=fun z=>by obtain ⟨o,e,_⟩:=liv x z; rw [h1] at e; cases e
  have ndx:dx ∉ O1:=fun z=>by obtain ⟨o,e,_⟩:=liv dx z; rw [h2] at e; cases e
  have ndO:O1.Nodup:=by rw [hO1]; exact stw.nd
  have up:∀ b o,H1 b=some o->upd (upd H1 dx (.own x)) x (.ins C dx []) b=some o:=fun b o e=>by
   rw [a_p (fun z=>by subst z; rw [h1] at e; cases e),a_p (fun z=>by subst z; rw [h2] at e; cases e)]; exact e
  have fl:(([x,dx] :: ds.map fun _=>([]:List Addr)).flatten ++ O1)=x :: dx :: O1:=by rw [List.flatten_cons,j_c]; rfl
  have hid:e_W (hide O1 H1) (hide (x :: dx :: O1) (upd (upd H1 dx (.own x)) x (.ins C dx []))):=fun b o e=>by
   obtain ⟨e1,n1⟩:=a_F e
   refine d_3 (up b o e1) fun z=>?_
   rcases List.mem_cons.mp z with z | z
   ·subst z; rw [h1] at e1; cases e1
   ·rcases List.mem_cons.mp z with z | z
    ·subst z; rw [h2] at e1; cases e1
    ·exact n1 z
  refine ⟨.own true (.o C []) :: ds.map .dat,[x,dx] :: ds.map fun _=>[],O1,?_,?_,?_,?_⟩
  ·rw [fl]
   exact .own ⟨dx,[],[],rfl,a_A,by rw [a_p hne,a_A],.nil⟩ (m_i (DVs.mono hid dv))
  ·rw [fl]
   refine List.nodup_cons.mpr ⟨fun z=>?_,List.nodup_cons.mpr ⟨ndx,ndO⟩⟩
   rcases List.mem_cons.mp z with z | z
   ·exact hne z.symm
   ·exact nx z
  ·rw [fl]
   intro a ha
   rcases List.mem_cons.mp ha with rfl | ha
   ·exact ⟨.ins C dx [],a_A,trivial⟩
   ·rcases List.mem_cons.mp ha with rfl | ha
    ·exact ⟨.own x,by rw [a_p hne,a_A],trivial⟩
    ·obtain ⟨o,e1,e2⟩:=liv a ha
     exact ⟨o,up a o e1,e2⟩
  ·unfold wp n_d at q1
   have hL:([x,dx] :: ds.map fun _=>([]:List Addr)).flatten=[x,dx]:=by rw [List.flatten_cons,j_c]; rfl
   have st1':DSt X.K (F.plus []) H1 Y U1 O1:=st1
   have lift:∀ (H':Hp) (L':List Addr),Beh (upd (upd H1 dx (.own x)) x (.ins C dx [])) H' [x,dx] L' O1->∃ O3,DSt X.K (F.plus L') H' Y U1 O3/\Stp O1 H1 O3 H'/\(∀ a ∈ L',a ∈ O3)/\(∀ a ∈ O3,a ∈ L'\/a ∈ O1)/\∀ a ∈ L',a ∈ F.A₀\/F.H₀ a=none:=fun H' L' bh=>by
    have new1:∀ a ∈ L',H1 a=none:=fun a ha=>by
     rcases bh.new a ha with z | z
     ·simp only [List.mem_cons,List.not_mem_nil,or_false] at z
      rcases z with rfl | rfl
      ·exact h1
      ·exact h2
     ·cases e:H1 a with
      | none=>rfl
      | some o=>rw [up a o e] at z; cases z
    obtain ⟨O3,t1,t2,t3,t4,_⟩:=st1'.swap (L':=L') (H':=H') (fun b o _ e=>bh.keep b o (fun z=>by
     simp only [List.mem_cons,List.not_mem_nil,or_false] at z
     rcases z with rfl | rfl
     ·rw [h1] at e; cases e
     ·rw [h2] at e; cases e) (up b o e)) (List.nodup_append.mp bh.nd).1 (fun a ha=>.inr (new1 a ha)) (fun a h=>by cases h) bh.live
    refine ⟨O3,t1,t2,t3,fun a ha=>(t4 a ha).imp id (·.1),fun a ha=>?_⟩
    by_cases hA:a ∈ F.A₀
    ·exact .inl hA
    ·refine .inr ?_
     cases e:F.H₀ a with
     | none=>rfl
     | some o=>have:=stw.kept a o hA e; rw [new1 a ha] at this; cases this
   cases hf:f (.own true (.o C []) :: ds.map .dat) with
   | bad=>rw [hf] at q1; exact q1
   | ex c outs=>
    rw [hf] at q1
    intro C' H' fps' hmc hou bh
    rw [hL] at bh
    obtain ⟨O3,t1,t2,t3,t4,t5⟩:=lift H' [] ⟨ndO,fun a h=>(by cases h),bh.keep,fun a h=>(by cases h)⟩
    exact ⟨c,U1,O3,hmc,t1,q1⟩
   | rt c outs=>
    rw [hf] at q1
    intro v H' fp fps' hca hou bh
    rw [hL] at bh
    match c,outs,q1 with
    | .dat .none,[b'],q1=>
     have hv:v=.non:=DV.non_inv hca
     cases hou with
     | skip hno _=>exact absurd rfl (hno _ _)
     | @own _ _ _ _ fp' _ _ _ fps0 hbx hrest=>
      obtain ⟨_,rfl⟩:=m_f (a:=0) (b:=b') hrest
      refine ⟨hv,?_⟩
      simp only [List.flatten_cons,List.flatten_nil,List.append_nil] at hbx bh
      have bh':Beh (upd (upd H1 dx (.own x)) x (.ins C dx [])) H' [x,dx] fp' O1:=⟨by
       have n1:=bh.nd
       rw [List.append_assoc] at n1
       obtain ⟨m1,m2,m3⟩:=List.nodup_append.mp n1
       exact List.nodup_append.mpr ⟨m1,ndO,fun a ha b hb=>m3 a ha b (List.mem_append_right _ hb)⟩,fun a ha=>bh.live a (List.mem_append_left _ ha),bh.keep,fun a ha=>bh.new a (List.mem_append_left _ ha)⟩
      obtain ⟨O3,t1,t2,t3,t4,t5⟩:=lift H' fp' bh'
      refine q1 (.ref x) H' O3 fp' ⟨t1,⟨x,rfl,hbx.keep (fun _ _=>rfl) (h_U fun a ha=>?_)⟩,t5⟩ (s01.trans t2)
      rcases t4 a ha with z | z
      ·exact List.mem_append_left _ (List.mem_append_left _ z)
      ·exact List.mem_append_right _ z
 have hq:=h (s1.heap.objs.size + 1) s1.heap.objs.size (I1.hok.fresh (Nat.le_succ _)) (I1.hok.fresh (Nat.le_refl _)) (Nat.ne_of_lt (Nat.lt_succ_self _))
 have I2:=Inv.made (C:=C) I1
 have r2:b_y (V.ref (s1.heap.objs.size + 1) :: vs) (Value.ref (s1.heap.objs.size + 1) :: us):=.cons rfl r
 have hl:(Value.ref (s1.heap.objs.size + 1) :: us ++ []).length=ps.length:=by
  have e:=r2.length
  rw [G.len _ _ _ _ hq] at e
  rw [List.append_nil]
  exact e.symm
 refine wpAny_call (q_w (f:=g) I1.kIn M.makes M.init (beq_iff_eq.mp M.fn) (codeAny_mono (G.run _ X.stack _ _ ⟨Value.ref (s1.heap.objs.size + 1) :: us,[]⟩ (Value.ref (s1.heap.objs.size + 1) :: us) _ _ EX (hr.make C us [])
  (I2.env0.make C us []) (by have:=hb _ (Value.ref (s1.heap.objs.size + 1) :: us) I2.kIn hl; rw [List.append_nil] at this; exact this) r2 hq) fun r s' hq'=>?_))
 cases r with
 | error e=>
  obtain ⟨a,C',H',e1,I',cv,ex,c,U',O',hmc,st',hE⟩:=I2.flies hq'
  exact hx pins Y H' s' e c U' O' ⟨I',a,C',_,_,e1,cv,ex,hmc⟩ st' hE
 | ok fl=>
  cases fl with
  | ret u=>
   obtain ⟨v,H',I3,rv,ev,q3⟩:=I2.after hq'
   subst ev
   exact ⟨rv,⟨V.ref (s1.heap.objs.size + 1),H',I3,rfl,q3⟩⟩
  | next=>exact False.elim hq'
  | brk=>exact False.elim hq'
  | cont=>exact False.elim hq'
end
def n_N:Fl->Bool
 | .d _=>false
 | _=>true
theorem u_E {G H:Hp} {v:V} {x:Fl} {fp:List Addr} (h:m_v G H v x fp) (ho:n_N x=true):∃ b,v=.ref b/\fp=[b]:=by
 cases x with
 | d _=>cases ho
 | l ds=>obtain ⟨a,xs,e1,e2,_⟩:=h; exact ⟨a,e1,e2⟩
 | m tk kvs=>obtain ⟨a,e1,e2,_⟩:=h; exact ⟨a,e1,e2⟩
theorem o_i {G H:Hp} {f:Str} {x:Fl} (ho:n_N x=true):∀ {gs:List (Str × V)} {fs:List (Str × Fl)} {fps:List (List Addr)},FlsAt G H gs fs fps->fs.lookup f=some x->fps.flatten.Nodup->
  ∃ b,gs.lookup f=some (.ref b)/\m_v G H (.ref b) x [b]/\b ∈ fps.flatten/\∀ (G' H':Hp) (x':Fl),e_W G G'->(∀ c ∈ fps.flatten,c ≠ b->H' c=H c)->m_v G' H' (.ref b) x' [b]->FlsAt G' H' gs (a_3 f x' fs) fps
 | _,_,_,.nil,hl,_=>by cases hl
 | (n,v) :: gs,(_,y) :: fs,fp :: fps,.cons h1 h2,hl,nd=>by
  rw [List.flatten_cons] at nd
  obtain ⟨n1,n2,n3⟩:=List.nodup_append.mp nd
  by_cases e:f=n
  ·subst e
   have hy:y=x:=by simpa [List.lookup] using hl
   subst hy
   obtain ⟨b,rfl,rfl⟩:=u_E h1 ho
   refine ⟨b,by simp [List.lookup],h1,by simp,fun G' H' x' g k hx'=>?_⟩
   unfold a_3
   rw [if_pos rfl]
   refine .cons hx' (h2.keep (fun c hc=>k c (by rw [List.flatten_cons]; exact List.mem_append_right _ hc) fun z=>?_) g)
   exact n3 b (by simp) c hc z.symm
  ·have e':(f == n)=false:=by simpa using e
   rw [List.lookup_cons,e'] at hl
   obtain ⟨b,q1,q2,q3,q4⟩:=o_i ho h2 hl n2
   refine ⟨b,by rw [List.lookup_cons,e']; exact q1,q2,by rw [List.flatten_cons]; exact List.mem_append_right _ q3,fun G' H' x' g k hx'=>?_⟩
   unfold a_3
   rw [if_neg (fun z=>e z.symm)]
   refine .cons (h1.keep (fun c hc=>k c (by rw [List.flatten_cons]; exact List.mem_append_left _ hc) fun z=>?_) g) (q4 G' H' x' g (fun c hc hne=>k c (by rw [List.flatten_cons]; exact List.mem_append_right _ hc) hne) hx')
   exact n3 c hc b q3 z
theorem DSt.fldUp {K:PySem.W.Frag} {F:Fx} {H:Hp} {Y:St} {U:a_r} {O:List Addr} {C:Addr} {i:Nat} {io:Bool} {fs:List (Str × Fl)} {f:Str} {x:Fl} (st:DSt K F H Y U O) (ho:d_H C U i=some (io,fs)) (lk:fs.lookup f=some x) (hx:n_N x=true) :
  ∃ a dx gs b,Y[i]? = some (some (.ref a))/\H a=some (.ins C dx gs)/\gs.lookup f=some (.ref b)/\m_v (hide O H) H (.ref b) x [b]/\
   ∀ (o':HO) (x':Fl),Mv o'->(∀ G,e_W (hide O H) G->m_v G (upd H b o') (.ref b) x' [b])->∃ O',DSt K F (upd H b o') Y (U.set i (some (.own io (.o C (a_3 f x' fs))))) O'/\Stp O H O' (upd H b o'):=by
 obtain ⟨a,fp,hv0,⟨dx,gs,fps,e1,e2,e3,e4⟩,hO,nd,up⟩:=st.boxN (f_e ho)
 subst e1
 have nd':=nd
 rw [List.nodup_cons,List.nodup_cons] at nd'
 obtain ⟨na,ndx,nf⟩:=nd'
 obtain ⟨b,q1,q2,q3,q4⟩:=o_i hx e4 lk nf
 have ba:a ≠ b:=fun z=>na (by rw [z]; exact List.mem_cons_of_mem _ q3)
 have bd:dx ≠ b:=fun z=>ndx (by rw [z]; exact q3)
 refine ⟨a,dx,gs,b,hv0,e2,q1,q2,fun o' x' hM hf=>?_⟩
 obtain ⟨O',st',s',_⟩:=up (upd H b o') (.o C (a_3 f x' fs)) (a :: dx :: fps.flatten) (fun c o hc e=>by rw [a_p (fun z=>hc (by rw [z]; exact List.mem_cons_of_mem _ (List.mem_cons_of_mem _ q3)))]; exact e) nd (fun c hc=>.inl hc) (fun G O' s hG _=>by
  subst hG
  exact ⟨s.hid,dx,gs,fps,rfl,by rw [a_p ba]; exact e2,by rw [a_p bd]; exact e3,q4 _ _ x' s.hid (fun c _ hne=>a_p hne) (hf _ s.hid)⟩)
 exact ⟨O',st',s'⟩
section
variable {X:Cx} {F:Fx} {E:Str->a_r->Prop} {e a b c:Expr} {es:List Expr} {st:Stmt} {pos p1 apos cpos fpos:Pos} {x f:Str} {C:Addr} {i:Nat} {m:XM PyData}
def g_Y (C:Addr) (i:Nat) (f:Str) (d:PyData):SM:=fun U=>match d_H C U i with
 | some (io,fs)=>(match fs.lookup f with
  | some (.l ds)=>if ds.length < sizeLine then .nx (U.set i (some (.own io (.o C (a_3 f (.l (ds ++ [d])) fs))))) else .bad
  | _=>.bad)
 | none=>.bad
def e_V (U:a_r) (j:Nat):Option PyData:=match U[j]? with
 | some (some (.dat d))=>some d
 | _=>none
theorem f_2 {U:a_r} {j:Nat} {d:PyData} (h:e_V U j=some d):U[j]? = some (some (.dat d)):=by
 unfold e_V at h
 split at h
 ·rename_i e; cases h; exact e
 ·cases h
def f_W (C:Addr) (i:Nat) (f:Str) (j:Nat):SM:=fun U=>match e_V U j with
 | some d=>g_Y C i f d U
 | none=>.bad
theorem o_e {y:Str} {p2:Pos} {j:Nat} (cl:Cls X.K C) (na:b_a X.K C f) (hv:PE X (.Name x p1) (e_A i)) (hy:PE X (.Name y p2) (e_A j)) (hb:attributeBase (.Name x p1) f X.env (eval (.Name x p1) X.env)=eval (.Name x p1) X.env:=by rfl)
  (hsw:swapsWith (.Call (.Attribute (.Attribute (.Name x p1) f fpos) "append" apos) [.Name y p2] [] cpos) none pos.line X.env=pure false:=by rfl)
  (hbase:attributeBase (.Attribute (.Name x p1) f fpos) "append" X.env (eval (.Attribute (.Name x p1) f fpos) X.env)=eval (.Attribute (.Name x p1) f fpos) X.env:=by rfl)
  (hfew:((backTo cpos (starEach [.Name y p2] X.env)).all (fun x=>!x.1) && (backToKw cpos (keywordEach [] X.env)).all (fun x=>x.1.isSome) && decide (([.Name y p2]:List Expr).length + ([]:List Keyword).length + (if ([]:List Keyword).isEmpty then 0 else 1) < 30))=true:=by rfl)
  (hline:(apos.endLine == cpos.line)=true:=by rfl) (hs:starEach [.Name y p2] X.env=(false,eval (.Name y p2) X.env) :: starEach [] X.env:=by rfl) (hplain:(backTo cpos (starEach [] X.env)).any (·.1)=false:=by rfl) :
  FS X F E (.Expr (.Call (.Attribute (.Attribute (.Name x p1) f fpos) "append" apos) [.Name y p2] [] cpos) pos) (f_W C i f j):=
 (j_0 (q_b PySem.F.plainAttrs_list PySem.F.slot_list_append PySem.F.type_list_append k_r (h_O hv hb) (b_e hy c_w hs) hbase hfew hline hs hplain) hsw).imp fun D Y H ⟨U,O,DD,st,q,fD⟩=>by
  unfold wpS f_W at q
  cases hd':e_V U j with
  | none=>rw [hd'] at q; exact q.elim
  | some d=>
   have hd:=f_2 hd'
   rw [hd'] at q
   simp only at q
   unfold g_Y at q
   cases ho:d_H C U i with
   | none=>rw [ho] at q; exact q.elim
   | some p=>
    obtain ⟨io,fs⟩:=p
    rw [ho] at q
    simp only at q
    cases hlk:fs.lookup f with
    | none=>rw [hlk] at q; exact q.elim
    | some z=>
     rw [hlk] at q
     cases z with
     | d _=>exact q.elim
     | m _ _=>exact q.elim
     | l ds=>
      simp only at q
      by_cases hz:ds.length < sizeLine
      ·rw [if_pos hz] at q
       obtain ⟨a0,dx,gs,b0,hv0,e2,q1,⟨b1,xs,eb,_,hH,hdv⟩,up⟩:=st.fldUp ho hlk rfl
       cases eb
       obtain ⟨w,hw,hwd⟩:=st.dat hd
       obtain ⟨O2,st2,s2⟩:=up (.lst (xs ++ [w])) (.l (ds ++ [d])) trivial (fun G g=>⟨b0,xs ++ [w],rfl,rfl,a_A,(DVs.mono g hdv).append (.cons (DV.mono g hwd) .nil)⟩)
       exact ⟨_,hv0,a0,C,dx,gs,.ref b0,rfl,e2,cl,na,q1,.inl ⟨rfl,xs,.of hH⟩,w,hw,b0,xs,w,rfl,rfl,hH,by rw [hdv.length]; exact hz,fD.nx _ _ _ _ st2 s2 q⟩
      ·rw [if_neg hz] at q; exact q.elim
def f_E (C:Addr) (i:Nat) (f:Str) (j l:Nat) (v:PyData):SM:=fun U=>match d_H C U i,e_V U j,e_V U l with
 | some (io,fs),some y,some z=>(match fs.lookup f,n_u true (.tuple [y,z]) with
  | some (.m true kvs),some k=>if kvs.length < sizeLine then .nx (U.set i (some (.own io (.o C (a_3 f (.m true (h_g true kvs (.tuple [y,z]) k v)) fs))))) else .bad
  | _,_=>.bad)
 | _,_,_=>.bad
def g_U (C:Addr) (i:Nat) (f:Str) (j l:Nat) (m:XM PyData):SM:=fun U=>ofX (m U) (f_E C i f j l)
theorem o_d {y z:Str} {p2 p3 p4 pos':Pos} {j l kx:Nat} (hu:X.A.units + 1 < cLine) (cl:Cls X.K C) (na:b_a X.K C f) (hv:PE X (.Name x p1) (e_A i)) (hy:PE X (.Name y p2) (e_A j)) (hz:PE X (.Name z p3) (e_A l)) (he:FE X F E e m) (hb:attributeBase (.Name x p1) f X.env (eval (.Name x p1) X.env)=eval (.Name x p1) X.env:=by rfl)
  (h1:starEach [.Name y p2,.Name z p3] X.env=(false,eval (.Name y p2) X.env) :: starEach [.Name z p3] X.env:=by rfl) (h2:starEach [.Name z p3] X.env=(false,eval (.Name z p3) X.env) :: starEach [] X.env:=by rfl)
  (hs:swapsWith e (some (.Subscript (.Attribute (.Name x p1) f fpos) (.Tuple [.Name y p2,.Name z p3] kx p4) pos')) pos.line X.env=pure false:=by rfl) :
  FS X F E (.Assign [.Subscript (.Attribute (.Name x p1) f fpos) (.Tuple [.Name y p2,.Name z p3] kx p4) pos'] e pos) (g_U C i f j l m):=
 (s_z hu (h_O hv hb) (q_P (b_e hy (b_e hz c_w h2) h1)) he.pe hs).imp fun D Y H ⟨U,O,DD,st,q,fD⟩=>⟨U,O,st,a_m _ _ _ (fun v U1 q1 vy H1 O1 st1 s1 d1=>by
  unfold wpS f_E at q1
  cases ho:d_H C U1 i with
  | none=>rw [ho] at q1; exact q1.elim
  | some p=>
   obtain ⟨io,fs⟩:=p
   cases hj:e_V U1 j with
   | none=>rw [ho,hj] at q1; exact q1.elim
   | some y0=>
    cases hl:e_V U1 l with
    | none=>rw [ho,hj,hl] at q1; exact q1.elim
    | some z0=>
     rw [ho,hj,hl] at q1
     simp only at q1
     cases hlk:fs.lookup f with
     | none=>rw [hlk] at q1; exact q1.elim
     | some t=>
      rw [hlk] at q1
      cases t with
      | d _=>exact q1.elim
      | l _=>exact q1.elim
      | m tk kvs=>
       cases tk with
       | false=>exact q1.elim
       | true=>
        cases hk:n_u true (.tuple [y0,z0]) with
        | none=>rw [hk] at q1; exact q1.elim
        | some k=>
         rw [hk] at q1
         simp only at q1
         by_cases hsz:kvs.length < sizeLine
         ·rw [if_pos hsz] at q1
          obtain ⟨a0,dx,gs,b0,hv0,e2,l1,_,_⟩:=st1.fldUp ho hlk rfl
          obtain ⟨w1,hw1,dw1⟩:=st1.dat (f_2 hj)
          obtain ⟨w2,hw2,dw2⟩:=st1.dat (f_2 hl)
          refine ⟨_,hv0,a0,C,dx,gs,.ref b0,rfl,e2,cl,na,l1,w1,hw1,w2,hw2,show 2<=sizeLine by decide,fun p hp=>?_⟩
          have sm:e_W H1 (upd H1 p (.tup [w1,w2])):=a_n hp
          have st2:=st1.grow sm
          have hd:=e_a (O:=O1) sm
          obtain ⟨a1,dx1,gs1,b1,hv1,e3,l2,⟨b2,eb,_,dic⟩,up⟩:=st2.fldUp ho hlk rfl
          rw [hv0] at hv1
          cases hv1
          rw [sm _ _ e2] at e3
          cases e3
          rw [l1] at l2
          cases l2
          cases eb
          obtain ⟨o',g1,mv,g2⟩:=s_2 dic j_S (d_q hp (st1.nofree p hp) (.cons dw1 (.cons dw2 .nil))) (DV.mono hd d1) hk hsz
          obtain ⟨O3,st3,s3⟩:=up o' (.m true (h_g true kvs (.tuple [y0,z0]) k v)) mv (fun G g=>⟨b0,rfl,rfl,g2 G g⟩)
          exact ⟨b0,_,rfl,g1,fD.nx _ _ _ _ st3 (s1.trans ((Stp.same sm).trans s3)) q1⟩
         ·rw [if_neg hsz] at q1; exact q1.elim) (c_p (m:=m) (k:=f_E C i f j l) q)⟩
end
section
variable {X:Cx} {F:Fx} {E:Str->a_r->Prop} {e a b c:Expr} {es:List Expr} {st:Stmt} {pos p1 apos cpos fpos:Pos} {x f:Str} {C:Addr} {i:Nat} {m:XM PyData}
def k_C (C:Addr) (i:Nat) (f:Str) (j:Nat):XM PyData:=fun U=>match d_H C U i,e_V U j with
 | some (_,fs),some (.int k)=>(match fs.lookup f with
  | some (.l ds)=>lift (atI ds k) U
  | some (.d (.list ds))=>lift (atI ds k) U
  | some (.d (.tuple ds))=>.bad
  | _=>.bad)
 | _,_=>.bad
theorem n_B {G:Hp} {xs:List V} {ds:List PyData} {k:Int} {d:PyData} (h:DVs G xs ds) (e:atI ds k=some d):∃ v,atI xs k=some v/\DV G v d:=by
 unfold atI at e ⊢
 rw [h.length]
 cases hx:ixN ds.length k with
 | none=>rw [hx] at e; cases e
 | some j=>
  rw [hx] at e
  exact h.get e
theorem p_E {y:Str} {p2:Pos} {j:Nat} (cl:Cls X.K C) (na:b_a X.K C f) (hv:PE X (.Name x p1) (e_A i)) (hy:PE X (.Name y p2) (e_A j)) (hb:attributeBase (.Name x p1) f X.env (eval (.Name x p1) X.env)=eval (.Name x p1) X.env:=by rfl) (hs:h_7 (.Name y p2):=by intro _ _; rfl) :
  FE X F E (.Subscript (.Attribute (.Name x p1) f fpos) (.Name y p2) pos) (k_C C i f j):=
 ⟨a_m,(s_n l_w (h_O hv hb) hy hs).imp fun Y H Q ⟨U,O,st,q⟩=>by
  unfold wp k_C at q
  cases ho:d_H C U i with
  | none=>rw [ho] at q; exact q.elim
  | some p=>
   obtain ⟨io,fs⟩:=p
   cases hj:e_V U j with
   | none=>rw [ho,hj] at q; exact q.elim
   | some y0=>
    rw [ho,hj] at q
    cases y0 with
    | int k=>
     simp only at q
     obtain ⟨w,hw,dw⟩:=st.dat (f_2 hj)
     obtain rfl:=dw.int_inv
     cases hlk:fs.lookup f with
     | none=>rw [hlk] at q; exact q.elim
     | some t=>
      rw [hlk] at q
      cases t with
      | m _ _=>exact q.elim
      | l ds=>
       obtain ⟨a0,dx,gs,b0,hv0,e2,l1,⟨b1,xs,eb,_,hH,hdv⟩,_⟩:=st.fldUp ho hlk rfl
       cases eb
       obtain ⟨d,e1,q2⟩:=a_Y (o:=atI ds k) (U:=U) (E:=E) q
       obtain ⟨v,ev,dv⟩:=n_B hdv e1
       exact ⟨_,hv0,a0,C,dx,gs,.ref b0,rfl,e2,cl,na,l1,_,hw,b0,xs,k,v,rfl,rfl,.of hH,ev,q2 v H O st .refl dv⟩
      | d x0=>
       cases x0 with
       | list ds=>
        obtain ⟨a0,fp,hv0,⟨dx,gs,fps,e1,e2,e3,e4⟩,_,_⟩:=st.box (f_e ho)
        rcases g_x e4 f with ⟨_,l2⟩ | ⟨v,y1,fp',l1,l2,l3,_⟩
        ·rw [hlk] at l2; cases l2
        ·rw [hlk] at l2; cases l2
         obtain ⟨b1,xs,rfl,hH,hdv⟩:=l3.2.lst_inv
         obtain ⟨d,e1,q2⟩:=a_Y (o:=atI ds k) (U:=U) (E:=E) q
         obtain ⟨v,ev,dv⟩:=n_B hdv e1
         exact ⟨_,hv0,a0,C,dx,gs,.ref b1,rfl,e2,cl,na,l1,_,hw,b1,xs,k,v,rfl,rfl,.of (a_F hH).1,ev,q2 v H O st .refl dv⟩
       | _=>exact q.elim
    | _=>exact q.elim⟩
def f_J (C:Addr) (i:Nat) (f:Str) (j:Nat) (v:PyData):SM:=fun U=>match d_H C U i,e_V U j with
 | some (io,fs),some (.int k)=>(match fs.lookup f with
  | some (.l ds)=>(match ixN ds.length k with
   | some n=>.nx (U.set i (some (.own io (.o C (a_3 f (.l (ds.set n v)) fs)))))
   | none=>.bad)
  | _=>.bad)
 | _,_=>.bad
def g_Z (C:Addr) (i:Nat) (f:Str) (j:Nat) (m:XM PyData):SM:=fun U=>ofX (m U) (f_J C i f j)
theorem o_9 {G:Hp} {v:V} {d:PyData} (hd:DV G v d):∀ {xs:List V} {ds:List PyData} (n:Nat),DVs G xs ds->DVs G (xs.set n v) (ds.set n d)
 | _,_,_,.nil=>.nil
 | _,_,0,.cons _ t=>.cons hd t
 | _,_,n + 1,.cons h t=>.cons h (o_9 hd n t)
theorem o_G {y:Str} {p2 pos':Pos} {j:Nat} (cl:Cls X.K C) (na:b_a X.K C f) (hv:PE X (.Name x p1) (e_A i)) (hy:PE X (.Name y p2) (e_A j)) (he:FE X F E e m) (hb:attributeBase (.Name x p1) f X.env (eval (.Name x p1) X.env)=eval (.Name x p1) X.env:=by rfl)
  (hs:swapsWithSole [.Subscript (.Attribute (.Name x p1) f fpos) (.Name y p2) pos'] e pos.line X.env=pure false:=by rfl) (hw:swappedStores [.Subscript (.Attribute (.Name x p1) f fpos) (.Name y p2) pos'] e X.env=pure none:=by rfl)
  (h1:(assignEach [.Subscript (.Attribute (.Name x p1) f fpos) (.Name y p2) pos'] X.env).map (·.2)=[assign (.Subscript (.Attribute (.Name x p1) f fpos) (.Name y p2) pos') X.env]:=by rfl)
  (hq:∀ v,assign (.Subscript (.Attribute (.Name x p1) f fpos) (.Name y p2) pos') X.env v=(do
   let ov <-holding [v] (eval (.Attribute (.Name x p1) f fpos) X.env)
   let iv <-holding [v,ov] (eval (.Name y p2) X.env)
   standAt pos'
   holding [v,ov,iv] (setItem ov iv v)
   release [v,ov,iv] []):=by intro _; rfl) :
  FS X F E (.Assign [.Subscript (.Attribute (.Name x p1) f fpos) (.Name y p2) pos'] e pos) (g_Z C i f j m):=
 (u_I he.pe (v_h (h_O hv hb) hy p_y hq) hs hw h1).imp fun D Y H ⟨U,O,DD,st,q,fD⟩=>⟨U,O,st,a_m _ _ _ (fun v U1 q1 vy H1 O1 st1 s1 d1=>by
  unfold wpS f_J at q1
  cases ho:d_H C U1 i with
  | none=>rw [ho] at q1; exact q1.elim
  | some p=>
   obtain ⟨io,fs⟩:=p
   cases hj:e_V U1 j with
   | none=>rw [ho,hj] at q1; exact q1.elim
   | some y0=>
    rw [ho,hj] at q1
    cases y0 with
    | int k=>
     simp only at q1
     cases hlk:fs.lookup f with
     | none=>rw [hlk] at q1; exact q1.elim
     | some t=>
      rw [hlk] at q1
      cases t with
      | d _=>exact q1.elim
      | m _ _=>exact q1.elim
      | l ds=>
       simp only at q1
       cases hn:ixN ds.length k with
       | none=>rw [hn] at q1; exact q1.elim
       | some n=>
        rw [hn] at q1
        obtain ⟨w,hw',dw⟩:=st1.dat (f_2 hj)
        obtain rfl:=dw.int_inv
        obtain ⟨a0,dx,gs,b0,hv0,e2,l1,⟨b1,xs,eb,_,hH,hdv⟩,up⟩:=st1.fldUp ho hlk rfl
        cases eb
        obtain ⟨O2,st2,s2⟩:=up (.lst (xs.set n vy)) (.l (ds.set n v)) trivial (fun G g=>⟨b0,xs.set n vy,rfl,rfl,a_A,o_9 (DV.mono g d1) n (DVs.mono g hdv)⟩)
        exact ⟨_,hv0,a0,C,dx,gs,.ref b0,rfl,e2,cl,na,l1,_,hw',b0,xs,k,n,rfl,rfl,hH,by rw [hdv.length]; exact hn,fD.nx _ _ _ _ st2 (s1.trans s2) q1⟩
    | _=>exact q1.elim) (c_p (m:=m) (k:=f_J C i f j) q)⟩
def j_N (C:Addr) (i:Nat) (f:Str) (n:Int):SM:=fun U=>match d_H C U i with
 | some (io,fs)=>(match fs.lookup f with
  | some (.d (.int v))=>if fs.length < 1000 then .nx (U.set i (some (.own io (.o C (a_3 f (.d (.int (v + n))) fs))))) else .bad
  | _=>.bad)
 | none=>.bad
theorem n_y {n:Int} {tpos:Pos} (cl:Cls X.K C) (na:b_a X.K C f) (hv:PE X (.Name x p1) (e_A i)) (he:PE X e (fun Y H Q=>Q (.int n) H)):FS X F E (.AugAssign (.Attribute (.Name x p1) f tpos) .Add e pos) (j_N C i f n):=
 (o_W hv he t_S).imp fun D Y H ⟨U,O,DD,st,q,fD⟩=>by
  unfold wpS j_N at q
  cases ho:d_H C U i with
  | none=>rw [ho] at q; exact q.elim
  | some p=>
   obtain ⟨io,fs⟩:=p
   rw [ho] at q
   simp only at q
   cases hlk:fs.lookup f with
   | none=>rw [hlk] at q; exact q.elim
   | some t=>
    rw [hlk] at q
    cases t with
    | l _=>exact q.elim
    | m _ _=>exact q.elim
    | d x0=>
     cases x0 with
     | int v0=>
      simp only at q
      by_cases hz:fs.length < 1000
      ·rw [if_pos hz] at q
       obtain ⟨a0,fp,hv0,⟨dx,gs,fps,e1,e2,e3,e4⟩,hO,nd,up⟩:=st.boxN (f_e ho)
       subst e1
       have ndx:dx ≠ a0:=fun z=>by subst z; simp at nd
       rcases g_x e4 f with ⟨_,l2⟩ | ⟨v,y1,fp',l1,l2,l3,_⟩
       ·rw [hlk] at l2; cases l2
       ·rw [hlk] at l2; cases l2
        obtain rfl:=l3.2.int_inv
        obtain ⟨O3,st3,s3,_⟩:=up (upd H a0 (.ins C dx (f_1 f (.int (v0 + n)) gs))) (.o C (a_3 f (.d (.int (v0 + n))) fs)) (a0 :: dx :: fps.flatten) (fun c o hcn e=>by rw [a_p (fun z=>hcn (by simp [z]))]; exact e) nd (fun c hc=>.inl hc) (fun G O' s hG _=>by
         subst hG
         refine ⟨s.hid,dx,f_1 f (.int (v0 + n)) gs,if (fs.lookup f).isSome=true then fps else fps ++ [[]],?_,a_A,by rw [a_p ndx]; exact e3,?_⟩
         ·split
          ·rfl
          ·simp
         ·refine e4.putD (by rw [hlk]; rfl) (.int _) s.hid fun c hc=>a_p (fun z=>?_)
          subst z
          exact absurd hc (fun w=>(List.nodup_cons.mp nd).1 (List.mem_cons_of_mem _ w)))
        exact ⟨_,hv0,a0,C,dx,gs,_,rfl,e2,cl,na,l1,v0,n,rfl,rfl,dx,gs,e2,by rw [e4.len]; exact hz,fD.nx _ _ _ _ st3 s3 q⟩
      ·rw [if_neg hz] at q; exact q.elim
     | _=>exact q.elim
end
theorem n_R {G G' H H':Hp} {f:Str} {p:Addr} {y:Fl}:∀ {gs:List (Str × V)} {fs:List (Str × Fl)} {fps:List (List Addr)},FlsAt G H gs fs fps->fs.lookup f=none->e_W G G'->(∀ c ∈ fps.flatten,H' c=H c)->m_v G' H' (.ref p) y [p]->FlsAt G' H' (f_1 f (.ref p) gs) (a_3 f y fs) (fps ++ [[p]])
 | _,_,_,.nil,_,_,_,h=>.cons h .nil
 | (n,v) :: gs,(_,z) :: fs,fp :: fps,.cons h1 h2,hl,g,k,h=>by
  by_cases e:f=n
  ·subst e
   simp [List.lookup] at hl
  ·have e':(f == n)=false:=by simpa using e
   rw [List.lookup_cons,e'] at hl
   unfold f_1 a_3
   rw [if_neg (fun z=>e z.symm),if_neg (fun z=>e z.symm)]
   exact .cons (h1.keep (fun c hc=>k c (by rw [List.flatten_cons]; exact List.mem_append_left _ hc)) g) (n_R h2 hl g (fun c hc=>k c (by rw [List.flatten_cons]; exact List.mem_append_right _ hc)) h)
theorem DSt.fldNew {K:PySem.W.Frag} {F:Fx} {H:Hp} {Y:St} {U:a_r} {O:List Addr} {C:Addr} {i:Nat} {io:Bool} {fs:List (Str × Fl)} {f:Str} (st:DSt K F H Y U O) (ho:d_H C U i=some (io,fs)) (lk:fs.lookup f=none) :
  ∃ a dx gs,Y[i]? = some (some (.ref a))/\H a=some (.ins C dx gs)/\gs.length=fs.length/\
   ∀ (p:Addr) (o':HO) (y:Fl),H p=none->Mv o'->(∀ G,e_W (hide O H) G->m_v G (upd (upd H p o') a (.ins C dx (f_1 f (.ref p) gs))) (.ref p) y [p])->upd H p o' a=some (.ins C dx gs)/\∃ O',DSt K F (upd (upd H p o') a (.ins C dx (f_1 f (.ref p) gs))) Y (U.set i (some (.own io (.o C (a_3 f y fs))))) O'/\Stp O H O' (upd (upd H p o') a (.ins C dx (f_1 f (.ref p) gs))):=by
 obtain ⟨a,fp,hv0,⟨dx,gs,fps,e1,e2,e3,e4⟩,hO,nd,up⟩:=st.boxN (f_e ho)
 subst e1
 have nd':=nd
 rw [List.nodup_cons,List.nodup_cons] at nd'
 obtain ⟨na,ndx,nf⟩:=nd'
 have ad:dx ≠ a:=fun z=>na (by rw [z]; exact List.mem_cons_self)
 refine ⟨a,dx,gs,hv0,e2,e4.len,fun p o' y hp hM hf=>?_⟩
 have pa:a ≠ p:=fun z=>by subst z; rw [e2] at hp; cases hp
 have pd:dx ≠ p:=fun z=>by subst z; rw [e3] at hp; cases hp
 have liv:=st.live
 have pf:p ∉ fps.flatten:=fun z=>by
  exact absurd (hO p (List.mem_cons_of_mem _ (List.mem_cons_of_mem _ z))) (st.nofree p hp)
 refine ⟨by rw [a_p pa]; exact e2,?_⟩
 obtain ⟨O',st',s',_⟩:=up (upd (upd H p o') a (.ins C dx (f_1 f (.ref p) gs))) (.o C (a_3 f y fs)) (a :: dx :: (fps ++ [[p]]).flatten) (fun c o hc e=>by
   rw [a_p (fun z=>hc (by simp [z])),a_p (fun z=>by subst z; rw [hp] at e; cases e)]; exact e) (by
   rw [List.flatten_append]
   simp only [List.flatten_cons,List.flatten_nil,List.append_nil]
   refine List.nodup_cons.mpr ⟨fun z=>?_,List.nodup_cons.mpr ⟨fun z=>?_,List.nodup_append.mpr ⟨nf,by simp,fun x hx y hy=>?_⟩⟩⟩
   ·rcases List.mem_cons.mp z with z | z
    ·exact ad z.symm
    ·rcases List.mem_append.mp z with z | z
     ·exact na (List.mem_cons_of_mem _ z)
     ·exact pa (List.mem_singleton.mp z)
   ·rcases List.mem_append.mp z with z | z
    ·exact ndx z
    ·exact pd (List.mem_singleton.mp z)
   ·rw [List.mem_singleton.mp hy]; exact fun z=>pf (by rw [<-z]; exact hx)) (fun c hc=>by
   rw [List.flatten_append] at hc
   simp only [List.flatten_cons,List.flatten_nil,List.append_nil] at hc
   rcases List.mem_cons.mp hc with rfl | hc
   ·exact .inl List.mem_cons_self
   ·rcases List.mem_cons.mp hc with rfl | hc
    ·exact .inl (by simp)
    ·rcases List.mem_append.mp hc with hc | hc
     ·exact .inl (List.mem_cons_of_mem _ (List.mem_cons_of_mem _ hc))
     ·exact .inr (by rw [List.mem_singleton.mp hc]; exact hp)) (fun G O' s hG _=>by
  subst hG
  refine ⟨s.hid,dx,f_1 f (.ref p) gs,fps ++ [[p]],rfl,a_A,by rw [a_p ad,a_p pd]; exact e3,n_R e4 lk s.hid (fun c hc=>?_) (hf _ s.hid)⟩
  rw [a_p (fun z=>na (by rw [<-z]; exact List.mem_cons_of_mem _ hc)),a_p (fun z=>pf (by rw [<-z]; exact hc))])
 exact ⟨O',st',s'⟩
section
variable {X:Cx} {F:Fx} {E:Str->a_r->Prop} {e a b c:Expr} {es:List Expr} {st:Stmt} {pos p1 p2 apos cpos fpos pos':Pos} {x f:Str} {C:Addr} {i:Nat} {m:XM PyData}
def f_X (C:Addr) (i:Nat) (f:Str) (y:Fl):SM:=fun U=>match d_H C U i with
 | some (io,fs)=>if fs.lookup f=none/\fs.length < 1000 then .nx (U.set i (some (.own io (.o C (a_3 f y fs))))) else .bad
 | none=>.bad
theorem o_r (cl:Cls X.K C) (na:b_a X.K C f) (hv:PE X (.Name x p1) (e_A i)) (hs:swapsWith (.List [] p2) (some (.Attribute (.Name x p1) f pos')) pos.line X.env=pure false:=by rfl):FS X F E (.Assign [.Attribute (.Name x p1) f pos'] (.List [] p2) pos) (f_X C i f (.l [])):=
 (m_s hv (l_9 c_w) hs).imp fun D Y H ⟨U,O,DD,st,q,fD⟩=>by
  unfold wpS f_X at q
  cases ho:d_H C U i with
  | none=>rw [ho] at q; exact q.elim
  | some p=>
   obtain ⟨io,fs⟩:=p
   rw [ho] at q
   simp only at q
   by_cases hc:fs.lookup f=none/\fs.length < 1000
   ·rw [if_pos hc] at q
    obtain ⟨a0,dx,gs,hv0,e2,hl,nw⟩:=st.fldNew ho hc.1
    refine ⟨Nat.zero_le _,fun p hp=>?_⟩
    have pa:a0 ≠ p:=fun z=>by subst z; rw [e2] at hp; cases hp
    obtain ⟨h1,O3,st3,s3⟩:=nw p (.lst []) (.l []) hp trivial (fun G g=>⟨p,[],rfl,rfl,by rw [a_p (fun z=>pa z.symm),a_A],.nil⟩)
    exact ⟨_,hv0,a0,C,dx,gs,rfl,h1,cl,na,by rw [hl]; exact hc.2,fD.nx _ _ _ _ st3 s3 q⟩
   ·rw [if_neg hc] at q; exact q.elim
theorem o_A (cl:Cls X.K C) (na:b_a X.K C f) (hv:PE X (.Name x p1) (e_A i)) (hs:swapsWith (.Dict [] [] p2) (some (.Attribute (.Name x p1) f pos')) pos.line X.env=pure false:=by rfl):FS X F E (.Assign [.Attribute (.Name x p1) f pos'] (.Dict [] [] p2) pos) (f_X C i f (.m true [])):=
 (m_s hv q_x hs).imp fun D Y H ⟨U,O,DD,st,q,fD⟩=>by
  unfold wpS f_X at q
  cases ho:d_H C U i with
  | none=>rw [ho] at q; exact q.elim
  | some p=>
   obtain ⟨io,fs⟩:=p
   rw [ho] at q
   simp only at q
   by_cases hc:fs.lookup f=none/\fs.length < 1000
   ·rw [if_pos hc] at q
    obtain ⟨a0,dx,gs,hv0,e2,hl,nw⟩:=st.fldNew ho hc.1
    intro p hp
    have pa:a0 ≠ p:=fun z=>by subst z; rw [e2] at hp; cases hp
    obtain ⟨h1,O3,st3,s3⟩:=nw p (.dT []) (.m true []) hp trivial (fun G g=>⟨p,rfl,rfl,[],by rw [a_p (fun z=>pa z.symm),a_A],.nil⟩)
    exact ⟨_,hv0,a0,C,dx,gs,rfl,h1,cl,na,by rw [hl]; exact hc.2,fD.nx _ _ _ _ st3 s3 q⟩
   ·rw [if_neg hc] at q; exact q.elim
def h_D (C:Addr) (i:Nat) (f:Str):XM PyData:=fun U=>match d_H C U i with
 | some (_,fs)=>(match fs.lookup f with
  | some (.l ds)=>.ok (.list ds) U
  | _=>.bad)
 | none=>.bad
theorem m_8 {lp:Pos} (hg:Gl X "list") (hm:X.mg "list" = none) (cl:Cls X.K C) (na:b_a X.K C f) (hv:PE X (.Name x p1) (e_A i)) (hb:attributeBase (.Name x p1) f X.env (eval (.Name x p1) X.env)=eval (.Name x p1) X.env:=by rfl)
  (he:starEach [.Attribute (.Name x p1) f fpos] X.env=(false,eval (.Attribute (.Name x p1) f fpos) X.env) :: starEach [] X.env:=by rfl) (hpl:(backTo pos (starEach [] X.env)).any (·.1)=false:=by rfl) :
  FE X F E (.Call (.Name "list" lp) [.Attribute (.Name x p1) f fpos] [] pos) (h_D C i f):=
 ⟨a_m,(h_8 k_d hg hm (show bootBuiltins "list" = some (.type "list") by decide +kernel) (b_e (h_O hv hb) c_w he) (by decide) (by decide) he hpl).imp fun Y H Q ⟨U,O,st,q⟩=>by
  unfold wp h_D at q
  cases ho:d_H C U i with
  | none=>rw [ho] at q; exact q.elim
  | some p=>
   obtain ⟨io,fs⟩:=p
   rw [ho] at q
   simp only at q
   cases hlk:fs.lookup f with
   | none=>rw [hlk] at q; exact q.elim
   | some t=>
    rw [hlk] at q
    cases t with
    | d _=>exact q.elim
    | m _ _=>exact q.elim
    | l ds=>
     obtain ⟨a0,dx,gs,b0,hv0,e2,l1,⟨b1,xs,eb,_,hH,hdv⟩,_⟩:=st.fldUp ho hlk rfl
     cases eb
     exact ⟨_,hv0,a0,C,dx,gs,.ref b0,rfl,e2,cl,na,l1,b0,xs,rfl,.inl (.of hH),fun p hp=>q _ _ O (st.grow (a_n hp)) (.same (a_n hp)) (c_H hp (st.nofree p hp) hdv)⟩⟩
end
end L2.L3
namespace L2
open PySem
section
variable {prog:Program} {w:World} {A:Around} {E:Value->Shared->Prop} {s:Shared}
theorem g_y (a d:Value):argsOk "min" ⟨[a],[("default",d)]⟩:=by unfold argsOk; kernel_rfl
theorem g_8 {id:String} {b:Builtin} {args:List Value} {kw:List (Str × Value)} {Q:Value->Shared->Prop} (hk:builtinKind id=none) (hp:plainId id=true) (hb:entryFor table id=some b) (ha:argsOk id ⟨args,kw⟩)
  (hc:wpAny (model prog w) A.in1 (b ⟨args,kw⟩) (fun fin s'=>match fin with
   | .done f=>(match (Except.ok f:Result) with | .ok (.ret v)=>Q v s' | .ok _=>False | .error e=>E e s')
   | .again c'=>c'.quiet=true/\codeAny (model prog w) A c' (fun r s'=>match r with | .ok (.ret v)=>Q v s' | .ok _=>False | .error e=>E e s') s') E s):wpAny (model prog w) A (call (.builtin id) args kw) Q E s:=by
 refine wpAny_call (codeAny_call_builtin hp hb ?_)
 simp only [checkBuiltinCall,hk]
 cases hsig:Manifest.signature? id with
 | none=>exact wpAny_pure hc
 | some sig=>
  have ha':Bind.checkArgs id sig ⟨args,kw⟩=pure ():=by simpa only [argsOk,hsig] using ha
  simp only [ha']
  exact wpAny_pure hc
theorem k_F {l:Addr} {d:Value} {Q:Value->Shared->Prop} (hh:A.handled=none) (hl:s.heap.IsList l #[]) (hQ:∀ h',(∀ b o,s.heap.get? b=some o->h'.get? b=some o)->Q d { s with heap:=h' }) :
  wpAny (model prog w) A (call (.builtin "min") [.ref l] [("default",d)]) Q E s:=by
 refine g_8 F.kind_min F.plain_min F.entry_min (g_y _ _) ?_
 show wpAny _ A.in1 (Builtin.Builtins.bindParams "min" ["key","default"] 0 ⟨[],[("default",d)]⟩ >>= _) _ _ s
 refine wpAny_bind (wpAny_of_eq (show Builtin.Builtins.bindParams "min" ["key","default"] 0 ⟨[],[("default",d)]⟩=pure [none,some d] from rfl) ?_)
 refine wpAny_bind (wpAny_pure ?_)
 refine wpAny_bind (wpAny_pyIter_list hl ?_)
 refine wpAny_bind (wpAny_newObj_type ?_)
 have hname:(toString "min" ++ toString ".loop":String) = "min.loop":=by decide
 rw [hname]
 obtain ⟨ol,hol,hcl,nl,hdl⟩:=id hl
 generalize hg:(s.heap.push { cls:=.type "list_iterator",data:=.fields #[.ref l,.int 0 0] })=h1
 have e1:h1.get? s.heap.objs.size=some { cls:=.type "list_iterator",data:=.fields #[.ref l,.int 0 0] }:=by rw [<-hg]; exact Heap.get?_push_size _ rfl
 have k1:∀ b o,s.heap.get? b=some o->h1.get? b=some o:=fun b o e=>by rw [<-hg]; exact Heap.get?_push_of_some _ e
 refine wpAny_pure ⟨plainId_quiet F.plain_min_loop _,?_⟩
 refine codeAny_builtin F.entry_min_loop ?_
 rw [Around.under_plainId F.plain_min_loop _]
 have hS:(h1.push { cls:=.type "list",data:=.seq #[] }).get? h1.objs.size=some { cls:=.type "list",data:=.seq #[] }:=Heap.get?_push_size _ rfl
 show wpAny _ A.in1 (seqItems? (.ref h1.objs.size) >>= _) _ _ _
 refine wpAny_bind (wpAny_seqItems hS rfl ?_)
 show wpAny _ A.in1 (tryCatch (pyNext (.ref s.heap.objs.size)) _ >>= _) _ _ _
 refine wpAny_bind (wpAny_tryCatch (wpAny_pyNext_list_end (i:=0) (l:=l) (items:=#[]) hh ⟨_,Heap.get?_push_of_some _ e1,rfl,rfl⟩ ⟨ol,Heap.get?_push_of_some _ (k1 _ _ hol),hcl,nl,hdl⟩ rfl fun h' hk'=>?_))
 refine wpAny_bind (wpAny_rule (wpAny_pure ?_))
 exact hQ h' fun b o e=>hk' b o (Nat.ne_of_lt (Heap.lt_size e)) (Heap.get?_push_of_some _ (k1 b o e))
end
end L2
namespace L2.L3
open PySem PySem.Spec PyProof.Rows
section
variable {K:PySem.W.Frag} {F:Fx} {own:List Str} {caps:List Nat} {s:DTI} {g:DTG} {tc:DTT} {te:DT}
theorem s_Y (hs:MnI s) (hg:∀ d U Q Q',(∀ U',Q U'->Q' U')->g d U Q->g d U Q') (ht:MnT tc) (he:Mn te):∀ (Y:St) (H:Hp) (Q:VK),(∃ U O,DSt K F H Y U O/\s U fun its U1=>∃ Iv:Nat->List PyData->a_r->Prop,Iv 0 [] (d_1 own caps U1)/\
   (∀ i d ys U',its[i]? = some d->Iv i ys U'->g d U' fun U2=>tc U2 fun b U3=>if b=true then te U3 fun y U4=>ys.length < sizeLine/\Iv (i + 1) (ys ++ [y]) U4 else Iv (i + 1) ys U3)/\
   ∀ ys U',Iv its.length ys U'->ys.length<=sizeLine/\∀ H' O' vs p,DSt K F H' Y U1 O'->Stp O H O' H'->DVs (hide O' H') vs ys->H' p=none->Q (.ref p) (upd H' p (.lst vs)))->
  m_I own caps (rdI K F s) (fun v Y H Q=>∃ F',rdG K F' g v Y H Q) (fun Y H Q=>∃ F',rdT K F' tc Y H Q) (fun Y H Q=>∃ F',rdE K F' te Y H Q) Y H Q:=fun Y H Q ⟨U,O,st,q⟩=>by
 refine ⟨U,O,st,hs _ _ _ (fun its U1 ⟨Iv,i0,step,fin⟩ J H1 O1 st1 s1 wk=>?_) q⟩
 refine ⟨fun i m ys Y' H'=>∃ U' O' ds,DSt K ⟨H1,[],O1,fun _=>0⟩ H' Y' U' O'/\Iv i ds U'/\DVs (hide O' H') ys ds/\i<=its.length/\m=its.length - i,⟨its.length,d_1 own caps U1,O1,[],?_,i0,.nil,Nat.zero_le _,rfl⟩,?_⟩
 ·have cell:∀ (i:Nat) (c:Cell),(d_1 own caps U1)[i]? = some (some c)->(∀ io b,c ≠ .own io b)/\∃ v,(g_a own caps Y)[i]? = some (some v)/\c_f K H1 O1 v c []:=fun i c e=>by
   unfold d_1 at e
   unfold g_a
   by_cases hi:i < own.length
   ·rw [List.getElem?_append_left (by simpa using hi),List.getElem?_map] at e
    cases h:own[i]? with
    | none=>rw [h] at e; cases e
    | some y=>rw [h] at e; cases e
   ·rw [List.getElem?_append_right (by simpa using Nat.le_of_not_lt hi),List.length_map,List.getElem?_map] at e
    rw [List.getElem?_append_right (by simpa using Nat.le_of_not_lt hi),List.length_map,List.getElem?_map]
    obtain ⟨j,h1,h2⟩:=Option.map_eq_some_iff.mp e
    rw [h1]
    show _/\∃ v,some ((Y[j]?).getD none)=some (some v)/\_
    cases h3:U1[j]? with
    | none=>rw [h3] at h2; cases h2
    | some o=>
     cases o with
     | none=>rw [h3] at h2; cases h2
     | some c'=>
      rw [h3] at h2
      obtain ⟨W,stw,rfl⟩:=id st1
      obtain ⟨v,fp,e1,_,e2⟩:=stw.at_ j c' h3
      rw [e1]
      cases c' with
      | dat d=>cases h2; exact ⟨(fun _ _ z=>by cases z),v,rfl,e2⟩
      | scr ns=>cases h2; exact ⟨(fun _ _ z=>by cases z),v,rfl,e2⟩
      | own _ _=>cases h2
      | exc _=>cases h2
      | vw b=>cases h2; exact ⟨(fun _ _ z=>by cases z),v,rfl,e2⟩
  obtain ⟨W,stw,hO1⟩:=id st1
  have ln:(d_1 own caps U1).length=(g_a own caps Y).length:=by unfold d_1 g_a; simp
  have fl:(List.replicate (d_1 own caps U1).length ([]:List Addr)).flatten ++ O1=O1:=by rw [g_z]; rfl
  refine ⟨List.replicate (d_1 own caps U1).length [],⟨fun i c e=>?_,by show (_ ++ O1).Nodup; rw [fl,hO1]; exact stw.nd,fun _ _ _ h=>h,fun a h=>?_,by show OOk H1 (_ ++ O1); rw [fl]; exact st1.live,ln,by simp,fun i b e=>absurd rfl ((cell i _ e).1 true b)⟩,fl.symm⟩
  ·obtain ⟨_,v,e1,e2⟩:=cell i c e
   refine ⟨v,[],e1,?_,by show c_f K H1 (_ ++ O1) v c []; rw [fl]; exact e2⟩
   rw [List.getElem?_replicate,if_pos (List.getElem?_eq_some_iff.mp e).1]
  ·rw [g_z] at h; cases h
 ·rintro i m ys Y' H' ⟨U',O',ds,st',iv,dv,hi,rfl⟩
  have sm:e_W H1 H':=fun b o e=>by obtain ⟨W',h',_⟩:=id st'; exact h'.kept b o (by simp) e
  have stp:Stp O1 H1 O' H':=⟨fun b o _ e=>sm b o e,fun a h=>by
   obtain ⟨W',h',rfl⟩:=id st'
   rcases List.mem_append.mp h with h | h
   ·exact (h'.new a h).elim (fun z=>absurd z (by simp)) .inr
   ·exact .inl h⟩
  have sub1:∀ a ∈ O1,a ∈ O':=fun a h=>by obtain ⟨W',h',rfl⟩:=id st'; exact List.mem_append_right _ h
  obtain ⟨w1,w2⟩:=wk O' H' stp st'.live
  by_cases hlt:i < its.length
  ·obtain ⟨go,yld⟩:=w1 i its[i] (List.getElem?_eq_getElem hlt)
   refine .inr ⟨go,fun x H2 hy=>?_⟩
   obtain ⟨sm2,dx⟩:=yld x H2 hy
   refine ⟨⟨H1,[],O1,fun _=>0⟩,U',O',its[i],st'.grow sm2,dx,hg _ _ _ _ (fun U2 q2 Y3 H3 O3 st3 s3=>?_) (step i its[i] ds U' (List.getElem?_eq_getElem hlt) iv)⟩
   refine ⟨⟨H1,[],O1,fun _=>0⟩,U2,O3,st3,ht _ _ _ (fun b U3 q3 H4 O4 st4 s4=>?_) q2⟩
   have d4:DVs (hide O4 H4) ys ds:=DVs.mono s4.hid (DVs.mono s3.hid (DVs.mono (e_a sm2) dv))
   cases b with
   | false=>exact j_7 ⟨its.length - (i + 1),by omega,U3,O4,ds,st4,ofF q3,d4,hlt,rfl⟩
   | true=>
    refine j_6 ⟨⟨H1,[],O1,fun _=>0⟩,U3,O4,st4,he _ _ _ (fun y U4 q4 v H5 O5 st5 s5 dy=>?_) (ofT q3)⟩
    refine ⟨by rw [d4.length]; exact q4.1,its.length - (i + 1),by omega,U4,O5,ds ++ [y],st5,q4.2,(DVs.mono s5.hid d4).append (.cons dy .nil),hlt,rfl⟩
  ·have e:i=its.length:=by omega
   subst e
   obtain ⟨hz,q⟩:=fin ds U' iv
   exact .inl ⟨w2,by rw [dv.length]; exact hz,fun p hp=>q H' O1 ys p (st1.grow sm) (s1.trans (.same sm)) (DVs.mono (h_U sub1) dv) hp⟩
end
section
variable {X:Cx} {F:Fx} {E:Str->a_r->Prop} {pos:Pos}
theorem p_Y {own:List Str} {caps:List Nat} {s:XM (List PyData)} {g:GM} {t:XM Bool} {m:XM PyData} {U:a_r} {P:List PyData->a_r->Prop} (q:wp E s U fun its U1=>∃ ys,b_c g t m its [] (j_P own.length caps U1)=some ys/\ys.length<=sizeLine/\P ys U1) :
  wp E s U fun its U1=>∃ Iv:Nat->List PyData->a_r->Prop,Iv 0 [] (d_1 own caps U1)/\
   (∀ i d ys U',its[i]? = some d->Iv i ys U'->wpG g d U' fun U2=>wp E0' t U2 fun b U3=>if b=true then wp E0' m U3 fun y U4=>ys.length < sizeLine/\Iv (i + 1) (ys ++ [y]) U4 else Iv (i + 1) ys U3)/\
   ∀ ys U',Iv its.length ys U'->ys.length<=sizeLine/\P ys U1:=a_m _ _ _ (fun its U1 ⟨ys0,e2,hl,hP⟩=>by
 have eL:d_1 own caps U1=j_P own.length caps U1:=by
  unfold d_1 j_P
  rw [List.map_const']
 refine ⟨fun i ys U=>b_c g t m (its.drop i) ys U=some ys0,by rw [eL]; exact e2,fun i d ys U hd hi=>?_,fun ys U h=>?_⟩
 ·have e:its.drop i=d :: its.drop (i + 1):=by
   obtain ⟨hlt,he⟩:=List.getElem?_eq_some_iff.mp hd
   rw [<-he]
   exact List.drop_eq_getElem_cons hlt
  simp only [e] at hi
  unfold b_c at hi
  unfold wpG
  cases hg:g d U with
  | none=>rw [hg] at hi; cases hi
  | some U2=>
   rw [hg] at hi
   simp only at hi ⊢
   unfold wp
   cases ht:t U2 with
   | ex c U3=>rw [ht] at hi; cases hi
   | bad=>rw [ht] at hi; cases hi
   | ok b U3=>
    rw [ht] at hi
    cases b with
    | false=>exact j_7 hi
    | true=>
     refine j_6 ?_
     simp only at hi ⊢
     cases hm:m U3 with
     | ex c U4=>rw [hm] at hi; cases hi
     | bad=>rw [hm] at hi; cases hi
     | ok y' U4=>
      rw [hm] at hi
      simp only at hi ⊢
      split at hi
      ·rename_i h; exact ⟨h,hi⟩
      ·cases hi
 ·simp only [List.drop_length] at h
  have:ys=ys0:=by unfold b_c at h; exact Option.some.inj h
  subst this
  exact ⟨hl,hP⟩) q
def j_y (C:Addr) (i:Nat) (f:Str) (own:Nat) (caps:List Nat) (g:GM) (t:XM Bool) (m:XM PyData) (its:List PyData):SM:=fun U=>match b_c g t m its [] (j_P own caps U),d_H C U i with
 | some ys,some (io,fs)=>if ys.length<=sizeLine/\fs.lookup f=none/\fs.length < 1000 then .nx (U.set i (some (.own io (.o C (a_3 f (.l ys) fs))))) else .bad
 | _,_=>.bad
def l_V (C:Addr) (i:Nat) (f:Str) (own:Nat) (caps:List Nat) (s:XM (List PyData)) (g:GM) (t:XM Bool) (m:XM PyData):SM:=fun U=>ofX (s U) (j_y C i f own caps g t m)
theorem m_0 {C:Addr} {i:Nat} {f x:Str} {p1 pos' spos:Pos} {scope:Scope} {own capN:List Str} {caps:List Nat} {tg iter elt:Expr} {ifs:List Expr} {s:XM (List PyData)} {g:GM} {t:XM Bool} {m:XM PyData} {n:Nat} (cl:Cls X.K C) (na:b_a X.K C f) (hv:PE X (.Name x p1) (e_A i)) (S:CompScope X scope own capN caps) (hc:X.calm=true) (hn:own.length=n) (hi:FI X F E tg iter s)
  (hin:∀ C fp s₂ H₂ pl F',FG (a_U X scope (own ++ capN) C fp s₂ H₂ pl) F' tg g/\FBs (a_U X scope (own ++ capN) C fp s₂ H₂ pl) F' E0' ifs t/\FE (a_U X scope (own ++ capN) C fp s₂ H₂ pl) F' E0' elt m)
  (hsw:swapsWith (.ListComp elt [⟨tg,iter,ifs,0⟩] scope pos) (some (.Attribute (.Name x p1) f pos')) spos.line X.env=pure false:=by rfl)
  (hs:∀ x,foldedSetIterable iter X.env x=pure x:=by intro _; rfl):FS X F E (.Assign [.Attribute (.Name x p1) f pos'] (.ListComp elt [⟨tg,iter,ifs,0⟩] scope pos) spos) (l_V C i f n caps s g t m):=by
 subst hn
 obtain ⟨hg,ht,he⟩:=hin 0 [] (PySem.start X.prog).1 (fun _=>none) [] F
 have pe:PE X (.ListComp elt [⟨tg,iter,ifs,0⟩] scope pos) (m_I own caps (rdI X.K F (wp E s)) (fun v Y H Q=>∃ F',rdG X.K F' (wpG g) v Y H Q) (fun Y H Q=>∃ F',rdT X.K F' (wp E0' t) Y H Q) (fun Y H Q=>∃ F',rdE X.K F' (wp E0' m) Y H Q)):=o_P S hc hi.pi (fun C fp s₂ H₂ pl=>⟨fun pins s Y H v u Q I r ⟨F',q⟩=>(hin C fp s₂ H₂ pl F').1.pg pins s Y H v u Q I r q,fun pins s Y H Q I ⟨F',q⟩=>(hin C fp s₂ H₂ pl F').2.1.2 pins s Y H Q I q,fun pins s Y H Q I ⟨F',q⟩=>(hin C fp s₂ H₂ pl F').2.2.pe pins s Y H Q I q⟩) hs
 refine (m_s hv pe hsw).imp fun D Y H ⟨U,O,DD,st,q,fD⟩=>?_
 refine s_Y hi.mn hg.mn ht.1 he.mn Y H _ ⟨U,O,st,p_Y (a_m _ _ _ (fun its U1 q1=>?_) (c_p (m:=s) (k:=j_y C i f own.length caps g t m) q))⟩
 unfold wpS j_y at q1
 cases hys:b_c g t m its [] (j_P own.length caps U1) with
 | none=>rw [hys] at q1; exact q1.elim
 | some ys=>
  cases ho:d_H C U1 i with
  | none=>rw [hys,ho] at q1; exact q1.elim
  | some p=>
   obtain ⟨io,fs⟩:=p
   rw [hys,ho] at q1
   simp only at q1
   by_cases hcnd:ys.length<=sizeLine/\fs.lookup f=none/\fs.length < 1000
   ·rw [if_pos hcnd] at q1
    refine ⟨ys,rfl,hcnd.1,fun H' O' vs p st' s' dv hp=>?_⟩
    obtain ⟨a0,dx,gs,hv0,e2,hl,nw⟩:=st'.fldNew ho hcnd.2.1
    have pa:a0 ≠ p:=fun z=>by subst z; rw [e2] at hp; cases hp
    obtain ⟨h1,O3,st3,s3⟩:=nw p (.lst vs) (.l ys) hp trivial (fun G gg=>⟨p,vs,rfl,rfl,by rw [a_p (fun z=>pa z.symm),a_A],DVs.mono gg dv⟩)
    exact ⟨_,hv0,a0,C,dx,gs,rfl,h1,cl,na,by rw [hl]; exact hcnd.2.2,fD.nx _ _ _ _ st3 (s'.trans s3) q1⟩
   ·rw [if_neg hcnd] at q1; exact q1.elim
end
end L2.L3
namespace L2
open PySem PyProof.Rows
def o_o (h:Heap) (its:List Value) (rows:List (List Int)):Prop:=its.length=rows.length/\∀ (i:Nat) (v:Value),its[i]? = some v->∃ (T:Addr) (items:Array Value) (r:List Int),v=.ref T/\IsTup h T items/\rows[i]? = some r/\IntsAre items.toList r
abbrev btT (rows:List (List Int)):Nat->Nat->Bool:=fun i j=>HT.lexLt (rows.getD i []) (rows.getD j [])
section
variable {prog:Program} {w:World} {A:Around} {R:Result->Shared->Prop} {E:Value->Shared->Prop} {s:Shared} {h0:Heap} {I l S:Addr} {its:Array Value} {rows:List (List Int)} {d:Value}
theorem p_0 {Q:Value->Shared->Prop} {i j:Nat} {u v:Value} (hu:A.units < cLine) (ht:o_o h0 its.toList rows) (kp:∀ b o,h0.get? b=some o->s.heap.get? b=some o) (hi:its[i]? = some u) (hj:its[j]? = some v) (q:Q (.bool (btT rows i j)) s):wpAny (model prog w) A (richCompare .Lt u v) Q E s:=by
 obtain ⟨T,xs,r,rfl,t1,r1,a1⟩:=ht.2 i u (by simpa using hi)
 obtain ⟨T',ys,r',rfl,t2,r2,a2⟩:=ht.2 j v (by simpa using hj)
 have e1:rows.getD i []=r:=by rw [List.getD_eq_getElem?_getD,r1]; rfl
 have e2:rows.getD j []=r':=by rw [List.getD_eq_getElem?_getD,r2]; rfl
 unfold btT at q
 rw [e1,e2] at q
 have k1:IsTup s.heap T xs:=let ⟨o,e,x⟩:=t1; ⟨o,kp _ _ e,x⟩
 have k2:IsTup s.heap T' ys:=let ⟨o,e,x⟩:=t2; ⟨o,kp _ _ e,x⟩
 exact (HT.lt_tupInts k1 k2 a1 a2 hu q:wpAny (model prog w) A (compareOp .Lt (.ref T) (.ref T')) Q E s)
theorem o_a (hh:A.handled=none) (hu:A.in1.units < cLine) (ht:o_o h0 its.toList rows) (hl:h0.IsList l its) (hI:h0.objs.size<=I) (hS:h0.objs.size<=S) (hIS:I ≠ S) :
  ∀ (k j:Nat) (s:Shared) (vb:Value) (c:Nat),its.size - (j + 1)=k->j + 1<=its.size->(∀ b o,h0.get? b=some o->s.heap.get? b=some o)->s.heap.IsListIter I l (j + 1)->its[argBest (btT rows) j]? = some vb->
  s.heap.get? S=some { cls:=.type "list",dict:=none,data:=.seq #[vb,vb] c,slots:=#[] }->
  (∀ v h' tk,its[argBest (btT rows) (its.size - 1)]? = some v->(∀ b o,h0.get? b=some o->h'.get? b=some o)->R (.ok (.ret v)) { s with heap:=h',toks:=tk })->
  codeAny (model prog w) A (.builtin "min.loop" ⟨[.ref I,.none,.ref S],[("default",d)]⟩) R s:=by
 have hname:(toString "min" ++ toString ".loop":String) = "min.loop":=by decide
 have nI:∀ {b:Addr} {o:Obj},h0.get? b=some o->b ≠ I:=fun e z=>by subst z; exact absurd (Heap.lt_size e) (Nat.not_lt.mpr hI)
 have nS:∀ {b:Addr} {o:Obj},h0.get? b=some o->S ≠ b:=fun e z=>by subst z; exact absurd (Heap.lt_size e) (Nat.not_lt.mpr hS)
 intro k
 induction k with
 | zero=>
  intro j s vb c hk hj kp hit hb hSt hR
  have hin:j + 1=its.size:=by omega
  refine codeAny_builtin F.entry_min_loop ?_
  rw [Around.under_plainId F.plain_min_loop _]
  show wpAny _ A.in1 (seqItems? (.ref S) >>= _) _ _ s
  refine wpAny_bind (wpAny_seqItems hSt rfl ?_)
  show wpAny _ A.in1 (tryCatch (pyNext (.ref I)) _ >>= _) _ _ s
  refine wpAny_bind (wpAny_tryCatch (wpAny_pyNext_list_end hh hit (hl.at fun o e=>kp _ _ e) (by simp; omega) fun h1 hs1=>?_))
  have hS1:=hs1 S _ (Ne.symm hIS) hSt
  show wpAny _ A.in1 (updateSeq S (fun _=>#[]) >>= _) _ _ _
  refine wpAny_bind (wpAny_updateSeq hS1 rfl (wpAny_bind (wpAny_letGo (wpAny_pure ?_))))
  refine hR vb _ _ (by rw [<-hin]; exact hb) fun b o e=>?_
  exact (Heap.get?_update_other _ _ (nS e)).trans (hs1 _ _ (nI e) (kp _ _ e))
 | succ k ih=>
  intro j s vb c hk hj kp hit hb hSt hR
  have hlt:j + 1 < its.size:=by omega
  refine codeAny_builtin F.entry_min_loop ?_
  rw [Around.under_plainId F.plain_min_loop _]
  show wpAny _ A.in1 (seqItems? (.ref S) >>= _) _ _ s
  refine wpAny_bind (wpAny_seqItems hSt rfl ?_)
  show wpAny _ A.in1 (tryCatch (pyNext (.ref I)) _ >>= _) _ _ s
  refine wpAny_bind (wpAny_tryCatch (wpAny_pyNext_list_item hit (hl.at fun o e=>kp _ _ e) (x:=its[j + 1]) (by simp [hlt]) fun h1 hit1 hs1=>?_))
  have hS1:=hs1.extBut S _ (Ne.symm hIS) hSt
  have kp1:∀ b o,h0.get? b=some o->h1.get? b=some o:=fun b o e=>hs1.extBut _ _ (nI e) (kp _ _ e)
  show wpAny _ A.in1 (tryCatch (holding [its[j + 1],its[j + 1]] (richCompare .Lt its[j + 1] vb >>= _)) _ >>= _) _ _ _
  refine wpAny_bind (wpAny_tryCatch (wpAny_holding (wpAny_bind (p_0 (i:=j + 1) (j:=argBest (btT rows) j) hu ht kp1 (by simp [hlt]) hb ?_))))
  refine wpAny_bind (wpAny_holding (wpAny_truthy_bool ?_))
  refine wpAny_bind (wpAny_letGo (wpAny_pure ?_))
  cases hbt:btT rows (j + 1) (argBest (btT rows) j) with
  | true=>
   simp only [if_true]
   refine wpAny_bind (wpAny_updateSeq hS1 rfl (wpAny_bind (wpAny_letGo ?_)))
   rw [hname]
   refine wpAny_pure ⟨plainId_quiet F.plain_min_loop _,ih (j + 1) _ its[j + 1] _ (by omega) hlt (fun b o e=>(Heap.get?_update_other _ _ (nS e)).trans (kp1 _ _ e)) (hit1.at fun o e=>(Heap.get?_update_other _ _ (Ne.symm hIS)).trans e) (by simp only [argBest,hbt,if_true]; simp [hlt]) (Heap.get?_update_self _ hS1 rfl) fun v h' tk hv kp'=>hR v h' tk hv kp'⟩
  | false=>
   simp only [Bool.false_eq_true,if_false]
   refine wpAny_bind (wpAny_letGo ?_)
   rw [hname]
   exact wpAny_pure ⟨plainId_quiet F.plain_min_loop _,ih (j + 1) _ vb c (by omega) hlt kp1 hit1 (by simp only [argBest,hbt,Bool.false_eq_true,if_false]; exact hb) hS1 fun v h' tk hv kp'=>hR v h' tk hv kp'⟩
theorem j_E {Q:Value->Shared->Prop} (hh:A.handled=none) (hu:A.in1.units < cLine) (hl:s.heap.IsList l its) (ht:o_o s.heap its.toList rows) (hn:0 < its.size) (hQ:∀ v h' tk,its[argBest (btT rows) (its.size - 1)]? = some v->(∀ b o,s.heap.get? b=some o->h'.get? b=some o)->Q v { s with heap:=h',toks:=tk }) :
  wpAny (model prog w) A (call (.builtin "min") [.ref l] [("default",d)]) Q E s:=by
 refine g_8 F.kind_min F.plain_min F.entry_min (g_y _ _) ?_
 show wpAny _ A.in1 (Builtin.Builtins.bindParams "min" ["key","default"] 0 ⟨[],[("default",d)]⟩ >>= _) _ _ s
 refine wpAny_bind (wpAny_of_eq (show Builtin.Builtins.bindParams "min" ["key","default"] 0 ⟨[],[("default",d)]⟩=pure [none,some d] from rfl) ?_)
 refine wpAny_bind (wpAny_pure ?_)
 refine wpAny_bind (wpAny_pyIter_list hl ?_)
 refine wpAny_bind (wpAny_newObj_type ?_)
 have hname:(toString "min" ++ toString ".loop":String) = "min.loop":=by decide
 rw [hname]
 generalize hg:(s.heap.push { cls:=.type "list_iterator",data:=.fields #[.ref l,.int 0 0] })=h1
 have e1:h1.get? s.heap.objs.size=some { cls:=.type "list_iterator",data:=.fields #[.ref l,.int 0 0] }:=by rw [<-hg]; exact Heap.get?_push_size _ rfl
 have k1:∀ b o,s.heap.get? b=some o->h1.get? b=some o:=fun b o e=>by rw [<-hg]; exact Heap.get?_push_of_some _ e
 have z1:h1.objs.size=s.heap.objs.size + 1:=by rw [<-hg,Heap.size_push]
 refine wpAny_pure ⟨plainId_quiet F.plain_min_loop _,?_⟩
 refine codeAny_builtin F.entry_min_loop ?_
 rw [Around.under_plainId F.plain_min_loop _]
 have hS:(h1.push { cls:=.type "list",data:=.seq #[] }).get? h1.objs.size=some { cls:=.type "list",data:=.seq #[] }:=Heap.get?_push_size _ rfl
 have k2:∀ b o,s.heap.get? b=some o->(h1.push { cls:=.type "list",data:=.seq #[] }).get? b=some o:=fun b o e=>Heap.get?_push_of_some _ (k1 b o e)
 show wpAny _ A.in1 (seqItems? (.ref h1.objs.size) >>= _) _ _ _
 refine wpAny_bind (wpAny_seqItems hS rfl ?_)
 show wpAny _ A.in1 (tryCatch (pyNext (.ref s.heap.objs.size)) _ >>= _) _ _ _
 refine wpAny_bind (wpAny_tryCatch (wpAny_pyNext_list_item (i:=0) (l:=l) (items:=its) (x:=its[0]) ⟨_,Heap.get?_push_of_some _ e1,rfl,rfl⟩ (hl.at fun o e=>k2 _ _ e) (by simp [hn]) fun h2 hit2 hs2=>?_))
 have ne:s.heap.objs.size ≠ h1.objs.size:=by rw [z1]; exact Nat.ne_of_lt (Nat.lt_succ_self _)
 have hS2:=hs2.extBut _ _ (Ne.symm ne) hS
 have k3:∀ b o,s.heap.get? b=some o->h2.get? b=some o:=fun b o e=>hs2.extBut _ _ (Nat.ne_of_lt (Heap.lt_size e)) (k2 _ _ e)
 show wpAny _ A.in1 (updateSeq h1.objs.size (fun _=>#[its[0],its[0]]) >>= _) _ _ _
 refine wpAny_bind (wpAny_updateSeq hS2 rfl ?_)
 rw [hname]
 refine wpAny_pure ⟨plainId_quiet F.plain_min_loop _,o_a (h0:=s.heap) (its:=its) (rows:=rows) hh hu ht hl (Nat.le_refl _) (by rw [z1]; exact Nat.le_succ _) ne _ 0 _ its[0] _ rfl hn (fun b o e=>(Heap.get?_update_other _ _ (fun z=>by subst z; exact absurd (Heap.lt_size e) (by rw [z1]; exact Nat.not_lt.mpr (Nat.le_succ _)))).trans (k3 _ _ e)) (hit2.at fun o e=>(Heap.get?_update_other _ _ (Ne.symm ne)).trans e) (by simp [argBest,hn]) (Heap.get?_update_self _ hS2 rfl) fun v h' tk hv kp=>hQ v h' tk hv kp⟩
end
end L2
namespace L2.L3
open PySem PySem.Spec PyProof.Rows
def h_4:List PyData->Option (List Int)
 | []=>some []
 | .int i :: r=>(h_4 r).map (i :: ·)
 | _=>none
def g_5:List PyData->Option (List (List Int))
 | []=>some []
 | .tuple ds :: r=>(match h_4 ds,g_5 r with | some x,some y=>some (x :: y) | _,_=>none)
 | _=>none
theorem k_x:∀ {ds:List PyData} {ns:List Int},h_4 ds=some ns->ds=ns.map PyData.int
 | [],ns,h=>by cases h; rfl
 | .int i :: r,ns,h=>by
  unfold h_4 at h
  obtain ⟨m,h1,h2⟩:=Option.map_eq_some_iff.mp h
  subst h2
  rw [k_x h1]; rfl
 | .none :: _,_,h=>by cases h
 | .bool _ :: _,_,h=>by cases h
 | .str _ :: _,_,h=>by cases h
 | .list _ :: _,_,h=>by cases h
 | .tuple _ :: _,_,h=>by cases h
 | .dict _ :: _,_,h=>by cases h
theorem k_Y:∀ {ds:List PyData} {rs:List (List Int)},g_5 ds=some rs->ds=rs.map fun r=>PyData.tuple (r.map PyData.int)
 | [],rs,h=>by cases h; rfl
 | .tuple l :: r,rs,h=>by
  unfold g_5 at h
  cases h1:h_4 l with
  | none=>rw [h1] at h; cases h
  | some x=>
   cases h2:g_5 r with
   | none=>rw [h1,h2] at h; cases h
   | some y=>
    rw [h1,h2] at h
    cases h
    rw [k_Y h2,k_x h1]; rfl
 | .none :: _,_,h=>by cases h
 | .bool _ :: _,_,h=>by cases h
 | .str _ :: _,_,h=>by cases h
 | .list _ :: _,_,h=>by cases h
 | .int _ :: _,_,h=>by cases h
 | .dict _ :: _,_,h=>by cases h
theorem m_t {H:Hp}:∀ {vs:List V} {ns:List Int},DVs H vs (ns.map PyData.int)->vs=ns.map V.int
 | _,[],.nil=>rfl
 | _,n :: ns,.cons h t=>by rw [h.int_inv,m_t t]; rfl
theorem m_x:∀ {ns:List Int} {us:List Value},b_y (ns.map V.int) us->IntsAre us ns
 | [],_,.nil=>.nil
 | n :: ns,_,.cons r t=>by
  obtain ⟨tk,rfl⟩:=r
  exact .cons n tk (m_x t)
def d_y:List (List Int)->List Int->List Int
 | [],b=>b
 | r :: rs,b=>d_y rs (if HT.lexLt r b=true then r else b)
theorem h_9 (rows:List (List Int)):∀ (k j:Nat),j + 1 + k=rows.length->d_y (rows.drop (j + 1)) (rows.getD (argBest (btT rows) j) [])=rows.getD (argBest (btT rows) (rows.length - 1)) []
 | 0,j,h=>by
  have e:rows.drop (j + 1)=[]:=List.drop_eq_nil_of_le (by omega)
  rw [e,d_y,show rows.length - 1=j by omega]
 | k + 1,j,h=>by
  have hlt:j + 1 < rows.length:=by omega
  rw [List.drop_eq_getElem_cons hlt,d_y,<-h_9 rows k (j + 1) (by omega)]
  congr 1
  have e1:rows.getD (j + 1) []=rows[j + 1]:=by rw [List.getD_eq_getElem?_getD,List.getElem?_eq_getElem hlt]; rfl
  simp only [argBest]
  unfold btT
  rw [e1]
  split
  ·exact e1.symm
  ·rfl
theorem hu1 {A:Around} (hu:A.units + 1 < cLine):A.in1.units < cLine:=by
 have:A.in1.units<=A.units + 1:=by first | exact Nat.le_refl _ | exact Nat.le_succ _
 exact Nat.lt_of_le_of_lt this hu
section
variable {X:Cx} {F:Fx} {E:Str->a_r->Prop} {pos p p1 kp kpos:Pos} {x:Str} {i:Nat}
def k_3 (i:Nat):XM PyData:=fun U=>match asO U i with
 | some (_,ds)=>(match g_5 ds with
  | some []=>.ok .none U
  | some (r :: rs)=>.ok (.tuple ((d_y rs r).map PyData.int)) U
  | none=>.bad)
 | none=>.bad
theorem s_A {kj:Nat} (hu:X.A.units + 1 < cLine) (hc:X.calm=true) (hg:Gl X "min") (hm:X.mg "min" = none) (hv:PE X (.Name x p1) (e_A i))
  (he0:starEach [.Name x p1] X.env=(false,eval (.Name x p1) X.env) :: starEach [] X.env:=by rfl)
  (he:backTo pos (starEach [.Name x p1] X.env)=(false,eval (.Name x p1) X.env) :: backTo pos (starEach [] X.env):=by rfl)
  (hplain:(backTo pos (starEach [.Name x p1] X.env)).any (·.1)=false:=by rfl)
  (hall:(backToKw pos (keywordEach [⟨some "default",.Constant .none kj kp,kpos⟩] X.env)).all (·.1.isSome)=true:=by rfl)
  (hkw:(backToKw pos (keywordEach [⟨some "default",.Constant .none kj kp,kpos⟩] X.env)).any (·.1.isNone)=false:=by rfl)
  (hn:(backToKw pos (keywordEach [⟨some "default",.Constant .none kj kp,kpos⟩] X.env)).filterMap (·.1)=[("default":Str)]:=by rfl) :
  FE X F E (.Call (.Name "min" p) [.Name x p1] [⟨some "default",.Constant .none kj kp,kpos⟩] pos) (k_3 i):=by
 refine ⟨a_m,fun pins s Y H Q I ⟨U,O,st,q⟩=>?_⟩
 unfold wp k_3 at q
 cases ho:asO U i with
 | none=>rw [ho] at q; exact q.elim
 | some pr=>
  obtain ⟨io,ds⟩:=pr
  rw [ho] at q
  simp only at q
  cases hr:g_5 ds with
  | none=>rw [hr] at q; exact q.elim
  | some rows=>
   rw [hr] at q
   obtain ⟨a,fp,hv0,⟨_,xs,hH,hd⟩,_,_⟩:=st.box (o_k ho)
   refine wpAny_Call_Name_kw (h_f I hg hm PyProof.Rows.boot_min ?_ (by decide) (by decide))
   refine PyProof.Rows.callWith_kw ?_ he hplain hall hkw
   refine thn ((b_e hv c_w he0) pos pins s Y H (fun vs H1=>vs=[.ref a]/\H1=H) I ⟨_,hv0,rfl,rfl⟩) fun us s1 ⟨vs,H1,I1,r1,e1,e2⟩=>?_
   subst e1 e2
   obtain ⟨u,rfl,ru⟩:=vals1 r1
   cases ru
   refine thn ((r_G (nm:=some "default") (kpos:=kpos) q_1 u_p) pos pins s1 Y H1 (fun vs H2=>vs=[.non]/\H2=H1) I1 ⟨rfl,rfl⟩) fun us s2 ⟨vs,H2,I2,r2,e1,e2⟩=>?_
   subst e1 e2
   obtain ⟨u,rfl,ru⟩:=vals1 r2
   cases ru
   rw [hn]
   obtain ⟨z1,its,n1,rv,g1⟩:=I2.hok _ _ hH
   have hds:=k_Y hr
   have L:s2.heap.IsList a its.toArray:=⟨_,g1,rfl,_,rfl⟩
   cases rows with
   | nil=>
    subst hds
    cases hd
    cases rv
    simp only at q
    refine k_F (l:=a) (d:=.none) (I2.ok.hd hc) L fun h' hk=>?_
    exact ⟨.non,H2,I2.kept (t':=s2.toks) hk,rfl,q _ H2 O st .refl .non⟩
   | cons r rs=>
    simp only at q
    have hlen:its.length=(r :: rs).length:=by rw [<-rv.length,hd.length,hds,List.length_map]
    have item:∀ (k:Nat) (v:Value),its[k]? = some v->∃ (T:Addr) (rk:List Int) (jts:List Value) (vv:V),v=.ref T/\IsTup s2.heap T jts.toArray/\(r :: rs)[k]? = some rk/\IntsAre jts rk/\b_P vv v/\DV (hide O H2) vv (.tuple (rk.map PyData.int)):=fun k v hk=>by
     have hkl:k < (r :: rs).length:=by rw [<-hlen]; exact (List.getElem?_eq_some_iff.mp hk).1
     have hdk:ds[k]? = some (.tuple (((r :: rs)[k]).map PyData.int)):=by rw [hds,List.getElem?_map,List.getElem?_eq_getElem hkl]; rfl
     obtain ⟨vv,hvv,dvv⟩:=hd.get hdk
     obtain ⟨w,hw,rw'⟩:=rv.get hvv
     rw [hk] at hw
     cases hw
     obtain ⟨T,ys,rfl,hT,hy⟩:=dvv.tup_inv
     obtain ⟨_,jts,rj,pj⟩:=I2.hok _ _ (a_F hT).1
     rw [m_t hy] at rj
     cases rw'
     exact ⟨T,_,jts,.ref T,rfl,pj,List.getElem?_eq_getElem hkl,m_x rj,rfl,dvv⟩
    refine j_E (l:=a) (its:=its.toArray) (rows:=r :: rs) (d:=.none) (I2.ok.hd hc) (hu1 hu) L ⟨hlen,fun k v hk=>by
     obtain ⟨T,rk,jts,vv,e1,e2,e3,e4,_,_⟩:=item k v hk
     exact ⟨T,jts.toArray,rk,e1,e2,e3,e4⟩⟩ (by simp only [List.size_toArray]; rw [hlen]; simp) fun v h' tk hv hk=>?_
    simp only [List.size_toArray,List.getElem?_toArray] at hv
    obtain ⟨T,rk,jts,vv,e1,e2,e3,e4,e5,e6⟩:=item _ v hv
    have hm:=h_9 (r :: rs) rs.length 0 (by simp; omega)
    have hb0:(r :: rs).getD (argBest (btT (r :: rs)) 0) []=r:=by simp [argBest]
    rw [hb0] at hm
    change d_y rs r=_ at hm
    rw [hlen] at e3
    have:rk=d_y rs r:=by rw [hm,List.getD_eq_getElem?_getD,e3]; rfl
    subst this
    exact ⟨vv,H2,I2.kept (t':=tk) hk,e5,q _ H2 O st .refl e6⟩
end
structure MD (K:PySem.W.Frag) (C:Addr) (m qual:Str) (st:Stmt) (ps:List Str) (g:Addr) (fd:FuncData):Prop where
 fn:Fun K m qual st g fd
 mt:Meth K C m g
 b:h_t K fd ps []
theorem scm {N P:List Str} {sc:Scope} (h1:sc.kind=.function:=by rfl) (h2:sc.isCoroutine=false:=by rfl) (h3:sc.isGenerator=false:=by rfl) (h4:N.Nodup:=by decide +kernel) (h5:N.take P.length=P:=by rfl) (h6:∀ x ∈ P,sc.names.lookup x=some .local\/sc.names.lookup x=some .cell:=by decide +kernel) (h7:∀ y ∈ sc.names,y.2 ≠ .free:=by decide +kernel):FnScope N P sc:=⟨h1,h2,h3,h4,h5,h6,h7⟩
section
variable {X:Cx} {F:Fx} {E:Str->a_r->Prop} {e:Expr} {es:List Expr} {pos p p1 apos:Pos} {x m q:Str} {C:Addr} {i k j:Nat} {g:Addr} {fd:FuncData} {ps:List Str} {f:FM} {st:Stmt} {mX:XM (List AX)}
theorem fv (i:Nat) (hN:X.N[i]? = some x:=by rfl) (hv:Vis X.env.scope x:=by first | exact Or.inl rfl | exact Or.inr (Or.inl rfl) | exact Or.inr (Or.inr rfl)) (hd:(x == ("__debug__":Str))=false:=by decide) (hcd:(x == ("__classdict__":Str))=false:=by decide):FE X F E (.Name x pos) (xV i):=y_X (q_U i (pv i hN hv hd hcd))
theorem fgn (i:Nat) (hN:X.N.Nodup) (hi:X.N[i]? = some x:=by rfl) (hx:Loc X.env.scope x:=by first | exact Or.inl rfl | exact Or.inr rfl) (hf:X.fn x=true\/X.env.scope.names.lookup x=some .local:=by first | exact .inl rfl | exact .inr rfl | assumption):FG X F (.Name x pos) (gNm i):=r_5 (r_D (r_2 hN hi hx hf))
theorem fcd (hx:XOk X F E) (G:FnOk X.prog X.w X.K X.mg X.base (CXM X.prog X.w) k g fd ps (spF X.K X.mg f)) (D:FD X.K X.mg x st ps g fd) (hr:Room j X.A) (ha:FX X F E (e :: es) mX) (hk:k<=j:=by decide) (hg:Gl X x:=by rfl) (hdb:(x == ("__debug__":Str))=false:=by decide)
  (he:starEach (e :: es) X.env=(false,eval e X.env) :: starEach es X.env:=by rfl) (hpl:(backTo pos (starEach es X.env)).any (·.1)=false:=by rfl):FO X F E (.Call (.Name x p) (e :: es) [] pos) (a_q f mX):=p_o (r_J hx G (hr.mono hk) hg D.mgf D.fn.kp D.b ha hdb he hpl)
theorem fmd {pl:Sem Bool} (hx:XOk X F E) (cl:Cls X.K C) (G:FnOk X.prog X.w X.K X.mg X.base (CXM X.prog X.w) k g fd ps (spF X.K X.mg f)) (D:MD X.K C m q st ps g fd) (hr:Room j X.A) (hv:PE X (.Name x p1) (e_A i)) (ha:FX X F E (e :: es) mX) (hk:k<=j:=by decide)
  (hst:starEach (e :: es) X.env=(false,eval e X.env) :: starEach es X.env:=by rfl) (hpl:(backTo pos (starEach es X.env)).any (·.1)=false:=by rfl)
  (ht:eval (.Call (.Attribute (.Name x p1) m apos) (e :: es) [] pos) X.env=(do
   let ov <-eval (.Name x p1) X.env
   standAt apos.atName
   let (f,first) <-holding [ov] (getMethod ov m pl)
   callWith pos f first (backTo pos (starEach (e :: es) X.env)) (backToKw pos (keywordEach [] X.env))):=by rfl) :
  FO X F E (.Call (.Attribute (.Name x p1) m apos) (e :: es) [] pos) (a_J C i m f mX):=s_K hx cl D.mt G (hr.mono hk) D.b hv ha hst hpl ht
theorem fmd0 {pl:Sem Bool} (hx:XOk X F E) (cl:Cls X.K C) (G:FnOk X.prog X.w X.K X.mg X.base (CXM X.prog X.w) k g fd ps (spF X.K X.mg f)) (D:MD X.K C m q st ps g fd) (hr:Room j X.A) (hv:PE X (.Name x p1) (e_A i)) (hk:k<=j:=by decide)
  (ht:eval (.Call (.Attribute (.Name x p1) m apos) [] [] pos) X.env=(do
   let ov <-eval (.Name x p1) X.env
   standAt apos.atName
   let (f,first) <-holding [ov] (getMethod ov m pl)
   callWith pos f first (backTo pos (starEach [] X.env)) (backToKw pos (keywordEach [] X.env))):=by rfl) :
  FO X F E (.Call (.Attribute (.Name x p1) m apos) [] [] pos) (b_z C i m f):=p_B hx cl D.mt G (hr.mono hk) D.b hv ht
end
end L2.L3
namespace HT
open PySem PyProof.Rows
section
variable {prog:Program} {w:World} {A:Around} {E:Value->Shared->Prop} {s:Shared}
theorem getItem_tuple_whole {t sl:Addr} {items:Array Value} {vl vu:Value} {lo hi:Option Int} {Q:Value->Shared->Prop} (ht:IsTup s.heap t items) (hs:s.heap.IsSliceOf sl vl vu .none) (pl:IsPart vl lo) (pu:IsPart vu hi)
  (h0:sIx items.size 0 lo=0) (h1:sIx items.size items.size hi=items.size) (h:Q (.ref t) s):wpAny (model prog w) A (getItem (.ref t) (.ref sl)) Q E s:=by
 obtain ⟨os,hos,hcs,hds⟩:=id hs
 have hTs:s.TypeIs (.ref sl) "slice":=⟨os,hos,hcs⟩
 unfold getItem
 try with_reducible refine wpAny_holding ?_
 first | refine wpAny_bind (wpAny_pure ?_) | skip
 refine wpAny_bind (wpAny_sequenceKey ht.typeIs (by decide) ?_)
 refine wpAny_bind (wpAny_callSpecial?_slot (name:=Str.ofString "__getitem__") ht.typeIs PyProof.Rows.slot_tuple_getitem (wpAny_call_entry PyProof.Rows.slot_tuple_getitem ht.typeIs entry_tuple_getitem ?_ (args_tuple_getitem _ _)))
 show wpAny _ _ (Builtin.Tuple.tupleItemsOf (.ref t) >>= _) _ _ s
 refine wpAny_bind (tupleItemsOf_ ht ?_)
 refine wpAny_bind (wpAny_typeOf hTs ?_)
 rw [if_pos (by decide)]
 refine wpAny_bind (e_U hs pl pu ?_)
 show wpAny _ _ (if (((sIx items.size 0 lo:Nat):Int) == 0 && (1:Int) == 1 && (sIx items.size items.size hi - sIx items.size 0 lo) == items.size)=true then _ else _) _ _ s
 rw [if_pos (by rw [h0,h1]; simp)]
 unfold Builtin.Tuple.tupleIsExact
 first
  | exact wpAny_bind (wpAny_bind (wpAny_typeOf ht.typeIs (wpAny_pure (by
    show wpAny _ _ (if ((Value.type "tuple" == Value.type "tuple"):Bool)=true then _ else _) _ _ s
    rw [if_pos (by decide)]
    exact wpAny_bind (wpAny_rule (wpAny_pure ⟨_,rfl,wpAny_pure h⟩))))))
  | exact wpAny_bind (wpAny_bind (wpAny_typeOf ht.typeIs (wpAny_pure (by
    show wpAny _ _ (if ((Value.type "tuple" == Value.type "tuple"):Bool)=true then _ else _) _ _ s
    rw [if_pos (by decide)]
    exact wpAny_bind (wpAny_rule (wpAny_bind (wpAny_pure (wpAny_pure ⟨_,rfl,wpAny_pure h⟩))))))))
  | exact wpAny_bind (wpAny_bind (wpAny_bind (wpAny_typeOf ht.typeIs (wpAny_pure (by
    show wpAny _ _ (if ((Value.type "tuple" == Value.type "tuple"):Bool)=true then _ else _) _ _ s
    rw [if_pos (by decide)]
    exact wpAny_bind (wpAny_rule (wpAny_pure (wpAny_pure ⟨_,rfl,wpAny_pure h⟩))))))))
end
end HT
namespace L2
open PySem PySem.Spec PyProof.Rows
section
variable {X:Cx}
def y_y (K:PySem.W.Frag):V->Option Int->Option Int->Hp->VK->Prop:=fun x lo hi H Q=>∃ a xs,x=.ref a/\SqT K H a xs/\HT.sIx xs.length 0 lo=0/\HT.sIx xs.length xs.length hi=xs.length/\Q (.ref a) H
theorem r_M:SlR X (y_y X.K):=by
 intro pins s Y H x v vl vu lo hi sl Q I rx hs pl pu h
 obtain ⟨a,xs,rfl,hx,h0,h1,q⟩:=h
 cases rx
 obtain ⟨its,r,ht,hz⟩:=I.tuple hx
 have hlen:its.toArray.size=xs.length:=by rw [List.size_toArray]; exact r.length.symm
 refine ⟨"tuple",_,PyProof.Rows.slot_tuple_getitem.lookup,ht.typeIs,?_⟩
 exact HT.getItem_tuple_whole ht hs pl pu (by rw [hlen]; exact h0) (by rw [hlen]; exact h1) ⟨.ref a,H,I,rfl,q⟩
end
end L2
namespace L2.L3
open PySem PySem.Spec PyProof.Rows
def p_J (ds:List PyData) (lo hi:Option Int):List PyData:=(ds.drop (HT.sIx ds.length 0 lo)).take (HT.sIx ds.length ds.length hi - HT.sIx ds.length 0 lo)
theorem DVs.drop {H:Hp}:∀ {vs:List V} {ds:List PyData} (n:Nat),DVs H vs ds->DVs H (vs.drop n) (ds.drop n)
 | _,_,0,h=>h
 | _,_,_ + 1,.nil=>.nil
 | _,_,n + 1,.cons _ t=>DVs.drop n t
theorem DVs.take {H:Hp}:∀ {vs:List V} {ds:List PyData} (n:Nat),DVs H vs ds->DVs H (vs.take n) (ds.take n)
 | _,_,0,_=>.nil
 | _,_,_ + 1,.nil=>.nil
 | _,_,n + 1,.cons h t=>.cons h (DVs.take n t)
theorem q_G {H:Hp} {vs:List V} {ds:List PyData} {lo hi:Option Int} (h:DVs H vs ds):DVs H (p_s vs lo hi) (p_J ds lo hi):=by
 unfold p_s p_J
 rw [h.length]
 exact DVs.take _ (DVs.drop _ h)
def rdP (K:PySem.W.Frag) (F:Fx) (t:a_r->(Option Int->a_r->Prop)->Prop):TO:=fun Y H Q=>∃ U O,DSt K F H Y U O/\t U fun o U'=>∀ H' O',DSt K F H' Y U' O'->Stp O H O' H'->Q o H'
section
variable {X:Cx} {F:Fx} {E:Str->a_r->Prop} {e:Expr} {pos p2:Pos} {lo hi:Option Expr}
def FP (X:Cx) (F:Fx) (E:Str->a_r->Prop) (e:Option Expr) (m:XM (Option Int)):Prop:=PO X e (rdP X.K F (wp E m))
@[simp] def pNo:XM (Option Int):=fun U=>.ok none U
@[simp] def pIs (m:XM PyData):XM (Option Int):=fun U=>(m U).bind fun d=>lift (match d with | .int i=>some (some i) | _=>none)
theorem PO.imp {e:Option Expr} {t t':TO} (h:PO X e t) (k:∀ Y H Q,t' Y H Q->t Y H Q):PO X e t':=fun pins s Y H Q I q=>h pins s Y H Q I (k Y H Q q)
theorem w_y:FP X F E none pNo:=PO.imp o_E fun Y H Q ⟨U,O,st,q⟩=>q H O st .refl
theorem w_m {m:XM PyData} (h:FE X F E e m):FP X F E (some e) (pIs m):=PO.imp (o_f h.pe) fun Y H Q ⟨U,O,st,q⟩=>⟨U,O,st,a_m _ _ _ (fun d U1 q1 v H1 O1 st1 s1 dv=>by
 obtain ⟨y,e1,q2⟩:=a_Y q1
 cases d with
 | int i=>cases e1; exact ⟨i,dv.int_inv,q2 H1 O1 st1 s1⟩
 | _=>cases e1) (a_w q)⟩
def slK (d:PyData) (l h:Option Int):Option PyData:=match d with
 | .list ds=>some (.list (p_J ds l h))
 | .tuple ds=>some (.tuple (p_J ds l h))
 | _=>none
@[simp] def xSl (m:XM PyData) (lo hi:XM (Option Int)):XM PyData:=fun U=>(m U).bind fun d U1=>(lo U1).bind fun l U2=>(hi U2).bind fun h=>lift (slK d l h)
theorem q_f {m:XM PyData} {ml mh:XM (Option Int)} (he:FE X F E e m) (hl:FP X F E lo ml) (hh:FP X F E hi mh):FE X F E (.Subscript e (.Slice lo hi none p2) pos) (xSl m ml mh):=
 ⟨a_m,(m_E (SlR.or (SlR.or u_W r_M) o_H) he.pe hl hh).imp fun Y H Q ⟨U,O,st,q⟩=>
  ⟨U,O,st,a_m _ _ _ (fun d U1 q1 v H1 O1 st1 s1 dv=>⟨U1,O1,st1,a_m _ _ _ (fun l U2 q2 H2 O2 st2 s2=>⟨U2,O2,st2,a_m _ _ _ (fun h U3 q3 H3 O3 st3 s3=>by
   obtain ⟨y,e1,q4⟩:=a_Y q3
   have dv3:=DV.mono (s2.trans s3).hid dv
   have s13:=s1.trans (s2.trans s3)
   cases d with
   | list ds=>
    cases e1
    obtain ⟨a,xs,rfl,ha,hx⟩:=dv3.lst_inv
    exact .inr ⟨a,xs,rfl,.of (a_F ha).1,fun p hp=>q4 _ _ O3 (st3.grow (a_n hp)) (s13.trans (.same (a_n hp))) (c_H hp (st3.nofree p hp) (q_G hx))⟩
   | tuple ds=>
    cases e1
    obtain ⟨a,xs,ev,ha,hx⟩:=id dv3.tup_inv
    subst ev
    refine .inl ?_
    by_cases hw:HT.sIx xs.length 0 l=0/\HT.sIx xs.length xs.length h=xs.length
    ·refine .inr ⟨a,xs,rfl,.of (a_F ha).1,hw.1,hw.2,q4 _ H3 O3 st3 s13 ?_⟩
     have:p_J ds l h=ds:=by
      unfold p_J
      rw [<-hx.length,hw.1,hw.2]
      rw [List.drop_zero,Nat.sub_zero,hx.length]
      exact List.take_length
     rw [this]; exact dv3
    ·exact .inl ⟨a,xs,rfl,.of (a_F ha).1,hw,fun p hp=>q4 _ _ O3 (st3.grow (a_n hp)) (s13.trans (.same (a_n hp))) (d_q hp (st3.nofree p hp) (q_G hx))⟩
   | _=>cases e1) (a_w (m:=mh) (k:=fun h=>lift (slK d l h)) q2)⟩) (a_w (m:=ml) (k:=fun l U2=>(mh U2).bind fun h=>lift (slK d l h)) q1)⟩) (a_w (m:=m) (k:=fun d U1=>(ml U1).bind fun l U2=>(mh U2).bind fun h=>lift (slK d l h)) q)⟩⟩
def j_q (C:Addr) (i:Nat) (f:Str):XM PyData:=fun U=>match d_H C U i with
 | some (_,fs)=>(match fs.lookup f with
  | some (.l ds)=>.ok (.tuple ds) U
  | _=>.bad)
 | none=>.bad
theorem n_D {C:Addr} {i:Nat} {f x:Str} {lp p1 fpos:Pos} (hg:Gl X "tuple") (hm:X.mg "tuple" = none) (cl:Cls X.K C) (na:b_a X.K C f) (hv:PE X (.Name x p1) (e_A i)) (hb:attributeBase (.Name x p1) f X.env (eval (.Name x p1) X.env)=eval (.Name x p1) X.env:=by rfl)
  (he:starEach [.Attribute (.Name x p1) f fpos] X.env=(false,eval (.Attribute (.Name x p1) f fpos) X.env) :: starEach [] X.env:=by rfl) (hpl:(backTo pos (starEach [] X.env)).any (·.1)=false:=by rfl) :
  FE X F E (.Call (.Name "tuple" lp) [.Attribute (.Name x p1) f fpos] [] pos) (j_q C i f):=
 ⟨a_m,(h_8 e_M hg hm (show bootBuiltins "tuple" = some (.type "tuple") by decide +kernel) (b_e (h_O hv hb) c_w he) (by decide) (by decide) he hpl).imp fun Y H Q ⟨U,O,st,q⟩=>by
  unfold wp j_q at q
  cases ho:d_H C U i with
  | none=>rw [ho] at q; exact q.elim
  | some p=>
   obtain ⟨io,fs⟩:=p
   rw [ho] at q
   simp only at q
   cases hlk:fs.lookup f with
   | none=>rw [hlk] at q; exact q.elim
   | some t=>
    rw [hlk] at q
    cases t with
    | d _=>exact q.elim
    | m _ _=>exact q.elim
    | l ds=>
     obtain ⟨a0,dx,gs,b0,hv0,e2,l1,⟨b1,xs,eb,_,hH,hdv⟩,_⟩:=st.fldUp ho hlk rfl
     cases eb
     exact ⟨_,hv0,a0,C,dx,gs,.ref b0,rfl,e2,cl,na,l1,b0,xs,rfl,.inl ⟨.of hH,fun p hp=>q _ _ O (st.grow (a_n hp)) (.same (a_n hp)) (d_q hp (st.nofree p hp) hdv)⟩⟩⟩
end
section
variable {X:Cx} {F:Fx} {a b:Expr} {ta tb:DT} {pos:Pos}
def x_h:D2:=fun x y Q=>∃ ds u us,y=.tuple ds/\l_G x=some u/\h_k ds=some us/\Q (.bool (inV u us))
theorem w_Z {K:PySem.W.Frag}:Op2 (rIn K false) x_h where
 mn:=fun _ _ _ _ k ⟨ds,u,us,e1,e2,e3,q⟩=>⟨ds,u,us,e1,e2,e3,k _ q⟩
 ok:=fun O H u v x y Q hO h1 h2 ⟨ds,u',us,e1,e2,e3,q⟩=>by
  subst e1
  obtain ⟨b,ys,rfl,hb,he⟩:=h2.tup_inv
  obtain ⟨rfl,f2⟩:=h_x he e3
  obtain ⟨rfl,f1⟩:=j_x h1 e2
  exact ⟨b,_,rfl,.inr (.of (a_F hb).1),f1,f2,q _ H (fun _ _ h=>h) (.bl _)⟩
theorem u_3 (ha:DE X F a ta) (hb:DE X F b tb) (hm:lastMarks [.In] [b]=false:=by with_unfolding_all rfl):DB X F (.Compare a [.In] [b] pos) (l_r (dOp x_h ta tb)):=h_i o_w w_Z ha hb hm
@[simp] def q_B:PyData->PyData->Option PyData:=fun x y=>match y with
 | .tuple ds=>(match l_G x,h_k ds with
  | some u,some us=>some (.bool (inV u us))
  | _,_=>none)
 | _=>none
theorem t_q:F2 x_h q_B:=fun x y d Q e q=>by
 unfold q_B at e
 split at e
 ·rename_i ds
  split at e
  ·rename_i u us h1 h2
   cases e
   exact ⟨ds,u,us,rfl,h1,h2,q⟩
  ·cases e
 ·cases e
end
end L2.L3
namespace Due
abbrev Sh:=List (Int × Int)
def j_r (a:Int):Sh->Int->Int
 | [],_=>a
 | (b,c) :: r,m=>j_r (if b<=m then c else a) r m
def n_E (a:Int) (ss:Sh) (m:Int):Int:=m + j_r a ss m
def h_d:Int->Sh->Prop
 | _,[]=>True
 | lo,(b,_) :: r=>lo < b/\h_d b r
def k_p (g:Int):Int->Int->Sh->Int
 | s,a,[]=>max s (g - a)
 | s,a,(b,c) :: r=>if max s (g - a) < b then max s (g - a) else k_p g b c r
def n_z (a:Int) (ss:Sh):Prop:=(-12<=a/\a<=14)/\∀ p ∈ ss,-12<=p.2/\p.2<=14
def stret (s a:Int):Sh->List (Int × Option Int × Int)
 | []=>[(s,none,a)]
 | (b,c) :: r=>(s,some b,a) :: stret b c r
def e_x (m:Int):Option Int->Bool
 | none=>true
 | some e=>decide (m < e)
def f_u (g:Int) (l:List (Int × Option Int × Int)):List Int:=(l.filter fun p=>e_x (max p.1 (g - p.2.2)) p.2.1).map fun p=>max p.1 (g - p.2.2)
theorem h_l (g:Int):∀ (ss:Sh) (s a:Int),∃ t,f_u g (stret s a ss)=k_p g s a ss :: t
 | [],s,a=>⟨[],rfl⟩
 | (b,c) :: r,s,a=>by
  obtain ⟨t,ih⟩:=h_l g r b c
  unfold stret k_p f_u
  rw [List.filter_cons]
  by_cases h:max s (g - a) < b
  ·rw [if_pos (by show decide (max s (g - a) < b)=true; exact decide_eq_true h),if_pos h]
   exact ⟨_,rfl⟩
  ·rw [if_neg (by show ¬ decide (max s (g - a) < b)=true; simpa using h),if_neg h]
   exact ⟨t,ih⟩
def h_P (a:Int) (ss:Sh) (h:Int):Int:=-((h - n_E a ss 0) / 24)
def o_B (a:Int) (ss:Sh) (h:Int) (c:Nat):Int:=k_p ((h_P a ss h + c) * 24 + h) 0 a ss
inductive Plan where
 | once (m:Int) | every (f s:Int) | daily (h:Int)
def f_9 (a:Int) (ss:Sh):Plan->Nat->Option Int
 | .once m,c=>if c=0 then some m else none
 | .every f s,c=>some (f + c * s)
 | .daily h,c=>some (o_B a ss h c)
structure ZOk (a:Int) (ss:Sh):Prop where
 len:ss.length<=6
 rise:h_d 0 ss
 ah:n_z a ss
 top:∀ p ∈ ss,p.1<=9999
def e_1:Plan->Prop
 | .once m=>0<=m/\m<=9999
 | .every f s=>(0<=f/\f<=9999)/\1<=s/\s<=999
 | .daily h=>0<=h/\h<=23
def u_Y (a:Int) (ss:Sh) (p:Plan) (c:Nat):Int:=(f_9 a ss p c).getD 0
end Due
namespace K3
open PySem PySem.Spec L2 L2.L3 PyProof.Rows
noncomputable abbrev exL:List Str:=["NoZone","NoPlan","NoMoment","NoCount","NoDeeds","NoDeed","NoRunner","NoTerm","NotHolder","Nothing","NoCall"]
noncomputable def e_e:SM:=(a_N (j_5 (xIs "int" (xV 0)) (j_5 (y_e (xIs "bool" (xV 0))) (o_4 (fun i j=>decide (i<=j)) (fun i j=>decide (i<=j)) (xV 1) (xV 0) (xV 2)))))
noncomputable def a_W:FM:=fnM 3 3 e_e
noncomputable def d_k:SM:=(a_N (j_5 (xIs "tuple" (xV 0)) (xOp (gEq false) (xCB n_v (a_f (xV 0) b_i)) (xV 1))))
noncomputable def b_b:FM:=fnM 2 2 d_k
noncomputable def g_A:SM:=(d_p (b_A (xOp gLe (xOp a_T (xV 3) (xC (.int 0))) (xV 1))) (c_L (xOp a_T (xV 3) (xC (.int 1))) (gNm 2)) sNx)
noncomputable def l_4:SM:=(a_h (c_L (xOp a_T (xV 0) (xC (.int 0))) (gNm 2))
  (a_h (i_e (iTs (xOp a_T (xV 0) (xC (.int 1)))) (gNm 3) g_A)
  (a_N (xOp h_G (xV 1) (xV 2)))))
noncomputable def j_d:FM:=fnM 2 4 l_4
noncomputable def e_C:XM PyData:=(xOp a_T (xV 0) (xC (.int 0)))
noncomputable def e_E:XM PyData:=(xOp a_T (xV 0) (xC (.int 1)))
noncomputable def f_H:SM:=(a_h (c_L (xOp m_7 (l_d (a_f (xC (.int 0)) b_i)) (j_b 1 [] (iTs (xOp a_T (xV 0) (xC (.int 1)))) (gNm 0) h_s e_C)) (gNm 1))
  (a_h (c_L (xOp m_7 (xU (u_U 1) (xV 1)) (l_d (a_f (xC .none) b_i))) (gNm 2))
  (a_h (c_L (xOp m_7 (l_d (a_f (xOp a_T (xV 0) (xC (.int 0))) b_i)) (j_b 1 [] (iTs (xOp a_T (xV 0) (xC (.int 1)))) (gNm 0) h_s e_E)) (gNm 3))
  (a_N (xCB nLZ (a_f (xV 1) (a_f (xV 2) (a_f (xV 3) b_i))))))))
noncomputable def e_H:FM:=fnM 1 4 f_H
noncomputable def e_P:SM:=(a_N (xOr (xOp gIs (xV 1) (xC .none)) (xOp gLt (xV 0) (xV 1))))
noncomputable def d_i:FM:=fnM 2 2 e_P
noncomputable def b_2:SM:=(a_h (d_p (b_A (xOp gLt (xV 1) (q_d 0))) (a_N (v_R 0 (xV 1))) sNx)
  (a_h (d_p (x_o 0) (a_N (xC (.int 0))) sNx)
  (a_N (xOp h_G (xOp r_j (v_R 0 (xOp t_a (xV 1) (q_d 0))) (xC (.int 31))) (xV 1)))))
noncomputable def b_t:FM:=fnM 2 2 b_2
noncomputable def g_1:SM:=(a_h (g_v 1 (i_H (a_f (m_O 0 exL "NoZone") (a_f (m_O 0 exL "NoPlan") (a_f (m_O 0 exL "NoMoment") (a_f (m_O 0 exL "NoCount") b_i))))))
  (a_h (v_K 1 (l_d (a_f (m_O 0 exL "NoDeeds") (a_f (m_O 0 exL "NoDeed") (a_f (m_O 0 exL "NoRunner") (a_f (m_O 0 exL "NoTerm") b_i))))))
  (a_h (v_K 1 (l_d (a_f (m_O 0 exL "NotHolder") (a_f (m_O 0 exL "Nothing") (a_f (m_O 0 exL "NoCall") b_i)))))
  (a_h (d_p (q_i (b_A (xOp (gEq true) (xMt v_P 1 (xC (.bool true))) (xC (.int 1)))) (f_x (b_A (w_S 0 exL)))) (a_N (g_J (a_f (xC (.str "refused")) (a_f (w_V (xC (.int 1))) b_i)))) sNx)
  (a_N (g_J (a_f (xC (.str "refused")) (a_f (xMt ixD 1 (xC (.bool true))) b_i))))))))
noncomputable def b_L:FM:=fnM 1 2 g_1
noncomputable def f_K (C:Addr):SM:=(a_N (j_5 (xOp e_Q (e_v C 0 "holder") (xC .none)) (xOp gLt (xV 1) (e_v C 0 "until"))))
noncomputable def d_w (C:Addr):FM:=fnM 2 2 (f_K C)
noncomputable def c_y (C:Addr):SM:=(a_h (c_L (xOp a_T (xV 1) (xC (.int 2))) (gNm 2))
  (a_h (c_L (xOp a_T (xV 1) (xC (.int 3))) (gNm 3))
  (a_h (c_L (xOp a_T (xV 1) (xC (.int 4))) (gNm 4))
  (a_h (f_W C 0 "rows" 1)
  (a_h (g_U C 0 "words" 3 4 (xV 2))
  (a_h (d_p (b_A (xOp (gEq false) (xV 2) (xC (.str "begun")))) (b_F C 0 "begun" (g_J (a_f (xV 3) (a_f (xV 4) (a_f (e_v C 0 "holds") b_i))))) (a_h (b_F C 0 "begun" (xC .none))
  (g_Z C 0 "settled" 3 (xOp h_G (xV 4) (xC (.int 1))))))
  (a_N (g_J (a_f (xV 2) (a_f (xV 3) (a_f (xV 4) b_i)))))))))))
noncomputable def a_I (C:Addr):FM:=fnM 2 5 (c_y C)
noncomputable def e_D (C:Addr):SM:=(a_N (j_5 (xOp e_Q (e_v C 0 "begun") (xC .none)) (xOp (gEq false) (xOp a_T (e_v C 0 "begun") (xC (.int 2))) (e_v C 0 "holds"))))
noncomputable def c_z (C:Addr):FM:=fnM 1 1 (e_D C)
noncomputable def j_4 (C:Addr):SM:=(a_N (g_J (a_f (e_v C 0 "holder") (a_f (e_v C 0 "until") (a_f (e_v C 0 "holds") b_i)))))
noncomputable def g_i (C:Addr):FM:=fnM 1 1 (j_4 C)
noncomputable def l_u (C:Addr):SM:=(a_N (h_D C 0 "rows"))
noncomputable def g_W (C:Addr):FM:=fnM 1 1 (l_u C)
noncomputable def i_a (C:Addr):SM:=(a_N (g_J (a_f (e_v C 0 "zone") (a_f (e_v C 0 "deeds") (a_f (e_v C 0 "last") (a_f (e_v C 0 "holder") (a_f (e_v C 0 "until") (a_f (e_v C 0 "holds") (a_f (e_v C 0 "begun") (a_f (j_q C 0 "rows") b_i))))))))))
noncomputable def f_g (C:Addr):FM:=fnM 1 1 (i_a C)
noncomputable def g_H:SM:=(e_O (a_q a_W (a_s (xV 0) (a_s (xC (.int (-12))) (a_s (xC (.int (14))) a_M)))))
noncomputable def e_s:FM:=fnM 1 1 g_H
noncomputable def f_R:SM:=(e_O (a_q a_W (a_s (xV 0) (a_s (xC (.int 0)) (a_s (xC (.int (9999))) a_M)))))
noncomputable def c_J:FM:=fnM 1 1 f_R
noncomputable def f_U:SM:=(e_O (a_q a_W (a_s (xV 0) (a_s (xC (.int 0)) (a_s (xC (.int (3))) a_M)))))
noncomputable def e_L:FM:=fnM 1 1 f_U
noncomputable def i_p:SM:=(e_O (a_q a_W (a_s (xV 0) (a_s (xC (.int 1)) (a_s (xC (.int (99))) a_M)))))
noncomputable def g_q:FM:=fnM 1 1 i_p
noncomputable def f_l:SM:=(a_N (j_5 (a_7 (a_q b_b (a_s (xV 0) (a_s (xV 2) a_M)))) (j_5 (xIs "str" (xOp a_T (xV 0) (xC (.int 0)))) (xOp (gEq false) (xOp a_T (xV 0) (xC (.int 0))) (xV 1)))))
noncomputable def c_i:FM:=fnM 3 3 f_l
noncomputable def c_U:XM Bool:=(b_A (a_7 (a_q d_i (a_s (xCB v_D (a_f (xV 0) (a_f (xOp p_q (xV 3) (xV 2)) b_i))) (a_s (xV 1) a_M)))))
noncomputable def c_V:XM PyData:=(xCB v_D (a_f (xV 0) (a_f (xOp p_q (xV 3) (xV 2)) b_i)))
noncomputable def d_A:SM:=(a_h (c_L (j_b 3 [1] (iLs (a_7 (a_q e_H (a_s (xV 0) a_M)))) (k_h 3 (d_e (gNm 0) (d_e (gNm 1) (d_e (gNm 2) k_z)))) c_U c_V) (gNm 2))
  (a_N (xOp a_T (xV 2) (xC (.int 0)))))
noncomputable def c_r:FM:=fnM 2 3 d_A
noncomputable def f_P:SM:=(a_N (w_V (xOp x_E (xOp p_q (xV 1) (a_7 (a_q j_d (a_s (xV 0) (a_s (xC (.int 0)) a_M))))) (xC (.int (24))))))
noncomputable def e_I:FM:=fnM 2 2 f_P
noncomputable def f_j:SM:=(a_h (c_L (xOp t_a (xOp r_j (xOp h_G (xOp h_G (a_7 (a_q b_t (a_t 0 (a_s (xV 1) a_M)))) (xOp r_j (xC (.int 7919)) (xV 1))) (xC (.int 1))) (xC (.int 48271))) (xC (.int 2147483647))) (gNm 3))
  (a_N (xOp t_a (xOp t_a (xOp h_G (xOp h_G (xOp r_j (xV 3) (xV 3)) (xOp r_j (xC (.int 7)) (xV 3))) (xV 1)) (xC (.int 2147483629))) (xV 2))))
noncomputable def d_S:FM:=fnM 3 4 f_j
noncomputable def a_5 (C:Addr):SM:=(a_h (c_L (xOp a_T (e_v C 0 "begun") (xC (.int 0))) (gNm 3))
  (a_h (c_L (xIf (b_A (xOp a_T (xOp a_T (e_v C 0 "deeds") (xV 3)) (xC (.int (2))))) (xC (.str "begun")) (xC (.str "unsure"))) (gNm 4))
  (e_O (a_J C 0 "add_row" (a_I C) (a_s (g_J (a_f (xV 2) (a_f (xV 1) (a_f (xV 4) (a_f (xV 3) (a_f (xOp a_T (e_v C 0 "begun") (xC (.int 1))) b_i)))))) a_M)))))
noncomputable def a_O (C:Addr):FM:=fnM 3 5 (a_5 C)
noncomputable def b_4:SM:=(a_h (d_p (q_i (f_x (b_A (a_7 (a_q b_b (a_s (xV 2) (a_s (xC (.int 2)) a_M)))))) (f_x (b_A (a_7 (a_q e_s (a_s (xOp a_T (xV 2) (xC (.int 1))) a_M)))))) (a_N (xC (.bool false))) sNx)
  (a_h (d_p (f_x (b_A (a_7 (a_q a_W (a_s (xOp a_T (xV 2) (xC (.int 0))) (a_s (xV 1) (a_s (xC (.int (9999))) a_M))))))) (a_N (xC (.bool false))) sNx)
  (c_L (xOp h_G (xOp a_T (xV 2) (xC (.int 0))) (xC (.int 1))) (gNm 1))))
noncomputable def e_8:SM:=(a_h (d_p (q_i (f_x (b_A (xIs "tuple" (xV 0)))) (b_A (xOp gGt (xCB n_v (a_f (xV 0) b_i)) (xC (.int (6)))))) (a_N (xC (.bool false))) sNx)
  (a_h (c_L (xC (.int 1)) (gNm 1))
  (a_h (i_e (iTs (xV 0)) (gNm 2) b_4)
  (a_N (xC (.bool true))))))
noncomputable def d_M:FM:=fnM 1 3 e_8
noncomputable def e_X:SM:=(a_h (d_p (b_A (a_7 (a_q c_i (a_s (xV 0) (a_s (xC (.str "once")) (a_s (xC (.int 2)) a_M)))))) (e_O (a_q c_J (a_s (xOp a_T (xV 0) (xC (.int 1))) a_M))) sNx)
  (a_h (d_p (b_A (a_7 (a_q c_i (a_s (xV 0) (a_s (xC (.str "every")) (a_s (xC (.int 3)) a_M)))))) (a_N (j_5 (a_7 (a_q c_J (a_s (xOp a_T (xV 0) (xC (.int 1))) a_M))) (a_7 (a_q a_W (a_s (xOp a_T (xV 0) (xC (.int 2))) (a_s (xC (.int 1)) (a_s (xC (.int (999))) a_M))))))) sNx)
  (a_N (j_5 (a_7 (a_q c_i (a_s (xV 0) (a_s (xC (.str "daily")) (a_s (xC (.int 2)) a_M))))) (a_7 (a_q a_W (a_s (xOp a_T (xV 0) (xC (.int 1))) (a_s (xC (.int 0)) (a_s (xC (.int (23))) a_M)))))))))
noncomputable def e_n:FM:=fnM 1 1 e_X
noncomputable def f_c:SM:=(a_h (d_p (b_A (xIs "str" (xV 0))) (a_N (xOr (xOp (gEq false) (xV 0) (xC (.str "all"))) (xOp (gEq false) (xV 0) (xC (.str "last"))))) sNx)
  (a_N (j_5 (a_7 (a_q c_i (a_s (xV 0) (a_s (xC (.str "within")) (a_s (xC (.int 2)) a_M))))) (a_7 (a_q a_W (a_s (xOp a_T (xV 0) (xC (.int 1))) (a_s (xC (.int 0)) (a_s (xC (.int (999))) a_M))))))))
noncomputable def e_g:FM:=fnM 1 1 f_c
noncomputable def d_8:SM:=(d_p (f_x (b_A (a_7 (a_q c_J (a_s (xV 0) a_M))))) (d_6 "NoMoment") sNx)
noncomputable def c_2:FM:=fnM 1 1 d_8
noncomputable def d_2:SM:=(d_p (f_x (b_A (a_7 (a_q e_L (a_s (xV 0) a_M))))) (d_6 "NoRunner") sNx)
noncomputable def c_Z:FM:=fnM 1 1 d_2
noncomputable def e_Y:SM:=(d_p (f_x (b_A (a_7 (a_q g_q (a_s (xV 0) a_M))))) (d_6 "NoTerm") sNx)
noncomputable def d_Z:FM:=fnM 1 1 e_Y
noncomputable def f_f:SM:=(a_h (c_L (xOp h_G (a_7 (a_q e_I (a_s (xV 0) (a_s (xV 1) a_M)))) (xV 2)) (gNm 3))
  (e_O (a_q c_r (a_s (xV 0) (a_s (xOp h_G (xOp r_j (xV 3) (xC (.int (24)))) (xV 1)) a_M)))))
noncomputable def d_U:FM:=fnM 3 4 f_f
noncomputable def f_0:SM:=(a_h (p_p 1 (xC (.int 0)))
  (e_O (a_q d_S (a_t 0 (a_s (s_P 1) (a_s (xV 2) a_M))))))
noncomputable def a_l:FM:=fnM 3 3 f_0
noncomputable def i_q:SM:=(a_N (j_5 (a_7 (a_q b_b (a_s (xV 0) (a_s (xC (.int 2)) a_M)))) (j_5 (a_7 (a_q e_s (a_s (xOp a_T (xV 0) (xC (.int 0))) a_M))) (a_7 (a_q d_M (a_s (xOp a_T (xV 0) (xC (.int 1))) a_M))))))
noncomputable def g_j:FM:=fnM 1 1 i_q
noncomputable def i_y:SM:=(a_N (j_5 (a_7 (a_q b_b (a_s (xV 0) (a_s (xC (.int 3)) a_M)))) (j_5 (a_7 (a_q e_n (a_s (xOp a_T (xV 0) (xC (.int 0))) a_M))) (j_5 (a_7 (a_q e_g (a_s (xOp a_T (xV 0) (xC (.int 1))) a_M))) (xIs "bool" (xOp a_T (xV 0) (xC (.int 2))))))))
noncomputable def g_t:FM:=fnM 1 1 i_y
noncomputable def e_l:SM:=(a_h (d_p (b_A (xOp (gEq false) (xOp a_T (xV 1) (xC (.int 0))) (xC (.str "once")))) (a_N (xIf (b_A (xOp (gEq false) (xV 2) (xC (.int 0)))) (xOp a_T (xV 1) (xC (.int 1))) (xC .none))) sNx)
  (a_h (d_p (b_A (xOp (gEq false) (xOp a_T (xV 1) (xC (.int 0))) (xC (.str "every")))) (a_N (xOp h_G (xOp a_T (xV 1) (xC (.int 1))) (xOp r_j (xV 2) (xOp a_T (xV 1) (xC (.int 2)))))) sNx)
  (e_O (a_q d_U (a_s (xV 0) (a_s (xOp a_T (xV 1) (xC (.int 1))) (a_s (xV 2) a_M)))))))
noncomputable def b_M:FM:=fnM 3 3 e_l
noncomputable def f_G:SM:=(a_N (xOp a_T (xV 2) (a_7 (a_q a_l (a_t 0 (a_t 1 (a_s (xCB n_v (a_f (xV 2) b_i)) a_M)))))))
noncomputable def a_X:FM:=fnM 3 3 f_G
noncomputable def c_4 (C:Addr):SM:=(a_h (l_Z (a_q c_Z (a_s (xV 1) a_M)))
  (a_h (l_Z (a_q c_2 (a_s (xV 2) a_M)))
  (d_p (o_s (b_A (xOp e_Q (e_v C 0 "last") (xC .none))) (b_A (xOp gLt (xV 2) (e_v C 0 "last")))) (d_6 "NoMoment") sNx)))
noncomputable def a_L (C:Addr):FM:=fnM 3 3 (c_4 C)
noncomputable def d_l:XM PyData:=(a_7 (a_q g_t (a_s (xV 0) a_M)))
noncomputable def f_Z:SM:=(a_h (d_p (q_i (f_x (b_A (xIs "tuple" (xV 0)))) (b_A (xOp gGt (xCB n_v (a_f (xV 0) b_i)) (xC (.int (6)))))) (a_N (xC (.bool false))) sNx)
  (a_N (xCB t_e (a_f (j_b 1 [] (iTs (xV 0)) (gNm 0) h_s d_l) b_i))))
noncomputable def f_L:FM:=fnM 1 1 f_Z
noncomputable def e_0:SM:=(d_p (f_x (b_A (a_7 (a_q g_j (a_s (xV 0) a_M))))) (d_6 "NoZone") sNx)
noncomputable def c_6:FM:=fnM 1 1 e_0
noncomputable def b_V:SM:=(a_h (d_p (b_A (xOp (gEq false) (xOp a_T (xV 1) (xC (.int (1)))) (xC (.str "all")))) (a_N (xC (.bool false))) sNx)
  (a_h (d_p (b_A (xOp (gEq false) (xOp a_T (xV 1) (xC (.int (1)))) (xC (.str "last")))) (a_h (c_L (a_7 (a_q b_M (a_s (xV 0) (a_s (xOp a_T (xV 1) (xC (.int (0)))) (a_s (xOp h_G (xV 2) (xC (.int 1))) a_M))))) (gNm 4))
  (a_N (j_5 (xOp e_Q (xV 4) (xC .none)) (xOp gLe (xV 4) (xV 3))))) sNx)
  (a_N (xOp gGt (xOp p_q (xV 3) (a_7 (a_q b_M (a_s (xV 0) (a_s (xOp a_T (xV 1) (xC (.int (0)))) (a_s (xV 2) a_M)))))) (xOp a_T (xOp a_T (xV 1) (xC (.int (1)))) (xC (.int 1)))))))
noncomputable def b_n:FM:=fnM 4 5 b_V
noncomputable def c_n:SM:=(a_h (c_L (xOp h_G (xOp h_G (xV 3) (xC (.int 1))) (a_7 (a_q a_l (a_t 0 (a_t 1 (a_s (a_7 (a_q a_X (a_t 0 (a_t 1 (a_s (l_d (a_f (xC (.int 4)) (a_f (xC (.int 40)) (a_f (xC (.int 200)) b_i)))) a_M))))) a_M)))))) (gNm 3))
  (p_p 2 (g_J (a_f (xV 3) (a_f (xOp p_q (a_7 (a_q a_l (a_t 0 (a_t 1 (a_s (xC (.int 27)) a_M))))) (xC (.int 12))) b_i)))))
noncomputable def e_G:XM PyData:=(g_J (a_f (xV 1) (a_f (xOp h_G (xC (.int 1)) (xOp t_a (xV 0) (xC (.int 2)))) b_i)))
noncomputable def e_w:SM:=(a_h (g_v 2 (i_H b_i))
  (a_h (c_L (xC (.int 0)) (gNm 3))
  (a_h (i_e (iLf rng1 (a_f (a_7 (a_q a_l (a_t 0 (a_t 1 (a_s (xC (.int 7)) a_M))))) b_i)) (gNm 4) c_n)
  (a_h (d_p (b_A (xOp (gEq false) (a_7 (a_q a_l (a_t 0 (a_t 1 (a_s (xC (.int 2)) a_M))))) (xC (.int 0)))) (c_L (j_b 3 [] (iLf enm1 (a_f (xV 2) b_i)) (k_h 2 (d_e (gNm 0) (d_e (k_h 2 (d_e (gNm 1) (d_e (gNm 2) k_z))) k_z))) h_s e_G) (gNm 2)) sNx)
  (a_N (g_J (a_f (xOp p_q (a_7 (a_q a_l (a_t 0 (a_t 1 (a_s (xC (.int 27)) a_M))))) (xC (.int 12))) (a_f (xCB m_g (a_f (xV 2) b_i)) b_i))))))))
noncomputable def d_u:FM:=fnM 2 5 e_w
noncomputable def d_F:SM:=(a_h (c_L (a_7 (a_q a_l (a_t 0 (a_t 1 (a_s (xC (.int 5)) a_M))))) (gNm 2))
  (a_h (d_p (b_A (xOp (gEq false) (xV 2) (xC (.int 0)))) (a_N (g_J (a_f (xC (.str "once")) (a_f (a_7 (a_q a_l (a_t 0 (a_t 1 (a_s (a_7 (a_q a_X (a_t 0 (a_t 1 (a_s (l_d (a_f (xC (.int 100)) (a_f (xC (.int 100)) (a_f (xC (.int 2500)) b_i)))) a_M))))) a_M))))) b_i)))) sNx)
  (a_h (d_p (b_A (xOp gLt (xV 2) (xC (.int 3)))) (a_h (c_L (xOp h_G (xC (.int 1)) (a_7 (a_q a_l (a_t 0 (a_t 1 (a_s (a_7 (a_q a_X (a_t 0 (a_t 1 (a_s (l_d (a_f (xC (.int 30)) (a_f (xC (.int 30)) (a_f (xC (.int 999)) b_i)))) a_M))))) a_M)))))) (gNm 3))
  (a_N (g_J (a_f (xC (.str "every")) (a_f (a_7 (a_q a_l (a_t 0 (a_t 1 (a_s (xC (.int 50)) a_M))))) (a_f (xV 3) b_i)))))) sNx)
  (a_N (g_J (a_f (xC (.str "daily")) (a_f (a_7 (a_q a_l (a_t 0 (a_t 1 (a_s (xC (.int 24)) a_M))))) b_i)))))))
noncomputable def c_M:FM:=fnM 2 4 d_F
noncomputable def h_V:SM:=(a_h (c_L (a_7 (a_q a_l (a_t 0 (a_t 1 (a_s (xC (.int 4)) a_M))))) (gNm 4))
  (a_h (d_p (o_s (b_A (xOp e_Q (xV 3) (xC .none))) (b_A (xOp gGt (a_7 (a_q a_l (a_t 0 (a_t 1 (a_s (xC (.int 4)) a_M))))) (xC (.int 0))))) (c_L (xV 3) (gNm 4)) sNx)
  (a_h (c_L (xOp h_G (xV 2) (a_7 (a_q a_X (a_t 0 (a_t 1 (a_s (l_d (a_f (xC (.int 0)) (a_f (xC (.int 0)) (a_f (xC (.int 0)) (a_f (xC (.int 1)) (a_f (xC (.int 2)) (a_f (a_7 (a_q a_l (a_t 0 (a_t 1 (a_s (xC (.int 30)) a_M))))) b_i))))))) a_M)))))) (gNm 5))
  (a_h (c_L (a_7 (a_q a_l (a_t 0 (a_t 1 (a_s (xC (.int 10)) a_M))))) (gNm 6))
  (a_h (d_p (q_i (b_A (xOp gIs (xV 3) (xC .none))) (b_A (xOp gLt (xV 6) (xC (.int 2))))) (a_N (g_J (a_f (xC (.str "take")) (a_f (xV 4) (a_f (xV 5) (a_f (xOp h_G (xC (.int 1)) (a_7 (a_q a_l (a_t 0 (a_t 1 (a_s (a_7 (a_q a_X (a_t 0 (a_t 1 (a_s (l_d (a_f (xC (.int 4)) (a_f (xC (.int 99)) b_i))) a_M))))) a_M)))))) b_i)))))) sNx)
  (a_h (d_p (b_A (xOp (gEq false) (xV 6) (xC (.int 2)))) (a_N (g_J (a_f (xC (.str "give")) (a_f (xV 4) (a_f (xV 5) b_i))))) sNx)
  (a_N (xOp a_T (xOp v_I (l_d (a_f (g_J (a_f (xC (.str "step")) (a_f (xV 4) (a_f (xV 5) b_i)))) (a_f (g_J (a_f (xC (.str "finish")) (a_f (xV 4) (a_f (xV 5) b_i)))) b_i))) (xC (.int 4))) (xOp p_q (xV 6) (xC (.int 3)))))))))))
noncomputable def d_E:FM:=fnM 4 7 h_V
noncomputable def b_o (C:Addr):SM:=(a_h (l_Z (a_J C 0 "check_call" (a_L C) (a_s (xV 1) (a_s (xV 2) a_M))))
  (d_p (q_i (f_x (b_A (a_7 (a_J C 0 "is_held" (d_w C) (a_s (xV 2) a_M))))) (b_A (xOp (gEq true) (e_v C 0 "holder") (xV 1)))) (d_6 "NotHolder") sNx))
noncomputable def a_j (C:Addr):FM:=fnM 3 3 (b_o C)
noncomputable def f_4 (C:Addr):SM:=(a_h (l_Z (a_J C 0 "check_call" (a_L C) (a_s (xV 1) (a_s (xV 2) a_M))))
  (a_h (l_Z (a_q d_Z (a_s (xV 3) a_M)))
  (a_h (b_F C 0 "last" (xV 2))
  (a_h (d_p (f_x (b_A (a_7 (a_J C 0 "is_held" (d_w C) (a_s (xV 2) a_M))))) (j_N C 0 "holds" 1) (d_p (b_A (xOp (gEq true) (e_v C 0 "holder") (xV 1))) (a_N (xC (.bool false))) sNx))
  (a_h (b_F C 0 "holder" (xV 1))
  (a_h (b_F C 0 "until" (xOp h_G (xV 2) (xV 3)))
  (a_N (xC (.bool true)))))))))
noncomputable def d_T (C:Addr):FM:=fnM 4 4 (f_4 C)
noncomputable def a_B (C:Addr):SM:=(a_h (c_L (k_C C 0 "settled" 2) (gNm 3))
  (a_h (c_L (a_7 (a_q b_M (a_s (e_v C 0 "zone") (a_s (xOp a_T (xOp a_T (e_v C 0 "deeds") (xV 2)) (xC (.int (0)))) (a_s (xV 3) a_M))))) (gNm 4))
  (d_p (b_A (xOp e_Q (xV 4) (xC .none))) (p_p 1 (g_J (a_f (xV 4) (a_f (xV 2) (a_f (xV 3) b_i))))) sNx)))
noncomputable def d_C (C:Addr):SM:=(a_h (g_v 1 (i_H b_i))
  (a_h (i_e (iLf rng1 (a_f (xCB n_v (a_f (e_v C 0 "deeds") b_i)) b_i)) (gNm 2) (a_B C))
  (a_N (k_3 1))))
noncomputable def b_7 (C:Addr):FM:=fnM 1 5 (d_C C)
noncomputable def e_z:SM:=(d_p (f_x (b_A (a_7 (a_q f_L (a_s (xV 0) a_M))))) (d_6 "NoDeeds") sNx)
noncomputable def c_o:FM:=fnM 1 1 e_z
noncomputable def b_3:SM:=(a_h (c_L (a_7 (a_q a_l (a_t 0 (a_t 1 (a_s (a_7 (a_q a_X (a_t 0 (a_t 1 (a_s (l_d (a_f (xC (.int 30)) (a_f (xC (.int 30)) (a_f (xC (.int 1000)) b_i)))) a_M))))) a_M))))) (gNm 4))
  (a_h (c_L (a_7 (a_q a_X (a_t 0 (a_t 1 (a_s (l_d (a_f (xC (.str "all")) (a_f (xC (.str "last")) (a_f (g_J (a_f (xC (.str "within")) (a_f (xV 4) b_i))) b_i)))) a_M))))) (gNm 5))
  (p_p 2 (g_J (a_f (a_7 (a_q c_M (a_t 0 (a_t 1 a_M)))) (a_f (xV 5) (a_f (xOp (gEq false) (a_7 (a_q a_l (a_t 0 (a_t 1 (a_s (xC (.int 2)) a_M))))) (xC (.int 0))) b_i)))))))
noncomputable def f_a:SM:=(a_h (g_v 2 (i_H b_i))
  (a_h (i_e (iLf rng1 (a_f (a_7 (a_q a_l (a_t 0 (a_t 1 (a_s (a_7 (a_q a_X (a_t 0 (a_t 1 (a_s (l_d (a_f (xC (.int 5)) (a_f (xC (.int 5)) (a_f (xC (.int 7)) b_i)))) a_M))))) a_M))))) b_i)) (gNm 3) b_3)
  (a_N (xCB m_g (a_f (xV 2) b_i)))))
noncomputable def d_L:FM:=fnM 2 6 f_a
noncomputable def h_J (C:Addr):SM:=(a_h (l_Z (a_J C 0 "check_holder" (a_j C) (a_s (xV 1) (a_s (xV 2) a_M))))
  (a_h (b_F C 0 "last" (xV 2))
  (b_F C 0 "holder" (xC .none))))
noncomputable def d_K (C:Addr):FM:=fnM 3 3 (h_J C)
noncomputable def b_u (C:Addr):SM:=(a_h (c_L (a_7 (b_z C 0 "first_unsettled" (b_7 C))) (gNm 3))
  (a_h (d_p (b_A (xOp gIs (xV 3) (xC .none))) (a_N (g_J (a_f (xC (.str "idle")) (a_f (xC .none) b_i)))) sNx)
  (a_h (d_p (b_A (xOp gGt (xOp a_T (xV 3) (xC (.int 0))) (xV 2))) (a_N (g_J (a_f (xC (.str "idle")) (a_f (xOp a_T (xV 3) (xC (.int 0))) b_i)))) sNx)
  (a_h (c_L (xOp a_T (xV 3) (xC (.int 1))) (gNm 4))
  (a_h (c_L (xOp a_T (xV 3) (xC (.int 2))) (gNm 5))
  (a_h (c_L (xIf (b_A (a_7 (a_q b_n (a_s (e_v C 0 "zone") (a_s (xOp a_T (e_v C 0 "deeds") (xV 4)) (a_s (xV 5) (a_s (xV 2) a_M))))))) (xC (.str "left")) (xC (.str "begun"))) (gNm 6))
  (e_O (a_J C 0 "add_row" (a_I C) (a_s (g_J (a_f (xV 2) (a_f (xV 1) (a_f (xV 6) (a_f (xV 4) (a_f (xV 5) b_i)))))) a_M)))))))))
noncomputable def b_f (C:Addr):FM:=fnM 3 7 (b_u C)
noncomputable def e_b (C:Addr):SM:=(a_h (l_Z (a_J C 0 "check_holder" (a_j C) (a_s (xV 1) (a_s (xV 2) a_M))))
  (a_h (d_p (f_x (b_A (a_7 (b_z C 0 "is_busy" (c_z C))))) (d_6 "Nothing") sNx)
  (a_h (b_F C 0 "last" (xV 2))
  (e_O (a_J C 0 "add_row" (a_I C) (a_s (g_J (a_f (xV 2) (a_f (xV 1) (a_f (xC (.str "done")) (a_f (xOp a_T (e_v C 0 "begun") (xC (.int 0))) (a_f (xOp a_T (e_v C 0 "begun") (xC (.int 1))) b_i)))))) a_M))))))
noncomputable def a_P (C:Addr):FM:=fnM 3 3 (e_b C)
noncomputable def c_1 (C:Addr):XM PyData:=(xC (.int 0))
noncomputable def f_b (C:Addr):SM:=(a_h (l_Z (a_q c_6 (a_s (xV 1) a_M)))
  (a_h (l_Z (a_q c_o (a_s (xV 2) a_M)))
  (a_h (b_F C 0 "zone" (xV 1))
  (a_h (b_F C 0 "deeds" (xV 2))
  (a_h (b_F C 0 "last" (xC .none))
  (a_h (b_F C 0 "holder" (xC .none))
  (a_h (b_F C 0 "until" (xC (.int 0)))
  (a_h (b_F C 0 "holds" (xC (.int 0)))
  (a_h (b_F C 0 "begun" (xC .none))
  (a_h (f_X C 0 "rows" (.l []))
  (a_h (f_X C 0 "words" (.m true []))
  (l_V C 0 "settled" 1 [] (iTs (xV 2)) (gNm 0) h_s (c_1 C)))))))))))))
noncomputable def c_7 (C:Addr):FM:=fnM 3 3 (f_b C)
noncomputable def f_q (C:Addr):SM:=(a_h (l_Z (a_J C 0 "check_holder" (a_j C) (a_s (xV 1) (a_s (xV 2) a_M))))
  (a_h (b_F C 0 "last" (xV 2))
  (a_h (d_p (b_A (a_7 (b_z C 0 "is_busy" (c_z C)))) (a_N (g_J (a_f (xC (.str "busy")) (a_f (xOp a_T (e_v C 0 "begun") (xC (.int 0))) (a_f (xOp a_T (e_v C 0 "begun") (xC (.int 1))) b_i))))) sNx)
  (a_h (d_p (b_A (xOp e_Q (e_v C 0 "begun") (xC .none))) (e_O (a_J C 0 "step_behind_a_fall" (a_O C) (a_s (xV 1) (a_s (xV 2) a_M)))) sNx)
  (e_O (a_J C 0 "step_ahead" (b_f C) (a_s (xV 1) (a_s (xV 2) a_M))))))))
noncomputable def a_V (C:Addr):FM:=fnM 3 3 (f_q C)
noncomputable def a_S (C:Addr):SM:=(a_h (c_L (a_7 (a_J C 0 "step" (a_V C) (a_s (xV 1) (a_s (xV 2) a_M)))) (gNm 6))
  (a_h (p_p 4 (xV 6))
  (a_h (d_p (b_A (xOp (gEq false) (xOp a_T (xV 6) (xC (.int 0))) (xC (.str "idle")))) x_4 sNx)
  (d_p (q_i (b_A (xOp (gEq false) (xOp a_T (xV 6) (xC (.int 0))) (xC (.str "begun")))) (b_A (xOp (gEq false) (xOp a_T (xV 6) (xC (.int 0))) (xC (.str "busy"))))) (p_p 4 (a_7 (a_J C 0 "finish" (a_P C) (a_s (xV 1) (a_s (xV 2) a_M))))) sNx))))
noncomputable def g_T (C:Addr):SM:=(a_h (d_p (f_x (b_A (a_7 (a_q a_W (a_s (xV 3) (a_s (xC (.int 0)) (a_s (xC (.int (999))) a_M))))))) (d_6 "NoCount") sNx)
  (a_h (g_v 4 (i_H b_i))
  (a_h (i_e (iLf rng1 (a_f (xV 3) b_i)) (gNm 5) (a_S C))
  (sMv 4))))
noncomputable def c_G (C:Addr):FM:=fnM 4 7 (g_T C)
noncomputable def c_q (C:Addr):SM:=(i_P exL 2 (a_h (d_p (b_A (xOp (gEq false) (xOp a_T (xV 1) (xC (.int 0))) (xC (.str "take")))) (e_O (a_J C 0 "take" (d_T C) (a_s (xOp a_T (xV 1) (xC (.int 1))) (a_s (xOp a_T (xV 1) (xC (.int 2))) (a_s (xOp a_T (xV 1) (xC (.int 3))) a_M))))) sNx)
  (a_h (d_p (b_A (xOp (gEq false) (xOp a_T (xV 1) (xC (.int 0))) (xC (.str "give")))) (e_O (a_J C 0 "give" (d_K C) (a_s (xOp a_T (xV 1) (xC (.int 1))) (a_s (xOp a_T (xV 1) (xC (.int 2))) a_M)))) sNx)
  (a_h (d_p (b_A (xOp (gEq false) (xOp a_T (xV 1) (xC (.int 0))) (xC (.str "step")))) (e_O (a_J C 0 "step" (a_V C) (a_s (xOp a_T (xV 1) (xC (.int 1))) (a_s (xOp a_T (xV 1) (xC (.int 2))) a_M)))) sNx)
  (e_O (a_J C 0 "finish" (a_P C) (a_s (xOp a_T (xV 1) (xC (.int 1))) (a_s (xOp a_T (xV 1) (xC (.int 2))) a_M))))))) (e_O (a_q b_L (a_t 2 a_M))))
noncomputable def a_R (C:Addr):FM:=fnM 2 3 (c_q C)
noncomputable def g_l (C:Addr):SM:=(l_Z (a_J C 1 "add_row" (a_I C) (a_s (xV 2) a_M)))
noncomputable def l_M (C:Addr):SM:=(a_h (g_v 1 (o_J C (c_7 C) (a_f (xOp a_T (xV 0) (xC (.int 0))) (a_f (xOp a_T (xV 0) (xC (.int 1))) b_i))))
  (a_h (i_e (iTs (xOp a_T (xV 0) (xC (.int 7)))) (gNm 2) (g_l C))
  (a_h (b_F C 1 "last" (xOp a_T (xV 0) (xC (.int 2))))
  (a_h (b_F C 1 "holder" (xOp a_T (xV 0) (xC (.int 3))))
  (a_h (b_F C 1 "until" (xOp a_T (xV 0) (xC (.int 4))))
  (a_h (b_F C 1 "holds" (xOp a_T (xV 0) (xC (.int 5))))
  (a_h (b_F C 1 "begun" (xOp a_T (xV 0) (xC (.int 6))))
  (sMv 1))))))))
noncomputable def i_l (C:Addr):FM:=fnM 1 3 (l_M C)
noncomputable def l_D (C:Addr):SM:=(g_v 1 (i_H b_i))
noncomputable def l_t (C:Addr):SM:=(c_L (a_7 (a_q d_u (a_t 0 (a_t 1 a_M)))) (gNm 2))
noncomputable def l_o (C:Addr):SM:=(c_L (a_7 (a_q d_L (a_t 0 (a_t 1 a_M)))) (gNm 3))
noncomputable def l_J (C:Addr):SM:=(g_v 4 (o_J C (c_7 C) (a_f (xV 2) (a_f (xV 3) b_i))))
noncomputable def l_q (C:Addr):SM:=(c_L (xC (.int 0)) (gNm 5))
noncomputable def h_L (C:Addr):SM:=(a_h (c_L (a_7 (a_q d_E (a_t 0 (a_t 1 (a_s (xV 5) (a_s (xOp a_T (a_7 (b_z C 4 "held" (g_i C))) (xC (.int 0))) a_M)))))) (gNm 7))
  (a_h (l_Z (a_q (a_R C) (a_t 4 (a_s (xV 7) a_M))))
  (c_L (xOp a_T (xV 7) (xC (.int 2))) (gNm 5))))
noncomputable def l_W (C:Addr):SM:=(i_e (iLf rng1 (a_f (a_7 (a_q a_l (a_t 0 (a_t 1 (a_s (xC (.int 21)) a_M))))) b_i)) (gNm 6) (h_L C))
noncomputable def l_h (C:Addr):SM:=(c_L (xOp h_G (xV 5) (xC (.int 120))) (gNm 5))
noncomputable def l_B (C:Addr):SM:=(l_Z (a_J C 4 "take" (d_T C) (a_s (xC (.int 3)) (a_s (xV 5) (a_s (xC (.int 50)) a_M)))))
noncomputable def f_6 (C:Addr):SM:=(d_p (b_A (xOp (gEq false) (a_7 (a_q a_l (a_t 0 (a_t 1 (a_s (xC (.int 2)) a_M))))) (xC (.int 0)))) (l_Z (a_J C 4 "step" (a_V C) (a_s (xC (.int 3)) (a_s (xV 5) a_M)))) sNx)
noncomputable def j_z (C:Addr):SM:=(g_v 8 (a_q (i_l C) (a_s (a_7 (b_z C 4 "saved" (f_g C))) a_M)))
noncomputable def j_m (C:Addr):SM:=(g_v 9 (a_q (i_l C) (a_s (a_7 (b_z C 4 "saved" (f_g C))) a_M)))
noncomputable def j_B (C:Addr):SM:=(c_L (a_7 (a_q a_l (a_t 0 (a_t 1 (a_s (xC (.int 30)) a_M))))) (gNm 10))
noncomputable def j_W (C:Addr):SM:=(g_v 11 (i_H b_i))
noncomputable def j_n (C:Addr):SM:=(c_L (xC (.int 0)) (gNm 12))
noncomputable def j_U (C:Addr):SM:=(c_L (xC (.bool true)) (gNm 13))
noncomputable def c_0 (C:Addr):SM:=(a_h (c_L (a_7 (a_J C 8 "step" (a_V C) (a_s (xC (.int 3)) (a_s (xV 5) a_M)))) (gNm 14))
  (a_h (p_p 11 (xV 14))
  (a_h (c_L (xOp h_G (xV 12) (xC (.int 1))) (gNm 12))
  (a_h (c_L (xOp (gEq true) (xOp a_T (xV 14) (xC (.int 0))) (xC (.str "idle"))) (gNm 13))
  (d_p (b_A (xOp q_B (xOp a_T (xV 14) (xC (.int 0))) (g_J (a_f (xC (.str "begun")) (a_f (xC (.str "busy")) b_i))))) (p_p 11 (a_7 (a_J C 8 "finish" (a_P C) (a_s (xC (.int 3)) (a_s (xV 5) a_M))))) sNx)))))
noncomputable def h_I (C:Addr):XM Bool:=(o_s (b_A (xV 13)) (b_A (xOp gLt (xV 12) (xV 10))))
noncomputable def j_A (C:Addr):SM:=(d_z (h_I C) (c_0 C) 100000)
noncomputable def h_B (C:Addr):SM:=(d_p (q_i (b_A (xOp (gEq true) (a_7 (a_q (c_G C) (a_t 4 (a_s (xC (.int 3)) (a_s (xV 5) (a_s (xV 10) a_M)))))) (xV 11))) (b_A (xOp (gEq true) (a_7 (b_z C 4 "log" (g_W C))) (a_7 (b_z C 8 "log" (g_W C)))))) (a_N (xC (.bool false))) sNx)
noncomputable def h_A (C:Addr):SM:=(c_L (a_7 (a_q a_l (a_t 0 (a_t 1 (a_s (xOp h_G (xV 10) (xC (.int 1))) a_M))))) (gNm 15))
noncomputable def h_w (C:Addr):SM:=(c_L (a_7 (a_q (c_G C) (a_t 9 (a_s (xC (.int 3)) (a_s (xV 5) (a_s (xV 15) a_M)))))) (gNm 16))
noncomputable def g_B (C:Addr):XM Bool:=(b_A (xOp (gEq true) (xOp a_T (xV 0) (xC (.int 0))) (xC (.str "done"))))
noncomputable def g_r (C:Addr):XM PyData:=(xV 0)
noncomputable def h_v (C:Addr):SM:=(a_N (j_5 (xOp (gEq false) (xSl (xV 11) pNo (pIs (xCB n_v (a_f (xV 16) b_i)))) (xV 16)) (xOp gLe (xCB n_v (a_f (j_b 1 [] (iLs (xV 16)) (gNm 0) (g_B C) (g_r C)) b_i)) (xV 15))))
noncomputable def s_O (C:Addr):SM:=(a_h (l_D C)
  (a_h (l_t C)
  (a_h (l_o C)
  (a_h (l_J C)
  (a_h (l_q C)
  (a_h (l_W C)
  (a_h (l_h C)
  (a_h (l_B C)
  (a_h (f_6 C)
  (a_h (j_z C)
  (a_h (j_m C)
  (a_h (j_B C)
  (a_h (j_W C)
  (a_h (j_n C)
  (a_h (j_U C)
  (a_h (j_A C)
  (a_h (h_B C)
  (a_h (h_A C)
  (a_h (h_w C)
  (h_v C))))))))))))))))))))
noncomputable def t_L (C:Addr):FM:=fnM 1 17 (s_O C)
end K3
namespace K3
open PySem PySem.Spec L2 L2.L3 PyProof.Rows
noncomputable def top (i:Nat):Stmt:=PySem.Challenge.pw_duehall_k15_whole_caught_up.main.body.getD i (.Pass ⟨0,0,0,0⟩)
noncomputable abbrev d_n:Stmt:=top 25
noncomputable abbrev b_S:Stmt:=top 26
noncomputable abbrev d_s:Stmt:=top 27
noncomputable abbrev c_I:Stmt:=top 28
noncomputable abbrev c_K:Stmt:=top 29
noncomputable abbrev e_i:Stmt:=top 30
noncomputable abbrev c_a:Stmt:=top 31
noncomputable abbrev e_j:Stmt:=top 32
noncomputable abbrev d_t:Stmt:=top 33
noncomputable abbrev e_t:Stmt:=top 34
noncomputable abbrev e_o:Stmt:=top 35
noncomputable abbrev e_q:Stmt:=top 36
noncomputable abbrev c_S:Stmt:=top 37
noncomputable abbrev c_l:Stmt:=top 38
noncomputable abbrev b_q:Stmt:=top 39
noncomputable abbrev b_W:Stmt:=top 40
noncomputable abbrev b_w:Stmt:=top 41
noncomputable abbrev c_g:Stmt:=top 42
noncomputable abbrev g_K:Stmt:=top 45
noncomputable abbrev c_O:Stmt:=top 46
noncomputable abbrev b_R:Stmt:=top 47
noncomputable abbrev b_h:Stmt:=top 48
noncomputable abbrev c_A:Stmt:=top 50
noncomputable abbrev c_d:Stmt:=top 51
noncomputable abbrev e_p:Stmt:=top 52
noncomputable abbrev b_Q:Stmt:=top 57
noncomputable abbrev b_9:Stmt:=b_Z (top 58) 0
noncomputable abbrev c_C:Stmt:=b_Z (top 58) 1
noncomputable abbrev b_v:Stmt:=b_Z (top 58) 2
noncomputable abbrev a_8:Stmt:=b_Z (top 58) 3
noncomputable abbrev f_r:Stmt:=b_Z (top 58) 4
noncomputable abbrev f_p:Stmt:=b_Z (top 58) 5
noncomputable abbrev c_Q:Stmt:=b_Z (top 58) 6
noncomputable abbrev c_E:Stmt:=b_Z (top 58) 7
noncomputable abbrev a_Q:Stmt:=b_Z (top 58) 8
noncomputable abbrev f_s:Stmt:=b_Z (top 58) 9
noncomputable abbrev a_H:Stmt:=b_Z (top 58) 10
noncomputable abbrev b_r:Stmt:=b_Z (top 58) 11
noncomputable abbrev d_o:Stmt:=b_Z (top 58) 12
noncomputable abbrev f_o:Stmt:=b_Z (top 58) 14
noncomputable abbrev g_R:Stmt:=b_Z (top 58) 15
noncomputable abbrev e_d:Stmt:=b_Z (top 58) 17
noncomputable abbrev g_0:Stmt:=top 59
noncomputable abbrev d_r:Stmt:=top 62
noncomputable abbrev b_s:Stmt:=top 64
noncomputable abbrev c_h:Stmt:=top 65
noncomputable abbrev c_D:Stmt:=top 66
noncomputable abbrev c_N:Stmt:=top 67
noncomputable abbrev c_P:Stmt:=top 68
noncomputable abbrev c_F:Stmt:=top 69
noncomputable abbrev c_j:Stmt:=top 70
noncomputable abbrev c_B:Stmt:=top 71
noncomputable abbrev c_e:Stmt:=top 72
noncomputable abbrev e_m:Stmt:=top 73
noncomputable abbrev k_v:Stmt:=top 74
theorem l_i:FnScope ["thing","least","most"] ["thing","least","most"] (a_d d_n):=scm
theorem i_L:FnScope ["thing","length"] ["thing","length"] (a_d b_S):=scm
theorem l_2:FnScope ["thing"] ["thing"] (a_d d_s):=scm
theorem k_q:FnScope ["thing"] ["thing"] (a_d c_I):=scm
theorem k_j:FnScope ["thing"] ["thing"] (a_d c_K):=scm
theorem m_3:FnScope ["thing"] ["thing"] (a_d e_i):=scm
theorem d_j:FnScope ["thing","earliest","shift"] ["thing"] (a_d c_a):=scm
theorem m_N:FnScope ["thing"] ["thing"] (a_d e_j):=scm
theorem l_U:FnScope ["thing","word","length"] ["thing","word","length"] (a_d d_t):=scm
theorem m_4:FnScope ["thing"] ["thing"] (a_d e_t):=scm
theorem m_K:FnScope ["thing"] ["thing"] (a_d e_o):=scm
theorem n_b:FnScope ["thing"] ["thing"] (a_d e_q):=scm
theorem j_8:FnScope ["thing"] ["thing"] (a_d c_S):=scm
theorem j_2:FnScope ["thing"] ["thing"] (a_d c_l):=scm
theorem h_R:FnScope ["thing"] ["thing"] (a_d b_q):=scm
theorem i_G:FnScope ["thing"] ["thing"] (a_d b_W):=scm
theorem i_h:FnScope ["thing"] ["thing"] (a_d b_w):=scm
theorem j_w:FnScope ["thing"] ["thing"] (a_d c_g):=scm
theorem h_C:FnScope ["zone","moment","ahead","shift"] ["zone","moment"] (a_d g_K):=scm
theorem d_O:FnScope ["zone","starts","ends","aheads"] ["zone"] (a_d c_O):=scm
theorem i_O:FnScope ["moment","end"] ["moment","end"] (a_d b_R):=scm
theorem e_R:FnScope ["zone","hours","reached"] ["zone","hours"] (a_d b_h):=scm
theorem k_D:FnScope ["zone","hour"] ["zone","hour"] (a_d c_A):=scm
theorem g_e:FnScope ["zone","hour","count","day"] ["zone","hour","count"] (a_d c_d):=scm
theorem m_2:FnScope ["zone","plan","count"] ["zone","plan","count"] (a_d e_p):=scm
theorem f_C:FnScope ["zone","deed","count","now","later"] ["zone","deed","count","now"] (a_d b_Q):=scm
theorem j_C:FnScope ["self","zone","deeds"] ["self","zone","deeds"] (a_d b_9):=scm
theorem l_b:FnScope ["self","moment"] ["self","moment"] (a_d c_C):=scm
theorem i_k:FnScope ["self","runner","moment"] ["self","runner","moment"] (a_d b_v):=scm
theorem g_N:FnScope ["self","runner","moment"] ["self","runner","moment"] (a_d a_8):=scm
theorem n_0:FnScope ["self","runner","moment","term"] ["self","runner","moment","term"] (a_d f_r):=scm
theorem n_M:FnScope ["self","runner","moment"] ["self","runner","moment"] (a_d f_p):=scm
theorem d_W:FnScope ["self","row","word","deed","count"] ["self","row"] (a_d c_Q):=scm
theorem k_m:FnScope ["self"] ["self"] (a_d c_E):=scm
theorem a_Z:FnScope ["self","found","deed","count","moment"] ["self"] (a_d a_Q):=scm
theorem o_0:FnScope ["self","runner","moment"] ["self","runner","moment"] (a_d f_s):=scm
theorem b_l:FnScope ["self","runner","moment","deed","word"] ["self","runner","moment"] (a_d a_H):=scm
theorem b_I:FnScope ["self","runner","moment","found","deed","count","word"] ["self","runner","moment"] (a_d b_r):=scm
theorem l_v:FnScope ["self","runner","moment"] ["self","runner","moment"] (a_d d_o):=scm
theorem n_W:FnScope ["self"] ["self"] (a_d f_o):=scm
theorem q_u:FnScope ["self"] ["self"] (a_d g_R):=scm
theorem m_J:FnScope ["self"] ["self"] (a_d e_d):=scm
theorem j_v:FnScope ["thing","hall","row"] ["thing"] (a_d g_0):=scm
theorem e_y:FnScope ["hall","runner","moment","most","told","made","row"] ["hall","runner","moment","most"] (a_d d_r):=scm
theorem i_w:FnScope ["_law_script","_law_k"] ["_law_script","_law_k"] (a_d b_s):=scm
theorem g_d:FnScope ["_law_script","_law_k","_law_many","_law_drawn"] ["_law_script","_law_k","_law_many"] (a_d c_h):=scm
theorem k_T:FnScope ["_law_script","_law_town","_law_many"] ["_law_script","_law_town","_law_many"] (a_d c_D):=scm
theorem k_B:FnScope ["_law_script","_law_town","_law_some"] ["_law_script","_law_town","_law_some"] (a_d c_N):=scm
theorem c_b:FnScope ["_law_script","_law_town","_law_shifts","_law_moment","_law_k"] ["_law_script","_law_town"] (a_d c_P):=scm
theorem f_d:FnScope ["_law_script","_law_town","_law_kind","_law_step"] ["_law_script","_law_town"] (a_d c_F):=scm
theorem c_u:FnScope ["_law_script","_law_town","_law_made","_law_k","_law_hours","_law_late"] ["_law_script","_law_town"] (a_d c_j):=scm
theorem d_b:FnScope ["_law_script","_law_town","_law_now","_law_holder","_law_runner","_law_moment","_law_kind"] ["_law_script","_law_town","_law_now","_law_holder"] (a_d c_B):=scm
theorem f_7:FnScope ["_law_e","_law_own"] ["_law_e"] (a_d c_e):=scm
theorem i_Z:FnScope ["_law_hall","_law_call_here","_law_e"] ["_law_hall","_law_call_here"] (a_d e_m):=scm
theorem b_5:FnScope ["_law_script","_law_town","_law_zone_here","_law_deeds_here","_law_hall","_law_now","_law_k","_law_call_here","_law_other","_law_third","_law_most","_law_rows","_law_steps","_law_going","_law_told","_law_few","_law_some"] ["_law_script"] (a_d k_v):=scm
structure Tx (K:PySem.W.Frag) (mg:Str->Option Value):Prop where
 d00:∃ g fd,FD K mg "is_whole" d_n ["thing","least","most"] g fd
 d01:∃ g fd,FD K mg "is_tuple_of" b_S ["thing","length"] g fd
 d02:∃ g fd,FD K mg "is_ahead" d_s ["thing"] g fd
 d03:∃ g fd,FD K mg "is_moment" c_I ["thing"] g fd
 d04:∃ g fd,FD K mg "is_runner" c_K ["thing"] g fd
 d05:∃ g fd,FD K mg "is_term" e_i ["thing"] g fd
 d06:∃ g fd,FD K mg "are_shifts" c_a ["thing"] g fd
 d07:∃ g fd,FD K mg "is_zone" e_j ["thing"] g fd
 d08:∃ g fd,FD K mg "has_word" d_t ["thing","word","length"] g fd
 d09:∃ g fd,FD K mg "is_plan" e_t ["thing"] g fd
 d0a:∃ g fd,FD K mg "is_late" e_o ["thing"] g fd
 d0b:∃ g fd,FD K mg "is_deed" e_q ["thing"] g fd
 d0c:∃ g fd,FD K mg "are_deeds" c_S ["thing"] g fd
 d0d:∃ g fd,FD K mg "check_zone" c_l ["thing"] g fd
 d0e:∃ g fd,FD K mg "check_moment" b_q ["thing"] g fd
 d0f:∃ g fd,FD K mg "check_deeds" b_W ["thing"] g fd
 d0g:∃ g fd,FD K mg "check_runner" b_w ["thing"] g fd
 d0h:∃ g fd,FD K mg "check_term" c_g ["thing"] g fd
 d0i:∃ g fd,FD K mg "shown" g_K ["zone","moment"] g fd
 d0j:∃ g fd,FD K mg "stretches" c_O ["zone"] g fd
 d0k:∃ g fd,FD K mg "is_ahead_of" b_R ["moment","end"] g fd
 d0l:∃ g fd,FD K mg "first_showing" b_h ["zone","hours"] g fd
 d0m:∃ g fd,FD K mg "first_day" c_A ["zone","hour"] g fd
 d0n:∃ g fd,FD K mg "daily_time" c_d ["zone","hour","count"] g fd
 d0o:∃ g fd,FD K mg "time_of" e_p ["zone","plan","count"] g fd
 d0p:∃ g fd,FD K mg "is_left_out" b_Q ["zone","deed","count","now"] g fd
 d0q:∃ g fd,FD K mg "woken" g_0 ["thing"] g fd
 d0r:∃ g fd,FD K mg "catch_up" d_r ["hall","runner","moment","most"] g fd
 d0s:∃ g fd,FD K mg "_law_cell_at" b_s ["_law_script","_law_k"] g fd
 d0t:∃ g fd,FD K mg "_law_mixed" c_h ["_law_script","_law_k","_law_many"] g fd
 d0u:∃ g fd,FD K mg "_law_draw" c_D ["_law_script","_law_town","_law_many"] g fd
 d0v:∃ g fd,FD K mg "_law_pick" c_N ["_law_script","_law_town","_law_some"] g fd
 d0w:∃ g fd,FD K mg "_law_zone" c_P ["_law_script","_law_town"] g fd
 d0x:∃ g fd,FD K mg "_law_plan" c_F ["_law_script","_law_town"] g fd
 d0y:∃ g fd,FD K mg "_law_deeds" c_j ["_law_script","_law_town"] g fd
 d0z:∃ g fd,FD K mg "_law_call" c_B ["_law_script","_law_town","_law_now","_law_holder"] g fd
 d10:∃ g fd,FD K mg "_law_which" c_e ["_law_e"] g fd
 d11:∃ g fd,FD K mg "_law_do" e_m ["_law_hall","_law_call_here"] g fd
 d12:∃ t,mg "LAST_MOMENT" = some (.int (9999) t)
 d13:∃ t,mg "LAST_HOUR" = some (.int (23) t)
 d14:∃ t,mg "LEAST_AHEAD" = some (.int (-12) t)
 d15:∃ t,mg "MOST_AHEAD" = some (.int (14) t)
 d16:∃ t,mg "MOST_SHIFTS" = some (.int (6) t)
 d17:∃ t,mg "MOST_STEP" = some (.int (999) t)
 d18:∃ t,mg "MOST_DEEDS" = some (.int (6) t)
 d19:∃ t,mg "MOST_WITHIN" = some (.int (999) t)
 d1a:∃ t,mg "LAST_RUNNER" = some (.int (3) t)
 d1b:∃ t,mg "MOST_TERM" = some (.int (99) t)
 d1c:∃ t,mg "DAY_HOURS" = some (.int (24) t)
 d1d:∃ t,mg "PLAN" = some (.int (0) t)
 d1e:∃ t,mg "LATE" = some (.int (1) t)
 d1f:∃ t,mg "AGAIN" = some (.int (2) t)
 d1g:∃ t,mg "MOST_STEPS" = some (.int (999) t)
 d1h:mg "ValueError" = none
 d1i:mg "all" = none
 d1j:mg "bool" = none
 d1k:mg "enumerate" = none
 d1l:mg "int" = none
 d1m:mg "isinstance" = none
 d1n:mg "len" = none
 d1o:mg "list" = none
 d1p:mg "max" = none
 d1q:mg "min" = none
 d1r:mg "range" = none
 d1s:mg "str" = none
 d1t:mg "tuple" = none
 d1u:mg "zip" = none
 xt0:∃ D,XT K mg exL D
structure HCx (K:PySem.W.Frag) (mg:Str->Option Value) (C:Addr):Prop where
 cl:Cls K C
 mg:mg "Hall" = some (.ref C)
 mks:PySem.W.makesIn K C=true
 kpC:keepIn K (.ref C)=true
 d1v:b_a K C "begun"
 d1w:b_a K C "deeds"
 d1x:b_a K C "holder"
 d1y:b_a K C "holds"
 d1z:b_a K C "last"
 d20:b_a K C "rows"
 d21:b_a K C "settled"
 d22:b_a K C "until"
 d23:b_a K C "words"
 d24:b_a K C "zone"
 d25:∃ g fd,MD K C "__init__" "Hall.__init__" b_9 ["self","zone","deeds"] g fd
 d26:∃ g fd,MD K C "is_held" "Hall.is_held" c_C ["self","moment"] g fd
 d27:∃ g fd,MD K C "check_call" "Hall.check_call" b_v ["self","runner","moment"] g fd
 d28:∃ g fd,MD K C "check_holder" "Hall.check_holder" a_8 ["self","runner","moment"] g fd
 d29:∃ g fd,MD K C "take" "Hall.take" f_r ["self","runner","moment","term"] g fd
 d2a:∃ g fd,MD K C "give" "Hall.give" f_p ["self","runner","moment"] g fd
 d2b:∃ g fd,MD K C "add_row" "Hall.add_row" c_Q ["self","row"] g fd
 d2c:∃ g fd,MD K C "is_busy" "Hall.is_busy" c_E ["self"] g fd
 d2d:∃ g fd,MD K C "first_unsettled" "Hall.first_unsettled" a_Q ["self"] g fd
 d2e:∃ g fd,MD K C "step" "Hall.step" f_s ["self","runner","moment"] g fd
 d2f:∃ g fd,MD K C "step_behind_a_fall" "Hall.step_behind_a_fall" a_H ["self","runner","moment"] g fd
 d2g:∃ g fd,MD K C "step_ahead" "Hall.step_ahead" b_r ["self","runner","moment"] g fd
 d2h:∃ g fd,MD K C "finish" "Hall.finish" d_o ["self","runner","moment"] g fd
 d2i:∃ g fd,MD K C "held" "Hall.held" f_o ["self"] g fd
 d2j:∃ g fd,MD K C "log" "Hall.log" g_R ["self"] g fd
 d2k:∃ g fd,MD K C "saved" "Hall.saved" e_d ["self"] g fd
theorem HCx.make {K:PySem.W.Frag} {mg:Str->Option Value} {C g:Addr} (h:HCx K mg C) (M:Meth K C "__init__" g):Mk K C g:=⟨h.mks,M.at_,M.fn,h.kpC⟩
theorem v_g:bootBuiltins "int" = some (.type "int"):=by decide +kernel
theorem o_z:bootBuiltins "bool" = some (.type "bool"):=by decide +kernel
theorem r_t:bootBuiltins "str" = some (.type "str"):=by decide +kernel
theorem g_w:bootBuiltins "tuple" = some (.type "tuple"):=by decide +kernel
theorem w_c:bootBuiltins "list" = some (.type "list"):=by decide +kernel
theorem q_2:bootBuiltins "max" = some (.builtin "max"):=by decide +kernel
theorem u_q:bootBuiltins "divmod" = some (.builtin "divmod"):=by decide +kernel
theorem t_u:bootBuiltins "all" = some (.builtin "all"):=by decide +kernel
theorem x_2:bootBuiltins "sum" = some (.builtin "sum"):=by decide +kernel
theorem x_t:bootBuiltins "min" = some (.builtin "min"):=by decide +kernel
theorem l_A {k:Nat} {A:Around} (r:RoomH k A):A.units + 64 < cLine:=by have:=r.un; omega
theorem xok0 {X:Cx} {F:Fx}:XOk X F E0':=fun _ _ _ _ _ _ _ _ _ _ z=>z.elim
end K3
namespace K3
open PySem PySem.Spec L2 L2.L3 PyProof.Rows
local macro_rules | `(tactic| walk_at "z")=>`(tactic| first|rfl|exact .inl rfl|exact .inr rfl|assumption|exact fun _=>rfl)
section
variable (P:Program) (w:World) {K:PySem.W.Frag} {mg:Str->Option Value} (base:Heap)
theorem b_H {g:Addr} {fd:FuncData} (T:Tx K mg) (D:FD K mg "is_whole" d_n ["thing","least","most"] g fd):FnOk P w K mg base (CXM P w) 1 g fd ["thing","least","most"] (spF K mg a_W):=by
 refine c_3 D.fn l_i (by decide) ?_
 intro cdv A outer s H E F E' hr hx
 unfold e_e
 refine a_c ?_
 refine a_z ?_
 ·exact (c_5 (k_A (c_8 rfl T.d1m (fv 0) (e_F rfl T.d1l v_g rfl))) (c_5 (v_s (k_A (c_8 rfl T.d1m (fv 0) (e_F rfl T.d1j o_z rfl)))) (d_Y (s_v (fv 1) (fv 0) (fv 2)))))
theorem c_W {g:Addr} {fd:FuncData} (T:Tx K mg) (D:FD K mg "is_tuple_of" b_S ["thing","length"] g fd):FnOk P w K mg base (CXM P w) 1 g fd ["thing","length"] (spF K mg b_b):=by
 refine c_3 D.fn i_L (by decide) ?_
 intro cdv A outer s H E F E' hr hx
 unfold d_k
 refine a_c ?_
 refine a_z ?_
 ·exact (c_5 (k_A (c_8 rfl T.d1m (fv 0) (e_F rfl T.d1t g_w rfl))) (d_Y (l_K hr.units (h_q i_c (c_Y a_9 l_I rfl T.d1n PySem.boot_len (a_D (fv 0) a_o))) (fv 1))))
theorem p_A {g:Addr} {fd:FuncData} (T:Tx K mg) (D:FD K mg "shown" g_K ["zone","moment"] g fd):FnOk P w K mg base (CXM P w) 1 g fd ["zone","moment"] (spF K mg j_d):=by
 refine c_3 D.fn h_C (by decide) ?_
 intro cdv A outer s H E F E' hr hx
 unfold l_4
 refine a_a ?_ ?_
 ·refine a_G (i:=2) ?_ ?_ ?_ ?_ ?_ ?_ <;> try walk_at "z"
  ·exact h_C.nd
  ·exact (a_x (fv 0) (a_i a_b))
 refine a_a ?_ ?_
 ·refine g_7 ?_ ?_ ?_ ?_ ?_ ?_ <;> try walk_at "z"
  ·exact PassesOwn.leaving
  ·exact (h_X (a_x (fv 0) (a_i a_b)))
  ·exact (fgn 3 h_C.nd)
  ·unfold g_A
   refine a_c ?_
   refine a_6 ?_ ?_ ?_
   ·exact (w_O (a_x (fv 3) (a_i a_b)) (fv 1))
   ·refine a_c ?_
    refine a_G (i:=2) ?_ ?_ ?_ ?_ ?_ ?_ <;> try walk_at "z"
    ·exact h_C.nd
    ·exact (a_x (fv 3) (a_i a_b))
   ·exact a_u
 refine a_c ?_
 refine a_z ?_
 ·exact (b_X (fv 1) (fv 2))
theorem k_6 {g:Addr} {fd:FuncData} (T:Tx K mg) (D:FD K mg "stretches" c_O ["zone"] g fd):FnOk P w K mg base (CXM P w) 1 g fd ["zone"] (spF K mg e_H):=by
 refine c_3 D.fn d_O (by decide) ?_
 intro cdv A outer s H E F E' hr hx
 unfold f_H
 refine a_a ?_ ?_
 ·refine a_G (i:=1) ?_ ?_ ?_ ?_ ?_ ?_ <;> try walk_at "z"
  ·exact d_O.nd
  ·exact (n_X (d_N (a_D (a_i a_b) a_o)) (j_u (CompScope.of (own:=["shift"]) (capN:=[]) (caps:=[])) rfl rfl (h_X (a_x (fv 0) (a_i a_b))) (fun _ _ _ _ _ _=>⟨(fgn 0 (show ((["shift"]:List Str) ++ ([]:List Str)).Nodup from by decide +kernel)),i_b,(a_x (fv 0) (a_i a_b))⟩)))
 refine a_a ?_ ?_
 ·refine a_G (i:=2) ?_ ?_ ?_ ?_ ?_ ?_ <;> try walk_at "z"
  ·exact d_O.nd
  ·exact (n_X (r_O (r_B (k:=1) (fv 1))) (d_N (a_D (a_i c_v) a_o)))
 refine a_a ?_ ?_
 ·refine a_G (i:=3) ?_ ?_ ?_ ?_ ?_ ?_ <;> try walk_at "z"
  ·exact d_O.nd
  ·exact (n_X (d_N (a_D (a_x (fv 0) (a_i a_b)) a_o)) (j_u (CompScope.of (own:=["shift"]) (capN:=[]) (caps:=[])) rfl rfl (h_X (a_x (fv 0) (a_i a_b))) (fun _ _ _ _ _ _=>⟨(fgn 0 (show ((["shift"]:List Str) ++ ([]:List Str)).Nodup from by decide +kernel)),i_b,(a_x (fv 0) (a_i a_b))⟩)))
 refine a_c ?_
 refine a_z ?_
 ·exact (v_2 (l_N rfl rfl T.d1o rfl T.d1u (a_D (fv 1) (a_D (fv 2) (a_D (fv 3) a_o)))))
theorem i_F {g:Addr} {fd:FuncData} (T:Tx K mg) (D:FD K mg "is_ahead_of" b_R ["moment","end"] g fd):FnOk P w K mg base (CXM P w) 1 g fd ["moment","end"] (spF K mg d_i):=by
 refine c_3 D.fn i_O (by decide) ?_
 intro cdv A outer s H E F E' hr hx
 unfold e_P
 refine a_c ?_
 refine a_z ?_
 ·exact (u_j (t_t (fv 1) (a_i c_v)) (d_Y (u_d (fv 0) (fv 1))))
theorem h_S {g:Addr} {fd:FuncData} (T:Tx K mg) (D:FD K mg "_law_cell_at" b_s ["_law_script","_law_k"] g fd):FnOk P w K mg base (CXM P w) 1 g fd ["_law_script","_law_k"] (spF K mg b_t):=by
 refine c_3 D.fn i_w (by decide) ?_
 intro cdv A outer s H E F E' hr hx
 unfold b_2
 refine a_a ?_ ?_
 ·refine a_6 ?_ ?_ ?_
  ·exact (o_F (fv 1) (n_Q (o_t rfl T.d1n (pv 0))))
  ·refine a_c ?_
   refine a_z ?_
   ·exact (q_E (q_C (pv 0) (fv 1) (by intro _ _; rfl)))
  ·exact a_u
 refine a_a ?_ ?_
 ·refine a_6 ?_ ?_ ?_
  ·exact (t_V (u_7 hr.units (pv 0)))
  ·refine a_c ?_
   refine a_z ?_
   ·exact (a_i a_b)
  ·exact a_u
 refine a_c ?_
 refine a_z ?_
 ·exact (b_X (i_A (q_E (q_C (pv 0) (l_c (fv 1) (n_Q (o_t rfl T.d1n (pv 0)))) (by intro _ _; rfl))) (a_i a_b)) (fv 1))
theorem j_G {g:Addr} {fd:FuncData} (T:Tx K mg) (D:FD K mg "_law_which" c_e ["_law_e"] g fd):FnOkH P w K mg base (CXM P w) 1 g fd ["_law_e"] (spF K mg b_L):=by
 obtain ⟨DE_,xt⟩:=T.xt0
 refine w_1 D.fn f_7 (by decide) ?_
 intro cdv A outer s H E F E' hr hx
 unfold g_1
 refine a_a ?_ ?_
 ·refine d_B (i:=1) ?_ ?_ ?_ ?_ ?_ ?_ <;> try walk_at "z"
  ·exact f_7.nd
  ·exact (i_f (a_D (e_3 xt rfl T.d1m (pv 0) rfl (by decide +kernel)) (a_D (e_3 xt rfl T.d1m (pv 0) rfl (by decide +kernel)) (a_D (e_3 xt rfl T.d1m (pv 0) rfl (by decide +kernel)) (a_D (e_3 xt rfl T.d1m (pv 0) rfl (by decide +kernel)) a_o)))))
 refine a_a ?_ ?_
 ·refine r_s ?_ ?_ ?_ ?_ ?_ ?_ ?_ ?_ <;> try walk_at "z"
  ·exact (pv 1)
  ·exact (d_N (a_D (e_3 xt rfl T.d1m (pv 0) rfl (by decide +kernel)) (a_D (e_3 xt rfl T.d1m (pv 0) rfl (by decide +kernel)) (a_D (e_3 xt rfl T.d1m (pv 0) rfl (by decide +kernel)) (a_D (e_3 xt rfl T.d1m (pv 0) rfl (by decide +kernel)) a_o)))))
 refine a_a ?_ ?_
 ·refine r_s ?_ ?_ ?_ ?_ ?_ ?_ ?_ ?_ <;> try walk_at "z"
  ·exact (pv 1)
  ·exact (d_N (a_D (e_3 xt rfl T.d1m (pv 0) rfl (by decide +kernel)) (a_D (e_3 xt rfl T.d1m (pv 0) rfl (by decide +kernel)) (a_D (e_3 xt rfl T.d1m (pv 0) rfl (by decide +kernel)) a_o))))
 refine a_a ?_ ?_
 ·refine a_6 ?_ ?_ ?_
  ·exact (n_F (k_9 (m_6 (l_A hr) (v_n (g:=v_P) PySem.F.slot_list_count PySem.F.type_list_count p_4 u_C (pv 1) (a_i h_p)) (a_i a_b)) (h_c (d_x (b_J (b_O (v_t xt rfl T.d1m (pv 0) rfl T.d1h)))))))
  ·refine a_c ?_
   refine a_z ?_
   ·exact (b_j (a_D (a_i a_K) (a_D (q_F (a_i a_b)) a_o)))
  ·exact a_u
 refine a_c ?_
 refine a_z ?_
 ·exact (b_j (a_D (a_i a_K) (a_D (v_n (g:=ixD) PySem.F.slot_list_index PySem.F.type_list_index q_o x_m (pv 1) (a_i h_p)) a_o)))
theorem h_h {C:Addr} {g:Addr} {fd:FuncData} (T:Tx K mg) (HC:HCx K mg C) (D:MD K C "is_held" "Hall.is_held" c_C ["self","moment"] g fd):FnOk P w K mg base (CXM P w) 1 g fd ["self","moment"] (spF K mg (d_w C)):=by
 refine c_3 D.fn l_b (by decide) ?_
 intro cdv A outer s H E F E' hr hx
 unfold f_K
 refine a_c ?_
 refine a_z ?_
 ·exact (c_5 (l_O (a_0 HC.cl HC.d1x (pv 0)) (a_i c_v)) (d_Y (u_d (fv 1) (a_0 HC.cl HC.d22 (pv 0)))))
theorem d_Q {C:Addr} {g:Addr} {fd:FuncData} (T:Tx K mg) (HC:HCx K mg C) (D:MD K C "add_row" "Hall.add_row" c_Q ["self","row"] g fd):FnOk P w K mg base (CXM P w) 1 g fd ["self","row"] (spF K mg (a_I C)):=by
 refine c_3 D.fn d_W (by decide) ?_
 intro cdv A outer s H E F E' hr hx
 unfold c_y
 refine a_a ?_ ?_
 ·refine a_G (i:=2) ?_ ?_ ?_ ?_ ?_ ?_ <;> try walk_at "z"
  ·exact d_W.nd
  ·exact (a_x (fv 1) (a_i a_b))
 refine a_a ?_ ?_
 ·refine a_G (i:=3) ?_ ?_ ?_ ?_ ?_ ?_ <;> try walk_at "z"
  ·exact d_W.nd
  ·exact (a_x (fv 1) (a_i a_b))
 refine a_a ?_ ?_
 ·refine a_G (i:=4) ?_ ?_ ?_ ?_ ?_ ?_ <;> try walk_at "z"
  ·exact d_W.nd
  ·exact (a_x (fv 1) (a_i a_b))
 refine a_a ?_ ?_
 ·refine o_e ?_ ?_ ?_ ?_ ?_ ?_ ?_ ?_ ?_ ?_ ?_ <;> try walk_at "z"
  ·exact HC.cl
  ·exact HC.d20
  ·exact (pv 0)
  ·exact (pv 1)
 refine a_a ?_ ?_
 ·refine o_d ?_ ?_ ?_ ?_ ?_ ?_ ?_ ?_ ?_ ?_ ?_ <;> try walk_at "z"
  ·exact (t_o hr)
  ·exact HC.cl
  ·exact HC.d23
  ·exact (pv 0)
  ·exact (pv 3)
  ·exact (pv 4)
  ·exact (fv 2)
 refine a_a ?_ ?_
 ·refine a_6 ?_ ?_ ?_
  ·exact (f_w hr.units (fv 2) (a_i a_K))
  ·refine a_c ?_
   refine b_1 ?_ ?_ ?_ ?_ ?_
   ·exact HC.cl
   ·exact HC.d1v
   ·exact (pv 0)
   ·exact (b_j (a_D (fv 3) (a_D (fv 4) (a_D (a_0 HC.cl HC.d1y (pv 0)) a_o))))
   ·rfl
  ·refine a_a ?_ ?_
   ·refine b_1 ?_ ?_ ?_ ?_ ?_
    ·exact HC.cl
    ·exact HC.d1v
    ·exact (pv 0)
    ·exact (a_i c_v)
    ·rfl
   refine a_c ?_
   refine o_G ?_ ?_ ?_ ?_ ?_ ?_ ?_ ?_ ?_ ?_ <;> try walk_at "z"
   ·exact HC.cl
   ·exact HC.d21
   ·exact (pv 0)
   ·exact (pv 3)
   ·exact (b_X (fv 4) (a_i a_b))
 refine a_c ?_
 refine a_z ?_
 ·exact (b_j (a_D (fv 2) (a_D (fv 3) (a_D (fv 4) a_o))))
theorem h_e {C:Addr} {g:Addr} {fd:FuncData} (T:Tx K mg) (HC:HCx K mg C) (D:MD K C "is_busy" "Hall.is_busy" c_E ["self"] g fd):FnOk P w K mg base (CXM P w) 1 g fd ["self"] (spF K mg (c_z C)):=by
 refine c_3 D.fn k_m (by decide) ?_
 intro cdv A outer s H E F E' hr hx
 unfold e_D
 refine a_c ?_
 refine a_z ?_
 ·exact (c_5 (l_O (a_0 HC.cl HC.d1v (pv 0)) (a_i c_v)) (d_Y (l_K hr.units (a_x (a_0 HC.cl HC.d1v (pv 0)) (a_i a_b)) (a_0 HC.cl HC.d1y (pv 0)))))
theorem o_c {C:Addr} {g:Addr} {fd:FuncData} (T:Tx K mg) (HC:HCx K mg C) (D:MD K C "held" "Hall.held" f_o ["self"] g fd):FnOk P w K mg base (CXM P w) 1 g fd ["self"] (spF K mg (g_i C)):=by
 refine c_3 D.fn n_W (by decide) ?_
 intro cdv A outer s H E F E' hr hx
 unfold j_4
 refine a_c ?_
 refine a_z ?_
 ·exact (b_j (a_D (a_0 HC.cl HC.d1x (pv 0)) (a_D (a_0 HC.cl HC.d22 (pv 0)) (a_D (a_0 HC.cl HC.d1y (pv 0)) a_o))))
theorem p_t {C:Addr} {g:Addr} {fd:FuncData} (T:Tx K mg) (HC:HCx K mg C) (D:MD K C "log" "Hall.log" g_R ["self"] g fd):FnOk P w K mg base (CXM P w) 1 g fd ["self"] (spF K mg (g_W C)):=by
 refine c_3 D.fn q_u (by decide) ?_
 intro cdv A outer s H E F E' hr hx
 unfold l_u
 refine a_c ?_
 refine a_z ?_
 ·exact (m_8 rfl T.d1o HC.cl HC.d20 (pv 0))
theorem m_P {C:Addr} {g:Addr} {fd:FuncData} (T:Tx K mg) (HC:HCx K mg C) (D:MD K C "saved" "Hall.saved" e_d ["self"] g fd):FnOk P w K mg base (CXM P w) 1 g fd ["self"] (spF K mg (f_g C)):=by
 refine c_3 D.fn m_J (by decide) ?_
 intro cdv A outer s H E F E' hr hx
 unfold i_a
 refine a_c ?_
 refine a_z ?_
 ·exact (b_j (a_D (a_0 HC.cl HC.d24 (pv 0)) (a_D (a_0 HC.cl HC.d1w (pv 0)) (a_D (a_0 HC.cl HC.d1z (pv 0)) (a_D (a_0 HC.cl HC.d1x (pv 0)) (a_D (a_0 HC.cl HC.d22 (pv 0)) (a_D (a_0 HC.cl HC.d1y (pv 0)) (a_D (a_0 HC.cl HC.d1v (pv 0)) (a_D (n_D rfl T.d1t HC.cl HC.d20 (pv 0)) a_o)))))))))
theorem h_K {g:Addr} {fd:FuncData} (T:Tx K mg) (D:FD K mg "is_ahead" d_s ["thing"] g fd):FnOk P w K mg base (CXM P w) 2 g fd ["thing"] (spF K mg e_s):=by
 obtain ⟨g0,f0,D0⟩:=T.d00
 have G0:=b_H P w base T D0
 obtain ⟨t_LEAST_AHEAD,g_LEAST_AHEAD⟩:=T.d14
 obtain ⟨t_MOST_AHEAD,g_MOST_AHEAD⟩:=T.d15
 refine c_3 D.fn l_2 (by decide) ?_
 intro cdv A outer s H E F E' hr hx
 unfold g_H
 refine a_c ?_
 refine b_x ?_
 ·exact (fcd hx G0 D0 hr (a_v (fv 0) (a_v (a_i (b_d rfl g_LEAST_AHEAD)) (a_v (a_i (b_d rfl g_MOST_AHEAD)) a_e))))
theorem g_4 {g:Addr} {fd:FuncData} (T:Tx K mg) (D:FD K mg "is_moment" c_I ["thing"] g fd):FnOk P w K mg base (CXM P w) 2 g fd ["thing"] (spF K mg c_J):=by
 obtain ⟨g0,f0,D0⟩:=T.d00
 have G0:=b_H P w base T D0
 obtain ⟨t_LAST_MOMENT,g_LAST_MOMENT⟩:=T.d12
 refine c_3 D.fn k_q (by decide) ?_
 intro cdv A outer s H E F E' hr hx
 unfold f_R
 refine a_c ?_
 refine b_x ?_
 ·exact (fcd hx G0 D0 hr (a_v (fv 0) (a_v (a_i a_b) (a_v (a_i (b_d rfl g_LAST_MOMENT)) a_e))))
theorem k_J {g:Addr} {fd:FuncData} (T:Tx K mg) (D:FD K mg "is_runner" c_K ["thing"] g fd):FnOk P w K mg base (CXM P w) 2 g fd ["thing"] (spF K mg e_L):=by
 obtain ⟨g0,f0,D0⟩:=T.d00
 have G0:=b_H P w base T D0
 obtain ⟨t_LAST_RUNNER,g_LAST_RUNNER⟩:=T.d1a
 refine c_3 D.fn k_j (by decide) ?_
 intro cdv A outer s H E F E' hr hx
 unfold f_U
 refine a_c ?_
 refine b_x ?_
 ·exact (fcd hx G0 D0 hr (a_v (fv 0) (a_v (a_i a_b) (a_v (a_i (b_d rfl g_LAST_RUNNER)) a_e))))
theorem n_n {g:Addr} {fd:FuncData} (T:Tx K mg) (D:FD K mg "is_term" e_i ["thing"] g fd):FnOk P w K mg base (CXM P w) 2 g fd ["thing"] (spF K mg g_q):=by
 obtain ⟨g0,f0,D0⟩:=T.d00
 have G0:=b_H P w base T D0
 obtain ⟨t_MOST_TERM,g_MOST_TERM⟩:=T.d1b
 refine c_3 D.fn m_3 (by decide) ?_
 intro cdv A outer s H E F E' hr hx
 unfold i_p
 refine a_c ?_
 refine b_x ?_
 ·exact (fcd hx G0 D0 hr (a_v (fv 0) (a_v (a_i a_b) (a_v (a_i (b_d rfl g_MOST_TERM)) a_e))))
theorem h_0 {g:Addr} {fd:FuncData} (T:Tx K mg) (D:FD K mg "has_word" d_t ["thing","word","length"] g fd):FnOk P w K mg base (CXM P w) 2 g fd ["thing","word","length"] (spF K mg c_i):=by
 obtain ⟨g0,f0,D0⟩:=T.d01
 have G0:=c_W P w base T D0
 refine c_3 D.fn l_U (by decide) ?_
 intro cdv A outer s H E F E' hr hx
 unfold f_l
 refine a_c ?_
 refine a_z ?_
 ·exact (c_5 (a_k (fcd hx G0 D0 hr (a_v (fv 0) (a_v (fv 2) a_e)))) (c_5 (k_A (c_8 rfl T.d1m (a_x (fv 0) (a_i a_b)) (e_F rfl T.d1s r_t rfl))) (d_Y (l_K hr.units (a_x (fv 0) (a_i a_b)) (fv 1)))))
theorem h_o {g:Addr} {fd:FuncData} (T:Tx K mg) (D:FD K mg "first_showing" b_h ["zone","hours"] g fd):FnOk P w K mg base (CXM P w) 2 g fd ["zone","hours"] (spF K mg c_r):=by
 obtain ⟨g0,f0,D0⟩:=T.d0j
 have G0:=k_6 P w base T D0
 obtain ⟨g1,f1,D1⟩:=T.d0k
 have G1:=i_F P w base T D1
 refine c_3 D.fn e_R (by decide) ?_
 intro cdv A outer s H E F E' hr hx
 unfold d_A
 refine a_a ?_ ?_
 ·refine i_6 (i:=2) (own:=["start","end","ahead"]) (capN:=["hours"]) (caps:=[1]) ?_ ?_ ?_ ?_ ?_ ?_ ?_ ?_ ?_ ?_ ?_ <;> try walk_at "z"
  ·exact e_R.nd
  ·exact (CompScope.of (own:=["start","end","ahead"]) (capN:=["hours"]) (caps:=[1]))
  ·exact (n_K (a_k (fcd hx G0 D0 hr (a_v (fv 0) a_e))))
  ·exact (fun _ _ _ _ _ _=>⟨(p_l (n:=3) rfl (e_K (fgn 0 (show ((["start","end","ahead"]:List Str) ++ (["hours"]:List Str)).Nodup from by decide +kernel)) (e_K (fgn 1 (show ((["start","end","ahead"]:List Str) ++ (["hours"]:List Str)).Nodup from by decide +kernel)) (e_K (fgn 2 (show ((["start","end","ahead"]:List Str) ++ (["hours"]:List Str)).Nodup from by decide +kernel)) l_y)))),(p_a (b_J (b_O (a_k (fcd xok0 G1 D1 hr (a_v (h_q r_k (c_Y (k_7 rfl) t_G rfl T.d1p q_2 (a_D (fv 0) (a_D (h_Q (fv 3) (fv 2)) a_o)))) (a_v (fv 1) a_e))))))),(h_q r_k (c_Y (k_7 rfl) t_G rfl T.d1p q_2 (a_D (fv 0) (a_D (h_Q (fv 3) (fv 2)) a_o))))⟩)
 refine a_c ?_
 refine a_z ?_
 ·exact (a_x (fv 2) (a_i a_b))
theorem k_U {g:Addr} {fd:FuncData} (T:Tx K mg) (D:FD K mg "first_day" c_A ["zone","hour"] g fd):FnOk P w K mg base (CXM P w) 2 g fd ["zone","hour"] (spF K mg e_I):=by
 obtain ⟨g0,f0,D0⟩:=T.d0i
 have G0:=p_A P w base T D0
 obtain ⟨t_DAY_HOURS,g_DAY_HOURS⟩:=T.d1c
 refine c_3 D.fn k_D (by decide) ?_
 intro cdv A outer s H E F E' hr hx
 unfold f_P
 refine a_c ?_
 refine a_z ?_
 ·exact (q_F (v_c (h_Q (fv 1) (a_k (fcd hx G0 D0 hr (a_v (fv 0) (a_v (a_i a_b) a_e))))) (a_i (b_d rfl g_DAY_HOURS))))
theorem j_T {g:Addr} {fd:FuncData} (T:Tx K mg) (D:FD K mg "_law_mixed" c_h ["_law_script","_law_k","_law_many"] g fd):FnOk P w K mg base (CXM P w) 2 g fd ["_law_script","_law_k","_law_many"] (spF K mg d_S):=by
 obtain ⟨g0,f0,D0⟩:=T.d0s
 have G0:=h_S P w base T D0
 refine c_3 D.fn g_d (by decide) ?_
 intro cdv A outer s H E F E' hr hx
 unfold f_j
 refine a_a ?_ ?_
 ·refine a_G (i:=3) ?_ ?_ ?_ ?_ ?_ ?_ <;> try walk_at "z"
  ·exact g_d.nd
  ·exact (l_c (i_A (b_X (b_X (a_k (fcd hx G0 D0 hr (b_p (pv 0) (a_v (fv 1) a_e)))) (i_A (a_i a_b) (fv 1))) (a_i a_b)) (a_i a_b)) (a_i a_b))
 refine a_c ?_
 refine a_z ?_
 ·exact (l_c (l_c (b_X (b_X (i_A (fv 3) (fv 3)) (i_A (a_i a_b) (fv 3))) (fv 1)) (a_i a_b)) (fv 2))
theorem e_J {C:Addr} {g:Addr} {fd:FuncData} (T:Tx K mg) (HC:HCx K mg C) (D:MD K C "step_behind_a_fall" "Hall.step_behind_a_fall" a_H ["self","runner","moment"] g fd):FnOk P w K mg base (CXM P w) 2 g fd ["self","runner","moment"] (spF K mg (a_O C)):=by
 obtain ⟨g0,f0,D0⟩:=HC.d2b
 have G0:=d_Q P w base T HC D0
 obtain ⟨t_AGAIN,g_AGAIN⟩:=T.d1f
 refine c_3 D.fn b_l (by decide) ?_
 intro cdv A outer s H E F E' hr hx
 unfold a_5
 refine a_a ?_ ?_
 ·refine a_G (i:=3) ?_ ?_ ?_ ?_ ?_ ?_ <;> try walk_at "z"
  ·exact b_l.nd
  ·exact (a_x (a_0 HC.cl HC.d1v (pv 0)) (a_i a_b))
 refine a_a ?_ ?_
 ·refine a_G (i:=4) ?_ ?_ ?_ ?_ ?_ ?_ <;> try walk_at "z"
  ·exact b_l.nd
  ·exact (s_r (b_J (b_O (a_x (a_x (a_0 HC.cl HC.d1w (pv 0)) (fv 3)) (a_i (b_d rfl g_AGAIN))))) (a_i a_K) (a_i a_K))
 refine a_c ?_
 refine b_x ?_
 ·exact (fmd hx HC.cl G0 D0 hr (pv 0) (a_v (b_j (a_D (fv 2) (a_D (fv 1) (a_D (fv 4) (a_D (fv 3) (a_D (a_x (a_0 HC.cl HC.d1v (pv 0)) (a_i a_b)) a_o)))))) a_e))
theorem j_f {g:Addr} {fd:FuncData} (T:Tx K mg) (D:FD K mg "are_shifts" c_a ["thing"] g fd):FnOk P w K mg base (CXM P w) 3 g fd ["thing"] (spF K mg d_M):=by
 obtain ⟨g0,f0,D0⟩:=T.d00
 have G0:=b_H P w base T D0
 obtain ⟨g1,f1,D1⟩:=T.d01
 have G1:=c_W P w base T D1
 obtain ⟨g2,f2,D2⟩:=T.d02
 have G2:=h_K P w base T D2
 obtain ⟨t_LAST_MOMENT,g_LAST_MOMENT⟩:=T.d12
 obtain ⟨t_MOST_SHIFTS,g_MOST_SHIFTS⟩:=T.d16
 refine c_3 D.fn d_j (by decide) ?_
 intro cdv A outer s H E F E' hr hx
 unfold e_8
 refine a_a ?_ ?_
 ·refine a_6 ?_ ?_ ?_
  ·exact (n_F (k_9 (d_x (b_J (b_O (k_A (c_8 rfl T.d1m (fv 0) (e_F rfl T.d1t g_w rfl)))))) (h_c (q_r (h_q i_c (c_Y a_9 l_I rfl T.d1n PySem.boot_len (a_D (fv 0) a_o))) (a_i (b_d rfl g_MOST_SHIFTS))))))
  ·refine a_c ?_
   refine a_z ?_
   ·exact (a_i h_p)
  ·exact a_u
 refine a_a ?_ ?_
 ·refine a_G (i:=1) ?_ ?_ ?_ ?_ ?_ ?_ <;> try walk_at "z"
  ·exact d_j.nd
  ·exact (a_i a_b)
 refine a_a ?_ ?_
 ·refine g_7 ?_ ?_ ?_ ?_ ?_ ?_ <;> try walk_at "z"
  ·exact PassesOwn.leaving
  ·exact (h_X (fv 0))
  ·exact (fgn 2 d_j.nd)
  ·unfold b_4
   refine a_a ?_ ?_
   ·refine a_6 ?_ ?_ ?_
    ·exact (n_F (k_9 (d_x (b_J (b_O (a_k (fcd hx G1 D1 hr (a_v (fv 2) (a_v (a_i a_b) a_e))))))) (h_c (d_x (b_J (b_O (a_k (fcd hx G2 D2 hr (a_v (a_x (fv 2) (a_i a_b)) a_e)))))))))
    ·refine a_c ?_
     refine a_z ?_
     ·exact (a_i h_p)
    ·exact a_u
   refine a_a ?_ ?_
   ·refine a_6 ?_ ?_ ?_
    ·exact (d_x (b_J (b_O (a_k (fcd hx G0 D0 hr (a_v (a_x (fv 2) (a_i a_b)) (a_v (fv 1) (a_v (a_i (b_d rfl g_LAST_MOMENT)) a_e))))))))
    ·refine a_c ?_
     refine a_z ?_
     ·exact (a_i h_p)
    ·exact a_u
   refine a_c ?_
   refine a_G (i:=1) ?_ ?_ ?_ ?_ ?_ ?_ <;> try walk_at "z"
   ·exact d_j.nd
   ·exact (b_X (a_x (fv 2) (a_i a_b)) (a_i a_b))
 refine a_c ?_
 refine a_z ?_
 ·exact (a_i h_p)
theorem m_V {g:Addr} {fd:FuncData} (T:Tx K mg) (D:FD K mg "is_plan" e_t ["thing"] g fd):FnOk P w K mg base (CXM P w) 3 g fd ["thing"] (spF K mg e_n):=by
 obtain ⟨g0,f0,D0⟩:=T.d08
 have G0:=h_0 P w base T D0
 obtain ⟨g1,f1,D1⟩:=T.d03
 have G1:=g_4 P w base T D1
 obtain ⟨g2,f2,D2⟩:=T.d00
 have G2:=b_H P w base T D2
 obtain ⟨t_LAST_HOUR,g_LAST_HOUR⟩:=T.d13
 obtain ⟨t_MOST_STEP,g_MOST_STEP⟩:=T.d17
 refine c_3 D.fn m_4 (by decide) ?_
 intro cdv A outer s H E F E' hr hx
 unfold e_X
 refine a_a ?_ ?_
 ·refine a_6 ?_ ?_ ?_
  ·exact (b_J (b_O (a_k (fcd hx G0 D0 hr (a_v (fv 0) (a_v (a_i a_K) (a_v (a_i a_b) a_e)))))))
  ·refine a_c ?_
   refine b_x ?_
   ·exact (fcd hx G1 D1 hr (a_v (a_x (fv 0) (a_i a_b)) a_e))
  ·exact a_u
 refine a_a ?_ ?_
 ·refine a_6 ?_ ?_ ?_
  ·exact (b_J (b_O (a_k (fcd hx G0 D0 hr (a_v (fv 0) (a_v (a_i a_K) (a_v (a_i a_b) a_e)))))))
  ·refine a_c ?_
   refine a_z ?_
   ·exact (c_5 (a_k (fcd hx G1 D1 hr (a_v (a_x (fv 0) (a_i a_b)) a_e))) (d_Y (a_k (fcd hx G2 D2 hr (a_v (a_x (fv 0) (a_i a_b)) (a_v (a_i a_b) (a_v (a_i (b_d rfl g_MOST_STEP)) a_e)))))))
  ·exact a_u
 refine a_c ?_
 refine a_z ?_
 ·exact (c_5 (a_k (fcd hx G0 D0 hr (a_v (fv 0) (a_v (a_i a_K) (a_v (a_i a_b) a_e))))) (d_Y (a_k (fcd hx G2 D2 hr (a_v (a_x (fv 0) (a_i a_b)) (a_v (a_i a_b) (a_v (a_i (b_d rfl g_LAST_HOUR)) a_e)))))))
theorem n_o {g:Addr} {fd:FuncData} (T:Tx K mg) (D:FD K mg "is_late" e_o ["thing"] g fd):FnOk P w K mg base (CXM P w) 3 g fd ["thing"] (spF K mg e_g):=by
 obtain ⟨g0,f0,D0⟩:=T.d08
 have G0:=h_0 P w base T D0
 obtain ⟨g1,f1,D1⟩:=T.d00
 have G1:=b_H P w base T D1
 obtain ⟨t_MOST_WITHIN,g_MOST_WITHIN⟩:=T.d19
 refine c_3 D.fn m_K (by decide) ?_
 intro cdv A outer s H E F E' hr hx
 unfold f_c
 refine a_a ?_ ?_
 ·refine a_6 ?_ ?_ ?_
  ·exact (b_J (b_O (k_A (c_8 rfl T.d1m (fv 0) (e_F rfl T.d1s r_t rfl)))))
  ·refine a_c ?_
   refine a_z ?_
   ·exact (u_j (l_K hr.units (fv 0) (a_i a_K)) (d_Y (l_K hr.units (fv 0) (a_i a_K))))
  ·exact a_u
 refine a_c ?_
 refine a_z ?_
 ·exact (c_5 (a_k (fcd hx G0 D0 hr (a_v (fv 0) (a_v (a_i a_K) (a_v (a_i a_b) a_e))))) (d_Y (a_k (fcd hx G1 D1 hr (a_v (a_x (fv 0) (a_i a_b)) (a_v (a_i a_b) (a_v (a_i (b_d rfl g_MOST_WITHIN)) a_e)))))))
theorem i_v {g:Addr} {fd:FuncData} (T:Tx K mg) (D:FD K mg "check_moment" b_q ["thing"] g fd):FnOk P w K mg base (CXM P w) 3 g fd ["thing"] (spF K mg c_2):=by
 obtain ⟨g0,f0,D0⟩:=T.d03
 have G0:=g_4 P w base T D0
 obtain ⟨DE_,xt⟩:=T.xt0
 obtain ⟨C_NoMoment,E_NoMoment,_⟩:=xt.at_ (c:="NoMoment") (by decide +kernel)
 refine c_3 D.fn h_R (by decide) ?_
 intro cdv A outer s H E F E' hr hx
 unfold d_8
 refine a_c ?_
 refine a_6 ?_ ?_ ?_
 ·exact (d_x (b_J (b_O (a_k (fcd hx G0 D0 hr (a_v (fv 0) a_e))))))
 ·refine a_c ?_
  exact (d_h hx hr.hd rfl E_NoMoment)
 ·exact a_u
theorem i_u {g:Addr} {fd:FuncData} (T:Tx K mg) (D:FD K mg "check_runner" b_w ["thing"] g fd):FnOk P w K mg base (CXM P w) 3 g fd ["thing"] (spF K mg c_Z):=by
 obtain ⟨g0,f0,D0⟩:=T.d04
 have G0:=k_J P w base T D0
 obtain ⟨DE_,xt⟩:=T.xt0
 obtain ⟨C_NoRunner,E_NoRunner,_⟩:=xt.at_ (c:="NoRunner") (by decide +kernel)
 refine c_3 D.fn i_h (by decide) ?_
 intro cdv A outer s H E F E' hr hx
 unfold d_2
 refine a_c ?_
 refine a_6 ?_ ?_ ?_
 ·exact (d_x (b_J (b_O (a_k (fcd hx G0 D0 hr (a_v (fv 0) a_e))))))
 ·refine a_c ?_
  exact (d_h hx hr.hd rfl E_NoRunner)
 ·exact a_u
theorem j_J {g:Addr} {fd:FuncData} (T:Tx K mg) (D:FD K mg "check_term" c_g ["thing"] g fd):FnOk P w K mg base (CXM P w) 3 g fd ["thing"] (spF K mg d_Z):=by
 obtain ⟨g0,f0,D0⟩:=T.d05
 have G0:=n_n P w base T D0
 obtain ⟨DE_,xt⟩:=T.xt0
 obtain ⟨C_NoTerm,E_NoTerm,_⟩:=xt.at_ (c:="NoTerm") (by decide +kernel)
 refine c_3 D.fn j_w (by decide) ?_
 intro cdv A outer s H E F E' hr hx
 unfold e_Y
 refine a_c ?_
 refine a_6 ?_ ?_ ?_
 ·exact (d_x (b_J (b_O (a_k (fcd hx G0 D0 hr (a_v (fv 0) a_e))))))
 ·refine a_c ?_
  exact (d_h hx hr.hd rfl E_NoTerm)
 ·exact a_u
theorem j_F {g:Addr} {fd:FuncData} (T:Tx K mg) (D:FD K mg "daily_time" c_d ["zone","hour","count"] g fd):FnOk P w K mg base (CXM P w) 3 g fd ["zone","hour","count"] (spF K mg d_U):=by
 obtain ⟨g0,f0,D0⟩:=T.d0l
 have G0:=h_o P w base T D0
 obtain ⟨g1,f1,D1⟩:=T.d0m
 have G1:=k_U P w base T D1
 obtain ⟨t_DAY_HOURS,g_DAY_HOURS⟩:=T.d1c
 refine c_3 D.fn g_e (by decide) ?_
 intro cdv A outer s H E F E' hr hx
 unfold f_f
 refine a_a ?_ ?_
 ·refine a_G (i:=3) ?_ ?_ ?_ ?_ ?_ ?_ <;> try walk_at "z"
  ·exact g_e.nd
  ·exact (b_X (a_k (fcd hx G1 D1 hr (a_v (fv 0) (a_v (fv 1) a_e)))) (fv 2))
 refine a_c ?_
 refine b_x ?_
 ·exact (fcd hx G0 D0 hr (a_v (fv 0) (a_v (b_X (i_A (fv 3) (a_i (b_d rfl g_DAY_HOURS))) (fv 1)) a_e)))
theorem c_c {g:Addr} {fd:FuncData} (T:Tx K mg) (D:FD K mg "_law_draw" c_D ["_law_script","_law_town","_law_many"] g fd):FnOk P w K mg base (CXM P w) 3 g fd ["_law_script","_law_town","_law_many"] (spF K mg a_l):=by
 obtain ⟨g0,f0,D0⟩:=T.d0t
 have G0:=j_T P w base T D0
 refine c_3 D.fn k_T (by decide) ?_
 intro cdv A outer s H E F E' hr hx
 unfold f_0
 refine a_a ?_ ?_
 ·refine h_b ?_ ?_ ?_ ?_ ?_ ?_ ?_ ?_ <;> try walk_at "z"
  ·exact (pv 1)
  ·exact (a_i a_b)
 refine a_c ?_
 refine b_x ?_
 ·exact (fcd hx G0 D0 hr (b_p (pv 0) (a_v (s_q rfl T.d1n (pv 1)) (a_v (fv 2) a_e))))
theorem m_G {g:Addr} {fd:FuncData} (T:Tx K mg) (D:FD K mg "is_zone" e_j ["thing"] g fd):FnOk P w K mg base (CXM P w) 4 g fd ["thing"] (spF K mg g_j):=by
 obtain ⟨g0,f0,D0⟩:=T.d01
 have G0:=c_W P w base T D0
 obtain ⟨g1,f1,D1⟩:=T.d02
 have G1:=h_K P w base T D1
 obtain ⟨g2,f2,D2⟩:=T.d06
 have G2:=j_f P w base T D2
 refine c_3 D.fn m_N (by decide) ?_
 intro cdv A outer s H E F E' hr hx
 unfold i_q
 refine a_c ?_
 refine a_z ?_
 ·exact (c_5 (a_k (fcd hx G0 D0 hr (a_v (fv 0) (a_v (a_i a_b) a_e)))) (c_5 (a_k (fcd hx G1 D1 hr (a_v (a_x (fv 0) (a_i a_b)) a_e))) (d_Y (a_k (fcd hx G2 D2 hr (a_v (a_x (fv 0) (a_i a_b)) a_e))))))
theorem n_k {g:Addr} {fd:FuncData} (T:Tx K mg) (D:FD K mg "is_deed" e_q ["thing"] g fd):FnOk P w K mg base (CXM P w) 4 g fd ["thing"] (spF K mg g_t):=by
 obtain ⟨g0,f0,D0⟩:=T.d01
 have G0:=c_W P w base T D0
 obtain ⟨g1,f1,D1⟩:=T.d09
 have G1:=m_V P w base T D1
 obtain ⟨g2,f2,D2⟩:=T.d0a
 have G2:=n_o P w base T D2
 refine c_3 D.fn n_b (by decide) ?_
 intro cdv A outer s H E F E' hr hx
 unfold i_y
 refine a_c ?_
 refine a_z ?_
 ·exact (c_5 (a_k (fcd hx G0 D0 hr (a_v (fv 0) (a_v (a_i a_b) a_e)))) (c_5 (a_k (fcd hx G1 D1 hr (a_v (a_x (fv 0) (a_i a_b)) a_e))) (c_5 (a_k (fcd hx G2 D2 hr (a_v (a_x (fv 0) (a_i a_b)) a_e))) (d_Y (k_A (c_8 rfl T.d1m (a_x (fv 0) (a_i a_b)) (e_F rfl T.d1j o_z rfl)))))))
theorem i_U {g:Addr} {fd:FuncData} (T:Tx K mg) (D:FD K mg "time_of" e_p ["zone","plan","count"] g fd):FnOk P w K mg base (CXM P w) 4 g fd ["zone","plan","count"] (spF K mg b_M):=by
 obtain ⟨g0,f0,D0⟩:=T.d0n
 have G0:=j_F P w base T D0
 refine c_3 D.fn m_2 (by decide) ?_
 intro cdv A outer s H E F E' hr hx
 unfold e_l
 refine a_a ?_ ?_
 ·refine a_6 ?_ ?_ ?_
  ·exact (f_w hr.units (a_x (fv 1) (a_i a_b)) (a_i a_K))
  ·refine a_c ?_
   refine a_z ?_
   ·exact (s_r (f_w hr.units (fv 2) (a_i a_b)) (a_x (fv 1) (a_i a_b)) (a_i c_v))
  ·exact a_u
 refine a_a ?_ ?_
 ·refine a_6 ?_ ?_ ?_
  ·exact (f_w hr.units (a_x (fv 1) (a_i a_b)) (a_i a_K))
  ·refine a_c ?_
   refine a_z ?_
   ·exact (b_X (a_x (fv 1) (a_i a_b)) (i_A (fv 2) (a_x (fv 1) (a_i a_b))))
  ·exact a_u
 refine a_c ?_
 refine b_x ?_
 ·exact (fcd hx G0 D0 hr (a_v (fv 0) (a_v (a_x (fv 1) (a_i a_b)) (a_v (fv 2) a_e))))
theorem d_P {g:Addr} {fd:FuncData} (T:Tx K mg) (D:FD K mg "_law_pick" c_N ["_law_script","_law_town","_law_some"] g fd):FnOk P w K mg base (CXM P w) 4 g fd ["_law_script","_law_town","_law_some"] (spF K mg a_X):=by
 obtain ⟨g0,f0,D0⟩:=T.d0u
 have G0:=c_c P w base T D0
 refine c_3 D.fn k_B (by decide) ?_
 intro cdv A outer s H E F E' hr hx
 unfold f_G
 refine a_c ?_
 refine a_z ?_
 ·exact (a_x (fv 2) (a_k (fcd hx G0 D0 hr (b_p (pv 0) (b_p (pv 1) (a_v (h_q i_c (c_Y a_9 l_I rfl T.d1n PySem.boot_len (a_D (fv 2) a_o))) a_e))))))
theorem e_Z {C:Addr} {g:Addr} {fd:FuncData} (T:Tx K mg) (HC:HCx K mg C) (D:MD K C "check_call" "Hall.check_call" b_v ["self","runner","moment"] g fd):FnOk P w K mg base (CXM P w) 4 g fd ["self","runner","moment"] (spF K mg (a_L C)):=by
 obtain ⟨g0,f0,D0⟩:=T.d0g
 have G0:=i_u P w base T D0
 obtain ⟨g1,f1,D1⟩:=T.d0e
 have G1:=i_v P w base T D1
 obtain ⟨DE_,xt⟩:=T.xt0
 obtain ⟨C_NoMoment,E_NoMoment,_⟩:=xt.at_ (c:="NoMoment") (by decide +kernel)
 refine c_3 D.fn i_k (by decide) ?_
 intro cdv A outer s H E F E' hr hx
 unfold c_4
 refine a_a ?_ ?_
 ·refine b_D ?_ ?_
  ·exact (fcd hx G0 D0 hr (a_v (fv 1) a_e))
  ·rfl
 refine a_a ?_ ?_
 ·refine b_D ?_ ?_
  ·exact (fcd hx G1 D1 hr (a_v (fv 2) a_e))
  ·rfl
 refine a_c ?_
 refine a_6 ?_ ?_ ?_
 ·exact (n_F (o_I (j_Y (a_0 HC.cl HC.d1z (pv 0)) (a_i c_v)) (l_n (o_F (fv 2) (a_0 HC.cl HC.d1z (pv 0))))))
 ·refine a_c ?_
  exact (d_h hx hr.hd rfl E_NoMoment)
 ·exact a_u
theorem k_y {g:Addr} {fd:FuncData} (T:Tx K mg) (D:FD K mg "are_deeds" c_S ["thing"] g fd):FnOk P w K mg base (CXM P w) 5 g fd ["thing"] (spF K mg f_L):=by
 obtain ⟨g0,f0,D0⟩:=T.d0b
 have G0:=n_k P w base T D0
 obtain ⟨t_MOST_DEEDS,g_MOST_DEEDS⟩:=T.d18
 refine c_3 D.fn j_8 (by decide) ?_
 intro cdv A outer s H E F E' hr hx
 unfold f_Z
 refine a_a ?_ ?_
 ·refine a_6 ?_ ?_ ?_
  ·exact (n_F (k_9 (d_x (b_J (b_O (k_A (c_8 rfl T.d1m (fv 0) (e_F rfl T.d1t g_w rfl)))))) (h_c (q_r (h_q i_c (c_Y a_9 l_I rfl T.d1n PySem.boot_len (a_D (fv 0) a_o))) (a_i (b_d rfl g_MOST_DEEDS))))))
  ·refine a_c ?_
   refine a_z ?_
   ·exact (a_i h_p)
  ·exact a_u
 refine a_c ?_
 refine a_z ?_
 ·exact (h_q v_j (c_Y (o_h rfl) v_X rfl T.d1i t_u (a_D (j_u (CompScope.of (own:=["deed"]) (capN:=[]) (caps:=[])) rfl rfl (h_X (fv 0)) (fun _ _ _ _ _ _=>⟨(fgn 0 (show ((["deed"]:List Str) ++ ([]:List Str)).Nodup from by decide +kernel)),i_b,(a_k (fcd xok0 G0 D0 hr (a_v (fv 0) a_e)))⟩)) a_o)))
theorem j_Z {g:Addr} {fd:FuncData} (T:Tx K mg) (D:FD K mg "check_zone" c_l ["thing"] g fd):FnOk P w K mg base (CXM P w) 5 g fd ["thing"] (spF K mg c_6):=by
 obtain ⟨g0,f0,D0⟩:=T.d07
 have G0:=m_G P w base T D0
 obtain ⟨DE_,xt⟩:=T.xt0
 obtain ⟨C_NoZone,E_NoZone,_⟩:=xt.at_ (c:="NoZone") (by decide +kernel)
 refine c_3 D.fn j_2 (by decide) ?_
 intro cdv A outer s H E F E' hr hx
 unfold e_0
 refine a_c ?_
 refine a_6 ?_ ?_ ?_
 ·exact (d_x (b_J (b_O (a_k (fcd hx G0 D0 hr (a_v (fv 0) a_e))))))
 ·refine a_c ?_
  exact (d_h hx hr.hd rfl E_NoZone)
 ·exact a_u
theorem i_I {g:Addr} {fd:FuncData} (T:Tx K mg) (D:FD K mg "is_left_out" b_Q ["zone","deed","count","now"] g fd):FnOk P w K mg base (CXM P w) 5 g fd ["zone","deed","count","now"] (spF K mg b_n):=by
 obtain ⟨g0,f0,D0⟩:=T.d0o
 have G0:=i_U P w base T D0
 obtain ⟨t_PLAN,g_PLAN⟩:=T.d1d
 obtain ⟨t_LATE,g_LATE⟩:=T.d1e
 refine c_3 D.fn f_C (by decide) ?_
 intro cdv A outer s H E F E' hr hx
 unfold b_V
 refine a_a ?_ ?_
 ·refine a_6 ?_ ?_ ?_
  ·exact (f_w hr.units (a_x (fv 1) (a_i (b_d rfl g_LATE))) (a_i a_K))
  ·refine a_c ?_
   refine a_z ?_
   ·exact (a_i h_p)
  ·exact a_u
 refine a_a ?_ ?_
 ·refine a_6 ?_ ?_ ?_
  ·exact (f_w hr.units (a_x (fv 1) (a_i (b_d rfl g_LATE))) (a_i a_K))
  ·refine a_a ?_ ?_
   ·refine a_G (i:=4) ?_ ?_ ?_ ?_ ?_ ?_ <;> try walk_at "z"
    ·exact f_C.nd
    ·exact (a_k (fcd hx G0 D0 hr (a_v (fv 0) (a_v (a_x (fv 1) (a_i (b_d rfl g_PLAN))) (a_v (b_X (fv 2) (a_i a_b)) a_e)))))
   refine a_c ?_
   refine a_z ?_
   ·exact (c_5 (l_O (fv 4) (a_i c_v)) (d_Y (v_p (fv 4) (fv 3))))
  ·exact a_u
 refine a_c ?_
 refine a_z ?_
 ·exact (w_p (h_Q (fv 3) (a_k (fcd hx G0 D0 hr (a_v (fv 0) (a_v (a_x (fv 1) (a_i (b_d rfl g_PLAN))) (a_v (fv 2) a_e)))))) (a_x (a_x (fv 1) (a_i (b_d rfl g_LATE))) (a_i a_b)))
theorem k_E {g:Addr} {fd:FuncData} (T:Tx K mg) (D:FD K mg "_law_zone" c_P ["_law_script","_law_town"] g fd):FnOk P w K mg base (CXM P w) 5 g fd ["_law_script","_law_town"] (spF K mg d_u):=by
 obtain ⟨g0,f0,D0⟩:=T.d0u
 have G0:=c_c P w base T D0
 obtain ⟨g1,f1,D1⟩:=T.d0v
 have G1:=d_P P w base T D1
 refine c_3 D.fn c_b (by decide) ?_
 intro cdv A outer s H E F E' hr hx
 unfold e_w
 refine a_a ?_ ?_
 ·refine d_B (i:=2) ?_ ?_ ?_ ?_ ?_ ?_ <;> try walk_at "z"
  ·exact c_b.nd
  ·exact (i_f a_o)
 refine a_a ?_ ?_
 ·refine a_G (i:=3) ?_ ?_ ?_ ?_ ?_ ?_ <;> try walk_at "z"
  ·exact c_b.nd
  ·exact (a_i a_b)
 refine a_a ?_ ?_
 ·refine g_7 ?_ ?_ ?_ ?_ ?_ ?_ <;> try walk_at "z"
  ·exact PassesOwn.leaving
  ·exact (e_4 (e_5 rfl T.d1r (a_D (a_k (fcd hx G0 D0 hr (b_p (pv 0) (b_p (pv 1) (a_v (a_i a_b) a_e))))) a_o)))
  ·exact (fgn 4 c_b.nd)
  ·unfold c_n
   refine a_a ?_ ?_
   ·refine a_G (i:=3) ?_ ?_ ?_ ?_ ?_ ?_ <;> try walk_at "z"
    ·exact c_b.nd
    ·exact (b_X (b_X (fv 3) (a_i a_b)) (a_k (fcd hx G0 D0 hr (b_p (pv 0) (b_p (pv 1) (a_v (a_k (fcd hx G1 D1 hr (b_p (pv 0) (b_p (pv 1) (a_v (d_N (a_D (a_i a_b) (a_D (a_i a_b) (a_D (a_i a_b) a_o)))) a_e))))) a_e))))))
   refine a_c ?_
   refine h_b ?_ ?_ ?_ ?_ ?_ ?_ ?_ ?_ <;> try walk_at "z"
   ·exact (pv 2)
   ·exact (b_j (a_D (fv 3) (a_D (h_Q (a_k (fcd hx G0 D0 hr (b_p (pv 0) (b_p (pv 1) (a_v (a_i a_b) a_e))))) (a_i a_b)) a_o)))
 refine a_a ?_ ?_
 ·refine a_6 ?_ ?_ ?_
  ·exact (f_w hr.units (a_k (fcd hx G0 D0 hr (b_p (pv 0) (b_p (pv 1) (a_v (a_i a_b) a_e))))) (a_i a_b))
  ·refine a_c ?_
   refine i_6 (i:=2) (own:=["_law_k","_law_one","_law_more"]) (capN:=[]) (caps:=[]) ?_ ?_ ?_ ?_ ?_ ?_ ?_ ?_ ?_ ?_ ?_ <;> try walk_at "z"
   ·exact c_b.nd
   ·exact (CompScope.of (own:=["_law_k","_law_one","_law_more"]) (capN:=[]) (caps:=[]))
   ·exact (r_z (r_I rfl T.d1k (a_D (fv 2) a_o)))
   ·exact (fun _ _ _ _ _ _=>⟨(p_l (n:=2) rfl (e_K (fgn 0 (show ((["_law_k","_law_one","_law_more"]:List Str) ++ ([]:List Str)).Nodup from by decide +kernel)) (e_K (p_l (n:=2) rfl (e_K (fgn 1 (show ((["_law_k","_law_one","_law_more"]:List Str) ++ ([]:List Str)).Nodup from by decide +kernel)) (e_K (fgn 2 (show ((["_law_k","_law_one","_law_more"]:List Str) ++ ([]:List Str)).Nodup from by decide +kernel)) l_y))) l_y))),i_b,(b_j (a_D (fv 1) (a_D (b_X (a_i a_b) (l_c (fv 0) (a_i a_b))) a_o)))⟩)
  ·exact a_u
 refine a_c ?_
 refine a_z ?_
 ·exact (b_j (a_D (h_Q (a_k (fcd hx G0 D0 hr (b_p (pv 0) (b_p (pv 1) (a_v (a_i a_b) a_e))))) (a_i a_b)) (a_D (h_q m_F (k_P e_M n_5 rfl T.d1t g_w (a_D (fv 2) a_o))) a_o)))
theorem k_R {g:Addr} {fd:FuncData} (T:Tx K mg) (D:FD K mg "_law_plan" c_F ["_law_script","_law_town"] g fd):FnOk P w K mg base (CXM P w) 5 g fd ["_law_script","_law_town"] (spF K mg c_M):=by
 obtain ⟨g0,f0,D0⟩:=T.d0u
 have G0:=c_c P w base T D0
 obtain ⟨g1,f1,D1⟩:=T.d0v
 have G1:=d_P P w base T D1
 refine c_3 D.fn f_d (by decide) ?_
 intro cdv A outer s H E F E' hr hx
 unfold d_F
 refine a_a ?_ ?_
 ·refine a_G (i:=2) ?_ ?_ ?_ ?_ ?_ ?_ <;> try walk_at "z"
  ·exact f_d.nd
  ·exact (a_k (fcd hx G0 D0 hr (b_p (pv 0) (b_p (pv 1) (a_v (a_i a_b) a_e)))))
 refine a_a ?_ ?_
 ·refine a_6 ?_ ?_ ?_
  ·exact (f_w hr.units (fv 2) (a_i a_b))
  ·refine a_c ?_
   refine a_z ?_
   ·exact (b_j (a_D (a_i a_K) (a_D (a_k (fcd hx G0 D0 hr (b_p (pv 0) (b_p (pv 1) (a_v (a_k (fcd hx G1 D1 hr (b_p (pv 0) (b_p (pv 1) (a_v (d_N (a_D (a_i a_b) (a_D (a_i a_b) (a_D (a_i a_b) a_o)))) a_e))))) a_e))))) a_o)))
  ·exact a_u
 refine a_a ?_ ?_
 ·refine a_6 ?_ ?_ ?_
  ·exact (o_F (fv 2) (a_i a_b))
  ·refine a_a ?_ ?_
   ·refine a_G (i:=3) ?_ ?_ ?_ ?_ ?_ ?_ <;> try walk_at "z"
    ·exact f_d.nd
    ·exact (b_X (a_i a_b) (a_k (fcd hx G0 D0 hr (b_p (pv 0) (b_p (pv 1) (a_v (a_k (fcd hx G1 D1 hr (b_p (pv 0) (b_p (pv 1) (a_v (d_N (a_D (a_i a_b) (a_D (a_i a_b) (a_D (a_i a_b) a_o)))) a_e))))) a_e))))))
   refine a_c ?_
   refine a_z ?_
   ·exact (b_j (a_D (a_i a_K) (a_D (a_k (fcd hx G0 D0 hr (b_p (pv 0) (b_p (pv 1) (a_v (a_i a_b) a_e))))) (a_D (fv 3) a_o))))
  ·exact a_u
 refine a_c ?_
 refine a_z ?_
 ·exact (b_j (a_D (a_i a_K) (a_D (a_k (fcd hx G0 D0 hr (b_p (pv 0) (b_p (pv 1) (a_v (a_i a_b) a_e))))) a_o)))
theorem k_N {g:Addr} {fd:FuncData} (T:Tx K mg) (D:FD K mg "_law_call" c_B ["_law_script","_law_town","_law_now","_law_holder"] g fd):FnOk P w K mg base (CXM P w) 5 g fd ["_law_script","_law_town","_law_now","_law_holder"] (spF K mg d_E):=by
 obtain ⟨g0,f0,D0⟩:=T.d0u
 have G0:=c_c P w base T D0
 obtain ⟨g1,f1,D1⟩:=T.d0v
 have G1:=d_P P w base T D1
 refine c_3 D.fn d_b (by decide) ?_
 intro cdv A outer s H E F E' hr hx
 unfold h_V
 refine a_a ?_ ?_
 ·refine a_G (i:=4) ?_ ?_ ?_ ?_ ?_ ?_ <;> try walk_at "z"
  ·exact d_b.nd
  ·exact (a_k (fcd hx G0 D0 hr (b_p (pv 0) (b_p (pv 1) (a_v (a_i a_b) a_e)))))
 refine a_a ?_ ?_
 ·refine a_6 ?_ ?_ ?_
  ·exact (n_F (o_I (j_Y (fv 3) (a_i c_v)) (l_n (q_r (a_k (fcd hx G0 D0 hr (b_p (pv 0) (b_p (pv 1) (a_v (a_i a_b) a_e))))) (a_i a_b)))))
  ·refine a_c ?_
   refine a_G (i:=4) ?_ ?_ ?_ ?_ ?_ ?_ <;> try walk_at "z"
   ·exact d_b.nd
   ·exact (fv 3)
  ·exact a_u
 refine a_a ?_ ?_
 ·refine a_G (i:=5) ?_ ?_ ?_ ?_ ?_ ?_ <;> try walk_at "z"
  ·exact d_b.nd
  ·exact (b_X (fv 2) (a_k (fcd hx G1 D1 hr (b_p (pv 0) (b_p (pv 1) (a_v (d_N (a_D (a_i a_b) (a_D (a_i a_b) (a_D (a_i a_b) (a_D (a_i a_b) (a_D (a_i a_b) (a_D (a_k (fcd hx G0 D0 hr (b_p (pv 0) (b_p (pv 1) (a_v (a_i a_b) a_e))))) a_o))))))) a_e))))))
 refine a_a ?_ ?_
 ·refine a_G (i:=6) ?_ ?_ ?_ ?_ ?_ ?_ <;> try walk_at "z"
  ·exact d_b.nd
  ·exact (a_k (fcd hx G0 D0 hr (b_p (pv 0) (b_p (pv 1) (a_v (a_i a_b) a_e)))))
 refine a_a ?_ ?_
 ·refine a_6 ?_ ?_ ?_
  ·exact (n_F (k_9 (r_h (fv 3) (a_i c_v)) (h_c (o_F (fv 6) (a_i a_b)))))
  ·refine a_c ?_
   refine a_z ?_
   ·exact (b_j (a_D (a_i a_K) (a_D (fv 4) (a_D (fv 5) (a_D (b_X (a_i a_b) (a_k (fcd hx G0 D0 hr (b_p (pv 0) (b_p (pv 1) (a_v (a_k (fcd hx G1 D1 hr (b_p (pv 0) (b_p (pv 1) (a_v (d_N (a_D (a_i a_b) (a_D (a_i a_b) a_o))) a_e))))) a_e)))))) a_o)))))
  ·exact a_u
 refine a_a ?_ ?_
 ·refine a_6 ?_ ?_ ?_
  ·exact (f_w hr.units (fv 6) (a_i a_b))
  ·refine a_c ?_
   refine a_z ?_
   ·exact (b_j (a_D (a_i a_K) (a_D (fv 4) (a_D (fv 5) a_o))))
  ·exact a_u
 refine a_c ?_
 refine a_z ?_
 ·exact (a_x (v_z (d_N (a_D (b_j (a_D (a_i a_K) (a_D (fv 4) (a_D (fv 5) a_o)))) (a_D (b_j (a_D (a_i a_K) (a_D (fv 4) (a_D (fv 5) a_o)))) a_o))) (a_i a_b)) (h_Q (fv 6) (a_i a_b)))
theorem c_x {C:Addr} {g:Addr} {fd:FuncData} (T:Tx K mg) (HC:HCx K mg C) (D:MD K C "check_holder" "Hall.check_holder" a_8 ["self","runner","moment"] g fd):FnOk P w K mg base (CXM P w) 5 g fd ["self","runner","moment"] (spF K mg (a_j C)):=by
 obtain ⟨g0,f0,D0⟩:=HC.d27
 have G0:=e_Z P w base T HC D0
 obtain ⟨g1,f1,D1⟩:=HC.d26
 have G1:=h_h P w base T HC D1
 obtain ⟨DE_,xt⟩:=T.xt0
 obtain ⟨C_NotHolder,E_NotHolder,_⟩:=xt.at_ (c:="NotHolder") (by decide +kernel)
 refine c_3 D.fn g_N (by decide) ?_
 intro cdv A outer s H E F E' hr hx
 unfold b_o
 refine a_a ?_ ?_
 ·refine b_D ?_ ?_
  ·exact (fmd hx HC.cl G0 D0 hr (pv 0) (a_v (fv 1) (a_v (fv 2) a_e)))
  ·rfl
 refine a_c ?_
 refine a_6 ?_ ?_ ?_
 ·exact (n_F (k_9 (d_x (b_J (b_O (a_k (fmd hx HC.cl G1 D1 hr (pv 0) (a_v (fv 2) a_e)))))) (h_c (m_6 hr.units (a_0 HC.cl HC.d1x (pv 0)) (fv 1)))))
 ·refine a_c ?_
  exact (d_h hx hr.hd rfl E_NotHolder)
 ·exact a_u
theorem k_a {C:Addr} {g:Addr} {fd:FuncData} (T:Tx K mg) (HC:HCx K mg C) (D:MD K C "take" "Hall.take" f_r ["self","runner","moment","term"] g fd):FnOk P w K mg base (CXM P w) 5 g fd ["self","runner","moment","term"] (spF K mg (d_T C)):=by
 obtain ⟨g0,f0,D0⟩:=HC.d27
 have G0:=e_Z P w base T HC D0
 obtain ⟨g1,f1,D1⟩:=T.d0h
 have G1:=j_J P w base T D1
 obtain ⟨g2,f2,D2⟩:=HC.d26
 have G2:=h_h P w base T HC D2
 refine c_3 D.fn n_0 (by decide) ?_
 intro cdv A outer s H E F E' hr hx
 unfold f_4
 refine a_a ?_ ?_
 ·refine b_D ?_ ?_
  ·exact (fmd hx HC.cl G0 D0 hr (pv 0) (a_v (fv 1) (a_v (fv 2) a_e)))
  ·rfl
 refine a_a ?_ ?_
 ·refine b_D ?_ ?_
  ·exact (fcd hx G1 D1 hr (a_v (fv 3) a_e))
  ·rfl
 refine a_a ?_ ?_
 ·refine b_1 ?_ ?_ ?_ ?_ ?_
  ·exact HC.cl
  ·exact HC.d1z
  ·exact (pv 0)
  ·exact (fv 2)
  ·rfl
 refine a_a ?_ ?_
 ·refine a_6 ?_ ?_ ?_
  ·exact (d_x (b_J (b_O (a_k (fmd hx HC.cl G2 D2 hr (pv 0) (a_v (fv 2) a_e))))))
  ·refine a_c ?_
   refine n_y ?_ ?_ ?_ ?_
   ·exact HC.cl
   ·exact HC.d1y
   ·exact (pv 0)
   ·exact p_b
  ·refine a_c ?_
   refine a_6 ?_ ?_ ?_
   ·exact (m_6 hr.units (a_0 HC.cl HC.d1x (pv 0)) (fv 1))
   ·refine a_c ?_
    refine a_z ?_
    ·exact (a_i h_p)
   ·exact a_u
 refine a_a ?_ ?_
 ·refine b_1 ?_ ?_ ?_ ?_ ?_
  ·exact HC.cl
  ·exact HC.d1x
  ·exact (pv 0)
  ·exact (fv 1)
  ·rfl
 refine a_a ?_ ?_
 ·refine b_1 ?_ ?_ ?_ ?_ ?_
  ·exact HC.cl
  ·exact HC.d22
  ·exact (pv 0)
  ·exact (b_X (fv 2) (fv 3))
  ·rfl
 refine a_c ?_
 refine a_z ?_
 ·exact (a_i h_p)
theorem f_y {C:Addr} {g:Addr} {fd:FuncData} (T:Tx K mg) (HC:HCx K mg C) (D:MD K C "first_unsettled" "Hall.first_unsettled" a_Q ["self"] g fd):FnOk P w K mg base (CXM P w) 5 g fd ["self"] (spF K mg (b_7 C)):=by
 obtain ⟨g0,f0,D0⟩:=T.d0o
 have G0:=i_U P w base T D0
 obtain ⟨t_PLAN,g_PLAN⟩:=T.d1d
 refine c_3 D.fn a_Z (by decide) ?_
 intro cdv A outer s H E F E' hr hx
 unfold d_C
 refine a_a ?_ ?_
 ·refine d_B (i:=1) ?_ ?_ ?_ ?_ ?_ ?_ <;> try walk_at "z"
  ·exact a_Z.nd
  ·exact (i_f a_o)
 refine a_a ?_ ?_
 ·refine g_7 ?_ ?_ ?_ ?_ ?_ ?_ <;> try walk_at "z"
  ·exact PassesOwn.leaving
  ·exact (e_4 (e_5 rfl T.d1r (a_D (h_q i_c (c_Y a_9 l_I rfl T.d1n PySem.boot_len (a_D (a_0 HC.cl HC.d1w (pv 0)) a_o))) a_o)))
  ·exact (fgn 2 a_Z.nd)
  ·unfold a_B
   refine a_a ?_ ?_
   ·refine a_G (i:=3) ?_ ?_ ?_ ?_ ?_ ?_ <;> try walk_at "z"
    ·exact a_Z.nd
    ·exact (p_E HC.cl HC.d21 (pv 0) (pv 2))
   refine a_a ?_ ?_
   ·refine a_G (i:=4) ?_ ?_ ?_ ?_ ?_ ?_ <;> try walk_at "z"
    ·exact a_Z.nd
    ·exact (a_k (fcd hx G0 D0 hr (a_v (a_0 HC.cl HC.d24 (pv 0)) (a_v (a_x (a_x (a_0 HC.cl HC.d1w (pv 0)) (fv 2)) (a_i (b_d rfl g_PLAN))) (a_v (fv 3) a_e)))))
   refine a_c ?_
   refine a_6 ?_ ?_ ?_
   ·exact (j_Y (fv 4) (a_i c_v))
   ·refine a_c ?_
    refine h_b ?_ ?_ ?_ ?_ ?_ ?_ ?_ ?_ <;> try walk_at "z"
    ·exact (pv 1)
    ·exact (b_j (a_D (fv 4) (a_D (fv 2) (a_D (fv 3) a_o))))
   ·exact a_u
 refine a_c ?_
 refine a_z ?_
 ·exact (s_A (t_o hr) rfl rfl T.d1q (pv 1))
theorem i_J {g:Addr} {fd:FuncData} (T:Tx K mg) (D:FD K mg "check_deeds" b_W ["thing"] g fd):FnOk P w K mg base (CXM P w) 6 g fd ["thing"] (spF K mg c_o):=by
 obtain ⟨g0,f0,D0⟩:=T.d0c
 have G0:=k_y P w base T D0
 obtain ⟨DE_,xt⟩:=T.xt0
 obtain ⟨C_NoDeeds,E_NoDeeds,_⟩:=xt.at_ (c:="NoDeeds") (by decide +kernel)
 refine c_3 D.fn i_G (by decide) ?_
 intro cdv A outer s H E F E' hr hx
 unfold e_z
 refine a_c ?_
 refine a_6 ?_ ?_ ?_
 ·exact (d_x (b_J (b_O (a_k (fcd hx G0 D0 hr (a_v (fv 0) a_e))))))
 ·refine a_c ?_
  exact (d_h hx hr.hd rfl E_NoDeeds)
 ·exact a_u
theorem j_e {g:Addr} {fd:FuncData} (T:Tx K mg) (D:FD K mg "_law_deeds" c_j ["_law_script","_law_town"] g fd):FnOk P w K mg base (CXM P w) 6 g fd ["_law_script","_law_town"] (spF K mg d_L):=by
 obtain ⟨g0,f0,D0⟩:=T.d0u
 have G0:=c_c P w base T D0
 obtain ⟨g1,f1,D1⟩:=T.d0v
 have G1:=d_P P w base T D1
 obtain ⟨g2,f2,D2⟩:=T.d0x
 have G2:=k_R P w base T D2
 refine c_3 D.fn c_u (by decide) ?_
 intro cdv A outer s H E F E' hr hx
 unfold f_a
 refine a_a ?_ ?_
 ·refine d_B (i:=2) ?_ ?_ ?_ ?_ ?_ ?_ <;> try walk_at "z"
  ·exact c_u.nd
  ·exact (i_f a_o)
 refine a_a ?_ ?_
 ·refine g_7 ?_ ?_ ?_ ?_ ?_ ?_ <;> try walk_at "z"
  ·exact PassesOwn.leaving
  ·exact (e_4 (e_5 rfl T.d1r (a_D (a_k (fcd hx G0 D0 hr (b_p (pv 0) (b_p (pv 1) (a_v (a_k (fcd hx G1 D1 hr (b_p (pv 0) (b_p (pv 1) (a_v (d_N (a_D (a_i a_b) (a_D (a_i a_b) (a_D (a_i a_b) a_o)))) a_e))))) a_e))))) a_o)))
  ·exact (fgn 3 c_u.nd)
  ·unfold b_3
   refine a_a ?_ ?_
   ·refine a_G (i:=4) ?_ ?_ ?_ ?_ ?_ ?_ <;> try walk_at "z"
    ·exact c_u.nd
    ·exact (a_k (fcd hx G0 D0 hr (b_p (pv 0) (b_p (pv 1) (a_v (a_k (fcd hx G1 D1 hr (b_p (pv 0) (b_p (pv 1) (a_v (d_N (a_D (a_i a_b) (a_D (a_i a_b) (a_D (a_i a_b) a_o)))) a_e))))) a_e)))))
   refine a_a ?_ ?_
   ·refine a_G (i:=5) ?_ ?_ ?_ ?_ ?_ ?_ <;> try walk_at "z"
    ·exact c_u.nd
    ·exact (a_k (fcd hx G1 D1 hr (b_p (pv 0) (b_p (pv 1) (a_v (d_N (a_D (a_i a_K) (a_D (a_i a_K) (a_D (b_j (a_D (a_i a_K) (a_D (fv 4) a_o))) a_o)))) a_e)))))
   refine a_c ?_
   refine h_b ?_ ?_ ?_ ?_ ?_ ?_ ?_ ?_ <;> try walk_at "z"
   ·exact (pv 2)
   ·exact (b_j (a_D (a_k (fcd hx G2 D2 hr (b_p (pv 0) (b_p (pv 1) a_e)))) (a_D (fv 5) (a_D (l_K hr.units (a_k (fcd hx G0 D0 hr (b_p (pv 0) (b_p (pv 1) (a_v (a_i a_b) a_e))))) (a_i a_b)) a_o))))
 refine a_c ?_
 refine a_z ?_
 ·exact (h_q m_F (k_P e_M n_5 rfl T.d1t g_w (a_D (fv 2) a_o)))
theorem n_P {C:Addr} {g:Addr} {fd:FuncData} (T:Tx K mg) (HC:HCx K mg C) (D:MD K C "give" "Hall.give" f_p ["self","runner","moment"] g fd):FnOk P w K mg base (CXM P w) 6 g fd ["self","runner","moment"] (spF K mg (d_K C)):=by
 obtain ⟨g0,f0,D0⟩:=HC.d28
 have G0:=c_x P w base T HC D0
 refine c_3 D.fn n_M (by decide) ?_
 intro cdv A outer s H E F E' hr hx
 unfold h_J
 refine a_a ?_ ?_
 ·refine b_D ?_ ?_
  ·exact (fmd hx HC.cl G0 D0 hr (pv 0) (a_v (fv 1) (a_v (fv 2) a_e)))
  ·rfl
 refine a_a ?_ ?_
 ·refine b_1 ?_ ?_ ?_ ?_ ?_
  ·exact HC.cl
  ·exact HC.d1z
  ·exact (pv 0)
  ·exact (fv 2)
  ·rfl
 refine a_c ?_
 refine b_1 ?_ ?_ ?_ ?_ ?_
 ·exact HC.cl
 ·exact HC.d1x
 ·exact (pv 0)
 ·exact (a_i c_v)
 ·rfl
theorem h_W {C:Addr} {g:Addr} {fd:FuncData} (T:Tx K mg) (HC:HCx K mg C) (D:MD K C "step_ahead" "Hall.step_ahead" b_r ["self","runner","moment"] g fd):FnOk P w K mg base (CXM P w) 6 g fd ["self","runner","moment"] (spF K mg (b_f C)):=by
 obtain ⟨g0,f0,D0⟩:=HC.d2d
 have G0:=f_y P w base T HC D0
 obtain ⟨g1,f1,D1⟩:=HC.d2b
 have G1:=d_Q P w base T HC D1
 obtain ⟨g2,f2,D2⟩:=T.d0p
 have G2:=i_I P w base T D2
 refine c_3 D.fn b_I (by decide) ?_
 intro cdv A outer s H E F E' hr hx
 unfold b_u
 refine a_a ?_ ?_
 ·refine a_G (i:=3) ?_ ?_ ?_ ?_ ?_ ?_ <;> try walk_at "z"
  ·exact b_I.nd
  ·exact (a_k (fmd0 hx HC.cl G0 D0 hr (pv 0)))
 refine a_a ?_ ?_
 ·refine a_6 ?_ ?_ ?_
  ·exact (r_h (fv 3) (a_i c_v))
  ·refine a_c ?_
   refine a_z ?_
   ·exact (b_j (a_D (a_i a_K) (a_D (a_i c_v) a_o)))
  ·exact a_u
 refine a_a ?_ ?_
 ·refine a_6 ?_ ?_ ?_
  ·exact (q_r (a_x (fv 3) (a_i a_b)) (fv 2))
  ·refine a_c ?_
   refine a_z ?_
   ·exact (b_j (a_D (a_i a_K) (a_D (a_x (fv 3) (a_i a_b)) a_o)))
  ·exact a_u
 refine a_a ?_ ?_
 ·refine a_G (i:=4) ?_ ?_ ?_ ?_ ?_ ?_ <;> try walk_at "z"
  ·exact b_I.nd
  ·exact (a_x (fv 3) (a_i a_b))
 refine a_a ?_ ?_
 ·refine a_G (i:=5) ?_ ?_ ?_ ?_ ?_ ?_ <;> try walk_at "z"
  ·exact b_I.nd
  ·exact (a_x (fv 3) (a_i a_b))
 refine a_a ?_ ?_
 ·refine a_G (i:=6) ?_ ?_ ?_ ?_ ?_ ?_ <;> try walk_at "z"
  ·exact b_I.nd
  ·exact (s_r (b_J (b_O (a_k (fcd hx G2 D2 hr (a_v (a_0 HC.cl HC.d24 (pv 0)) (a_v (a_x (a_0 HC.cl HC.d1w (pv 0)) (fv 4)) (a_v (fv 5) (a_v (fv 2) a_e)))))))) (a_i a_K) (a_i a_K))
 refine a_c ?_
 refine b_x ?_
 ·exact (fmd hx HC.cl G1 D1 hr (pv 0) (a_v (b_j (a_D (fv 2) (a_D (fv 1) (a_D (fv 6) (a_D (fv 4) (a_D (fv 5) a_o)))))) a_e))
theorem f_V {C:Addr} {g:Addr} {fd:FuncData} (T:Tx K mg) (HC:HCx K mg C) (D:MD K C "finish" "Hall.finish" d_o ["self","runner","moment"] g fd):FnOk P w K mg base (CXM P w) 6 g fd ["self","runner","moment"] (spF K mg (a_P C)):=by
 obtain ⟨g0,f0,D0⟩:=HC.d28
 have G0:=c_x P w base T HC D0
 obtain ⟨g1,f1,D1⟩:=HC.d2b
 have G1:=d_Q P w base T HC D1
 obtain ⟨g2,f2,D2⟩:=HC.d2c
 have G2:=h_e P w base T HC D2
 obtain ⟨DE_,xt⟩:=T.xt0
 obtain ⟨C_Nothing,E_Nothing,_⟩:=xt.at_ (c:="Nothing") (by decide +kernel)
 refine c_3 D.fn l_v (by decide) ?_
 intro cdv A outer s H E F E' hr hx
 unfold e_b
 refine a_a ?_ ?_
 ·refine b_D ?_ ?_
  ·exact (fmd hx HC.cl G0 D0 hr (pv 0) (a_v (fv 1) (a_v (fv 2) a_e)))
  ·rfl
 refine a_a ?_ ?_
 ·refine a_6 ?_ ?_ ?_
  ·exact (d_x (b_J (b_O (a_k (fmd0 hx HC.cl G2 D2 hr (pv 0))))))
  ·refine a_c ?_
   exact (d_h hx hr.hd rfl E_Nothing)
  ·exact a_u
 refine a_a ?_ ?_
 ·refine b_1 ?_ ?_ ?_ ?_ ?_
  ·exact HC.cl
  ·exact HC.d1z
  ·exact (pv 0)
  ·exact (fv 2)
  ·rfl
 refine a_c ?_
 refine b_x ?_
 ·exact (fmd hx HC.cl G1 D1 hr (pv 0) (a_v (b_j (a_D (fv 2) (a_D (fv 1) (a_D (a_i a_K) (a_D (a_x (a_0 HC.cl HC.d1v (pv 0)) (a_i a_b)) (a_D (a_x (a_0 HC.cl HC.d1v (pv 0)) (a_i a_b)) a_o)))))) a_e))
theorem f_8 {C:Addr} {g:Addr} {fd:FuncData} (T:Tx K mg) (HC:HCx K mg C) (D:MD K C "__init__" "Hall.__init__" b_9 ["self","zone","deeds"] g fd):FnOk P w K mg base (CXM P w) 7 g fd ["self","zone","deeds"] (spF K mg (c_7 C)):=by
 obtain ⟨g0,f0,D0⟩:=T.d0d
 have G0:=j_Z P w base T D0
 obtain ⟨g1,f1,D1⟩:=T.d0f
 have G1:=i_J P w base T D1
 refine c_3 D.fn j_C (by decide) ?_
 intro cdv A outer s H E F E' hr hx
 unfold f_b
 refine a_a ?_ ?_
 ·refine b_D ?_ ?_
  ·exact (fcd hx G0 D0 hr (a_v (fv 1) a_e))
  ·rfl
 refine a_a ?_ ?_
 ·refine b_D ?_ ?_
  ·exact (fcd hx G1 D1 hr (a_v (fv 2) a_e))
  ·rfl
 refine a_a ?_ ?_
 ·refine b_1 ?_ ?_ ?_ ?_ ?_
  ·exact HC.cl
  ·exact HC.d24
  ·exact (pv 0)
  ·exact (fv 1)
  ·rfl
 refine a_a ?_ ?_
 ·refine b_1 ?_ ?_ ?_ ?_ ?_
  ·exact HC.cl
  ·exact HC.d1w
  ·exact (pv 0)
  ·exact (fv 2)
  ·rfl
 refine a_a ?_ ?_
 ·refine b_1 ?_ ?_ ?_ ?_ ?_
  ·exact HC.cl
  ·exact HC.d1z
  ·exact (pv 0)
  ·exact (a_i c_v)
  ·rfl
 refine a_a ?_ ?_
 ·refine b_1 ?_ ?_ ?_ ?_ ?_
  ·exact HC.cl
  ·exact HC.d1x
  ·exact (pv 0)
  ·exact (a_i c_v)
  ·rfl
 refine a_a ?_ ?_
 ·refine b_1 ?_ ?_ ?_ ?_ ?_
  ·exact HC.cl
  ·exact HC.d22
  ·exact (pv 0)
  ·exact (a_i a_b)
  ·rfl
 refine a_a ?_ ?_
 ·refine b_1 ?_ ?_ ?_ ?_ ?_
  ·exact HC.cl
  ·exact HC.d1y
  ·exact (pv 0)
  ·exact (a_i a_b)
  ·rfl
 refine a_a ?_ ?_
 ·refine b_1 ?_ ?_ ?_ ?_ ?_
  ·exact HC.cl
  ·exact HC.d1v
  ·exact (pv 0)
  ·exact (a_i c_v)
  ·rfl
 refine a_a ?_ ?_
 ·refine o_r ?_ ?_ ?_ ?_
  ·exact HC.cl
  ·exact HC.d20
  ·exact (pv 0)
  ·rfl
 refine a_a ?_ ?_
 ·refine o_A ?_ ?_ ?_ ?_
  ·exact HC.cl
  ·exact HC.d23
  ·exact (pv 0)
  ·rfl
 refine a_c ?_
 refine m_0 (own:=["deed"]) (capN:=[]) (caps:=[]) ?_ ?_ ?_ ?_ ?_ ?_ ?_ ?_ ?_ ?_ <;> try walk_at "z"
 ·exact HC.cl
 ·exact HC.d21
 ·exact (pv 0)
 ·exact (CompScope.of (own:=["deed"]) (capN:=[]) (caps:=[]))
 ·exact (h_X (fv 2))
 ·exact (fun _ _ _ _ _ _=>⟨(fgn 0 (show ((["deed"]:List Str) ++ ([]:List Str)).Nodup from by decide +kernel)),i_b,(a_i a_b)⟩)
theorem h_T {C:Addr} {g:Addr} {fd:FuncData} (T:Tx K mg) (HC:HCx K mg C) (D:MD K C "step" "Hall.step" f_s ["self","runner","moment"] g fd):FnOk P w K mg base (CXM P w) 7 g fd ["self","runner","moment"] (spF K mg (a_V C)):=by
 obtain ⟨g0,f0,D0⟩:=HC.d28
 have G0:=c_x P w base T HC D0
 obtain ⟨g1,f1,D1⟩:=HC.d2c
 have G1:=h_e P w base T HC D1
 obtain ⟨g2,f2,D2⟩:=HC.d2g
 have G2:=h_W P w base T HC D2
 obtain ⟨g3,f3,D3⟩:=HC.d2f
 have G3:=e_J P w base T HC D3
 refine c_3 D.fn o_0 (by decide) ?_
 intro cdv A outer s H E F E' hr hx
 unfold f_q
 refine a_a ?_ ?_
 ·refine b_D ?_ ?_
  ·exact (fmd hx HC.cl G0 D0 hr (pv 0) (a_v (fv 1) (a_v (fv 2) a_e)))
  ·rfl
 refine a_a ?_ ?_
 ·refine b_1 ?_ ?_ ?_ ?_ ?_
  ·exact HC.cl
  ·exact HC.d1z
  ·exact (pv 0)
  ·exact (fv 2)
  ·rfl
 refine a_a ?_ ?_
 ·refine a_6 ?_ ?_ ?_
  ·exact (b_J (b_O (a_k (fmd0 hx HC.cl G1 D1 hr (pv 0)))))
  ·refine a_c ?_
   refine a_z ?_
   ·exact (b_j (a_D (a_i a_K) (a_D (a_x (a_0 HC.cl HC.d1v (pv 0)) (a_i a_b)) (a_D (a_x (a_0 HC.cl HC.d1v (pv 0)) (a_i a_b)) a_o))))
  ·exact a_u
 refine a_a ?_ ?_
 ·refine a_6 ?_ ?_ ?_
  ·exact (j_Y (a_0 HC.cl HC.d1v (pv 0)) (a_i c_v))
  ·refine a_c ?_
   refine b_x ?_
   ·exact (fmd hx HC.cl G3 D3 hr (pv 0) (a_v (fv 1) (a_v (fv 2) a_e)))
  ·exact a_u
 refine a_c ?_
 refine b_x ?_
 ·exact (fmd hx HC.cl G2 D2 hr (pv 0) (a_v (fv 1) (a_v (fv 2) a_e)))
theorem l_Y {C:Addr} {g:Addr} {fd:FuncData} (T:Tx K mg) (HC:HCx K mg C) (D:FD K mg "catch_up" d_r ["hall","runner","moment","most"] g fd):FnOk P w K mg base (CXM P w) 8 g fd ["hall","runner","moment","most"] (spF K mg (c_G C)):=by
 obtain ⟨g0,f0,D0⟩:=HC.d2e
 have G0:=h_T P w base T HC D0
 obtain ⟨g1,f1,D1⟩:=T.d00
 have G1:=b_H P w base T D1
 obtain ⟨g2,f2,D2⟩:=HC.d2h
 have G2:=f_V P w base T HC D2
 obtain ⟨t_MOST_STEPS,g_MOST_STEPS⟩:=T.d1g
 obtain ⟨DE_,xt⟩:=T.xt0
 obtain ⟨C_NoCount,E_NoCount,_⟩:=xt.at_ (c:="NoCount") (by decide +kernel)
 refine c_3 D.fn e_y (by decide) ?_
 intro cdv A outer s H E F E' hr hx
 unfold g_T
 refine a_a ?_ ?_
 ·refine a_6 ?_ ?_ ?_
  ·exact (d_x (b_J (b_O (a_k (fcd hx G1 D1 hr (a_v (fv 3) (a_v (a_i a_b) (a_v (a_i (b_d rfl g_MOST_STEPS)) a_e))))))))
  ·refine a_c ?_
   exact (d_h hx hr.hd rfl E_NoCount)
  ·exact a_u
 refine a_a ?_ ?_
 ·refine d_B (i:=4) ?_ ?_ ?_ ?_ ?_ ?_ <;> try walk_at "z"
  ·exact e_y.nd
  ·exact (i_f a_o)
 refine a_a ?_ ?_
 ·refine g_7 ?_ ?_ ?_ ?_ ?_ ?_ <;> try walk_at "z"
  ·exact PassesOwn.leaving
  ·exact (e_4 (e_5 rfl T.d1r (a_D (fv 3) a_o)))
  ·exact (fgn 5 e_y.nd)
  ·unfold a_S
   refine a_a ?_ ?_
   ·refine a_G (i:=6) ?_ ?_ ?_ ?_ ?_ ?_ <;> try walk_at "z"
    ·exact e_y.nd
    ·exact (a_k (fmd hx HC.cl G0 D0 hr (pv 0) (a_v (fv 1) (a_v (fv 2) a_e))))
   refine a_a ?_ ?_
   ·refine h_b ?_ ?_ ?_ ?_ ?_ ?_ ?_ ?_ <;> try walk_at "z"
    ·exact (pv 4)
    ·exact (fv 6)
   refine a_a ?_ ?_
   ·refine a_6 ?_ ?_ ?_
    ·exact (f_w hr.units (a_x (fv 6) (a_i a_b)) (a_i a_K))
    ·refine a_c ?_
     exact p_6
    ·exact a_u
   refine a_c ?_
   refine a_6 ?_ ?_ ?_
   ·exact (n_F (k_9 (f_w hr.units (a_x (fv 6) (a_i a_b)) (a_i a_K)) (h_c (f_w hr.units (a_x (fv 6) (a_i a_b)) (a_i a_K)))))
   ·refine a_c ?_
    refine h_b ?_ ?_ ?_ ?_ ?_ ?_ ?_ ?_ <;> try walk_at "z"
    ·exact (pv 4)
    ·exact (a_k (fmd hx HC.cl G2 D2 hr (pv 0) (a_v (fv 1) (a_v (fv 2) a_e))))
   ·exact a_u
 refine a_c ?_
 refine t_5 ?_
 ·exact (pv 4)
theorem m_L {C:Addr} {g:Addr} {fd:FuncData} (T:Tx K mg) (HC:HCx K mg C) (D:FD K mg "_law_do" e_m ["_law_hall","_law_call_here"] g fd):FnOk P w K mg base (CXM P w) 8 g fd ["_law_hall","_law_call_here"] (spF K mg (a_R C)):=by
 obtain ⟨g0,f0,D0⟩:=HC.d2h
 have G0:=f_V P w base T HC D0
 obtain ⟨g1,f1,D1⟩:=HC.d29
 have G1:=k_a P w base T HC D1
 obtain ⟨g2,f2,D2⟩:=HC.d2a
 have G2:=n_P P w base T HC D2
 obtain ⟨g3,f3,D3⟩:=HC.d2e
 have G3:=h_T P w base T HC D3
 obtain ⟨g4,f4,D4⟩:=T.d10
 have G4:=j_G P w base T D4
 obtain ⟨DE_,xt⟩:=T.xt0
 refine c_3 D.fn i_Z (by decide) ?_
 intro cdv A outer s H E F E' hr hx
 unfold c_q
 refine a_c ?_
 refine s_f (D:=DE_) (i:=2) ?_ ?_ ?_ ?_ ?_ ?_ ?_ ?_ ?_ <;> try walk_at "z"
 ·exact i_Z.nd
 ·intro F1 pn1 xe1 E1 hx1 hp1
  refine a_a ?_ ?_
  ·refine a_6 ?_ ?_ ?_
   ·exact (f_w hr.units (a_x (fv 1) (a_i a_b)) (a_i a_K))
   ·refine a_c ?_
    refine b_x ?_
    ·exact (fmd hx1 HC.cl G1 D1 hr (pv 0) (a_v (a_x (fv 1) (a_i a_b)) (a_v (a_x (fv 1) (a_i a_b)) (a_v (a_x (fv 1) (a_i a_b)) a_e))))
   ·exact a_u
  refine a_a ?_ ?_
  ·refine a_6 ?_ ?_ ?_
   ·exact (f_w hr.units (a_x (fv 1) (a_i a_b)) (a_i a_K))
   ·refine a_c ?_
    refine b_x ?_
    ·exact (fmd hx1 HC.cl G2 D2 hr (pv 0) (a_v (a_x (fv 1) (a_i a_b)) (a_v (a_x (fv 1) (a_i a_b)) a_e)))
   ·exact a_u
  refine a_a ?_ ?_
  ·refine a_6 ?_ ?_ ?_
   ·exact (f_w hr.units (a_x (fv 1) (a_i a_b)) (a_i a_K))
   ·refine a_c ?_
    refine b_x ?_
    ·exact (fmd hx1 HC.cl G3 D3 hr (pv 0) (a_v (a_x (fv 1) (a_i a_b)) (a_v (a_x (fv 1) (a_i a_b)) a_e)))
   ·exact a_u
  refine a_c ?_
  refine b_x ?_
  ·exact (fmd hx1 HC.cl G0 D0 hr (pv 0) (a_v (a_x (fv 1) (a_i a_b)) (a_v (a_x (fv 1) (a_i a_b)) a_e)))
 ·intro F1 e1 pn1 xe1
  refine a_c ?_
  refine b_x ?_
  ·exact (p_o (p_T xok0 G4 (Room.h (hr.mono (j:=1) (by decide)) _) rfl D4.mgf D4.fn.kp D4.b (b_p (pv 2) a_e)))
theorem q_j {C:Addr} {g:Addr} {fd:FuncData} (T:Tx K mg) (HC:HCx K mg C) (D:FD K mg "woken" g_0 ["thing"] g fd):FnOk P w K mg base (CXM P w) 9 g fd ["thing"] (spF K mg (i_l C)):=by
 obtain ⟨g0,f0,D0⟩:=HC.d25
 have G0:=f_8 P w base T HC D0
 obtain ⟨g1,f1,D1⟩:=HC.d2b
 have G1:=d_Q P w base T HC D1
 refine c_3 D.fn j_v (by decide) ?_
 intro cdv A outer s H E F E' hr hx
 unfold l_M
 refine a_a ?_ ?_
 ·refine d_B (i:=1) ?_ ?_ ?_ ?_ ?_ ?_ <;> try walk_at "z"
  ·exact j_v.nd
  ·exact (o_7 hx (HC.make D0.mt) G0 (hr.mono (by decide)) rfl HC.mg D0.b (a_D (a_x (fv 0) (a_i a_b)) (a_D (a_x (fv 0) (a_i a_b)) a_o)))
 refine a_a ?_ ?_
 ·refine g_7 ?_ ?_ ?_ ?_ ?_ ?_ <;> try walk_at "z"
  ·exact PassesOwn.leaving
  ·exact (h_X (a_x (fv 0) (a_i a_b)))
  ·exact (fgn 2 j_v.nd)
  ·unfold g_l
   refine a_c ?_
   refine b_D ?_ ?_
   ·exact (fmd hx HC.cl G1 D1 hr (pv 1) (a_v (fv 2) a_e))
   ·rfl
 refine a_a ?_ ?_
 ·refine b_1 ?_ ?_ ?_ ?_ ?_
  ·exact HC.cl
  ·exact HC.d1z
  ·exact (pv 1)
  ·exact (a_x (fv 0) (a_i a_b))
  ·rfl
 refine a_a ?_ ?_
 ·refine b_1 ?_ ?_ ?_ ?_ ?_
  ·exact HC.cl
  ·exact HC.d1x
  ·exact (pv 1)
  ·exact (a_x (fv 0) (a_i a_b))
  ·rfl
 refine a_a ?_ ?_
 ·refine b_1 ?_ ?_ ?_ ?_ ?_
  ·exact HC.cl
  ·exact HC.d22
  ·exact (pv 1)
  ·exact (a_x (fv 0) (a_i a_b))
  ·rfl
 refine a_a ?_ ?_
 ·refine b_1 ?_ ?_ ?_ ?_ ?_
  ·exact HC.cl
  ·exact HC.d1y
  ·exact (pv 1)
  ·exact (a_x (fv 0) (a_i a_b))
  ·rfl
 refine a_a ?_ ?_
 ·refine b_1 ?_ ?_ ?_ ?_ ?_
  ·exact HC.cl
  ·exact HC.d1v
  ·exact (pv 1)
  ·exact (a_x (fv 0) (a_i a_b))
  ·rfl
 refine a_c ?_
 refine t_5 ?_
 ·exact (pv 1)
theorem t_x {C:Addr} {g:Addr} {fd:FuncData} (T:Tx K mg) (HC:HCx K mg C) (D:FD K mg "law" k_v ["_law_script"] g fd):FnOk P w K mg base (CXM P w) 10 g fd ["_law_script"] (spF K mg (t_L C)):=by
 obtain ⟨g0,f0,D0⟩:=HC.d29
 have G0:=k_a P w base T HC D0
 obtain ⟨g1,f1,D1⟩:=T.d0w
 have G1:=k_E P w base T D1
 obtain ⟨g2,f2,D2⟩:=T.d0y
 have G2:=j_e P w base T D2
 obtain ⟨g3,f3,D3⟩:=HC.d25
 have G3:=f_8 P w base T HC D3
 obtain ⟨g4,f4,D4⟩:=HC.d2e
 have G4:=h_T P w base T HC D4
 obtain ⟨g5,f5,D5⟩:=T.d0q
 have G5:=q_j P w base T HC D5
 obtain ⟨g6,f6,D6⟩:=HC.d2k
 have G6:=m_P P w base T HC D6
 obtain ⟨g7,f7,D7⟩:=T.d0u
 have G7:=c_c P w base T D7
 obtain ⟨g8,f8,D8⟩:=T.d0r
 have G8:=l_Y P w base T HC D8
 obtain ⟨g9,f9,D9⟩:=T.d0z
 have G9:=k_N P w base T D9
 obtain ⟨g10,f10,D10⟩:=T.d11
 have G10:=m_L P w base T HC D10
 obtain ⟨g11,f11,D11⟩:=HC.d2j
 have G11:=p_t P w base T HC D11
 obtain ⟨g12,f12,D12⟩:=HC.d2i
 have G12:=o_c P w base T HC D12
 obtain ⟨g13,f13,D13⟩:=HC.d2h
 have G13:=f_V P w base T HC D13
 refine c_3 D.fn b_5 (by decide) ?_
 intro cdv A outer s H E F E' hr hx
 unfold s_O
 refine a_a ?_ ?_
 ·unfold l_D
  refine d_B (i:=1) ?_ ?_ ?_ ?_ ?_ ?_ <;> try walk_at "z"
  ·exact b_5.nd
  ·exact (i_f a_o)
 refine a_a ?_ ?_
 ·unfold l_t
  refine a_G (i:=2) ?_ ?_ ?_ ?_ ?_ ?_ <;> try walk_at "z"
  ·exact b_5.nd
  ·exact (a_k (fcd hx G1 D1 hr (b_p (pv 0) (b_p (pv 1) a_e))))
 refine a_a ?_ ?_
 ·unfold l_o
  refine a_G (i:=3) ?_ ?_ ?_ ?_ ?_ ?_ <;> try walk_at "z"
  ·exact b_5.nd
  ·exact (a_k (fcd hx G2 D2 hr (b_p (pv 0) (b_p (pv 1) a_e))))
 refine a_a ?_ ?_
 ·unfold l_J
  refine d_B (i:=4) ?_ ?_ ?_ ?_ ?_ ?_ <;> try walk_at "z"
  ·exact b_5.nd
  ·exact (o_7 hx (HC.make D3.mt) G3 (hr.mono (by decide)) rfl HC.mg D3.b (a_D (fv 2) (a_D (fv 3) a_o)))
 refine a_a ?_ ?_
 ·unfold l_q
  refine a_G (i:=5) ?_ ?_ ?_ ?_ ?_ ?_ <;> try walk_at "z"
  ·exact b_5.nd
  ·exact (a_i a_b)
 refine a_a ?_ ?_
 ·unfold l_W
  refine g_7 ?_ ?_ ?_ ?_ ?_ ?_ <;> try walk_at "z"
  ·exact PassesOwn.leaving
  ·exact (e_4 (e_5 rfl T.d1r (a_D (a_k (fcd hx G7 D7 hr (b_p (pv 0) (b_p (pv 1) (a_v (a_i a_b) a_e))))) a_o)))
  ·exact (fgn 6 b_5.nd)
  ·unfold h_L
   refine a_a ?_ ?_
   ·refine a_G (i:=7) ?_ ?_ ?_ ?_ ?_ ?_ <;> try walk_at "z"
    ·exact b_5.nd
    ·exact (a_k (fcd hx G9 D9 hr (b_p (pv 0) (b_p (pv 1) (a_v (fv 5) (a_v (a_x (a_k (fmd0 hx HC.cl G12 D12 hr (pv 4))) (a_i a_b)) a_e))))))
   refine a_a ?_ ?_
   ·refine b_D ?_ ?_
    ·exact (fcd hx G10 D10 hr (b_p (pv 4) (a_v (fv 7) a_e)))
    ·rfl
   refine a_c ?_
   refine a_G (i:=5) ?_ ?_ ?_ ?_ ?_ ?_ <;> try walk_at "z"
   ·exact b_5.nd
   ·exact (a_x (fv 7) (a_i a_b))
 refine a_a ?_ ?_
 ·unfold l_h
  refine a_G (i:=5) ?_ ?_ ?_ ?_ ?_ ?_ <;> try walk_at "z"
  ·exact b_5.nd
  ·exact (b_X (fv 5) (a_i a_b))
 refine a_a ?_ ?_
 ·unfold l_B
  refine b_D ?_ ?_
  ·exact (fmd hx HC.cl G0 D0 hr (pv 4) (a_v (a_i a_b) (a_v (fv 5) (a_v (a_i a_b) a_e))))
  ·rfl
 refine a_a ?_ ?_
 ·unfold f_6
  refine a_6 ?_ ?_ ?_
  ·exact (f_w hr.units (a_k (fcd hx G7 D7 hr (b_p (pv 0) (b_p (pv 1) (a_v (a_i a_b) a_e))))) (a_i a_b))
  ·refine a_c ?_
   refine b_D ?_ ?_
   ·exact (fmd hx HC.cl G4 D4 hr (pv 4) (a_v (a_i a_b) (a_v (fv 5) a_e)))
   ·rfl
  ·exact a_u
 refine a_a ?_ ?_
 ·unfold j_z
  refine d_B (i:=8) ?_ ?_ ?_ ?_ ?_ ?_ <;> try walk_at "z"
  ·exact b_5.nd
  ·exact (fcd hx G5 D5 hr (a_v (a_k (fmd0 hx HC.cl G6 D6 hr (pv 4))) a_e))
 refine a_a ?_ ?_
 ·unfold j_m
  refine d_B (i:=9) ?_ ?_ ?_ ?_ ?_ ?_ <;> try walk_at "z"
  ·exact b_5.nd
  ·exact (fcd hx G5 D5 hr (a_v (a_k (fmd0 hx HC.cl G6 D6 hr (pv 4))) a_e))
 refine a_a ?_ ?_
 ·unfold j_B
  refine a_G (i:=10) ?_ ?_ ?_ ?_ ?_ ?_ <;> try walk_at "z"
  ·exact b_5.nd
  ·exact (a_k (fcd hx G7 D7 hr (b_p (pv 0) (b_p (pv 1) (a_v (a_i a_b) a_e)))))
 refine a_a ?_ ?_
 ·unfold j_W
  refine d_B (i:=11) ?_ ?_ ?_ ?_ ?_ ?_ <;> try walk_at "z"
  ·exact b_5.nd
  ·exact (i_f a_o)
 refine a_a ?_ ?_
 ·unfold j_n
  refine a_G (i:=12) ?_ ?_ ?_ ?_ ?_ ?_ <;> try walk_at "z"
  ·exact b_5.nd
  ·exact (a_i a_b)
 refine a_a ?_ ?_
 ·unfold j_U
  refine a_G (i:=13) ?_ ?_ ?_ ?_ ?_ ?_ <;> try walk_at "z"
  ·exact b_5.nd
  ·exact (a_i h_p)
 refine a_a ?_ ?_
 ·unfold j_A
  refine q_m (n:=100000) ?_ ?_ ?_
  ·exact PassesOwn.leaving
  ·exact (n_F (o_I (b_J (b_O (fv 13))) (l_n (o_F (fv 12) (fv 10)))))
  ·unfold c_0
   refine a_a ?_ ?_
   ·refine a_G (i:=14) ?_ ?_ ?_ ?_ ?_ ?_ <;> try walk_at "z"
    ·exact b_5.nd
    ·exact (a_k (fmd hx HC.cl G4 D4 hr (pv 8) (a_v (a_i a_b) (a_v (fv 5) a_e))))
   refine a_a ?_ ?_
   ·refine h_b ?_ ?_ ?_ ?_ ?_ ?_ ?_ ?_ <;> try walk_at "z"
    ·exact (pv 11)
    ·exact (fv 14)
   refine a_a ?_ ?_
   ·refine a_G (i:=12) ?_ ?_ ?_ ?_ ?_ ?_ <;> try walk_at "z"
    ·exact b_5.nd
    ·exact (b_X (fv 12) (a_i a_b))
   refine a_a ?_ ?_
   ·refine a_G (i:=13) ?_ ?_ ?_ ?_ ?_ ?_ <;> try walk_at "z"
    ·exact b_5.nd
    ·exact (v_Z hr.units (a_x (fv 14) (a_i a_b)) (a_i a_K))
   refine a_c ?_
   refine a_6 ?_ ?_ ?_
   ·exact (k_I t_q (u_3 (a_x (fv 14) (a_i a_b)) (b_j (a_D (a_i a_K) (a_D (a_i a_K) a_o)))))
   ·refine a_c ?_
    refine h_b ?_ ?_ ?_ ?_ ?_ ?_ ?_ ?_ <;> try walk_at "z"
    ·exact (pv 11)
    ·exact (a_k (fmd hx HC.cl G13 D13 hr (pv 8) (a_v (a_i a_b) (a_v (fv 5) a_e))))
   ·exact a_u
 refine a_a ?_ ?_
 ·unfold h_B
  refine a_6 ?_ ?_ ?_
  ·exact (n_F (k_9 (m_6 hr.units (a_k (fcd hx G8 D8 hr (b_p (pv 4) (a_v (a_i a_b) (a_v (fv 5) (a_v (fv 10) a_e)))))) (fv 11)) (h_c (m_6 hr.units (a_k (fmd0 hx HC.cl G11 D11 hr (pv 4))) (a_k (fmd0 hx HC.cl G11 D11 hr (pv 8)))))))
  ·refine a_c ?_
   refine a_z ?_
   ·exact (a_i h_p)
  ·exact a_u
 refine a_a ?_ ?_
 ·unfold h_A
  refine a_G (i:=15) ?_ ?_ ?_ ?_ ?_ ?_ <;> try walk_at "z"
  ·exact b_5.nd
  ·exact (a_k (fcd hx G7 D7 hr (b_p (pv 0) (b_p (pv 1) (a_v (b_X (fv 10) (a_i a_b)) a_e)))))
 refine a_a ?_ ?_
 ·unfold h_w
  refine a_G (i:=16) ?_ ?_ ?_ ?_ ?_ ?_ <;> try walk_at "z"
  ·exact b_5.nd
  ·exact (a_k (fcd hx G8 D8 hr (b_p (pv 9) (a_v (a_i a_b) (a_v (fv 5) (a_v (fv 15) a_e))))))
 refine a_c ?_
 unfold h_v
 refine a_z ?_
 ·exact (c_5 (l_K hr.units (q_f (fv 11) w_y (w_m (h_q i_c (c_Y a_9 l_I rfl T.d1n PySem.boot_len (a_D (fv 16) a_o))))) (fv 16)) (d_Y (v_p (h_q i_c (c_Y a_9 l_I rfl T.d1n PySem.boot_len (a_D (j_u (CompScope.of (own:=["_law_row"]) (capN:=[]) (caps:=[])) rfl rfl (n_K (fv 16)) (fun _ _ _ _ _ _=>⟨(fgn 0 (show ((["_law_row"]:List Str) ++ ([]:List Str)).Nodup from by decide +kernel)),(p_a (m_6 hr.units (a_x (fv 0) (a_i a_b)) (a_i a_K))),(fv 0)⟩)) a_o))) (fv 15))))
end
end K3
namespace K3
open PySem L2 L2.L3 Due
def isW (d:PyData) (lo hi:Int):Bool:=match d with
 | .int i=>decide (lo<=i) && decide (i<=hi)
 | _=>false
def noD:PyData->Bool
 | .dict _=>false
 | _=>true
@[simp] theorem x_I:b_0 "int" "int" = some true:=by decide
@[simp] theorem x_6:b_0 "int" "bool" = some false:=by decide
@[simp] theorem y_a:b_0 "bool" "int" = some true:=by decide
@[simp] theorem x_7:b_0 "bool" "bool" = some true:=by decide
@[simp] theorem x_w:b_0 "NoneType" "int" = some false:=by decide
@[simp] theorem x_0:b_0 "str" "int" = some false:=by decide
@[simp] theorem y_l:b_0 "list" "int" = some false:=by decide
@[simp] theorem x_B:b_0 "tuple" "int" = some false:=by decide
@[simp] theorem y_m:b_0 "int" "tuple" = some false:=by decide
@[simp] theorem y_h:b_0 "bool" "tuple" = some false:=by decide
@[simp] theorem x_Q:b_0 "NoneType" "tuple" = some false:=by decide
@[simp] theorem x_W:b_0 "str" "tuple" = some false:=by decide
@[simp] theorem x_z:b_0 "list" "tuple" = some false:=by decide
@[simp] theorem x_H:b_0 "tuple" "tuple" = some true:=by decide
theorem h_M (i j:Int):PyData.eqv (.int i) (.int j)=(i == j):=by rw [PyData.eqv]
theorem d_m (i:Int):SeqAt.shaped (.int i)=true:=by rfl
theorem b_T {d:PyData} {lo hi:Int} (h:noD d=true):a_W [.dat d,.dat (.int lo),.dat (.int hi)]=.rt (.dat (.bool (isW d lo hi))) []:=by
 cases d with
 | dict _=>cases h
 | int i=>
  by_cases h1:lo<=i
  ·simp [gEq,a_W,e_e,isW,h1]
  ·simp [gEq,a_W,e_e,isW,h1]
 | _=>simp [gEq,a_W,e_e,isW]
def isT (d:PyData) (n:Int):Bool:=match d with
 | .tuple ds=>decide ((ds.length:Int)=n)
 | _=>false
theorem c_s {d:PyData} {n:Int} (h:noD d=true):b_b [.dat d,.dat (.int n)]=.rt (.dat (.bool (isT d n))) []:=by
 cases d with
 | dict _=>cases h
 | tuple ds=>simp [gEq,b_b,d_k,isT,d_m,h_M]; rfl
 | _=>simp [gEq,b_b,d_k,isT]
theorem i_V {d:PyData} (h:noD d=true):e_s [.dat d]=.rt (.dat (.bool (isW d (-12) 14))) []:=by simp [gEq,e_s,g_H,b_T h]
theorem f_Y {d:PyData} (h:noD d=true):c_J [.dat d]=.rt (.dat (.bool (isW d 0 9999))) []:=by simp [gEq,c_J,f_R,b_T h]
theorem f_z {d:PyData} (h:noD d=true):c_2 [.dat d]=if isW d 0 9999=true then .rt (.dat .none) [] else .ex "NoMoment" []:=by
 simp only [c_2,d_8]
 cases hw:isW d 0 9999 <;> simp [gEq,f_Y h,hw]
abbrev shD (p:Int × Int):PyData:=.tuple [.int p.1,.int p.2]
abbrev d_I (a:Int) (ss:Sh):PyData:=.tuple [.int a,.tuple (ss.map shD)]
@[simp] theorem at0 {x:PyData} {l:List PyData}:atI (x :: l) 0=some x:=by
 unfold atI ixN
 rw [if_pos (by omega),if_pos (by simp <;> omega)]
 rfl
@[simp] theorem at1 {x y:PyData} {l:List PyData}:atI (x :: y :: l) 1=some y:=by
 unfold atI ixN
 rw [if_pos (by omega),if_pos (by simp <;> omega)]
 rfl
@[simp] theorem atL {x:PyData} {l:List PyData}:atI (l ++ [x]) (-1)=some x:=by
 unfold atI ixN
 rw [if_neg (by omega),if_pos (by simp; omega)]
 simp
 rw [show (-1 + ((l.length:Int) + 1)).toNat=l.length by omega]
 simp
theorem k_g {c:Option Cell}:∀ {ss:Sh} {lo:Int} {x:Option Cell},h_d lo ss->(∀ p ∈ ss,p.1<=9999/\-12<=p.2/\p.2<=14)->∃ e y,c_m (gNm 2) b_4 (ss.map shD) [c,some (.dat (.int (lo + 1))),x]=.nx [c,e,y]
 | [],_,_,_,_=>⟨_,_,rfl⟩
 | (b,k) :: r,lo,x,⟨h1,h2⟩,ho=>by
  obtain ⟨e,y,ih⟩:=k_g (lo:=b) (c:=c) (x:=some (.dat (shD (b,k)))) h2 fun p hp=>ho p (List.mem_cons_of_mem _ hp)
  have hb:=ho (b,k) List.mem_cons_self
  refine ⟨e,y,?_⟩
  rw [List.map_cons,c_m,<-ih]
  have:b_4 [c,some (.dat (.int (lo + 1))),some (.dat (shD (b,k)))]=.nx [c,some (.dat (.int (b + 1))),some (.dat (shD (b,k)))]:=by
   simp [gEq,b_4,c_s (d:=.tuple [.int b,.int k]) rfl,isT,i_V (d:=.int k) rfl,b_T (d:=.int b) rfl,isW,hb.2.1,hb.2.2,hb.1,show lo + 1<=b by omega]
  simp [gEq,this]
theorem k_O {ss:Sh} (hl:ss.length<=6) (hr:h_d 0 ss) (ho:∀ p ∈ ss,p.1<=9999/\-12<=p.2/\p.2<=14):d_M [.dat (.tuple (ss.map shD))]=.rt (.dat (.bool true)) []:=by
 obtain ⟨e,y,h⟩:=k_g (lo:=0) (c:=some (.dat (.tuple (ss.map shD)))) (x:=none) hr ho
 simp [gEq,d_M,e_8,show ¬ (6:Int) < ss.length by omega] at h ⊢
 rw [h]
 simp
theorem n_x {a:Int} {ss:Sh} (z:ZOk a ss):g_j [.dat (d_I a ss)]=.rt (.dat (.bool true)) []:=by
 have h1:=z.ah.1
 simp [gEq,g_j,i_q,c_s (d:=d_I a ss) rfl,isT,i_V (d:=.int a) rfl,isW,h1.1,h1.2,k_O z.len z.rise fun p hp=>⟨z.top p hp,z.ah.2 p hp⟩]
theorem h_j {a:Int} {ss:Sh} (z:ZOk a ss):c_6 [.dat (d_I a ss)]=.rt (.dat .none) []:=by
 simp [gEq,c_6,e_0,n_x z]
theorem m_C {m:Int} {z:Option Cell}:∀ {ss:Sh} {a:Int} {x:Option Cell},∃ y,c_m (gNm 3) g_A (ss.map shD) [z,some (.dat (.int m)),some (.dat (.int a)),x]=.nx [z,some (.dat (.int m)),some (.dat (.int (j_r a ss m))),y]
 | [],_,_=>⟨_,rfl⟩
 | (b,c) :: r,a,x=>by
  obtain ⟨y,ih⟩:=m_C (m:=m) (z:=z) (ss:=r) (a:=if b<=m then c else a) (x:=some (.dat (shD (b,c))))
  refine ⟨y,?_⟩
  rw [List.map_cons,c_m]
  unfold j_r
  rw [<-ih]
  by_cases h:b<=m <;> simp [gEq,g_A,h]
theorem s_k {a m:Int} {ss:Sh}:j_d [.dat (d_I a ss),.dat (.int m)]=.rt (.dat (.int (n_E a ss m))) []:=by
 obtain ⟨y,h⟩:=m_C (m:=m) (z:=some (.dat (d_I a ss))) (ss:=ss) (a:=a) (x:=none)
 simp [gEq,j_d,l_4] at h ⊢
 rw [h]
 simp [gEq,n_E]
theorem h_u {e:XM PyData} {g:GM} {f:PyData->PyData} {P:a_r->Prop}:∀ {its ys:List PyData} {U:a_r},P U->(∀ d ∈ its,∀ U,P U->∃ U1 U2,g d U=some U1/\e U1=.ok (f d) U2/\P U2)->ys.length + its.length<=sizeLine->b_c g h_s e its ys U=some (ys ++ its.map f)
 | [],ys,U,_,_,_=>by simp [gEq,b_c]
 | d :: r,ys,U,hP,h,hl=>by
  obtain ⟨U1,U2,h1,h2,h3⟩:=h d List.mem_cons_self U hP
  simp only [List.length_cons] at hl
  unfold b_c
  rw [h1]
  simp only [h_s,h2]
  rw [if_pos (by omega),h_u h3 (fun d hd=>h d (List.mem_cons_of_mem _ hd)) (by simp; omega)]
  simp
theorem f_Q {t:XM Bool} {e:XM PyData} {g:GM} {p:PyData->Bool} {f:PyData->PyData} {P:a_r->Prop}:∀ {its ys:List PyData} {U:a_r},P U->(∀ d ∈ its,∀ U,P U->∃ U1 U2 U3,g d U=some U1/\t U1=.ok (p d) U2/\P U2/\(p d=true->e U2=.ok (f d) U3/\P U3))->ys.length + its.length<=sizeLine->b_c g t e its ys U=some (ys ++ (its.filter p).map f)
 | [],ys,U,_,_,_=>by simp [gEq,b_c]
 | d :: r,ys,U,hP,h,hl=>by
  obtain ⟨U1,U2,U3,h1,h2,h3,h4⟩:=h d List.mem_cons_self U hP
  simp only [List.length_cons] at hl
  unfold b_c
  rw [h1]
  simp only [h2]
  cases hp:p d with
  | true=>
   obtain ⟨h5,h6⟩:=h4 hp
   simp only [h5]
   rw [if_pos (by omega),f_Q h6 (fun d hd=>h d (List.mem_cons_of_mem _ hd)) (by simp; omega)]
   simp [gEq,hp]
  | false=>
   simp only
   rw [f_Q h3 (fun d hd=>h d (List.mem_cons_of_mem _ hd)) (by omega)]
   simp [gEq,hp]
@[simp] theorem sz0:(0:Nat)<=sizeLine:=by decide
@[simp] theorem sz1:(1:Nat)<=sizeLine:=by decide
@[simp] theorem sz2:(2:Nat)<=sizeLine:=by decide
@[simp] theorem sz3:(3:Nat)<=sizeLine:=by decide
@[simp] theorem sz4:(4:Nat)<=sizeLine:=by decide
@[simp] theorem sz5:(5:Nat)<=sizeLine:=by decide
@[simp] theorem sz6:(6:Nat)<=sizeLine:=by decide
@[simp] theorem sz7:(7:Nat)<=sizeLine:=by decide
@[simp] theorem sz8:(8:Nat)<=sizeLine:=by decide
@[simp] theorem sz9:(9:Nat)<=sizeLine:=by decide
@[simp] theorem sz10:(10:Nat)<=sizeLine:=by decide
@[simp] theorem sz11:(11:Nat)<=sizeLine:=by decide
@[simp] theorem sz12:(12:Nat)<=sizeLine:=by decide
@[simp] theorem sz13:(13:Nat)<=sizeLine:=by decide
@[simp] theorem sz14:(14:Nat)<=sizeLine:=by decide
def l_e:Option Int->PyData
 | none=>.none
 | some e=>.int e
def stD (p:Int × Option Int × Int):PyData:=.tuple [.int p.1,l_e p.2.1,.int p.2.2]
theorem q_N:∀ (ss:Sh) (s a:Int),p_g (.int s :: ss.map fun p=>.int p.1) ((ss.map fun p=>PyData.int p.1) ++ [.none]) (.int a :: ss.map fun p=>.int p.2)=(stret s a ss).map stD
 | [],s,a=>rfl
 | (b,c) :: r,s,a=>by
  have ih:=q_N r b c
  simp only [List.map_cons,List.cons_append,stret]
  rw [<-ih]
  rfl
theorem l_m {a:Int} {ss:Sh} (hl:ss.length<=6):e_H [.dat (d_I a ss)]=.rt (.dat (.list ((stret 0 a ss).map stD))) []:=by
 have sz:1000 < sizeLine:=by decide
 have c1:=h_u (e:=e_C) (g:=gNm 0) (f:=fun d=>match d with | .tuple (x :: _)=>x | _=>.none) (P:=fun U=>U.length=1) (its:=ss.map shD) (ys:=[]) (U:=[none]) rfl (fun d hd U hU=>by
  obtain ⟨p,_,rfl⟩:=List.mem_map.mp hd
  match U,hU with
  | [y],_=>exact ⟨_,_,rfl,by simp [gEq,e_C]; rfl,rfl⟩) (by simp; omega)
 have c2:=h_u (e:=e_E) (g:=gNm 0) (f:=fun d=>match d with | .tuple (_ :: x :: _)=>x | _=>.none) (P:=fun U=>U.length=1) (its:=ss.map shD) (ys:=[]) (U:=[none]) rfl (fun d hd U hU=>by
  obtain ⟨p,_,rfl⟩:=List.mem_map.mp hd
  match U,hU with
  | [y],_=>exact ⟨_,_,rfl,by simp [gEq,e_E]; rfl,rfl⟩) (by simp; omega)
 simp only [List.nil_append,List.map_map] at c1 c2
 have d1:List.map ((fun d=>match d with | .tuple (x :: _)=>x | _=>PyData.none) ∘ shD) ss=ss.map fun p=>PyData.int p.1:=by apply List.map_congr_left; intro p _; rfl
 have d2:List.map ((fun d=>match d with | .tuple (_ :: x :: _)=>x | _=>PyData.none) ∘ shD) ss=ss.map fun p=>PyData.int p.2:=by apply List.map_congr_left; intro p _; rfl
 rw [d1] at c1
 rw [d2] at c2
 have z:=q_N ss 0 a
 simp [gEq,e_H,f_H,c1,c2,show ss.length<=sizeLine by omega,show ss.length + 1<=sizeLine by omega,show 1 + ss.length<=sizeLine by omega,z]
theorem j_3 {m:Int} {e:Option Int}:d_i [.dat (.int m),.dat (l_e e)]=.rt (.dat (.bool (e_x m e))) []:=by
 cases e <;> simp [gEq,d_i,e_P,l_e,e_x]
theorem h_Z:∀ (ss:Sh) (s a:Int),(stret s a ss).length=ss.length + 1
 | [],s,a=>rfl
 | (b,c) :: r,s,a=>by simp [gEq,stret,h_Z r b c]
theorem t_D {ns:List Int} {k:Int} (hn:ns.length<=63) (hk:0<=k):∃ v,b_t [.scr ns,.dat (.int k)]=.rt (.dat (.int v)) []:=by
 by_cases h:k < ns.length
 ·have:∃ v,atI ns k=some v:=by
   unfold atI ixN
   rw [if_pos hk,if_pos h]
   exact ⟨ns[k.toNat]'(by omega),by simp⟩
  obtain ⟨v,hv⟩:=this
  exact ⟨v,by simp [gEq,b_t,b_2,hn,h,hv]⟩
 ·by_cases h0:ns=[]
  ·subst h0
   exact ⟨0,by simp [gEq,b_t,b_2] at h ⊢; simp [gEq,show ¬ k < 0 by omega]⟩
  ·have hp:0 < (ns.length:Int):=by
    have:=List.length_pos_iff.mpr h0
    omega
   have:∃ v,atI ns (k % ns.length)=some v:=by
    have h1:=Int.emod_nonneg k (show (ns.length:Int) ≠ 0 by omega)
    have h2:=Int.emod_lt_of_pos k hp
    unfold atI ixN
    rw [if_pos h1,if_pos h2]
    exact ⟨ns[(k % ns.length).toNat]'(by omega),by simp⟩
   obtain ⟨v,hv⟩:=this
   exact ⟨v * 31 + k,by simp [gEq,b_t,b_2,hn,h,h0,hv,t_b,q_D,List.length_pos_iff.mpr h0]⟩
theorem r_P {ns:List Int} {k many:Int} (hn:ns.length<=63) (hk:0<=k) (hm:0 < many):∃ v,0<=v/\v < many/\d_S [.scr ns,.dat (.int k),.dat (.int many)]=.rt (.dat (.int v)) []:=by
 obtain ⟨v,hv⟩:=t_D (k:=k) hn hk
 generalize hd:(v + 7919 * k + 1) * 48271 % 2147483647=dr
 have d1:0<=dr:=by omega
 have d2:dr < 2147483647:=by omega
 refine ⟨(dr * dr + 7 * dr + k) % 2147483629 % many,Int.emod_nonneg _ (by omega),Int.emod_lt_of_pos _ hm,?_⟩
 simp [gEq,d_S,f_j,hv,q_D,t_b,hd,hm,show -18446744073709551616 < dr by omega,show dr < 18446744073709551616 by omega]
theorem b_K {ns:List Int} {many:Int} {t:List PyData} (hn:ns.length<=63) (ht:t.length < 1000) (hm:0 < many):∃ v,0<=v/\v < many/\a_l [.scr ns,.own true (.l t),.dat (.int many)]=.rt (.dat (.int v)) [.l (t ++ [.int 0])]:=by
 have sz:1000 < sizeLine:=by decide
 obtain ⟨v,h1,h2,h3⟩:=r_P (k:=((t ++ [PyData.int 0]).length:Int)) hn (by omega) hm
 refine ⟨v,h1,h2,?_⟩
 simp at h3
 simp [gEq,a_l,f_0,show t.length < sizeLine by omega,h3]
theorem g_6 {ns:List Int} {ds t:List PyData} (hn:ns.length<=63) (ht:t.length < 1000) (hd:ds ≠ []) (hl:ds.length<=1000):∃ d ∈ ds,a_X [.scr ns,.own true (.l t),.dat (.list ds)]=.rt (.dat d) [.l (t ++ [.int 0])]:=by
 have hp:=List.length_pos_iff.mpr hd
 obtain ⟨v,h1,h2,h3⟩:=b_K (many:=ds.length) hn ht (by omega)
 have:atI ds v=some (ds[v.toNat]'(by omega)):=by
  unfold atI ixN
  rw [if_pos h1,if_pos h2]
  simp
 refine ⟨ds[v.toNat]'(by omega),List.getElem_mem _,?_⟩
 simp [gEq,a_X,f_G,h3,this]
theorem m_b (i:Int):SeqAt.shaped (.int i)=true:=by rfl
theorem n_A {ns:List Int} {t:List PyData} {ss:Sh} {m:Int} {k:Option Cell} (hn:ns.length<=63) (ht:t.length < 900) (hs:ss.length<=100):∃ d c,0<=d/\d < 200/\-12<=c/\c<=14/\
  c_n [some (.scr ns),some (.own true (.l t)),some (.own false (.l (ss.map shD))),some (.dat (.int m)),k]=.nx [some (.scr ns),some (.own true (.l (t ++ [.int 0] ++ [.int 0] ++ [.int 0]))),some (.own false (.l ((ss ++ [(m + 1 + d,c)]).map shD))),some (.dat (.int (m + 1 + d))),k]:=by
 have sz:1000 < sizeLine:=by decide
 obtain ⟨w,hw,h1⟩:=g_6 (ns:=ns) (t:=t) (ds:=[.int 4,.int 40,.int 200]) hn (by omega) (by simp) (by simp)
 have:∃ i:Int,w=.int i/\0 < i/\i<=200:=by
  simp at hw
  rcases hw with rfl | rfl | rfl
  ·exact ⟨4,rfl,by omega,by omega⟩
  ·exact ⟨40,rfl,by omega,by omega⟩
  ·exact ⟨200,rfl,by omega,by omega⟩
 obtain ⟨i,rfl,i1,i2⟩:=this
 obtain ⟨d,d1,d2,h2⟩:=b_K (ns:=ns) (t:=t ++ [.int 0]) (many:=i) hn (by simp; omega) i1
 obtain ⟨e,e1,e2,h3⟩:=b_K (ns:=ns) (t:=t ++ [.int 0] ++ [.int 0]) (many:=27) hn (by simp; omega) (by omega)
 refine ⟨d,e - 12,d1,by omega,by omega,by omega,?_⟩
 simp only [List.append_assoc,List.cons_append,List.nil_append] at h1 h2 h3
 simp [gEq,c_n,h1,h2,h3,show ss.length < sizeLine by omega]
theorem o_Z {ns:List Int} (hn:ns.length<=63):∀ {its t:List PyData} {ss:Sh} {m:Int} {k:Option Cell},t.length + 3 * its.length < 900->ss.length + its.length<=100->∃ new t' m' k',c_m (gNm 4) c_n its [some (.scr ns),some (.own true (.l t)),some (.own false (.l (ss.map shD))),some (.dat (.int m)),k]=.nx [some (.scr ns),some (.own true (.l t')),some (.own false (.l ((ss ++ new).map shD))),some (.dat (.int m')),k']/\
  h_d m new/\(∀ p ∈ new,p.1<=m + 200 * its.length/\-12<=p.2/\p.2<=14)/\new.length=its.length/\t'.length=t.length + 3 * its.length
 | [],t,ss,m,k,_,_=>⟨[],t,m,k,by simp [gEq,c_m],trivial,fun p hp=>(by cases hp),rfl,rfl⟩
 | x :: r,t,ss,m,k,h1,h2=>by
  simp only [List.length_cons] at h1 h2
  obtain ⟨d,c,d1,d2,c1,c2,e⟩:=n_A (ns:=ns) (t:=t) (ss:=ss) (m:=m) (k:=some (.dat x)) hn (by omega) (by omega)
  obtain ⟨new,t',m',k',g1,g2,g3,g4,g5⟩:=o_Z hn (its:=r) (t:=t ++ [.int 0] ++ [.int 0] ++ [.int 0]) (ss:=ss ++ [(m + 1 + d,c)]) (m:=m + 1 + d) (k:=some (.dat x)) (by simp; omega) (by simp; omega)
  refine ⟨(m + 1 + d,c) :: new,t',m',k',?_,⟨by omega,g2⟩,fun p hp=>?_,by simp [gEq,g4],by rw [g5]; simp; omega⟩
  ·rw [c_m]
   simp only [gNm,List.set_cons_succ,List.set_cons_zero,e]
   rw [g1]
   simp
  ·simp only [List.length_cons]
   rcases List.mem_cons.mp hp with rfl | hp
   ·exact ⟨by simp; omega,c1,c2⟩
   ·have:=g3 p hp
    exact ⟨by omega,this.2⟩
def reS:Nat->Sh->Sh
 | _,[]=>[]
 | i,(b,_) :: r=>(b,1 + (i:Int) % 2) :: reS (i + 1) r
theorem m_y:∀ {ss:Sh} {i:Nat} {lo:Int},h_d lo ss->h_d lo (reS i ss)
 | [],_,_,_=>trivial
 | (b,c) :: r,i,lo,⟨h1,h2⟩=>⟨h1,m_y h2⟩
theorem o_X:∀ {ss:Sh} {i:Nat} {T:Int},(∀ p ∈ ss,p.1<=T)->∀ p ∈ reS i ss,p.1<=T/\-12<=p.2/\p.2<=14
 | [],_,_,_,p,hp=>by cases hp
 | (b,c) :: r,i,T,h,p,hp=>by
  rcases List.mem_cons.mp hp with rfl | hp
  ·exact ⟨h (b,c) List.mem_cons_self,by simp; omega,by simp; omega⟩
  ·exact o_X (fun q hq=>h q (List.mem_cons_of_mem _ hq)) p hp
theorem l_0:∀ (ss:Sh) (i:Nat),(reS i ss).length=ss.length
 | [],_=>rfl
 | (b,c) :: r,i=>by simp [gEq,reS,l_0 r (i + 1)]
def reD (d:PyData):PyData:=match d with
 | .tuple [.int i,.tuple [b,_]]=>.tuple [b,.int (1 + i % 2)]
 | _=>.none
theorem n_1:∀ (ss:Sh) (k:Nat),((ss.map shD).mapIdx fun i d=>reD (.tuple [.int ((i + k:Nat):Int),d]))=(reS k ss).map shD
 | [],k=>rfl
 | (b,c) :: r,k=>by
  rw [List.map_cons,List.mapIdx_cons]
  have ih:=n_1 r (k + 1)
  simp only [reS,List.map_cons]
  rw [<-ih]
  congr 1
  ·simp [gEq,reD,shD]
  ·congr 1
   funext i d
   rw [show i + 1 + k=i + (k + 1) by omega]
theorem t_R {ns:List Int} {t:List PyData} (hn:ns.length<=63) (ht:t.length<=100):∃ a ss t',d_u [.scr ns,.own true (.l t)]=.rt (.dat (d_I a ss)) [.l t']/\ss.length<=6/\h_d 0 ss/\n_z a ss/\(∀ p ∈ ss,p.1<=1200)/\t'.length<=t.length + 30:=by
 have sz:1000 < sizeLine:=by decide
 obtain ⟨n,n1,n2,h1⟩:=b_K (ns:=ns) (t:=t) (many:=7) hn (by omega) (by omega)
 obtain ⟨new,t1,m1,k1,g1,g2,g3,g4,g5⟩:=o_Z (ns:=ns) hn (its:=intsFrom 0 n.toNat) (t:=t ++ [.int 0]) (ss:=[]) (m:=0) (k:=none) (by simp [gEq,c_t]; omega) (by simp [gEq,c_t]; omega)
 rw [c_t] at g3 g4 g5
 simp only [List.length_append,List.length_cons,List.length_nil] at g5
 obtain ⟨x,x1,x2,h2⟩:=b_K (ns:=ns) (t:=t1) (many:=2) hn (by omega) (by omega)
 obtain ⟨y,y1,y2,h3⟩:=b_K (ns:=ns) (t:=t1 ++ [.int 0]) (many:=27) hn (by simp; omega) (by omega)
 simp only [List.map_nil,List.nil_append,List.append_assoc,List.cons_append] at g1 h3
 have nl:new.length<=6:=by omega
 have top:∀ p ∈ new,p.1<=1200:=fun p hp=>by have:=(g3 p hp).1; omega
 by_cases hx:x=0
 ·refine ⟨y - 12,reS 0 new,t1 ++ [.int 0,.int 0],?_,by rw [l_0]; exact nl,m_y g2,⟨⟨by omega,by omega⟩,fun p hp=>(o_X top p hp).2⟩,fun p hp=>(o_X top p hp).1,by simp; omega⟩
  have c:=h_u (e:=e_G) (g:=k_h 2 (d_e (gNm 0) (d_e (k_h 2 (d_e (gNm 1) (d_e (gNm 2) k_z))) k_z))) (f:=reD) (P:=fun U=>U.length=3) (its:=L3.numbered (new.map shD)) (ys:=[]) (U:=[none,none,none]) rfl (fun d hd U hU=>by
   unfold L3.numbered at hd
   obtain ⟨i,hi,rfl⟩:=List.mem_mapIdx.mp hd
   match U,hU with
   | [u,v,w],_=>
    have gi:(new.map shD)[i]=shD (new[i]'(by simpa using hi)):=by simp
    rw [gi]
    generalize new[i]'(by simpa using hi)=q
    refine ⟨[some (.dat (.int i)),some (.dat (.int q.1)),some (.dat (.int q.2))],[some (.dat (.int i)),some (.dat (.int q.1)),some (.dat (.int q.2))],by simp,?_,rfl⟩
    simp [gEq,e_G,reD,shD,t_b]) (by unfold L3.numbered; simp; omega)
  have rd:(L3.numbered (new.map shD)).map reD=(reS 0 new).map shD:=by
   unfold L3.numbered
   rw [<-n_1 new 0]
   apply List.ext_getElem
   ·simp
   ·intro i h1 h2
    simp
  rw [rd] at c
  simp only [List.nil_append] at c
  have l2:(reS 0 new).length<=sizeLine:=by rw [l_0]; omega
  subst hx
  simp [gEq,d_u,e_w,h1,n1,show n < 4611686018427387904 by omega,show -4611686018427387904<=n by omega,g1,h2,h3,m_b,h_M,c,l2]
 ·refine ⟨y - 12,new,t1 ++ [.int 0,.int 0],?_,nl,g2,⟨⟨by omega,by omega⟩,fun p hp=>(g3 p hp).2⟩,top,by simp; omega⟩
  simp [gEq,d_u,e_w,h1,n1,show n < 4611686018427387904 by omega,show -4611686018427387904<=n by omega,g1,h2,h3,m_b,h_M,hx]
@[simp] theorem f_h:("NotHolder":Str) ∈ exL:=by decide +kernel
@[simp] theorem m_H:("Nothing":Str) ∈ exL:=by decide +kernel
theorem p_c {d:PyData} (h:SeqAt.shaped d=true):gEq false d d=some (.bool true):=by simp [gEq,h,i_T h]
theorem l_H {d:PyData} (h:SeqAt.shaped d=true):gEq true d d=some (.bool false):=by simp [gEq,h,i_T h]
theorem t_9 (i j:Int):gEq true (.int i) (.int j)=some (.bool (!decide (i=j))):=by
 by_cases h:i=j
 ·subst h; simp [l_H (d_m i)]
 ·simp [gEq,d_m,h_M,h]
theorem f_D (i j:Int):gEq false (.int i) (.int j)=some (.bool (decide (i=j))):=by
 by_cases h:i=j
 ·subst h; simp [p_c (d_m i)]
 ·simp [gEq,d_m,h_M,h]
theorem f_S {m k:SM} {U U':a_r} (h:m U=.nx U'):a_h m k U=k U':=by simp [h]
theorem o_M (i j:Str):PyData.eqv (.str i) (.str j)=(i == j):=by rw [PyData.eqv]
theorem e_r {x:Str} (h:PyData.strOk x=true):SeqAt.shaped (.str x)=true:=by
 unfold SeqAt.shaped
 simp [PyData.canLay0,PyData.depth,h]
theorem a_C {x y:Str} (hx:PyData.strOk x=true) (hy:PyData.strOk y=true):gEq false (.str x) (.str y)=some (.bool (x == y)):=by simp [gEq,e_r hx,e_r hy,o_M]
theorem d_0:PyData.strOk "once" = true:=by decide +kernel
theorem d_R:PyData.strOk "every" = true:=by decide +kernel
theorem f_n:PyData.strOk "daily" = true:=by decide +kernel
@[simp] theorem z_j:(("every":Str) == ("once":Str))=false:=by decide +kernel
@[simp] theorem z_l:(("daily":Str) == ("once":Str))=false:=by decide +kernel
@[simp] theorem z_k:(("daily":Str) == ("every":Str))=false:=by decide +kernel
@[simp] theorem x_3:b_0 "str" "str" = some true:=by decide
abbrev l_L:Plan->PyData
 | .once m=>.tuple [.str "once",.int m]
 | .every f s=>.tuple [.str "every",.int f,.int s]
 | .daily h=>.tuple [.str "daily",.int h]
@[simp] theorem at2 {x y w:PyData} {l:List PyData}:atI (x :: y :: w :: l) 2=some w:=by
 unfold atI ixN
 rw [if_pos (by omega),if_pos (by simp <;> omega)]
 rfl
theorem c_T {x w:Str} {rest:List PyData} {n:Int} (hx:PyData.strOk x=true) (hw:PyData.strOk w=true):c_i [.dat (.tuple (.str x :: rest)),.dat (.str w),.dat (.int n)]=.rt (.dat (.bool (decide (((rest.length + 1:Nat):Int)=n) && (x == w)))) []:=by
 by_cases h:(((rest.length + 1:Nat):Int)=n)
 ·simp [c_i,f_l,c_s (d:=.tuple (.str x :: rest)) rfl,isT,a_C hx hw]
  simp at h
  simp [h]
 ·simp [c_i,f_l,c_s (d:=.tuple (.str x :: rest)) rfl,isT,a_C hx hw]
  simp at h
  simp [h]
theorem o_V {p:Plan} (ok:e_1 p):e_n [.dat (l_L p)]=.rt (.dat (.bool true)) []:=by
 cases p with
 | once m=>simp [e_n,e_X,c_T d_0 d_0,f_Y (d:=.int m) rfl,isW,ok.1,ok.2]
 | every f s=>simp [e_n,e_X,c_T d_R d_0,c_T d_R d_R,f_Y (d:=.int f) rfl,b_T (d:=.int s) rfl,isW,ok.1.1,ok.1.2,ok.2.1,ok.2.2]
 | daily h=>simp [e_n,e_X,c_T f_n d_0,c_T f_n d_R,c_T f_n f_n,b_T (d:=.int h) rfl,isW,ok.1,ok.2]
def v_L (g:Int) (d:PyData):Bool:=match d with
 | .tuple [.int s,.none,.int a]=>e_x (max s (g - a)) none
 | .tuple [.int s,.int e,.int a]=>e_x (max s (g - a)) (some e)
 | _=>false
def v_H (g:Int) (d:PyData):PyData:=match d with
 | .tuple [.int s,_,.int a]=>.int (max s (g - a))
 | _=>.none
theorem o_p (g:Int) (p:Int × Option Int × Int):v_L g (stD p)=e_x (max p.1 (g - p.2.2)) p.2.1:=by
 obtain ⟨s,e,a⟩:=p
 cases e <;> rfl
theorem p_d (g:Int) (p:Int × Option Int × Int):v_H g (stD p)=.int (max p.1 (g - p.2.2)):=by
 obtain ⟨s,e,a⟩:=p
 cases e <;> rfl
theorem i_z {a g:Int} {ss:Sh} (hl:ss.length<=6):c_r [.dat (d_I a ss),.dat (.int g)]=.rt (.dat (.int (k_p g 0 a ss))) []:=by
 have sz:1000 < sizeLine:=by decide
 have c:=f_Q (t:=c_U) (e:=c_V) (g:=k_h 3 (d_e (gNm 0) (d_e (gNm 1) (d_e (gNm 2) k_z)))) (p:=v_L g) (f:=v_H g) (P:=fun U=>∃ x y z,U=[x,y,z,some (.dat (.int g))]) (its:=(stret 0 a ss).map stD) (ys:=[]) (U:=[none,none,none,some (.dat (.int g))]) ⟨_,_,_,rfl⟩ (fun d hd U hU=>by
  obtain ⟨p,_,rfl⟩:=List.mem_map.mp hd
  obtain ⟨x,y,z,rfl⟩:=hU
  refine ⟨[some (.dat (.int p.1)),some (.dat (l_e p.2.1)),some (.dat (.int p.2.2)),some (.dat (.int g))],[some (.dat (.int p.1)),some (.dat (l_e p.2.1)),some (.dat (.int p.2.2)),some (.dat (.int g))],[some (.dat (.int p.1)),some (.dat (l_e p.2.1)),some (.dat (.int p.2.2)),some (.dat (.int g))],by simp [stD],by simp [c_U,j_3,o_p],⟨_,_,_,rfl⟩,fun _=>⟨by simp [c_V,p_d],⟨_,_,_,rfl⟩⟩⟩) (by simp [h_Z]; omega)
 have f1:(((stret 0 a ss).map stD).filter (v_L g)).map (v_H g)=(f_u g (stret 0 a ss)).map PyData.int:=by
  unfold f_u
  have e1:v_H g ∘ stD=fun p=>.int (max p.1 (g - p.2.2)):=funext (p_d g)
  have e2:v_L g ∘ stD=fun p=>e_x (max p.1 (g - p.2.2)) p.2.1:=funext (o_p g)
  rw [List.filter_map,List.map_map,List.map_map,e1,e2]
  rfl
 have lr:(f_u g (stret 0 a ss)).length<=7:=by
  unfold f_u
  rw [List.length_map]
  exact Nat.le_trans (List.length_filter_le _ _) (by rw [h_Z]; omega)
 obtain ⟨t,e⟩:=h_l g ss 0 a
 rw [f1,e] at c
 rw [e,List.length_cons] at lr
 simp only [List.nil_append,List.map_cons] at c
 simp [c_r,d_A,l_m hl,c,show t.length + 1<=sizeLine by omega]
theorem l_5 {a h:Int} {ss:Sh}:e_I [.dat (d_I a ss),.dat (.int h)]=.rt (.dat (.int (h_P a ss h))) []:=by
 simp [e_I,f_P,s_k,h_P,v_G]
theorem k_0 {a h:Int} {ss:Sh} {c:Nat} (hl:ss.length<=6):d_U [.dat (d_I a ss),.dat (.int h),.dat (.int c)]=.rt (.dat (.int (o_B a ss h c))) []:=by
 simp [d_U,f_f,l_5,i_z hl,o_B,q_D]
theorem u_e {i j:Int} (h1:-1000000<=j) (h2:j<=1000000):q_D i j=true:=by
 unfold q_D
 rw [decide_eq_true (show -(2 ^ 64) < j by omega),decide_eq_true (show j < 2 ^ 64 by omega)]
 simp
theorem n_f {z:PyData} {f s c:Int} (h1:1<=s) (h2:s<=999):b_M [.dat z,.dat (l_L (.every f s)),.dat (.int c)]=.rt (.dat (.int (f + c * s))) []:=by
 simp [b_M,e_l,a_C d_R d_0,a_C d_R d_R,u_e (i:=c) (show -1000000<=s by omega) (show s<=1000000 by omega)]
theorem o_L {a:Int} {ss:Sh} {p:Plan} {c:Nat} (hl:ss.length<=6) (ok:e_1 p):b_M [.dat (d_I a ss),.dat (l_L p),.dat (.int c)]=.rt (.dat (l_e (f_9 a ss p c))) []:=by
 cases p with
 | once m=>
  by_cases e:c=0
  ·subst e; simp [b_M,e_l,a_C d_0 d_0,f_D,f_9,l_e]
  ·simp [b_M,e_l,a_C d_0 d_0,f_D,f_9,l_e,e]
 | every f s=>
  exact n_f ok.2.1 ok.2.2
 | daily h=>simp [b_M,e_l,a_C f_n d_0,a_C f_n d_R,f_9,l_e,k_0 hl]
def IsT (o:OutS):Prop:=∃ x r,o=.rt (.dat (.bool true)) (x :: r)
theorem a_2 {m k:SM} {U U':a_r} (h:m U=.nx U') (q:IsT (k U')):IsT (a_h m k U):=by rw [f_S h]; exact q
theorem s_B {m:SM} {n:Nat} {ns:List Int} (h:IsT (m (some (.scr ns) :: List.replicate n none))):fnM 1 (n + 1) m [.scr ns]=.rt (.dat (.bool true)) []:=by
 obtain ⟨x,r,e⟩:=h
 simp [e]
theorem d_g (i:Int) (r:Nat):L3.intsFrom i (r + 1)=.int i :: L3.intsFrom (i + 1) r:=by
 unfold L3.intsFrom
 rw [List.range_succ_eq_map,List.map_cons,List.map_map]
 congr 1
 ·simp
 ·apply List.map_congr_left
  intro k _
  simp
  omega
theorem t_2 {ns:List Int} {t:List PyData} (hn:ns.length<=63) (ht:t.length<=900):∃ p t',e_1 p/\t'.length<=t.length + 4/\c_M [.scr ns,.own true (.l t)]=.rt (.dat (l_L p)) [.l t']:=by
 obtain ⟨k,k1,k2,h1⟩:=b_K (ns:=ns) (t:=t) (many:=5) hn (by omega) (by omega)
 by_cases e:k=0
 ·obtain ⟨w,hw',h2⟩:=g_6 (ns:=ns) (t:=t ++ [.int 0]) (ds:=[.int 100,.int 100,.int 2500]) hn (by simp; omega) (by simp) (by simp)
  have:∃ i:Int,w=.int i/\0 < i/\i<=2500:=by
   simp only [List.mem_cons,List.not_mem_nil,or_false] at hw'
   rcases hw' with rfl | rfl | rfl <;> exact ⟨_,rfl,by omega,by omega⟩
  obtain ⟨i,rfl,i1,i2⟩:=this
  obtain ⟨m,m1,m2,h3⟩:=b_K (ns:=ns) (t:=t ++ [.int 0] ++ [.int 0]) (many:=i) hn (by simp; omega) i1
  refine ⟨.once m,t ++ [.int 0] ++ [.int 0] ++ [.int 0],⟨m1,by omega⟩,by simp,?_⟩
  simp only [List.append_assoc,List.cons_append,List.nil_append] at h1 h2 h3
  simp [c_M,d_F,h1,h2,h3,f_D,e]
 ·by_cases e1:k < 3
  ·obtain ⟨w,hw',h2⟩:=g_6 (ns:=ns) (t:=t ++ [.int 0]) (ds:=[.int 30,.int 30,.int 999]) hn (by simp; omega) (by simp) (by simp)
   have:∃ i:Int,w=.int i/\0 < i/\i<=999:=by
    simp only [List.mem_cons,List.not_mem_nil,or_false] at hw'
    rcases hw' with rfl | rfl | rfl <;> exact ⟨_,rfl,by omega,by omega⟩
   obtain ⟨i,rfl,i1,i2⟩:=this
   obtain ⟨s,s1,s2,h3⟩:=b_K (ns:=ns) (t:=t ++ [.int 0] ++ [.int 0]) (many:=i) hn (by simp; omega) i1
   obtain ⟨f,f1,f2,h4⟩:=b_K (ns:=ns) (t:=t ++ [.int 0] ++ [.int 0] ++ [.int 0]) (many:=50) hn (by simp; omega) (by omega)
   refine ⟨.every f (1 + s),t ++ [.int 0] ++ [.int 0] ++ [.int 0] ++ [.int 0],⟨⟨f1,by omega⟩,by omega,by omega⟩,by simp,?_⟩
   simp only [List.append_assoc,List.cons_append,List.nil_append] at h1 h2 h3 h4
   simp [c_M,d_F,h1,h2,h3,h4,f_D,e,e1]
  ·obtain ⟨m,m1,m2,h2⟩:=b_K (ns:=ns) (t:=t ++ [.int 0]) (many:=24) hn (by simp; omega) (by omega)
   refine ⟨.daily m,t ++ [.int 0] ++ [.int 0],⟨m1,by omega⟩,by simp,?_⟩
   simp only [List.append_assoc,List.cons_append,List.nil_append] at h1 h2
   simp [c_M,d_F,h1,h2,f_D,e,e1]
@[simp] theorem z_t:noD .none=true:=by simp only [noD]
@[simp] theorem z_i (i:Int):noD (.int i)=true:=by simp only [noD]
@[simp] theorem z_h (b:Bool):noD (.bool b)=true:=by simp only [noD]
@[simp] theorem z_g (x:Str):noD (.str x)=true:=by simp only [noD]
@[simp] theorem z_m (l:List PyData):noD (.tuple l)=true:=by simp only [noD]
@[simp] theorem z_q (l:List PyData):noD (.list l)=true:=by simp only [noD]
theorem j_t:b_L [.exc "NotHolder"]=.rt (.dat (.tuple [.str "refused",.int 8])) []:=by kernel_rfl
theorem o_U:b_L [.exc "Nothing"]=.rt (.dat (.tuple [.str "refused",.int 9])) []:=by kernel_rfl
inductive Late where
 | all | last | within (n:Int)
structure Deed where
 plan:Plan
 late:Late
 again:Bool
abbrev n_J:Late->PyData
 | .all=>.str "all"
 | .last=>.str "last"
 | .within n=>.tuple [.str "within",.int n]
abbrev c_9 (d:Deed):PyData:=.tuple [l_L d.plan,n_J d.late,.bool d.again]
@[irreducible] def d_a (ds:List Deed):PyData:=.tuple (ds.map c_9)
def d_9:Option Int->PyData
 | none=>.none
 | some i=>.int i
def l_X:Option (Nat × Nat × Int)->PyData
 | none=>.none
 | some (d,c,h)=>.tuple [.int d,.int c,.int h]
inductive Wd where
 | begun | done | left | unsure
deriving DecidableEq
abbrev wdS:Wd->Str
 | .begun=>"begun"
 | .done=>"done"
 | .left=>"left"
 | .unsure=>"unsure"
structure Row where
 mo:Int
 ru:Int
 wd:Wd
 dd:Nat
 ct:Nat
abbrev e_k (r:Row):PyData:=.tuple [.int r.mo,.int r.ru,.str (wdS r.wd),.int r.dd,.int r.ct]
abbrev d_X (n:Nat):PyData:=.int n
def c_k (ws:List ((Nat × Nat) × Wd)):List (PyData × PyData):=ws.map fun p=>(.tuple [d_X p.1.1,d_X p.1.2],.str (wdS p.2))
structure Hl where
 a:Int
 ss:Sh
 ds:List Deed
 last:Option Int
 holder:Option Int
 til:Int
 holds:Int
 begun:Option (Nat × Nat × Int)
 rows:List Row
 words:List ((Nat × Nat) × Wd)
 settled:List Nat
@[irreducible] def flds (S:Hl):List (Str × Fl):=[("zone",.d (d_I S.a S.ss)),("deeds",.d (d_a S.ds)),("last",.d (d_9 S.last)),("holder",.d (d_9 S.holder)),("until",.d (.int S.til)),("holds",.d (.int S.holds)),("begun",.d (l_X S.begun)),("rows",.l (S.rows.map e_k)),("words",.m true (c_k S.words)),("settled",.l (S.settled.map d_X))]
abbrev hB (C:Addr) (S:Hl):Bx:=.o C (flds S)
@[simp] theorem w_B (S:Hl):List.lookup ("zone":Str) (flds S)=some (.d (d_I S.a S.ss)):=by unfold flds; kernel_rfl
@[simp] theorem v_Q (S:Hl):List.lookup ("deeds":Str) (flds S)=some (.d (d_a S.ds)):=by unfold flds; kernel_rfl
@[simp] theorem x_l (S:Hl):List.lookup ("last":Str) (flds S)=some (.d (d_9 S.last)):=by unfold flds; kernel_rfl
@[simp] theorem u_N (S:Hl):List.lookup ("holder":Str) (flds S)=some (.d (d_9 S.holder)):=by unfold flds; kernel_rfl
@[simp] theorem v_N (S:Hl):List.lookup ("until":Str) (flds S)=some (.d (.int S.til)):=by unfold flds; kernel_rfl
@[simp] theorem v_O (S:Hl):List.lookup ("holds":Str) (flds S)=some (.d (.int S.holds)):=by unfold flds; kernel_rfl
@[simp] theorem v_C (S:Hl):List.lookup ("begun":Str) (flds S)=some (.d (l_X S.begun)):=by unfold flds; kernel_rfl
@[simp] theorem w_n (S:Hl):List.lookup ("rows":Str) (flds S)=some (.l (S.rows.map e_k)):=by unfold flds; kernel_rfl
@[simp] theorem v_F (S:Hl):List.lookup ("words":Str) (flds S)=some (.m true (c_k S.words)):=by unfold flds; kernel_rfl
@[simp] theorem t_d (S:Hl):List.lookup ("settled":Str) (flds S)=some (.l (S.settled.map d_X)):=by unfold flds; kernel_rfl
@[simp] theorem q_L (S:Hl):List.lookup ("is_held":Str) (flds S)=none:=by unfold flds; kernel_rfl
@[simp] theorem p_h (S:Hl):List.lookup ("check_call":Str) (flds S)=none:=by unfold flds; kernel_rfl
@[simp] theorem n_q (S:Hl):List.lookup ("check_holder":Str) (flds S)=none:=by unfold flds; kernel_rfl
@[simp] theorem v_d (S:Hl):List.lookup ("take":Str) (flds S)=none:=by unfold flds; kernel_rfl
@[simp] theorem t_M (S:Hl):List.lookup ("give":Str) (flds S)=none:=by unfold flds; kernel_rfl
@[simp] theorem r_i (S:Hl):List.lookup ("add_row":Str) (flds S)=none:=by unfold flds; kernel_rfl
@[simp] theorem q_W (S:Hl):List.lookup ("is_busy":Str) (flds S)=none:=by unfold flds; kernel_rfl
@[simp] theorem l_g (S:Hl):List.lookup ("first_unsettled":Str) (flds S)=none:=by unfold flds; kernel_rfl
@[simp] theorem u_O (S:Hl):List.lookup ("step":Str) (flds S)=none:=by unfold flds; kernel_rfl
@[simp] theorem j_s (S:Hl):List.lookup ("step_behind_a_fall":Str) (flds S)=none:=by unfold flds; kernel_rfl
@[simp] theorem n_C (S:Hl):List.lookup ("step_ahead":Str) (flds S)=none:=by unfold flds; kernel_rfl
@[simp] theorem s_T (S:Hl):List.lookup ("finish":Str) (flds S)=none:=by unfold flds; kernel_rfl
@[simp] theorem t_f (S:Hl):List.lookup ("state":Str) (flds S)=none:=by unfold flds; kernel_rfl
@[simp] theorem t_v (S:Hl):List.lookup ("held":Str) (flds S)=none:=by unfold flds; kernel_rfl
@[simp] theorem v_M (S:Hl):List.lookup ("log":Str) (flds S)=none:=by unfold flds; kernel_rfl
@[simp] theorem r_p (S:Hl):List.lookup ("waiting":Str) (flds S)=none:=by unfold flds; kernel_rfl
@[simp] theorem t_h (S:Hl):List.lookup ("saved":Str) (flds S)=none:=by unfold flds; kernel_rfl
@[simp] theorem v_A (S:Hl):(flds S).length=10:=by unfold flds; kernel_rfl
theorem j_V (S:Hl) (x:Option Int):a_3 ("last":Str) (.d (d_9 x)) (flds S)=flds { S with last:=x }:=by unfold flds; kernel_rfl
theorem g_S (S:Hl) (x:Option Int):a_3 ("holder":Str) (.d (d_9 x)) (flds S)=flds { S with holder:=x }:=by unfold flds; kernel_rfl
theorem p_f (S:Hl) (x:Int):a_3 ("until":Str) (.d (.int x)) (flds S)=flds { S with til:=x }:=by unfold flds; kernel_rfl
theorem n_T (S:Hl) (x:Int):a_3 ("holds":Str) (.d (.int x)) (flds S)=flds { S with holds:=x }:=by unfold flds; kernel_rfl
theorem i_B (S:Hl) (x:Option (Nat × Nat × Int)):a_3 ("begun":Str) (.d (l_X x)) (flds S)=flds { S with begun:=x }:=by unfold flds; kernel_rfl
theorem p_x (S:Hl) (x:List Row):a_3 ("rows":Str) (.l (x.map e_k)) (flds S)=flds { S with rows:=x }:=by unfold flds; kernel_rfl
theorem g_n (S:Hl) (x:List ((Nat × Nat) × Wd)):a_3 ("words":Str) (.m true (c_k x)) (flds S)=flds { S with words:=x }:=by unfold flds; kernel_rfl
theorem f_M (S:Hl) (x:List Nat):a_3 ("settled":Str) (.l (x.map d_X)) (flds S)=flds { S with settled:=x }:=by unfold flds; kernel_rfl
@[simp] theorem u_5 (S:Hl):a_3 ("last":Str) (.d .none) (flds S)=flds { S with last:=none }:=j_V S none
@[simp] theorem v_e (S:Hl) (i:Int):a_3 ("last":Str) (.d (.int i)) (flds S)=flds { S with last:=some i }:=j_V S (some i)
@[simp] theorem s_8 (S:Hl):a_3 ("holder":Str) (.d .none) (flds S)=flds { S with holder:=none }:=g_S S none
@[simp] theorem s_U (S:Hl) (i:Int):a_3 ("holder":Str) (.d (.int i)) (flds S)=flds { S with holder:=some i }:=g_S S (some i)
@[simp] theorem t_g (S:Hl) (i:Int):a_3 ("until":Str) (.d (.int i)) (flds S)=flds { S with til:=i }:=p_f S i
@[simp] theorem t_c (S:Hl) (i:Int):a_3 ("holds":Str) (.d (.int i)) (flds S)=flds { S with holds:=i }:=n_T S i
@[simp] theorem t_k (S:Hl):a_3 ("begun":Str) (.d .none) (flds S)=flds { S with begun:=none }:=i_B S none
@[simp] theorem t_l (S:Hl) (d c:Nat) (h:Int):a_3 ("begun":Str) (.d (.tuple [.int d,.int c,.int h])) (flds S)=flds { S with begun:=some (d,c,h) }:=i_B S (some (d,c,h))
section
variable {C:Addr} {io:Bool} {S:Hl} {U:a_r}
@[simp] theorem y_9 {fs:List (Str × Fl)}:d_H C (some (.own io (.o C fs)) :: U) 0=some (io,fs):=by simp [d_H]
@[simp] theorem y_q {x y:Option Cell} {fs:List (Str × Fl)}:d_H C (x :: y :: some (.own io (.o C fs)) :: U) 2=some (io,fs):=by simp [d_H]
@[simp] theorem y_O {f:Str} {d:PyData} {fs:List (Str × Fl)} (h:fs.lookup f=some (.d d)):e_v C 0 f (some (.own io (.o C fs)) :: U)=.ok d (some (.own io (.o C fs)) :: U):=by simp [e_v,h]
@[simp] theorem z_o:isNone .none=true:=by simp only [isNone]
@[simp] theorem z_f (i:Int):isNone (.int i)=false:=by simp only [isNone]
@[simp] theorem z_s (b:Bool):isNone (.bool b)=false:=by simp only [isNone]
@[simp] theorem z_p (x:Str):isNone (.str x)=false:=by simp only [isNone]
@[simp] theorem z_r (l:List PyData):isNone (.tuple l)=false:=by simp only [isNone]
@[simp] theorem z_n (l:List PyData):isNone (.list l)=false:=by simp only [isNone]
@[simp] theorem r_Y (x:Option Int):isNone (d_9 x)=x.isNone:=by cases x <;> simp [d_9]
@[simp] theorem s_7 (x:Option (Nat × Nat × Int)):isNone (l_X x)=x.isNone:=by rcases x with _ | ⟨_,_,_⟩ <;> simp [l_X]
end
theorem l_S {d:PyData} (h:noD d=true):e_L [.dat d]=.rt (.dat (.bool (isW d 0 3))) []:=by simp [gEq,e_L,f_U,b_T h]
theorem o_R {d:PyData} (h:noD d=true):g_q [.dat d]=.rt (.dat (.bool (isW d 1 99))) []:=by simp [gEq,g_q,i_p,b_T h]
theorem f_A {d:PyData} (h:noD d=true):c_Z [.dat d]=if isW d 0 3=true then .rt (.dat .none) [] else .ex "NoRunner" []:=by
 simp only [c_Z,d_2]
 cases hw:isW d 0 3 <;> simp [gEq,l_S h,hw]
theorem e_2 {d:PyData} (h:noD d=true):d_Z [.dat d]=if isW d 1 99=true then .rt (.dat .none) [] else .ex "NoTerm" []:=by
 simp only [d_Z,e_Y]
 cases hw:isW d 1 99 <;> simp [gEq,o_R h,hw]
def d_V (S:Hl) (m:Int):Bool:=S.holder.isSome && decide (m < S.til)
def p_L (S:Hl) (m:Int):Bool:=match S.last with
 | some l=>decide (m < l)
 | none=>false
section
variable {C:Addr} {S:Hl} {r m:Int} {d:PyData}
theorem e_u:d_w C [.own true (hB C S),.dat (.int m)]=.rt (.dat (.bool (d_V S m))) [hB C S]:=by
 unfold d_V
 cases h:S.holder <;> simp [d_w,f_K,h,d_9]
theorem s_L {r:PyData} (hr:noD r=true) (wr:isW r 0 3=true) (hw:isW (.int m) 0 9999=true) (hp:p_L S m=false):a_L C [.own true (hB C S),.dat r,.dat (.int m)]=.rt (.dat .none) [hB C S]:=by
 unfold p_L at hp
 cases h:S.last with
 | none=>simp [a_L,c_4,f_A hr,wr,f_z (d:=.int m) rfl,hw,h,d_9]
 | some l=>
  rw [h] at hp
  simp at hp
  simp [a_L,c_4,f_A hr,wr,f_z (d:=.int m) rfl,hw,h,d_9,show ¬ m < l by omega]
theorem j_R (x:Option Int) (r:Int):gEq true (d_9 x) (.int r)=some (.bool (!decide (x=some r))):=by
 cases x with
 | none=>simp [d_9,gEq,d_m,show SeqAt.shaped .none=true from rfl,PyData.eqv]
 | some i=>simp [d_9,t_9]
theorem o_g (h:a_L C [.own true (hB C S),.dat (.int r),.dat (.int m)]=.rt (.dat .none) [hB C S]) (hn:(d_V S m && decide (S.holder=some r))=false):a_j C [.own true (hB C S),.dat (.int r),.dat (.int m)]=.ex "NotHolder" [hB C S]:=by
 cases hh:d_V S m with
 | false=>simp [a_j,b_o,a_J,b_m,h,e_u,hh]
 | true=>
  rw [hh] at hn
  simp at hn
  simp [a_j,b_o,a_J,b_m,h,e_u,hh,j_R,hn]
theorem k_H (h:a_L C [.own true (hB C S),.dat (.int r),.dat (.int m)]=.rt (.dat .none) [hB C S]) (h1:d_V S m=true) (h2:S.holder=some r):a_j C [.own true (hB C S),.dat (.int r),.dat (.int m)]=.rt (.dat .none) [hB C S]:=by
 simp [a_j,b_o,a_J,b_m,h,e_u,h1,j_R,h2]
def n_j (S:Hl) (r m t:Int):Hl × Bool:=if d_V S m=false then ({ S with last:=some m,holds:=S.holds + 1,holder:=some r,til:=m + t },true) else if S.holder=some r then ({ S with last:=some m,holder:=some r,til:=m + t },true) else ({ S with last:=some m },false)
theorem r_o {t:Int} (h:a_L C [.own true (hB C S),.dat (.int r),.dat (.int m)]=.rt (.dat .none) [hB C S]) (ht:isW (.int t) 1 99=true):d_T C [.own true (hB C S),.dat (.int r),.dat (.int m),.dat (.int t)]=.rt (.dat (.bool (n_j S r m t).2)) [hB C (n_j S r m t).1]:=by
 unfold n_j
 have hh:d_V { S with last:=some m } m=d_V S m:=rfl
 cases he:d_V S m with
 | false=>simp [d_T,f_4,a_J,b_m,h,e_2 (d:=.int t) rfl,ht,b_F,k_K,b_G,e_u,hh,he,j_N]
 | true=>
  by_cases hr:S.holder=some r
  ·have he':m < S.til:=by unfold d_V at he; simp [hr] at he; exact he
   simp [d_T,f_4,a_J,b_m,h,e_2 (d:=.int t) rfl,ht,b_F,k_K,b_G,e_u,d_V,he',j_R,hr]
  ·simp [d_T,f_4,a_J,b_m,h,e_2 (d:=.int t) rfl,ht,b_F,k_K,b_G,e_u,hh,he,j_R,hr]
theorem s_0 {c:Str} {m:PyData} (h:a_j C [.own true (hB C S),.dat d,.dat m]=.ex c [hB C S]):d_K C [.own true (hB C S),.dat d,.dat m]=.ex c [hB C S]:=by
 simp [d_K,h_J,a_J,b_m,h]
theorem u_V {r m:Int} (h:a_j C [.own true (hB C S),.dat (.int r),.dat (.int m)]=.rt (.dat .none) [hB C S]):d_K C [.own true (hB C S),.dat (.int r),.dat (.int m)]=.rt (.dat .none) [hB C { S with last:=some m,holder:=none }]:=by
 simp [d_K,h_J,a_J,b_m,h,b_F,k_K,b_G]
theorem r_8 {c:Str} {m:PyData} (h:a_j C [.own true (hB C S),.dat d,.dat m]=.ex c [hB C S]):a_V C [.own true (hB C S),.dat d,.dat m]=.ex c [hB C S]:=by
 simp [a_V,f_q,a_J,b_m,h]
theorem o_K {c:Str} {m:PyData} (h:a_j C [.own true (hB C S),.dat d,.dat m]=.ex c [hB C S]):a_P C [.own true (hB C S),.dat d,.dat m]=.ex c [hB C S]:=by
 simp [a_P,e_b,a_J,b_m,h]
abbrev p_M (S:Hl):PyData:=.tuple [d_9 S.holder,.int S.til,.int S.holds]
theorem t_U:g_i C [.own true (hB C S)]=.rt (.dat (p_M S)) [hB C S]:=by
 simp [g_i,j_4,show (3:Nat)<=sizeLine from by decide]
theorem v_4:g_W C [.own true (hB C S)]=.rt (.dat (.list (S.rows.map e_k))) [hB C S]:=by
 simp [g_W,l_u,h_D]
end
@[irreducible] def fl0 (z d:PyData):List (Str × Fl):=[]
@[irreducible] def fl1 (z d:PyData):List (Str × Fl):=[("zone",.d z)]
@[irreducible] def fl2 (z d:PyData):List (Str × Fl):=[("zone",.d z),("deeds",.d d)]
@[irreducible] def fl3 (z d:PyData):List (Str × Fl):=[("zone",.d z),("deeds",.d d),("last",.d .none)]
@[irreducible] def fl4 (z d:PyData):List (Str × Fl):=[("zone",.d z),("deeds",.d d),("last",.d .none),("holder",.d .none)]
@[irreducible] def fl5 (z d:PyData):List (Str × Fl):=[("zone",.d z),("deeds",.d d),("last",.d .none),("holder",.d .none),("until",.d (.int 0))]
@[irreducible] def fl6 (z d:PyData):List (Str × Fl):=[("zone",.d z),("deeds",.d d),("last",.d .none),("holder",.d .none),("until",.d (.int 0)),("holds",.d (.int 0))]
@[irreducible] def fl7 (z d:PyData):List (Str × Fl):=[("zone",.d z),("deeds",.d d),("last",.d .none),("holder",.d .none),("until",.d (.int 0)),("holds",.d (.int 0)),("begun",.d .none)]
@[irreducible] def fl8 (z d:PyData):List (Str × Fl):=[("zone",.d z),("deeds",.d d),("last",.d .none),("holder",.d .none),("until",.d (.int 0)),("holds",.d (.int 0)),("begun",.d .none),("rows",.l [])]
@[irreducible] def fl9 (z d:PyData):List (Str × Fl):=[("zone",.d z),("deeds",.d d),("last",.d .none),("holder",.d .none),("until",.d (.int 0)),("holds",.d (.int 0)),("begun",.d .none),("rows",.l []),("words",.m true [])]
@[simp] theorem lk0 (z d:PyData):List.lookup ("zone":Str) (fl0 z d)=none:=by unfold fl0; kernel_rfl
@[simp] theorem ln0 (z d:PyData):(fl0 z d).length=0:=by unfold fl0; kernel_rfl
@[simp] theorem pt0 (z d:PyData):a_3 ("zone":Str) (.d z) (fl0 z d)=fl1 z d:=by unfold fl0 fl1; kernel_rfl
@[simp] theorem lk1 (z d:PyData):List.lookup ("deeds":Str) (fl1 z d)=none:=by unfold fl1; kernel_rfl
@[simp] theorem ln1 (z d:PyData):(fl1 z d).length=1:=by unfold fl1; kernel_rfl
@[simp] theorem pt1 (z d:PyData):a_3 ("deeds":Str) (.d d) (fl1 z d)=fl2 z d:=by unfold fl1 fl2; kernel_rfl
@[simp] theorem lk2 (z d:PyData):List.lookup ("last":Str) (fl2 z d)=none:=by unfold fl2; kernel_rfl
@[simp] theorem ln2 (z d:PyData):(fl2 z d).length=2:=by unfold fl2; kernel_rfl
@[simp] theorem pt2 (z d:PyData):a_3 ("last":Str) (.d .none) (fl2 z d)=fl3 z d:=by unfold fl2 fl3; kernel_rfl
@[simp] theorem lk3 (z d:PyData):List.lookup ("holder":Str) (fl3 z d)=none:=by unfold fl3; kernel_rfl
@[simp] theorem ln3 (z d:PyData):(fl3 z d).length=3:=by unfold fl3; kernel_rfl
@[simp] theorem pt3 (z d:PyData):a_3 ("holder":Str) (.d .none) (fl3 z d)=fl4 z d:=by unfold fl3 fl4; kernel_rfl
@[simp] theorem lk4 (z d:PyData):List.lookup ("until":Str) (fl4 z d)=none:=by unfold fl4; kernel_rfl
@[simp] theorem ln4 (z d:PyData):(fl4 z d).length=4:=by unfold fl4; kernel_rfl
@[simp] theorem pt4 (z d:PyData):a_3 ("until":Str) (.d (.int 0)) (fl4 z d)=fl5 z d:=by unfold fl4 fl5; kernel_rfl
@[simp] theorem lk5 (z d:PyData):List.lookup ("holds":Str) (fl5 z d)=none:=by unfold fl5; kernel_rfl
@[simp] theorem ln5 (z d:PyData):(fl5 z d).length=5:=by unfold fl5; kernel_rfl
@[simp] theorem pt5 (z d:PyData):a_3 ("holds":Str) (.d (.int 0)) (fl5 z d)=fl6 z d:=by unfold fl5 fl6; kernel_rfl
@[simp] theorem lk6 (z d:PyData):List.lookup ("begun":Str) (fl6 z d)=none:=by unfold fl6; kernel_rfl
@[simp] theorem ln6 (z d:PyData):(fl6 z d).length=6:=by unfold fl6; kernel_rfl
@[simp] theorem pt6 (z d:PyData):a_3 ("begun":Str) (.d .none) (fl6 z d)=fl7 z d:=by unfold fl6 fl7; kernel_rfl
@[simp] theorem lk7 (z d:PyData):List.lookup ("rows":Str) (fl7 z d)=none:=by unfold fl7; kernel_rfl
@[simp] theorem ln7 (z d:PyData):(fl7 z d).length=7:=by unfold fl7; kernel_rfl
@[simp] theorem pt7 (z d:PyData):a_3 ("rows":Str) (.l []) (fl7 z d)=fl8 z d:=by unfold fl7 fl8; kernel_rfl
@[simp] theorem lk8 (z d:PyData):List.lookup ("words":Str) (fl8 z d)=none:=by unfold fl8; kernel_rfl
@[simp] theorem ln8 (z d:PyData):(fl8 z d).length=8:=by unfold fl8; kernel_rfl
@[simp] theorem pt8 (z d:PyData):a_3 ("words":Str) (.m true []) (fl8 z d)=fl9 z d:=by unfold fl8 fl9; kernel_rfl
@[simp] theorem lk9 (z d:PyData):List.lookup ("settled":Str) (fl9 z d)=none:=by unfold fl9; kernel_rfl
@[simp] theorem ln9 (z d:PyData):(fl9 z d).length=9:=by unfold fl9; kernel_rfl
def i_D (a:Int) (ss:Sh) (ds:List Deed):Hl:=⟨a,ss,ds,none,none,0,0,none,[],[],List.replicate ds.length 0⟩
theorem pt9 (a:Int) (ss:Sh) (ds:List Deed):a_3 ("settled":Str) (.l ((List.replicate ds.length (0:Nat)).map d_X)) (fl9 (d_I a ss) (d_a ds))=flds (i_D a ss ds):=by unfold fl9 flds i_D; kernel_rfl
theorem m_B {C:Addr}:∀ (l ys:List PyData) (U:a_r),(∃ x,U=[x])->ys.length + l.length<=sizeLine->b_c (gNm 0) h_s (c_1 C) l ys U=some (ys ++ (List.replicate l.length (0:Nat)).map d_X)
 | [],ys,U,_,_=>by simp [b_c]
 | d :: l,ys,U,⟨x,hx⟩,hl=>by
  subst hx
  simp only [List.length_cons] at hl
  have ih:=m_B (C:=C) l (ys ++ [.int 0]) [some (.dat d)] ⟨_,rfl⟩ (by simp; omega)
  have he:c_1 C [some (.dat d)]=.ok (.int 0) [some (.dat d)]:=by simp [c_1]
  rw [b_c]
  simp [h_s,he,show ys.length < sizeLine by omega,ih,List.replicate_succ]
theorem q_T {C:Addr} {a:Int} {ss:Sh} {ds:List Deed} (hz:c_6 [.dat (d_I a ss)]=.rt (.dat .none) []) (hd:c_o [.dat (d_a ds)]=.rt (.dat .none) []) (hl:ds.length<=6):c_7 C [.own true (.o C []),.dat (d_I a ss),.dat (d_a ds)]=.rt (.dat .none) [hB C (i_D a ss ds)]:=by
 have sz:1000 < sizeLine:=by decide
 have e0:([]:List (Str × Fl))=fl0 (d_I a ss) (d_a ds):=by unfold fl0; rfl
 have g:=m_B (C:=C) (ds.map c_9) [] [none] ⟨_,rfl⟩ (by simp; omega)
 rw [List.nil_append,List.length_map] at g
 have ed:d_a ds=.tuple (ds.map c_9):=by unfold d_a; rfl
 have p9:=pt9 a ss ds
 rw [e0]
 simp [c_7,f_b,hz,hd,b_F,k_K,b_G,f_X,l_V,j_y]
 rw [ed] at *
 simp [g,show ds.length<=sizeLine by omega] at p9 ⊢
 exact p9
def POk (p:Plan):Prop:=e_1 p
theorem POk.plan {p:Plan} (h:POk p):e_1 p:=h
theorem n_Y {a:Int} {ss:Sh} {p:Plan} {c:Nat} (hl:ss.length<=6) (ok:POk p):b_M [.dat (d_I a ss),.dat (l_L p),.dat (.int c)]=.rt (.dat (l_e (f_9 a ss p c))) []:=o_L hl ok
theorem f_i:PyData.strOk "all" = true:=by decide +kernel
theorem c_X:PyData.strOk "last" = true:=by decide +kernel
theorem h_1:PyData.strOk "within" = true:=by decide +kernel
theorem b_C:PyData.strOk "begun" = true:=by decide +kernel
theorem j_O:PyData.strOk "done" = true:=by decide +kernel
theorem f_F:PyData.strOk "left" = true:=by decide +kernel
theorem d_G:PyData.strOk "unsure" = true:=by decide +kernel
theorem e_B:PyData.strOk "busy" = true:=by decide +kernel
theorem u_z:(("all":Str) == ("all":Str))=true:=by decide +kernel
theorem w_h:(("last":Str) == ("all":Str))=false:=by decide +kernel
theorem x_a:(("last":Str) == ("last":Str))=true:=by decide +kernel
theorem w_t:(("begun":Str) == ("begun":Str))=true:=by decide +kernel
theorem y_s:(("done":Str) == ("begun":Str))=false:=by decide +kernel
theorem w_2:(("left":Str) == ("begun":Str))=false:=by decide +kernel
theorem w_H:(("unsure":Str) == ("begun":Str))=false:=by decide +kernel
theorem x_e (w:Wd):PyData.strOk (wdS w)=true:=by cases w <;> decide +kernel
theorem u_c {l:List PyData} {x:Str} (h:SeqAt.shaped (.tuple l)=true) (hx:PyData.strOk x=true):gEq false (.tuple l) (.str x)=some (.bool false):=by
 simp [gEq,h,e_r hx,PyData.eqv]
theorem g_p (n:Int):SeqAt.shaped (.tuple [.str "within",.int n])=true:=by
 unfold SeqAt.shaped
 simp [PyData.canLay0,PyData.canLayAll0,PyData.depth,PyData.depthAll,h_1]
def n_l (a:Int) (ss:Sh) (d:Deed) (c:Nat) (now:Int):Bool:=match d.late with
 | .all=>false
 | .last=>(match f_9 a ss d.plan (c + 1) with | some v=>decide (v<=now) | none=>false)
 | .within n=>decide (now - u_Y a ss d.plan c > n)
theorem n_h {a now:Int} {ss:Sh} {d:Deed} {c:Nat} (hl:ss.length<=6) (ok:POk d.plan) (ht:∃ v,f_9 a ss d.plan c=some v):b_n [.dat (d_I a ss),.dat (c_9 d),.dat (.int c),.dat (.int now)]=.rt (.dat (.bool (n_l a ss d c now))) []:=by
 obtain ⟨p,la,ag⟩:=d
 obtain ⟨v,hv⟩:=ht
 simp only at ok hv
 unfold n_l
 cases la with
 | all=>simp [b_n,b_V,a_C f_i f_i,u_z]
 | last=>
  have rt:=n_Y (a:=a) (ss:=ss) (p:=p) (c:=c + 1) hl ok
  simp at rt
  cases hn:f_9 a ss p (c + 1) with
  | none=>rw [hn] at rt; simp [b_n,b_V,a_C c_X f_i,a_C c_X c_X,w_h,x_a,rt,l_e,hn]
  | some w=>rw [hn] at rt; simp [b_n,b_V,a_C c_X f_i,a_C c_X c_X,w_h,x_a,rt,l_e,hn]
 | within n=>
  have rt:=n_Y (a:=a) (ss:=ss) (p:=p) (c:=c) hl ok
  rw [hv] at rt
  simp [b_n,b_V,u_c (g_p n) f_i,u_c (g_p n) c_X,rt,l_e,u_Y,hv]
def k_l:List ((Nat × Nat) × Wd)->(Nat × Nat)->Wd->List ((Nat × Nat) × Wd)
 | [],k,w=>[(k,w)]
 | (k',v) :: r,k,w=>if k' = k then (k',w) :: r else (k',v) :: k_l r k w
theorem g_s (d c:Nat):n_u true (.tuple [d_X d,d_X c])=some [Sum.inl (d:Int),Sum.inl (c:Int)]:=rfl
theorem l_a {d c d' c':Nat}:(n_u true (.tuple [d_X d',d_X c'])=some [Sum.inl (d:Int),Sum.inl (c:Int)]) ↔ (d',c')=(d,c):=by
 rw [g_s]
 constructor
 ·intro h
  simp only [Option.some.injEq,List.cons.injEq,Sum.inl.injEq,and_true] at h
  have h1:=h.1
  have h2:=h.2
  have e1:d' = d:=by omega
  have e2:c' = c:=by omega
  rw [e1,e2]
 ·intro h; cases h; rfl
theorem i_Y (d c:Nat):∀ ws:List ((Nat × Nat) × Wd),k_f true (c_k ws) [Sum.inl (d:Int),Sum.inl (c:Int)]=(ws.lookup (d,c)).map fun w=>.str (wdS w)
 | []=>rfl
 | ((d',c'),w) :: r=>by
  unfold c_k
  rw [List.map_cons,k_f]
  have ih:=i_Y d c r
  unfold c_k at ih
  by_cases h:(d',c')=(d,c)
  ·rw [if_pos (l_a.mpr h)]
   cases h
   simp [List.lookup]
  ·rw [if_neg (fun z=>h (l_a.mp z)),ih]
   have:((d,c) == (d',c'))=false:=by simpa using fun z:(d=d'/\c=c')=>h (by rw [z.1,z.2])
   rw [List.lookup_cons,this]
theorem e_T (d c:Nat) (w:Wd):∀ ws:List ((Nat × Nat) × Wd),(ws.map (·.1)).Nodup->(ws.lookup (d,c)).isSome=true->l_j true [Sum.inl (d:Int),Sum.inl (c:Int)] (.str (wdS w)) (c_k ws)=c_k (k_l ws (d,c) w)
 | [],_,h=>by cases h
 | ((d',c'),v) :: r,nd,h=>by
  unfold c_k
  rw [List.map_cons,l_j]
  have tail:∀ ws:List ((Nat × Nat) × Wd),(d,c) ∉ ws.map (·.1)->l_j true [Sum.inl (d:Int),Sum.inl (c:Int)] (.str (wdS w)) (c_k ws)=c_k ws:=by
   intro ws
   induction ws with
   | nil=>intro _; rfl
   | cons p r ih=>
    intro hn
    obtain ⟨⟨d2,c2⟩,v2⟩:=p
    simp only [List.map_cons,List.mem_cons,not_or] at hn
    unfold c_k
    rw [List.map_cons,l_j,if_neg (fun z=>hn.1 (l_a.mp z).symm)]
    have:=ih hn.2
    unfold c_k at this
    rw [this]
  by_cases e:(d',c')=(d,c)
  ·cases e
   rw [if_pos (l_a.mpr rfl),k_l,if_pos rfl,List.map_cons]
   have:=tail r (by simpa using (List.nodup_cons.mp nd).1)
   unfold c_k at this
   rw [this]
  ·have h':(r.lookup (d,c)).isSome=true:=by
    have:((d,c) == (d',c'))=false:=by simpa using fun z:(d=d'/\c=c')=>e (by rw [z.1,z.2])
    rw [List.lookup_cons,this] at h
    exact h
   rw [if_neg (fun z=>e (l_a.mp z)),k_l,if_neg e,List.map_cons]
   have:=e_T d c w r (List.nodup_cons.mp nd).2 h'
   unfold c_k at this
   rw [this]
theorem m_l (k:Nat × Nat) (w:Wd):∀ ws:List ((Nat × Nat) × Wd),ws.lookup k=none->k_l ws k w=ws ++ [(k,w)]
 | [],_=>rfl
 | (k',v) :: r,h=>by
  rw [List.lookup_cons] at h
  by_cases e:k=k'
  ·subst e; simp at h
  ·have:(k == k')=false:=by simpa using e
   rw [this] at h
   rw [k_l,if_neg (fun z=>e z.symm),m_l k w r h]; rfl
theorem l_k {ws:List ((Nat × Nat) × Wd)} {d c:Nat} {w:Wd} (nd:(ws.map (·.1)).Nodup):h_g true (c_k ws) (.tuple [d_X d,d_X c]) [Sum.inl (d:Int),Sum.inl (c:Int)] (.str (wdS w))=c_k (k_l ws (d,c) w):=by
 unfold h_g
 rw [i_Y]
 cases h:ws.lookup (d,c) with
 | none=>rw [m_l _ _ _ h]; simp [c_k]
 | some v=>simp only [Option.map_some,Option.isSome_some,if_true]; exact e_T d c w ws nd (by rw [h]; rfl)
theorem i_t (k:Nat × Nat) (w:Wd):∀ ws:List ((Nat × Nat) × Wd),(k_l ws k w).map (·.1)=if k ∈ ws.map (·.1) then ws.map (·.1) else ws.map (·.1) ++ [k]
 | []=>by simp [k_l]
 | (k',v) :: r=>by
  rw [k_l]
  by_cases e:k' = k
  ·subst e; simp
  ·rw [if_neg e,List.map_cons,i_t k w r]
   by_cases h:k ∈ r.map (·.1)
   ·rw [if_pos h]; rw [if_pos (by simp [h])]; rfl
   ·rw [if_neg h,if_neg (by
     simp only [List.map_cons,List.mem_cons,not_or]
     exact ⟨fun z=>e z.symm,h⟩)]; rfl
theorem n_g {k:Nat × Nat} {w:Wd} {ws:List ((Nat × Nat) × Wd)} (nd:(ws.map (·.1)).Nodup):((k_l ws k w).map (·.1)).Nodup:=by
 rw [i_t]
 split
 ·exact nd
 ·rename_i h
  exact List.nodup_append.mpr ⟨nd,by simp,fun a ha b hb z=>by simp at hb; subst hb; subst z; exact h ha⟩
theorem m_q (k:Nat × Nat) (w:Wd) (ws:List ((Nat × Nat) × Wd)):(k_l ws k w).length<=ws.length + 1:=by
 have:=congrArg List.length (i_t k w ws)
 rw [List.length_map] at this
 rw [this]
 split <;> simp
def g_L (S:Hl) (r:Row):Hl:={ S with rows:=S.rows ++ [r],words:=k_l S.words (r.dd,r.ct) r.wd,begun:=if r.wd=.begun then some (r.dd,r.ct,S.holds) else none,settled:=if r.wd=.begun then S.settled else S.settled.set r.dd (r.ct + 1) }
theorem at3' {x y z v:PyData} {l:List PyData}:atI (x :: y :: z :: v :: l) 3=some v:=by
 unfold atI ixN
 rw [if_pos (by omega),if_pos (by simp <;> omega)]
 rfl
theorem at4' {x y z v u:PyData} {l:List PyData}:atI (x :: y :: z :: v :: u :: l) 4=some u:=by
 unfold atI ixN
 rw [if_pos (by omega),if_pos (by simp <;> omega)]
 rfl
theorem o_S (S:Hl) (r:Row):a_3 ("rows":Str) (.l (S.rows.map e_k ++ [e_k r])) (flds S)=flds { S with rows:=S.rows ++ [r] }:=by
 rw [show S.rows.map e_k ++ [e_k r]=(S.rows ++ [r]).map e_k by simp]; exact p_x S _
theorem e_h {C:Addr} {S:Hl} {r:Row} (hr:S.rows.length < 1000000) (hw:S.words.length < 1000000) (hn:(S.words.map (·.1)).Nodup) (hd:r.dd < S.settled.length):a_I C [.own true (hB C S),.dat (e_k r)]=.rt (.dat (.tuple [.str (wdS r.wd),d_X r.dd,d_X r.ct])) [hB C (g_L S r)]:=by
 have sz:1000000 < sizeLine:=by decide
 obtain ⟨mo,ru,wd,dd,ct⟩:=r
 have e1:=l_k (ws:=S.words) (d:=dd) (c:=ct) (w:=wd) hn
 have l1:(c_k S.words).length < sizeLine:=by unfold c_k; rw [List.length_map]; omega
 have p1:=o_S S ⟨mo,ru,wd,dd,ct⟩
 simp only at hd
 have ix:ixN S.settled.length (dd:Int)=some dd:=by
  unfold ixN
  rw [if_pos (by omega),if_pos (by omega)]
  simp
 have st:(S.settled.map d_X).set dd (.int ((ct:Int) + 1))=(S.settled.set dd (ct + 1)).map d_X:=by
  rw [List.map_set]; simp [d_X]
 unfold g_L
 cases wd
 ·simp [a_I,c_y,at3',at4',f_W,e_V,g_Y,show S.rows.length < sizeLine by omega,p1,g_U,f_E,g_s,l1,e1,g_n,b_F,k_K,b_G,show (3:Nat)<=sizeLine by omega,g_Z,f_J,ix,st,a_C b_C b_C,w_t]
 ·simp [a_I,c_y,at3',at4',f_W,e_V,g_Y,show S.rows.length < sizeLine by omega,p1,g_U,f_E,g_s,l1,e1,g_n,b_F,k_K,b_G,show (3:Nat)<=sizeLine by omega,g_Z,f_J,ix,st,a_C j_O b_C,y_s]
  rw [<-List.map_set]; exact f_M _ _
 ·simp [a_I,c_y,at3',at4',f_W,e_V,g_Y,show S.rows.length < sizeLine by omega,p1,g_U,f_E,g_s,l1,e1,g_n,b_F,k_K,b_G,show (3:Nat)<=sizeLine by omega,g_Z,f_J,ix,st,a_C f_F b_C,w_2]
  rw [<-List.map_set]; exact f_M _ _
 ·simp [a_I,c_y,at3',at4',f_W,e_V,g_Y,show S.rows.length < sizeLine by omega,p1,g_U,f_E,g_s,l1,e1,g_n,b_F,k_K,b_G,show (3:Nat)<=sizeLine by omega,g_Z,f_J,ix,st,a_C d_G b_C,w_H]
  rw [<-List.map_set]; exact f_M _ _
structure HOk (S:Hl):Prop where
 z:ZOk S.a S.ss
 dl:S.ds.length<=6
 pl:∀ d ∈ S.ds,POk d.plan
 sl:S.settled.length=S.ds.length
 nd:(S.words.map (·.1)).Nodup
 bg:∀ d c h,S.begun=some (d,c,h)->d < S.ds.length
def l_l (S:Hl):Bool:=match S.begun with
 | some (_,_,h)=>decide (h=S.holds)
 | none=>false
theorem i_Q {n N:Nat} {m:SM} {cs:List Cell} {c:Cell} {U:a_r} {o:List Bx} (hl:cs.length=n) (hm:m (cs.map some ++ List.replicate (N - n) none)=.rt c U) (ho:a_4 cs U=some o):fnM n N m cs=.rt c o:=by
 unfold fnM
 rw [if_pos hl,hm]
 simp only [ho]
theorem t_F {j:Int} (h1:-4611686018427387904<=j) (h2:j < 4611686018427387904):rng1 [.int j]=some (L3.intsFrom 0 j.toNat):=by
 show (if _ then _ else _)=_
 rw [if_pos (by rw [decide_eq_true (show -(2 ^ 62)<=j by omega),decide_eq_true (show j < 2 ^ 62 by omega)]; rfl)]
section
variable {C:Addr} {S:Hl}
theorem i_n:c_z C [.own true (hB C S)]=.rt (.dat (.bool (l_l S))) [hB C S]:=by
 unfold l_l
 cases h:S.begun with
 | none=>simp [c_z,e_D,h,l_X]
 | some p=>obtain ⟨d,c,k⟩:=p; simp [c_z,e_D,h,l_X,f_D]
theorem m_r {ds:List Deed} {k:Nat} (h:k < ds.length):a_T (d_a ds) (.int k)=some (c_9 ds[k]):=by
 unfold d_a
 have:atI (ds.map c_9) (k:Int)=some (c_9 ds[k]):=by
  unfold atI ixN
  rw [if_pos (by omega),if_pos (by simp; omega)]
  simp [h]
 simp [a_T,this]
theorem m_W {l:List Nat} {k:Nat} (h:k < l.length):atI (l.map d_X) (k:Int)=some (d_X l[k]):=by
 unfold atI ixN
 rw [if_pos (by omega),if_pos (by simp; omega)]
 simp [h]
def d_c (S:Hl) (k:Nat):Nat:=S.settled.getD k 0
def k_4 (S:Hl) (k:Nat):Option (List Int):=match S.ds[k]? with
 | some d=>(f_9 S.a S.ss d.plan (d_c S k)).map fun v=>[v,(k:Int),(d_c S k:Int)]
 | none=>none
def b_Y (S:Hl):List (List Int):=(List.range S.ds.length).filterMap (k_4 S)
abbrev irow (r:List Int):PyData:=.tuple (r.map PyData.int)
theorem o_6 (ok:HOk S):∀ (n k:Nat) (fnd:List (List Int)) (x2 x3 x4:Option Cell),k + n=S.ds.length->fnd.length<=k->∃ y2 y3 y4,c_m (gNm 2) (a_B C) (L3.intsFrom (k:Int) n) [some (.own true (hB C S)),some (.own false (.l (fnd.map irow))),x2,x3,x4]=.nx [some (.own true (hB C S)),some (.own false (.l ((fnd ++ (List.range' k n).filterMap (k_4 S)).map irow))),y2,y3,y4]
 | 0,k,fnd,x2,x3,x4,_,_=>⟨x2,x3,x4,by simp [L3.intsFrom,c_m]⟩
 | n + 1,k,fnd,x2,x3,x4,hk,hf=>by
  have sz:1000 < sizeLine:=by decide
  have hk':k < S.ds.length:=by omega
  have hs:k < S.settled.length:=by rw [ok.sl]; exact hk'
  have dl:=ok.dl
  have hp:POk (S.ds[k]).plan:=ok.pl _ (List.getElem_mem hk')
  have ec:d_c S k=S.settled[k]:=by unfold d_c; rw [List.getD_eq_getElem?_getD,List.getElem?_eq_getElem hs]; rfl
  have rt:=n_Y (a:=S.a) (ss:=S.ss) (p:=(S.ds[k]).plan) (c:=S.settled[k]) ok.z.len hp
  have as:=m_W (l:=S.settled) hs
  have eu:k_4 S k=(f_9 S.a S.ss (S.ds[k]).plan S.settled[k]).map fun v=>[v,(k:Int),((S.settled[k]:Nat):Int)]:=by
   unfold k_4
   rw [List.getElem?_eq_getElem hk',<-ec]
  rw [d_g,c_m,List.range'_succ,List.filterMap_cons,eu]
  cases ht:f_9 S.a S.ss (S.ds[k]).plan S.settled[k] with
  | none=>
   rw [ht] at rt
   have e:a_B C [some (.own true (hB C S)),some (.own false (.l (fnd.map irow))),some (.dat (.int k)),x3,x4]=.nx [some (.own true (hB C S)),some (.own false (.l (fnd.map irow))),some (.dat (.int k)),some (.dat (d_X S.settled[k])),some (.dat .none)]:=by
    simp [-a_T,a_B,k_C,e_V,as,m_r hk']
    simp [rt,l_e]
   obtain ⟨y2,y3,y4,ih⟩:=o_6 ok n (k + 1) fnd (some (.dat (.int k))) (some (.dat (d_X S.settled[k]))) (some (.dat .none)) (by omega) (by omega)
   refine ⟨y2,y3,y4,?_⟩
   simp only [Option.map_none]
   rw [<-ih]
   simp [e]
  | some v=>
   rw [ht] at rt
   have e:a_B C [some (.own true (hB C S)),some (.own false (.l (fnd.map irow))),some (.dat (.int k)),x3,x4]=.nx [some (.own true (hB C S)),some (.own false (.l ((fnd ++ [[v,(k:Int),((S.settled[k]:Nat):Int)]]).map irow))),some (.dat (.int k)),some (.dat (d_X S.settled[k])),some (.dat (.int v))]:=by
    simp [-a_T,a_B,k_C,e_V,as,m_r hk']
    simp [rt,l_e,show fnd.length < sizeLine by omega,show (3:Nat)<=sizeLine by omega]
   obtain ⟨y2,y3,y4,ih⟩:=o_6 ok n (k + 1) (fnd ++ [[v,(k:Int),((S.settled[k]:Nat):Int)]]) (some (.dat (.int k))) (some (.dat (d_X S.settled[k]))) (some (.dat (.int v))) (by omega) (by simp; omega)
   refine ⟨y2,y3,y4,?_⟩
   simp only [Option.map_some]
   rw [List.append_assoc,List.singleton_append] at ih
   rw [<-ih]
   simp [e]
theorem i_1:∀ ns:List Int,h_4 (ns.map PyData.int)=some ns
 | []=>rfl
 | n :: ns=>by rw [List.map_cons,h_4,i_1 ns]; rfl
theorem i_2:∀ rs:List (List Int),g_5 (rs.map irow)=some rs
 | []=>rfl
 | r :: rs=>by rw [List.map_cons,g_5,i_1,i_2 rs]
def t_j:List (List Int)->PyData
 | []=>.none
 | r :: rs=>irow (d_y rs r)
theorem u_o:(xCB n_v (a_f (e_v C 0 "deeds") b_i)) [some (.own true (hB C S)),some (.own false (.l [])),none,none,none]=.ok (.int S.ds.length) [some (.own true (hB C S)),some (.own false (.l [])),none,none,none]:=by
 simp [d_a]
theorem s_9 {U:a_r} {rs:List (List Int)} (h:U[1]? = some (some (.own false (.l (rs.map irow))))):k_3 1 U=.ok (t_j rs) U:=by
 unfold k_3 asO
 rw [h]
 simp only [i_2]
 cases rs <;> rfl
theorem r_Q {n:Int} (h0:0<=n) (h1:n<=1000) {m:XM PyData} {g:GM} {b:SM} {U U':a_r} (hm:m U=.ok (.int n) U) (hg:c_m g b (L3.intsFrom 0 n.toNat) U=.nx U'):i_e (iLf rng1 (a_f m b_i)) g b U=.nx U':=by
 have e1:(a_f m b_i) U=.ok [.int n] U:=by
  show Out.bind (m U) _=_
  rw [hm]
  rfl
 have e2:iLf rng1 (a_f m b_i) U=.ok (L3.intsFrom 0 n.toNat) U:=by
  show Out.bind ((a_f m b_i) U) _=_
  rw [e1]
  show L3.lift (rng1 [.int n]) U=_
  rw [t_F (by omega) (by omega)]
  rfl
 show ofX (iLf rng1 (a_f m b_i) U) _=_
 rw [e2]
 exact hg
theorem g_P (ok:HOk S):b_7 C [.own true (hB C S)]=.rt (.dat (t_j (b_Y S))) [hB C S]:=by
 have dl:=ok.dl
 obtain ⟨y2,y3,y4,g⟩:=o_6 (C:=C) ok S.ds.length 0 [] none none none (by omega) (by simp)
 rw [List.nil_append,<-List.range_eq_range'] at g
 change c_m _ _ (L3.intsFrom 0 S.ds.length) [_,some (.own false (.l [])),_,_,_]=OutS.nx [_,some (.own false (.l ((b_Y S).map irow))),_,_,_] at g
 have sF:=r_Q (m:=xCB n_v (a_f (e_v C 0 "deeds") b_i)) (by omega) (by omega) (u_o (C:=C) (S:=S)) (by rw [Int.toNat_natCast]; exact g)
 have s1:g_v 1 (i_H b_i) [some (.own true (hB C S)),none,none,none,none]=.nx [some (.own true (hB C S)),some (.own false (.l [])),none,none,none]:=by simp
 have s2:a_N (k_3 1) [some (.own true (hB C S)),some (.own false (.l ((b_Y S).map irow))),y2,y3,y4]=.rt (.dat (t_j (b_Y S))) [some (.own true (hB C S)),some (.own false (.l ((b_Y S).map irow))),y2,y3,y4]:=by
  show ofX (k_3 1 _) _=_
  rw [s_9 rfl]
  rfl
 have s3:(a_h (g_v 1 (i_H b_i)) (a_h (i_e (iLf rng1 (a_f (xCB n_v (a_f (e_v C 0 "deeds") b_i)) b_i)) (gNm 2) (a_B C)) (a_N (k_3 1)))) [some (.own true (hB C S)),none,none,none,none]=.rt (.dat (t_j (b_Y S))) [some (.own true (hB C S)),some (.own false (.l ((b_Y S).map irow))),y2,y3,y4]:=by
  rw [f_S s1,f_S sF,s2]
 exact i_Q (n:=1) (N:=5) rfl s3 rfl
end
theorem g_X:∀ (rs:List (List Int)) (r:List Int),d_y rs r=r\/d_y rs r ∈ rs
 | [],r=>.inl rfl
 | x :: rs,r=>by
  rw [d_y]
  rcases g_X rs (if HT.lexLt x r=true then x else r) with h | h
  ·rw [h]
   split
   ·exact .inr List.mem_cons_self
   ·exact .inl rfl
  ·exact .inr (List.mem_cons_of_mem _ h)
theorem g_o (ds:List Deed):d_a ds=.tuple (ds.map c_9):=by unfold d_a; rfl
theorem h_z {ds:List Deed} {k:Nat} (h:k < ds.length):atI (ds.map c_9) (k:Int)=some (c_9 ds[k]):=by
 unfold atI ixN
 rw [if_pos (by omega),if_pos (by simp; omega)]
 simp [h]
section
variable {C:Addr} {S:Hl} {r m:Int}
theorem n_7 {x:List Int} (h:x ∈ b_Y S):∃ k v,∃ hk:k < S.ds.length,f_9 S.a S.ss (S.ds[k]).plan (d_c S k)=some v/\x=[v,(k:Int),(d_c S k:Int)]:=by
 unfold b_Y at h
 obtain ⟨k,hk,e⟩:=List.mem_filterMap.mp h
 have hk':=List.mem_range.mp hk
 unfold k_4 at e
 rw [List.getElem?_eq_getElem hk'] at e
 obtain ⟨v,hv,e2⟩:=Option.map_eq_some_iff.mp e
 exact ⟨k,v,hk',hv,e2.symm⟩
def l_s (S:Hl):Option (Int × Nat):=match b_Y S with
 | []=>none
 | x :: xs=>(match d_y xs x with
  | [v,k,_]=>some (v,k.toNat)
  | _=>none)
theorem n_i (h:l_s S=none):b_Y S=[]:=by
 unfold l_s at h
 cases hu:b_Y S with
 | nil=>rfl
 | cons x xs=>
  rw [hu] at h
  have hm:d_y xs x ∈ b_Y S:=by
   rw [hu]
   rcases g_X xs x with e | e
   ·rw [e]; exact List.mem_cons_self
   ·exact List.mem_cons_of_mem _ e
  obtain ⟨k,v,hk,_,e⟩:=n_7 hm
  simp only [e] at h
  cases h
theorem i_S {v:Int} {k:Nat} (h:l_s S=some (v,k)):∃ hk:k < S.ds.length,f_9 S.a S.ss (S.ds[k]).plan (d_c S k)=some v/\∃ x xs,b_Y S=x :: xs/\d_y xs x=[v,(k:Int),(d_c S k:Int)]:=by
 unfold l_s at h
 cases hu:b_Y S with
 | nil=>rw [hu] at h; cases h
 | cons x xs=>
  rw [hu] at h
  have hm:d_y xs x ∈ b_Y S:=by
   rw [hu]
   rcases g_X xs x with e | e
   ·rw [e]; exact List.mem_cons_self
   ·exact List.mem_cons_of_mem _ e
  obtain ⟨k',v',hk,ht,e⟩:=n_7 hm
  simp only [e,Option.some.injEq,Prod.mk.injEq,Int.toNat_natCast] at h
  obtain ⟨rfl,rfl⟩:=h
  exact ⟨hk,ht,x,xs,rfl,e⟩
def j_a (S:Hl) (r m:Int):Hl × PyData:=match l_s S with
 | none=>(S,.tuple [.str "idle",.none])
 | some (v,k)=>if m < v then (S,.tuple [.str "idle",.int v]) else
  (match S.ds[k]? with
  | some d=>(g_L S ⟨m,r,if n_l S.a S.ss d (d_c S k) m=true then .left else .begun,k,d_c S k⟩,.tuple [.str (wdS (if n_l S.a S.ss d (d_c S k) m=true then .left else .begun)),d_X k,d_X (d_c S k)])
  | none=>(S,.none))
theorem k_w (ok:HOk S) (hr:S.rows.length < 1000000) (hw:S.words.length < 1000000):b_f C [.own true (hB C S),.dat (.int r),.dat (.int m)]=.rt (.dat (j_a S r m).2) [hB C (j_a S r m).1]:=by
 have sz:1000000 < sizeLine:=by decide
 have fu:=g_P (C:=C) ok
 unfold j_a
 cases hn:l_s S with
 | none=>
  rw [n_i hn] at fu
  simp [b_f,b_u,b_z,fu,t_j,show (2:Nat)<=sizeLine by omega]
 | some p=>
  obtain ⟨v,k⟩:=p
  obtain ⟨hk,ht,x,xs,hu,e⟩:=i_S hn
  rw [hu,t_j,e] at fu
  simp only [irow,List.map_cons,List.map_nil] at fu
  by_cases hv:m < v
  ·simp [b_f,b_u,b_z,fu,hv,show (2:Nat)<=sizeLine by omega]
  ·have lo:=n_h (a:=S.a) (ss:=S.ss) (d:=S.ds[k]) (c:=d_c S k) (now:=m) ok.z.len (ok.pl _ (List.getElem_mem hk)) ⟨v,ht⟩
   simp only [List.getElem?_eq_getElem hk]
   rw [if_neg hv]
   cases hl:n_l S.a S.ss S.ds[k] (d_c S k) m with
   | true=>
    rw [hl] at lo
    have ar:=e_h (C:=C) (S:=S) (r:=⟨m,r,.left,k,d_c S k⟩) hr hw ok.nd (by rw [ok.sl]; exact hk)
    have ar':a_I C [.own true (hB C S),.dat (.tuple [.int m,.int r,.str "left",.int k,.int (d_c S k)])]=.rt (.dat (.tuple [.str "left",.int k,.int (d_c S k)])) [hB C (g_L S ⟨m,r,.left,k,d_c S k⟩)]:=ar
    simp [b_f,b_u,b_z,a_J,b_m,fu,g_o,h_z hk,lo,hv,ar',show (5:Nat)<=sizeLine by omega]
   | false=>
    rw [hl] at lo
    have ar:=e_h (C:=C) (S:=S) (r:=⟨m,r,.begun,k,d_c S k⟩) hr hw ok.nd (by rw [ok.sl]; exact hk)
    have ar':a_I C [.own true (hB C S),.dat (.tuple [.int m,.int r,.str "begun",.int k,.int (d_c S k)])]=.rt (.dat (.tuple [.str "begun",.int k,.int (d_c S k)])) [hB C (g_L S ⟨m,r,.begun,k,d_c S k⟩)]:=ar
    simp [b_f,b_u,b_z,a_J,b_m,fu,g_o,h_z hk,lo,hv,ar',show (5:Nat)<=sizeLine by omega]
def g_E (S:Hl) (r m:Int) (d c:Nat):Hl × PyData:=match S.ds[d]? with
 | some x=>(g_L S ⟨m,r,if x.again=true then .begun else .unsure,d,c⟩,.tuple [.str (wdS (if x.again=true then .begun else .unsure)),d_X d,d_X c])
 | none=>(S,.none)
theorem j_X {d c:Nat} {h:Int} (ok:HOk S) (hr:S.rows.length < 1000000) (hw:S.words.length < 1000000) (hb:S.begun=some (d,c,h)):a_O C [.own true (hB C S),.dat (.int r),.dat (.int m)]=.rt (.dat (g_E S r m d c).2) [hB C (g_E S r m d c).1]:=by
 have sz:1000000 < sizeLine:=by decide
 have hd:=ok.bg d c h hb
 unfold g_E
 simp only [List.getElem?_eq_getElem hd]
 cases ha:(S.ds[d]).again with
 | true=>
  have ar:=e_h (C:=C) (S:=S) (r:=⟨m,r,.begun,d,c⟩) hr hw ok.nd (by rw [ok.sl]; exact hd)
  have ar':a_I C [.own true (hB C S),.dat (.tuple [.int m,.int r,.str "begun",.int d,.int c])]=.rt (.dat (.tuple [.str "begun",.int d,.int c])) [hB C (g_L S ⟨m,r,.begun,d,c⟩)]:=ar
  simp [a_O,a_5,a_J,b_m,hb,l_X,g_o,h_z hd,ha,ar',show (5:Nat)<=sizeLine by omega]
 | false=>
  have ar:=e_h (C:=C) (S:=S) (r:=⟨m,r,.unsure,d,c⟩) hr hw ok.nd (by rw [ok.sl]; exact hd)
  have ar':a_I C [.own true (hB C S),.dat (.tuple [.int m,.int r,.str "unsure",.int d,.int c])]=.rt (.dat (.tuple [.str "unsure",.int d,.int c])) [hB C (g_L S ⟨m,r,.unsure,d,c⟩)]:=ar
  simp [a_O,a_5,a_J,b_m,hb,l_X,g_o,h_z hd,ha,ar',show (5:Nat)<=sizeLine by omega]
theorem HOk.last (ok:HOk S) (x:Option Int):HOk { S with last:=x }:=⟨ok.z,ok.dl,ok.pl,ok.sl,ok.nd,ok.bg⟩
def b_8 (S:Hl) (r m:Int):Hl × PyData:=match S.begun with
 | some (d,c,h)=>if h=S.holds then ({ S with last:=some m },.tuple [.str "busy",d_X d,d_X c]) else g_E { S with last:=some m } r m d c
 | none=>j_a { S with last:=some m } r m
theorem r_r (ok:HOk S) (hr:S.rows.length < 1000000) (hw:S.words.length < 1000000) (hh:a_j C [.own true (hB C S),.dat (.int r),.dat (.int m)]=.rt (.dat .none) [hB C S]):a_V C [.own true (hB C S),.dat (.int r),.dat (.int m)]=.rt (.dat (b_8 S r m).2) [hB C (b_8 S r m).1]:=by
 have sz:1000000 < sizeLine:=by decide
 have bz:=i_n (C:=C) (S:={ S with last:=some m })
 unfold l_l at bz
 unfold b_8
 cases hb:S.begun with
 | none=>
  have ra:=k_w (C:=C) (S:={ S with last:=some m }) (r:=r) (m:=m) (ok.last _) hr hw
  simp only [hb] at bz ra ⊢
  simp [a_V,f_q,a_J,b_z,b_m,hh,b_F,k_K,b_G,bz,hb,l_X,ra]
 | some p=>
  obtain ⟨d,c,h⟩:=p
  have rb:=j_X (C:=C) (S:={ S with last:=some m }) (r:=r) (m:=m) (ok.last _) hr hw hb
  simp only [hb] at bz rb ⊢
  by_cases e:h=S.holds
  ·rw [if_pos e]
   rw [decide_eq_true e] at bz
   simp [a_V,f_q,a_J,b_z,b_m,hh,b_F,k_K,b_G,bz,hb,l_X,show (3:Nat)<=sizeLine by omega]
  ·rw [if_neg e]
   rw [decide_eq_false e] at bz
   simp [a_V,f_q,a_J,b_z,b_m,hh,b_F,k_K,b_G,bz,hb,l_X,rb]
theorem o_u (hh:a_j C [.own true (hB C S),.dat (.int r),.dat (.int m)]=.rt (.dat .none) [hB C S]) (hb:l_l S=false):a_P C [.own true (hB C S),.dat (.int r),.dat (.int m)]=.ex "Nothing" [hB C S]:=by
 have bz:=i_n (C:=C) (S:=S)
 rw [hb] at bz
 simp [a_P,e_b,a_J,b_z,b_m,hh,bz]
theorem m_n {d c:Nat} (ok:HOk S) (hr:S.rows.length < 1000000) (hw:S.words.length < 1000000) (hh:a_j C [.own true (hB C S),.dat (.int r),.dat (.int m)]=.rt (.dat .none) [hB C S]) (hb:S.begun=some (d,c,S.holds)):a_P C [.own true (hB C S),.dat (.int r),.dat (.int m)]=.rt (.dat (.tuple [.str "done",d_X d,d_X c])) [hB C (g_L { S with last:=some m } ⟨m,r,.done,d,c⟩)]:=by
 have sz:1000000 < sizeLine:=by decide
 have bz:=i_n (C:=C) (S:=S)
 unfold l_l at bz
 rw [hb] at bz
 simp only [decide_true] at bz
 have hd:=ok.bg d c _ hb
 have ar:=e_h (C:=C) (S:={ S with last:=some m }) (r:=⟨m,r,.done,d,c⟩) hr hw ok.nd (by show d < S.settled.length; rw [ok.sl]; exact hd)
 have ar':a_I C [.own true (hB C { S with last:=some m }),.dat (.tuple [.int m,.int r,.str "done",.int d,.int c])]=.rt (.dat (.tuple [.str "done",.int d,.int c])) [hB C (g_L { S with last:=some m } ⟨m,r,.done,d,c⟩)]:=ar
 simp only [hb] at ar'
 simp [a_P,e_b,a_J,b_z,b_m,hh,bz,b_F,k_K,b_G,hb,l_X,ar',show (5:Nat)<=sizeLine by omega]
end
@[simp] theorem x_U:b_0 "tuple" "str" = some false:=by decide
@[simp] theorem x_T:b_0 "tuple" "bool" = some false:=by decide
@[simp] theorem x_S:b_0 "tuple" "list" = some false:=by decide
@[simp] theorem x_s:b_0 "list" "str" = some false:=by decide
@[simp] theorem x_v:b_0 "list" "bool" = some false:=by decide
@[simp] theorem x_R:b_0 "list" "list" = some true:=by decide
@[simp] theorem y_k:b_0 "NoneType" "str" = some false:=by decide
@[simp] theorem x_1:b_0 "NoneType" "bool" = some false:=by decide
@[simp] theorem x_x:b_0 "NoneType" "list" = some false:=by decide
@[simp] theorem x_L:b_0 "int" "str" = some false:=by decide
@[simp] theorem x_Y:b_0 "int" "list" = some false:=by decide
@[simp] theorem x_r:b_0 "bool" "str" = some false:=by decide
@[simp] theorem x_J:b_0 "bool" "list" = some false:=by decide
@[simp] theorem x_G:b_0 "str" "bool" = some false:=by decide
@[simp] theorem x_C:b_0 "str" "list" = some false:=by decide
theorem e_9:PyData.strOk "take" = true:=by decide +kernel
theorem d_4:PyData.strOk "give" = true:=by decide +kernel
theorem d_5:PyData.strOk "step" = true:=by decide +kernel
theorem e_f:PyData.strOk "finish" = true:=by decide +kernel
theorem l_C:(("take":Str) == ("take":Str))=true:=by decide +kernel
theorem i_g:(("give":Str) == ("take":Str))=false:=by decide +kernel
theorem i_C:(("give":Str) == ("give":Str))=true:=by decide +kernel
theorem i_s:(("step":Str) == ("take":Str))=false:=by decide +kernel
theorem h_Y:(("step":Str) == ("give":Str))=false:=by decide +kernel
theorem h_6:(("step":Str) == ("step":Str))=true:=by decide +kernel
theorem g_f:(("finish":Str) == ("take":Str))=false:=by decide +kernel
theorem g_k:(("finish":Str) == ("give":Str))=false:=by decide +kernel
theorem g_u:(("finish":Str) == ("step":Str))=false:=by decide +kernel
section
variable {C:Addr} {S S':Hl} {d q r m t:PyData} {c:Str}
theorem r_w (h:d_T C [.own true (hB C S),.dat r,.dat m,.dat t]=.rt (.dat d) [hB C S']):a_R C [.own true (hB C S),.dat (.tuple [.str "take",r,m,t])]=.rt (.dat d) [hB C S']:=by
 simp [a_R,c_q,i_P,a_C e_9 e_9,l_C,a_J,b_m,h,at3']
theorem r_x (h:d_K C [.own true (hB C S),.dat r,.dat m]=.rt (.dat d) [hB C S']):a_R C [.own true (hB C S),.dat (.tuple [.str "give",r,m])]=.rt (.dat d) [hB C S']:=by
 simp [a_R,c_q,i_P,a_C d_4 e_9,i_g,a_C d_4 d_4,i_C,a_J,b_m,h]
theorem n_r (h:d_K C [.own true (hB C S),.dat r,.dat m]=.ex c [hB C S]) (hc:c ∈ exL) (hw:b_L [.exc c]=.rt (.dat q) []):a_R C [.own true (hB C S),.dat (.tuple [.str "give",r,m])]=.rt (.dat q) [hB C S]:=by
 simp [a_R,c_q,i_P,a_C d_4 e_9,i_g,a_C d_4 d_4,i_C,a_J,b_m,h,hc,hw]
theorem s_c (h:a_V C [.own true (hB C S),.dat r,.dat m]=.rt (.dat d) [hB C S']):a_R C [.own true (hB C S),.dat (.tuple [.str "step",r,m])]=.rt (.dat d) [hB C S']:=by
 simp [a_R,c_q,i_P,a_C d_5 e_9,i_s,a_C d_5 d_4,h_Y,a_C d_5 d_5,h_6,a_J,b_m,h]
theorem m_Q (h:a_V C [.own true (hB C S),.dat r,.dat m]=.ex c [hB C S]) (hc:c ∈ exL) (hw:b_L [.exc c]=.rt (.dat q) []):a_R C [.own true (hB C S),.dat (.tuple [.str "step",r,m])]=.rt (.dat q) [hB C S]:=by
 simp [a_R,c_q,i_P,a_C d_5 e_9,i_s,a_C d_5 d_4,h_Y,a_C d_5 d_5,h_6,a_J,b_m,h,hc,hw]
theorem o_m (h:a_P C [.own true (hB C S),.dat r,.dat m]=.rt (.dat d) [hB C S']):a_R C [.own true (hB C S),.dat (.tuple [.str "finish",r,m])]=.rt (.dat d) [hB C S']:=by
 simp [a_R,c_q,i_P,a_C e_f e_9,g_f,a_C e_f d_4,g_k,a_C e_f d_5,g_u,a_J,b_m,h]
theorem h_m (h:a_P C [.own true (hB C S),.dat r,.dat m]=.ex c [hB C S]) (hc:c ∈ exL) (hw:b_L [.exc c]=.rt (.dat q) []):a_R C [.own true (hB C S),.dat (.tuple [.str "finish",r,m])]=.rt (.dat q) [hB C S]:=by
 simp [a_R,c_q,i_P,a_C e_f e_9,g_f,a_C e_f d_4,g_k,a_C e_f d_5,g_u,a_J,b_m,h,hc,hw]
end
theorem i_5 {x y:Str} (hx:PyData.strOk x=true) (hy:PyData.strOk y=true):gEq true (.str x) (.str y)=some (.bool (x != y)):=by simp [gEq,e_r hx,e_r hy,o_M,bne]
def f_B:Late->Prop
 | .within n=>0<=n/\n<=999
 | _=>True
theorem n_H {x:Late} (ok:f_B x):e_g [.dat (n_J x)]=.rt (.dat (.bool true)) []:=by
 cases x with
 | all=>simp [e_g,f_c,a_C f_i f_i,u_z]
 | last=>simp [e_g,f_c,a_C c_X f_i,a_C c_X c_X,w_h,x_a]
 | within n=>
  have qw:(("within":Str) == ("within":Str))=true:=by decide +kernel
  simp [e_g,f_c,c_T h_1 h_1,qw,b_T (d:=.int n) rfl,isW,ok.1,ok.2]
theorem o_q {d:Deed} (hp:e_1 d.plan) (hl:f_B d.late):g_t [.dat (c_9 d)]=.rt (.dat (.bool true)) []:=by
 have h1:=o_V hp
 have h2:=n_H hl
 simp [g_t,i_y,c_s,isT,h1,h2]
theorem m_D:∀ (ds:List Deed) (ys:List PyData) (U:a_r),(∃ x,U=[x])->(∀ d ∈ ds,e_1 d.plan/\f_B d.late)->ys.length + ds.length<=sizeLine->b_c (gNm 0) h_s d_l (ds.map c_9) ys U=some (ys ++ (ds.map fun _=>PyData.bool true))
 | [],ys,U,_,_,_=>by simp [b_c]
 | d :: ds,ys,U,⟨x,hx⟩,h,hl=>by
  subst hx
  simp only [List.length_cons] at hl
  have hd:=h d List.mem_cons_self
  have ih:=m_D ds (ys ++ [.bool true]) [some (.dat (c_9 d))] ⟨_,rfl⟩ (fun x hx=>h x (List.mem_cons_of_mem _ hx)) (by simp; omega)
  have he:d_l [some (.dat (c_9 d))]=.ok (.bool true) [some (.dat (c_9 d))]:=by simp [d_l,o_q hd.1 hd.2]
  rw [List.map_cons,b_c]
  simp [h_s,he,show ys.length < sizeLine by omega,ih]
theorem i_0:∀ n:Nat,bools? (List.replicate n (PyData.bool true))=some (List.replicate n true)
 | 0=>rfl
 | n + 1=>by rw [List.replicate_succ,bools?,i_0 n]; rfl
theorem g_C {ds:List Deed} (hl:ds.length<=6) (h:∀ d ∈ ds,e_1 d.plan/\f_B d.late):c_o [.dat (d_a ds)]=.rt (.dat .none) []:=by
 have sz:1000 < sizeLine:=by decide
 have g:=m_D ds [] [none] ⟨_,rfl⟩ h (by simp; omega)
 rw [List.nil_append,List.map_const'] at g
 have ha:t_e [.list (List.replicate ds.length (PyData.bool true))]=some (.bool true):=by
  simp [t_e,i_0]
 unfold d_a
 simp [-t_e,c_o,e_z,f_L,f_Z,g,ha,show ¬ (6:Int) < ds.length by omega,show ds.length<=sizeLine by omega]
theorem m_1 {ns:List Int} {t made:List PyData} {x3 x4 x5:Option Cell} (hn:ns.length<=63) (ht:t.length<=700) (hm:made.length < 100) :
  ∃ d t' y4 y5,e_1 d.plan/\f_B d.late/\t'.length<=t.length + 9/\b_3 [some (.scr ns),some (.own true (.l t)),some (.own false (.l made)),x3,x4,x5]=.nx [some (.scr ns),some (.own true (.l t')),some (.own false (.l (made ++ [c_9 d]))),x3,y4,y5]:=by
 have sz:1000 < sizeLine:=by decide
 obtain ⟨w,hw,h1⟩:=g_6 (ns:=ns) (t:=t) (ds:=[.int 30,.int 30,.int 1000]) hn (by omega) (by simp) (by simp)
 have:∃ i:Int,w=.int i/\0 < i/\i<=1000:=by
  simp only [List.mem_cons,List.not_mem_nil,or_false] at hw
  rcases hw with rfl | rfl | rfl <;> exact ⟨_,rfl,by omega,by omega⟩
 obtain ⟨i,rfl,i1,i2⟩:=this
 obtain ⟨ho,o1,o2,h2⟩:=b_K (ns:=ns) (t:=t ++ [.int 0]) (many:=i) hn (by simp; omega) i1
 obtain ⟨la,hla,h3⟩:=g_6 (ns:=ns) (t:=t ++ [.int 0] ++ [.int 0]) (ds:=[.str "all",.str "last",.tuple [.str "within",.int ho]]) hn (by simp; omega) (by simp) (by simp)
 have:∃ x:Late,la=n_J x/\f_B x:=by
  simp only [List.mem_cons,List.not_mem_nil,or_false] at hla
  rcases hla with rfl | rfl | rfl
  ·exact ⟨.all,rfl,trivial⟩
  ·exact ⟨.last,rfl,trivial⟩
  ·exact ⟨.within ho,rfl,o1,by omega⟩
 obtain ⟨x,rfl,hx⟩:=this
 obtain ⟨p,t4,hp,l4,h4⟩:=t_2 (ns:=ns) (t:=t ++ [.int 0] ++ [.int 0] ++ [.int 0]) hn (by simp; omega)
 simp only [List.length_append,List.length_cons,List.length_nil] at l4
 obtain ⟨k,k1,k2,h5⟩:=b_K (ns:=ns) (t:=t4) (many:=2) hn (by omega) (by omega)
 simp only [List.append_assoc,List.cons_append,List.nil_append] at h2 h3 h4
 refine ⟨⟨p,x,decide (k=0)⟩,t4 ++ [.int 0],some (.dat (.int ho)),some (.dat (n_J x)),hp,hx,by simp; omega,?_⟩
 generalize hP:l_L p=P at *
 generalize hL:n_J x=L at *
 have e:c_9 ⟨p,x,decide (k=0)⟩=.tuple [P,L,.bool (decide (k=0))]:=by unfold c_9; rw [hP,hL]
 rw [e]
 simp [b_3,h1,h2,h3,h4,h5,f_D,show (2:Nat)<=sizeLine by omega,show (3:Nat)<=sizeLine by omega,show made.length < sizeLine by omega]
theorem i_9 {ns:List Int} (hn:ns.length<=63):∀ (n:Nat) (i:Int) {t made:List PyData} {x3 x4 x5:Option Cell},t.length + 9 * n<=700->made.length + n < 100->∃ (ds:List Deed) (t':List PyData) (y3 y4 y5:Option Cell),(∀ d ∈ ds,e_1 d.plan/\f_B d.late)/\ds.length=n/\t'.length<=t.length + 9 * n/\
   c_m (gNm 3) b_3 (L3.intsFrom i n) [some (.scr ns),some (.own true (.l t)),some (.own false (.l made)),x3,x4,x5]=.nx [some (.scr ns),some (.own true (.l t')),some (.own false (.l (made ++ ds.map c_9))),y3,y4,y5]
 | 0,i,t,made,x3,x4,x5,_,_=>⟨[],t,x3,x4,x5,by simp,rfl,by omega,by simp [L3.intsFrom,c_m]⟩
 | n + 1,i,t,made,x3,x4,x5,ht,hm=>by
  obtain ⟨d,t1,y4,y5,hp,hl,l1,e⟩:=m_1 (ns:=ns) (t:=t) (made:=made) (x3:=some (.dat (.int i))) (x4:=x4) (x5:=x5) hn (by omega) (by omega)
  obtain ⟨ds,t2,z3,z4,z5,h2,n2,l2,e2⟩:=i_9 hn n (i + 1) (t:=t1) (made:=made ++ [c_9 d]) (x3:=some (.dat (.int i))) (x4:=y4) (x5:=y5) (by omega) (by simp; omega)
  refine ⟨d :: ds,t2,z3,z4,z5,fun x hx=>?_,by simp [n2],by omega,?_⟩
  ·rcases List.mem_cons.mp hx with rfl | hx
   ·exact ⟨hp,hl⟩
   ·exact h2 x hx
  ·rw [List.map_cons,show made ++ c_9 d :: ds.map c_9=made ++ [c_9 d] ++ ds.map c_9 by simp,<-e2,d_g,c_m]
   simp [e]
theorem r_6 {ns:List Int} {t:List PyData} (hn:ns.length<=63) (ht:t.length<=600):∃ (ds:List Deed) (t':List PyData),(∀ d ∈ ds,e_1 d.plan/\f_B d.late)/\ds.length<=6/\t'.length<=t.length + 60/\d_L [.scr ns,.own true (.l t)]=.rt (.dat (.tuple (ds.map c_9))) [.l t']:=by
 have sz:1000 < sizeLine:=by decide
 obtain ⟨w,hw,h1⟩:=g_6 (ns:=ns) (t:=t) (ds:=[.int 5,.int 5,.int 7]) hn (by omega) (by simp) (by simp)
 have:∃ i:Int,w=.int i/\0 < i/\i<=7:=by
  simp only [List.mem_cons,List.not_mem_nil,or_false] at hw
  rcases hw with rfl | rfl | rfl <;> exact ⟨_,rfl,by omega,by omega⟩
 obtain ⟨i,rfl,i1,i2⟩:=this
 obtain ⟨k,k1,k2,h2⟩:=b_K (ns:=ns) (t:=t ++ [.int 0]) (many:=i) hn (by simp; omega) i1
 simp only [List.append_assoc,List.cons_append,List.nil_append] at h2
 obtain ⟨ds,t2,y3,y4,y5,hd,nd,l2,e⟩:=i_9 (ns:=ns) hn k.toNat 0 (t:=t ++ [.int 0,.int 0]) (made:=[]) (x3:=none) (x4:=none) (x5:=none) (by simp; omega) (by simp; omega)
 simp only [List.length_append,List.length_cons,List.length_nil] at l2
 refine ⟨ds,t2,hd,by omega,by omega,?_⟩
 rw [List.nil_append] at e
 simp [d_L,f_a,h1,h2,e,show -4611686018427387904<=k by omega,show k < 4611686018427387904 by omega,show (3:Nat)<=sizeLine by omega]
def s_i (S:Hl):PyData:=.tuple [d_I S.a S.ss,d_a S.ds,d_9 S.last,d_9 S.holder,.int S.til,.int S.holds,l_X S.begun,.tuple (S.rows.map e_k)]
theorem r_Z {C:Addr} {S:Hl}:f_g C [.own true (hB C S)]=.rt (.dat (s_i S)) [hB C S]:=by
 unfold s_i
 simp [f_g,i_a,j_q,show (8:Nat)<=sizeLine from by decide]
inductive Cl where
 | take (r m t:Int) | give (r m:Int) | step (r m:Int) | finish (r m:Int)
def clD:Cl->PyData
 | .take r m t=>.tuple [.str "take",.int r,.int m,.int t]
 | .give r m=>.tuple [.str "give",.int r,.int m]
 | .step r m=>.tuple [.str "step",.int r,.int m]
 | .finish r m=>.tuple [.str "finish",.int r,.int m]
def Cl.ru:Cl->Int
 | .take r _ _=>r
 | .give r _=>r
 | .step r _=>r
 | .finish r _=>r
def Cl.mo:Cl->Int
 | .take _ m _=>m
 | .give _ m=>m
 | .step _ m=>m
 | .finish _ m=>m
structure ClOk (c:Cl) (now:Int):Prop where
 r:0<=c.ru/\c.ru<=3
 m:now<=c.mo/\c.mo<=now + 29
 t:∀ r m t,c=.take r m t->1<=t/\t<=99
theorem w_o (c:Cl):a_T (clD c) (.int 2)=some (.int c.mo):=by cases c <;> rfl
noncomputable abbrev q_K:SM:=(d_p (o_s (b_A (xOp e_Q (xV 3) (xC .none))) (b_A (xOp gGt (a_7 (a_q a_l (a_t 0 (a_t 1 (a_s (xC (.int 4)) a_M))))) (xC (.int 0))))) (c_L (xV 3) (gNm 4)) sNx)
theorem z_c {a b c d e f g h:PyData}:atI [a,b,c,d,e,f,g,h] 3=some d:=rfl
theorem y_P {a b c d e f g h:PyData}:atI [a,b,c,d,e,f,g,h] 4=some e:=rfl
theorem y_v {a b c d e f g h:PyData}:atI [a,b,c,d,e,f,g,h] 5=some f:=rfl
theorem y_x {a b c d e f g h:PyData}:atI [a,b,c,d,e,f,g,h] 6=some g:=rfl
theorem u_m {ns:List Int} {t:List PyData} {now:Int} {holder:Option Int} (hn:ns.length<=63) (ht:t.length<=800) (hh:∀ h,holder=some h->0<=h/\h<=3) :
  ∃ c t',d_E [.scr ns,.own true (.l t),.dat (.int now),.dat (d_9 holder)]=.rt (.dat (clD c)) [.l t']/\ClOk c now/\t'.length<=t.length + 7:=by
 have sz:1000 < sizeLine:=by decide
 obtain ⟨r1,a1,a2,h1⟩:=b_K (ns:=ns) (t:=t) (many:=4) hn (by omega) (by omega)
 have first:∃ r t2,0<=r/\r<=3/\t2.length<=t.length + 2/\q_K [some (.scr ns),some (.own true (.l (t ++ [.int 0]))),some (.dat (.int now)),some (.dat (d_9 holder)),some (.dat (.int r1)),none,none]=.nx [some (.scr ns),some (.own true (.l t2)),some (.dat (.int now)),some (.dat (d_9 holder)),some (.dat (.int r)),none,none]:=by
  cases holder with
  | none=>exact ⟨r1,t ++ [.int 0],a1,by omega,by simp,by simp [d_9]⟩
  | some h=>
   obtain ⟨k,b1,b2,h2⟩:=b_K (ns:=ns) (t:=t ++ [.int 0]) (many:=4) hn (by simp; omega) (by omega)
   simp only [List.append_assoc,List.cons_append,List.nil_append] at h2
   by_cases hk:0 < k
   ·exact ⟨h,t ++ [.int 0,.int 0],(hh h rfl).1,(hh h rfl).2,by simp,by simp [d_9,h2,hk]⟩
   ·exact ⟨r1,t ++ [.int 0,.int 0],a1,by omega,by simp,by simp [d_9,h2,hk]⟩
 obtain ⟨r,t2,r0,r3,l2,hf⟩:=first
 obtain ⟨x,x1,x2,h3⟩:=b_K (ns:=ns) (t:=t2) (many:=30) hn (by omega) (by omega)
 obtain ⟨v,hv,h4⟩:=g_6 (ns:=ns) (t:=t2 ++ [.int 0]) (ds:=[.int 0,.int 0,.int 0,.int 1,.int 2,.int x]) hn (by simp; omega) (by simp) (by simp)
 have:∃ i:Int,v=.int i/\0<=i/\i<=29:=by
  simp only [List.mem_cons,List.not_mem_nil,or_false] at hv
  rcases hv with rfl | rfl | rfl | rfl | rfl | rfl <;> exact ⟨_,rfl,by omega,by omega⟩
 obtain ⟨i,rfl,i0,i1⟩:=this
 obtain ⟨k,k0,k1,h5⟩:=b_K (ns:=ns) (t:=t2 ++ [.int 0] ++ [.int 0]) (many:=10) hn (by simp; omega) (by omega)
 simp only [List.append_assoc,List.cons_append,List.nil_append] at h4 h5
 have pre:∀ {k':SM},(a_h (c_L (a_7 (a_q a_l (a_t 0 (a_t 1 (a_s (xC (.int 4)) a_M))))) (gNm 4)) (a_h q_K (a_h (c_L (xOp h_G (xV 2) (a_7 (a_q a_X (a_t 0 (a_t 1 (a_s (l_d (a_f (xC (.int 0)) (a_f (xC (.int 0)) (a_f (xC (.int 0)) (a_f (xC (.int 1)) (a_f (xC (.int 2)) (a_f (a_7 (a_q a_l (a_t 0 (a_t 1 (a_s (xC (.int 30)) a_M))))) b_i))))))) a_M)))))) (gNm 5)) (a_h (c_L (a_7 (a_q a_l (a_t 0 (a_t 1 (a_s (xC (.int 10)) a_M))))) (gNm 6)) k'))))
   [some (.scr ns),some (.own true (.l t)),some (.dat (.int now)),some (.dat (d_9 holder)),none,none,none]=k' [some (.scr ns),some (.own true (.l (t2 ++ [.int 0,.int 0,.int 0]))),some (.dat (.int now)),some (.dat (d_9 holder)),some (.dat (.int r)),some (.dat (.int (now + i))),some (.dat (.int k))]:=by
  intro k'
  refine (f_S (by simp [h1] <;> rfl)).trans ?_
  refine (f_S hf).trans ?_
  refine (f_S (by simp [h3,h4,show (6:Nat)<=sizeLine by omega] <;> rfl)).trans ?_
  exact f_S (by simp [h5])
 by_cases hk:holder=none\/k < 2
 ·obtain ⟨w,hw,h6⟩:=g_6 (ns:=ns) (t:=t2 ++ [.int 0,.int 0,.int 0]) (ds:=[.int 4,.int 99]) hn (by simp; omega) (by simp) (by simp)
  have:∃ j:Int,w=.int j/\0 < j/\j<=99:=by
   simp only [List.mem_cons,List.not_mem_nil,or_false] at hw
   rcases hw with rfl | rfl <;> exact ⟨_,rfl,by omega,by omega⟩
  obtain ⟨j,rfl,j0,j1⟩:=this
  obtain ⟨y,y0,y1,h7⟩:=b_K (ns:=ns) (t:=t2 ++ [.int 0,.int 0,.int 0] ++ [.int 0]) (many:=j) hn (by simp; omega) j0
  simp only [List.append_assoc,List.cons_append,List.nil_append] at h6 h7
  refine ⟨.take r (now + i) (1 + y),t2 ++ [.int 0,.int 0,.int 0,.int 0,.int 0],?_,⟨⟨r0,r3⟩,⟨by show now<=now + i; omega,by show now + i<=_; omega⟩,fun _ _ _ e=>by cases e; omega⟩,by simp; omega⟩
  refine i_Q (U:=[some (.scr ns),some (.own true (.l (t2 ++ [.int 0,.int 0,.int 0,.int 0,.int 0]))),some (.dat (.int now)),some (.dat (d_9 holder)),some (.dat (.int r)),some (.dat (.int (now + i))),some (.dat (.int k))]) rfl (pre.trans ?_) rfl
  rcases hk with rfl | hk
  ·simp [d_9,h6,h7,clD,show (2:Nat)<=sizeLine by omega,show (4:Nat)<=sizeLine by omega]
  ·cases holder <;> simp [d_9,h6,h7,hk,clD,show (2:Nat)<=sizeLine by omega,show (4:Nat)<=sizeLine by omega]
 ·obtain ⟨h,rfl⟩:∃ h,holder=some h:=by cases holder with
   | none=>exact absurd (.inl rfl) hk
   | some h=>exact ⟨h,rfl⟩
  have k2:¬ k < 2:=fun z=>hk (.inr z)
  have ok:∀ c:Cl,c.ru=r->c.mo=now + i->(∀ r m t,c ≠ .take r m t)->ClOk c now:=fun c e1 e2 e3=>⟨by rw [e1]; exact ⟨r0,r3⟩,by rw [e2]; omega,fun a b d e=>absurd e (e3 a b d)⟩
  by_cases e2:k=2
  ·subst e2
   refine ⟨.give r (now + i),t2 ++ [.int 0,.int 0,.int 0],?_,ok _ rfl rfl (by simp),by simp; omega⟩
   refine i_Q (U:=[some (.scr ns),some (.own true (.l (t2 ++ [.int 0,.int 0,.int 0]))),some (.dat (.int now)),some (.dat (d_9 (some h))),some (.dat (.int r)),some (.dat (.int (now + i))),some (.dat (.int 2))]) rfl (pre.trans ?_) rfl
   simp [d_9,f_D,clD,show (3:Nat)<=sizeLine by omega]
  ·have hc:k=3\/k=4\/k=5\/k=6\/k=7\/k=8\/k=9:=by omega
   have mk:∀ c:Cl,c.ru=r->c.mo=now + i->(∀ r m t,c ≠ .take r m t)->d_E [.scr ns,.own true (.l t),.dat (.int now),.dat (d_9 (some h))]=.rt (.dat (clD c)) [.l (t2 ++ [.int 0,.int 0,.int 0])]->∃ c t',d_E [.scr ns,.own true (.l t),.dat (.int now),.dat (d_9 (some h))]=.rt (.dat (clD c)) [.l t']/\ClOk c now/\t'.length<=t.length + 7:=fun c e1 e3 e4 e5=>⟨c,_,e5,ok c e1 e3 e4,by simp; omega⟩
   have s3:(3:Nat)<=sizeLine:=by omega
   have s8:(8:Nat)<=sizeLine:=by omega
   rcases hc with rfl | rfl | rfl | rfl | rfl | rfl | rfl
   ·exact mk (.step r (now + i)) rfl rfl (by simp) (i_Q (U:=[some (.scr ns),some (.own true (.l (t2 ++ [.int 0,.int 0,.int 0]))),some (.dat (.int now)),some (.dat (d_9 (some h))),some (.dat (.int r)),some (.dat (.int (now + i))),some (.dat (.int 3))]) rfl (pre.trans (by kernel_rfl)) rfl)
   ·exact mk (.finish r (now + i)) rfl rfl (by simp) (i_Q (U:=[some (.scr ns),some (.own true (.l (t2 ++ [.int 0,.int 0,.int 0]))),some (.dat (.int now)),some (.dat (d_9 (some h))),some (.dat (.int r)),some (.dat (.int (now + i))),some (.dat (.int 4))]) rfl (pre.trans (by kernel_rfl)) rfl)
   ·exact mk (.step r (now + i)) rfl rfl (by simp) (i_Q (U:=[some (.scr ns),some (.own true (.l (t2 ++ [.int 0,.int 0,.int 0]))),some (.dat (.int now)),some (.dat (d_9 (some h))),some (.dat (.int r)),some (.dat (.int (now + i))),some (.dat (.int 5))]) rfl (pre.trans (by kernel_rfl)) rfl)
   ·exact mk (.finish r (now + i)) rfl rfl (by simp) (i_Q (U:=[some (.scr ns),some (.own true (.l (t2 ++ [.int 0,.int 0,.int 0]))),some (.dat (.int now)),some (.dat (d_9 (some h))),some (.dat (.int r)),some (.dat (.int (now + i))),some (.dat (.int 6))]) rfl (pre.trans (by kernel_rfl)) rfl)
   ·exact mk (.step r (now + i)) rfl rfl (by simp) (i_Q (U:=[some (.scr ns),some (.own true (.l (t2 ++ [.int 0,.int 0,.int 0]))),some (.dat (.int now)),some (.dat (d_9 (some h))),some (.dat (.int r)),some (.dat (.int (now + i))),some (.dat (.int 7))]) rfl (pre.trans (by kernel_rfl)) rfl)
   ·exact mk (.finish r (now + i)) rfl rfl (by simp) (i_Q (U:=[some (.scr ns),some (.own true (.l (t2 ++ [.int 0,.int 0,.int 0]))),some (.dat (.int now)),some (.dat (d_9 (some h))),some (.dat (.int r)),some (.dat (.int (now + i))),some (.dat (.int 8))]) rfl (pre.trans (by kernel_rfl)) rfl)
   ·exact mk (.step r (now + i)) rfl rfl (by simp) (i_Q (U:=[some (.scr ns),some (.own true (.l (t2 ++ [.int 0,.int 0,.int 0]))),some (.dat (.int now)),some (.dat (d_9 (some h))),some (.dat (.int r)),some (.dat (.int (now + i))),some (.dat (.int 9))]) rfl (pre.trans (by kernel_rfl)) rfl)
def replay (S:Hl):Hl:=S.rows.foldl g_L (i_D S.a S.ss S.ds)
structure Run (S:Hl) (m:Int) (n:Nat):Prop where
 ok:HOk S
 lt:∀ d ∈ S.ds,f_B d.late
 rl:S.rows.length<=n
 wl:S.words.length<=n
 ho:∀ h,S.holder=some h->0<=h/\h<=3
 la:∀ l,S.last=some l->l<=m
 ti:S.til<=m + 99
 dr:∀ x ∈ S.rows,x.dd < S.ds.length
 w1:(replay S).words=S.words
 w2:(replay S).settled=S.settled
theorem HOk.add {S:Hl} (ok:HOk S) {r:Row} (h:r.dd < S.ds.length):HOk (g_L S r):=by
 refine ⟨ok.z,ok.dl,ok.pl,?_,n_g ok.nd,?_⟩
 ·show (if r.wd=.begun then S.settled else S.settled.set r.dd (r.ct + 1)).length=S.ds.length
  split
  ·exact ok.sl
  ·rw [List.length_set]; exact ok.sl
 ·intro d c k e
  have e':(if r.wd=.begun then some (r.dd,r.ct,S.holds) else none)=some (d,c,k):=e
  split at e'
  ·cases e'; exact h
  ·cases e'
theorem Run.add {S:Hl} {m:Int} {n:Nat} (p:Run S m n) {r:Row} (h:r.dd < S.ds.length):Run (g_L S r) m (n + 1):=by
 have hr:replay (g_L S r)=g_L (replay S) r:=by
  show (S.rows ++ [r]).foldl g_L (i_D S.a S.ss S.ds)=_
  rw [List.foldl_append]; rfl
 refine ⟨p.ok.add h,p.lt,?_,?_,p.ho,p.la,p.ti,?_,?_,?_⟩
 ·have:=p.rl
  show (S.rows ++ [r]).length<=n + 1
  simp; omega
 ·have:=p.wl
  have:=m_q (r.dd,r.ct) r.wd S.words
  show (k_l S.words (r.dd,r.ct) r.wd).length<=n + 1
  omega
 ·intro x hx
  rcases List.mem_append.mp hx with hx | hx
  ·exact p.dr x hx
  ·rw [List.mem_singleton.mp hx]; exact h
 ·rw [hr]; show k_l (replay S).words _ _=k_l S.words _ _; rw [p.w1]
 ·rw [hr]; show (if r.wd=.begun then (replay S).settled else (replay S).settled.set r.dd (r.ct + 1))=(if r.wd=.begun then S.settled else S.settled.set r.dd (r.ct + 1)); rw [p.w2]
theorem Run.mono {S:Hl} {m m':Int} {n n':Nat} (p:Run S m n) (h:m<=m') (hn:n<=n'):Run S m' n':=
 ⟨p.ok,p.lt,Nat.le_trans p.rl hn,Nat.le_trans p.wl hn,p.ho,fun l e=>Int.le_trans (p.la l e) h,by have:=p.ti; omega,p.dr,p.w1,p.w2⟩
theorem Run.last {S:Hl} {m m':Int} {n:Nat} (p:Run S m n) (h:m<=m'):Run { S with last:=some m' } m' n:=
 ⟨p.ok.last _,p.lt,p.rl,p.wl,p.ho,fun l e=>by cases e; omega,by have:=p.ti; show S.til<=_; omega,p.dr,p.w1,p.w2⟩
theorem Run.hold {S:Hl} {m m' k u:Int} {n:Nat} {w:Option Int} (p:Run S m n) (h:m<=m') (hw:∀ h,w=some h->0<=h/\h<=3) (hu:u<=m' + 99):Run { S with last:=some m',holder:=w,til:=u,holds:=k } m' n:=
 ⟨⟨p.ok.z,p.ok.dl,p.ok.pl,p.ok.sl,p.ok.nd,p.ok.bg⟩,p.lt,p.rl,p.wl,hw,fun l e=>by cases e; omega,hu,p.dr,p.w1,p.w2⟩
theorem r_X {a:Int} {ss:Sh} {ds:List Deed} (z:ZOk a ss) (hl:ds.length<=6) (hd:∀ d ∈ ds,POk d.plan/\f_B d.late):Run (i_D a ss ds) 0 0:=
 ⟨⟨z,hl,fun d h=>(hd d h).1,by simp [i_D],by simp [i_D],fun d c h e=>(by cases e)⟩,fun d h=>(hd d h).2,by simp [i_D],by simp [i_D],fun h e=>(by cases e),fun l e=>(by cases e),by simp [i_D],by simp [i_D],rfl,rfl⟩
theorem m_c {S:Hl} {r m m':Int} {n:Nat} (p:Run S m n) (h:m<=m'):Run (b_8 S r m').1 m' (n + 1)/\(b_8 S r m').1.holder=S.holder/\(b_8 S r m').1.til=S.til/\
  ((∃ d c,(b_8 S r m').1.begun=some (d,c,(b_8 S r m').1.holds)/\((b_8 S r m').2=.tuple [.str "busy",d_X d,d_X c]\/(b_8 S r m').2=.tuple [.str "begun",d_X d,d_X c]))\/
   (∃ d c:Nat,(b_8 S r m').2=.tuple [.str "left",d_X d,d_X c]\/(b_8 S r m').2=.tuple [.str "unsure",d_X d,d_X c])\/(b_8 S r m').2=.tuple [.str "idle",.none]\/∃ v:Int,(b_8 S r m').2=.tuple [.str "idle",.int v]):=by
 have q:=p.last h
 obtain ⟨S1,hS⟩:∃ S1:Hl,S1 = { S with last:=some m' }:=⟨_,rfl⟩
 rw [<-hS] at q
 have e1:S1.begun=S.begun:=by rw [hS]
 have e2:S1.holds=S.holds:=by rw [hS]
 have e3:S1.ds=S.ds:=by rw [hS]
 have e4:S1.holder=S.holder:=by rw [hS]
 have e5:S1.til=S.til:=by rw [hS]
 have e:b_8 S r m' = match S.begun with
   | some (d,c,k)=>if k=S.holds then (S1,.tuple [.str "busy",d_X d,d_X c]) else g_E S1 r m' d c
   | none=>j_a S1 r m':=by rw [hS]; rfl
 rw [e,<-e1,<-e2,<-e4,<-e5]
 cases hb:S1.begun with
 | some x=>
  obtain ⟨d,c,k⟩:=x
  simp only
  by_cases hk:k=S1.holds
  ·rw [if_pos hk]
   exact ⟨q.mono (Int.le_refl _) (by omega),rfl,rfl,.inl ⟨d,c,by show S1.begun=_; rw [hb,hk],.inl rfl⟩⟩
  ·rw [if_neg hk]
   have hd:=q.ok.bg d c k hb
   unfold g_E
   rw [List.getElem?_eq_getElem hd]
   simp only
   refine ⟨q.add hd,rfl,rfl,?_⟩
   by_cases ha:S1.ds[d].again=true
   ·simp only [if_pos ha]
    exact .inl ⟨d,c,rfl,.inr rfl⟩
   ·simp only [if_neg ha]
    exact .inr (.inl ⟨d,c,.inr rfl⟩)
 | none=>
  simp only
  unfold j_a
  cases hx:l_s S1 with
  | none=>exact ⟨q.mono (Int.le_refl _) (by omega),rfl,rfl,.inr (.inr (.inl rfl))⟩
  | some x=>
   obtain ⟨v,k⟩:=x
   simp only
   by_cases hv:m' < v
   ·rw [if_pos hv]
    exact ⟨q.mono (Int.le_refl _) (by omega),rfl,rfl,.inr (.inr (.inr ⟨v,rfl⟩))⟩
   ·rw [if_neg hv]
    obtain ⟨hk,_⟩:=i_S hx
    rw [List.getElem?_eq_getElem hk]
    simp only
    refine ⟨q.add hk,rfl,rfl,?_⟩
    generalize d_c S1 k=ct
    by_cases ha:n_l S1.a S1.ss S1.ds[k] ct m' = true
    ·simp only [if_pos ha]
     exact .inr (.inl ⟨k,ct,.inl rfl⟩)
    ·simp only [if_neg ha]
     exact .inl ⟨k,ct,rfl,.inr rfl⟩
section
variable {C:Addr} {S:Hl} {m:Int} {n:Nat}
theorem Run.call {r m':Int} (p:Run S m n) (hr:0<=r/\r<=3) (h:m<=m') (hm:0<=m'/\m'<=9999):a_L C [.own true (hB C S),.dat (.int r),.dat (.int m')]=.rt (.dat .none) [hB C S]:=
 s_L rfl (by simp [isW]; omega) (by simp [isW]; omega) (by
  cases hl:S.last with
  | none=>unfold p_L; rw [hl]
  | some l=>
   have:=p.la l hl
   unfold p_L
   rw [hl]
   exact decide_eq_false (by omega))
theorem Run.mine {r m':Int} (p:Run S m n) (hr:0<=r/\r<=3) (h:m<=m') (hm:0<=m'/\m'<=9999) (e:S.holder=some r) (ht:m' < S.til):a_j C [.own true (hB C S),.dat (.int r),.dat (.int m')]=.rt (.dat .none) [hB C S]:=
 k_H (p.call hr h hm) (by unfold d_V; rw [e,decide_eq_true ht]; rfl) e
theorem y_J {c:Cl} (p:Run S m n) (hn:n < 900) (hc:ClOk c m) (hm:0<=m/\m<=9000):∃ d S',a_R C [.own true (hB C S),.dat (clD c)]=.rt (.dat d) [hB C S']/\Run S' c.mo (n + 1):=by
 have l1:=p.rl
 have l2:=p.wl
 have h9:0<=c.mo/\c.mo<=9999:=by have:=hc.m; omega
 have ck:=p.call (C:=C) hc.r hc.m.1 h9
 have hd:∀ r m',c.ru=r->c.mo=m'->(a_j C [.own true (hB C S),.dat (.int r),.dat (.int m')]=.rt (.dat .none) [hB C S])\/(a_j C [.own true (hB C S),.dat (.int r),.dat (.int m')]=.ex "NotHolder" [hB C S]):=fun r m' e1 e2=>by
  rw [e1,e2] at ck
  cases hb:(d_V S m' && decide (S.holder=some r)) with
  | true=>
   rw [Bool.and_eq_true] at hb
   exact .inl (k_H ck hb.1 (of_decide_eq_true hb.2))
  | false=>exact .inr (o_g ck hb)
 have same:Run S c.mo (n + 1):=p.mono hc.m.1 (by omega)
 cases c with
 | take r m' t=>
  have ht:=hc.t r m' t rfl
  refine ⟨_,_,r_w (r_o ck (by simp [isW]; omega)),?_⟩
  unfold n_j
  split
  ·exact (p.hold hc.m.1 (fun h e=>by cases e; exact hc.r) (by show m' + t<=m' + 99; omega)).mono (Int.le_refl _) (by omega)
  ·split
   ·exact (p.hold (k:=S.holds) hc.m.1 (fun h e=>by cases e; exact hc.r) (by show m' + t<=m' + 99; omega)).mono (Int.le_refl _) (by omega)
   ·exact (p.last hc.m.1).mono (Int.le_refl _) (by omega)
 | give r m'=>
  rcases hd r m' rfl rfl with h | h
  ·exact ⟨_,_,r_x (u_V h),(p.hold (k:=S.holds) (u:=S.til) hc.m.1 (fun h e=>by cases e) (by have:=p.ti; have:=hc.m.1; show S.til<=m' + 99; simp only [Cl.mo] at this; omega)).mono (Int.le_refl _) (by omega)⟩
  ·exact ⟨_,_,n_r (s_0 h) f_h j_t,same⟩
 | step r m'=>
  rcases hd r m' rfl rfl with h | h
  ·exact ⟨_,_,s_c (r_r p.ok (by omega) (by omega) h),(m_c p hc.m.1).1⟩
  ·exact ⟨_,_,m_Q (r_8 h) f_h j_t,same⟩
 | finish r m'=>
  rcases hd r m' rfl rfl with h | h
  ·cases hb:l_l S with
   | false=>exact ⟨_,_,h_m (o_u h hb) m_H o_U,same⟩
   | true=>
    obtain ⟨d,c,e⟩:∃ d c,S.begun=some (d,c,S.holds):=by
     unfold l_l at hb
     cases hx:S.begun with
     | none=>rw [hx] at hb; cases hb
     | some x=>
      obtain ⟨d,c,k⟩:=x
      rw [hx] at hb
      exact ⟨d,c,by rw [of_decide_eq_true hb]⟩
    exact ⟨_,_,o_m (m_n p.ok (by omega) (by omega) h e),(p.last hc.m.1).add (p.ok.bg d c _ e)⟩
  ·exact ⟨_,_,h_m (o_K h) f_h j_t,same⟩
end
theorem k_S:∀ (l:List Row) (S:Hl),(l.foldl g_L S).a=S.a/\(l.foldl g_L S).ss=S.ss/\(l.foldl g_L S).ds=S.ds/\(l.foldl g_L S).rows=S.rows ++ l
 | [],S=>⟨rfl,rfl,rfl,by simp⟩
 | r :: l,S=>by
  obtain ⟨h1,h2,h3,h4⟩:=k_S l (g_L S r)
  rw [List.foldl_cons]
  exact ⟨h1,h2,h3,by rw [h4]; show S.rows ++ [r] ++ l=_; simp⟩
theorem m_m {C:Addr}:∀ (l:List Row) {S:Hl} {z x:Option Cell},HOk S->S.rows.length + l.length<=1000->S.words.length + l.length<=1000->(∀ r ∈ l,r.dd < S.ds.length)->∃ y,c_m (gNm 2) (g_l C) (l.map e_k) [z,some (.own false (hB C S)),x]=.nx [z,some (.own false (hB C (l.foldl g_L S))),y]
 | [],S,z,x,_,_,_,_=>⟨x,by simp [c_m]⟩
 | r :: l,S,z,x,ok,h1,h2,hd=>by
  simp only [List.length_cons] at h1 h2
  have hr:=hd r (List.mem_cons_self ..)
  have a:=e_h (C:=C) (S:=S) (r:=r) (by omega) (by omega) ok.nd (by rw [ok.sl]; exact hr)
  have l1:=m_q (r.dd,r.ct) r.wd S.words
  obtain ⟨y,e⟩:=m_m l (S:=g_L S r) (z:=z) (x:=some (.dat (e_k r))) (ok.add hr) (by show (S.rows ++ [r]).length + _<=_; simp; omega) (by show (k_l S.words (r.dd,r.ct) r.wd).length + _<=_; omega) (fun q hq=>hd q (List.mem_cons_of_mem _ hq))
  refine ⟨y,?_⟩
  rw [List.foldl_cons,<-e,List.map_cons,c_m]
  generalize e_k r=R at a
  simp [g_l,a_J,b_m,d_H,a]
theorem r_L {C:Addr} {S:Hl} {m:Int} {n:Nat} (p:Run S m n) (hn:n < 900):i_l C [.dat (s_i S)]=.rt (.own false (hB C S)) []:=by
 have ini:=q_T (C:=C) (h_j p.ok.z) (g_C p.ok.dl fun d hd=>⟨(p.ok.pl d hd).plan,p.lt d hd⟩) p.ok.dl
 have l1:=p.rl
 obtain ⟨y,go⟩:=m_m (C:=C) S.rows (S:=i_D S.a S.ss S.ds) (z:=some (.dat (s_i S))) (x:=none) ⟨p.ok.z,p.ok.dl,p.ok.pl,by simp [i_D],by simp [i_D],fun d c h e=>by cases e⟩ (by simp [i_D]; omega) (by simp [i_D]; omega) p.dr
 obtain ⟨f1,f2,f3,f4⟩:=k_S S.rows (i_D S.a S.ss S.ds)
 have fin:({ replay S with last:=S.last,holder:=S.holder,til:=S.til,holds:=S.holds,begun:=S.begun }:Hl)=S:=by
  show Hl.mk (replay S).a (replay S).ss (replay S).ds S.last S.holder S.til S.holds S.begun (replay S).rows (replay S).words (replay S).settled=S
  rw [p.w1,p.w2,show (replay S).a=S.a from f1,show (replay S).ss=S.ss from f2,show (replay S).ds=S.ds from f3,show (replay S).rows=S.rows from by rw [show (replay S).rows=_ from f4]; rfl]
 rw [show S.rows.foldl g_L (i_D S.a S.ss S.ds)=replay S from rfl] at go
 generalize replay S=R at go fin
 generalize i_D S.a S.ss S.ds=N at ini go
 conv=>rhs; rw [<-fin]
 generalize hsv:s_i S=sv at go ⊢
 unfold s_i at hsv
 generalize hrs:S.rows.map e_k=rs at go hsv
 have i0:a_T sv (.int 0)=some (d_I S.a S.ss):=by rw [<-hsv]; rfl
 have i1:a_T sv (.int 1)=some (d_a S.ds):=by rw [<-hsv]; rfl
 have i2:a_T sv (.int 2)=some (d_9 S.last):=by rw [<-hsv]; rfl
 have i3:a_T sv (.int 3)=some (d_9 S.holder):=by rw [<-hsv]; rfl
 have i4:a_T sv (.int 4)=some (.int S.til):=by rw [<-hsv]; rfl
 have i5:a_T sv (.int 5)=some (.int S.holds):=by rw [<-hsv]; rfl
 have i6:a_T sv (.int 6)=some (l_X S.begun):=by rw [<-hsv]; rfl
 have i7:a_T sv (.int 7)=some (.tuple rs):=by rw [<-hsv]; rfl
 simp [-a_T,i_l,l_M,o_J,n_d,i0,i1,i2,i3,i4,i5,i6,i7,ini,go,d_H,b_F,k_K,b_G,j_V,g_S,i_B]
def s_Z (S:Hl) (m:Int):Hl × PyData:=match S.begun with
 | some (d,c,_)=>(g_L { S with last:=some m } ⟨m,3,.done,d,c⟩,.tuple [.str "done",d_X d,d_X c])
 | none=>(S,.none)
def i_K:PyData->Nat
 | .tuple (.str w :: _)=>if (w == ("idle":Str))=true then 0 else if (w == ("begun":Str))=true then 1 else if (w == ("busy":Str))=true then 1 else 2
 | _=>2
def a_1 (m:Int):Nat->Hl->List PyData × Hl
 | 0,S=>([],S)
 | n + 1,S=>if i_K (b_8 S 3 m).2=0 then ([(b_8 S 3 m).2],(b_8 S 3 m).1) else if i_K (b_8 S 3 m).2=1 then ((b_8 S 3 m).2 :: (s_Z (b_8 S 3 m).1 m).2 :: (a_1 m n (s_Z (b_8 S 3 m).1 m).1).1,(a_1 m n (s_Z (b_8 S 3 m).1 m).1).2) else ((b_8 S 3 m).2 :: (a_1 m n (b_8 S 3 m).1).1,(a_1 m n (b_8 S 3 m).1).2)
structure Mine (S:Hl) (m:Int) (n:Nat):Prop where
 run:Run S m n
 ho:S.holder=some 3
 ti:m < S.til
theorem w_x:(("idle":Str) == ("idle":Str))=true:=by decide +kernel
theorem x_k:(("begun":Str) == ("idle":Str))=false:=by decide +kernel
theorem w_i:(("busy":Str) == ("idle":Str))=false:=by decide +kernel
theorem w_K:(("left":Str) == ("idle":Str))=false:=by decide +kernel
theorem w_N:(("unsure":Str) == ("idle":Str))=false:=by decide +kernel
theorem x_N:(("busy":Str) == ("begun":Str))=false:=by decide +kernel
theorem x_F:(("busy":Str) == ("busy":Str))=true:=by decide +kernel
theorem x_K:(("left":Str) == ("busy":Str))=false:=by decide +kernel
theorem x_8:(("unsure":Str) == ("busy":Str))=false:=by decide +kernel
theorem one {C:Addr} {S:Hl} {m:Int} {n:Nat} (p:Mine S m n) (hn:n < 900) (hm:0<=m/\m<=9999):∃ S1 d,b_8 S 3 m=(S1,d)/\a_V C [.own true (hB C S),.dat (.int 3),.dat (.int m)]=.rt (.dat d) [hB C S1]/\Mine S1 m (n + 1)/\
    ((∃ x,d=.tuple [.str "idle",x]/\(x=.none\/∃ v,x=.int v))\/
     (∃ w a b S2,(w=("begun":Str)\/w=("busy":Str))/\d=.tuple [.str w,.int a,.int b]/\s_Z S1 m=(S2,.tuple [.str "done",.int a,.int b])/\a_P C [.own true (hB C S1),.dat (.int 3),.dat (.int m)]=.rt (.dat (.tuple [.str "done",.int a,.int b])) [hB C S2]/\Mine S2 m (n + 2))\/
     (∃ w a b,(w=("left":Str)\/w=("unsure":Str))/\d=.tuple [.str w,.int a,.int b])):=by
  have l1:=p.run.rl
  have l2:=p.run.wl
  have st:=r_r (C:=C) p.run.ok (by omega) (by omega) (p.run.mine (C:=C) (r:=3) ⟨by omega,by omega⟩ (Int.le_refl m) hm p.ho p.ti)
  obtain ⟨run,ho,ti,cs⟩:=m_c (r:=3) p.run (Int.le_refl m)
  generalize b_8 S 3 m=x at st run ho ti cs
  obtain ⟨S1,d⟩:=x
  simp only at st run ho ti cs
  have p1:Mine S1 m (n + 1):=⟨run,ho.trans p.ho,by rw [ti]; exact p.ti⟩
  refine ⟨S1,d,rfl,st,p1,?_⟩
  rcases cs with ⟨a,b,hb,hd⟩ | ⟨a,b,hd⟩ | hd | ⟨v,hd⟩
  · have r1:=run.rl
    have r2:=run.wl
    have fi:=m_n (C:=C) run.ok (by omega) (by omega) (run.mine (C:=C) (r:=3) ⟨by omega,by omega⟩ (Int.le_refl m) hm p1.ho p1.ti) hb
    have fe:s_Z S1 m=(g_L { S1 with last:=some m } ⟨m,3,.done,a,b⟩,.tuple [.str "done",.int a,.int b]):=by unfold s_Z; rw [hb]
    have p2:Mine (g_L { S1 with last:=some m } ⟨m,3,.done,a,b⟩) m (n + 2):=⟨(run.last (Int.le_refl m)).add (run.ok.bg a b _ hb),p1.ho,p1.ti⟩
    rcases hd with rfl | rfl
    · exact .inr (.inl ⟨_,a,b,_,.inr rfl,rfl,fe,fi,p2⟩)
    · exact .inr (.inl ⟨_,a,b,_,.inl rfl,rfl,fe,fi,p2⟩)
  · rcases hd with rfl | rfl
    · exact .inr (.inr ⟨_,a,b,.inl rfl,rfl⟩)
    · exact .inr (.inr ⟨_,a,b,.inr rfl,rfl⟩)
  · exact .inl ⟨_,hd,.inl rfl⟩
  · exact .inl ⟨_,hd,.inr ⟨v,rfl⟩⟩
theorem b_B:PyData.strOk "idle" = true:=by decide +kernel
section
variable {C:Addr} {S S1 S2:Hl} {m:Int} {n:Nat} {rows:List PyData} {w:Str} {a b:Int} {x:PyData} {q x5 x6:Option Cell}
abbrev eC (C:Addr) (S:Hl) (m:Int) (q:Option Cell) (rows:List PyData) (x5 x6:Option Cell):a_r:=[some (.own true (hB C S)),some (.dat (.int 3)),some (.dat (.int m)),q,some (.own false (.l rows)),x5,x6]
theorem s_N (hl:rows.length < 900) (hs:a_V C [.own true (hB C S),.dat (.int 3),.dat (.int m)]=.rt (.dat (.tuple [.str "idle",x])) [hB C S1]):a_S C (eC C S m q rows x5 x6)=.bk (eC C S1 m q (rows ++ [.tuple [.str "idle",x]]) x5 (some (.dat (.tuple [.str "idle",x])))):=by
 have sz:1000 < sizeLine:=by decide
 simp [a_S,a_J,b_m,hs,a_C b_B b_B,w_x,show rows.length < sizeLine by omega]
theorem x_i (hl:rows.length < 900) (hw:w=("begun":Str)\/w=("busy":Str)) (hs:a_V C [.own true (hB C S),.dat (.int 3),.dat (.int m)]=.rt (.dat (.tuple [.str w,.int a,.int b])) [hB C S1]) (hf:a_P C [.own true (hB C S1),.dat (.int 3),.dat (.int m)]=.rt (.dat x) [hB C S2]):a_S C (eC C S m q rows x5 x6)=.nx (eC C S2 m q (rows ++ [.tuple [.str w,.int a,.int b],x]) x5 (some (.dat (.tuple [.str w,.int a,.int b])))):=by
 have sz:1000 < sizeLine:=by decide
 rcases hw with rfl | rfl
 ·simp [a_S,a_J,b_m,hs,hf,a_C b_C b_B,a_C b_C b_C,x_k,w_t,show rows.length < sizeLine by omega,show rows.length + 1 < sizeLine by omega]
 ·simp [a_S,a_J,b_m,hs,hf,a_C e_B b_B,a_C e_B b_C,a_C e_B e_B,w_i,x_N,x_F,show rows.length < sizeLine by omega,show rows.length + 1 < sizeLine by omega]
theorem u_n (hl:rows.length < 900) (hw:w=("left":Str)\/w=("unsure":Str)) (hs:a_V C [.own true (hB C S),.dat (.int 3),.dat (.int m)]=.rt (.dat (.tuple [.str w,.int a,.int b])) [hB C S1]):a_S C (eC C S m q rows x5 x6)=.nx (eC C S1 m q (rows ++ [.tuple [.str w,.int a,.int b]]) x5 (some (.dat (.tuple [.str w,.int a,.int b])))):=by
 have sz:1000 < sizeLine:=by decide
 rcases hw with rfl | rfl
 ·simp [a_S,a_J,b_m,hs,a_C f_F b_B,a_C f_F b_C,a_C f_F e_B,w_K,w_2,x_K,show rows.length < sizeLine by omega]
 ·simp [a_S,a_J,b_m,hs,a_C d_G b_B,a_C d_G b_C,a_C d_G e_B,w_N,w_H,x_8,show rows.length < sizeLine by omega]
theorem r_3 (hw:w=("begun":Str)\/w=("busy":Str)):i_K (.tuple [.str w,.int a,.int b])=1:=by
 rcases hw with rfl | rfl
 ·simp [i_K,x_k,w_t]
 ·simp [i_K,w_i,x_N,x_F]
theorem p_V (hw:w=("left":Str)\/w=("unsure":Str)):i_K (.tuple [.str w,.int a,.int b])=2:=by
 rcases hw with rfl | rfl
 ·simp [i_K,w_K,w_2,x_K]
 ·simp [i_K,w_N,w_H,x_8]
theorem n_6:i_K (.tuple [.str "idle",x])=0:=by simp [i_K,w_x]
theorem f_m {k:Nat} (e:b_8 S 3 m=(S1,.tuple [.str "idle",x])):a_1 m (k + 1) S=([.tuple [.str "idle",x]],S1):=by
 rw [a_1,e]; simp only [n_6,if_true]
theorem h_F {k:Nat} (hw:w=("begun":Str)\/w=("busy":Str)) (e:b_8 S 3 m=(S1,.tuple [.str w,.int a,.int b])) (f:s_Z S1 m=(S2,x)):a_1 m (k + 1) S=(.tuple [.str w,.int a,.int b] :: x :: (a_1 m k S2).1,(a_1 m k S2).2):=by
 rw [a_1,e]; simp only [r_3 hw,f]; rfl
theorem g_g {k:Nat} (hw:w=("left":Str)\/w=("unsure":Str)) (e:b_8 S 3 m=(S1,.tuple [.str w,.int a,.int b])):a_1 m (k + 1) S=(.tuple [.str w,.int a,.int b] :: (a_1 m k S1).1,(a_1 m k S1).2):=by
 rw [a_1,e]; simp only [p_V hw]; rfl
end
theorem g_M {C:Addr} {m:Int} (hm:0<=m/\m<=9999) {q:Option Cell}:∀ (k:Nat) (i:Int) {S:Hl} {n:Nat} {rows:List PyData} {x5 x6:Option Cell},Mine S m n->n + 2 * k < 890->rows.length + 2 * k < 890->∃ y5 y6,c_m (gNm 5) (a_S C) (L3.intsFrom i k) (eC C S m q rows x5 x6)=.nx (eC C (a_1 m k S).2 m q (rows ++ (a_1 m k S).1) y5 y6)
 | 0,i,S,n,rows,x5,x6,_,_,_=>⟨x5,x6,by simp [L3.intsFrom,c_m,a_1]⟩
 | k + 1,i,S,n,rows,x5,x6,p,h1,h2=>by
  obtain ⟨S1,d,e,st,p1,cs⟩:=one (C:=C) p (by omega) hm
  rw [d_g,c_m]
  rcases cs with ⟨x,rfl,_⟩ | ⟨w,a,b,S2,hw,rfl,fe,fi,p2⟩ | ⟨w,a,b,hw,rfl⟩
  ·refine ⟨some (.dat (.int i)),some (.dat (.tuple [.str "idle",x])),?_⟩
   rw [f_m e]
   have:=s_N (q:=q) (rows:=rows) (x5:=some (.dat (.int i))) (x6:=x6) (by omega) st
   simp [this]
  ·have:=x_i (q:=q) (rows:=rows) (x5:=some (.dat (.int i))) (x6:=x6) (by omega) hw st fi
   obtain ⟨y5,y6,r⟩:=g_M hm k (i + 1) (S:=S2) (rows:=rows ++ [.tuple [.str w,.int a,.int b],.tuple [.str "done",.int a,.int b]]) (x5:=some (.dat (.int i))) (x6:=some (.dat (.tuple [.str w,.int a,.int b]))) p2 (by omega) (by simp; omega)
   refine ⟨y5,y6,?_⟩
   rw [h_F hw e fe]
   rw [List.append_assoc] at r
   exact Eq.trans (by simp [this]) r
  ·have:=u_n (q:=q) (rows:=rows) (x5:=some (.dat (.int i))) (x6:=x6) (by omega) hw st
   obtain ⟨y5,y6,r⟩:=g_M hm k (i + 1) (S:=S1) (rows:=rows ++ [.tuple [.str w,.int a,.int b]]) (x5:=some (.dat (.int i))) (x6:=some (.dat (.tuple [.str w,.int a,.int b]))) p1 (by omega) (by simp; omega)
   refine ⟨y5,y6,?_⟩
   rw [g_g hw e]
   rw [List.append_assoc] at r
   exact Eq.trans (by simp [this]) r
theorem n_S {C:Addr} {S:Hl} {m k:Int} {n:Nat} (p:Mine S m n) (hn:n < 300) (hm:0<=m/\m<=9999) (hk:0<=k/\k<=100):c_G C [.own true (hB C S),.dat (.int 3),.dat (.int m),.dat (.int k)]=.rt (.own false (.l (a_1 m k.toNat S).1)) [hB C (a_1 m k.toNat S).2]:=by
 have wh:=b_T (d:=.int k) (lo:=0) (hi:=999) rfl
 have hw:isW (.int k) 0 999=true:=by simp [isW]; omega
 rw [hw] at wh
 obtain ⟨y5,y6,r⟩:=g_M (C:=C) hm (q:=some (.dat (.int k))) k.toNat 0 (rows:=[]) (x5:=none) (x6:=none) p (by omega) (by simp; omega)
 rw [List.nil_append] at r
 generalize (a_1 m k.toNat S).1=R at r
 generalize (a_1 m k.toNat S).2=S' at r
 simp [c_G,g_T,wh,r,show -4611686018427387904<=k by omega,show k < 4611686018427387904 by omega]
section
variable {C:Addr} {S S1 S2 S0 S3:Hl} {m now most st:Int} {n:Nat} {ns:List Int} {t rows:List PyData} {z ds:PyData} {w:Str} {a b:Int} {x:PyData} {x6 x7 x14 x15 x16:Option Cell}
abbrev e15 (C:Addr) (ns:List Int) (t:List PyData) (z ds:PyData) (S0:Hl) (now:Int) (x6 x7:Option Cell) (S S3:Hl) (most:Int) (rows:List PyData) (st:Int) (g:Bool) (x14 x15 x16:Option Cell):a_r:=[some (.scr ns),some (.own false (.l t)),some (.dat z),some (.dat ds),some (.own false (hB C S0)),some (.dat (.int now)),x6,x7,some (.own false (hB C S)),some (.own false (hB C S3)),some (.dat (.int most)),some (.own false (.l rows)),some (.dat (.int st)),some (.dat (.bool g)),x14,x15,x16]
theorem v_8 (hw:w=("begun":Str)\/w=("busy":Str)):q_B (.str w) (.tuple [.str "begun",.str "busy"])=some (.bool true):=by
 have h1:inV (V.str "begun") [V.str "begun",V.str "busy"]=true:=by decide +kernel
 have h2:inV (V.str "busy") [V.str "begun",V.str "busy"]=true:=by decide +kernel
 rcases hw with rfl | rfl
 ·show some (PyData.bool (inV (V.str "begun") [V.str "begun",V.str "busy"]))=_; rw [h1]
 ·show some (PyData.bool (inV (V.str "busy") [V.str "begun",V.str "busy"]))=_; rw [h2]
theorem q_9 (hw:w=("left":Str)\/w=("unsure":Str)\/w=("idle":Str)):q_B (.str w) (.tuple [.str "begun",.str "busy"])=some (.bool false):=by
 have h1:inV (V.str "left") [V.str "begun",V.str "busy"]=false:=by decide +kernel
 have h2:inV (V.str "unsure") [V.str "begun",V.str "busy"]=false:=by decide +kernel
 have h3:inV (V.str "idle") [V.str "begun",V.str "busy"]=false:=by decide +kernel
 rcases hw with rfl | rfl | rfl
 ·show some (PyData.bool (inV (V.str "left") [V.str "begun",V.str "busy"]))=_; rw [h1]
 ·show some (PyData.bool (inV (V.str "unsure") [V.str "begun",V.str "busy"]))=_; rw [h2]
 ·show some (PyData.bool (inV (V.str "idle") [V.str "begun",V.str "busy"]))=_; rw [h3]
theorem s_y (hl:rows.length < 900) (hs:a_V C [.own true (hB C S),.dat (.int 3),.dat (.int now)]=.rt (.dat (.tuple [.str "idle",x])) [hB C S1]):c_0 C (e15 C ns t z ds S0 now x6 x7 S S3 most rows st true x14 x15 x16)=.nx (e15 C ns t z ds S0 now x6 x7 S1 S3 most (rows ++ [.tuple [.str "idle",x]]) (st + 1) false (some (.dat (.tuple [.str "idle",x]))) x15 x16):=by
 have sz:1000 < sizeLine:=by decide
 have hi:=q_9 (w:="idle") (.inr (.inr rfl))
 simp [-q_B,c_0,a_J,b_m,d_H,hs,i_5 b_B b_B,w_x,hi,bne,show rows.length < sizeLine by omega,show (2:Nat)<=sizeLine by omega]
theorem x_f (hl:rows.length < 900) (hw:w=("begun":Str)\/w=("busy":Str)) (hs:a_V C [.own true (hB C S),.dat (.int 3),.dat (.int now)]=.rt (.dat (.tuple [.str w,.int a,.int b])) [hB C S1]) (hf:a_P C [.own true (hB C S1),.dat (.int 3),.dat (.int now)]=.rt (.dat x) [hB C S2]):c_0 C (e15 C ns t z ds S0 now x6 x7 S S3 most rows st true x14 x15 x16)=.nx (e15 C ns t z ds S0 now x6 x7 S2 S3 most (rows ++ [.tuple [.str w,.int a,.int b],x]) (st + 1) true (some (.dat (.tuple [.str w,.int a,.int b]))) x15 x16):=by
 have sz:1000 < sizeLine:=by decide
 have hi:=v_8 hw
 have hne:gEq true (.str w) (.str "idle")=some (.bool true):=by
  rcases hw with rfl | rfl
  ·rw [i_5 b_C b_B,bne,x_k]; rfl
  ·rw [i_5 e_B b_B,bne,w_i]; rfl
 simp [-q_B,c_0,a_J,b_m,d_H,hs,hf,hne,hi,show rows.length < sizeLine by omega,show rows.length + 1 < sizeLine by omega,show (2:Nat)<=sizeLine by omega]
theorem t_Y (hl:rows.length < 900) (hw:w=("left":Str)\/w=("unsure":Str)) (hs:a_V C [.own true (hB C S),.dat (.int 3),.dat (.int now)]=.rt (.dat (.tuple [.str w,.int a,.int b])) [hB C S1]):c_0 C (e15 C ns t z ds S0 now x6 x7 S S3 most rows st true x14 x15 x16)=.nx (e15 C ns t z ds S0 now x6 x7 S1 S3 most (rows ++ [.tuple [.str w,.int a,.int b]]) (st + 1) true (some (.dat (.tuple [.str w,.int a,.int b]))) x15 x16):=by
 have sz:1000 < sizeLine:=by decide
 have hi:=q_9 (w:=w) (by rcases hw with h | h; exact .inl h; exact .inr (.inl h))
 have hne:gEq true (.str w) (.str "idle")=some (.bool true):=by
  rcases hw with rfl | rfl
  ·rw [i_5 f_F b_B,bne,w_K]; rfl
  ·rw [i_5 d_G b_B,bne,w_N]; rfl
 simp [-q_B,c_0,a_J,b_m,d_H,hs,hne,hi,show rows.length < sizeLine by omega,show (2:Nat)<=sizeLine by omega]
theorem tw (st most:Int) (g:Bool):h_I C (e15 C ns t z ds S0 now x6 x7 S S3 most rows st g x14 x15 x16)=.ok (g && decide (st < most)) (e15 C ns t z ds S0 now x6 x7 S S3 most rows st g x14 x15 x16):=by
 cases g <;> simp [h_I]
end
theorem g_O {C:Addr} {S0 S3:Hl} {now most:Int} {ns:List Int} {t:List PyData} {z ds:PyData} {x6 x7 x15 x16:Option Cell} (hm:0<=now/\now<=9999):∀ (k fuel:Nat) {S:Hl} {n:Nat} {rows:List PyData} {st:Int} {x14:Option Cell},Mine S now n->n + 2 * k < 890->rows.length + 2 * k < 890->k < fuel->st + k=most->
  ∃ st' g y14,d_z (h_I C) (c_0 C) fuel (e15 C ns t z ds S0 now x6 x7 S S3 most rows st true x14 x15 x16)=.nx (e15 C ns t z ds S0 now x6 x7 (a_1 now k S).2 S3 most (rows ++ (a_1 now k S).1) st' g y14 x15 x16)
 | k,0,S,n,rows,st,x14,_,_,_,h,_=>absurd h (Nat.not_lt_zero _)
 | 0,f + 1,S,n,rows,st,x14,_,_,_,_,hs=>by
  refine ⟨st,true,x14,?_⟩
  rw [d_z,tw,decide_eq_false (by omega)]
  simp [a_1]
 | k + 1,f + 1,S,n,rows,st,x14,p,h1,h2,h3,hs=>by
  obtain ⟨S1,d,e,sp,p1,cs⟩:=one (C:=C) p (by omega) hm
  rw [d_z,tw,decide_eq_true (by omega)]
  rcases cs with ⟨x,rfl,_⟩ | ⟨w,a,b,S2,hw,rfl,fe,fi,p2⟩ | ⟨w,a,b,hw,rfl⟩
  ·have hb:=s_y (ns:=ns) (t:=t) (z:=z) (ds:=ds) (S0:=S0) (S3:=S3) (most:=most) (st:=st) (x6:=x6) (x7:=x7) (x14:=x14) (x15:=x15) (x16:=x16) (rows:=rows) (by omega) sp
   obtain ⟨f',rfl⟩:∃ f',f=f' + 1:=⟨f - 1,by omega⟩
   refine ⟨st + 1,false,some (.dat (.tuple [.str "idle",x])),?_⟩
   rw [f_m e]
   generalize c_0 C=B at hb ⊢
   simp only [Bool.true_and,ofX,if_true,hb]
   rw [d_z,tw]
   simp
  ·have hb:=x_f (ns:=ns) (t:=t) (z:=z) (ds:=ds) (S0:=S0) (S3:=S3) (most:=most) (st:=st) (x6:=x6) (x7:=x7) (x14:=x14) (x15:=x15) (x16:=x16) (rows:=rows) (by omega) hw sp fi
   obtain ⟨st',g,y14,r⟩:=g_O (C:=C) (S0:=S0) (S3:=S3) (most:=most) (ns:=ns) (t:=t) (z:=z) (ds:=ds) (x6:=x6) (x7:=x7) (x15:=x15) (x16:=x16) hm k f (S:=S2) (rows:=rows ++ [.tuple [.str w,.int a,.int b],.tuple [.str "done",.int a,.int b]]) (st:=st + 1) (x14:=some (.dat (.tuple [.str w,.int a,.int b]))) p2 (by omega) (by simp; omega) (by omega) (by omega)
   refine ⟨st',g,y14,?_⟩
   rw [h_F hw e fe]
   rw [List.append_assoc] at r
   refine Eq.trans ?_ r
   simp only [Bool.true_and,ofX,if_true,hb]
  ·have hb:=t_Y (ns:=ns) (t:=t) (z:=z) (ds:=ds) (S0:=S0) (S3:=S3) (most:=most) (st:=st) (x6:=x6) (x7:=x7) (x14:=x14) (x15:=x15) (x16:=x16) (rows:=rows) (by omega) hw sp
   obtain ⟨st',g,y14,r⟩:=g_O (C:=C) (S0:=S0) (S3:=S3) (most:=most) (ns:=ns) (t:=t) (z:=z) (ds:=ds) (x6:=x6) (x7:=x7) (x15:=x15) (x16:=x16) hm k f (S:=S1) (rows:=rows ++ [.tuple [.str w,.int a,.int b]]) (st:=st + 1) (x14:=some (.dat (.tuple [.str w,.int a,.int b]))) p1 (by omega) (by simp; omega) (by omega) (by omega)
   refine ⟨st',g,y14,?_⟩
   rw [g_g hw e]
   rw [List.append_assoc] at r
   refine Eq.trans ?_ r
   simp only [Bool.true_and,ofX,if_true,hb]
def h_n (d:PyData):Bool:=PyData.canLay0 d && decide (PyData.depth d<=1)
def d_v:PyData->Bool
 | .tuple (.str w :: _)=>!(w == ("done":Str))
 | _=>true
theorem p_I {x:PyData} (h:x=.none\/∃ v,x=.int v):h_n (.tuple [.str "idle",x])=true/\d_v (.tuple [.str "idle",x])=true:=by
 have q:(("idle":Str) == ("done":Str))=false:=by decide +kernel
 rcases h with rfl | ⟨v,rfl⟩ <;> simp [h_n,d_v,PyData.canLay0,PyData.canLayAll0,PyData.depth,PyData.depthAll,b_B,q]
theorem m_w {w:Str} {a b:Int} (hw:(w=("begun":Str)\/w=("busy":Str))\/w=("left":Str)\/w=("unsure":Str)):h_n (.tuple [.str w,.int a,.int b])=true/\d_v (.tuple [.str w,.int a,.int b])=true:=by
 have q1:(("begun":Str) == ("done":Str))=false:=by decide +kernel
 have q2:(("busy":Str) == ("done":Str))=false:=by decide +kernel
 have q3:(("left":Str) == ("done":Str))=false:=by decide +kernel
 have q4:(("unsure":Str) == ("done":Str))=false:=by decide +kernel
 rcases hw with (rfl | rfl) | rfl | rfl <;> simp [h_n,d_v,PyData.canLay0,PyData.canLayAll0,PyData.depth,PyData.depthAll,b_C,e_B,f_F,d_G,q1,q2,q3,q4]
theorem m_h {a b:Int}:h_n (.tuple [.str "done",.int a,.int b])=true/\d_v (.tuple [.str "done",.int a,.int b])=false:=by
 have q:(("done":Str) == ("done":Str))=true:=by decide +kernel
 simp [h_n,d_v,PyData.canLay0,PyData.canLayAll0,PyData.depth,PyData.depthAll,j_O,q]
def w_P:PyData->Bool
 | .tuple (.str w :: _)=>PyData.strOk w
 | _=>false
theorem e_N {m:Int} (C:Addr) (hm:0<=m/\m<=9999):∀ (k:Nat) {S:Hl} {n:Nat},Mine S m n->n + 2 * k < 890->(∀ x ∈ (a_1 m k S).1,h_n x=true/\w_P x=true)/\(a_1 m k S).1.length<=2 * k/\((a_1 m k S).1.filter d_v).length<=k/\∀ j,j<=k->(a_1 m j S).1 <+: (a_1 m k S).1
 | 0,S,n,_,_=>⟨by simp [a_1],by simp [a_1],by simp [a_1],fun j hj=>by rw [Nat.le_zero.mp hj]; exact List.prefix_refl _⟩
 | k + 1,S,n,p,h=>by
  obtain ⟨S1,d,e,_,p1,cs⟩:=one (C:=C) p (by omega) hm
  rcases cs with ⟨x,rfl,hx⟩ | ⟨w,a,b,S2,hw,rfl,fe,_,p2⟩ | ⟨w,a,b,hw,rfl⟩
  ·rw [f_m e]
   have r:=p_I hx
   refine ⟨fun y hy=>?_,by simp; omega,?_,fun j hj=>?_⟩
   ·rw [List.mem_singleton.mp hy]; exact ⟨r.1,b_B⟩
   ·rw [List.filter_cons_of_pos r.2]; simp
   ·cases j with
    | zero=>exact List.nil_prefix
    | succ j=>rw [f_m e]; exact List.prefix_refl _
  ·obtain ⟨i1,i2,i3,i4⟩:=e_N C hm k p2 (by omega)
   rw [h_F hw e fe]
   have r:=m_w (a:=a) (b:=b) (.inl hw)
   have ok:PyData.strOk w=true:=by rcases hw with rfl | rfl; exact b_C; exact e_B
   refine ⟨fun y hy=>?_,by simp; omega,?_,fun j hj=>?_⟩
   ·rcases List.mem_cons.mp hy with rfl | hy
    ·exact ⟨r.1,ok⟩
    ·rcases List.mem_cons.mp hy with rfl | hy
     ·exact ⟨m_h.1,j_O⟩
     ·exact i1 y hy
   ·rw [List.filter_cons_of_pos r.2,List.filter_cons_of_neg (by rw [m_h.2]; simp)]; simp; omega
   ·cases j with
    | zero=>exact List.nil_prefix
    | succ j=>
     rw [h_F hw e fe]
     exact List.cons_prefix_cons.mpr ⟨rfl,List.cons_prefix_cons.mpr ⟨rfl,i4 j (by omega)⟩⟩
  ·obtain ⟨i1,i2,i3,i4⟩:=e_N C hm k p1 (by omega)
   rw [g_g hw e]
   have r:=m_w (a:=a) (b:=b) (.inr hw)
   have ok:PyData.strOk w=true:=by rcases hw with rfl | rfl; exact f_F; exact d_G
   refine ⟨fun y hy=>?_,by simp; omega,?_,fun j hj=>?_⟩
   ·rcases List.mem_cons.mp hy with rfl | hy
    ·exact ⟨r.1,ok⟩
    ·exact i1 y hy
   ·rw [List.filter_cons_of_pos r.2]; simp; omega
   ·cases j with
    | zero=>exact List.nil_prefix
    | succ j=>
     rw [g_g hw e]
     exact List.cons_prefix_cons.mpr ⟨rfl,i4 j (by omega)⟩
theorem m_A:∀ l:List PyData,(∀ x ∈ l,h_n x=true)->PyData.canLayAll0 l=true/\PyData.depthAll l<=1
 | [],_=>⟨rfl,by simp [PyData.depthAll]⟩
 | d :: l,h=>by
  have h1:=h d (List.mem_cons_self ..)
  unfold h_n at h1
  rw [Bool.and_eq_true] at h1
  have h2:=m_A l fun x hx=>h x (List.mem_cons_of_mem _ hx)
  refine ⟨by simp [PyData.canLayAll0,h1.1,h2.1],?_⟩
  simp only [PyData.depthAll]
  have:=of_decide_eq_true h1.2
  have:=h2.2
  omega
theorem f_N {l:List PyData} (h:∀ x ∈ l,h_n x=true):SeqAt.shaped (.list l)=true:=by
 have h1:=m_A l h
 unfold SeqAt.shaped
 simp only [PyData.canLay0,h1.1,Bool.true_and,PyData.depth]
 have:=h1.2
 exact decide_eq_true (by omega)
theorem s_w (r:Row):h_n (e_k r)=true:=by
 have:=x_e r.wd
 simp [h_n,e_k,PyData.canLay0,PyData.canLayAll0,PyData.depth,PyData.depthAll,this]
theorem s_H {l r:List PyData} (h:r <+: l):p_J l none (some (r.length:Int))=r:=by
 unfold p_J
 have h1:HT.sIx l.length 0 none=0:=rfl
 have h2:HT.sIx l.length l.length (some (r.length:Int))=min r.length l.length:=HT.sIx_nat _ _ r.length
 rw [h1,h2,List.drop_zero,Nat.sub_zero,Nat.min_eq_left h.length_le]
 exact (List.prefix_iff_eq_take.mp h).symm
theorem n_w {C:Addr}:∀ (l ys:List PyData) (U:a_r),(∃ x,U=[x])->(∀ x ∈ l,w_P x=true)->ys.length + l.length<=900->b_c (gNm 0) (g_B C) (g_r C) l ys U=some (ys ++ l.filter d_v)
 | [],ys,U,_,_,_=>by simp [b_c]
 | d :: l,ys,U,⟨x,hx⟩,hf,hl=>by
  subst hx
  have sz:1000 < sizeLine:=by decide
  simp only [List.length_cons] at hl
  have hd:=hf d (List.mem_cons_self ..)
  obtain ⟨w,r,rfl⟩:∃ w r,d=.tuple (.str w :: r):=by
   unfold w_P at hd
   split at hd
   ·exact ⟨_,_,rfl⟩
   ·cases hd
  have ok:PyData.strOk w=true:=hd
  have ht:g_B C [some (.dat (.tuple (.str w :: r)))]=.ok (d_v (.tuple (.str w :: r))) [some (.dat (.tuple (.str w :: r)))]:=by
   have:atI (.str w :: r) 0=some (.str w):=by unfold atI ixN; simp
   simp [g_B,i_5 ok j_O,this,d_v,bne]
  have ih:=fun ys=>n_w (C:=C) l ys [some (.dat (.tuple (.str w :: r)))] ⟨_,rfl⟩ (fun x hx=>hf x (List.mem_cons_of_mem _ hx))
  have he:g_r C [some (.dat (.tuple (.str w :: r)))]=.ok (.tuple (.str w :: r)) [some (.dat (.tuple (.str w :: r)))]:=by simp [g_r]
  rw [b_c]
  cases hn:d_v (.tuple (.str w :: r)) with
  | true=>
   rw [hn] at ht
   rw [List.filter_cons_of_pos hn]
   have:=ih (ys ++ [.tuple (.str w :: r)]) (by simp; omega)
   simp [ht,he,this,show ys.length < sizeLine by omega]
  | false=>
   rw [hn] at ht
   rw [List.filter_cons_of_neg (by rw [hn]; simp)]
   have:=ih ys (by omega)
   simp [ht,this]
abbrev e6 (C:Addr) (ns:List Int) (t:List PyData) (z ds:PyData) (S:Hl) (now:Int) (x6 x7:Option Cell):a_r:=[some (.scr ns),some (.own false (.l t)),some (.dat z),some (.dat ds),some (.own false (hB C S)),some (.dat (.int now)),x6,x7,none,none,none,none,none,none,none,none,none]
theorem o_C {C:Addr} {ns:List Int} {t:List PyData} {z ds:PyData} {S:Hl} {now:Int} {x6 x7:Option Cell} {n:Nat} (hn:ns.length<=63) (ht:t.length<=800) (p:Run S now n) (hN:n < 890) (hm:0<=now/\now<=9000):∃ t' S' now' y7,h_L C (e6 C ns t z ds S now x6 x7)=.nx (e6 C ns t' z ds S' now' x6 y7)/\Run S' now' (n + 1)/\t'.length<=t.length + 7/\now<=now'/\now'<=now + 29:=by
 obtain ⟨c,t',hc,ok,l⟩:=u_m (now:=now) (holder:=S.holder) hn ht p.ho
 obtain ⟨d,S',hd,p'⟩:=y_J (C:=C) p (by omega) ok hm
 have hl:g_i C [.own true (hB C S)]=.rt (.dat (p_M S)) [hB C S]:=t_U
 refine ⟨t',S',c.mo,some (.dat (clD c)),?_,p',l,ok.m.1,ok.m.2⟩
 have mo:=w_o c
 generalize clD c=D at *
 generalize c.mo=M at *
 have hh:a_T (p_M S) (.int 0)=some (d_9 S.holder):=rfl
 generalize p_M S=H at hl hh
 simp [-a_T,h_L,b_z,d_H,hl,hh,hc,hd,mo]
theorem k_i {C:Addr} {ns:List Int} {z ds:PyData} (hn:ns.length<=63):∀ (k:Nat) (i:Int) {t:List PyData} {S:Hl} {now:Int} {x6 x7:Option Cell} {n:Nat},t.length + 7 * k<=800->Run S now n->n + k < 890->0<=now->now + 29 * k<=9000->∃ t' S' now' n' y6 y7,c_m (gNm 6) (h_L C) (L3.intsFrom i k) (e6 C ns t z ds S now x6 x7)=.nx (e6 C ns t' z ds S' now' y6 y7)/\Run S' now' n'/\n'<=n + k/\t'.length<=t.length + 7 * k/\0<=now'/\now'<=now + 29 * k
 | 0,i,t,S,now,x6,x7,n,_,p,_,h0,_=>⟨t,S,now,n,x6,x7,by simp [L3.intsFrom,c_m],p,by omega,by omega,h0,by omega⟩
 | k + 1,i,t,S,now,x6,x7,n,ht,p,hN,h0,hm=>by
  obtain ⟨t1,S1,now1,y7,e,p1,l1,m1,m2⟩:=o_C (C:=C) (z:=z) (ds:=ds) (t:=t) (x6:=some (.dat (.int i))) (x7:=x7) hn (by omega) p (by omega) ⟨h0,by omega⟩
  obtain ⟨t2,S2,now2,n2,z6,z7,e2,p2,q1,q2,q3,q4⟩:=k_i hn k (i + 1) (t:=t1) (S:=S1) (now:=now1) (x6:=some (.dat (.int i))) (x7:=y7) (by omega) p1 (by omega) (by omega) (by omega)
  refine ⟨t2,S2,now2,n2,z6,z7,?_,p2,by omega,by omega,q3,by omega⟩
  rw [d_g,c_m,<-e2]
  simp [e]
theorem p_3 {C:Addr} {ns:List Int} {t:List PyData} {z ds:PyData} {S:Hl} {m:Int} {x6 x7:Option Cell} {n:Nat} (hn:ns.length<=63) (ht:t.length < 900) (p:Mine S m n) (hN:n < 800) (hm:0<=m/\m<=9999):∃ S',f_6 C (e6 C ns t z ds S m x6 x7)=.nx (e6 C ns (t ++ [.int 0]) z ds S' m x6 x7)/\Mine S' m (n + 1):=by
 obtain ⟨v,v0,v1,h⟩:=b_K (ns:=ns) (t:=t) (many:=2) hn (by omega) (by omega)
 obtain ⟨S1,d,_,st,p1,_⟩:=one (C:=C) p (by omega) hm
 by_cases e:v=0
 ·exact ⟨S1,by simp [f_6,h,f_D,e,a_J,b_m,d_H,st],p1⟩
 ·exact ⟨S,by simp [f_6,h,f_D,e],⟨p.run.mono (Int.le_refl _) (by omega),p.ho,p.ti⟩⟩
theorem p_m {C:Addr} {ns:List Int} {t:List PyData} {z ds:PyData} {S S' S3':Hl} {m most few:Int} {R R2 F:List PyData} {x6 x7 x14:Option Cell} {st:Int} {g:Bool}
  (c1:c_G C [.own true (hB C S),.dat (.int 3),.dat (.int m),.dat (.int most)]=.rt (.own false (.l R)) [hB C S'])
  (c2:c_G C [.own true (hB C S),.dat (.int 3),.dat (.int m),.dat (.int few)]=.rt (.own false (.l R2)) [hB C S3'])
  (sR:SeqAt.shaped (.list R)=true) (sR2:SeqAt.shaped (.list R2)=true) (sl:SeqAt.shaped (.list (S'.rows.map e_k))=true)
  (hd:a_l [.scr ns,.own true (.l t),.dat (.int (most + 1))]=.rt (.dat (.int few)) [.l (t ++ [.int 0])])
  (cut:p_J R none (some (R2.length:Int))=R2) (go:b_c (gNm 0) (g_B C) (g_r C) R2 [] [none]=some F) (lF:(F.length:Int)<=few) (l2:R2.length<=900) (l3:F.length<=900) :
  IsT ((a_h (h_B C) (a_h (h_A C) (a_h (h_w C) (h_v C)))) (e15 C ns t z ds S m x6 x7 S' S most R st g x14 none none)):=by
 have sz:1000 < sizeLine:=by decide
 have lg:g_W C [.own true (hB C S')]=.rt (.dat (.list (S'.rows.map e_k))) [hB C S']:=v_4
 generalize S'.rows.map e_k=L at lg sl
 refine a_2 (by simp [h_B,c1,lg,b_z,d_H,l_H sR,l_H sl] <;> rfl) ?_
 refine a_2 (by simp [h_A,hd] <;> rfl) ?_
 refine a_2 (by simp [h_w,c2] <;> rfl) ?_
 have sk:slK (.list R) none (some (R2.length:Int))=some (.list R2):=by simp only [slK,cut]
 exact ⟨_,_,by simp [h_v,sk,p_c sR2,go,lF,show R2.length<=sizeLine by omega,show F.length<=sizeLine by omega] <;> first | rfl | exact ⟨rfl,rfl⟩⟩
theorem p_R {C:Addr} {ns:List Int} (hn:ns.length<=63):t_L C [.scr ns]=.rt (.dat (.bool true)) []:=by
 have sz:1000 < sizeLine:=by decide
 obtain ⟨a,ss,t1,hz,z1,z2,z3,z4,l1⟩:=t_R (ns:=ns) (t:=[]) hn (by simp)
 have zk:ZOk a ss:=⟨z1,z2,z3,fun p hp=>by have:=z4 p hp; omega⟩
 simp only [List.length_nil] at l1
 obtain ⟨ds,t2,hd,dl,l2,h2⟩:=r_6 (ns:=ns) (t:=t1) hn (by omega)
 obtain ⟨k,k0,k1,h3⟩:=b_K (ns:=ns) (t:=t2) (many:=21) hn (by omega) (by omega)
 have ini:=q_T (C:=C) (h_j zk) (g_C (ds:=ds) dl hd) dl
 rw [g_o] at ini
 generalize hZ:d_I a ss=Z at hz ini
 generalize hD:PyData.tuple (ds.map c_9)=D at h2 ini
 obtain ⟨t4,S4,now,n4,y6,y7,e4,run4,n4l,l4,w0,w1⟩:=k_i (C:=C) (z:=Z) (ds:=D) hn k.toNat 0 (t:=t2 ++ [.int 0]) (S:=i_D a ss ds) (now:=0) (x6:=none) (x7:=none) (by simp; omega) (r_X zk dl fun d hx=>⟨(hd d hx).1,(hd d hx).2⟩) (by omega) (by omega) (by omega)
 simp only [List.length_append,List.length_cons,List.length_nil] at l4
 obtain ⟨m,hm⟩:∃ m,m=now + 120:=⟨_,rfl⟩
 have m9:0<=m/\m<=9999:=by omega
 have tk:=r_o (C:=C) (t:=50) (run4.call (r:=3) ⟨by omega,by omega⟩ (show now<=m by omega) m9) (by simp [isW])
 have te:n_j S4 3 m 50=({ S4 with last:=some m,holds:=S4.holds + 1,holder:=some 3,til:=m + 50 },true):=by
  unfold n_j
  rw [if_pos (by
   unfold d_V
   have:=run4.ti
   rw [decide_eq_false (by omega),Bool.and_false])]
 rw [te] at tk
 have p5:Mine { S4 with last:=some m,holds:=S4.holds + 1,holder:=some 3,til:=m + 50 } m n4:=⟨run4.hold (by omega) (fun h e=>by cases e; omega) (by omega),rfl,by show m < m + 50; omega⟩
 generalize ({ S4 with last:=some m,holds:=S4.holds + 1,holder:=some 3,til:=m + 50 }:Hl)=S5 at tk p5
 obtain ⟨S6,e6',p6⟩:=p_3 (C:=C) (z:=Z) (ds:=D) (x6:=y6) (x7:=y7) (t:=t4) hn (by omega) p5 (by omega) m9
 have wk:=r_L (C:=C) p6.run (by omega)
 have sv:=r_Z (C:=C) (S:=S6)
 obtain ⟨most,b0,b1,h7⟩:=b_K (ns:=ns) (t:=t4 ++ [.int 0]) (many:=30) hn (by simp; omega) (by omega)
 obtain ⟨few,c0,c1,h8⟩:=b_K (ns:=ns) (t:=t4 ++ [.int 0] ++ [.int 0]) (many:=most + 1) hn (by simp; omega) (by omega)
 obtain ⟨st,g,y14,wl⟩:=g_O (C:=C) (S0:=S6) (S3:=S6) (now:=m) (most:=most) (ns:=ns) (t:=t4 ++ [.int 0] ++ [.int 0]) (z:=Z) (ds:=D) (x6:=y6) (x7:=y7) (x15:=none) (x16:=none) m9 most.toNat 100000 (S:=S6) (rows:=[]) (st:=0) (x14:=none) p6 (by omega) (by simp; omega) (by omega) (by omega)
 rw [List.nil_append] at wl
 have ca:=n_S (C:=C) (k:=most) p6 (by omega) m9 (by omega)
 have cb:=n_S (C:=C) (k:=few) p6 (by omega) m9 (by omega)
 obtain ⟨f1,f2,f3,f4⟩:=e_N C m9 most.toNat p6 (by omega)
 obtain ⟨g1,g2,g3,_⟩:=e_N C m9 few.toNat p6 (by omega)
 have pre:=f4 few.toNat (by omega)
 have dg:=n_w (C:=C) (a_1 m few.toNat S6).1 [] [none] ⟨_,rfl⟩ (fun x hx=>(g1 x hx).2) (by simp; omega)
 rw [List.nil_append] at dg
 have fin:=p_m (z:=Z) (ds:=D) (x6:=y6) (x7:=y7) (x14:=y14) (st:=st) (g:=g) ca cb (f_N fun x hx=>(f1 x hx).1) (f_N fun x hx=>(g1 x hx).1) (f_N fun x hx=>by obtain ⟨r,_,rfl⟩:=List.mem_map.mp hx; exact s_w r) h8 (s_H pre) dg (by omega) (by omega) (by omega)
 generalize s_i S6=SV at wk sv
 refine s_B (n:=16) ?_
 unfold s_O
 simp only [List.replicate]
 refine a_2 (by simp [l_D] <;> rfl) ?_
 refine a_2 (by simp [l_t,hz] <;> rfl) ?_
 refine a_2 (by simp [l_o,h2] <;> rfl) ?_
 refine a_2 (by simp [l_J,o_J,n_d,ini] <;> rfl) ?_
 refine a_2 (U':=e6 C ns t2 Z D (i_D a ss ds) 0 none none) (by simp [l_q] <;> rfl) ?_
 refine a_2 (U':=e6 C ns t4 Z D S4 now y6 y7) (by
  rw [<-e4]
  simp [l_W,h3,show -4611686018427387904<=k by omega,show k < 4611686018427387904 by omega]) ?_
 refine a_2 (U':=e6 C ns t4 Z D S4 m y6 y7) (by simp [l_h,hm]) ?_
 refine a_2 (U':=e6 C ns t4 Z D S5 m y6 y7) (by simp [l_B,a_J,b_m,d_H,tk]) ?_
 refine a_2 e6' ?_
 refine a_2 (by simp [j_z,b_z,d_H,sv,wk] <;> rfl) ?_
 refine a_2 (by simp [j_m,b_z,d_H,sv,wk] <;> rfl) ?_
 refine a_2 (by simp [j_B,h7] <;> rfl) ?_
 refine a_2 (by simp [j_W] <;> rfl) ?_
 refine a_2 (by simp [j_n] <;> rfl) ?_
 refine a_2 (by simp [j_U] <;> rfl) ?_
 simp only [List.append_assoc,List.cons_append,List.nil_append] at wl fin
 refine a_2 (show j_A C _=_ from wl) ?_
 exact fin
end K3
namespace K3
open PySem PySem.Spec L2 L2.L3 PyProof.Rows
theorem u_u {K:PySem.W.Frag} {mg:Str->Option Value} {f:FM} {vs:List V} {H:Hp} {Q:VK} {E:XK} (hf:∀ ns:List Int,ns.length<=63->f [.scr ns]=.rt (.dat (.bool true)) []) (h:∃ a ns,vs=[.ref a]/\Scr K H a ns/\∀ H',Q (.bl true) H'):spF K mg f vs H Q E:=by
 obtain ⟨a,ns,rfl,hs,q⟩:=h
 refine ⟨[.scr ns],[[]],[],.oth (fun _ z=>by cases z) (fun _ _ z=>by cases z) ⟨a,rfl,hs⟩ .nil,List.nodup_nil,fun b hb=>by simp at hb,?_⟩
 rw [hf ns hs.1]
 intro v H' fp fps' hv _ _
 rw [show v=.bl true from DV.bl_inv hv]
 exact q H'
noncomputable def spL (K:PySem.W.Frag):Sp:=fun vs H Q _=>∃ a ns,vs=[.ref a]/\Scr K H a ns/\∀ H',Q (.bl true) H'
abbrev LK (K:PySem.W.Frag) (f:Addr) (a:Value) (b:Option Addr) (n q:Str) (s:Stmt) (k d p:Value) (e:Option Addr) (c t:Value) (l:Array (Option Value)):Prop:=K.lookup f=some ⟨a,b,.func (fnOf n q (g_I s) (f_k s) (a_d s) .none k d p e c t),l⟩
abbrev NI (K:PySem.W.Frag) (n:Str) (f:Addr):Prop:=nsIn K mainGlobals n=some (some (.ref f))
abbrev NV (K:PySem.W.Frag) (n:Str) (i:Int) (t:Tok):Prop:=nsIn K mainGlobals n=some (some (.int i t))
abbrev NZ (K:PySem.W.Frag) (n:Str):Prop:=nsIn K mainGlobals n=some none
abbrev KI (K:PySem.W.Frag) (f:Addr):Prop:=keepIn K (.ref f)=true
local macro_rules | `(tactic| walk_at "b")=>`(tactic| first|(exact (fun _ _ _ _ _ _ us hl=>match us,hl with | [_],_=>rfl))|(exact (fun _ _ _ _ _ _ us hl=>match us,hl with | [_,_],_=>rfl))|(exact (fun _ _ _ _ _ _ us hl=>match us,hl with | [_,_,_],_=>rfl))|(exact (fun _ _ _ _ _ _ us hl=>match us,hl with | [_,_,_,_],_=>rfl))|(exact (fun _ _ _ _ _ _ us hl=>match us,hl with | [_,_,_,_,_],_=>rfl)))
theorem all_mk {l:PySem.W.OpenLaw} {w:World} {K:PySem.W.Frag} {h:Heap} {mg:Str->Option Value} {fa:Addr} (X:K.In h) (G:h.Ns mainGlobals mg) (hfa:mg "law" = some (.ref fa))
  {C_:Addr}
  {f0_ f1_ f2_ f3_ f4_ f5_ f6_ f7_ f8_ f9_ f10_ f11_ f12_ f13_ f14_ f15_ f16_ f17_ f18_ f19_ f20_ f21_ f22_ f23_ f24_ f25_ f26_ f27_ f28_ f29_ f30_ f31_ f32_ f33_ f34_ f35_ f36_ f37_ f38_ f39_ f40_ f41_ f42_ f43_ f44_ f45_ f46_ f47_ f48_ f49_ f50_ f51_ f52_ f53_ f54_:Addr} {od0 an0 od1 an1 od2 an2 od3 an3 od4 an4 od5 an5 od6 an6 od7 an7 od8 an8 od9 an9 od10 an10 od11 an11 od12 an12 od13 an13 od14 an14 od15 an15 od16 an16 od17 an17 od18 an18 od19 an19 od20 an20 od21 an21 od22 an22 od23 an23 od24 an24 od25 an25 od26 an26 od27 an27 od28 an28 od29 an29 od30 an30 od31 an31 od32 an32 od33 an33 od34 an34 od35 an35 od36 an36 od37 an37 od38 an38 od39 an39 od40 an40 od41 an41 od42 an42 od43 an43 od44 an44 od45 an45 od46 an46 od47 an47 od48 an48 od49 an49 od50 an50 od51 an51 od52 an52 od53 an53 od54 an54:Option Addr} {sl0 sl1 sl2 sl3 sl4 sl5 sl6 sl7 sl8 sl9 sl10 sl11 sl12 sl13 sl14 sl15 sl16 sl17 sl18 sl19 sl20 sl21 sl22 sl23 sl24 sl25 sl26 sl27 sl28 sl29 sl30 sl31 sl32 sl33 sl34 sl35 sl36 sl37 sl38 sl39 sl40 sl41 sl42 sl43 sl44 sl45 sl46 sl47 sl48 sl49 sl50 sl51 sl52 sl53 sl54:Array (Option Value)} {oc0 kV0 dc0 pm0 cd0 ct0 oc1 kV1 dc1 pm1 cd1 ct1 oc2 kV2 dc2 pm2 cd2 ct2 oc3 kV3 dc3 pm3 cd3 ct3 oc4 kV4 dc4 pm4 cd4 ct4 oc5 kV5 dc5 pm5 cd5 ct5 oc6 kV6 dc6 pm6 cd6 ct6 oc7 kV7 dc7 pm7 cd7 ct7 oc8 kV8 dc8 pm8 cd8 ct8 oc9 kV9 dc9 pm9 cd9 ct9 oc10 kV10 dc10 pm10 cd10 ct10 oc11 kV11 dc11 pm11 cd11 ct11 oc12 kV12 dc12 pm12 cd12 ct12 oc13 kV13 dc13 pm13 cd13 ct13 oc14 kV14 dc14 pm14 cd14 ct14 oc15 kV15 dc15 pm15 cd15 ct15 oc16 kV16 dc16 pm16 cd16 ct16 oc17 kV17 dc17 pm17 cd17 ct17 oc18 kV18 dc18 pm18 cd18 ct18 oc19 kV19 dc19 pm19 cd19 ct19 oc20 kV20 dc20 pm20 cd20 ct20 oc21 kV21 dc21 pm21 cd21 ct21 oc22 kV22 dc22 pm22 cd22 ct22 oc23 kV23 dc23 pm23 cd23 ct23 oc24 kV24 dc24 pm24 cd24 ct24 oc25 kV25 dc25 pm25 cd25 ct25 oc26 kV26 dc26 pm26 cd26 ct26 oc27 kV27 dc27 pm27 cd27 ct27 oc28 kV28 dc28 pm28 cd28 ct28 oc29 kV29 dc29 pm29 cd29 ct29 oc30 kV30 dc30 pm30 cd30 ct30 oc31 kV31 dc31 pm31 cd31 ct31 oc32 kV32 dc32 pm32 cd32 ct32 oc33 kV33 dc33 pm33 cd33 ct33 oc34 kV34 dc34 pm34 cd34 ct34 oc35 kV35 dc35 pm35 cd35 ct35 oc36 kV36 dc36 pm36 cd36 ct36 oc37 kV37 dc37 pm37 cd37 ct37 oc38 kV38 dc38 pm38 cd38 ct38 oc39 kV39 dc39 pm39 cd39 ct39 oc40 kV40 dc40 pm40 cd40 ct40 oc41 kV41 dc41 pm41 cd41 ct41 oc42 kV42 dc42 pm42 cd42 ct42 oc43 kV43 dc43 pm43 cd43 ct43 oc44 kV44 dc44 pm44 cd44 ct44 oc45 kV45 dc45 pm45 cd45 ct45 oc46 kV46 dc46 pm46 cd46 ct46 oc47 kV47 dc47 pm47 cd47 ct47 oc48 kV48 dc48 pm48 cd48 ct48 oc49 kV49 dc49 pm49 cd49 ct49 oc50 kV50 dc50 pm50 cd50 ct50 oc51 kV51 dc51 pm51 cd51 ct51 oc52 kV52 dc52 pm52 cd52 ct52 oc53 kV53 dc53 pm53 cd53 ct53 oc54 kV54 dc54 pm54 cd54 ct54:Value}
  {t0_ t10_ t2_ t5_ t3_ t11_ t7_ t1_ t4_ t8_ t9_ t14_ t13_ t12_ t6_:Tok}
  {D_:Addr}
  (a_Hall:NI K "Hall" C_)
  (a0:NI K "is_whole" f0_)
  (l0:LK K f0_ oc0 od0 "is_whole" "is_whole" d_n kV0 dc0 pm0 an0 cd0 ct0 sl0)
  (c0:codeIn K cd0 "is_whole" = true)
  (k0:KI K f0_)
  (a1:NI K "is_tuple_of" f1_)
  (l1:LK K f1_ oc1 od1 "is_tuple_of" "is_tuple_of" b_S kV1 dc1 pm1 an1 cd1 ct1 sl1)
  (c1:codeIn K cd1 "is_tuple_of" = true)
  (k1:KI K f1_)
  (a2:NI K "is_ahead" f2_)
  (l2:LK K f2_ oc2 od2 "is_ahead" "is_ahead" d_s kV2 dc2 pm2 an2 cd2 ct2 sl2)
  (c2:codeIn K cd2 "is_ahead" = true)
  (k2:KI K f2_)
  (a3:NI K "is_moment" f3_)
  (l3:LK K f3_ oc3 od3 "is_moment" "is_moment" c_I kV3 dc3 pm3 an3 cd3 ct3 sl3)
  (c3:codeIn K cd3 "is_moment" = true)
  (k3:KI K f3_)
  (a4:NI K "is_runner" f4_)
  (l4:LK K f4_ oc4 od4 "is_runner" "is_runner" c_K kV4 dc4 pm4 an4 cd4 ct4 sl4)
  (c4:codeIn K cd4 "is_runner" = true)
  (k4:KI K f4_)
  (a5:NI K "is_term" f5_)
  (l5:LK K f5_ oc5 od5 "is_term" "is_term" e_i kV5 dc5 pm5 an5 cd5 ct5 sl5)
  (c5:codeIn K cd5 "is_term" = true)
  (k5:KI K f5_)
  (a6:NI K "are_shifts" f6_)
  (l6:LK K f6_ oc6 od6 "are_shifts" "are_shifts" c_a kV6 dc6 pm6 an6 cd6 ct6 sl6)
  (c6:codeIn K cd6 "are_shifts" = true)
  (k6:KI K f6_)
  (a7:NI K "is_zone" f7_)
  (l7:LK K f7_ oc7 od7 "is_zone" "is_zone" e_j kV7 dc7 pm7 an7 cd7 ct7 sl7)
  (c7:codeIn K cd7 "is_zone" = true)
  (k7:KI K f7_)
  (a8:NI K "has_word" f8_)
  (l8:LK K f8_ oc8 od8 "has_word" "has_word" d_t kV8 dc8 pm8 an8 cd8 ct8 sl8)
  (c8:codeIn K cd8 "has_word" = true)
  (k8:KI K f8_)
  (a9:NI K "is_plan" f9_)
  (l9:LK K f9_ oc9 od9 "is_plan" "is_plan" e_t kV9 dc9 pm9 an9 cd9 ct9 sl9)
  (c9:codeIn K cd9 "is_plan" = true)
  (k9:KI K f9_)
  (a10:NI K "is_late" f10_)
  (l10:LK K f10_ oc10 od10 "is_late" "is_late" e_o kV10 dc10 pm10 an10 cd10 ct10 sl10)
  (c10:codeIn K cd10 "is_late" = true)
  (k10:KI K f10_)
  (a11:NI K "is_deed" f11_)
  (l11:LK K f11_ oc11 od11 "is_deed" "is_deed" e_q kV11 dc11 pm11 an11 cd11 ct11 sl11)
  (c11:codeIn K cd11 "is_deed" = true)
  (k11:KI K f11_)
  (a12:NI K "are_deeds" f12_)
  (l12:LK K f12_ oc12 od12 "are_deeds" "are_deeds" c_S kV12 dc12 pm12 an12 cd12 ct12 sl12)
  (c12:codeIn K cd12 "are_deeds" = true)
  (k12:KI K f12_)
  (a13:NI K "check_zone" f13_)
  (l13:LK K f13_ oc13 od13 "check_zone" "check_zone" c_l kV13 dc13 pm13 an13 cd13 ct13 sl13)
  (c13:codeIn K cd13 "check_zone" = true)
  (k13:KI K f13_)
  (a14:NI K "check_moment" f14_)
  (l14:LK K f14_ oc14 od14 "check_moment" "check_moment" b_q kV14 dc14 pm14 an14 cd14 ct14 sl14)
  (c14:codeIn K cd14 "check_moment" = true)
  (k14:KI K f14_)
  (a15:NI K "check_deeds" f15_)
  (l15:LK K f15_ oc15 od15 "check_deeds" "check_deeds" b_W kV15 dc15 pm15 an15 cd15 ct15 sl15)
  (c15:codeIn K cd15 "check_deeds" = true)
  (k15:KI K f15_)
  (a16:NI K "check_runner" f16_)
  (l16:LK K f16_ oc16 od16 "check_runner" "check_runner" b_w kV16 dc16 pm16 an16 cd16 ct16 sl16)
  (c16:codeIn K cd16 "check_runner" = true)
  (k16:KI K f16_)
  (a17:NI K "check_term" f17_)
  (l17:LK K f17_ oc17 od17 "check_term" "check_term" c_g kV17 dc17 pm17 an17 cd17 ct17 sl17)
  (c17:codeIn K cd17 "check_term" = true)
  (k17:KI K f17_)
  (a18:NI K "shown" f18_)
  (l18:LK K f18_ oc18 od18 "shown" "shown" g_K kV18 dc18 pm18 an18 cd18 ct18 sl18)
  (c18:codeIn K cd18 "shown" = true)
  (k18:KI K f18_)
  (a19:NI K "stretches" f19_)
  (l19:LK K f19_ oc19 od19 "stretches" "stretches" c_O kV19 dc19 pm19 an19 cd19 ct19 sl19)
  (c19:codeIn K cd19 "stretches" = true)
  (k19:KI K f19_)
  (a20:NI K "is_ahead_of" f20_)
  (l20:LK K f20_ oc20 od20 "is_ahead_of" "is_ahead_of" b_R kV20 dc20 pm20 an20 cd20 ct20 sl20)
  (c20:codeIn K cd20 "is_ahead_of" = true)
  (k20:KI K f20_)
  (a21:NI K "first_showing" f21_)
  (l21:LK K f21_ oc21 od21 "first_showing" "first_showing" b_h kV21 dc21 pm21 an21 cd21 ct21 sl21)
  (c21:codeIn K cd21 "first_showing" = true)
  (k21:KI K f21_)
  (a22:NI K "first_day" f22_)
  (l22:LK K f22_ oc22 od22 "first_day" "first_day" c_A kV22 dc22 pm22 an22 cd22 ct22 sl22)
  (c22:codeIn K cd22 "first_day" = true)
  (k22:KI K f22_)
  (a23:NI K "daily_time" f23_)
  (l23:LK K f23_ oc23 od23 "daily_time" "daily_time" c_d kV23 dc23 pm23 an23 cd23 ct23 sl23)
  (c23:codeIn K cd23 "daily_time" = true)
  (k23:KI K f23_)
  (a24:NI K "time_of" f24_)
  (l24:LK K f24_ oc24 od24 "time_of" "time_of" e_p kV24 dc24 pm24 an24 cd24 ct24 sl24)
  (c24:codeIn K cd24 "time_of" = true)
  (k24:KI K f24_)
  (a25:NI K "is_left_out" f25_)
  (l25:LK K f25_ oc25 od25 "is_left_out" "is_left_out" b_Q kV25 dc25 pm25 an25 cd25 ct25 sl25)
  (c25:codeIn K cd25 "is_left_out" = true)
  (k25:KI K f25_)
  (a26:findIn K (.ref C_) "__init__" = some (some (.ref f26_)))
  (i26:isFn K (.ref f26_)=true)
  (l26:LK K f26_ oc26 od26 "__init__" "Hall.__init__" b_9 kV26 dc26 pm26 an26 cd26 ct26 sl26)
  (c26:codeIn K cd26 "Hall.__init__" = true)
  (k26:KI K f26_)
  (a27:findIn K (.ref C_) "is_held" = some (some (.ref f27_)))
  (i27:isFn K (.ref f27_)=true)
  (l27:LK K f27_ oc27 od27 "is_held" "Hall.is_held" c_C kV27 dc27 pm27 an27 cd27 ct27 sl27)
  (c27:codeIn K cd27 "Hall.is_held" = true)
  (k27:KI K f27_)
  (a28:findIn K (.ref C_) "check_call" = some (some (.ref f28_)))
  (i28:isFn K (.ref f28_)=true)
  (l28:LK K f28_ oc28 od28 "check_call" "Hall.check_call" b_v kV28 dc28 pm28 an28 cd28 ct28 sl28)
  (c28:codeIn K cd28 "Hall.check_call" = true)
  (k28:KI K f28_)
  (a29:findIn K (.ref C_) "check_holder" = some (some (.ref f29_)))
  (i29:isFn K (.ref f29_)=true)
  (l29:LK K f29_ oc29 od29 "check_holder" "Hall.check_holder" a_8 kV29 dc29 pm29 an29 cd29 ct29 sl29)
  (c29:codeIn K cd29 "Hall.check_holder" = true)
  (k29:KI K f29_)
  (a30:findIn K (.ref C_) "take" = some (some (.ref f30_)))
  (i30:isFn K (.ref f30_)=true)
  (l30:LK K f30_ oc30 od30 "take" "Hall.take" f_r kV30 dc30 pm30 an30 cd30 ct30 sl30)
  (c30:codeIn K cd30 "Hall.take" = true)
  (k30:KI K f30_)
  (a31:findIn K (.ref C_) "give" = some (some (.ref f31_)))
  (i31:isFn K (.ref f31_)=true)
  (l31:LK K f31_ oc31 od31 "give" "Hall.give" f_p kV31 dc31 pm31 an31 cd31 ct31 sl31)
  (c31:codeIn K cd31 "Hall.give" = true)
  (k31:KI K f31_)
  (a32:findIn K (.ref C_) "add_row" = some (some (.ref f32_)))
  (i32:isFn K (.ref f32_)=true)
  (l32:LK K f32_ oc32 od32 "add_row" "Hall.add_row" c_Q kV32 dc32 pm32 an32 cd32 ct32 sl32)
  (c32:codeIn K cd32 "Hall.add_row" = true)
  (k32:KI K f32_)
  (a33:findIn K (.ref C_) "is_busy" = some (some (.ref f33_)))
  (i33:isFn K (.ref f33_)=true)
  (l33:LK K f33_ oc33 od33 "is_busy" "Hall.is_busy" c_E kV33 dc33 pm33 an33 cd33 ct33 sl33)
  (c33:codeIn K cd33 "Hall.is_busy" = true)
  (k33:KI K f33_)
  (a34:findIn K (.ref C_) "first_unsettled" = some (some (.ref f34_)))
  (i34:isFn K (.ref f34_)=true)
  (l34:LK K f34_ oc34 od34 "first_unsettled" "Hall.first_unsettled" a_Q kV34 dc34 pm34 an34 cd34 ct34 sl34)
  (c34:codeIn K cd34 "Hall.first_unsettled" = true)
  (k34:KI K f34_)
  (a35:findIn K (.ref C_) "step" = some (some (.ref f35_)))
  (i35:isFn K (.ref f35_)=true)
  (l35:LK K f35_ oc35 od35 "step" "Hall.step" f_s kV35 dc35 pm35 an35 cd35 ct35 sl35)
  (c35:codeIn K cd35 "Hall.step" = true)
  (k35:KI K f35_)
  (a36:findIn K (.ref C_) "step_behind_a_fall" = some (some (.ref f36_)))
  (i36:isFn K (.ref f36_)=true)
  (l36:LK K f36_ oc36 od36 "step_behind_a_fall" "Hall.step_behind_a_fall" a_H kV36 dc36 pm36 an36 cd36 ct36 sl36)
  (c36:codeIn K cd36 "Hall.step_behind_a_fall" = true)
  (k36:KI K f36_)
  (a37:findIn K (.ref C_) "step_ahead" = some (some (.ref f37_)))
  (i37:isFn K (.ref f37_)=true)
  (l37:LK K f37_ oc37 od37 "step_ahead" "Hall.step_ahead" b_r kV37 dc37 pm37 an37 cd37 ct37 sl37)
  (c37:codeIn K cd37 "Hall.step_ahead" = true)
  (k37:KI K f37_)
  (a38:findIn K (.ref C_) "finish" = some (some (.ref f38_)))
  (i38:isFn K (.ref f38_)=true)
  (l38:LK K f38_ oc38 od38 "finish" "Hall.finish" d_o kV38 dc38 pm38 an38 cd38 ct38 sl38)
  (c38:codeIn K cd38 "Hall.finish" = true)
  (k38:KI K f38_)
  (a39:findIn K (.ref C_) "held" = some (some (.ref f39_)))
  (i39:isFn K (.ref f39_)=true)
  (l39:LK K f39_ oc39 od39 "held" "Hall.held" f_o kV39 dc39 pm39 an39 cd39 ct39 sl39)
  (c39:codeIn K cd39 "Hall.held" = true)
  (k39:KI K f39_)
  (a40:findIn K (.ref C_) "log" = some (some (.ref f40_)))
  (i40:isFn K (.ref f40_)=true)
  (l40:LK K f40_ oc40 od40 "log" "Hall.log" g_R kV40 dc40 pm40 an40 cd40 ct40 sl40)
  (c40:codeIn K cd40 "Hall.log" = true)
  (k40:KI K f40_)
  (a41:findIn K (.ref C_) "saved" = some (some (.ref f41_)))
  (i41:isFn K (.ref f41_)=true)
  (l41:LK K f41_ oc41 od41 "saved" "Hall.saved" e_d kV41 dc41 pm41 an41 cd41 ct41 sl41)
  (c41:codeIn K cd41 "Hall.saved" = true)
  (k41:KI K f41_)
  (a42:NI K "woken" f42_)
  (l42:LK K f42_ oc42 od42 "woken" "woken" g_0 kV42 dc42 pm42 an42 cd42 ct42 sl42)
  (c42:codeIn K cd42 "woken" = true)
  (k42:KI K f42_)
  (a43:NI K "catch_up" f43_)
  (l43:LK K f43_ oc43 od43 "catch_up" "catch_up" d_r kV43 dc43 pm43 an43 cd43 ct43 sl43)
  (c43:codeIn K cd43 "catch_up" = true)
  (k43:KI K f43_)
  (a44:NI K "_law_cell_at" f44_)
  (l44:LK K f44_ oc44 od44 "_law_cell_at" "_law_cell_at" b_s kV44 dc44 pm44 an44 cd44 ct44 sl44)
  (c44:codeIn K cd44 "_law_cell_at" = true)
  (k44:KI K f44_)
  (a45:NI K "_law_mixed" f45_)
  (l45:LK K f45_ oc45 od45 "_law_mixed" "_law_mixed" c_h kV45 dc45 pm45 an45 cd45 ct45 sl45)
  (c45:codeIn K cd45 "_law_mixed" = true)
  (k45:KI K f45_)
  (a46:NI K "_law_draw" f46_)
  (l46:LK K f46_ oc46 od46 "_law_draw" "_law_draw" c_D kV46 dc46 pm46 an46 cd46 ct46 sl46)
  (c46:codeIn K cd46 "_law_draw" = true)
  (k46:KI K f46_)
  (a47:NI K "_law_pick" f47_)
  (l47:LK K f47_ oc47 od47 "_law_pick" "_law_pick" c_N kV47 dc47 pm47 an47 cd47 ct47 sl47)
  (c47:codeIn K cd47 "_law_pick" = true)
  (k47:KI K f47_)
  (a48:NI K "_law_zone" f48_)
  (l48:LK K f48_ oc48 od48 "_law_zone" "_law_zone" c_P kV48 dc48 pm48 an48 cd48 ct48 sl48)
  (c48:codeIn K cd48 "_law_zone" = true)
  (k48:KI K f48_)
  (a49:NI K "_law_plan" f49_)
  (l49:LK K f49_ oc49 od49 "_law_plan" "_law_plan" c_F kV49 dc49 pm49 an49 cd49 ct49 sl49)
  (c49:codeIn K cd49 "_law_plan" = true)
  (k49:KI K f49_)
  (a50:NI K "_law_deeds" f50_)
  (l50:LK K f50_ oc50 od50 "_law_deeds" "_law_deeds" c_j kV50 dc50 pm50 an50 cd50 ct50 sl50)
  (c50:codeIn K cd50 "_law_deeds" = true)
  (k50:KI K f50_)
  (a51:NI K "_law_call" f51_)
  (l51:LK K f51_ oc51 od51 "_law_call" "_law_call" c_B kV51 dc51 pm51 an51 cd51 ct51 sl51)
  (c51:codeIn K cd51 "_law_call" = true)
  (k51:KI K f51_)
  (a52:NI K "_law_which" f52_)
  (l52:LK K f52_ oc52 od52 "_law_which" "_law_which" c_e kV52 dc52 pm52 an52 cd52 ct52 sl52)
  (c52:codeIn K cd52 "_law_which" = true)
  (k52:KI K f52_)
  (a53:NI K "_law_do" f53_)
  (l53:LK K f53_ oc53 od53 "_law_do" "_law_do" e_m kV53 dc53 pm53 an53 cd53 ct53 sl53)
  (c53:codeIn K cd53 "_law_do" = true)
  (k53:KI K f53_)
  (a54:NI K "law" f54_)
  (l54:LK K f54_ oc54 od54 "law" "law" k_v kV54 dc54 pm54 an54 cd54 ct54 sl54)
  (c54:codeIn K cd54 "law" = true)
  (k54:KI K f54_)
  (v2_:NV K "LAST_MOMENT" (9999) t0_)
  (v8_:NV K "LAST_HOUR" (23) t10_)
  (v1_:NV K "LEAST_AHEAD" (-12) t2_)
  (v6_:NV K "MOST_AHEAD" (14) t5_)
  (v3_:NV K "MOST_SHIFTS" (6) t3_)
  (v9_:NV K "MOST_STEP" (999) t11_)
  (v5_:NV K "MOST_DEEDS" (6) t7_)
  (v0_:NV K "MOST_WITHIN" (999) t1_)
  (v4_:NV K "LAST_RUNNER" (3) t4_)
  (v10_:NV K "MOST_TERM" (99) t8_)
  (v11_:NV K "DAY_HOURS" (24) t9_)
  (v13_:NV K "PLAN" (0) t14_)
  (v14_:NV K "LATE" (1) t13_)
  (v12_:NV K "AGAIN" (2) t12_)
  (v7_:NV K "MOST_STEPS" (999) t6_)
  (z1_:NZ K "ValueError")
  (z8_:NZ K "all")
  (z6_:NZ K "bool")
  (z2_:NZ K "enumerate")
  (z10_:NZ K "int")
  (z0_:NZ K "isinstance")
  (z12_:NZ K "len")
  (z5_:NZ K "list")
  (z11_:NZ K "max")
  (z9_:NZ K "min")
  (z3_:NZ K "range")
  (z13_:NZ K "str")
  (z4_:NZ K "tuple")
  (z7_:NZ K "zip")
  (pg_:plainGet K C_ Str.empty=true)
  (hd_:PySem.W.hasDictIn K C_=true)
  (po_:PySem.W.plainOver K C_=true)
  (sa_:findIn K (.ref C_) "__setattr__" = some (some (.builtin "object.__setattr__")))
  (mks_:PySem.W.makesIn K C_=true)
  (kpC_:KI K C_)
  (n_begun:findIn K (.ref C_) "begun" = some none)
  (n_deeds:findIn K (.ref C_) "deeds" = some none)
  (n_holder:findIn K (.ref C_) "holder" = some none)
  (n_holds:findIn K (.ref C_) "holds" = some none)
  (n_last:findIn K (.ref C_) "last" = some none)
  (n_rows:findIn K (.ref C_) "rows" = some none)
  (n_settled:findIn K (.ref C_) "settled" = some none)
  (n_until:findIn K (.ref C_) "until" = some none)
  (n_words:findIn K (.ref C_) "words" = some none)
  (n_zone:findIn K (.ref C_) "zone" = some none)
  (a_Due:NI K "DueError" D_)
  (x_Due:excIn K D_ bmV "ValueError.__new__" = true)
  (x_tab:q_S K D_ exL=true) :
  ∃ fd:FuncData,(∀ (s:Shared) (v:Value),BindsTo s fd ⟨[v],[]⟩ [("_law_script",v)])/\∀ base:Heap,K.In base->base.Ns mainGlobals mg->FnOk l.prog w K mg base (CXM l.prog w) 10 fa fd ["_law_script"] (spL K):=by
 have e:=hfa.symm.trans (mg_of X G a54)
 cases e
 have F0:=a_y (st:=d_n) l0 c0 k0
 have D0:FD K mg "is_whole" d_n ["thing","least","most"] _ _:=⟨F0,mg_of X G a0,F0.binds (by walk_at "b")⟩
 have F1:=a_y (st:=b_S) l1 c1 k1
 have D1:FD K mg "is_tuple_of" b_S ["thing","length"] _ _:=⟨F1,mg_of X G a1,F1.binds (by walk_at "b")⟩
 have F2:=a_y (st:=d_s) l2 c2 k2
 have D2:FD K mg "is_ahead" d_s ["thing"] _ _:=⟨F2,mg_of X G a2,F2.binds (by walk_at "b")⟩
 have F3:=a_y (st:=c_I) l3 c3 k3
 have D3:FD K mg "is_moment" c_I ["thing"] _ _:=⟨F3,mg_of X G a3,F3.binds (by walk_at "b")⟩
 have F4:=a_y (st:=c_K) l4 c4 k4
 have D4:FD K mg "is_runner" c_K ["thing"] _ _:=⟨F4,mg_of X G a4,F4.binds (by walk_at "b")⟩
 have F5:=a_y (st:=e_i) l5 c5 k5
 have D5:FD K mg "is_term" e_i ["thing"] _ _:=⟨F5,mg_of X G a5,F5.binds (by walk_at "b")⟩
 have F6:=a_y (st:=c_a) l6 c6 k6
 have D6:FD K mg "are_shifts" c_a ["thing"] _ _:=⟨F6,mg_of X G a6,F6.binds (by walk_at "b")⟩
 have F7:=a_y (st:=e_j) l7 c7 k7
 have D7:FD K mg "is_zone" e_j ["thing"] _ _:=⟨F7,mg_of X G a7,F7.binds (by walk_at "b")⟩
 have F8:=a_y (st:=d_t) l8 c8 k8
 have D8:FD K mg "has_word" d_t ["thing","word","length"] _ _:=⟨F8,mg_of X G a8,F8.binds (by walk_at "b")⟩
 have F9:=a_y (st:=e_t) l9 c9 k9
 have D9:FD K mg "is_plan" e_t ["thing"] _ _:=⟨F9,mg_of X G a9,F9.binds (by walk_at "b")⟩
 have F10:=a_y (st:=e_o) l10 c10 k10
 have D10:FD K mg "is_late" e_o ["thing"] _ _:=⟨F10,mg_of X G a10,F10.binds (by walk_at "b")⟩
 have F11:=a_y (st:=e_q) l11 c11 k11
 have D11:FD K mg "is_deed" e_q ["thing"] _ _:=⟨F11,mg_of X G a11,F11.binds (by walk_at "b")⟩
 have F12:=a_y (st:=c_S) l12 c12 k12
 have D12:FD K mg "are_deeds" c_S ["thing"] _ _:=⟨F12,mg_of X G a12,F12.binds (by walk_at "b")⟩
 have F13:=a_y (st:=c_l) l13 c13 k13
 have D13:FD K mg "check_zone" c_l ["thing"] _ _:=⟨F13,mg_of X G a13,F13.binds (by walk_at "b")⟩
 have F14:=a_y (st:=b_q) l14 c14 k14
 have D14:FD K mg "check_moment" b_q ["thing"] _ _:=⟨F14,mg_of X G a14,F14.binds (by walk_at "b")⟩
 have F15:=a_y (st:=b_W) l15 c15 k15
 have D15:FD K mg "check_deeds" b_W ["thing"] _ _:=⟨F15,mg_of X G a15,F15.binds (by walk_at "b")⟩
 have F16:=a_y (st:=b_w) l16 c16 k16
 have D16:FD K mg "check_runner" b_w ["thing"] _ _:=⟨F16,mg_of X G a16,F16.binds (by walk_at "b")⟩
 have F17:=a_y (st:=c_g) l17 c17 k17
 have D17:FD K mg "check_term" c_g ["thing"] _ _:=⟨F17,mg_of X G a17,F17.binds (by walk_at "b")⟩
 have F18:=a_y (st:=g_K) l18 c18 k18
 have D18:FD K mg "shown" g_K ["zone","moment"] _ _:=⟨F18,mg_of X G a18,F18.binds (by walk_at "b")⟩
 have F19:=a_y (st:=c_O) l19 c19 k19
 have D19:FD K mg "stretches" c_O ["zone"] _ _:=⟨F19,mg_of X G a19,F19.binds (by walk_at "b")⟩
 have F20:=a_y (st:=b_R) l20 c20 k20
 have D20:FD K mg "is_ahead_of" b_R ["moment","end"] _ _:=⟨F20,mg_of X G a20,F20.binds (by walk_at "b")⟩
 have F21:=a_y (st:=b_h) l21 c21 k21
 have D21:FD K mg "first_showing" b_h ["zone","hours"] _ _:=⟨F21,mg_of X G a21,F21.binds (by walk_at "b")⟩
 have F22:=a_y (st:=c_A) l22 c22 k22
 have D22:FD K mg "first_day" c_A ["zone","hour"] _ _:=⟨F22,mg_of X G a22,F22.binds (by walk_at "b")⟩
 have F23:=a_y (st:=c_d) l23 c23 k23
 have D23:FD K mg "daily_time" c_d ["zone","hour","count"] _ _:=⟨F23,mg_of X G a23,F23.binds (by walk_at "b")⟩
 have F24:=a_y (st:=e_p) l24 c24 k24
 have D24:FD K mg "time_of" e_p ["zone","plan","count"] _ _:=⟨F24,mg_of X G a24,F24.binds (by walk_at "b")⟩
 have F25:=a_y (st:=b_Q) l25 c25 k25
 have D25:FD K mg "is_left_out" b_Q ["zone","deed","count","now"] _ _:=⟨F25,mg_of X G a25,F25.binds (by walk_at "b")⟩
 have F26:=a_y (st:=b_9) l26 c26 k26
 have D26:MD K C_ "__init__" "Hall.__init__" b_9 ["self","zone","deeds"] _ _:=⟨F26,⟨a26,i26,k26⟩,F26.binds (by walk_at "b")⟩
 have F27:=a_y (st:=c_C) l27 c27 k27
 have D27:MD K C_ "is_held" "Hall.is_held" c_C ["self","moment"] _ _:=⟨F27,⟨a27,i27,k27⟩,F27.binds (by walk_at "b")⟩
 have F28:=a_y (st:=b_v) l28 c28 k28
 have D28:MD K C_ "check_call" "Hall.check_call" b_v ["self","runner","moment"] _ _:=⟨F28,⟨a28,i28,k28⟩,F28.binds (by walk_at "b")⟩
 have F29:=a_y (st:=a_8) l29 c29 k29
 have D29:MD K C_ "check_holder" "Hall.check_holder" a_8 ["self","runner","moment"] _ _:=⟨F29,⟨a29,i29,k29⟩,F29.binds (by walk_at "b")⟩
 have F30:=a_y (st:=f_r) l30 c30 k30
 have D30:MD K C_ "take" "Hall.take" f_r ["self","runner","moment","term"] _ _:=⟨F30,⟨a30,i30,k30⟩,F30.binds (by walk_at "b")⟩
 have F31:=a_y (st:=f_p) l31 c31 k31
 have D31:MD K C_ "give" "Hall.give" f_p ["self","runner","moment"] _ _:=⟨F31,⟨a31,i31,k31⟩,F31.binds (by walk_at "b")⟩
 have F32:=a_y (st:=c_Q) l32 c32 k32
 have D32:MD K C_ "add_row" "Hall.add_row" c_Q ["self","row"] _ _:=⟨F32,⟨a32,i32,k32⟩,F32.binds (by walk_at "b")⟩
 have F33:=a_y (st:=c_E) l33 c33 k33
 have D33:MD K C_ "is_busy" "Hall.is_busy" c_E ["self"] _ _:=⟨F33,⟨a33,i33,k33⟩,F33.binds (by walk_at "b")⟩
 have F34:=a_y (st:=a_Q) l34 c34 k34
 have D34:MD K C_ "first_unsettled" "Hall.first_unsettled" a_Q ["self"] _ _:=⟨F34,⟨a34,i34,k34⟩,F34.binds (by walk_at "b")⟩
 have F35:=a_y (st:=f_s) l35 c35 k35
 have D35:MD K C_ "step" "Hall.step" f_s ["self","runner","moment"] _ _:=⟨F35,⟨a35,i35,k35⟩,F35.binds (by walk_at "b")⟩
 have F36:=a_y (st:=a_H) l36 c36 k36
 have D36:MD K C_ "step_behind_a_fall" "Hall.step_behind_a_fall" a_H ["self","runner","moment"] _ _:=⟨F36,⟨a36,i36,k36⟩,F36.binds (by walk_at "b")⟩
 have F37:=a_y (st:=b_r) l37 c37 k37
 have D37:MD K C_ "step_ahead" "Hall.step_ahead" b_r ["self","runner","moment"] _ _:=⟨F37,⟨a37,i37,k37⟩,F37.binds (by walk_at "b")⟩
 have F38:=a_y (st:=d_o) l38 c38 k38
 have D38:MD K C_ "finish" "Hall.finish" d_o ["self","runner","moment"] _ _:=⟨F38,⟨a38,i38,k38⟩,F38.binds (by walk_at "b")⟩
 have F39:=a_y (st:=f_o) l39 c39 k39
 have D39:MD K C_ "held" "Hall.held" f_o ["self"] _ _:=⟨F39,⟨a39,i39,k39⟩,F39.binds (by walk_at "b")⟩
 have F40:=a_y (st:=g_R) l40 c40 k40
 have D40:MD K C_ "log" "Hall.log" g_R ["self"] _ _:=⟨F40,⟨a40,i40,k40⟩,F40.binds (by walk_at "b")⟩
 have F41:=a_y (st:=e_d) l41 c41 k41
 have D41:MD K C_ "saved" "Hall.saved" e_d ["self"] _ _:=⟨F41,⟨a41,i41,k41⟩,F41.binds (by walk_at "b")⟩
 have F42:=a_y (st:=g_0) l42 c42 k42
 have D42:FD K mg "woken" g_0 ["thing"] _ _:=⟨F42,mg_of X G a42,F42.binds (by walk_at "b")⟩
 have F43:=a_y (st:=d_r) l43 c43 k43
 have D43:FD K mg "catch_up" d_r ["hall","runner","moment","most"] _ _:=⟨F43,mg_of X G a43,F43.binds (by walk_at "b")⟩
 have F44:=a_y (st:=b_s) l44 c44 k44
 have D44:FD K mg "_law_cell_at" b_s ["_law_script","_law_k"] _ _:=⟨F44,mg_of X G a44,F44.binds (by walk_at "b")⟩
 have F45:=a_y (st:=c_h) l45 c45 k45
 have D45:FD K mg "_law_mixed" c_h ["_law_script","_law_k","_law_many"] _ _:=⟨F45,mg_of X G a45,F45.binds (by walk_at "b")⟩
 have F46:=a_y (st:=c_D) l46 c46 k46
 have D46:FD K mg "_law_draw" c_D ["_law_script","_law_town","_law_many"] _ _:=⟨F46,mg_of X G a46,F46.binds (by walk_at "b")⟩
 have F47:=a_y (st:=c_N) l47 c47 k47
 have D47:FD K mg "_law_pick" c_N ["_law_script","_law_town","_law_some"] _ _:=⟨F47,mg_of X G a47,F47.binds (by walk_at "b")⟩
 have F48:=a_y (st:=c_P) l48 c48 k48
 have D48:FD K mg "_law_zone" c_P ["_law_script","_law_town"] _ _:=⟨F48,mg_of X G a48,F48.binds (by walk_at "b")⟩
 have F49:=a_y (st:=c_F) l49 c49 k49
 have D49:FD K mg "_law_plan" c_F ["_law_script","_law_town"] _ _:=⟨F49,mg_of X G a49,F49.binds (by walk_at "b")⟩
 have F50:=a_y (st:=c_j) l50 c50 k50
 have D50:FD K mg "_law_deeds" c_j ["_law_script","_law_town"] _ _:=⟨F50,mg_of X G a50,F50.binds (by walk_at "b")⟩
 have F51:=a_y (st:=c_B) l51 c51 k51
 have D51:FD K mg "_law_call" c_B ["_law_script","_law_town","_law_now","_law_holder"] _ _:=⟨F51,mg_of X G a51,F51.binds (by walk_at "b")⟩
 have F52:=a_y (st:=c_e) l52 c52 k52
 have D52:FD K mg "_law_which" c_e ["_law_e"] _ _:=⟨F52,mg_of X G a52,F52.binds (by walk_at "b")⟩
 have F53:=a_y (st:=e_m) l53 c53 k53
 have D53:FD K mg "_law_do" e_m ["_law_hall","_law_call_here"] _ _:=⟨F53,mg_of X G a53,F53.binds (by walk_at "b")⟩
 have F54:=a_y (st:=k_v) l54 c54 k54
 have D54:FD K mg "law" k_v ["_law_script"] _ _:=⟨F54,mg_of X G a54,F54.binds (by walk_at "b")⟩
 have HC:HCx K mg C_:={
  cl:=⟨pg_,hd_,po_,sa_⟩
  mg:=mg_of X G a_Hall
  mks:=mks_
  kpC:=kpC_
  d1v:=n_begun
  d1w:=n_deeds
  d1x:=n_holder
  d1y:=n_holds
  d1z:=n_last
  d20:=n_rows
  d21:=n_settled
  d22:=n_until
  d23:=n_words
  d24:=n_zone
  d25:=⟨_,_,D26⟩
  d26:=⟨_,_,D27⟩
  d27:=⟨_,_,D28⟩
  d28:=⟨_,_,D29⟩
  d29:=⟨_,_,D30⟩
  d2a:=⟨_,_,D31⟩
  d2b:=⟨_,_,D32⟩
  d2c:=⟨_,_,D33⟩
  d2d:=⟨_,_,D34⟩
  d2e:=⟨_,_,D35⟩
  d2f:=⟨_,_,D36⟩
  d2g:=⟨_,_,D37⟩
  d2h:=⟨_,_,D38⟩
  d2i:=⟨_,_,D39⟩
  d2j:=⟨_,_,D40⟩
  d2k:=⟨_,_,D41⟩
 }
 have T:Tx K mg:={
  d00:=⟨_,_,D0⟩
  d01:=⟨_,_,D1⟩
  d02:=⟨_,_,D2⟩
  d03:=⟨_,_,D3⟩
  d04:=⟨_,_,D4⟩
  d05:=⟨_,_,D5⟩
  d06:=⟨_,_,D6⟩
  d07:=⟨_,_,D7⟩
  d08:=⟨_,_,D8⟩
  d09:=⟨_,_,D9⟩
  d0a:=⟨_,_,D10⟩
  d0b:=⟨_,_,D11⟩
  d0c:=⟨_,_,D12⟩
  d0d:=⟨_,_,D13⟩
  d0e:=⟨_,_,D14⟩
  d0f:=⟨_,_,D15⟩
  d0g:=⟨_,_,D16⟩
  d0h:=⟨_,_,D17⟩
  d0i:=⟨_,_,D18⟩
  d0j:=⟨_,_,D19⟩
  d0k:=⟨_,_,D20⟩
  d0l:=⟨_,_,D21⟩
  d0m:=⟨_,_,D22⟩
  d0n:=⟨_,_,D23⟩
  d0o:=⟨_,_,D24⟩
  d0p:=⟨_,_,D25⟩
  d0q:=⟨_,_,D42⟩
  d0r:=⟨_,_,D43⟩
  d0s:=⟨_,_,D44⟩
  d0t:=⟨_,_,D45⟩
  d0u:=⟨_,_,D46⟩
  d0v:=⟨_,_,D47⟩
  d0w:=⟨_,_,D48⟩
  d0x:=⟨_,_,D49⟩
  d0y:=⟨_,_,D50⟩
  d0z:=⟨_,_,D51⟩
  d10:=⟨_,_,D52⟩
  d11:=⟨_,_,D53⟩
  d12:=⟨_,mg_of X G v2_⟩
  d13:=⟨_,mg_of X G v8_⟩
  d14:=⟨_,mg_of X G v1_⟩
  d15:=⟨_,mg_of X G v6_⟩
  d16:=⟨_,mg_of X G v3_⟩
  d17:=⟨_,mg_of X G v9_⟩
  d18:=⟨_,mg_of X G v5_⟩
  d19:=⟨_,mg_of X G v0_⟩
  d1a:=⟨_,mg_of X G v4_⟩
  d1b:=⟨_,mg_of X G v10_⟩
  d1c:=⟨_,mg_of X G v11_⟩
  d1d:=⟨_,mg_of X G v13_⟩
  d1e:=⟨_,mg_of X G v14_⟩
  d1f:=⟨_,mg_of X G v12_⟩
  d1g:=⟨_,mg_of X G v7_⟩
  d1h:=mg_none_of X G z1_
  d1i:=mg_none_of X G z8_
  d1j:=mg_none_of X G z6_
  d1k:=mg_none_of X G z2_
  d1l:=mg_none_of X G z10_
  d1m:=mg_none_of X G z0_
  d1n:=mg_none_of X G z12_
  d1o:=mg_none_of X G z5_
  d1p:=mg_none_of X G z11_
  d1q:=mg_none_of X G z9_
  d1r:=mg_none_of X G z3_
  d1s:=mg_none_of X G z13_
  d1t:=mg_none_of X G z4_
  d1u:=mg_none_of X G z7_
  xt0:=⟨D_,⟨⟨mg_of X G a_Due,a_Due,x_Due⟩,x_tab,fun c C e=>mg_of X G e⟩⟩
 }
 exact ⟨fnOf "law" "law" (g_I k_v) (f_k k_v) (a_d k_v) .none kV54 dc54 pm54 an54 cd54 ct54,fun s v=>.of_eq rfl,fun base _ _=>(t_x _ _ _ T HC D54).imp fun vs H Q E h=>u_u (fun ns hn=>p_R hn) h⟩
theorem law_walk {l:PySem.W.OpenLaw} {q:Program} {loose:List Str} {XP:(Str->Option Value)->Heap->Prop} {YP:World->Heap->Prop} {d:DefRec} {K:Params->PySem.W.Frag} (hn:l.most=some 63) (hdf:d.params.defaults=[])
  (hY:∀ (w:World) (h:Heap),YP w h->(K w.params).In h)
  (F:∀ (w:World) (mg:Str->Option Value) (fa:Addr) (h:Heap),(K w.params).In h->h.Ns mainGlobals mg->mg d.name=some (.ref fa)->
   ∃ fd:FuncData,(∀ (s:Shared) (u:Value),BindsTo s fd ⟨[u],[]⟩ [("_law_script",u)])/\∀ base:Heap,(K w.params).In base->base.Ns mainGlobals mg->FnOk l.prog w (K w.params) mg base (CXM l.prog w) 10 fa fd ["_law_script"] (spL (K w.params))) :
  PySem.W.WalkO q loose XP YP l.row.toRowW d [] (fun f vs=>PySem.call f vs):=by
 refine L2.walk_of (n:=63) (k:=10) (x:="_law_script") (CX:=fun w=>CXM l.prog w) (sp:=fun w=>spL (K w.params)) hn (by decide) hdf ⟨rfl,by decide,by decide⟩ hY F (fun w H a ns hl hO hS=>?hsp) fun _ _ _ _ _ ⟨_,_,_,_,_,_,_,_,_,z⟩=>z
 refine ⟨a,ns,rfl,⟨hl,?_⟩,fun _=>rfl⟩
 rcases hS with (h1 | h1) | h1
 ·rcases hO a with h2 | ⟨o,xs,h2⟩
  ·rw [h2] at h1; cases h1
  ·rw [h2] at h1; cases h1
 ·exact .inl h1
 ·exact .inr h1
end K3
namespace PySem.W.Fast
def tw10148905286488476491:=()
def tw10965714976845163532:=()
def tw11008403113616467667:=()
def tw12063871545539837918:=()
def tw12609243415281221108:=()
def tw13052265643124772987:=()
def tw1324812228622708492:=()
def tw13319981861595628247:=()
def tw13456035265536888534:=()
def tw13941205181935665041:=()
def tw14267210234951513858:=()
def tw14366779997913230240:=()
def tw14567414731647577314:=()
def tw14916697229737399713:=()
def tw15801154043509256762:=()
def tw16613806374318366303:=()
def tw16789700475141568111:=()
def tw16809953301806232734:=()
def tw16958077449366993273:=()
def tw17475755549084563962:=()
def tw17782178638564662538:=()
def tw18207809605227557892:=()
def tw18247659689627828587:=()
def tw2003981687445827018:=()
def tw2050516030650579502:=()
def tw2084131478337998529:=()
def tw2154701547676135242:=()
def tw3144623749234202054:=()
def tw3258969281539251525:=()
def tw3817375915375016680:=()
def tw3845524489108663416:=()
def tw4160379440020696779:=()
def tw4578177049134638820:=()
def tw4696886808352022808:=()
def tw4914446044540995114:=()
def tw5346792862548175903:=()
def tw5605712343263571043:=()
def tw6116182867411852094:=()
def tw626087067660007702:=()
def tw647214876417205178:=()
def tw6642220106982702759:=()
def tw6870567492919089813:=()
def tw6933619729363309871:=()
def tw7868598855708127457:=()
def tw8977625619970958627:=()
def tw9174281678087835779:=()
def tw9437135454257789506:=()
def tw9462168707022482181:=()
end PySem.W.Fast
open PySem PySem.W PyProof.Rows
set_option maxRecDepth 100000 in
set_option maxHeartbeats 0 in
theorem PySem.Challenge.cw_duehall_k15_whole_caught_up_holds : PySem.Challenge.rw_duehall_k15_whole_caught_up.Holds := by
  w_on; o_law; k_head; (case hw => w_witness2)
  k_fill
  refine K3.law_walk (l := PySem.Challenge.rw_duehall_k15_whole_caught_up) rfl rfl (fun w h Y => PySem.W.kIn_of Y) ?F
  case F =>
    intro w mg fa h KX G hmg
    refine' K3.all_mk KX G hmg ?a_Hall ?a0 ?l0 ?c0 ?k0 ?a1 ?l1 ?c1 ?k1 ?a2 ?l2 ?c2 ?k2 ?a3 ?l3 ?c3 ?k3 ?a4 ?l4 ?c4 ?k4 ?a5 ?l5 ?c5 ?k5 ?a6 ?l6 ?c6 ?k6 ?a7 ?l7 ?c7 ?k7 ?a8 ?l8 ?c8 ?k8 ?a9 ?l9 ?c9 ?k9 ?a10 ?l10 ?c10 ?k10 ?a11 ?l11 ?c11 ?k11 ?a12 ?l12 ?c12 ?k12 ?a13 ?l13 ?c13 ?k13 ?a14 ?l14 ?c14 ?k14 ?a15 ?l15 ?c15 ?k15 ?a16 ?l16 ?c16 ?k16 ?a17 ?l17 ?c17 ?k17 ?a18 ?l18 ?c18 ?k18 ?a19 ?l19 ?c19 ?k19 ?a20 ?l20 ?c20 ?k20 ?a21 ?l21 ?c21 ?k21 ?a22 ?l22 ?c22 ?k22 ?a23 ?l23 ?c23 ?k23 ?a24 ?l24 ?c24 ?k24 ?a25 ?l25 ?c25 ?k25 ?a26 ?i26 ?l26 ?c26 ?k26 ?a27 ?i27 ?l27 ?c27 ?k27 ?a28 ?i28 ?l28 ?c28 ?k28 ?a29 ?i29 ?l29 ?c29 ?k29 ?a30 ?i30 ?l30 ?c30 ?k30 ?a31 ?i31 ?l31 ?c31 ?k31 ?a32 ?i32 ?l32 ?c32 ?k32 ?a33 ?i33 ?l33 ?c33 ?k33 ?a34 ?i34 ?l34 ?c34 ?k34 ?a35 ?i35 ?l35 ?c35 ?k35 ?a36 ?i36 ?l36 ?c36 ?k36 ?a37 ?i37 ?l37 ?c37 ?k37 ?a38 ?i38 ?l38 ?c38 ?k38 ?a39 ?i39 ?l39 ?c39 ?k39 ?a40 ?i40 ?l40 ?c40 ?k40 ?a41 ?i41 ?l41 ?c41 ?k41 ?a42 ?l42 ?c42 ?k42 ?a43 ?l43 ?c43 ?k43 ?a44 ?l44 ?c44 ?k44 ?a45 ?l45 ?c45 ?k45 ?a46 ?l46 ?c46 ?k46 ?a47 ?l47 ?c47 ?k47 ?a48 ?l48 ?c48 ?k48 ?a49 ?l49 ?c49 ?k49 ?a50 ?l50 ?c50 ?k50 ?a51 ?l51 ?c51 ?k51 ?a52 ?l52 ?c52 ?k52 ?a53 ?l53 ?c53 ?k53 ?a54 ?l54 ?c54 ?k54 ?v2_ ?v8_ ?v1_ ?v6_ ?v3_ ?v9_ ?v5_ ?v0_ ?v4_ ?v10_ ?v11_ ?v13_ ?v14_ ?v12_ ?v7_ ?z1_ ?z8_ ?z6_ ?z2_ ?z10_ ?z0_ ?z12_ ?z5_ ?z11_ ?z9_ ?z3_ ?z13_ ?z4_ ?z7_ ?pg_ ?hd_ ?po_ ?sa_ ?mks_ ?kpC_ ?n_begun ?n_deeds ?n_holder ?n_holds ?n_last ?n_rows ?n_settled ?n_until ?n_words ?n_zone ?a_Due ?x_Due ?x_tab
    (case a_Hall|a0|l0|c0|k0|a1|l1|c1|k1|a2|l2|c2|k2|a3|l3|c3|k3|a4|l4|c4|k4|a5|l5|c5|k5|a6|l6|c6|k6|a7|l7|c7|k7|a8|l8|c8|k8|a9|l9|c9|k9|a10|l10|c10|k10|a11|l11|c11|k11|a12|l12|c12|k12|a13|l13|c13|k13|a14|l14|c14|k14|a15|l15|c15|k15|a16|l16|c16|k16|a17|l17|c17|k17|a18|l18|c18|k18|a19|l19|c19|k19|a20|l20|c20|k20|a21|l21|c21|k21|a22|l22|c22|k22|a23|l23|c23|k23|a24|l24|c24|k24|a25|l25|c25|k25|a26|i26|l26|c26|k26|a27|i27|l27|c27|k27|a28|i28|l28|c28|k28|a29|i29|l29|c29|k29|a30|i30|l30|c30|k30|a31|i31|l31|c31|k31|a32|i32|l32|c32|k32|a33|i33|l33|c33|k33|a34|i34|l34|c34|k34|a35|i35|l35|c35|k35|a36|i36|l36|c36|k36|a37|i37|l37|c37|k37|a38|i38|l38|c38|k38|a39|i39|l39|c39|k39|a40|i40|l40|c40|k40|a41|i41|l41|c41|k41|a42|l42|c42|k42|a43|l43|c43|k43|a44|l44|c44|k44|a45|l45|c45|k45|a46|l46|c46|k46|a47|l47|c47|k47|a48|l48|c48|k48|a49|l49|c49|k49|a50|l50|c50|k50|a51|l51|c51|k51|a52|l52|c52|k52|a53|l53|c53|k53|a54|l54|c54|k54|v2_|v8_|v1_|v6_|v3_|v9_|v5_|v0_|v4_|v10_|v11_|v13_|v14_|v12_|v7_|z1_|z8_|z6_|z2_|z10_|z0_|z12_|z5_|z11_|z9_|z3_|z13_|z4_|z7_|pg_|hd_|po_|sa_|mks_|kpC_|n_begun|n_deeds|n_holder|n_holds|n_last|n_rows|n_settled|n_until|n_words|n_zone|a_Due => (first | unfold K3.LK | unfold K3.NI | unfold K3.NV | unfold K3.NZ | unfold K3.KI | skip); k_is)
    (case x_Due => first | kernel_rfl | rfl)
    (case x_tab => first | kernel_rfl | rfl)
