import PyProof.Rows.All
import Wide.All
import OpenK.AllK
import Wide.FinOn
import Lean
import PyProof.EqAt
import PyProof.EqKinds
import PyProof.TupleCall
import PySem.Challenge.RW_duehall_k32_whole_how_late
set_option Elab.async false
set_option linter.all false
set_option maxRecDepth 100000
theorem Qaa:type_of% @PySem.wpAny_bind:=@PySem.wpAny_bind
theorem Qab:type_of% @PySem.wpAny_pure:=@PySem.wpAny_pure
theorem Qac:type_of% @PySem.Heap.get?_push_of_some:=@PySem.Heap.get?_push_of_some
theorem Qad:type_of% @PySem.Heap.lt_size:=@PySem.Heap.lt_size
theorem Qae:type_of% @Nat.le_refl:=@Nat.le_refl
theorem Qai:type_of% @List.mem_append_right:=@List.mem_append_right
theorem Qaj:type_of% @List.mem_append_left:=@List.mem_append_left
theorem Qak:type_of% @List.mem_cons_of_mem:=@List.mem_cons_of_mem
open PySem.W (instObj Frag plainGet findIn isFn emptyDict keepIn kitOne kia_one fnOf codeIn nsIn excIn mg_of mg_none_of)
namespace L2
open PySem PySem.Spec PyProof.Rows
noncomputable abbrev Key:=Sum Int Str
noncomputable def m_I:Key->Value->Bool
 | .inl k,v=>Value.isInt k v
 | .inr x,v=>Value.isStrOf x v
noncomputable def z_A(w:World):Key->Int
 | .inl k=>hashInt k
 | .inr x=>hashStr w x
theorem b_l:∀{k:Key}{v:Value},m_I k v=true->(∃i t,k=Sum.inl i/\v=Value.int i t)\/(∃x t,k=Sum.inr x/\v=Value.str x t)
 | .inl i,v,h=>by
  obtain⟨t,e⟩:=Value.isInt_shape (k:=i) (v:=v) h
  exact .inl ⟨i,t,rfl,e⟩
 | .inr x,v,h=>by
  obtain⟨t,e⟩:=Value.isStrOf_shape (x:=x) (v:=v) h
  exact .inr ⟨x,t,rfl,e⟩
theorem p_a(i:Int)(t:Tok):m_I (.inl i) (.int i t)=true:=by simp[m_I,Value.isInt]
theorem o_s(x:Str)(t:Tok):m_I (.inr x) (.str x t)=true:=by simp[m_I,Value.isStrOf]
theorem u_s(a b:Int):decide ((Sum.inl a:Key)=Sum.inl b)=(a==b):=by
 by_cases e:a=b
 ·subst e;simp
 ·have h:¬ (Sum.inl a:Key)=Sum.inl b:=fun q=>e (Sum.inl.inj q)
  rw[decide_eq_false h]
  exact(beq_eq_false_iff_ne.mpr e).symm
theorem v_l(a b:Str):decide ((Sum.inr a:Key)=Sum.inr b)=decide (a=b):=by
 by_cases e:a=b
 ·subst e;simp
 ·have h:¬ (Sum.inr a:Key)=Sum.inr b:=fun q=>e (Sum.inr.inj q)
  rw[decide_eq_false h,decide_eq_false e]
theorem v_T(a:Int)(b:Str):decide ((Sum.inl a:Key)=Sum.inr b)=false:=decide_eq_false (fun q=>nomatch q)
theorem t_X(a:Str)(b:Int):decide ((Sum.inr a:Key)=Sum.inl b)=false:=decide_eq_false (fun q=>nomatch q)
noncomputable def c_6(prog:Program)(w:World):PySem.KeyKind prog w Key where
 is:=m_I
 hash:=z_A w
 inj:=fun v a b ha hb=>by
  rcases b_l ha with⟨i,t,rfl,rfl⟩ | ⟨x,t,rfl,rfl⟩
  ·rcases b_l hb with⟨j,u,rfl,e⟩ | ⟨y,u,rfl,e⟩
   ·injection e with e1 _;rw[e1]
   ·exact nomatch e
  ·rcases b_l hb with⟨j,u,rfl,e⟩ | ⟨y,u,rfl,e⟩
   ·exact nomatch e
   ·injection e with e1 _;rw[e1]
 byValue:=fun k v h=>by
  rcases b_l h with⟨i,t,rfl,rfl⟩ | ⟨x,t,rfl,rfl⟩<;>rfl
 pyHash:=fun hv h=>by
  rcases b_l hv with⟨i,t,rfl,rfl⟩ | ⟨x,t,rfl,rfl⟩
  ·exact wpAny_pyHash_int h
  ·exact wpAny_pyHash_str h
 eqBool:=fun hu hv h=>by
  rcases b_l hu with⟨i,t,rfl,rfl⟩ | ⟨x,t,rfl,rfl⟩
  ·rcases b_l hv with⟨j,u,rfl,rfl⟩ | ⟨y,u,rfl,rfl⟩
   ·rw[u_s] at h;exact wpAny_eqBool_int h
   ·rw[v_T] at h;exact SeqAt.EqAt.int_str i t y u _ _ _ _ h
  ·rcases b_l hv with⟨j,u,rfl,rfl⟩ | ⟨y,u,rfl,rfl⟩
   ·rw[t_X] at h;exact SeqAt.EqAt.str_int x t j u _ _ _ _ h
   ·rw[v_l] at h;exact wpAny_eqBool_str h
 «strs»:=fun k x t v h=>by
  rcases b_l h with⟨i,u,rfl,e⟩ | ⟨y,u,rfl,e⟩
  ·exact nomatch e
  ·injection e with e1 _
   subst e1
   cases v<;>rfl
theorem l_i(prog:Program)(w:World)(i:Int)(t:Tok):(c_6 prog w).is (.inl i) (.int i t)=true:=p_a i t
theorem l_s(prog:Program)(w:World)(x:Str)(t:Tok):(c_6 prog w).is (.inr x) (.str x t)=true:=o_s x t
inductive V where
 | non | bl (b:Bool) | int (i:Int) | str (x:Str) | byt (b:Array UInt8) | flt (b:UInt64) | ref (a:Addr) | ty (n:String)
 deriving DecidableEq
noncomputable def c_b:V->Value->Prop
 | .non,u=>u=Value.none
 | .bl b,u=>u=Value.bool b
 | .int i,u=>∃t,u=Value.int i t
 | .str x,u=>∃t,u=Value.str x t
 | .byt b,u=>∃t,u=Value.bytes b t
 | .flt b,u=>∃t,u=Value.float b t
 | .ref a,u=>u=Value.ref a
 | .ty n,u=>u=Value.type n
noncomputable abbrev b_M:List V->List Value->Prop:=Paired c_b
theorem b_M.length{xs:List V}{us:List Value}(r:b_M xs us):xs.length=us.length:=Paired.length r
theorem b_M.get:∀{xs:List V}{us:List Value}{i:Nat}{x:V},b_M xs us->xs[i]? = some x->∃u,us[i]? = some u/\c_b x u
 | _,_,_,_,.nil,e=>by simp at e
 | _,_,0,_,.cons r _,e=>by simp at e;subst e;exact⟨_,rfl,r⟩
 | _,_,i+1,x,.cons _ t,e=>by
  obtain⟨u,h1,h2⟩:=b_M.get (i:=i) (x:=x) t (by simpa using e)
  exact⟨u,by simpa using h1,h2⟩
theorem b_M.set{x:V}{u:Value}(r:c_b x u):∀{xs:List V}{us:List Value}(i:Nat),b_M xs us->b_M (xs.set i x) (us.set i u)
 | _,_,_,.nil=>.nil
 | _,_,0,.cons _ t=>.cons r t
 | _,_,i+1,.cons q t=>.cons q (b_M.set r i t)
theorem b_M.append:∀{xs ys:List V}{us ws:List Value},b_M xs us->b_M ys ws->b_M (xs++ys) (us++ws)
 | _,_,_,_,.nil,s=>s
 | _,_,_,_,.cons r t,s=>.cons r (b_M.append t s)
theorem b_M.take:∀{xs:List V}{us:List Value}(n:Nat),b_M xs us->b_M (xs.take n) (us.take n)
 | _,_,0,_=>.nil
 | _,_,_+1,.nil=>.nil
 | _,_,n+1,.cons r t=>.cons r (b_M.take n t)
theorem b_M.drop:∀{xs:List V}{us:List Value}(n:Nat),b_M xs us->b_M (xs.drop n) (us.drop n)
 | _,_,0,r=>r
 | _,_,_+1,.nil=>.nil
 | _,_,n+1,.cons _ t=>b_M.drop n t
noncomputable def m_L:Option V->Option Value->Prop
 | some v,some u=>c_b v u
 | none,none=>True
 | _,_=>False
noncomputable def KV{κ:Type}:List (κ×V)->List (κ×Value)->Prop:=Paired fun(p:κ×V) (q:κ×Value)=>p.1=q.1/\c_b p.2 q.2
noncomputable def kV:Key->V
 | .inl i=>.int i
 | .inr x=>.str x
inductive HO where
 | lst (xs:List V)
 | tup (xs:List V)
 | dK (kvs:List (Key×V)) | dT (kvs:List (List Key×V))
 | set (S:Int->Bool) (n:Nat)
 | ins (C dx:Addr) (fs:List (Str×V))
 | own (x:Addr)
 | xd (fs:List (Str×V))
 | met (f x:Addr)
 | rng (lo hi:Int)
 | frz (o:Obj) (u:HO)
 | tbl (ps:Array Value)
 | ext (φ:Heap->Prop)
noncomputable abbrev Hp:=Addr->Option HO
noncomputable def upd(H:Hp)(a:Addr)(o:HO):Hp:=fun b=>if b=a then some o else H b
theorem a_A{H:Hp}{a:Addr}{o:HO}:upd H a o a=some o:=by unfold upd;rw[if_pos rfl]
theorem a_u{H:Hp}{a b:Addr}{o:HO}(h:b≠a):upd H a o b=H b:=by unfold upd;rw[if_neg h]
theorem w_2{H:Hp}{a b:Addr}{o u:HO}(h:H a=some o)(h':H b=some u)(d:o≠u):a≠b:=by
 intro e;subst e;rw[h] at h';exact d (Option.some.inj h')
theorem b_h{H:Hp}{a b:Addr}{o:HO}(h:H a=some o)(h':H b=none):a≠b:=by
 intro e;subst e;rw[h] at h';cases h'
section
variable(P:Program)(w:World)
noncomputable def c_V(H:Hp)(h:Heap)(a:Addr):HO->Prop
 | .lst xs=>xs.length<=sizeLine/\∃(its:List Value) (n:Nat),b_M xs its/\h.get? a=some { cls:=.type "list",data:=.seq its.toArray n }
 | .tup xs=>xs.length<=sizeLine/\∃its:List Value,b_M xs its/\IsTup h a its.toArray
 | .dK kvs=>kvs.length<=sizeLine/\(a==sysModules)=false/\∃vs,KV kvs vs/\h.DictOf (c_6 P w) a vs
 | .dT kvs=>kvs.length<=sizeLine/\(a==sysModules)=false/\∃xs:List (List Key×Addr×Value),
   Paired (fun(p:List Key×V) (q:List Key×Addr×Value)=>p.1=q.1/\H q.2.1=some (.tup (p.1.map kV))/\c_b p.2 q.2.2) kvs xs/\
   ∃o es ep,h.get? a=some o/\o.ExactDict/\o.data=.dict es ep/\es.toList=xs.map (entryOfKey (tupleKind (c_6 P w)))/\(xs.map (·.1)).Nodup
 | .set S n=>h.SetOf (intKind P w) a S n
 | .ins C dx fs=>H dx=some (.own a)/\fs.length<=1000/\dx≠a/\h.get? a=some (instObj C dx)/\
   ∃mA,h.Ns1 dx mA/\(∀f,m_L (fs.lookup f) (mA f))/\PySem.Within mA (fs.map (·.1))
 | .own _=>∃o,h.get? a=some o
 | .xd fs=>∃mA,h.Ns1 a mA/\∀f,m_L (fs.lookup f) (mA f)
 | .rng lo hi=>∃t u v,h.get? a=some { cls:=.type "range",data:=.fields #[.int lo t,.int hi u,.int 1 v] }
 | .frz o u=>h.get? a=some o/\c_V H h a u
 | .tbl ps=>h.get? a=some { cls:=.none,data:=.fields ps }
 | .met f x=>h.get? a=some (PySem.W.methodObj (.ref f) (.ref x))
 | .ext φ=>φ h/\(∃o,h.get? a=some o)/\∀h1 h2:Heap,φ h1->(∀o,h1.get? a=some o->h2.get? a=some o)->φ h2
noncomputable def HOk(H:Hp)(h:Heap):Prop:=∀a o,H a=some o->c_V P w H h a o
end
section
variable{P:Program}{w:World}{H H':Hp}{h h':Heap}{a:Addr}{o:HO}
theorem c_V.lt(x:c_V P w H h a o):a<h.objs.size:=by
 cases o with
 | lst xs=>obtain⟨_,_,_,_,e⟩:=x;exact Qad e
 | tup xs=>obtain⟨_,_,_,p⟩:=x;exact p.lt
 | dK kvs=>obtain⟨_,_,_,_,o,_,_,e,_⟩:=x;exact Qad e
 | dT kvs=>obtain⟨_,_,_,_,o,_,_,e,_⟩:=x;exact Qad e
 | set S n=>obtain⟨o,_,_,_,e,_⟩:=x;exact Qad e
 | ins C dx fs=>obtain⟨_,_,_,e,_⟩:=x;exact Qad e
 | own y=>obtain⟨_,e⟩:=x;exact Qad e
 | xd fs=>obtain⟨_,⟨_,_,_,e,_⟩,_⟩:=x;exact Qad e
 | rng lo hi=>obtain⟨_,_,_,e⟩:=x;exact Qad e
 | frz ob u=>obtain⟨e,_⟩:=x;exact Qad e
 | tbl ps=>exact Qad (show h.get? a=some _ from x)
 | met f y=>exact Qad (show h.get? a=some _ from x)
 | ext φ=>obtain⟨_,⟨_,e⟩,_⟩:=x;exact Qad e
theorem Paired.mapP{α β:Type}{F G:α->β->Prop}:∀{l₁:List α}{l₂:List β},Paired F l₁ l₂->(∀a b,F a b->G a b)->Paired G l₁ l₂
 | _,_,.nil,_=>.nil
 | _,_,.cons r t,f=>.cons (f _ _ r) (Paired.mapP t f)
theorem c_V.stay(x:c_V P w H h a o)(k:∀b u,(b=a\/H b=some (.own a))->h.get? b=some u->h'.get? b=some u)
  (ho:∀b,H b=some (.own a)->H' b=some (.own a)) (ht:∀b xs,H b=some (.tup xs)->H' b=some (.tup xs)):c_V P w H' h' a o:=by
 induction o with
 | lst xs=>obtain⟨z,its,n,r,e⟩:=x;exact⟨z,its,n,r,k _ _ (.inl rfl) e⟩
 | tup xs=>obtain⟨z,its,r,ob,e,c⟩:=x;exact⟨z,its,r,ob,k _ _ (.inl rfl) e,c⟩
 | dK kvs=>obtain⟨z,y,vs,r,ob,es,ep,e,c⟩:=x;exact⟨z,y,vs,r,ob,es,ep,k _ _ (.inl rfl) e,c⟩
 | dT kvs=>
  obtain⟨z,y,xs,r,ob,es,ep,e,c⟩:=x
  exact⟨z,y,xs,Paired.mapP r fun p q z=>⟨z.1,ht _ _ z.2.1,z.2.2⟩,ob,es,ep,k _ _ (.inl rfl) e,c⟩
 | set S n=>obtain⟨ob,es,ep,t,e,c⟩:=x;exact⟨ob,es,ep,t,k _ _ (.inl rfl) e,c⟩
 | ins C dx fs=>
  obtain⟨d,z,ne,e,mA,⟨od,es,ep,e2,c⟩,r⟩:=x
  exact⟨ho _ d,z,ne,k _ _ (.inl rfl) e,mA,⟨od,es,ep,k _ _ (.inr d) e2,c⟩,r⟩
 | own y=>obtain⟨ob,e⟩:=x;exact⟨ob,k _ _ (.inl rfl) e⟩
 | xd fs=>obtain⟨mA,⟨od,es,ep,e,c⟩,r⟩:=x;exact⟨mA,⟨od,es,ep,k _ _ (.inl rfl) e,c⟩,r⟩
 | rng lo hi=>obtain⟨t,u,v,e⟩:=x;exact⟨t,u,v,k _ _ (.inl rfl) e⟩
 | frz ob u ih=>obtain⟨e,q⟩:=x;exact⟨k _ _ (.inl rfl) e,ih q⟩
 | tbl ps=>
  have e:h.get? a=some { cls:=.none,data:=.fields ps }:=x
  show h'.get? a=some { cls:=.none,data:=.fields ps }
  exact k a _ (.inl rfl) e
 | met f y=>
  have e:h.get? a=some (PySem.W.methodObj (.ref f) (.ref y)):=x
  show h'.get? a=some (PySem.W.methodObj (.ref f) (.ref y))
  exact k a _ (.inl rfl) e
 | ext φ=>obtain⟨p,⟨o,e⟩,st⟩:=x;exact⟨st _ _ p fun o q=>k _ _ (.inl rfl) q,⟨o,k _ _ (.inl rfl) e⟩,st⟩
theorem HOk.lt(x:HOk P w H h)(e:H a=some o):a<h.objs.size:=(x a o e).lt
theorem HOk.fresh(x:HOk P w H h)(e:h.objs.size<=a):H a=none:=by
 cases q:H a with
 | none=>rfl
 | some u=>exact absurd (Nat.lt_of_lt_of_le (x.lt q) e) (Nat.lt_irrefl _)
theorem HOk.kept(x:HOk P w H h)(k:∀b u,h.get? b=some u->h'.get? b=some u):HOk P w H h':=fun a o e=>
 (x a o e).stay (fun b u _ q=>k b u q) (fun _ q=>q) fun _ _ q=>q
theorem HOk.laid(x:HOk P w H h)(k:∀b u,h.get? b=some u->h'.get? b=some u)(hp:h.objs.size<=a)(new:c_V P w (upd H a o) h' a o):HOk P w (upd H a o) h':=fun b u e=>by
 have hn:=x.fresh hp
 by_cases hb:b=a
 ·subst hb;rw[a_A] at e;cases e;exact new
 ·rw[a_u hb] at e
  exact(x b u e).stay (fun c v _ q=>k c v q) (fun c q=>by rw[a_u (b_h q hn)];exact q) fun c xs q=>by rw[a_u (b_h q hn)];exact q
end
noncomputable def Rd(H:Hp)(a:Addr)(u:HO):Prop:=H a=some u\/∃o,H a=some (.frz o u)
theorem Rd.ok{P:Program}{w:World}{H:Hp}{h:Heap}{a:Addr}{u:HO}(r:Rd H a u)(x:HOk P w H h):c_V P w H h a u:=by
 rcases r with r | ⟨o,r⟩
 ·exact x a u r
 ·obtain⟨_,q⟩:=x a _ r
  exact q
noncomputable def Mut:Option HO->Prop
 | some (.lst _)=>True
 | some (.dK _)=>True
 | some (.dT _)=>True
 | some (.set _ _)=>True
 | some (.ins _ _ _)=>True
 | some (.ext _)=>True
 | _=>False
section
variable{P:Program}{w:World}{H:Hp}{h h':Heap}{x e:Addr}{o':HO}
theorem HOk.write(ok:HOk P w H h)(mu:Mut (H x))(he:e=x\/H e=some (.own x))(k:∀b u,b≠e->h.get? b=some u->h'.get? b=some u)(heo:∃u,h'.get? e=some u)
  (new:c_V P w (upd H x o') h' x o'):HOk P w (upd H x o') h':=fun b u q=>by
 have nown:∀c y,H c=some (.own y)->c≠x:=fun c y r z=>by subst z;rw[r] at mu;exact mu
 have ntup:∀c xs,H c=some (.tup xs)->c≠x:=fun c xs r z=>by subst z;rw[r] at mu;exact mu
 by_cases hb:b=x
 ·subst hb;rw[a_A] at q;cases q;exact new
 ·rw[a_u hb] at q
  by_cases hbe:b=e
  ·have q':H b=some (.own x):=by
    rcases he with z | z
    ·exact absurd (hbe.trans z) hb
    ·rw[hbe];exact z
   rw[q] at q';cases q'
   obtain⟨v,hv⟩:=heo
   exact⟨v,by rw[hbe];exact hv⟩
  ·refine(ok b u q).stay (fun c v hc r=>k c v ?_ r) (fun c r=>by rw[a_u (nown c b r)];exact r) fun c xs r=>by rw[a_u (ntup c xs r)];exact r
   rcases hc with rfl | hc
   ·exact hbe
   ·rintro rfl
    rcases he with z | z
    ·exact nown c b hc z
    ·rw[hc] at z;cases z;exact hb rfl
end
structure Un (fs ex:List Addr) (H H':Hp) (h h':Heap):Prop where
 keep:∀b o,h.get? b=some o->H b=none->b∉fs->b∉ex->h'.get? b=some o
 slot:∀b o,h.get? b=some o->H b=none->b∈fs->b∉ex->∃sl,h'.get? b=some { o with slots:=sl }
 free:∀b o,h.get? b=some o->H b=none->b∉ex->H' b=none
 there:∀b o,h.get? b=some o->b∉ex->∃o',h'.get? b=some o'
 tups:∀b xs,H b=some (.tup xs)->H' b=some (.tup xs)
 frzs:∀b o u,H b=some (.frz o u)->H' b=some (.frz o u)
 tbls:∀b ps,H b=some (.tbl ps)->∃more,H' b=some (.tbl (ps++more))
section
variable{fs fs' ex ex':List Addr}{H H1 H2:Hp}{h h1 h2 h':Heap}{a x e:Addr}{o:HO}
theorem Un.any(u:Un fs ex H H1 h h1){b:Addr}{ob:Obj}(q:h.get? b=some ob)(n:H b=none)(hx:b∉ex):∃sl,h1.get? b=some { ob with slots:=sl }:=by
 by_cases hb:b∈fs
 ·exact u.slot b ob q n hb hx
 ·exact⟨ob.slots,u.keep b ob q n hb hx⟩
theorem Un.kept(k:∀b u,h.get? b=some u->h'.get? b=some u):Un fs ex H H h h':=
 ⟨fun b ob q _ _ _=>k b ob q,fun b ob q _ _ _=>⟨ob.slots,k b ob q⟩,fun _ _ _ n _=>n,fun b ob q _=>⟨ob,k b ob q⟩,fun _ _ q=>q,fun _ _ _ q=>q,fun _ ps q=>⟨#[],by rw[q];simp⟩⟩
theorem Un.refl:Un fs ex H H h h:=Un.kept fun _ _ q=>q
theorem Un.laid(k:∀b u,h.get? b=some u->h'.get? b=some u)(hp:h.objs.size<=a)(hn:H a=none):Un fs ex H (upd H a o) h h' where
 keep:=fun b u q _ _ _=>k b u q
 slot:=fun b u q _ _ _=>⟨u.slots,k b u q⟩
 free:=fun b u q n _=>by rw[a_u (Nat.ne_of_lt (Nat.lt_of_lt_of_le (Qad q) hp))];exact n
 there:=fun b u q _=>⟨u,k b u q⟩
 tups:=fun b xs q=>by rw[a_u (b_h q hn)];exact q
 frzs:=fun b u xs q=>by rw[a_u (b_h q hn)];exact q
 tbls:=fun b ps q=>⟨#[],by rw[a_u (b_h q hn),q];simp⟩
theorem Un.write(mu:Mut (H x))(he:e=x\/H e=some (.own x))(k:∀b u,b≠e->h.get? b=some u->h'.get? b=some u)(heo:∃u,h'.get? e=some u):Un fs ex H (upd H x o) h h':=by
 have hx:∀b,H b=none->b≠x:=fun b n z=>by subst z;rw[n] at mu;exact mu
 have hb:∀b,H b=none->b≠e:=fun b n z=>by
  subst z
  rcases he with r | r
  ·exact hx b n r
  ·rw[n] at r;cases r
 have hm:∀b u,H b=some u->¬ Mut (some u)->b≠x:=fun b u q nm z=>by subst z;rw[q] at mu;exact nm mu
 refine⟨fun b u q n _ _=>k b u (hb b n) q,fun b u q n _ _=>⟨u.slots,k b u (hb b n) q⟩,fun b u q n _=>by rw[a_u (hx b n)];exact n,fun b u q _=>?_,
  fun b xs q=>by rw[a_u (hm b _ q fun z=>z)];exact q,fun b u xs q=>by rw[a_u (hm b _ q fun z=>z)];exact q,fun b ps q=>⟨#[],by rw[a_u (hm b _ q fun z=>z),q];simp⟩⟩
 by_cases hbe:b=e
 ·subst hbe;exact heo
 ·exact⟨u,k b u hbe q⟩
end
noncomputable def trk(h:Heap)(H:Hp):List Addr:=(List.range h.objs.size).filter fun a=>(H a).isSome
noncomputable def p_4(h:Heap)(H:Hp):Heap:=PySem.W.hideAll h (trk h H)
theorem n_2(h:Heap)(H:Hp):(p_4 h H).objs.size=h.objs.size:=PySem.W.hideAll_size _ _
theorem q_q{h:Heap}{H:Hp}{b:Addr}{o:Obj}(e:h.get? b=some o)(n:H b=none):(p_4 h H).get? b=some o:=
 PySem.W.hideAll_get _ e fun hm=>by
  have q:(H b).isSome=true:=(List.mem_filter.mp hm).2
  rw[n] at q;simp at q
theorem s_8{h:Heap}{H:Hp}{b:Addr}{o:Obj}(e:(p_4 h H).get? b=some o):h.get? b=some o/\H b=none:=by
 have e':h.get? b=some o:=PySem.W.of_hideAll (trk h H) e
 refine⟨e',?_⟩
 cases q:H b with
 | none=>rfl
 | some x=>
  have hm:b∈trk h H:=List.mem_filter.mpr ⟨List.mem_range.mpr (Qad e'),by simp[q]⟩
  have z:(p_4 h H).get? b=none:=PySem.W.hideAll_none (trk h H) hm
  rw[z] at e;cases e
structure Mod (K:Frag) (mg:Str->Option Value) (base:Heap):Prop where
 kin:K.In base
 glob:base.Ns mainGlobals mg
 blt:∃mb,base.Ns builtinsNs mb/\∀x:Str,x≠"__name__"->mb x=bootBuiltins x
 nolimit:base.NoLimit
structure Cx where
 prog:Program
 w:World
 K:Frag
 mg:Str->Option Value
 base:Heap
 A:Around
 N:List Str
 s₀:Shared
 H₀:Hp
 env:Env
 outer:List Env
 stack:List Env
 ex:List Addr
 fn:Str->Bool
 calm:Bool
 pn:List (Addr×Obj)
 xe:Value->Shared->Prop
noncomputable def frs(l:List Env):List Addr:=l.filterMap (·.frame)
noncomputable abbrev Cx.fs(X:Cx):List Addr:=frs X.outer
noncomputable def Vis(sc:Scope)(x:Str):Prop:=sc.names.lookup x=some .local\/sc.names.lookup x=some .cell\/sc.names.lookup x=some .free
noncomputable def Loc(sc:Scope)(x:Str):Prop:=sc.names.lookup x=some .local\/sc.names.lookup x=some .cell
noncomputable def z_M(env:Env)(h:Heap)(m:Str->Option Value)(x:Str)(u:Value):Prop:=
 (env.kindOf x=some .local/\m x=some u)\/((env.kindOf x=some .cell\/env.kindOf x=some .free)/\∃c,env.cells.lookup x=some c/\h.IsCell c (some u))
structure Cx.Ok (X:Cx):Prop where
 mod:Mod X.K X.mg X.base
 kind:X.env.scope.kind=.function
 glob:X.env.globals=mainGlobals
 blt:X.env.builtins=builtinsNs
 above:X.s₀.heap.objs.size<=X.env.locals
 inj:∀x y c,X.env.cells.lookup x=some c->X.env.cells.lookup y=some c->x=y
 has:∀x,(X.env.kindOf x=some .cell\/X.env.kindOf x=some .free)->∃c,X.env.cells.lookup x=some c
 cab:∀x c,X.fn x=true->X.env.cells.lookup x=some c->X.s₀.heap.objs.size<=c
 hd:X.calm=true->X.A.handled=none
 frames:X.A.frames=some X.stack
 stk:X.stack=X.outer\/(X.stack=X.env::X.outer/\X.env.frame=some X.env.locals)
 exf:∀b∈X.ex,b≠X.env.locals/\∀x c,X.env.cells.lookup x=some c->c≠b
 bs:∀b o,X.base.get? b=some o->X.s₀.heap.get? b=some o/\X.H₀ b=none
 bsz:X.base.objs.size<=X.s₀.heap.objs.size
 noex:∀b o,X.base.get? b=some o->b∉X.ex
 exfs:∀b∈X.ex,b∉X.fs
 funs:X.s₀.heap.FunFrames X.base X.outer
 frf:∀b∈X.fs,X.H₀ b=none
structure Inv (X:Cx) (pins:List (Addr×Obj)) (Y:List (Option V)) (H:Hp) (s:Shared):Prop where
 ok:X.Ok
 os:s.os=X.s₀.os
 bare:AllBare s.gens
 base:Un X.fs X.ex X.H₀ H X.s₀.heap s.heap
 loc:∃m,s.heap.Ns X.env.locals m/\∀(i:Nat) (x:Str) (v:V),X.N[i]? = some x->Y[i]? = some (some v)->Vis X.env.scope x->∃u,c_b v u/\z_M X.env s.heap m x u
 cell:∀x c,X.env.cells.lookup x=some c->∃v,s.heap.IsCell c v
 free:H X.env.locals=none
 freeC:∀x c,X.env.cells.lookup x=some c->H c=none
 pin:∀p∈X.pn++pins,s.heap.get? p.1=some p.2/\H p.1=none/\p.1≠X.env.locals/\p.1∉X.fs/\∀v,p.2.data≠.cell v
 hok:HOk X.prog X.w H s.heap
 len:Y.length=X.N.length
section
variable{X:Cx}{pins:List (Addr×Obj)}{Y:List (Option V)}{H H':Hp}{s:Shared}{h':Heap}
theorem Cx.Ok.nofr(ok:X.Ok){b:Addr}{o:Obj}(e:X.base.get? b=some o):b∉X.fs:=fun hb=>by
 have:=(ok.funs.mem hb).1
 rw[e] at this;cases this
theorem Inv.bs(I:Inv X pins Y H s):∀b o,X.base.get? b=some o->s.heap.get? b=some o/\H b=none:=fun b o e=>
 ⟨I.base.keep b o (I.ok.bs b o e).1 (I.ok.bs b o e).2 (I.ok.nofr e) (I.ok.noex b o e),I.base.free b o (I.ok.bs b o e).1 (I.ok.bs b o e).2 (I.ok.noex b o e)⟩
theorem Inv.bk(I:Inv X pins Y H s):∀b o,X.base.get? b=some o->s.heap.get? b=some o:=fun b o e=>(I.bs b o e).1
theorem Inv.mod(I:Inv X pins Y H s):Mod X.K X.mg X.base:=I.ok.mod
theorem Inv.kIn(I:Inv X pins Y H s):X.K.In s.heap:=I.ok.mod.kin.keeps I.bk
theorem Inv.lt(I:Inv X pins Y H s):X.env.locals<s.heap.objs.size:=let⟨_,hn,_⟩:=I.loc;hn.lt
theorem Inv.sz(I:Inv X pins Y H s):X.s₀.heap.objs.size<=s.heap.objs.size:=Nat.le_trans I.ok.above (Nat.le_of_lt I.lt)
theorem Inv.nofs(I:Inv X pins Y H s){a:Addr}(h:s.heap.objs.size<=a):a∉X.fs:=fun hb=>by
 obtain⟨_,o,ho,_⟩:=I.ok.funs.mem hb
 exact absurd (Nat.lt_of_lt_of_le (Qad ho) (Nat.le_trans I.sz h)) (Nat.lt_irrefl _)
theorem Inv.cne(I:Inv X pins Y H s):∀x c,X.env.cells.lookup x=some c->c≠X.env.locals:=fun x c e z=>by
 obtain⟨v,o,ho,hd⟩:=I.cell x c e
 obtain⟨m,⟨o',es,ep,ho',hd',_⟩,_⟩:=I.loc
 rw[z,ho'] at ho;cases ho;rw[hd'] at hd;cases hd
theorem Inv.funs(I:Inv X pins Y H s):s.heap.FunFrames X.base X.outer:=by
 have all:∀(l:List Env),(∀b∈frs l,b∈X.fs)->X.s₀.heap.FunFrames X.base l->s.heap.FunFrames X.base l:=by
  intro l
  induction l with
  | nil=>intro _ _;trivial
  | cons env r ih=>
   intro hs hl
   obtain⟨hk,⟨L,o,hf,hn,ho,hd⟩,hr⟩:=hl
   have hL:L∈X.fs:=hs L (by unfold frs;rw[List.filterMap_cons,hf];exact List.mem_cons_self)
   obtain⟨sl,e⟩:=I.base.slot L o ho (I.ok.frf L hL) hL fun z=>I.ok.exfs L z hL
   exact⟨hk,⟨L,_,hf,hn,e,hd⟩,ih (fun b hb=>hs b (by unfold frs;rw[List.filterMap_cons,hf];exact Qak _ hb)) hr⟩
 exact all X.outer (fun _ hb=>hb) I.ok.funs
theorem Inv.stack(I:Inv X pins Y H s):s.heap.FunFrames X.base X.stack:=by
 rcases I.ok.stk with e | ⟨e,hf⟩
 ·rw[e];exact I.funs
 ·rw[e]
  obtain⟨m,hn,_⟩:=I.loc
  refine .cons (by rw[I.ok.kind];decide) hf hn ?_ I.funs
  exact Heap.get?_none_of_le (Nat.le_trans I.ok.bsz I.ok.above)
theorem Inv.stkSub(I:Inv X pins Y H s):∀b∈frs X.stack,b∈X.env.locals::X.fs:=fun b hb=>by
 rcases I.ok.stk with e | ⟨e,hf⟩
 ·rw[e] at hb;exact Qak _ hb
 ·rw[e] at hb
  unfold frs at hb
  rw[List.filterMap_cons,hf] at hb
  exact hb
theorem Inv.stkFree(I:Inv X pins Y H s):∀b∈frs X.stack,H b=none:=fun b hb=>by
 rcases List.mem_cons.mp (I.stkSub b hb) with e | hb
 ·rw[e];exact I.free
 ·obtain⟨_,o,ho,_⟩:=I.ok.funs.mem hb
  exact I.base.free b o ho (I.ok.frf b hb) fun z=>I.ok.exfs b z hb
theorem Inv.step{g':Array GenState}{t':Nat}{d':Drawn}{ch:List Addr}(I:Inv X pins Y H s)
  (hch:∀b∈ch,(b∈X.ex\/X.s₀.heap.objs.size<=b)/\b≠X.env.locals/\(∀x c,X.env.cells.lookup x=some c->c≠b)/\∀p∈X.pn++pins,p.1≠b)
  (keep:∀b o,b≠X.env.locals->b∉X.fs->b∉ch->s.heap.get? b=some o->H b=none->h'.get? b=some o)
  (slot:∀b o,b≠X.env.locals->b∈X.fs->b∉ch->s.heap.get? b=some o->H b=none->∃sl,h'.get? b=some { o with slots:=sl }) (free:∀b o,b∉ch->s.heap.get? b=some o->H b=none->H' b=none)
  (there:∀b o,b∉ch->s.heap.get? b=some o->∃o',h'.get? b=some o')
  (tups:∀b xs,H b=some (.tup xs)->H' b=some (.tup xs)) (frzs:∀b o u,H b=some (.frz o u)->H' b=some (.frz o u)) (tbls:∀b ps,H b=some (.tbl ps)->∃more,H' b=some (.tbl (ps++more)))
  (ns:∀m,s.heap.Ns X.env.locals m->h'.Ns X.env.locals m) (hok:HOk X.prog X.w H' h') (hg:AllBare g') :
  Inv X pins Y H' { s with heap:=h',gens:=g',drawn:=d',toks:=t' }:=by
 have neL:∀b o,X.s₀.heap.get? b=some o->b≠X.env.locals:=fun b o e=>Nat.ne_of_lt (Nat.lt_of_lt_of_le (Qad e) I.ok.above)
 have neC:∀b o,X.s₀.heap.get? b=some o->b∉X.ex->b∉ch:=fun b o e hx hb=>by
  rcases(hch b hb).1 with z | z
  ·exact hx z
  ·exact absurd (Nat.lt_of_lt_of_le (Qad e) z) (Nat.lt_irrefl _)
 have cellK:∀x c,X.env.cells.lookup x=some c->∀v,s.heap.IsCell c v->h'.IsCell c v:=fun x c e v ⟨o,ho,hd⟩=>by
  have nch:c∉ch:=fun z=>(hch c z).2.2.1 x c e rfl
  by_cases hc:c∈X.fs
  ·obtain⟨sl,q⟩:=slot c o (I.cne x c e) hc nch ho (I.freeC x c e)
   exact⟨_,q,hd⟩
  ·exact⟨o,keep c o (I.cne x c e) hc nch ho (I.freeC x c e),hd⟩
 refine⟨I.ok,I.os,hg,⟨fun b o e n hb hx=>?_,fun b o e n hb hx=>?_,fun b o e n hx=>?_,fun b o e hx=>?_,fun b xs e=>tups b xs (I.base.tups b xs e),fun b o xs e=>frzs b o xs (I.base.frzs b o xs e),fun b ps e=>?_⟩,?_,fun x c e=>?_,?_,fun x c e=>?_,fun p hp=>?_,hok,I.len⟩
 ·exact keep b o (neL b o e) hb (neC b o e hx) (I.base.keep b o e n hb hx) (I.base.free b o e n hx)
 ·obtain⟨sl,e1⟩:=I.base.slot b o e n hb hx
  obtain⟨sl',e2⟩:=slot b _ (neL b o e) hb (neC b o e hx) e1 (I.base.free b o e n hx)
  exact⟨sl',e2⟩
 ·obtain⟨o',e1⟩:=I.base.there b o e hx
  exact free b o' (neC b o e hx) e1 (I.base.free b o e n hx)
 ·obtain⟨o',e1⟩:=I.base.there b o e hx
  exact there b o' (neC b o e hx) e1
 ·obtain⟨m1,e1⟩:=I.base.tbls b ps e
  obtain⟨m2,e2⟩:=tbls b _ e1
  exact⟨m1++m2,by rw[e2,Array.append_assoc]⟩
 ·obtain⟨m,hn,hl⟩:=I.loc
  refine⟨m,ns m hn,fun i x v e1 e2 e3=>?_⟩
  obtain⟨u,r,l⟩:=hl i x v e1 e2 e3
  refine⟨u,r,?_⟩
  rcases l with l | ⟨k,c,e,z⟩
  ·exact .inl l
  ·exact .inr ⟨k,c,e,cellK x c e _ z⟩
 ·obtain⟨v,z⟩:=I.cell x c e
  exact⟨v,cellK x c e v z⟩
 ·obtain⟨m,⟨o,_,_,ho,_⟩,_⟩:=I.loc
  exact free _ o (fun z=>(hch _ z).2.1 rfl) ho I.free
 ·obtain⟨v,o,ho,hd⟩:=I.cell x c e
  exact free c o (fun z=>(hch c z).2.2.1 x c e rfl) ho (I.freeC x c e)
 ·obtain⟨e,n,ne,nf,d⟩:=I.pin p hp
  have nch:p.1∉ch:=fun z=>(hch p.1 z).2.2.2 p hp rfl
  exact⟨keep p.1 p.2 ne nf nch e n,free p.1 p.2 nch e n,ne,nf,d⟩
theorem Inv.un{t':Nat}(I:Inv X pins Y H s)(u:Un X.fs [] H H' s.heap h')(hok:HOk X.prog X.w H' h'):Inv X pins Y H' { s with heap:=h',toks:=t' }:=by
 obtain⟨m,⟨o,es,ep,ho,r⟩,_⟩:=id I.loc
 obtain⟨sl,hL⟩:=u.any ho I.free (by simp)
 exact I.step (g':=s.gens) (d':=s.drawn) (ch:=[]) (fun _ z=>nomatch z) (fun b o _ hb _ e n=>u.keep b o e n hb (by simp)) (fun b o _ hb _ e n=>u.slot b o e n hb (by simp)) (fun b o _ e n=>u.free b o e n (by simp)) (fun b o _ e=>u.there b o e (by simp)) u.tups u.frzs u.tbls (fun m' hm=>by
  obtain⟨o',es',ep',ho',r'⟩:=hm
  rw[ho] at ho';cases ho'
  exact⟨_,es',ep',hL,r'⟩) hok I.bare
theorem Inv.call{g':Array GenState}{t':Nat}{d':Drawn}{ch:List Addr}(I:Inv X pins Y H s)(u:Un (frs X.stack) ch H H' s.heap h')(hok:HOk X.prog X.w H' h')(hg:AllBare g')
  (hch:∀b∈ch,(b∈X.ex\/X.s₀.heap.objs.size<=b)/\b≠X.env.locals/\(∀x c,X.env.cells.lookup x=some c->c≠b)/\∀p∈X.pn++pins,p.1≠b) :
  Inv X pins Y H' { s with heap:=h',gens:=g',drawn:=d',toks:=t' }:=by
 obtain⟨m,⟨o,es,ep,ho,r⟩,_⟩:=id I.loc
 obtain⟨sl,hL⟩:=u.any ho I.free fun z=>(hch _ z).2.1 rfl
 exact I.step (ch:=ch) hch (fun b o hL hb hc e n=>u.keep b o e n (fun z=>(List.mem_cons.mp (I.stkSub b z)).elim hL hb) hc) (fun b o _ _ hc e n=>u.any e n hc) (fun b o hc e n=>u.free b o e n hc) (fun b o hc e=>u.there b o e hc) u.tups u.frzs u.tbls (fun m' hm=>by
  obtain⟨o',es',ep',ho',r'⟩:=hm
  rw[ho] at ho';cases ho'
  exact⟨_,es',ep',hL,r'⟩) hok hg
theorem Inv.turned{t':Nat}{it:Addr}(I:Inv X pins Y H s)(k:∀b o,b≠it->s.heap.get? b=some o->h'.get? b=some o)(hn:H it=none)(hL:it≠X.env.locals)
  (h1:it∈X.ex\/X.s₀.heap.objs.size<=it) (h2:∀x c,X.env.cells.lookup x=some c->c≠it) (h3:∀p∈X.pn++pins,p.1≠it):Inv X pins Y H { s with heap:=h',toks:=t' }:=by
 have nit:∀b u,H b=some u->b≠it:=fun b u e z=>by rw[z,hn] at e;cases e
 refine I.step (g':=s.gens) (d':=s.drawn) (ch:=[it]) (fun b hb=>?_) (fun b o _ _ hc e _=>k b o (fun z=>hc (by simp[z])) e) (fun b o _ _ hc e _=>⟨o.slots,k b o (fun z=>hc (by simp[z])) e⟩) (fun _ _ _ _ n=>n)
  (fun b o hc e=>⟨o,k b o (fun z=>hc (by simp[z])) e⟩) (fun _ _ e=>e) (fun _ _ _ e=>e) (fun b ps e=>⟨#[],by rw[e];simp⟩) (fun m hm=>?_) (fun b u e=>?_) I.bare
 ·have e:b=it:=by simpa using hb
  subst e
  exact⟨h1,hL,h2,h3⟩
 ·obtain⟨o,es,ep,ho,r⟩:=hm
  exact⟨o,es,ep,k _ o (Ne.symm hL) ho,r⟩
 ·refine(I.hok b u e).stay (fun c v hc q=>k c v ?_ q) (fun _ q=>q) fun _ _ q=>q
  rcases hc with z | z
  ·rw[z];exact nit b u e
  ·exact nit c _ z
theorem Inv.tok(I:Inv X pins Y H s)(t:Nat):Inv X pins Y H { s with toks:=t }:=I.un (h':=s.heap) (t':=t) Un.refl I.hok
theorem Inv.kept{t':Nat}(I:Inv X pins Y H s)(k:∀b u,s.heap.get? b=some u->h'.get? b=some u):Inv X pins Y H { s with heap:=h',toks:=t' }:=I.un (Un.kept k) (I.hok.kept k)
theorem Inv.laid{a:Addr}{o:HO}{t':Nat}(I:Inv X pins Y H s)(k:∀b u,s.heap.get? b=some u->h'.get? b=some u)(hp:s.heap.objs.size<=a)(new:c_V X.prog X.w (upd H a o) h' a o) :
  Inv X pins Y (upd H a o) { s with heap:=h',toks:=t' }:=I.un (Un.laid k hp (I.hok.fresh hp)) (I.hok.laid k hp new)
theorem Inv.write{x e:Addr}{o:HO}{t':Nat}(I:Inv X pins Y H s)(mu:Mut (H x))(he:e=x\/H e=some (.own x))(k:∀b u,b≠e->s.heap.get? b=some u->h'.get? b=some u)(heo:∃u,h'.get? e=some u)
  (new:c_V X.prog X.w (upd H x o) h' x o):Inv X pins Y (upd H x o) { s with heap:=h',toks:=t' }:=I.un (Un.write mu he k heo) (I.hok.write mu he k heo new)
theorem Inv.pins_of{pins':List (Addr×Obj)}(I:Inv X pins Y H s)(h:∀p∈pins',s.heap.get? p.1=some p.2/\H p.1=none/\p.1≠X.env.locals/\p.1∉X.fs/\∀v,p.2.data≠.cell v):Inv X pins' Y H s:=
 ⟨I.ok,I.os,I.bare,I.base,I.loc,I.cell,I.free,I.freeC,fun p hp=>(List.mem_append.mp hp).elim (fun z=>I.pin p (Qaj _ z)) (h p),I.hok,I.len⟩
theorem m_B{N:List Str}(hN:N.Nodup){i j:Nat}{x:Str}(a:N[i]? = some x)(b:N[j]? = some x):i=j:=by
 obtain⟨h1,e1⟩:=List.getElem?_eq_some_iff.mp a
 obtain⟨h2,e2⟩:=List.getElem?_eq_some_iff.mp b
 exact(List.getElem_inj hN).mp (e1.trans e2.symm)
theorem k_K{M:Model}{A:Around}{E:Value->Shared->Prop}{i:Nat}{x:Str}{v:V}{u:Value}{Q:Unit->Shared->Prop}(I:Inv X pins Y H s)(hN:X.N.Nodup)(hi:X.N[i]? = some x)(hx:Loc X.env.scope x)(r:c_b v u)
  (h:∀s',Inv X pins (Y.set i (some v)) H s'->(∃a,Heap.SameBut a s.heap s'.heap/\(a=X.env.locals\/X.env.cells.lookup x=some a))->Q () s') (hf:X.fn x=true\/X.env.scope.names.lookup x=some .local:=by first | exact .inl rfl | exact .inr rfl | assumption):wpAny M A (storeName X.env x u) Q E s:=by
 obtain⟨m,hn,hl⟩:=id I.loc
 have hcls:(X.env.scope.kind==.class||(X.env.scope.kind==.module&&X.env.locals != X.env.globals))=false:=by rw[I.ok.kind];rfl
 have hiY:i<Y.length:=by rw[I.len];exact(List.getElem?_eq_some_iff.mp hi).1
 have cne:=I.cne
 have tracked:∀{a:Addr}{h':Heap},(∃o,s.heap.get? a=some o/\H a=none)->Heap.SameBut a s.heap h'->HOk X.prog X.w H h':=fun {a h'} ha hs b ob e=>by
  obtain⟨_,_,hfree⟩:=ha
  refine(I.hok b ob e).stay (fun c w' hc q=>(hs.2 c ?_).trans q) (fun _ q=>q) fun _ _ q=>q
  rintro rfl
  rcases hc with rfl | hc
  ·rw[hfree] at e;cases e
  ·rw[hfree] at hc;cases hc
 rcases hx with hk | hk
 ·refine wpAny_storeName_local hk hn (fun h' hn' hs=>?_) hcls
  obtain⟨oL,_,_,hoL,_⟩:=id hn
  refine h _ ⟨I.ok,I.os,I.bare,⟨fun b o e n hb hx=>?_,fun b o e n hb hx=>?_,I.base.free,fun b o e hx=>?_,I.base.tups,I.base.frzs,I.base.tbls⟩,⟨_,hn',fun j y v' e1 e2 e3=>?_⟩,fun y c e=>?_,I.free,I.freeC,fun p hp=>?_,tracked ⟨oL,hoL,I.free⟩ hs,by simpa using I.len⟩ ⟨_,hs,.inl rfl⟩
  ·exact(hs.2 b (Nat.ne_of_lt (Nat.lt_of_lt_of_le (Qad e) I.ok.above))).trans (I.base.keep b o e n hb hx)
  ·obtain⟨sl,e1⟩:=I.base.slot b o e n hb hx
   exact⟨sl,(hs.2 b (Nat.ne_of_lt (Nat.lt_of_lt_of_le (Qad e) I.ok.above))).trans e1⟩
  ·obtain⟨o',e1⟩:=I.base.there b o e hx
   exact⟨o',(hs.2 b (Nat.ne_of_lt (Nat.lt_of_lt_of_le (Qad e) I.ok.above))).trans e1⟩
  ·by_cases hj:j=i
   ·subst hj
    rw[hi] at e1;cases e1
    rw[List.getElem?_set_self hiY] at e2
    cases e2
    exact⟨u,r,.inl ⟨hk,by simp⟩⟩
   ·rw[List.getElem?_set_ne (Ne.symm hj)] at e2
    obtain⟨u',r',q⟩:=hl j y v' e1 e2 e3
    refine⟨u',r',?_⟩
    rcases q with⟨k,e⟩ | ⟨k,c,e,z⟩
    ·refine .inl ⟨k,?_⟩
     have:y≠x:=fun e=>hj (m_B hN e1 (e▸hi))
     simp[this,e]
    ·exact .inr ⟨k,c,e,z.sameBut hs (cne y c e)⟩
  ·obtain⟨w',z⟩:=I.cell y c e
   exact⟨w',z.sameBut hs (cne y c e)⟩
  ·obtain⟨e,n,ne,nf,d⟩:=I.pin p hp
   exact⟨(hs.2 p.1 ne).trans e,n,ne,nf,d⟩
 ·have hfn:X.fn x=true:=by
   rcases hf with z | z
   ·exact z
   ·rw[z] at hk;cases hk
  obtain⟨c,hc⟩:=I.ok.has x (.inl hk)
  obtain⟨w',z⟩:=I.cell x c hc
  refine wpAny_storeName_cell I.ok.kind hk hc z (fun h' hc' hs=>?_)
  obtain⟨oc,hoc,hocd⟩:=id z
  refine h { s with heap:=h' } ⟨I.ok,I.os,I.bare,⟨fun b o e n hb hx=>?_,fun b o e n hb hx=>?_,I.base.free,fun b o e hx=>?_,I.base.tups,I.base.frzs,I.base.tbls⟩,⟨m,hn.sameBut hs (Ne.symm (cne x c hc)),fun j y v' e1 e2 e3=>?_⟩,fun y c' e=>?_,I.free,I.freeC,fun p hp=>?_,tracked ⟨oc,hoc,I.freeC x c hc⟩ hs,by simpa using I.len⟩ ⟨c,hs,.inr hc⟩
  ·exact(hs.2 b (Nat.ne_of_lt (Nat.lt_of_lt_of_le (Qad e) (I.ok.cab x c hfn hc)))).trans (I.base.keep b o e n hb hx)
  ·obtain⟨sl,e1⟩:=I.base.slot b o e n hb hx
   exact⟨sl,(hs.2 b (Nat.ne_of_lt (Nat.lt_of_lt_of_le (Qad e) (I.ok.cab x c hfn hc)))).trans e1⟩
  ·obtain⟨o',e1⟩:=I.base.there b o e hx
   exact⟨o',(hs.2 b (Nat.ne_of_lt (Nat.lt_of_lt_of_le (Qad e) (I.ok.cab x c hfn hc)))).trans e1⟩
  ·by_cases hj:j=i
   ·subst hj
    rw[hi] at e1;cases e1
    rw[List.getElem?_set_self hiY] at e2
    cases e2
    exact⟨u,r,.inr ⟨.inl hk,c,hc,hc'⟩⟩
   ·rw[List.getElem?_set_ne (Ne.symm hj)] at e2
    obtain⟨u',r',q⟩:=hl j y v' e1 e2 e3
    refine⟨u',r',?_⟩
    rcases q with q | ⟨k,c',e,z'⟩
    ·exact .inl q
    ·refine .inr ⟨k,c',e,z'.sameBut hs ?_⟩
     rintro rfl
     exact hj (m_B hN e1 (I.ok.inj _ _ _ e hc▸hi))
  ·by_cases hcc:c' = c
   ·subst hcc;exact⟨_,hc'⟩
   ·obtain⟨w2,z2⟩:=I.cell y c' e
    exact⟨w2,z2.sameBut hs hcc⟩
  ·obtain⟨e,n,ne,nf,d⟩:=I.pin p hp
   refine⟨(hs.2 p.1 ?_).trans e,n,ne,nf,d⟩
   intro q
   rw[q,hoc] at e
   have q':oc=p.2:=Option.some.inj e
   exact d w' (by rw[<-q'];exact hocd)
theorem h_u{M:Model}{A:Around}{E:Value->Shared->Prop}{i:Nat}{x:Str}{v:V}{u:Value}{Q:Unit->Shared->Prop}(I:Inv X pins Y H s)(hN:X.N.Nodup)(hi:X.N[i]? = some x)(hx:Loc X.env.scope x)(r:c_b v u)
  (h:∀s',Inv X pins (Y.set i (some v)) H s'->Q () s') (hf:X.fn x=true\/X.env.scope.names.lookup x=some .local:=by first | exact .inl rfl | exact .inr rfl | assumption):wpAny M A (storeName X.env x u) Q E s:=
 k_K I hN hi hx r (fun s' I' _=>h s' I') hf
theorem Inv.call'{s':Shared}{ch:List Addr}(I:Inv X pins Y H s)(ho:s'.os=s.os)(u:Un (frs X.stack) ch H H' s.heap s'.heap)(hok:HOk X.prog X.w H' s'.heap)(hg:AllBare s'.gens)
  (hch:∀b∈ch,(b∈X.ex\/X.s₀.heap.objs.size<=b)/\b≠X.env.locals/\(∀x c,X.env.cells.lookup x=some c->c≠b)/\∀p∈X.pn++pins,p.1≠b):Inv X pins Y H' s':=by
 obtain⟨h',g',d',t',o'⟩:=s'
 have e:o' = s.os:=ho
 subst e
 exact I.call (g':=g') (t':=t') (d':=d') u hok hg hch
end
noncomputable abbrev XK:=Value->Option Addr->Hp->Prop
noncomputable abbrev St:=List (Option V)
noncomputable abbrev VK:=V->Hp->Prop
noncomputable abbrev TE:=St->Hp->VK->Prop
noncomputable abbrev TT:=St->Hp->(Bool->Hp->Prop)->Prop
noncomputable abbrev TA:=St->Hp->(List V->Hp->Prop)->Prop
structure Ends where
 nx:St->Hp->Prop
 rt:VK
 bk:St->Hp->Prop:=fun _ _=>False
 ct:St->Hp->Prop:=fun _ _=>False
noncomputable abbrev TS:=Ends->St->Hp->Prop
noncomputable def EP(X:Cx)(pins:List (Addr×Obj))(Y:St)(Q:VK)(u:Value)(s':Shared):Prop:=∃v H',Inv X pins Y H' s'/\c_b v u/\Q v H'
noncomputable def TP(X:Cx)(pins:List (Addr×Obj))(Y:St)(Q:Bool->Hp->Prop)(b:Bool)(s':Shared):Prop:=∃H',Inv X pins Y H' s'/\Q b H'
noncomputable def AP(X:Cx)(pins:List (Addr×Obj))(Y:St)(Q:List V->Hp->Prop)(us:List Value)(s':Shared):Prop:=∃vs H',Inv X pins Y H' s'/\b_M vs us/\Q vs H'
noncomputable def SP(X:Cx)(pins:List (Addr×Obj))(D:Ends)(f:Flow)(s':Shared):Prop:=
 match f with
 | .next=>∃Y' H',Inv X pins Y' H' s'/\D.nx Y' H'
 | .brk=>∃Y' H',Inv X pins Y' H' s'/\D.bk Y' H'
 | .cont=>∃Y' H',Inv X pins Y' H' s'/\D.ct Y' H'
 | .ret u=>∃v Y' H',Inv X pins Y' H' s'/\c_b v u/\D.rt v H'
noncomputable def PE(X:Cx)(e:Expr)(t:TE):Prop:=
 ∀(pins:List (Addr×Obj)) (s:Shared) (Y:St) (H:Hp) (Q:VK),Inv X pins Y H s->t Y H Q->wpAny (model X.prog X.w) X.A (eval e X.env) (EP X pins Y Q) X.xe s
noncomputable def PT(X:Cx)(e:Expr)(t:TT):Prop:=
 ∀(pins:List (Addr×Obj)) (s:Shared) (Y:St) (H:Hp) (Q:Bool->Hp->Prop),Inv X pins Y H s->t Y H Q->wpAny (model X.prog X.w) X.A (isTrue e X.env (eval e X.env)) (TP X pins Y Q) X.xe s
noncomputable def PW(X:Cx)(e:Expr)(t:TT):Prop:=
 ∀(whole:Sem Value) (pins:List (Addr×Obj)) (s:Shared) (Y:St) (H:Hp) (Q:Bool->Hp->Prop),Inv X pins Y H s->t Y H Q->wpAny (model X.prog X.w) X.A (isTrue e X.env whole) (TP X pins Y Q) X.xe s
theorem PW.pt{X:Cx}{e:Expr}{t:TT}(h:PW X e t):PT X e t:=h _
noncomputable def PA(X:Cx)(es:List Expr)(t:TA):Prop:=
 ∀(pos:Pos) (pins:List (Addr×Obj)) (s:Shared) (Y:St) (H:Hp) (Q:List V->Hp->Prop),Inv X pins Y H s->t Y H Q->wpAny (model X.prog X.w) X.A (spliced (backTo pos (starEach es X.env))) (AP X pins Y Q) X.xe s
noncomputable def PS(X:Cx)(st:Stmt)(t:TS):Prop:=
 ∀(pins:List (Addr×Obj)) (s:Shared) (Y:St) (H:Hp) (D:Ends),Inv X pins Y H s->t D Y H->wpAny (model X.prog X.w) X.A (exec st X.env) (SP X pins D) X.xe s
noncomputable def PSs(X:Cx)(st:List Stmt)(t:TS):Prop:=
 ∀(pins:List (Addr×Obj)) (s:Shared) (Y:St) (H:Hp) (D:Ends),Inv X pins Y H s->t D Y H->wpAny (model X.prog X.w) X.A (execs st X.env) (SP X pins D) X.xe s
theorem thn{α:Type}{t:Sem α}{Q Q':α->Shared->Prop}{M:Model}{A:Around}{E:Value->Shared->Prop}{s:Shared}(h:wpAny M A t Q E s)(hQ:∀a s,Q a s->Q' a s):wpAny M A t Q' E s:=wpAny_mono h hQ fun _ _ x=>x
section
variable{X:Cx}
noncomputable def f_r(i:Nat):TE:=fun Y H Q=>∃v,Y[i]? = some (some v)/\Q v H
noncomputable def tC(v:V):TE:=fun _ H Q=>Q v H
theorem u_l{i:Nat}{x:Str}{pos:Pos}(hN:X.N[i]? = some x)(hv:Vis X.env.scope x)(hd:(x==("__debug__":Str))=false:=by decide)(hcd:(x==("__classdict__":Str))=false:=by decide):PE X (.Name x pos) (f_r i):=by
 intro pins s Y H Q I h
 obtain⟨v,e,h⟩:=h
 obtain⟨m,hn,hl⟩:=I.loc
 obtain⟨u,r,l⟩:=hl i x v hN e hv
 have fin:EP X pins Y Q u s:=⟨v,H,I,r,h⟩
 rcases l with⟨hk,hm⟩ | ⟨hk,c,hc,hcell⟩
 ·exact wpAny_Name (wpAny_loadName_local I.ok.kind hk hn hm fin) hd
 ·rcases hk with hk | hk
  ·exact wpAny_Name (wpAny_loadName_cell I.ok.kind hk hc hcell fin) hd
  ·exact wpAny_Name (wpAny_loadName_free I.ok.kind hk hc hcell fin hcd) hd
theorem m_f{i j pos}:PE X (.Constant (.int i) j pos) (tC (.int i)):=fun _ _ _ H _ I h=>wpAny_Constant_int ⟨.int i,H,I.tok _,⟨_,rfl⟩,h⟩
theorem x_k{b j pos}:PE X (.Constant (.bool b) j pos) (tC (.bl b)):=fun _ _ _ H _ I h=>Constant_bool ⟨.bl b,H,I,rfl,h⟩
theorem q_T{j pos}:PE X (.Constant .none j pos) (tC .non):=fun _ _ _ H _ I h=>Constant_none ⟨.non,H,I,rfl,h⟩
theorem r_d{x j pos}:PE X (.Constant (.str x) j pos) (tC (.str x)):=fun _ _ _ H _ I h=>Calls.Constant_str ⟨.str x,H,I.tok _,⟨_,rfl⟩,h⟩
noncomputable def Gl(X:Cx)(x:Str):Prop:=X.env.kindOf x=some .globalImplicit
theorem h_L{E:Value->Shared->Prop}{pins:List (Addr×Obj)}{s:Shared}{Y:St}{H:Hp}{x:Str}{u:Value}{pos:Pos}{Q:Value->Shared->Prop}(I:Inv X pins Y H s)(hg:Gl X x)(hm:X.mg x=some u)(h:Q u s)
  (hd:(x==("__debug__":Str))=false:=by decide):wpAny (model X.prog X.w) X.A (eval (.Name x pos) X.env) Q E s:=
 Calls.Name_function_global I.ok.kind hg (Calls.loadGlobal_global (by rw[I.ok.glob];exact I.mod.glob.keeps I.bk) hm h) hd
theorem f_P{E:Value->Shared->Prop}{pins:List (Addr×Obj)}{s:Shared}{Y:St}{H:Hp}{x:Str}{u:Value}{pos:Pos}{Q:Value->Shared->Prop}(I:Inv X pins Y H s)(hg:Gl X x)(hm:X.mg x=none)(hv:bootBuiltins x=some u)(h:Q u s)
  (hn:x≠"__name__":=by decide) (hd:(x==("__debug__":Str))=false:=by decide):wpAny (model X.prog X.w) X.A (eval (.Name x pos) X.env) Q E s:=by
 obtain⟨mb,h1,h2⟩:=I.mod.blt
 exact Calls.Name_function_global I.ok.kind hg (Calls.loadGlobal_builtin (by rw[I.ok.glob];exact I.mod.glob.keeps I.bk) hm (by rw[I.ok.blt];exact h1.keeps I.bk) ((h2 x hn).trans hv) h) hd
theorem l_A{x:Str}{v:V}{u:Value}{pos:Pos}(hg:Gl X x)(hm:X.mg x=some u)(r:c_b v u)(hd:(x==("__debug__":Str))=false:=by decide):PE X (.Name x pos) (tC v):=
 fun _ _ _ H _ I h=>h_L I hg hm ⟨v,H,I,r,h⟩ hd
theorem e_q{x:Str}{v:V}{u:Value}{pos:Pos}(hg:Gl X x)(hm:X.mg x=none)(hv:bootBuiltins x=some u)(r:c_b v u)(hn:x≠"__name__":=by decide)(hd:(x==("__debug__":Str))=false:=by decide):PE X (.Name x pos) (tC v):=
 fun _ _ _ H _ I h=>f_P I hg hm hv ⟨v,H,I,r,h⟩ hn hd
variable{a b:Expr}{ta tb:TE}{pos:Pos}
noncomputable def tB(t:TE):TT:=fun Y H Q=>t Y H fun x H1=>∃c,x=.bl c/\Q c H1
theorem t_S{e:Expr}{t:TE}(h:PE X e t)(he:∀whole,isTrue e X.env whole=(do let v <-whole;standAt e.pos;holding [v] (truthy v)):=by intro _;rfl):PT X e (tB t):=by
 intro pins s Y H Q I hw
 refine isTrue_plain (thn (h pins s Y H _ I hw) fun v s1 ⟨x,H1,I1,r1,q1⟩=>?_) (he _)
 obtain⟨d,rfl,q⟩:=q1
 cases r1
 exact wpAny_truthy_bool ⟨H1,I1,q⟩
variable{tA tB':TT}{rest:List Expr}
noncomputable def z_w(t u:TT):TT:=fun Y H Q=>t Y H fun c H1=>if c=true then u Y H1 Q else Q false H1
noncomputable def tOr(t u:TT):TT:=fun Y H Q=>t Y H fun c H1=>if c=true then Q true H1 else u Y H1 Q
noncomputable def y_Y(t:TT):TT:=fun Y H Q=>t Y H fun c H1=>Q (!c) H1
theorem s_K(ha:PT X a tA):PW X (.BoolOp .And [a] pos) tA:=by
 intro wh pins s Y H Q I h
 refine isTrue_and (thn (ha pins s Y H Q I h) fun c s1 e=>?_)
 cases c with
 | true=>exact isTrue_and_nil e
 | false=>exact e
theorem u_z(ha:PT X a tA):PW X (.BoolOp .Or [a] pos) tA:=by
 intro wh pins s Y H Q I h
 refine isTrue_or (thn (ha pins s Y H Q I h) fun c s1 e=>?_)
 cases c with
 | false=>exact isTrue_or_nil e
 | true=>exact e
theorem u_6(ha:PT X a tA)(hb:PW X (.BoolOp .And (b::rest) pos) tB'):PW X (.BoolOp .And (a::b::rest) pos) (z_w tA tB'):=by
 intro wh pins s Y H Q I h
 refine isTrue_and (thn (ha pins s Y H _ I h) fun c s1 ⟨H1,I1,q1⟩=>?_)
 cases c with
 | true=>exact hb wh pins s1 Y H1 Q I1 q1
 | false=>exact⟨H1,I1,q1⟩
theorem w_B(ha:PT X a tA)(hb:PW X (.BoolOp .Or (b::rest) pos) tB'):PW X (.BoolOp .Or (a::b::rest) pos) (tOr tA tB'):=by
 intro wh pins s Y H Q I h
 refine isTrue_or (thn (ha pins s Y H _ I h) fun c s1 ⟨H1,I1,q1⟩=>?_)
 cases c with
 | true=>exact⟨H1,I1,q1⟩
 | false=>exact hb wh pins s1 Y H1 Q I1 q1
theorem u_T(ha:PT X a tA):PT X (.UnaryOp .Not a pos) (y_Y tA):=by
 intro pins s Y H Q I h
 exact isTrue_not (ha pins s Y H (fun c H1=>Q (!c) H1) I h)
noncomputable def w_0(ta tb:TE):TE:=fun Y H Q=>ta Y H fun x H1=>∃c,x=.bl c/\if c=true then tb Y H1 Q else Q (.bl false) H1
noncomputable def z_B(ta tb:TE):TE:=fun Y H Q=>ta Y H fun x H1=>∃c,x=.bl c/\if c=true then Q (.bl true) H1 else tb Y H1 Q
noncomputable def x_p(ta:TE):TE:=fun Y H Q=>ta Y H fun x H1=>∃c,x=.bl c/\Q (.bl (!c)) H1
theorem v_c{op}{t:TE}(h:PE X a t):PE X (.BoolOp op [a] pos) t:=fun pins s Y H Q I hw=>BoolOp_one (h pins s Y H Q I hw)
theorem v_0(ha:PE X a ta)(hb:PE X (.BoolOp .And (b::rest) pos) tb):PE X (.BoolOp .And (a::b::rest) pos) (w_0 ta tb):=by
 intro pins s Y H Q I h
 refine BoolOp_and (thn (ha pins s Y H _ I h) fun v s1 ⟨x,H1,I1,r1,q1⟩=>?_)
 obtain⟨c,rfl,q1⟩:=q1
 cases r1
 refine wpAny_truthy_bool ?_
 cases c with
 | true=>exact hb pins s1 Y H1 Q I1 q1
 | false=>exact⟨.bl false,H1,I1,rfl,q1⟩
theorem x_C(ha:PE X a ta)(hb:PE X (.BoolOp .Or (b::rest) pos) tb):PE X (.BoolOp .Or (a::b::rest) pos) (z_B ta tb):=by
 intro pins s Y H Q I h
 refine BoolOp_or (thn (ha pins s Y H _ I h) fun v s1 ⟨x,H1,I1,r1,q1⟩=>?_)
 obtain⟨c,rfl,q1⟩:=q1
 cases r1
 refine wpAny_truthy_bool ?_
 cases c with
 | false=>exact hb pins s1 Y H1 Q I1 q1
 | true=>exact⟨.bl true,H1,I1,rfl,q1⟩
theorem v_o(ha:PE X a ta):PE X (.UnaryOp .Not a pos) (x_p ta):=by
 intro pins s Y H Q I h
 refine UnaryOp_ (thn (ha pins s Y H _ I h) fun v s1 ⟨x,H1,I1,r1,q1⟩=>?_)
 obtain⟨c,rfl,q1⟩:=q1
 cases r1
 exact not_of (wpAny_truthy_bool ⟨.bl (!c),H1,I1,rfl,q1⟩)
noncomputable def tIf(t:TT)(ta tb:TE):TE:=fun Y H Q=>t Y H fun c H1=>if c=true then ta Y H1 Q else tb Y H1 Q
theorem q_k{c:Expr}(hc:PT X c tA)(ha:PE X a ta)(hb:PE X b tb):PE X (.IfExp c a b pos) (tIf tA ta tb):=by
 intro pins s Y H Q I h
 refine wpAny_IfExp (thn (hc pins s Y H _ I h) fun d s1 ⟨H1,I1,q1⟩=>?_)
 cases d with
 | true=>exact ha pins s1 Y H1 Q I1 q1
 | false=>exact hb pins s1 Y H1 Q I1 q1
end
noncomputable def SqL(K:Frag)(H:Hp)(a:Addr)(xs:List V):Prop:=
 Rd H a (.lst xs)\/
  ∃(o:Obj) (its:Array Value) (n:Nat),K.lookup a=some o/\o.cls=.type "list"/\o.dict=none/\o.data=.seq its n/\its.size<=sizeLine/\b_M xs its.toList
noncomputable def SqT(K:Frag)(H:Hp)(a:Addr)(xs:List V):Prop:=
 Rd H a (.tup xs)\/
  ∃(o:Obj) (its:Array Value) (n:Nat),K.lookup a=some o/\o.cls=.type "tuple"/\o.data=.seq its n/\its.size<=sizeLine/\b_M xs its.toList
noncomputable def z_l:Value->Option V
 | .none=>some .non
 | .bool b=>some (.bl b)
 | .int i _=>some (.int i)
 | .str x _=>some (.str x)
 | .bytes b _=>some (.byt b)
 | .float b _=>some (.flt b)
 | .ref a=>some (.ref a)
 | .type n=>some (.ty n)
 | _=>none
theorem c_b.abs{x:V}{u:Value}(r:c_b x u):z_l u=some x:=by
 cases x with
 | non=>cases r;rfl
 | bl _=>cases r;rfl
 | int _=>obtain⟨t,rfl⟩:=r;rfl
 | str _=>obtain⟨t,rfl⟩:=r;rfl
 | byt _=>obtain⟨t,rfl⟩:=r;rfl
 | flt _=>obtain⟨t,rfl⟩:=r;rfl
 | ref _=>cases r;rfl
 | ty _=>cases r;rfl
theorem c_b.inj{x y:V}{u:Value}(r:c_b x u)(q:c_b y u):x=y:=Option.some.inj (r.abs.symm.trans q.abs)
theorem b_M.inj:∀{xs ys:List V}{us:List Value},b_M xs us->b_M ys us->xs=ys
 | _,_,_,.nil,.nil=>rfl
 | _,_,_,.cons r t,.cons r' t'=>by rw[r.inj r',b_M.inj t t']
section
variable{X:Cx}{pins:List (Addr×Obj)}{Y:St}{H:Hp}{s:Shared}{a:Addr}{xs ys:List V}
theorem SqL.of{K:Frag}(h:H a=some (.lst xs)):SqL K H a xs:=.inl (.inl h)
theorem Inv.list(I:Inv X pins Y H s)(h:SqL X.K H a xs):∃its:List Value,b_M xs its/\PlainL s.heap a its.toArray/\xs.length<=sizeLine:=by
 rcases h with h | ⟨o,its,n,hk,hc,hd,hs,hz,r⟩
 ·obtain⟨z,its,n,r,e⟩:=h.ok I.hok
  exact⟨its,r,⟨_,n,e,rfl,rfl,rfl⟩,z⟩
 ·refine⟨its.toList,r,⟨o,n,I.kIn a o hk,hc,hd,by simpa using hs⟩,?_⟩
  have e:=r.length
  simp only[Array.length_toList] at e
  omega
theorem Inv.tuple(I:Inv X pins Y H s)(h:SqT X.K H a xs):∃its:List Value,b_M xs its/\IsTup s.heap a its.toArray/\xs.length<=sizeLine:=by
 rcases h with h | ⟨o,its,n,hk,hc,hs,hz,r⟩
 ·obtain⟨z,its,r,p⟩:=h.ok I.hok
  exact⟨its,r,p,z⟩
 ·refine⟨its.toList,r,⟨o,I.kIn a o hk,hc,n,by simpa using hs⟩,?_⟩
  have e:=r.length
  simp only[Array.length_toList] at e
  omega
theorem Inv.list_inj(I:Inv X pins Y H s)(h:SqL X.K H a xs)(h':SqL X.K H a ys):xs=ys:=by
 obtain⟨its,r,⟨o,n,e,_,_,d⟩,_⟩:=I.list h
 obtain⟨its',r',⟨o',n',e',_,_,d'⟩,_⟩:=I.list h'
 rw[e] at e';cases e'
 rw[d] at d'
 injection d' with d1 _
 have:its=its':=by simpa using congrArg Array.toList d1
 subst this
 exact r.inj r'
theorem Inv.tuple_inj(I:Inv X pins Y H s)(h:SqT X.K H a xs)(h':SqT X.K H a ys):xs=ys:=by
 obtain⟨its,r,⟨o,e,_,n,d⟩,_⟩:=I.tuple h
 obtain⟨its',r',⟨o',e',_,n',d'⟩,_⟩:=I.tuple h'
 rw[e] at e';cases e'
 rw[d] at d'
 injection d' with d1 _
 have:its=its':=by simpa using congrArg Array.toList d1
 subst this
 exact r.inj r'
end
section
variable{X:Cx}{st:Stmt}{rest:List Stmt}{t u:TS}{e:Expr}{te:TE}{pos:Pos}
noncomputable def x_L:TS:=fun D Y H=>D.nx Y H
noncomputable def z_f(t u:TS):TS:=fun D Y H=>t { D with nx:=u D } Y H
theorem r_6:PSs X [] x_L:=fun _ _ Y H _ I h=>wpAny_execs_nil ⟨Y,H,I,h⟩
theorem p_T(h1:PS X st t)(h2:PSs X rest u):PSs X (st::rest) (z_f t u):=by
 intro pins s Y H D I h
 refine wpAny_execs_cons (thn (h1 pins s Y H { D with nx:=u D } I h) fun f s1 q=>?_)
 cases f with
 | next=>
  obtain⟨Y',H',I',q⟩:=q
  exact h2 pins s1 Y' H' D I' q
 | ret v=>exact q
 | brk=>exact q
 | cont=>exact q
theorem r_D(h1:PS X st t):PSs X [st] t:=by
 intro pins s Y H D I h
 refine wpAny_execs_cons (thn (h1 pins s Y H D I h) fun f s1 q=>?_)
 cases f with
 | next=>exact wpAny_execs_nil q
 | ret v=>exact q
 | brk=>exact q
 | cont=>exact q
theorem Inv.quiet{pins:List (Addr×Obj)}{Y:St}{H:Hp}{s:Shared}(I:Inv X pins Y H s):interactive X.env=false:=by simp[interactive,I.ok.kind]
noncomputable def w_W(te:TE):TS:=fun D Y H=>te Y H fun _ H1=>D.nx Y H1
theorem l_W(he:PE X e te)(hs:swapsWith e none pos.line X.env=pure false:=by rfl):PS X (.Expr e pos) (w_W te):=by
 intro pins s Y H D I h
 exact wpAny_Expr_any (thn (he pins s Y H _ I h) fun v s1 ⟨x,H1,I1,r1,q1⟩=>⟨Y,H1,I1,q1⟩) I.quiet hs
noncomputable def y_8(te:TE):TS:=fun D Y H=>te Y H D.rt
theorem o_1(he:PE X e te):PS X (.Return (some e) pos) (y_8 te):=by
 intro pins s Y H D I h
 exact wpAny_Return_some (thn (he pins s Y H _ I h) fun v s1 ⟨x,H1,I1,r1,q1⟩=>⟨x,Y,H1,I1,r1,q1⟩)
noncomputable def z_h(c:TT)(t u:TS):TS:=fun D Y H=>c Y H fun b H1=>if b=true then t D Y H1 else u D Y H1
theorem x_X{c:Expr}{a b:List Stmt}{tc:TT}(hc:PT X c tc)(ha:PSs X a t)(hb:PSs X b u):PS X (.If c a b pos) (z_h tc t u):=by
 intro pins s Y H D I h
 refine wpAny_If (thn (hc pins s Y H _ I h) fun d s1 ⟨H1,I1,q1⟩=>?_)
 cases d with
 | true=>exact ha pins s1 Y H1 D I1 q1
 | false=>exact hb pins s1 Y H1 D I1 q1
end
noncomputable abbrev TG:=V->St->Hp->(St->Hp->Prop)->Prop
noncomputable abbrev TGs:=List V->St->Hp->(St->Hp->Prop)->Prop
noncomputable def PG(X:Cx)(target:Expr)(t:TG):Prop:=
 ∀(pins:List (Addr×Obj)) (s:Shared) (Y:St) (H:Hp) (v:V) (u:Value) (Q:St->Hp->Prop),Inv X pins Y H s->c_b v u->t v Y H Q->
  wpAny (model X.prog X.w) X.A (assign target X.env u) (fun _ s'=>∃Y' H',Inv X pins Y' H' s'/\Q Y' H') X.xe s
noncomputable def PGs(X:Cx)(ts:List Expr)(t:TGs):Prop:=
 ∀(pins:List (Addr×Obj)) (s:Shared) (Y:St) (H:Hp) (vs:List V) (us:List Value) (Q:St->Hp->Prop),Inv X pins Y H s->b_M vs us->t vs Y H Q->
  wpAny (model X.prog X.w) X.A (assignInOrder ((assignEach ts X.env).map (·.2)) us) (fun _ s'=>∃Y' H',Inv X pins Y' H' s'/\Q Y' H') X.xe s
noncomputable abbrev w_P:=V->V->V->Hp->(Hp->Prop)->Prop
noncomputable def y_B(X:Cx)(t:w_P):Prop:=
 ∀(pins:List (Addr×Obj)) (s:Shared) (Y:St) (H:Hp) (o i v:V) (ov iv u:Value) (Q:Hp->Prop),Inv X pins Y H s->c_b o ov->c_b i iv->c_b v u->t o i v H Q->
  wpAny (model X.prog X.w) X.A (setItem ov iv u) (fun _ s'=>∃H',Inv X pins Y H' s'/\Q H') X.xe s
section
variable{X:Cx}{pos:Pos}
noncomputable def q_E(i:Nat):TG:=fun v Y H Q=>Q (Y.set i (some v)) H
theorem l_v{i:Nat}{x:Str}(hN:X.N.Nodup)(hi:X.N[i]? = some x)(hx:Loc X.env.scope x)(hf:X.fn x=true\/X.env.scope.names.lookup x=some .local:=by first | exact .inl rfl | exact .inr rfl | assumption):PG X (.Name x pos) (q_E i):=by
 intro pins s Y H v u Q I r h
 exact wpAny_assign_Name (h_u I hN hi hx r (fun s' I'=>⟨_,H,I',h⟩) hf)
noncomputable def y_5:TGs:=fun vs Y H Q=>vs=[]/\Q Y H
noncomputable def x_u(t:TG)(u:TGs):TGs:=fun vs Y H Q=>∃v r,vs=v::r/\t v Y H fun Y' H'=>u r Y' H' Q
theorem o_t:PGs X [] y_5:=by
 intro pins s Y H vs us Q I r h
 obtain⟨e,h⟩:=h
 subst e
 cases r
 exact assignInOrder_nil ⟨Y,H,I,h⟩
theorem j_L{e:Expr}{es:List Expr}{t:TG}{u:TGs}(h1:PG X e t)(h2:PGs X es u)
  (hs:(assignEach (e::es) X.env).map (·.2)=assign e X.env::(assignEach es X.env).map (·.2):=by rfl):PGs X (e::es) (x_u t u):=by
 intro pins s Y H vs us Q I r h
 obtain⟨v,vr,e1,h⟩:=h
 subst e1
 cases r with
 | cons r rr=>
  rw[hs]
  refine assignInOrder_cons (thn (h1 pins s Y H _ _ _ I r h) fun _ s1 ⟨Y1,H1,I1,q1⟩=>?_)
  exact h2 pins s1 Y1 H1 _ _ Q I1 rr q1
noncomputable def y_Z(K:Frag)(n:Nat)(t:TGs):TG:=fun v Y H Q=>∃a xs,v=.ref a/\SqT K H a xs/\xs.length=n/\t xs Y H Q
theorem q_Y{es:List Expr}{k:Nat}{t:TGs}{n:Nat}(hc:X.calm=true)(h:PGs X es t)
  (hn:(assignEach es X.env).length=n:=by rfl) (hst:(assignEach es X.env).findIdx? (·.1)=none:=by rfl):PG X (.Tuple es k pos) (y_Z X.K n t):=by
 intro pins s Y H v u Q I r hw
 obtain⟨a,xs,e1,hq,hl,hw⟩:=hw
 subst e1
 cases r
 obtain⟨its,rv,ht,hz⟩:=I.tuple hq
 refine assign_Tuple_tuple (I.ok.hd hc) ht (by simp[hn,<-hl,rv.length]) hst fun h' hx=>?_
 have I1:Inv X pins Y H { s with heap:=h' }:=I.kept (t':=s.toks) fun b o e=>hx b o (Nat.ne_of_lt (Qad e)) e
 exact h pins _ Y H xs _ Q I1 (by simpa using rv) hw
noncomputable def n_r(to ti:TE)(t:w_P):TG:=fun v Y H Q=>to Y H fun o H1=>ti Y H1 fun i H2=>t o i v H2 fun H3=>Q Y H3
theorem t_Y{o i:Expr}{to ti:TE}{t:w_P}(ho:PE X o to)(hi:PE X i ti)(hs:y_B X t)
  (ha:∀v,assign (.Subscript o i pos) X.env v=(do
   let ov <-holding [v] (eval o X.env)
   let iv <-holding [v,ov] (eval i X.env)
   standAt pos
   holding [v,ov,iv] (setItem ov iv v)
   release [v,ov,iv] []):=by intro _;rfl):PG X (.Subscript o i pos) (n_r to ti t):=by
 intro pins s Y H v u Q I r h
 rw[ha]
 refine Qaa (wpAny_holding (thn (ho pins s Y H _ I h) fun ov s1 ⟨x,H1,I1,r1,q1⟩=>?_))
 refine Qaa (wpAny_holding (thn (hi pins s1 Y H1 _ I1 q1) fun iv s2 ⟨y,H2,I2,r2,q2⟩=>?_))
 refine Qaa (wpAny_standAt (Qaa (wpAny_holding (thn (hs pins s2 Y H2 x y v ov iv u _ I2 r1 r2 r q2) fun _ s3 ⟨H3,I3,q3⟩=>?_))))
 exact wpAny_release ⟨Y,H3,I3,q3⟩
noncomputable def w_3(te:TE)(g:TG):TS:=fun D Y H=>te Y H fun x H1=>g x Y H1 D.nx
theorem o_u{tg e:Expr}{te:TE}{g:TG}(he:PE X e te)(hg:PG X tg g)(hs:swapsWithSole [tg] e pos.line X.env=pure false:=by rfl)(hw:swappedStores [tg] e X.env=pure none:=by rfl)
  (h1:(assignEach [tg] X.env).map (·.2)=[assign tg X.env]:=by rfl):PS X (.Assign [tg] e pos) (w_3 te g):=by
 intro pins s Y H D I h
 refine wpAny_Assign_stores (thn (he pins s Y H _ I h) fun v s1 ⟨x,H1,I1,r1,q1⟩=>?_) hs hw
 rw[h1]
 exact thn (hg pins s1 Y H1 x v _ I1 r1 q1) fun _ s2 q=>q
theorem r_a{i:Nat}{x:Str}{e:Expr}{te:TE}{pos':Pos}(hN:X.N.Nodup)(hi:X.N[i]? = some x)(hx:Loc X.env.scope x)(he:PE X e te)(hs:swapsWith e (some (.Name x pos')) pos.line X.env=pure false:=by rfl)(hf:X.fn x=true\/X.env.scope.names.lookup x=some .local:=by first | exact .inl rfl | exact .inr rfl | assumption) :
  PS X (.Assign [.Name x pos'] e pos) (w_3 te (q_E i)):=by
 intro pins s Y H D I h
 refine wpAny_Assign_Name (thn (he pins s Y H _ I h) fun v s1 ⟨y,H1,I1,r1,q1⟩=>?_) hs
 exact h_u I1 hN hi hx r1 (fun s2 I2=>⟨_,H1,I2,q1⟩) hf
noncomputable def z_x(i j:Nat)(ta:TA):TS:=fun D Y H=>ta Y H fun vs H1=>∃v w,vs=[v,w]/\D.nx ((Y.set i (some v)).set j (some w)) H1
theorem v_P{i j:Nat}{x y:Str}{a b:Expr}{ta:TA}{px py pt:Pos}{kt k2 pt2}(hc:X.calm=true)(hN:X.N.Nodup)(hi:X.N[i]? = some x)(hj:X.N[j]? = some y)(hij:i≠j)
  (hx:X.env.scope.names.lookup x=some .local) (hy:X.env.scope.names.lookup y=some .local) (ha:PA X [a,b] ta)
  (hw:swappedStores [.Tuple [.Name x px,.Name y py] kt pt] (.Tuple [a,b] k2 pt2) X.env=pure (some [x,y]))
  (hs:swapsWithSole [.Tuple [.Name x px,.Name y py] kt pt] (.Tuple [a,b] k2 pt2) pos.line X.env=pure false:=by rfl) :
  PS X (.Assign [.Tuple [.Name x px,.Name y py] kt pt] (.Tuple [a,b] k2 pt2) pos) (z_x i j ta):=by
 intro pins s Y H D I h
 rw[exec_Assign_arm]
 refine Qaa (wpAny_standAt ?_)
 rw[hs]
 refine Qaa (Qab ?_)
 rw[if_neg (by decide)]
 refine Qaa (Tuple_ (thn (ha _ pins s Y H _ I h) fun us s1 ⟨vs,H1,I1,r1,q1⟩=>?_))
 obtain⟨v,w,e1,q1⟩:=q1
 subst e1
 obtain⟨u1,u2,rfl,rv,rw'⟩:∃u1 u2,us=[u1,u2]/\c_b v u1/\c_b w u2:=by
  cases r1 with
  | cons p q=>
   cases q with
   | cons p' q'=>
    cases q'
    exact⟨_,_,rfl,p,p'⟩
 refine wpAny_newObj_type ?_ (by show 2<=sizeLine;decide)
 have I2:Inv X pins Y H1 { s1 with heap:=s1.heap.push { cls:=.type "tuple",data:=.seq [u1,u2].toArray } }:=I1.kept (t':=s1.toks) fun b o e=>Qac _ e
 rw[hw]
 refine Qaa (Qab ?_)
 show wpAny (model X.prog X.w) X.A (do rule "assign.swapped-stores";let items <-unpackItems (.ref s1.heap.objs.size) 2 none;assignInOrder [fun v=>bindName X.env y v,fun v=>bindName X.env x v] items.reverse;pure Flow.next) _ _ _
 refine Qaa (wpAny_rule (Qaa (unpackItems_tuple (items:=#[u1,u2]) (I.ok.hd hc) (IsTup.new s1.heap _) fun h' hx'=>?_)))
 have I3:=I2.kept (h':=h') (t':=s1.toks) fun b o e=>hx' b o (Nat.ne_of_lt (Qad e)) e
 show wpAny _ _ (assignInOrder [fun v=>bindName X.env y v,fun v=>bindName X.env x v] [u2,u1] >>= fun _=>pure Flow.next) _ _ _
 refine Qaa (assignInOrder_cons (wpAny_bindName (h_u I3 hN hj (.inl hy) rw' (fun s2 I4=>?_) (.inr hy))))
 refine assignInOrder_cons (wpAny_bindName (h_u I4 hN hi (.inl hx) rv (fun s3 I5=>assignInOrder_nil (Qab ?_)) (.inr hx)))
 rw[List.set_comm _ _ (Ne.symm hij)] at I5
 exact⟨_,H1,I5,q1⟩
end
section
variable{X:Cx}{pos:Pos}
noncomputable def u_O(c:TT)(tb:TS):TS:=fun D Y H=>∃W:Nat->St->Hp->Prop,(∃m,W m Y H)/\∀m Y H,W m Y H->
 c Y H fun b H1=>if b=true then ∃N:St->Hp->Prop,(∀Y' H',N Y' H'->∃m',m'<m/\W m' Y' H')/\tb { D with nx:=N,ct:=N,bk:=D.nx } Y H1 else D.nx Y H1
theorem p_E{c:Expr}{body:List Stmt}{tc:TT}{tb:TS}(hp:PassesOwn (model X.prog X.w) X.A X.env X.xe)(hc:PT X c tc)(hb:PSs X body tb):PS X (.While c body [] pos) (u_O tc tb):=by
 intro pins s Y H D I h
 obtain⟨W,⟨m0,w0⟩,turn⟩:=h
 refine wpAny_While (codeAny_whileLoop (fun n s'=>∃Y' H',Inv X pins Y' H' s'/\W n Y' H') ?_ m0 ⟨Y,H,I,w0⟩)
 rintro n s1 ⟨Y1,H1,I1,w1⟩
 refine wpAny_passesOwn hp (thn (hc pins s1 Y1 H1 _ I1 (turn n Y1 H1 w1)) fun b s2 ⟨H2,I2,q2⟩=>?_)
 cases b with
 | true=>
  obtain⟨N,hN,q2⟩:=q2
  rw[if_pos rfl]
  refine wpAny_passesOwn hp (thn (hb pins s2 Y1 H2 _ I2 q2) fun f s3 q3=>?_)
  cases f with
  | next=>
   obtain⟨Y3,H3,I3,n3⟩:=q3
   obtain⟨m',hm,w3⟩:=hN Y3 H3 n3
   exact⟨m',hm,Y3,H3,I3,w3⟩
  | cont=>
   obtain⟨Y3,H3,I3,n3⟩:=q3
   obtain⟨m',hm,w3⟩:=hN Y3 H3 n3
   exact⟨m',hm,Y3,H3,I3,w3⟩
  | brk=>exact q3
  | ret v=>exact q3
 | false=>
  rw[if_neg Bool.false_ne_true]
  exact wpAny_execs_nil ⟨Y1,H2,I2,q2⟩
end
structure It where
 go:Nat->Hp->Prop
 yld:Nat->Hp->V->Hp->Prop
 stop:Nat->Hp->Prop
noncomputable def n_q(X:Cx)(pins:List (Addr×Obj))(H:Hp)(b:Addr):Prop:=
 H b=none/\b≠X.env.locals/\b∉X.fs/\(b∈X.ex\/X.s₀.heap.objs.size<=b)/\(∀x c,X.env.cells.lookup x=some c->c≠b)/\∀p∈X.pn++pins,p.1≠b
theorem Inv.fpOk{X:Cx}{pins:List (Addr×Obj)}{Y:St}{H H':Hp}{s:Shared}{b:Addr}(I:Inv X pins Y H s)(hb:s.heap.objs.size<=b)(hn:H' b=none):n_q X pins H' b:=by
 refine⟨hn,Nat.ne_of_gt (Nat.lt_of_lt_of_le I.lt hb),I.nofs hb,.inr (Nat.le_trans I.sz hb),fun x c e z=>?_,fun p hp z=>?_⟩
 ·obtain⟨v,q⟩:=I.cell x c e
  exact absurd (Nat.lt_of_lt_of_le q.lt (by rw[z];exact hb)) (Nat.lt_irrefl _)
 ·exact absurd (Nat.lt_of_lt_of_le (Qad (I.pin p hp).1) (by rw[z];exact hb)) (Nat.lt_irrefl _)
structure Turn (P:Program) (w:World) (K:Frag) (tg:Expr) (J:It) (fp:List Addr) (it:Addr) (tn:Nat->Heap->Prop):Prop where
 mem:it∈fp
 obj:∀i h,tn i h->∀b∈fp,∃o,h.get? b=some o/\∀v,o.data≠.cell v
 keep:∀i h h',tn i h->(∀b∈fp,∀o,h.get? b=some o->h'.get? b=some o)->tn i h'
 item:∀(X:Cx),X.prog=P->X.w=w->X.K=K->X.calm=true->∀(i:Nat) (pins:List (Addr×Obj)) (s:Shared) (Y:St) (H:Hp) (E:Value->Shared->Prop),Inv X pins Y H s->(∀b∈fp,n_q X pins H b)->tn i s.heap->J.go i H->
  wpAny (model P w) X.A (pyNext (.ref it)) (fun r s1=>∃u,r=some u/\
   wpAny (model P w) X.A (letOwnedTupleGo tg (.ref it) u) (fun _ s2=>∃x H',Inv X pins Y H' s2/\c_b x u/\J.yld i H x H'/\tn (i+1) s2.heap/\∀b∈fp,H' b=none) E s1) E s
 done:∀(X:Cx),X.prog=P->X.w=w->X.K=K->X.calm=true->∀(i:Nat) (pins:List (Addr×Obj)) (s:Shared) (Y:St) (H:Hp) (E:Value->Shared->Prop),Inv X pins Y H s->(∀b∈fp,n_q X pins H b)->tn i s.heap->J.stop i H->
  wpAny (model P w) X.A (pyNext (.ref it)) (fun r s1=>r=none/\Inv X pins Y H s1) E s
 self:∀(A:Around) (i:Nat) (s:Shared) (Q:Value->Shared->Prop) (E:Value->Shared->Prop),tn i s.heap->Q (.ref it) s->wpAny (model P w) A (pyIter (.ref it)) Q E s
noncomputable abbrev TI:=St->Hp->(It->Hp->Prop)->Prop
noncomputable def PIE(X:Cx)(pins:List (Addr×Obj))(Y:St)(tg:Expr)(R:It->Hp->Prop)(itv:Value)(s2:Shared):Prop:=
 ∃(it:Addr) (fp:List Addr) (tn:Nat->Heap->Prop) (J:It) (H':Hp),itv=.ref it/\Inv X pins Y H' s2/\Turn X.prog X.w X.K tg J fp it tn/\tn 0 s2.heap/\(∀b∈fp,n_q X pins H' b)/\R J H'
noncomputable def PI(X:Cx)(tg iter:Expr)(wi:TI):Prop:=
 ∀(pins:List (Addr×Obj)) (s:Shared) (Y:St) (H:Hp) (R:It->Hp->Prop),Inv X pins Y H s->wi Y H R->
  wpAny (model X.prog X.w) X.A (eval iter X.env) (fun v s1=>wpAny (model X.prog X.w) X.A (pyIter v) (PIE X pins Y tg R) X.xe s1) X.xe s
theorem p_8{M:Model}{A:Around}{E:Value->Shared->Prop}{s:Shared}{tg:Expr}{it:Addr}{u:Value}{o:Obj}{n:String}{vs:Array Value}{Q:Unit->Shared->Prop}(ho:s.heap.get? it=some o)(hc:o.cls=.type n)(hd:o.data=.fields vs)
    (hn:["enumerate","zip","dict_itemiterator","dict_reverseitemiterator","odict_iterator","itertools.zip_longest","itertools.pairwise"].contains n=false) (hQ:Q () s):wpAny M A (letOwnedTupleGo tg (.ref it) u) Q E s:=by
  unfold letOwnedTupleGo
  cases tg<;>first
    | exact Qab hQ
    | (cases u<;>first
        | exact Qab hQ
        | (refine Qaa (wpAny_load ho ?_)
           rw[hc,hd]
           show wpAny M A (if (["enumerate","zip","dict_itemiterator","dict_reverseitemiterator","odict_iterator","itertools.zip_longest","itertools.pairwise"].contains n&&vs[0]?==some (rawInt _))=true then _ else _) Q E s
           rw[if_neg (by intro h;rw[hn,Bool.false_and] at h;cases h)]
           exact Qab hQ))
noncomputable def Itl(K:Frag)(a:Addr):It:=
 ⟨fun i H=>∃xs x,SqL K H a xs/\xs[i]? = some x,fun i H x H'=>H' = H/\∀xs,SqL K H a xs->xs[i]? = some x,fun i H=>∃xs,SqL K H a xs/\xs.length<=i⟩
noncomputable def Itt(K:Frag)(a:Addr):It:=
 ⟨fun i H=>∃xs x,SqT K H a xs/\xs[i]? = some x,fun i H x H'=>H' = H/\∀xs,SqT K H a xs->xs[i]? = some x,fun i H=>∃xs,SqT K H a xs/\xs.length<=i⟩
noncomputable def Itr(lo:Int)(n:Nat):It:=⟨fun i _=>i<n,fun i H x H'=>H' = H/\x=.int (lo+i),fun i _=>n<=i⟩
theorem n_K{P:Program}{w:World}{K:Frag}{tg:Expr}(a it:Addr):Turn P w K tg (Itl K a) [it] it (fun i h=>h.IsListIter it a i) where
 mem:=by simp
 obj:=fun i h st b hb=>by
  have e:b=it:=by simpa using hb
  subst e
  obtain⟨o,e,c,d⟩:=st
  exact⟨o,e,fun v z=>by rw[d] at z;cases z⟩
 keep:=fun i h h' st k=>st.at fun o e=>k it (by simp) o e
 item:=by
  intro X hP hw hK hc i pins s Y H E I hf st hg
  subst hP hw hK
  obtain⟨xs,x,hq,hx⟩:=hg
  obtain⟨its,rv,p,hz⟩:=I.list hq
  obtain⟨u,hu,ru⟩:=rv.get hx
  obtain⟨f0,f1,f2,f3,f4,f5⟩:=hf it (by simp)
  refine wpAny_pyNext_list_item st p.isList (x:=u) (by simpa using hu) fun h' st' sb=>?_
  have I1:Inv X pins Y H { s with heap:=h' }:=I.turned (t':=s.toks) (fun b o hb e=>(sb.2 b hb).trans e) f0 f1 f3 f4 f5
  obtain⟨o,e,c,d⟩:=id st'
  exact⟨u,rfl,p_8 (s:={ s with heap:=h' }) e c d (by decide) ⟨x,H,I1,ru,⟨rfl,fun ys hy=>by rw[I.list_inj hy hq];exact hx⟩,st',fun b hb=>(hf b hb).1⟩⟩
 done:=by
  intro X hP hw hK hc i pins s Y H E I hf st hg
  subst hP hw hK
  obtain⟨xs,hq,hx⟩:=hg
  obtain⟨its,rv,p,hz⟩:=I.list hq
  obtain⟨f0,f1,f2,f3,f4,f5⟩:=hf it (by simp)
  have hl:=rv.length
  exact wpAny_pyNext_list_end (I.ok.hd hc) st p.isList (by simp;omega) fun h' eb=>⟨rfl,I.turned (t':=s.toks) (fun b o hb e=>eb b o hb e) f0 f1 f3 f4 f5⟩
 self:=fun _ _ _ _ _ st h=>wpAny_pyIter_listiter st h
theorem m_V{P:Program}{w:World}{K:Frag}{tg:Expr}(a it:Addr):Turn P w K tg (Itt K a) [it] it (fun i h=>h.IsTupleIter it a i) where
 mem:=by simp
 obj:=fun i h st b hb=>by
  have e:b=it:=by simpa using hb
  subst e
  obtain⟨o,e,c,d⟩:=st
  exact⟨o,e,fun v z=>by rw[d] at z;cases z⟩
 keep:=fun i h h' st k=>st.at fun o e=>k it (by simp) o e
 item:=by
  intro X hP hw hK hc i pins s Y H E I hf st hg
  subst hP hw hK
  obtain⟨xs,x,hq,hx⟩:=hg
  obtain⟨its,rv,p,hz⟩:=I.tuple hq
  obtain⟨u,hu,ru⟩:=rv.get hx
  obtain⟨f0,f1,f2,f3,f4,f5⟩:=hf it (by simp)
  refine wpAny_pyNext_tuple_item st (show s.heap.IsTuple a its.toArray from p) (x:=u) (by simpa using hu) fun h' st' sb=>?_
  have I1:Inv X pins Y H { s with heap:=h' }:=I.turned (t':=s.toks) (fun b o hb e=>(sb.2 b hb).trans e) f0 f1 f3 f4 f5
  obtain⟨o,e,c,d⟩:=id st'
  exact⟨u,rfl,p_8 (s:={ s with heap:=h' }) e c d (by decide) ⟨x,H,I1,ru,⟨rfl,fun ys hy=>by rw[I.tuple_inj hy hq];exact hx⟩,st',fun b hb=>(hf b hb).1⟩⟩
 done:=by
  intro X hP hw hK hc i pins s Y H E I hf st hg
  subst hP hw hK
  obtain⟨xs,hq,hx⟩:=hg
  obtain⟨its,rv,p,hz⟩:=I.tuple hq
  obtain⟨f0,f1,f2,f3,f4,f5⟩:=hf it (by simp)
  have hl:=rv.length
  exact wpAny_pyNext_tuple_end (I.ok.hd hc) st (show s.heap.IsTuple a its.toArray from p) (by simp;omega) fun h' eb=>⟨rfl,I.turned (t':=s.toks) (fun b o hb e=>eb b o hb e) f0 f1 f3 f4 f5⟩
 self:=fun _ _ _ _ _ st h=>wpAny_pyIter_tupleiter st h
theorem n_m{P:Program}{w:World}{K:Frag}{tg:Expr}(it:Addr)(lo:Int)(n:Nat):Turn P w K tg (Itr lo n) [it] it (fun i h=>IsRangeIter h it (lo+(i:Nat) * 1) ((n:Int) - (i:Nat)) 1) where
 mem:=by simp
 obj:=fun i h st b hb=>by
  have e:b=it:=by simpa using hb
  subst e
  exact⟨_,st,fun v z=>by
   have z':Data.fields _=Data.cell v:=z
   cases z'⟩
 keep:=fun i h h' st k=>k it (by simp) _ st
 item:=by
  intro X hP hw hK hc i pins s Y H E I hf st hg
  subst hP hw hK
  obtain⟨f0,f1,f2,f3,f4,f5⟩:=hf it (by simp)
  have W:=Walks.range (prog:=X.prog) (w:=X.w) (I.ok.hd hc) it lo 1 n
  refine W.item i s _ _ hg st fun v h' tk hv st' kk=>?_
  obtain⟨t,rfl⟩:=hv
  have I1:Inv X pins Y H { s with heap:=h',toks:=tk }:=I.turned (fun b o hb e=>kk b o (by simpa using hb) e) f0 f1 f3 f4 f5
  refine⟨_,rfl,p_8 (s:={ s with heap:=h',toks:=tk }) (n:="range_iterator") st' rfl rfl (by decide) ⟨.int (lo+i),H,I1,⟨t,?_⟩,⟨rfl,rfl⟩,st',fun b hb=>(hf b hb).1⟩⟩
  rw[Int.mul_one]
 done:=by
  intro X hP hw hK hc i pins s Y H E I hf st hg
  subst hP hw hK
  obtain⟨f0,f1,f2,f3,f4,f5⟩:=hf it (by simp)
  exact wpAny_pyNext_range_end (I.ok.hd hc) st (by have:n<=i:=hg;omega) fun h' eb=>⟨rfl,I.turned (t':=s.toks) (fun b o hb e=>eb b o hb e) f0 f1 f3 f4 f5⟩
 self:=fun _ _ _ _ _ st h=>wpAny_pyIter_rangeiter st h
section
variable{X:Cx}{tg:Expr}
noncomputable def w_Y(K:Frag)(tl:TE):TI:=fun Y H R=>tl Y H fun x H1=>∃a,x=.ref a/\(∃xs,SqL K H1 a xs)/\R (Itl K a) H1
noncomputable def y_3(K:Frag)(tl:TE):TI:=fun Y H R=>tl Y H fun x H1=>∃a,x=.ref a/\(∃xs,SqT K H1 a xs)/\R (Itt K a) H1
theorem s_u{l:Expr}{tl:TE}(hl:PE X l tl):PI X tg l (w_Y X.K tl):=by
 intro pins s Y H R I h
 refine thn (hl pins s Y H _ I h) fun v s1 ⟨x,H1,I1,r1,q1⟩=>?_
 obtain⟨a,e,⟨xs,hq⟩,q⟩:=q1
 subst e
 cases r1
 obtain⟨its,rv,p,hz⟩:=I1.list hq
 refine wpAny_pyIter_list p.isList ?_
 refine⟨s1.heap.objs.size,[s1.heap.objs.size],_,_,H1,rfl,I1.kept (t':=s1.toks) fun b o e=>Qac _ e,n_K a _,⟨_,Heap.get?_push_size _ rfl,rfl,rfl⟩,fun b hb=>?_,q⟩
 have e:b=s1.heap.objs.size:=by simpa using hb
 subst e
 exact I1.fpOk (Qae _) (I1.hok.fresh (Qae _))
theorem v_1{l:Expr}{tl:TE}(hl:PE X l tl):PI X tg l (y_3 X.K tl):=by
 intro pins s Y H R I h
 refine thn (hl pins s Y H _ I h) fun v s1 ⟨x,H1,I1,r1,q1⟩=>?_
 obtain⟨a,e,⟨xs,hq⟩,q⟩:=q1
 subst e
 cases r1
 obtain⟨its,rv,p,hz⟩:=I1.tuple hq
 refine wpAny_pyIter_tuple (show s1.heap.IsTuple a its.toArray from p) ?_
 refine⟨s1.heap.objs.size,[s1.heap.objs.size],_,_,H1,rfl,I1.kept (t':=s1.toks) fun b o e=>Qac _ e,m_V a _,⟨_,Heap.get?_push_size _ rfl,rfl,rfl⟩,fun b hb=>?_,q⟩
 have e:b=s1.heap.objs.size:=by simpa using hb
 subst e
 exact I1.fpOk (Qae _) (I1.hok.fresh (Qae _))
theorem q_o{pins:List (Addr×Obj)}{Y:St}{H:Hp}{s:Shared}{R:It->Hp->Prop}{E:Value->Shared->Prop}{lo hi:Int}{t u v:Tok}{tk:Nat}(I:Inv X pins Y H s)(h1:-(2 ^ 62)<=lo)(h2:lo<2 ^ 62)(h3:-(2 ^ 62)<=hi)(h4:hi<2 ^ 62)
  (q:R (Itr lo (hi - lo).toNat) H):wpAny (model X.prog X.w) X.A (pyIter (.ref s.heap.objs.size)) (PIE X pins Y tg R) E { s with heap:=s.heap.push { cls:=.type "range",data:=.fields #[.int lo t,.int hi u,.int 1 v] },toks:=tk }:=by
 refine wpAny_pyIter_range (IsRange.new ..) (small_one h1 h2 h3 h4) ?_
 have I1:Inv X pins Y H { s with heap:=s.heap.push { cls:=.type "range",data:=.fields #[.int lo t,.int hi u,.int 1 v] },toks:=tk }:=I.kept fun b o e=>Qac _ e
 refine⟨(s.heap.push { cls:=.type "range",data:=.fields #[.int lo t,.int hi u,.int 1 v] }).objs.size,[(s.heap.push { cls:=.type "range",data:=.fields #[.int lo t,.int hi u,.int 1 v] }).objs.size],_,_,H,rfl,
  I1.kept (t':=tk) fun b o e=>Qac _ e,n_m _ lo (hi - lo).toNat,?_,fun b hb=>?_,q⟩
 ·have e1:lo+((0:Nat):Int) * 1=lo:=by simp
  have e2:(((hi - lo).toNat:Nat):Int) - ((0:Nat):Int)=Builtin.Range.rangeSize lo hi 1:=by rw[rangeSize_one];split<;>omega
  show IsRangeIter _ _ (lo+((0:Nat):Int) * 1) ((((hi - lo).toNat:Nat):Int) - ((0:Nat):Int)) 1
  rw[e1,e2]
  exact Heap.get?_push_size _ rfl
 ·have e:b=(s.heap.push { cls:=.type "range",data:=.fields #[.int lo t,.int hi u,.int 1 v] }).objs.size:=by simpa using hb
  subst e
  exact I1.fpOk (Qae _) (I1.hok.fresh (Qae _))
noncomputable def x_v(ta:TA):TI:=fun Y H R=>ta Y H fun vs H1=>∃j:Int,vs=[.int j]/\-(2 ^ 62)<=j/\j<2 ^ 62/\R (Itr 0 j.toNat) H1
theorem o_d{a:Expr}{ta:TA}{p pos:Pos}(hg:Gl X "range")(hm:X.mg "range" = none)(ha:PA X [a] ta)(hs:starEach [a] X.env=[(false,eval a X.env)]:=by rfl):PI X tg (.Call (.Name "range" p) [a] [] pos) (x_v ta):=by
 intro pins s Y H R I h
 refine Call_ (f_P I hg hm boot_range (PyProof.Rows.callWith_type1 (thn (ha pos pins s Y H _ I h) fun us s1 ⟨vs,H1,I1,r1,q1⟩=>?_) hs rfl))
 obtain⟨j,e,q1,q2,q⟩:=q1
 subst e
 cases r1 with
 | cons r rr=>
  cases rr
  obtain⟨t,rfl⟩:=r
  exact call_range_1 (q_o I1 (by omega) (by omega) q1 q2 (by simpa using q))
noncomputable def z_K(wi:TI)(g:TG)(tb:TS):TS:=fun D Y H=>wi Y H fun J H1=>∃W:Nat->Nat->St->Hp->Prop,(∃m,W 0 m Y H1)/\∀i m Y H,W i m Y H->
 (J.stop i H/\D.nx Y H)\/(J.go i H/\∃N:St->Hp->Prop,(∀Y' H',N Y' H'->∃m',m'<m/\W (i+1) m' Y' H')/\∀x H',J.yld i H x H'->g x Y H' fun Y2 H2=>tb { D with nx:=N,ct:=N,bk:=D.nx } Y2 H2)
noncomputable def k_l(fp:List Addr)(h:Heap):List (Addr×Obj):=fp.filterMap fun b=>(h.get? b).map fun o=>(b,o)
theorem f_H{fp:List Addr}{h:Heap}{b:Addr}{o:Obj}(hb:b∈fp)(e:h.get? b=some o):(b,o)∈k_l fp h:=List.mem_filterMap.mpr ⟨b,hb,by rw[e];rfl⟩
theorem n_A{fp:List Addr}{h:Heap}{p:Addr×Obj}(hp:p∈k_l fp h):p.1∈fp/\h.get? p.1=some p.2:=by
 obtain⟨b,hb,e⟩:=List.mem_filterMap.mp hp
 cases q:h.get? b with
 | none=>rw[q] at e;cases e
 | some o=>
  rw[q] at e
  have e':(b,o)=p:=Option.some.inj e
  subst e'
  exact⟨hb,q⟩
theorem Inv.pinned{pins:List (Addr×Obj)}{Y:St}{H:Hp}{s:Shared}{fp:List Addr}(I:Inv X pins Y H s)(hf:∀b∈fp,n_q X pins H b)(ho:∀b∈fp,∃o,s.heap.get? b=some o/\∀v,o.data≠.cell v):Inv X (pins++k_l fp s.heap) Y H s:=
 I.pins_of fun p hp=>(List.mem_append.mp hp).elim (fun z=>I.pin p (Qai _ z)) fun z=>by
  obtain⟨hb,e⟩:=n_A z
  obtain⟨f0,f1,f2,_⟩:=hf p.1 hb
  obtain⟨o,e',d⟩:=ho p.1 hb
  rw[e] at e';cases e'
  exact⟨e,f0,f1,f2,d⟩
theorem Inv.unpinned{pins pl:List (Addr×Obj)}{Y:St}{H:Hp}{s:Shared}(I:Inv X (pins++pl) Y H s):Inv X pins Y H s:=I.pins_of fun p hp=>I.pin p (Qai _ (Qaj _ hp))
theorem u_B{iter:Expr}{body:List Stmt}{wi:TI}{g:TG}{tb:TS}{pos:Pos}(hp:PassesOwn (model X.prog X.w) X.A X.env X.xe)(hc:X.calm=true)(hi:PI X tg iter wi)(hg:PG X tg g)(hb:PSs X body tb)
  (hs:∀x,foldedSetIterable iter X.env x=pure x:=by intro _;rfl):PS X (.For tg iter body [] pos) (z_K wi g tb):=by
 intro pins s Y H D I h
 refine wpAny_For (thn (hi pins s Y H _ I h) fun v s1 h1=>thn h1 fun itv s2 h2=>?_) hs
 obtain⟨it,fp,tn,J,H2,e,I2,T,st2,f2,W,⟨m0,w0⟩,turn⟩:=h2
 subst e
 have stat:∀{H':Hp},(∀b∈fp,H' b=none)->∀b∈fp,n_q X pins H' b:=fun hn b hb=>⟨hn b hb,(f2 b hb).2⟩
 refine codeAny_forLoop_any (fun n s'=>∃i Y' H',Inv X pins Y' H' s'/\tn i s'.heap/\(∀b∈fp,H' b=none)/\W i n Y' H') ?_ m0 ⟨0,Y,H2,I2,st2,fun b hb=>(f2 b hb).1,w0⟩
 rintro n s3 ⟨i,Y3,H3,I3,st3,fr3,w3⟩
 rcases turn i n Y3 H3 w3 with⟨stop,qn⟩ | ⟨go,N,hN,step⟩
 ·refine wpAny_passesOwn hp (thn (T.done X rfl rfl rfl hc i pins s3 Y3 H3 X.xe I3 (stat fr3) st3 stop) fun r s4 ⟨hr,I4⟩=>?_)
  subst hr
  exact wpAny_execs_nil ⟨Y3,H3,I4,qn⟩
 ·refine wpAny_passesOwn hp (thn (T.item X rfl rfl rfl hc i pins s3 Y3 H3 X.xe I3 (stat fr3) st3 go) fun r s4 ⟨u,hr,h4⟩=>?_)
  subst hr
  refine wpAny_passesOwn hp (thn h4 fun _ s5 ⟨x,H5,I5,r5,y5,st5,fr5⟩=>?_)
  have I5':=I5.pinned (stat fr5) (T.obj _ _ st5)
  refine wpAny_passesOwn hp (thn (hg _ s5 Y3 H5 x u _ I5' r5 (step x H5 y5)) fun _ s6 ⟨Y6,H6,I6,q6⟩=>?_)
  refine wpAny_passesOwn hp (thn (hb _ s6 Y6 H6 _ I6 q6) fun f s7 q7=>?_)
  have again:∀{Y7:St}{H7:Hp},Inv X (pins++k_l fp s5.heap) Y7 H7 s7->N Y7 H7->∃m,m<n/\∃i Y' H',Inv X pins Y' H' s7/\tn i s7.heap/\(∀b∈fp,H' b=none)/\W i m Y' H':=fun {Y7 H7} I7 n7=>by
   obtain⟨m',hm,w7⟩:=hN Y7 H7 n7
   refine⟨m',hm,i+1,Y7,H7,I7.unpinned,T.keep _ _ _ st5 fun b hb o e=>(I7.pin (b,o) (Qai _ (Qai _ (f_H hb e)))).1,fun b hb=>?_,w7⟩
   obtain⟨o,e,d⟩:=T.obj _ _ st5 b hb
   exact(I7.pin (b,o) (Qai _ (Qai _ (f_H hb e)))).2.1
  cases f with
  | next=>obtain⟨Y7,H7,I7,n7⟩:=q7;exact again I7 n7
  | cont=>obtain⟨Y7,H7,I7,n7⟩:=q7;exact again I7 n7
  | brk=>obtain⟨Y7,H7,I7,q7⟩:=q7;exact⟨Y7,H7,I7.unpinned,q7⟩
  | ret v=>obtain⟨x7,Y7,H7,I7,r7,q7⟩:=q7;exact⟨x7,Y7,H7,I7.unpinned,r7,q7⟩
end
noncomputable abbrev R2:=V->V->Hp->VK->Prop
noncomputable def OpR(X:Cx)(f:Value->Value->Sem Value)(r:R2):Prop:=
 ∀(pins:List (Addr×Obj)) (s:Shared) (Y:St) (H:Hp) (x y:V) (v u:Value) (Q:VK),Inv X pins Y H s->c_b x v->c_b y u->r x y H Q->
  wpAny (model X.prog X.w) X.A (f v u) (EP X pins Y Q) X.xe s
noncomputable def UnR(X:Cx)(f:Value->Sem Value)(r:V->Hp->VK->Prop):Prop:=
 ∀(pins:List (Addr×Obj)) (s:Shared) (Y:St) (H:Hp) (x:V) (v:Value) (Q:VK),Inv X pins Y H s->c_b x v->r x H Q->
  wpAny (model X.prog X.w) X.A (f v) (EP X pins Y Q) X.xe s
noncomputable def i_p(X:Cx)(f:Value)(r:List V->Hp->VK->Prop):Prop:=
 ∀(pins:List (Addr×Obj)) (s:Shared) (Y:St) (H:Hp) (xs:List V) (us:List Value) (Q:VK),Inv X pins Y H s->b_M xs us->r xs H Q->
  wpAny (model X.prog X.w) X.A (call f us) (EP X pins Y Q) X.xe s
noncomputable def tOp(r:R2)(ta tb:TE):TE:=fun Y H Q=>ta Y H fun x H1=>tb Y H1 fun y H2=>r x y H2 Q
noncomputable def tUn(r:V->Hp->VK->Prop)(ta:TE):TE:=fun Y H Q=>ta Y H fun x H1=>r x H1 Q
noncomputable def rI(C:Int->Int->Prop)(g:Int->Int->V):R2:=fun x y H Q=>∃i j,x=.int i/\y=.int j/\C i j/\Q (g i j) H
noncomputable def rI0(g:Int->Int->V):R2:=fun x y H Q=>∃i j,x=.int i/\y=.int j/\Q (g i j) H
noncomputable def rU(g:Int->V):V->Hp->VK->Prop:=fun x H Q=>∃i,x=.int i/\Q (g i) H
section
variable{X:Cx}{a b c:Expr}{ta tb tc:TE}{pos:Pos}
theorem w_L(ha:PE X a ta)(hb:PE X b tb){pins:List (Addr×Obj)}{s:Shared}{Y:St}{H:Hp}{R:V->V->Hp->Prop}(I:Inv X pins Y H s)
  (h:ta Y H fun x H1=>tb Y H1 fun y H2=>R x y H2) {Q:Value->Shared->Prop}{f:Value->Value->Sem Value}
  (hf:∀v u s2 x y H2,Inv X pins Y H2 s2->c_b x v->c_b y u->R x y H2->wpAny (model X.prog X.w) X.A (f v u) Q X.xe s2) :
  wpAny (model X.prog X.w) X.A (eval a X.env) (fun v s₁=>wpAny (model X.prog X.w) X.A (eval b X.env) (fun u s₂=>wpAny (model X.prog X.w) X.A (f v u) Q X.xe s₂) X.xe s₁) X.xe s:=by
 refine thn (ha pins s Y H _ I h) fun v s1 ⟨x,H1,I1,r1,q1⟩=>?_
 refine thn (hb pins s1 Y H1 _ I1 q1) fun u s2 ⟨y,H2,I2,r2,q2⟩=>?_
 exact hf v u s2 x y H2 I2 r1 r2 q2
theorem w_F{op:Operator}{r:R2}(ho:OpR X (binaryOp op) r)(ha:PE X a ta)(hb:PE X b tb):PE X (.BinOp a op b pos) (tOp r ta tb):=by
 intro pins s Y H Q I h
 exact wpAny_BinOp (w_L ha hb I h fun v u s2 x y H2 I2 rx ry q=>ho pins s2 Y H2 x y v u Q I2 rx ry q)
theorem x_0{op:UnaryOp}{r:V->Hp->VK->Prop}(ho:UnR X (unaryOp op) r)(ha:PE X a ta):PE X (.UnaryOp op a pos) (tUn r ta):=by
 intro pins s Y H Q I h
 exact UnaryOp_ (thn (ha pins s Y H _ I h) fun v s1 ⟨x,H1,I1,r1,q1⟩=>ho pins s1 Y H1 x v Q I1 r1 q1)
theorem opI{f:Value->Value->Sem Value}{C:Int->Int->Prop}{g:Int->Int->Int}
  (rule:∀(i j:Int) (t u:Tok) (s:Shared) (Q:Value->Shared->Prop) (E:Value->Shared->Prop),C i j->Q (.int (g i j) s.toks) { s with toks:=s.toks+1 }->wpAny (model X.prog X.w) X.A (f (.int i t) (.int j u)) Q E s) :
  OpR X f (rI C fun i j=>.int (g i j)):=by
 intro pins s Y H x y v u Q I rx ry h
 obtain⟨i,j,rfl,rfl,hc,q⟩:=h
 obtain⟨t,rfl⟩:=rx
 obtain⟨t',rfl⟩:=ry
 exact rule i j t t' s _ _ hc ⟨.int (g i j),H,I.tok _,⟨_,rfl⟩,q⟩
theorem y_i{f:Value->Value->Sem Value}{g:Int->Int->Int}
  (rule:∀(i j:Int) (t u:Tok) (s:Shared) (Q:Value->Shared->Prop) (E:Value->Shared->Prop),Q (.int (g i j) s.toks) { s with toks:=s.toks+1 }->wpAny (model X.prog X.w) X.A (f (.int i t) (.int j u)) Q E s) :
  OpR X f (rI0 fun i j=>.int (g i j)):=by
 intro pins s Y H x y v u Q I rx ry h
 obtain⟨i,j,rfl,rfl,q⟩:=h
 obtain⟨t,rfl⟩:=rx
 obtain⟨t',rfl⟩:=ry
 exact rule i j t t' s _ _ ⟨.int (g i j),H,I.tok _,⟨_,rfl⟩,q⟩
theorem w_x{f:Value->Value->Sem Value}{g:Int->Int->Bool}
  (rule:∀(i j:Int) (t u:Tok) (s:Shared) (Q:Value->Shared->Prop) (E:Value->Shared->Prop),Q (.bool (g i j)) s->wpAny (model X.prog X.w) X.A (f (.int i t) (.int j u)) Q E s) :
  OpR X f (rI0 fun i j=>.bl (g i j)):=by
 intro pins s Y H x y v u Q I rx ry h
 obtain⟨i,j,rfl,rfl,q⟩:=h
 obtain⟨t,rfl⟩:=rx
 obtain⟨t',rfl⟩:=ry
 exact rule i j t t' s _ _ ⟨.bl (g i j),H,I,rfl,q⟩
noncomputable def x_W(i j:Int):Prop:=0<j/\j<1073741824
noncomputable def x_O(i j:Int):Prop:=0<=j/\j<=1000000/\i.natAbs<2 ^ 64
noncomputable def v_r(i j:Int):Prop:=(-(2 ^ 64)<i/\i<2 ^ 64)\/(-(2 ^ 64)<j/\j<2 ^ 64)
theorem v_r.ok{i j:Int}(h:v_r i j):IntMulOk i j:=by
 rcases h with⟨h1,h2⟩ | ⟨h1,h2⟩
 ·exact .of_left (intBits_le_64 h1 h2)
 ·exact .of_right (intBits_le_64 h1 h2)
theorem u_I:OpR X (binaryOp .Add) (rI0 fun i j=>.int (i+j)):=y_i fun _ _ _ _ _ _ _ q=>add_int q
theorem t_K:OpR X (binaryOp .Sub) (rI0 fun i j=>.int (i - j)):=y_i fun _ _ _ _ _ _ _ q=>sub_int q
theorem u_L:OpR X (binaryOp .Mult) (rI v_r fun i j=>.int (i * j)):=opI fun _ _ _ _ _ _ _ hc q=>mul_int q hc.ok
theorem s_G:OpR X (binaryOp .FloorDiv) (rI x_W fun i j=>.int (i / j)):=opI fun i j _ _ _ _ _ hc q=>by
 have h1:(0:Int)<j:=hc.1
 have h2:j<1073741824:=hc.2
 exact floordiv_int (by omega) (by rw[Int.fdiv_eq_ediv_of_nonneg i (by omega)];exact q) (.inl (PyProof.noPylong_small (by omega)))
theorem v_5:OpR X (binaryOp .Mod) (rI (fun _ j=>0<j) fun i j=>.int (i % j)):=opI fun i j _ _ _ _ _ hc q=>by
 have h1:(0:Int)<j:=hc
 exact mod_int' (by omega) (by rw[Int.fmod_eq_emod_of_nonneg i (by omega)];exact q)
theorem t_8:OpR X (binaryOp .Pow) (rI x_O fun i j=>.int (i ^ j.toNat)):=opI fun _ _ _ _ _ _ _ hc q=>pow_int_small hc.1 hc.2.1 hc.2.2 q
theorem unI{f:Value->Sem Value}{g:Int->Int}
  (rule:∀(i:Int) (t:Tok) (s:Shared) (Q:Value->Shared->Prop) (E:Value->Shared->Prop),Q (.int (g i) s.toks) { s with toks:=s.toks+1 }->wpAny (model X.prog X.w) X.A (f (.int i t)) Q E s) :
  UnR X f (rU fun i=>.int (g i)):=by
 intro pins s Y H x v Q I rx h
 obtain⟨i,rfl,q⟩:=h
 obtain⟨t,rfl⟩:=rx
 exact rule i t s _ _ ⟨.int (g i),H,I.tok _,⟨_,rfl⟩,q⟩
theorem u_x:UnR X (unaryOp .USub) (rU fun i=>.int (-i)):=unI fun _ _ _ _ _ q=>neg_int q
end
section
variable{X:Cx}{a b c:Expr}{ta tb tc:TE}{pos:Pos}
theorem q_P{pins:List (Addr×Obj)}{Y:St}{H:Hp}{s:Shared}{Q:VK}{k k':Bool}(I:Inv X pins Y H s)(q:Q (.bl k) H)(e:k=k'):EP X pins Y Q (.bool k') s:=by
 subst e
 exact⟨.bl k,H,I,rfl,q⟩
theorem v_m:OpR X (compareOp .Lt) (rI0 fun i j=>.bl (decide (i<j))):=w_x fun _ _ _ _ _ _ _ q=>lt_int q
theorem p_u:OpR X (compareOp .LtE) (rI0 fun i j=>.bl (decide (i<=j))):=w_x fun _ _ _ _ _ _ _ q=>le_int q
theorem u_1:OpR X (compareOp .Gt) (rI0 fun i j=>.bl (decide (j<i))):=w_x fun _ _ _ _ _ _ _ q=>gt_int q
theorem x_S:OpR X (compareOp .GtE) (rI0 fun i j=>.bl (decide (j<=i))):=w_x fun _ _ _ _ _ _ _ q=>ge_int q
theorem q_S:OpR X (compareOp .Is) (fun x y H Q=>y=.non/\Q (.bl (decide (x=.non))) H):=by
 intro pins s Y H x y v u Q I rx ry h
 obtain⟨rfl,q⟩:=h
 cases ry
 refine is_none_gen (q_P I q ?_)
 cases x<;>first
  | (cases rx;rfl)
  | (obtain⟨t,rfl⟩:=rx;rfl)
theorem o_g:OpR X (compareOp .IsNot) (fun x y H Q=>y=.non/\Q (.bl (!decide (x=.non))) H):=by
 intro pins s Y H x y v u Q I rx ry h
 obtain⟨rfl,q⟩:=h
 cases ry
 refine isnot_none_gen (q_P I q ?_)
 cases x<;>first
  | (cases rx;rfl)
  | (obtain⟨t,rfl⟩:=rx;rfl)
theorem nomark(b:Expr){op:CmpOp}(h:op≠.In:=by decide)(h2:op≠.NotIn:=by decide):behindInMarks op b=false:=by
 have e1:(op==CmpOp.In)=false:=by cases op<;>first | rfl | exact absurd rfl h
 have e2:(op==CmpOp.NotIn)=false:=by cases op<;>first | rfl | exact absurd rfl h2
 cases b<;>simp[behindInMarks,e1,e2]
theorem r_I{op:CmpOp}{r:R2}(ho:OpR X (compareOp op) r)(ha:PE X a ta)(hb:PE X b tb)(hm:behindInMarks op b=false):PE X (.Compare a [op] [b] pos) (tOp r ta tb):=by
 intro pins s Y H Q I h
 exact wpAny_Compare1 (w_L ha hb I h fun v u s2 x y H2 I2 rx ry q=>ho pins s2 Y H2 x y v u Q I2 rx ry q) hm
noncomputable def w_5(t:TE):TT:=fun Y H Q=>t Y H fun x H'=>∃k,x=.bl k/\Q k H'
theorem n_v{op:CmpOp}{r:R2}(ho:OpR X (compareOp op) r)(ha:PE X a ta)(hb:PE X b tb)(hm:behindInMarks op b=false):PT X (.Compare a [op] [b] pos) (w_5 (tOp r ta tb)):=by
 intro pins s Y H Q I h
 refine wpAny_isTrue_Compare1 (thn (ha pins s Y H _ I h) fun v s1 ⟨x,H1,I1,r1,q1⟩=>thn (hb pins s1 Y H1 _ I1 q1) fun u s2 ⟨y,H2,I2,r2,q2⟩=>
  thn (ho pins s2 Y H2 x y v u _ I2 r1 r2 q2) fun c s3 ⟨z,H3,I3,r3,k,e,q3⟩=>?_) hm
 subst e
 cases r3
 exact wpAny_truthy_bool ⟨H3,I3,q3⟩
noncomputable def v_3(r r':R2)(ta tb tc:TE):TE:=fun Y H Q=>ta Y H fun x H1=>tb Y H1 fun y H2=>r x y H2 fun z H3=>∃k,z=.bl k/\
 (if k=true then tc Y H3 fun w' H4=>r' y w' H4 Q else Q (.bl false) H3)
theorem p_v{op op':CmpOp}{r r':R2}(ho:OpR X (compareOp op) r)(ho':OpR X (compareOp op') r')(ha:PE X a ta)(hb:PE X b tb)(hc:PE X c tc)
  (hm:lastMarks [op,op'] [b,c]=false:=by with_unfolding_all rfl):PE X (.Compare a [op,op'] [b,c] pos) (v_3 r r' ta tb tc):=by
 intro pins s Y H Q I h
 refine Compare_chain (thn (ha pins s Y H _ I h) fun v s1 ⟨x,H1,I1,r1,q1⟩=>chain_link (thn (hb pins s1 Y H1 _ I1 q1) fun u s2 ⟨y,H2,I2,r2,q2⟩=>
  thn (ho pins s2 Y H2 x y v u _ I2 r1 r2 q2) fun d s3 ⟨z,H3,I3,r3,k,e,q3⟩=>?_)) hm
 subst e
 cases r3
 refine wpAny_truthy_bool ?_
 cases k with
 | false=>exact ite_ff ⟨.bl false,H3,I3,rfl,q3⟩
 | true=>exact ite_tt (chain_last (thn (hc pins s3 Y H3 _ I3 q3) fun w' s4 ⟨z',H4,I4,r4,q4⟩=>ho' pins s4 Y H4 y z' u w' Q I4 r2 r4 q4))
theorem line63:(sizeLine:Nat)<2 ^ 63:=by rw[sizeLine_eq];decide
theorem vals1{x:V}{us:List Value}(r:b_M [x] us):∃u,us=[u]/\c_b x u:=by
 cases r with
 | cons r1 r2=>cases r2;exact⟨_,rfl,r1⟩
theorem vals2{x y:V}{us:List Value}(r:b_M [x,y] us):∃u w',us=[u,w']/\c_b x u/\c_b y w':=by
 cases r with
 | cons r1 r2=>
  cases r2 with
  | cons r3 r4=>cases r4;exact⟨_,_,rfl,r1,r3⟩
theorem k_O(hc:X.calm=true):i_p X (.builtin "max") (fun xs H Q=>∃i j,xs=[.int i,.int j]/\Q (.int (if j>i then j else i)) H):=by
 intro pins s Y H xs us Q I r h
 obtain⟨i,j,rfl,q⟩:=h
 obtain⟨u,w',rfl,⟨t,rfl⟩,⟨t',rfl⟩⟩:=vals2 r
 refine max_two_ints (I.ok.hd hc) fun h' tk k=>⟨_,H,I.kept k,?_,q⟩
 by_cases hj:j>i
 ·rw[if_pos hj,if_pos hj];exact⟨_,rfl⟩
 ·rw[if_neg hj,if_neg hj];exact⟨_,rfl⟩
end
structure ObjM (h:Heap) (x dx C:Addr) (mA:Str->Option Value):Prop where
 obj:h.get? x=some (instObj C dx)
 ns:h.Ns1 dx mA
 ne:dx≠x
theorem o_N{h:Heap}{dx:Addr}{mA:Str->Option Value}(n:h.Ns1 dx mA):∃od,h.get? dx=some od/\∀name,PySem.W.lookIn name od=some (mA name):=by
 obtain⟨o,es,ep,ho,hd,hk,_,hm⟩:=n
 refine⟨o,ho,fun name=>?_⟩
 have e:=hm name
 unfold nsFind findBy at e
 rw[<-Array.find?_toList] at e
 unfold PySem.W.lookIn
 rw[hd]
 dsimp only
 split
 ·rename_i y q
  rw[q] at e
  exact congrArg some e
 ·rename_i q
  rw[q] at e
  have a:es.toList.any (·.refKey)=false:=by
   rw[List.any_eq_false]
   intro y hy
   obtain⟨z,t,hkey⟩:=hk y (Array.mem_toList_iff.mp hy)
   simp[DictEntry.refKey,hkey]
  have a':¬ es.toList.any (·.refKey)=true:=by rw[a];exact Bool.false_ne_true
  rw[if_neg a']
  exact congrArg some e
theorem ObjM.look{h:Heap}{x dx C:Addr}{mA:Str->Option Value}(I:ObjM h x dx C mA):∃od,PySem.W.InstAt h x (instObj C dx) C (some od)/\∀name,PySem.W.lookIn name od=some (mA name):=
 let⟨od,ho,hl⟩:=o_N I.ns
 ⟨od,⟨I.obj,rfl,rfl,ho⟩,hl⟩
section
variable{prog:Program}{w:World}{A:Around}{E:Value->Shared->Prop}{s:Shared}{K:Frag}{x dx C f:Addr}{mA:Str->Option Value}{name:Str}{v:Value}
theorem r_t{expr:Bool}{Q:Value->Shared->Prop}(X:K.In s.heap)(I:ObjM s.heap x dx C mA)(hg:plainGet K C name=true)(hh:PySem.W.hasDictIn K C=true)
  (ha:findIn K (.ref C) name=some none) (hv:mA name=some v) (hv':PySem.W.handedIn v=true) (h:Q v { s with toks:=s.toks+1 }) :
  wpAny (model prog w) A (getAttr (.ref x) name expr) Q E s:=by
 obtain⟨od,J,hl⟩:=I.look
 exact PySem.W.get_value X J (PySem.W.plainGet_of hg).1 (PySem.W.findObj_own hh ha rfl (by rw[hl,hv])) hv' h
theorem p_2{pl:Sem Bool}{Q:Value×List Value->Shared->Prop}(X:K.In s.heap)(I:ObjM s.heap x dx C mA)(hg:plainGet K C name=true)
  (hf:findIn K (.ref C) name=some (some (.ref f))) (ht:isFn K (.ref f)=true) (hv:mA name=none) (h:Q (.ref f,[.ref x]) s) :
  wpAny (model prog w) A (getMethod (.ref x) name pl) Q E s:=by
 obtain⟨od,J,hl⟩:=I.look
 exact PySem.W.method_fn X J (PySem.W.plainGet_of hg).1 (PySem.W.plainGet_of hg).2 hf (beq_iff_eq.mp ht) (by show(PySem.W.lookIn name od).map (·.isSome)=some false;rw[hl,hv];rfl) h
theorem s_L{ns:List Str}{Q:Unit->Shared->Prop}(X:K.In s.heap)(I:ObjM s.heap x dx C mA)
  (hs:findIn K (.ref C) "__setattr__" = some (some (.builtin "object.__setattr__"))) (hp:PySem.W.plainOver K C=true) (ht:PySem.W.takerIn K C name=some none) (hh:PySem.W.hasDictIn K C=true)
  (hw:PySem.Within mA ns) (hsz:ns.length<=sizeLine)
  (h:∀h',ObjM h' x dx C (fun y=>if y=name then some v else mA y)->Heap.SameBut dx s.heap h'->Q () { s with heap:=h',toks:=s.toks+2 }) :
  wpAny (model prog w) A (setAttr (.ref x) name v) Q E s:=by
 obtain⟨od,J,hl⟩:=I.look
 refine PySem.W.set_plain X J hs (PySem.W.osa_open (s:={ s with toks:=s.toks+1 }) (r:=none) X J hp ht fun b=>?_)
 obtain⟨cd,hc,hd'⟩:=PySem.W.any_some hh
 have hx:s.heap.get? x=some ⟨.ref C,some dx,.plain,#[]⟩:=I.obj
 refine Qaa (Qab (Qaa (Qaa (wpAny_loadPart hx (Qaa (PySem.W.Looks.here (s:={ s with toks:=s.toks+1 }) (PySem.W.looks_clsIn X hc) ?_))))))
 rw[hd']
 refine Qab (a:=some dx) (Qaa (Qab (Qaa ?_)))
 refine wpAny_nsSet1 (s:={ s with toks:=s.toks+1 }) I.ns fun h' hn2 hs2=>?_
 obtain⟨oD,esD,epD,hoD,hdD,hcD⟩:=hn2.count (PySem.Within.cons name v hw)
 refine Qaa (wpAny_lookBehind hoD (by rw[hdD];exact pastItsLine_dict (Nat.le_trans hcD (by rw[List.length_cons];omega))) ?_)
 exact Qab (h _ ⟨(hs2.2 _ (Ne.symm I.ne)).trans I.obj,hn2,I.ne⟩ hs2)
theorem p_N{R:Result->Shared->Prop}{vs:List Value}{kw:List (Str×Value)}(X:K.In s.heap)(hm:PySem.W.makesIn K C=true)
  (hi:findIn K (.ref C) "__init__" = some (some (.ref f))) (hf:PySem.W.typeIn K (.ref f)=some (.type "function"))
  (h:codeAny (model prog w) (A.under (.builtin "type.__call__" ⟨.ref C::vs,kw⟩)) (.call (.ref f) ⟨.ref (s.heap.objs.size+1)::vs,kw⟩) (PySem.W.InitBack (s.heap.objs.size+1) R)
   { s with heap:=(s.heap.push emptyDict).push (instObj C s.heap.objs.size) }) :
  codeAny (model prog w) A (.call (.ref C) ⟨vs,kw⟩) R s:=by
 obtain⟨hh,g,d,t,os⟩:=s
 exact PySem.W.make_core (PySem.W.makes_of X hm) (PySem.W.looks_findIn X hi) (fun self=>PySem.W.bind_fn X self hf) (.inl rfl) h
end
noncomputable def g_i(f:Str)(v:V):List (Str×V)->List (Str×V)
 | []=>[(f,v)]
 | (g,x)::r=>if g=f then(g,v)::r else(g,x)::g_i f v r
theorem h_H(f g:Str)(v:V):∀fs:List (Str×V),(g_i f v fs).lookup g=if g=f then some v else fs.lookup g
 | []=>by
  show List.lookup g [(f,v)]=_
  by_cases h:g=f
  ·have hb:(g==f)=true:=beq_iff_eq.mpr h
   simp only[List.lookup,hb,if_pos h]
  ·have hb:(g==f)=false:=beq_eq_false_iff_ne.mpr h
   simp only[List.lookup,hb,if_neg h]
 | (k,x)::r=>by
  have ih:=h_H f g v r
  rw[show g_i f v ((k,x)::r)=(if k=f then(k,v)::r else(k,x)::g_i f v r) from rfl]
  by_cases hk:k=f
  ·rw[if_pos hk]
   by_cases h:g=k
   ·have hb:(g==k)=true:=beq_iff_eq.mpr h
    simp only[List.lookup,hb,if_pos (h.trans hk)]
   ·have hb:(g==k)=false:=beq_eq_false_iff_ne.mpr h
    simp only[List.lookup,hb,if_neg (fun e:g=f=>h (e.trans hk.symm))]
  ·rw[if_neg hk]
   by_cases h:g=k
   ·have hb:(g==k)=true:=beq_iff_eq.mpr h
    simp only[List.lookup,hb,if_neg (fun e:g=f=>hk (h.symm.trans e))]
   ·have hb:(g==k)=false:=beq_eq_false_iff_ne.mpr h
    simp only[List.lookup,hb]
    exact ih
theorem i_d(f:Str)(v:V):∀fs:List (Str×V),f∈(g_i f v fs).map (·.1)/\∀g,g∈fs.map (·.1)->g∈(g_i f v fs).map (·.1)
 | []=>⟨by simp[g_i],fun g h=>by simp at h⟩
 | (k,x)::r=>by
  obtain⟨i1,i2⟩:=i_d f v r
  rw[show g_i f v ((k,x)::r)=(if k=f then(k,v)::r else(k,x)::g_i f v r) from rfl]
  by_cases hk:k=f
  ·rw[if_pos hk]
   subst hk
   exact⟨by simp,fun g h=>by simpa using h⟩
  ·rw[if_neg hk]
   refine⟨?_,fun g h=>?_⟩
   ·rw[List.map_cons]
    exact Qak _ i1
   ·rw[List.map_cons] at h ⊢
    rcases List.mem_cons.mp h with e | e
    ·exact List.mem_cons.mpr (.inl e)
    ·exact Qak _ (i2 g e)
theorem h_N(f:Str)(v:V):∀fs:List (Str×V),(g_i f v fs).length<=fs.length+1
 | []=>by simp[g_i]
 | (k,x)::r=>by
  have ih:=h_N f v r
  rw[show g_i f v ((k,x)::r)=(if k=f then(k,v)::r else(k,x)::g_i f v r) from rfl]
  by_cases hk:k=f
  ·rw[if_pos hk,List.length_cons,List.length_cons];omega
  ·rw[if_neg hk,List.length_cons,List.length_cons];omega
theorem m_L.some_of{v:V}{o:Option Value}(r:m_L (some v) o):∃u,o=some u/\c_b v u:=by
 cases o with
 | none=>exact(show False from r).elim
 | some u=>exact⟨u,rfl,r⟩
theorem m_L.none_of{o:Option Value}(r:m_L none o):o=none:=by
 cases o with
 | none=>rfl
 | some u=>exact(show False from r).elim
theorem o_r{v:V}{u:Value}(r:c_b v u):PySem.W.handedIn u=true:=by
 cases v with
 | non=>cases(show u=Value.none from r);rfl
 | bl b=>cases(show u=Value.bool b from r);rfl
 | int i=>obtain⟨t,e⟩:=(show ∃t,u=Value.int i t from r);cases e;rfl
 | str x=>obtain⟨t,e⟩:=(show ∃t,u=Value.str x t from r);cases e;rfl
 | byt b=>obtain⟨t,e⟩:=(show ∃t,u=Value.bytes b t from r);cases e;rfl
 | flt b=>obtain⟨t,e⟩:=(show ∃t,u=Value.float b t from r);cases e;rfl
 | ref a=>cases(show u=Value.ref a from r);rfl
 | ty n=>cases(show u=Value.type n from r);rfl
section
variable{P:Program}{w:World}{H H':Hp}{h h':Heap}{a C dx:Addr}{fs fs':List (Str×V)}
theorem j_R(hok:HOk P w H h)(e:H a=some (.ins C dx fs)):∃mA,ObjM h a dx C mA/\(∀f,m_L (fs.lookup f) (mA f))/\PySem.Within mA (fs.map (·.1))/\fs.length<=1000/\H dx=some (.own a):=by
 obtain⟨d,z,ne,ob,mA,n,r,q⟩:=(show c_V P w H h a (.ins C dx fs) from hok a _ e)
 exact⟨mA,⟨ob,n,ne⟩,r,q,z,d⟩
end
structure Cls (K:Frag) (C:Addr):Prop where
 pg:plainGet K C Str.empty=true
 hd:PySem.W.hasDictIn K C=true
 po:PySem.W.plainOver K C=true
 sa:findIn K (.ref C) "__setattr__" = some (some (.builtin "object.__setattr__"))
theorem Cls.get{K:Frag}{C:Addr}(c:Cls K C)(f:Str):plainGet K C f=true:=c.pg
noncomputable def b_a(K:Frag)(C:Addr)(f:Str):Prop:=findIn K (.ref C) f=some none
theorem b_a.taker{K:Frag}{C:Addr}{f:Str}(n:b_a K C f):PySem.W.takerIn K C f=some none:=by
 unfold PySem.W.takerIn
 rw[show findIn K (.ref C) f=some none from n]
 rfl
structure Meth (K:Frag) (C:Addr) (m:Str) (f:Addr):Prop where
 at_:findIn K (.ref C) m=some (some (.ref f))
 fn:isFn K (.ref f)=true
 kp:keepIn K (.ref f)=true
section
variable{X:Cx}{pins:List (Addr×Obj)}{Y:St}{H:Hp}{s:Shared}{a C dx:Addr}{fs:List (Str×V)}{f:Str}{v:V}{A:Around}{E:Value->Shared->Prop}
theorem i_B{b:Bool}{Q:Value->Shared->Prop}(I:Inv X pins Y H s)(e:H a=some (.ins C dx fs))(c:Cls X.K C)(n:b_a X.K C f)(l:fs.lookup f=some v)
  (h:∀u s',Inv X pins Y H s'->c_b v u->Q u s'):wpAny (model X.prog X.w) A (getAttr (.ref a) f b) Q E s:=by
 obtain⟨mA,O,r,_,_,_⟩:=j_R I.hok e
 obtain⟨u,hu,ru⟩:=m_L.some_of (v:=v) (o:=mA f) (by rw[<-l];exact r f)
 exact r_t I.kIn O (c.get f) c.hd n hu (o_r ru) (h u _ (I.tok _) ru)
theorem i_L{m:Str}{g:Addr}{pl:Sem Bool}{Q:Value×List Value->Shared->Prop}(I:Inv X pins Y H s)(e:H a=some (.ins C dx fs))(c:Cls X.K C)(k:Meth X.K C m g)(l:fs.lookup m=none)
  (h:Q (.ref g,[.ref a]) s):wpAny (model X.prog X.w) A (getMethod (.ref a) m pl) Q E s:=by
 obtain⟨mA,O,r,_,_,_⟩:=j_R I.hok e
 have hn:mA m=none:=m_L.none_of (by rw[<-l];exact r m)
 exact p_2 I.kIn O (c.get m) k.at_ k.fn hn h
theorem i_O{y:V}{u:Value}{Q:Unit->Shared->Prop}(I:Inv X pins Y H s)(e:H a=some (.ins C dx fs))(c:Cls X.K C)(n:b_a X.K C f)(hl:fs.length<1000)(ry:c_b y u)
  (h:∀s',Inv X pins Y (upd H a (.ins C dx (g_i f y fs))) s'->Q () s'):wpAny (model X.prog X.w) A (setAttr (.ref a) f u) Q E s:=by
 obtain⟨mA,O,r,wi,_,ho⟩:=j_R I.hok e
 have hz:(fs.map (·.1)).length<=sizeLine:=by rw[List.length_map,sizeLine_eq];omega
 refine s_L I.kIn O c.sa c.po n.taker c.hd wi hz fun h' O' sb=>h _ ?_
 have hd:∃o,h'.get? dx=some o:=let⟨o,_,_,e',_⟩:=O'.ns;⟨o,e'⟩
 refine I.write (x:=a) (e:=dx) (by rw[e];exact True.intro) (.inr ho) (fun b q hb z=>(sb.2 b hb).trans z) hd ?_
 refine⟨by rw[a_u O.ne];exact ho,?_,O.ne,O'.obj,_,O'.ns,fun g=>?_,fun g hg=>?_⟩
 ·have:=h_N f y fs;omega
 ·show m_L ((g_i f y fs).lookup g) (if g=f then some u else mA g)
  rw[h_H]
  by_cases q:g=f
  ·rw[if_pos q,if_pos q];exact ry
  ·rw[if_neg q,if_neg q];exact r g
 ·by_cases q:g=f
  ·rw[q];exact(i_d f y fs).1
  ·refine(i_d f y fs).2 g (wi g fun z=>hg ?_)
   show(if g=f then some u else mA g)=none
   rw[if_neg q];exact z
theorem Inv.made(I:Inv X pins Y H s):Inv X pins Y (upd (upd H s.heap.objs.size (.own (s.heap.objs.size+1))) (s.heap.objs.size+1) (.ins C s.heap.objs.size []))
  { s with heap:=(s.heap.push emptyDict).push (instObj C s.heap.objs.size) }:=by
 have e1:(s.heap.push emptyDict).get? s.heap.objs.size=some emptyDict:=Heap.get?_push_size s.heap rfl
 have e2:((s.heap.push emptyDict).push (instObj C s.heap.objs.size)).get? (s.heap.objs.size+1)=some (instObj C s.heap.objs.size):=by
  have:=Heap.get?_push_size (s.heap.push emptyDict) (o:=instObj C s.heap.objs.size) rfl
  rwa [Heap.size_push] at this
 have e3:(s.heap.push emptyDict).Ns s.heap.objs.size (fun _=>none):=⟨emptyDict,#[],_,e1,rfl,(fun e he=>absurd he (by simp)),fun _=>rfl⟩
 have I1:=I.laid (a:=s.heap.objs.size) (o:=.own (s.heap.objs.size+1)) (h':=s.heap.push emptyDict) (t':=s.toks) (fun b u q=>Qac _ q) (Qae _) ⟨_,e1⟩
 refine I1.laid (a:=s.heap.objs.size+1) (o:=.ins C s.heap.objs.size []) (t':=s.toks) (fun b u q=>Qac _ q) (Nat.le_of_eq (Heap.size_push _ _)) ?_
 have ne:s.heap.objs.size≠s.heap.objs.size+1:=Nat.ne_of_lt (Nat.lt_succ_self _)
 refine⟨by rw[a_u ne,a_A],Nat.zero_le _,ne,e2,fun _=>none,(Heap.Ns1.of_empty e3).at fun o q=>Qac _ q,fun _=>True.intro,fun y hy=>absurd rfl hy⟩
theorem r_1{prog:Program}{w:World}{env:Env}{e:Expr}{f:Str}{pos:Pos}{s:Shared}{Q:Value->Shared->Prop}(hb:attributeBase e f env (eval e env)=eval e env)
  (h:wpAny (model prog w) A (eval e env) (fun o s₁=>wpAny (model prog w) A (getAttr o f true) Q E s₁) E s):wpAny (model prog w) A (eval (.Attribute e f pos) env) Q E s:=
 Attribute_any_ h (by rw[arm_eval_Attribute,hb])
end
noncomputable def z_k(K:Frag)(ta:TE)(f:Str):TE:=fun Y H Q=>ta Y H fun x H1=>∃a C dx fs v,x=.ref a/\H1 a=some (.ins C dx fs)/\Cls K C/\b_a K C f/\fs.lookup f=some v/\Q v H1
noncomputable def z_i(K:Frag)(ta tv:TE)(f:Str):TS:=fun D Y H=>tv Y H fun y H1=>ta Y H1 fun x H2=>∃a C dx fs,x=.ref a/\H2 a=some (.ins C dx fs)/\Cls K C/\b_a K C f/\fs.length<1000/\
 D.nx Y (upd H2 a (.ins C dx (g_i f y fs)))
noncomputable def y_C(X:Cx)(op:Operator)(rd:V->V->Hp->VK->Prop):Prop:=
 ∀(pins:List (Addr×Obj)) (s:Shared) (Y:St) (H:Hp) (x y:V) (u v:Value) (Q:VK),Inv X pins Y H s->c_b x u->c_b y v->rd x y H Q->wpAny (model X.prog X.w) X.A (inplaceOp op u v) (EP X pins Y Q) X.xe s
noncomputable def r_T(K:Frag)(ta tv:TE)(rd:V->V->Hp->VK->Prop)(f:Str):TS:=fun D Y H=>ta Y H fun x H1=>∃a C dx fs v,x=.ref a/\H1 a=some (.ins C dx fs)/\Cls K C/\b_a K C f/\fs.lookup f=some v/\
 tv Y H1 fun y H2=>rd v y H2 fun z H3=>∃dx' fs',H3 a=some (.ins C dx' fs')/\fs'.length<1000/\D.nx Y (upd H3 a (.ins C dx' (g_i f z fs')))
section
variable{X:Cx}{o e value:Expr}{f:Str}{pos pos' tpos:Pos}{ta tv:TE}
theorem i_R(he:PE X e ta)(hb:attributeBase e f X.env (eval e X.env)=eval e X.env):PE X (.Attribute e f pos) (z_k X.K ta f):=by
 intro pins s Y H Q I h
 refine r_1 hb (thn (he pins s Y H _ I h) fun u s1 ⟨x,H1,I1,rx,a,C,dx,fs,v,ex,ea,c,n,l,q⟩=>?_)
 subst ex
 obtain rfl:u=Value.ref a:=rx
 exact i_B I1 ea c n l fun u' s2 I2 ru=>⟨v,H1,I2,ru,q⟩
theorem m_i(ha:PE X o ta)(hv:PE X value tv)(hs:swapsWith value (some (.Attribute o f pos')) pos.line X.env=pure false):PS X (.Assign [.Attribute o f pos'] value pos) (z_i X.K ta tv f):=by
 intro pins s Y H D I h
 refine plainObj_wpAny_Assign_Attribute (thn (hv pins s Y H _ I h) fun u s1 ⟨y,H1,I1,ry,q⟩=>thn (ha pins s1 Y H1 _ I1 q) fun ov s2 ⟨x,H2,I2,rx,a,C,dx,fs,ex,ea,c,n,l,q2⟩=>?_) hs
 subst ex
 obtain rfl:ov=Value.ref a:=rx
 exact i_O I2 ea c n l ry fun s3 I3=>⟨Y,_,I3,q2⟩
theorem n_S{op:Operator}{rd:V->V->Hp->VK->Prop}(ha:PE X o ta)(hv:PE X value tv)(hop:y_C X op rd):PS X (.AugAssign (.Attribute o f tpos) op value pos) (r_T X.K ta tv rd f):=by
 intro pins s Y H D I h
 refine wpAny_AugAssign_AttributeAny (thn (ha pins s Y H _ I h) fun ov s1 ⟨x,H1,I1,rx,a,C,dx,fs,v,ex,ea,c,n,l,q⟩=>?_)
 subst ex
 obtain rfl:ov=Value.ref a:=rx
 refine i_B I1 ea c n l fun u s2 I2 ru=>thn (hv pins s2 Y H1 _ I2 q) fun w3 s3 ⟨y,H2,I3,ry,q3⟩=>thn (hop pins s3 Y H2 v y u w3 _ I3 ru ry q3) fun w4 s4 ⟨z,H3,I4,rz,dx',fs',ea',l',q4⟩=>?_
 exact i_O I4 ea' c n l' rz fun s5 I5=>⟨Y,_,I5,q4⟩
noncomputable def y_9:V->V->Hp->VK->Prop:=fun x y H Q=>∃i j,x=.int i/\y=.int j/\Q (.int (i+j)) H
theorem t_U:y_C X .Add y_9:=by
 rintro pins s Y H x y u v Q I rx ry ⟨i,j,rfl,rfl,q⟩
 obtain⟨t,rfl⟩:=(show ∃t,u=Value.int i t from rx)
 obtain⟨t',rfl⟩:=(show ∃t',v=Value.int j t' from ry)
 exact PyProof.Rows.iadd_int ⟨.int (i+j),H,I.tok _,⟨_,rfl⟩,q⟩
end
section
variable{X:Cx}{pins:List (Addr×Obj)}{Y:St}{H:Hp}{s:Shared}{A:Around}{E:Value->Shared->Prop}{Q:Value->Shared->Prop}{c:Value}{b:Bool}
inductive TyOf (K:Frag) (H:Hp):V->Value->Prop where
 | non:TyOf K H .non (.type "NoneType")
 | bl (x:Bool):TyOf K H (.bl x) (.type "bool")
 | int (i:Int):TyOf K H (.int i) (.type "int")
 | str (x:Str):TyOf K H (.str x) (.type "str")
 | flt (x:UInt64):TyOf K H (.flt x) (.type "float")
 | lst {a:Addr}{xs:List V}(e:H a=some (.lst xs)):TyOf K H (.ref a) (.type "list")
 | frz {a:Addr}{o:Obj}{xs:List V}(e:H a=some (.frz o (.lst xs))):TyOf K H (.ref a) (.type "list")
 | tup {a:Addr}{xs:List V}(e:H a=some (.tup xs)):TyOf K H (.ref a) (.type "tuple")
 | dK {a:Addr}{kvs:List (Key×V)}(e:H a=some (.dK kvs)):TyOf K H (.ref a) (.type "dict")
 | dT {a:Addr}{kvs:List (List Key×V)}(e:H a=some (.dT kvs)):TyOf K H (.ref a) (.type "dict")
 | ins {a C dx:Addr}{fs:List (Str×V)}(e:H a=some (.ins C dx fs)) (cl:Cls K C) (ha:findIn K (.ref C) "__class__" = some (some (.builtin "object.__class__")))
   (hn:PySem.W.specialIn K (.builtin "object.__class__") "__get__" = some (some (.builtin "getset_descriptor.__get__"))) (htk:PySem.W.takesIn K (.builtin "object.__class__")=some true)
   (hm:PySem.W.mroIn K C (.type "object")=some true):TyOf K H (.ref a) (.ref C)
theorem f_b{x:V}{u t:Value}(I:Inv X pins Y H s)(rx:c_b x u)(ty:TyOf X.K H x t)(e:kitOne X.K t c=some b)(h:∀tk,Q (.bool b) { s with toks:=tk }) :
  wpAny (model X.prog X.w) A (call (.builtin "isinstance") [u,c]) Q E s:=by
 cases ty with
 | non=>cases(show u=Value.none from rx);exact kia_one PySem.W.kitx_none I.kIn True.intro e (fun z=>nomatch z) h
 | bl y=>cases(show u=Value.bool y from rx);exact kia_one PySem.W.kitx_bool I.kIn True.intro e (fun z=>nomatch z) h
 | int i=>obtain⟨t,q⟩:=(show ∃t,u=Value.int i t from rx);cases q;exact kia_one PySem.W.kitx_int I.kIn True.intro e (fun z=>nomatch z) h
 | str y=>obtain⟨t,q⟩:=(show ∃t,u=Value.str y t from rx);cases q;exact kia_one PySem.W.kitx_str I.kIn True.intro e (fun z=>nomatch z) h
 | flt y=>obtain⟨t,q⟩:=(show ∃t,u=Value.float y t from rx);cases q;exact kia_one PySem.W.kitx_float I.kIn True.intro e (fun z=>nomatch z) h
 | @lst a xs ea=>
  cases(show u=Value.ref a from rx)
  obtain⟨_,_,n,_,h1⟩:=(show c_V X.prog X.w H s.heap a (.lst xs) from I.hok a _ ea)
  exact kia_one PySem.W.kitx_list I.kIn ⟨_,h1,rfl⟩ e (fun z=>nomatch z) h
 | @frz a ob xs ea=>
  cases(show u=Value.ref a from rx)
  obtain⟨_,_,_,n,_,h1⟩:=(show c_V X.prog X.w H s.heap a (.frz ob (.lst xs)) from I.hok a _ ea)
  exact kia_one PySem.W.kitx_list I.kIn ⟨_,h1,rfl⟩ e (fun z=>nomatch z) h
 | @tup a xs ea=>
  cases(show u=Value.ref a from rx)
  obtain⟨_,_,_,p⟩:=(show c_V X.prog X.w H s.heap a (.tup xs) from I.hok a _ ea)
  obtain⟨o,h1,h2,_⟩:=p
  exact kia_one PySem.W.kitx_tuple I.kIn ⟨o,h1,h2⟩ e (fun z=>nomatch z) h
 | @dK a kvs ea=>
  cases(show u=Value.ref a from rx)
  obtain⟨_,_,vs,_,p⟩:=(show c_V X.prog X.w H s.heap a (.dK kvs) from I.hok a _ ea)
  obtain⟨o,es,ep,h1,h2,_⟩:=p
  exact kia_one PySem.W.kitx_dict I.kIn ⟨o,h1,h2.1⟩ e (fun z=>nomatch z) h
 | @dT a kvs ea=>
  cases(show u=Value.ref a from rx)
  obtain⟨_,_,xs,_,o,es,ep,h1,h2,_⟩:=(show c_V X.prog X.w H s.heap a (.dT kvs) from I.hok a _ ea)
  exact kia_one PySem.W.kitx_dict I.kIn ⟨o,h1,h2.1⟩ e (fun z=>nomatch z) h
 | @ins a C dx fs ea cl ha hn htk hm=>
  cases(show u=Value.ref a from rx)
  obtain⟨mA,O,_⟩:=j_R I.hok ea
  obtain⟨od,J,_⟩:=O.look
  exact kia_one (PySem.W.kitx_own (cl.get _) cl.hd ha hn htk hm) I.kIn J e (fun z=>nomatch z) h
end
structure Room (k:Nat) (A:Around):Prop where
 hd:A.handled=none
 dp:A.depth+3 * k+5<recursionLimit
 un:A.units+16 * k+200<cLine
theorem Room.mono{j k:Nat}{A:Around}(r:Room k A)(h:j<=k):Room j A:=⟨r.hd,by have:=r.dp;omega,by have:=r.un;omega⟩
theorem Room.deeper{k:Nat}{A:Around}(r:Room (k+1) A)(env:Env):Room k (A.deeper env):=
 ⟨r.hd,by have:=r.dp;show A.depth+1+3 * k+5<_;omega,by have:=r.un;show A.units+3+16 * k+200<_;omega⟩
theorem n_n{A:Around}{C:Addr}{us:List Value}{kw:List (Str×Value)}:(A.under (.builtin "type.__call__" ⟨.ref C::us,kw⟩)).depth=A.depth+1:=by
 first | rfl | simp[Around.under,Code.weight,Code.isCreation,Code.isGuard,Code.isCaller,Code.frames,Code.isFrame,guardIds]
theorem m_T{A:Around}{C:Addr}{us:List Value}{kw:List (Str×Value)}:(A.under (.builtin "type.__call__" ⟨.ref C::us,kw⟩)).units=A.units+1:=by
 first | rfl | simp[Around.under,Code.cUnits,Code.frames,Code.isFrame]
theorem Room.make{k:Nat}{A:Around}(r:Room (k+1) A)(C:Addr)(us:List Value)(kw:List (Str×Value)):Room k (A.under (.builtin "type.__call__" ⟨.ref C::us,kw⟩)):=
 ⟨r.hd,by have:=r.dp;rw[n_n];omega,by have:=r.un;rw[m_T];omega⟩
theorem Room.depth{k:Nat}{A:Around}(r:Room k A):A.depth<recursionLimit:=by have:=r.dp;omega
theorem Room.units{k:Nat}{A:Around}(r:Room k A):A.units+64<cLine:=by have:=r.un;omega
noncomputable def y_b:TA:=fun _ H Q=>Q [] H
noncomputable def v_n(ta:TE)(tr:TA):TA:=fun Y H Q=>ta Y H fun x H1=>tr Y H1 fun xs H2=>Q (x::xs) H2
section
variable{X:Cx}{e:Expr}{es:List Expr}{te:TE}{t:TA}{pos:Pos}
theorem d_9:PA X [] y_b:=fun _ _ _ _ H Q I h=>Calls.spliced_nil ⟨[],H,I,.nil,h⟩
theorem b_G(ha:PE X e te)(hr:PA X es t)(hs:starEach (e::es) X.env=(false,eval e X.env)::starEach es X.env:=by rfl):PA X (e::es) (v_n te t):=by
 intro pos pins s Y H Q I h
 rw[hs]
 show wpAny _ _ (spliced ((false,eval e X.env)::backTo pos (starEach es X.env))) _ _ s
 refine Calls.spliced_cons (thn (ha pins s Y H _ I h) fun u s1 ⟨x,H1,I1,r1,q1⟩=>?_)
 exact thn (hr pos pins s1 Y H1 _ I1 q1) fun us s2 ⟨xs,H2,I2,r2,q2⟩=>⟨x::xs,H2,I2,.cons r1 r2,q2⟩
noncomputable def z_n(t:TA):TE:=fun Y H Q=>t Y H fun xs H1=>xs.length<=sizeLine/\∀p,H1 p=none->Q (.ref p) (upd H1 p (.tup xs))
noncomputable def z_C(t:TA):TE:=fun Y H Q=>t Y H fun xs H1=>xs.length<=sizeLine/\∀p,H1 p=none->Q (.ref p) (upd H1 p (.lst xs))
theorem p_o{x1}(h:PA X es t):PE X (.Tuple es x1 pos) (z_n t):=by
 intro pins s Y H Q I hq
 refine wpAny_Tuple_spliced (thn (h pos pins s Y H _ I hq) fun us s1 ⟨xs,H1,I1,r,z,q⟩=>⟨by rw[<-r.length];exact z,?_⟩)
 have hf:H1 s1.heap.objs.size=none:=I1.hok.fresh (Qae _)
 refine⟨.ref s1.heap.objs.size,upd H1 s1.heap.objs.size (.tup xs),I1.laid (t':=s1.toks) (fun b u e=>Qac _ e) (Qae _) ?_,rfl,q _ hf⟩
 exact⟨z,us,r,⟨_,Heap.get?_push_size _ rfl,rfl,_,rfl⟩⟩
theorem m_u(h:PA X es t):PE X (.List es pos) (z_C t):=by
 intro pins s Y H Q I hq
 refine wpAny_List_spliced (thn (h pos pins s Y H _ I hq) fun us s1 ⟨xs,H1,I1,r,z,q⟩=>⟨by rw[<-r.length];exact z,?_⟩)
 have hf:H1 s1.heap.objs.size=none:=I1.hok.fresh (Qae _)
 refine⟨.ref s1.heap.objs.size,upd H1 s1.heap.objs.size (.lst xs),I1.laid (t':=s1.toks) (fun b u e=>Qac _ e) (Qae _) ?_,rfl,q _ hf⟩
 exact⟨z,us,0,r,Heap.get?_push_size _ rfl⟩
end
noncomputable abbrev Sp:=List V->Hp->VK->XK->Prop
noncomputable abbrev CXT:=List Env->Hp->Shared->XK->Value->Shared->Prop
structure Env0 (P:Program) (w:World) (K:Frag) (mg:Str->Option Value) (base:Heap) (A:Around) (outer:List Env) (s:Shared) (H:Hp):Prop where
 frames:A.frames=some outer
 mod:Mod K mg base
 bs:∀b o,base.get? b=some o->s.heap.get? b=some o/\H b=none
 bsz:base.objs.size<=s.heap.objs.size
 funs:s.heap.FunFrames base outer
 frf:∀b∈frs outer,H b=none
 hok:HOk P w H s.heap
 bare:AllBare s.gens
noncomputable def CE(outer:List Env)(P:Program)(w:World)(H:Hp)(s:Shared)(Q:VK)(u:Value)(s':Shared):Prop:=
 ∃v H',s'.os=s.os/\AllBare s'.gens/\Un (frs outer) [] H H' s.heap s'.heap/\HOk P w H' s'.heap/\c_b v u/\Q v H'
noncomputable def CR(CX:CXT)(outer:List Env)(P:Program)(w:World)(H:Hp)(s:Shared)(Q:VK)(E:XK)(r:Result)(s':Shared):Prop:=
 match r with
 | .ok (.ret u)=>CE outer P w H s Q u s'
 | .ok _=>False
 | .error e=>CX outer H s E e s'
structure FnOk (P:Program) (w:World) (K:Frag) (mg:Str->Option Value) (base:Heap) (CX:CXT) (k:Nat) (f:Addr) (fd:FuncData) (ps:List Str) (sp:Sp):Prop where
 len:∀vs H Q E,sp vs H Q E->vs.length=ps.length
 run:∀(A:Around) (outer:List Env) (s:Shared) (H:Hp) (args:Args) (us:List Value) (vs:List V) (Q:VK) (E:XK),Room k A->Env0 P w K mg base A outer s H->BindsTo s fd args (ps.zip us)->b_M vs us->sp vs H Q E->
  codeAny (model P w) A (.call (.ref f) args) (CR CX outer P w H s Q E) s
theorem FnOk.imp{P:Program}{w:World}{K:Frag}{mg:Str->Option Value}{base:Heap}{CX:CXT}{k:Nat}{f:Addr}{fd:FuncData}{ps:List Str}{sp sp':Sp}(F:FnOk P w K mg base CX k f fd ps sp)
  (h:∀vs H Q E,sp' vs H Q E->sp vs H Q E):FnOk P w K mg base CX k f fd ps sp':=
 ⟨fun vs H Q E q=>F.len vs H Q E (h _ _ _ _ q),fun A outer s H args us vs Q E hr he hb hv hs=>F.run A outer s H args us vs Q E hr he hb hv (h _ _ _ _ hs)⟩
theorem Env0.make{P:Program}{w:World}{K:Frag}{mg:Str->Option Value}{base:Heap}{A:Around}{outer:List Env}{s:Shared}{H:Hp}(e:Env0 P w K mg base A outer s H)(C:Addr)(us:List Value)(kw:List (Str×Value)) :
  Env0 P w K mg base (A.under (.builtin "type.__call__" ⟨.ref C::us,kw⟩)) outer s H:=⟨by first | exact e.frames | (simpa[Around.under,Code.envs,Code.isFrame,pushEnvs] using e.frames),e.mod,e.bs,e.bsz,e.funs,e.frf,e.hok,e.bare⟩
section
variable{X:Cx}{pins:List (Addr×Obj)}{Y:St}{H:Hp}{s s':Shared}
theorem Inv.env0(I:Inv X pins Y H s):Env0 X.prog X.w X.K X.mg X.base X.A X.stack s H:=
 ⟨I.ok.frames,I.ok.mod,I.bs,Nat.le_trans I.ok.bsz I.sz,I.stack,I.stkFree,I.hok,I.bare⟩
theorem Inv.after{Q:VK}{u:Value}(I:Inv X pins Y H s)(h:CE X.stack X.prog X.w H s Q u s'):EP X pins Y Q u s':=by
 obtain⟨v,H',os,bare,un,hok,r,q⟩:=h
 obtain⟨hh,g,d,t,os'⟩:=s'
 obtain rfl:os' = s.os:=os
 exact⟨v,H',I.call (h':=hh) (g':=g) (d':=d) (t':=t) (ch:=[]) un hok bare (fun b z=>absurd z (by simp)),r,q⟩
end
noncomputable def i_z(K:Frag)(fd:FuncData)(ps:List Str)(ds:List Value):Prop:=
 ∀(s:Shared) (us:List Value),K.In s.heap->(us++ds).length=ps.length->BindsTo s fd ⟨us,[]⟩ (ps.zip (us++ds))
theorem i_z.all{K:Frag}{fd:FuncData}{ps:List Str}(h:∀us:List Value,us.length=ps.length->bindArgs fd ⟨us,[]⟩=pure (ps.zip us)):i_z K fd ps []:=fun s us _ hl=>by
 rw[List.append_nil] at hl ⊢
 exact .of_eq (h us hl)
section
variable{X:Cx}{CX:CXT}{k:Nat}{f C:Addr}{fd:FuncData}{ps:List Str}{sp:Sp}{dvs:List V}{ds:List Value}{E:XK}{x m:Str}{p pos apos:Pos}{e o:Expr}{es:List Expr}{ta:TE}{t:TA}
structure Mk (K:Frag) (C f:Addr):Prop where
 makes:PySem.W.makesIn K C=true
 init:findIn K (.ref C) "__init__" = some (some (.ref f))
 fn:isFn K (.ref f)=true
 kp:keepIn K (.ref C)=true
end
noncomputable def PK(X:Cx)(kws:List Keyword)(t:TA):Prop:=
 ∀(pos:Pos) (pins:List (Addr×Obj)) (s:Shared) (Y:St) (H:Hp) (Q:List V->Hp->Prop),Inv X pins Y H s->t Y H Q->wpAny (model X.prog X.w) X.A (evalAll ((backToKw pos (keywordEach kws X.env)).map (·.2))) (AP X pins Y Q) X.xe s
section
variable{X:Cx}{CX:CXT}{k:Nat}{f C:Addr}{fd:FuncData}{ps ks:List Str}{sp:Sp}{E:XK}{x m:Str}{p pos apos kpos:Pos}{e o:Expr}{es:List Expr}{kws:List Keyword}{te ta:TE}{t tk:TA}{nm:Option Str}
theorem u_n:PK X [] y_b:=fun _ _ _ _ H Q I h=>wpAny_evalAll_nil ⟨[],H,I,.nil,h⟩
theorem s_t(ha:PE X e te)(hr:PK X kws t):PK X (⟨nm,e,kpos⟩::kws) (v_n te t):=by
 intro pos pins s Y H Q I h
 show wpAny _ _ (evalAll ((do let v <-eval e X.env;standAt pos;pure v)::(backToKw pos (keywordEach kws X.env)).map (·.2))) _ _ s
 refine wpAny_evalAll_cons (Qaa (thn (ha pins s Y H _ I h) fun u s1 ⟨x,H1,I1,r1,q1⟩=>Qaa (wpAny_standAt (Qab ?_))))
 exact thn (hr pos pins s1 Y H1 _ I1 q1) fun us s2 ⟨xs,H2,I2,r2,q2⟩=>⟨x::xs,H2,I2,.cons r1 r2,q2⟩
end
structure FnScope (N P:List Str) (sc:Scope):Prop where
 kind:sc.kind=.function
 co:sc.isCoroutine=false
 gen:sc.isGenerator=false
 nd:N.Nodup
 pre:N.take P.length=P
 par:∀x∈P,sc.names.lookup x=some .local\/sc.names.lookup x=some .cell
 nofree:∀y∈sc.names,y.2≠.free
theorem k_U{kindOf:Str->Option NameKind}{x:Str}:∀{binds:List (Str×Value)}{m:Str->Option Value},(∀v,(x,v)∉binds)->bindL kindOf binds m x=m x
 | [],_,_=>rfl
 | (n,v)::r,m,h=>by
  unfold bindL
  rw[k_U fun w hw=>h w (Qak _ hw)]
  split
  ·have:x≠n:=by rintro rfl;exact h v List.mem_cons_self
   simp[this]
  ·rfl
theorem k_d{kindOf:Str->Option NameKind}{x:Str}:∀{binds:List (Str×Value)}{m:Str->Option Value},(∀v,(x,v)∉binds)->bindC kindOf binds m x=m x
 | [],_,_=>rfl
 | (n,v)::r,m,h=>by
  unfold bindC
  rw[k_d fun w hw=>h w (Qak _ hw)]
  split
  ·rfl
  ·have:x≠n:=by rintro rfl;exact h v List.mem_cons_self
   simp[this]
theorem k_E{kindOf:Str->Option NameKind}{x:Str}{v:Value}:∀{P:List Str}{vs:List Value}{i:Nat}{m:Str->Option Value},P.Nodup->P[i]? = some x->vs[i]? = some v->kindOf x=some .local->
  bindL kindOf (P.zip vs) m x=some v
 | [],_,_,_,_,h,_,_=>by simp at h
 | _::_,[],_,_,_,_,h,_=>by simp at h
 | p::P,w::vs,0,m,nd,h1,h2,hk=>by
  simp at h1 h2;subst h1;subst h2
  show bindL kindOf ((p,w)::P.zip vs) m p=_
  unfold bindL
  rw[k_U fun v hv=>(List.nodup_cons.mp nd).1 (List.of_mem_zip hv).1,if_pos hk]
  simp
 | p::P,w::vs,i+1,m,nd,h1,h2,hk=>by
  show bindL kindOf ((p,w)::P.zip vs) m x=_
  unfold bindL
  exact k_E (i:=i) (List.nodup_cons.mp nd).2 (by simpa using h1) (by simpa using h2) hk
theorem j_0{kindOf:Str->Option NameKind}{x:Str}{v:Value}:∀{P:List Str}{vs:List Value}{i:Nat}{m:Str->Option Value},P.Nodup->P[i]? = some x->vs[i]? = some v->kindOf x≠some .local->
  bindC kindOf (P.zip vs) m x=some v
 | [],_,_,_,_,h,_,_=>by simp at h
 | _::_,[],_,_,_,_,h,_=>by simp at h
 | p::P,w::vs,0,m,nd,h1,h2,hk=>by
  simp at h1 h2;subst h1;subst h2
  show bindC kindOf ((p,w)::P.zip vs) m p=_
  unfold bindC
  rw[k_d fun v hv=>(List.nodup_cons.mp nd).1 (List.of_mem_zip hv).1,if_neg hk]
  simp
 | p::P,w::vs,i+1,m,nd,h1,h2,hk=>by
  show bindC kindOf ((p,w)::P.zip vs) m x=_
  unfold bindC
  exact j_0 (i:=i) (List.nodup_cons.mp nd).2 (by simpa using h1) (by simpa using h2) hk
noncomputable def start(N:List Str)(vs:List V):St:=vs.map some++List.replicate (N.length - vs.length) none
noncomputable def r_c(CX:CXT)(P:Program)(w:World)(K:Frag)(mg:Str->Option Value)(base:Heap)(N:List Str)(qual:Str)(scope:Scope)(f:Addr)(cd:Value)(A:Around)(outer:List Env)(s:Shared)(H:Hp)(E:XK):Cx where
 prog:=P
 w:=w
 K:=K
 mg:=mg
 base:=base
 A:=A.deeper (envOfC qual scope s.heap.objs.size f cd)
 N:=N
 s₀:=s
 H₀:=H
 env:=envOfC qual scope s.heap.objs.size f cd
 outer:=outer
 stack:=envOfC qual scope s.heap.objs.size f cd::outer
 ex:=[]
 calm:=true
 fn:=fun _=>true
 pn:=[]
 xe:=fun e s'=>wpAny (model P w) (A.deeper (envOfC qual scope s.heap.objs.size f cd)) (leaving (envOfC qual scope s.heap.objs.size f cd) e) (fun _ s''=>CX outer H s E e s'') (fun e' s''=>CX outer H s E e' s'') s'
theorem m_G{sc:Scope}{n:Nat}{x:Str}(h:sc.names.lookup x=some .cell):∃c,(cellsFrom n sc.names []).lookup x=some c:=by
 have q:=PySem.W.cellsFrom_some sc.names n [] (.inl h)
 exact Option.isSome_iff_exists.mp q
theorem p_q{CX:CXT}{P:Program}{w:World}{K:Frag}{mg:Str->Option Value}{base:Heap}{N ps:List Str}{qual:Str}{scope:Scope}{f:Addr}{cd:Value}{A:Around}{outer:List Env}{s s1:Shared}{H:Hp}{E:XK}{us:List Value}{vs:List V}
  (S:FnScope N ps scope) (hd:A.handled=none) (e0:Env0 P w K mg base A outer s H) (hl:vs.length=ps.length) (r:b_M vs us)
  (x:InCallC s s.heap.objs.size (bindL (envOfC qual scope s.heap.objs.size f cd).kindOf (ps.zip us) fun _=>none) (cellsFrom (s.heap.objs.size+1) scope.names []) (bindC (envOfC qual scope s.heap.objs.size f cd).kindOf (ps.zip us) fun _=>none) s1) :
  Inv (r_c CX P w K mg base N qual scope f cd A outer s H E) [] (start N vs) H s1:=by
 have hpl:ps.length<=N.length:=by have:=congrArg List.length S.pre;rw[List.length_take] at this;omega
 obtain⟨h1,tk,rfl,hk⟩:=x.done
 have noA:∀b:Addr,b∉(r_c CX P w K mg base N qual scope f cd A outer s H E).ex:=fun b z=>absurd (show b∈([]:List Addr) from z) (by simp)
 refine⟨⟨e0.mod,S.kind,rfl,rfl,Qae _,fun y z c h1 h2=>?_,fun y hy=>?_,fun y c _ h=>?_,fun _=>hd,Around.frames_deeper e0.frames,.inr ⟨rfl,rfl⟩,fun b z=>absurd z (noA b),e0.bs,e0.bsz,fun b _ _=>noA b,fun b z=>absurd z (noA b),e0.funs,e0.frf⟩,
  rfl,e0.bare,Un.kept hk,⟨_,x.toInCall.ns,fun i y v h1 h2 h3=>?_⟩,fun y c h=>⟨_,x.cell y c h⟩,e0.hok.fresh (Qae _),fun y c h=>?_,fun p hp=>absurd (show p∈([]:List (Addr×Obj)) from hp) (by simp),e0.hok.kept hk,?_⟩
 ·exact name_of_addr x.apart (PySem.mem_of_lookup h1) (PySem.mem_of_lookup h2)
 ·have hy:scope.names.lookup y=some .cell\/scope.names.lookup y=some .free:=hy
  rcases hy with hy | hy
  ·exact m_G hy
  ·exact absurd rfl (S.nofree _ (PySem.mem_of_lookup hy))
 ·exact Nat.le_of_lt (x.above y c (PySem.mem_of_lookup h))
 ·have hi:i<vs.length:=by
   unfold start at h2
   by_cases hi:i<vs.length
   ·exact hi
   ·rw[List.getElem?_append_right (by simpa using hi)] at h2
    rw[List.getElem?_replicate] at h2
    split at h2<;>cases h2
  have ha:vs[i]? = some v:=by
   unfold start at h2
   rw[List.getElem?_append_left (by simpa using hi),List.getElem?_map] at h2
   cases e:vs[i]? with
   | none=>rw[e] at h2;cases h2
   | some a=>rw[e] at h2;cases h2;rfl
  obtain⟨u,hu,rv⟩:=r.get ha
  have hp:ps[i]? = some y:=by
   rw[<-S.pre,List.getElem?_take_of_lt (by omega)];exact h1
  have ndP:ps.Nodup:=by rw[<-S.pre];exact S.nd.sublist (List.take_sublist _ _)
  refine⟨u,rv,?_⟩
  rcases S.par y (List.mem_of_getElem? hp) with k | k
  ·exact .inl ⟨k,k_E ndP hp hu k⟩
  ·obtain⟨c,e⟩:=m_G (n:=s.heap.objs.size+1) k
   refine .inr ⟨.inl k,c,e,?_⟩
   have q:=x.cell y c e
   rw[j_0 ndP hp hu (by show scope.names.lookup y≠_;rw[k];decide)] at q
   exact q
 ·exact e0.hok.fresh (Nat.le_of_lt (x.above y c (PySem.mem_of_lookup h)))
 ·unfold start
  show _=N.length
  rw[List.length_append,List.length_map,List.length_replicate]
  omega
theorem x_U{CX:CXT}{P:Program}{w:World}{K:Frag}{mg:Str->Option Value}{base:Heap}{k:Nat}{f:Addr}{name qual:Str}{params:Arguments}{body:List Stmt}{scope:Scope}{dV kV doc pm cdv ct oc:Value}{an od:Option Addr}
  {osl:Array (Option Value)}{N ps:List Str}{sp:Sp}(lk:K.lookup f=some ⟨oc,od,.func (fnOf name qual params body scope dV kV doc pm an cdv ct),osl⟩) (hcd:codeIn K cdv qual=true) (S:FnScope N ps scope)
  (len:∀vs H Q E,sp vs H Q E->vs.length=ps.length)
  (hbody:∀(A:Around) (outer:List Env) (s:Shared) (H:Hp) (vs:List V) (Q:VK) (E:XK),Room k (A.deeper (envOfC qual scope s.heap.objs.size f cdv))->sp vs H Q E->
   ∃t,PSs (r_c CX P w K mg base N qual scope f cdv A outer s H E) body t/\t { nx:=fun _ H'=>Q .non H',rt:=Q } (start N vs) H) :
  FnOk P w K mg base CX (k+1) f (fnOf name qual params body scope dV kV doc pm an cdv ct) ps sp:=by
 refine⟨len,fun A outer s H args us vs Q E hr e0 hb r hsp=>?_⟩
 have hl:=len _ _ _ _ hsp
 have KX:K.In s.heap:=e0.mod.kin.keeps fun b o e=>(e0.bs b o e).1
 have lim:s.heap.NoLimit:=e0.mod.nolimit.keeps fun b o e=>(e0.bs b o e).1
 have hkind:∀y∈ps.zip us,scope.names.lookup y.1=some .local\/(scope.names.lookup y.1=some .cell/\((cellsFrom (s.heap.objs.size+1) scope.names []).lookup y.1).isSome=true):=fun⟨n,v⟩ hy=>by
  rcases S.par n (List.of_mem_zip hy).1 with q | q
  ·exact .inl q
  ·exact .inr ⟨q,PySem.W.cellsFrom_some _ _ _ (.inl q)⟩
 refine codeAny_call_function hr.depth (KX _ _ lk) rfl S.co S.gen rfl (PySem.W.codeRec_of KX hcd) (hb _ _ _ _ ?_)
 refine wpAny_newFunctionEnv_cells S.kind hkind fun env he s1 x=>?_
 subst he
 refine⟨lim.keeps x.toInCall.keep,codeAny_func ?_⟩
 obtain⟨t,ht,hq⟩:=hbody A outer s H vs Q E (hr.deeper _) hsp
 have I:Inv (r_c CX P w K mg base N qual scope f cdv A outer s H E) [] (start N vs) H s1:=p_q S hr.hd e0 hl r x
 refine wpAny_mono (ht [] s1 (start N vs) H _ I hq) (fun fl s' hs=>?_) fun e s' hs=>hs
 have fin:∀{Y':St}{H':Hp}{v:V}{u:Value},Inv (r_c CX P w K mg base N qual scope f cdv A outer s H E) [] Y' H' s'->c_b v u->Q v H'->CE outer P w H s Q u s':=
  fun {Y' H' v u} J rv q=>⟨v,H',J.os,J.bare,J.base,J.hok,rv,q⟩
 cases fl with
 | ret u=>
  obtain⟨v,Y',H',J,rv,q⟩:=hs
  exact fin J rv q
 | next=>
  obtain⟨Y',H',J,q⟩:=hs
  exact fin (v:=V.non) (u:=Value.none) J rfl q
 | brk=>
  obtain⟨_,_,_,q⟩:=hs
  exact False.elim q
 | cont=>
  obtain⟨_,_,_,q⟩:=hs
  exact False.elim q
section
variable{X:Cx}{x:Str}{p pos:Pos}{e:Expr}{es:List Expr}{t:TA}{id T:String}{r:List V->Hp->VK->Prop}
noncomputable def tCB(r:List V->Hp->VK->Prop)(t:TA):TE:=fun Y H Q=>t Y H fun vs H1=>r vs H1 Q
theorem h_v(hc:i_p X (.builtin id) r)(hg:Gl X x)(hm:X.mg x=none)(hv:bootBuiltins x=some (.builtin id))(ha:PA X (e::es) t)(hn:x≠"__name__":=by decide)(hdb:(x==("__debug__":Str))=false:=by decide)
  (he:starEach (e::es) X.env=(false,eval e X.env)::starEach es X.env:=by rfl) (hpl:(backTo pos (starEach es X.env)).any (·.1)=false:=by rfl):PE X (.Call (.Name x p) (e::es) [] pos) (tCB r t):=by
 intro pins s Y H Q I h
 refine wpAny_Call_Name_kw (f_P I hg hm hv ?_ hn hdb)
 exact PyProof.Rows.callWith_builtin1 (thn (ha pos pins s Y H _ I h) fun us s1 ⟨vs,H1,I1,r1,q1⟩=>hc pins s1 Y H1 vs us Q I1 r1 q1) he hpl
theorem n_G(hc:i_p X (.type T) r)(hg:Gl X x)(hm:X.mg x=none)(hv:bootBuiltins x=some (.type T))(ha:PA X (e::es) t)(hn:x≠"__name__":=by decide)(hdb:(x==("__debug__":Str))=false:=by decide)
  (he:starEach (e::es) X.env=(false,eval e X.env)::starEach es X.env:=by rfl) (hpl:(backTo pos (starEach es X.env)).any (·.1)=false:=by rfl):PE X (.Call (.Name x p) (e::es) [] pos) (tCB r t):=by
 intro pins s Y H Q I h
 refine wpAny_Call_Name_kw (f_P I hg hm hv ?_ hn hdb)
 exact PyProof.Rows.callWith_type1 (thn (ha pos pins s Y H _ I h) fun us s1 ⟨vs,H1,I1,r1,q1⟩=>hc pins s1 Y H1 vs us Q I1 r1 q1) he hpl
end
end L2
namespace HT
open PySem PyProof.Rows
noncomputable def lexLt:List Int->List Int->Bool
 | [],[]=>false
 | [],_::_=>true
 | _::_,[]=>false
 | x::xs,y::ys=>if x=y then lexLt xs ys else decide (x<y)
theorem n_l(x y:Int)(xs ys:List Int):lexLt (x::xs) (y::ys)=if x=y then lexLt xs ys else decide (x<y):=rfl
theorem j_i:lexLt [] []=false:=rfl
theorem i_v(y:Int)(ys:List Int):lexLt [] (y::ys)=true:=rfl
theorem i_l(x:Int)(xs:List Int):lexLt (x::xs) []=false:=rfl
theorem p_C(A:Around)(s:Shared)(a:Int)(t:Tok)(c:Int)(u:Tok):∃e,SeqAt.EqAt A s (.int a t) (.int c u) e/\(e=true↔a=c):=
 ⟨(a==c),SeqAt.EqAt.int_int a t c u,by simp⟩
theorem q_v(A:Around)(s:Shared)(a:Int)(t:Tok)(c:Int)(u:Tok)(prog:Program)(w:World)(E:Value->Shared->Prop)(Q:Value->Shared->Prop)(h:Q (.bool (decide (a<c))) s) :
  wpAny (model prog w) A (richCompare .Lt (.int a t) (.int c u)) Q E s:=
 (PyProof.Rows.lt_int h:wpAny (model prog w) A (compareOp .Lt (.int a t) (.int c u)) Q E s)
section
open PySem.SeqAt
open PySem.AutoSeq1 (wpAny_loadPart')
open PySem.MeetsSeq PySem.MeetsSeq2 PySem.MeetsSeq3
theorem j_P(l b:Addr)(items items2:Array Value)(n n2:Nat)(dd dd2:Option Addr)(sl sl2:Array (Option Value))(ns ms:List Int)(hi:IntsAre items.toList ns)(hj:IntsAre items2.toList ms) :
  Meets (Builtin.«tuple.__lt__» ⟨[.ref l,.ref b],[]⟩)
   (fun _ R s=>s.heap.get? l=some { cls:=.type "tuple",dict:=dd,data:=.seq items n,slots:=sl }/\s.heap.get? b=some { cls:=.type "tuple",dict:=dd2,data:=.seq items2 n2,slots:=sl2 }/\
    R (.ok (.ret (.bool (lexLt ns ms)))) s):=
 .of_wp fun prog w A R s h=>by
  obtain⟨hp,g,d,tk,os⟩:=s;obtain⟨hl,hb,h⟩:=h
  have f2:=AutoSeq1.sub_tuple_tuple
  have z1:items.size=ns.length:=by rw[<-hi.length];simp
  have z2:items2.size=ms.length:=by rw[<-hj.length];simp
  wp_walk using wpAny_loadPart' hl,wpAny_loadPart' hb,wpAny_forIn_list _ (fun rest b s'=>b.1=none/\s' = ⟨hp,g,d,tk,os⟩/\∃(vs ws:List Value) (ns' ms':List Int),rest=vs.zip ws/\
   IntsAre vs ns'/\IntsAre ws ms'/\ns'.length+items2.size=ms'.length+items.size/\R (.ok (.ret (.bool (lexLt ns' ms')))) ⟨hp,g,d,tk,os⟩) _
  case turn=>
   rintro⟨y,x⟩ rest b s' ⟨hb',rfl,vs,ws,ns',ms',hz,hvi,hwi,hlen,hR⟩
   cases hvi with
   | nil=>rw[List.zip_nil_left] at hz;cases hz
   | cons a t hvi'=>
    cases hwi with
    | nil=>rw[List.zip_nil_right] at hz;cases hz
    | cons c u hwi'=>
     rw[List.zip_cons_cons] at hz
     injection hz with hyx hrest
     injection hyx with hy hx
     subst hy hx
     rw[n_l] at hR
     simp only[List.length_cons] at hlen
     obtain⟨e,he,hiff⟩:=p_C A.in1 ⟨hp,g,d,tk,os⟩ a t c u
     refine Qaa (he prog w _ _ ?_)
     cases e with
     | true=>
      rw[if_pos (hiff.mp rfl)] at hR
      wp_walk
      exact⟨rfl,rfl,_,_,_,_,hrest,hvi',hwi',by omega,hR⟩
     | false=>
      rw[if_neg (fun q=>absurd (hiff.mpr q) Bool.false_ne_true)] at hR
      have hri:=q_v A.in1 ⟨hp,g,d,tk,os⟩ a t c u prog w
      wp_walk using hri
      exact⟨_,rfl,by simpa using hR⟩
  case fin=>
   rintro⟨b1,b2⟩ s' ⟨hb',rfl,vs,ws,ns',ms',hz,hvi,hwi,hlen,hR⟩
   simp only at hb'
   subst hb'
   have hv:lexLt ns' ms' = decide (items.size<items2.size):=by
    cases hvi with
    | nil=>
     cases hwi with
     | nil=>
      simp only[List.length_nil] at hlen
      rw[j_i]
      exact(decide_eq_false (by omega)).symm
     | cons c u hw=>
      simp only[List.length_nil,List.length_cons] at hlen
      rw[i_v]
      exact(decide_eq_true (by omega)).symm
    | cons a t hv=>
     cases hwi with
     | nil=>
      simp only[List.length_nil,List.length_cons] at hlen
      rw[i_l]
      exact(decide_eq_false (by omega)).symm
     | cons c u hw=>
      rw[List.zip_cons_cons] at hz
      cases hz
   rw[hv] at hR
   wp_walk
   exact⟨_,rfl,by simpa[Builtin.Tuple.tupleCompareSizes] using hR⟩
  case h=>
   exact⟨rfl,rfl,items.toList,items2.toList,ns,ms,rfl,hi,hj,by omega,h⟩
end
section
variable{prog:Program}{w:World}{A:Around}{E:Value->Shared->Prop}{s:Shared}
theorem lt_tupInts{l b:Addr}{items items2:Array Value}{ns ms:List Int}{Q:Value->Shared->Prop}(hl:IsTup s.heap l items)(hb:IsTup s.heap b items2)(hi:IntsAre items.toList ns)(hj:IntsAre items2.toList ms)
  (hu:A.units<cLine) (h:Q (.bool (lexLt ns ms)) s):wpAny (model prog w) A (compareOp .Lt (.ref l) (.ref b)) Q E s:=by
 obtain⟨⟨cls,dd,data,sl⟩,ho,hc,n,hd⟩:=id hl
 obtain⟨⟨cls2,dd2,data2,sl2⟩,ho2,hc2,n2,hd2⟩:=id hb
 simp only at hc hd hc2 hd2
 subst hc hd hc2 hd2
 exact richCompare_meets_room (op:=.Lt) ⟨_,ho,rfl⟩ ⟨_,ho2,rfl⟩ PySem.F.slot_tuple_lt PySem.F.entry_tuple_lt (PySem.F.args_tuple_lt_2 _ _) (j_P l b items items2 n n2 dd dd2 sl sl2 ns ms hi hj)
  ⟨ho,ho2,show Value.bool (lexLt ns ms)≠Value.notImplemented/\Q (.bool (lexLt ns ms)) s from⟨(fun x=>nomatch x),h⟩⟩ hu
theorem cat_tup{t b:Addr}{vs ws:List Value}{Q:Value->Shared->Prop}(ht:IsTup s.heap t vs.toArray)(hb:IsTup s.heap b ws.toArray)(hv:vs≠[])
  (h1:ws=[]->Q (.ref t) s) (h2:ws≠[]->Q (.ref s.heap.objs.size) { s with heap:=s.heap.push { cls:=.type "tuple",data:=.seq (vs++ws).toArray } })
  (hsz:vs.length+ws.length<=sizeLine):wpAny (model prog w) A (binaryOp .Add (.ref t) (.ref b)) Q E s:=by
 obtain⟨⟨cls,dd,data,sl⟩,ho,hc,n,hd⟩:=id ht
 obtain⟨⟨cls2,dd2,data2,sl2⟩,ho2,hc2,n2,hd2⟩:=id hb
 simp only at hc hd hc2 hd2
 subst hc hd hc2 hd2
 have e:vs.toArray++ws.toArray=(vs++ws).toArray:=by simp
 by_cases hw:ws=[]
 ·exact concat_meets ⟨_,ho,rfl⟩ ⟨_,ho2,rfl⟩ noFill_tuple_add seq_tuple_add PySem.F.slot_tuple_add PySem.F.entry_tuple_add (PySem.F.args_tuple_add_2 _ _)
   (tuple_addW1 t b vs.toArray ws.toArray n n2 dd dd2 sl sl2 (by simpa using hv) (by simp[hw])) ⟨ho,ho2,h1 hw⟩
 ·refine concat_meets ⟨_,ho,rfl⟩ ⟨_,ho2,rfl⟩ noFill_tuple_add seq_tuple_add PySem.F.slot_tuple_add PySem.F.entry_tuple_add (PySem.F.args_tuple_add_2 _ _)
   (tuple_addW2 t b vs.toArray ws.toArray n n2 dd dd2 sl sl2 (by simpa using hv) (by simpa using hw) (by rw[List.size_toArray,List.size_toArray];exact hsz)) ⟨ho,ho2,?_⟩
  rw[e]
  exact h2 hw
noncomputable def sIx(n d:Nat):Option Int->Nat
 | none=>d
 | some v=>if v<0 then(v+(n:Int)).toNat else min v.toNat n
theorem sIx_none(n d:Nat):sIx n d none=d:=rfl
theorem sIx_nat(n d k:Nat):sIx n d (some (k:Int))=min k n:=by
 show(if (k:Int)<0 then((k:Int)+(n:Int)).toNat else min (k:Int).toNat n)=min k n
 rw[if_neg (by omega),Int.toNat_natCast]
end
end HT
namespace L2
open PySem PySem.Spec PyProof.Rows
noncomputable abbrev TO:=St->Hp->(Option Int->Hp->Prop)->Prop
noncomputable def PO(X:Cx)(e:Option Expr)(t:TO):Prop:=
 ∀(pins:List (Addr×Obj)) (s:Shared) (Y:St) (H:Hp) (Q:Option Int->Hp->Prop),Inv X pins Y H s->t Y H Q->
  wpAny (model X.prog X.w) X.A (evalPart e X.env) (fun u s'=>∃o H',Inv X pins Y H' s'/\IsPart u o/\Q o H') X.xe s
noncomputable def r_O:TO:=fun _ H Q=>Q none H
noncomputable def w_8(t:TE):TO:=fun Y H Q=>t Y H fun x H1=>∃i,x=.int i/\Q (some i) H1
section
variable{X:Cx}{e:Expr}{te:TE}{lo hi:Option Expr}{tl th:TO}{pos p2:Pos}
theorem r_F:PO X none r_O:=by
 intro pins s Y H Q I h
 rw[evalPart_none]
 exact Qab ⟨none,H,I,.none,h⟩
theorem r_E(h:PE X e te):PO X (some e) (w_8 te):=by
 intro pins s Y H Q I hw
 rw[evalPart_some]
 refine thn (h pins s Y H _ I hw) fun u s1 ⟨x,H1,I1,r1,q1⟩=>?_
 obtain⟨i,rfl,q⟩:=q1
 obtain⟨t,rfl⟩:=r1
 exact⟨some i,H1,I1,.int i t,q⟩
noncomputable def SlR(X:Cx)(r:V->Option Int->Option Int->Hp->VK->Prop):Prop:=
 ∀(pins:List (Addr×Obj)) (s:Shared) (Y:St) (H:Hp) (x:V) (v vl vu:Value) (lo hi:Option Int) (sl:Addr) (Q:VK),Inv X pins Y H s->c_b x v->s.heap.IsSliceOf sl vl vu .none->IsPart vl lo->IsPart vu hi->r x lo hi H Q->
  ∃T id,typeLookup (.type T) "__getitem__" = pure (some (.builtin id))/\s.TypeIs v T/\wpAny (model X.prog X.w) X.A (getItem v (.ref sl)) (EP X pins Y Q) X.xe s
noncomputable def tSl(r:V->Option Int->Option Int->Hp->VK->Prop)(te:TE)(tl th:TO):TE:=fun Y H Q=>te Y H fun x H1=>tl Y H1 fun l H2=>th Y H2 fun u H3=>r x l u H3 Q
theorem q_t{r:V->Option Int->Option Int->Hp->VK->Prop}(hr:SlR X r)(he:PE X e te)(hl:PO X lo tl)(hu:PO X hi th):PE X (.Subscript e (.Slice lo hi none p2) pos) (tSl r te tl th):=by
 intro pins s Y H Q I h
 refine Subscript_ (thn (he pins s Y H _ I h) fun v s1 ⟨x,H1,I1,r1,q1⟩=>?_)
 refine wpAny_Slice (thn (hl pins s1 Y H1 _ I1 q1) fun vl s2 ⟨l,H2,I2,pl,q2⟩=>thn (hu pins s2 Y H2 _ I2 q2) fun vu s3 ⟨u,H3,I3,pu,q3⟩=>?_)
 rw[evalPart_none]
 refine Qab ?_
 have I4:Inv X pins Y H3 { s3 with heap:=s3.heap.push { cls:=.type "slice",data:=.fields #[vl,vu,.none] } }:=I3.kept (t':=s3.toks) fun b ob q=>Qac _ q
 obtain⟨T,id,hT,ht,hg⟩:=hr pins { s3 with heap:=s3.heap.push { cls:=.type "slice",data:=.fields #[vl,vu,.none] } } Y H3 x v vl vu l u s3.heap.objs.size Q I4 r1 (Heap.IsSliceOf.new ..) pl pu q3
 show wpAny (model X.prog X.w) X.A (subscriptTail e (.Slice lo hi none p2) v (.ref s3.heap.objs.size)) (EP X pins Y Q) X.xe { s3 with heap:=s3.heap.push { cls:=.type "slice",data:=.fields #[vl,vu,.none] } }
 exact tail_any (ops:=[.ref s3.heap.objs.size,v]) ht hT hg (by with_unfolding_all rfl)
noncomputable def t_u(xs:List V)(lo hi:Option Int):List V:=(xs.drop (HT.sIx xs.length 0 lo)).take (HT.sIx xs.length xs.length hi - HT.sIx xs.length 0 lo)
theorem l_U(xs:List V)(lo hi:Option Int):(t_u xs lo hi).length<=xs.length:=by
 unfold t_u
 rw[List.length_take,List.length_drop]
 omega
noncomputable def w_D(K:Frag):R2:=fun x y H Q=>∃a b xs ys,x=.ref a/\y=.ref b/\SqT K H a xs/\SqT K H b ys/\xs≠[]/\xs.length+ys.length<=sizeLine/\
 (ys=[]->Q (.ref a) H)/\(ys≠[]->∀p,H p=none->Q (.ref p) (upd H p (.tup (xs++ys))))
theorem b_M.nil_iff{xs:List V}{us:List Value}(r:b_M xs us):us=[]↔xs=[]:=by
 cases r with
 | nil=>simp
 | cons _ _=>simp
theorem s_d:OpR X (binaryOp .Add) (w_D X.K):=by
 intro pins s Y H x y v u Q I rx ry h
 obtain⟨a,b,xs,ys,rfl,rfl,ha,hb,hx,hz,q1,q2⟩:=h
 cases rx
 cases ry
 obtain⟨its,r1,p1,_⟩:=I.tuple ha
 obtain⟨its2,r2,p2,_⟩:=I.tuple hb
 refine HT.cat_tup p1 p2 (fun z=>hx (r1.nil_iff.mp z)) (fun z=>⟨.ref a,H,I,rfl,q1 (r2.nil_iff.mp z)⟩) (fun z=>?_) (by rw[<-r1.length,<-r2.length];exact hz)
 refine⟨.ref s.heap.objs.size,_,I.laid (t':=s.toks) (o:=.tup (xs++ys)) (fun b ob q=>Qac _ q) (Qae _) ?_,rfl,q2 (fun w=>z (r2.nil_iff.mpr w)) _ (I.hok.fresh (Qae _))⟩
 exact⟨by rw[List.length_append];exact hz,_,r1.append r2,IsTup.new _ _⟩
end
noncomputable def ixN(n:Nat)(i:Int):Option Nat:=if 0<=i then(if i<n then some i.toNat else none) else if -(n:Int)<=i then some (i+n).toNat else none
noncomputable def atI{α:Type}(xs:List α)(i:Int):Option α:=(ixN xs.length i).bind fun j=>xs[j]?
theorem o_f{n:Nat}{i:Int}{j:Nat}(h:ixN n i=some j):seqIndex? i n=some j/\j<n/\-(n:Int)<=i/\i<n:=by
 unfold ixN at h
 by_cases h0:0<=i
 ·rw[if_pos h0] at h
  by_cases h1:i<n
  ·rw[if_pos h1] at h
   have e:i.toNat=j:=Option.some.inj h
   exact⟨by rw[seqIndex_of h0 h1,e],by omega,by omega,h1⟩
  ·rw[if_neg h1] at h;cases h
 ·rw[if_neg h0] at h
  by_cases h1:-(n:Int)<=i
  ·rw[if_pos h1] at h
   have e:(i+n).toNat=j:=Option.some.inj h
   exact⟨by rw[seqIndex_neg (by omega) h1,e],by omega,h1,by omega⟩
  ·rw[if_neg h1] at h;cases h
theorem p_i{α:Type}{xs:List α}{i:Int}{v:α}(h:atI xs i=some v):∃j,seqIndex? i xs.length=some j/\xs[j]? = some v/\j<xs.length/\-(xs.length:Int)<=i/\i<xs.length:=by
 unfold atI at h
 cases e:ixN xs.length i with
 | none=>rw[e] at h;cases h
 | some j=>
  rw[e] at h
  obtain⟨h1,h2,h3,h4⟩:=o_f e
  exact⟨j,h1,h,h2,h3,h4⟩
noncomputable def h_9(b:Expr):Prop:=∀o i,subscripted b false o i=operate [o,i] (getItem o i)
noncomputable def IxR(X:Cx)(r:R2):Prop:=
 ∀(value slice:Expr) (pins:List (Addr×Obj)) (s:Shared) (Y:St) (H:Hp) (x y:V) (v u:Value) (Q:VK),Inv X pins Y H s->c_b x v->c_b y u->r x y H Q->
  subscripted slice false v u=operate [v,u] (getItem v u)->wpAny (model X.prog X.w) X.A (subscriptTail value slice v u) (EP X pins Y Q) X.xe s
noncomputable def MtR(X:Cx)(id:String)(r:V->List V->Hp->VK->Prop):Prop:=
 ∀(pins:List (Addr×Obj)) (s:Shared) (Y:St) (H:Hp) (x:V) (xs:List V) (v:Value) (us:List Value) (Q:VK),Inv X pins Y H s->c_b x v->b_M xs us->r x xs H Q->
  wpAny (model X.prog X.w) X.A (call (.builtin id) (v::us)) (EP X pins Y Q) X.xe s
section
variable{X:Cx}{a b:Expr}{ta tb:TE}{pos:Pos}
theorem IxR.or{r r':R2}(h:IxR X r)(h':IxR X r'):IxR X (fun x y H Q=>r x y H Q\/r' x y H Q):=by
 intro value slice pins s Y H x y v u Q I rx ry q hs
 rcases q with q | q
 ·exact h value slice pins s Y H x y v u Q I rx ry q hs
 ·exact h' value slice pins s Y H x y v u Q I rx ry q hs
theorem s_l{r:R2}(hr:IxR X r)(ha:PE X a ta)(hb:PE X b tb)(hs:h_9 b):PE X (.Subscript a b pos) (tOp r ta tb):=by
 intro pins s Y H Q I h
 exact Subscript_ (w_L ha hb I h fun v u s2 x y H2 I2 rx ry q=>hr a b pins s2 Y H2 x y v u Q I2 rx ry q (hs _ _))
noncomputable def x_I(K:Frag):R2:=fun x y H Q=>∃p xs i v,x=.ref p/\y=.int i/\SqL K H p xs/\atI xs i=some v/\Q v H
noncomputable def w_7(K:Frag):R2:=fun x y H Q=>∃p xs i v,x=.ref p/\y=.int i/\SqT K H p xs/\atI xs i=some v/\Q v H
theorem l_y:IxR X (x_I X.K):=by
 intro value slice pins s Y H x y v u Q I rx ry h hs
 obtain⟨p,xs,i,z,rfl,rfl,hq,he,q⟩:=h
 cases rx
 obtain⟨t,rfl⟩:=ry
 obtain⟨its,r,pl,hz⟩:=I.list hq
 obtain⟨j,h1,h2,h3,h4,h5⟩:=p_i he
 obtain⟨w,ew,rw'⟩:=r.get h2
 have hl:=r.length
 have hn:=line63
 have fin:EP X pins Y Q w s:=⟨z,H,I,rw',q⟩
 by_cases h0:0<=i
 ·have hj:i.toNat=j:=by
   rw[seqIndex_of h0 h5] at h1
   exact Option.some.inj h1
  exact item_listR pl.isList h0 (by omega) (by rw[hj];simpa using ew) fin hs
 ·have hj:(i+(its.toArray.size:Int)).toNat=j:=by
   rw[seqIndex_neg (by omega) h4] at h1
   rw[List.size_toArray,<-hl]
   exact Option.some.inj h1
  exact subscriptTail_builtinR (x:=w) pl.isList.typeIs slot_list_getitem.lookup
   (wpAny_getItem_list_neg (Q:=fun r s'=>r=w/\EP X pins Y Q r s') pl.isList (by omega) (by rw[List.size_toArray]<;>omega) (by omega) (by rw[hj];simpa using ew) ⟨rfl,fin⟩) hs
theorem t_6:IxR X (w_7 X.K):=by
 intro value slice pins s Y H x y v u Q I rx ry h hs
 obtain⟨p,xs,i,z,rfl,rfl,hq,he,q⟩:=h
 cases rx
 obtain⟨t,rfl⟩:=ry
 obtain⟨its,r,pl,hz⟩:=I.tuple hq
 obtain⟨j,h1,h2,h3,h4,h5⟩:=p_i he
 obtain⟨w,ew,rw'⟩:=r.get h2
 have hl:=r.length
 have hn:=line63
 have fin:EP X pins Y Q w s:=⟨z,H,I,rw',q⟩
 exact subscriptTail_builtinR (x:=w) pl.typeIs slot_tuple_getitem.lookup
  (getItem_tuple (j:=j) (Q:=fun r s'=>r=w/\EP X pins Y Q r s') pl (by omega) (by omega) (by rw[List.size_toArray,<-hl];exact h1) (by simpa using ew) ⟨rfl,fin⟩) hs
theorem m_8(its:List Value)(n j:Nat)(u:Value):Obj.mapSeq (·.setIfInBounds j u) { cls:=.type "list",data:=.seq its.toArray n } = { cls:=.type "list",data:=.seq (its.set j u).toArray n }:=by
 simp[Obj.mapSeq]
theorem Inv.lst{pins:List (Addr×Obj)}{Y:St}{H:Hp}{s:Shared}{p:Addr}{xs:List V}(I:Inv X pins Y H s)(h:H p=some (.lst xs)) :
  ∃(its:List Value) (n:Nat),b_M xs its/\s.heap.get? p=some { cls:=.type "list",data:=.seq its.toArray n }/\xs.length<=sizeLine:=by
 obtain⟨z,its,n,r,e⟩:=I.hok p _ h
 exact⟨its,n,r,e,z⟩
theorem Inv.lstUpd{pins:List (Addr×Obj)}{Y:St}{H:Hp}{s:Shared}{p:Addr}{xs ys:List V}{its its':List Value}{n n':Nat}{f:Obj->Obj}(I:Inv X pins Y H s)(h:H p=some (.lst xs))
  (ho:s.heap.get? p=some { cls:=.type "list",data:=.seq its.toArray n }) (hf:f { cls:=.type "list",data:=.seq its.toArray n } = { cls:=.type "list",data:=.seq its'.toArray n' }) (r:b_M ys its') (hz:ys.length<=sizeLine) (t:Nat) :
  Inv X pins Y (upd H p (.lst ys)) { s with heap:=s.heap.update p f,toks:=t }:=by
 have e:(s.heap.update p f).get? p=some { cls:=.type "list",data:=.seq its'.toArray n' }:=by
  rw[Heap.get?_update_self f ho (by rw[hf]<;>rfl),hf]
 refine I.write (x:=p) (e:=p) (by rw[h];trivial) (.inl rfl) (fun b u hb q=>(Heap.get?_update_other _ _ (Ne.symm hb)).trans q) ⟨_,e⟩ ?_
 exact⟨hz,its',n',r,e⟩
noncomputable def x_T:V->V->V->Hp->(Hp->Prop)->Prop:=fun o i v H Q=>∃p xs k j,o=.ref p/\i=.int k/\H p=some (.lst xs)/\ixN xs.length k=some j/\Q (upd H p (.lst (xs.set j v)))
theorem q_g:y_B X x_T:=by
 intro pins s Y H o i v ov iv u Q I ro ri rv h
 obtain⟨p,xs,k,j,rfl,rfl,hp,hj,q⟩:=h
 cases ro
 obtain⟨t,rfl⟩:=ri
 obtain⟨its,n,r,ho,hz⟩:=I.lst hp
 obtain⟨h1,h2,h3,h4⟩:=o_f hj
 have hl:=r.length
 have hn:=line63
 have I':Inv X pins Y (upd H p (.lst (xs.set j v))) { s with heap:=s.heap.update p (Obj.mapSeq (·.setIfInBounds j u)) }:=
  I.lstUpd hp ho (m_8 its n j u) (r.set rv j) (by rw[List.length_set];exact hz) s.toks
 by_cases h0:0<=k
 ·have hk:k.toNat=j:=by
   rw[seqIndex_of h0 h4] at h1
   exact Option.some.inj h1
  exact PySem.W.ki_setAt ho h0 (by omega) (by rw[List.size_toArray,<-hl];exact h4) (by rw[hk];exact⟨_,I',q⟩)
 ·have hk:(k+(its.toArray.size:Int)).toNat=j:=by
   rw[seqIndex_neg (by omega) h3] at h1
   rw[List.size_toArray,<-hl]
   exact Option.some.inj h1
  exact PySem.W.ki_setBack ho (by omega) (by rw[List.size_toArray,<-hl];exact h3) (by omega) (by rw[hk];exact⟨_,I',q⟩)
theorem k_h(lo hi:Option Int)(n:Nat):(sliceBounds lo hi none n).1=((HT.sIx n 0 lo:Nat):Int)/\(sliceBounds lo hi none n).2.1=((HT.sIx n n hi:Nat):Int)/\(sliceBounds lo hi none n).2.2=1:=by
 refine⟨?_,?_,rfl⟩
 ·cases lo with
  | none=>simp[sliceBounds,HT.sIx]
  | some i=>
   simp only[sliceBounds,HT.sIx,Option.getD_none,show(1:Int)>0 by decide,if_true]
   by_cases h:i<0
   ·simp only[h,if_true]<;>omega
   ·simp only[h,if_false]<;>omega
 ·cases hi with
  | none=>simp[sliceBounds,HT.sIx]
  | some i=>
   simp only[sliceBounds,HT.sIx,Option.getD_none,show(1:Int)>0 by decide,if_true]
   by_cases h:i<0
   ·simp only[h,if_true]<;>omega
   ·simp only[h,if_false]<;>omega
theorem i_5(its:List Value)(lo hi:Option Int):slicePick its.toArray lo hi none=((its.drop (HT.sIx its.length 0 lo)).take (HT.sIx its.length its.length hi - HT.sIx its.length 0 lo)).toArray:=by
 obtain⟨h1,h2,h3⟩:=k_h lo hi its.toArray.size
 unfold slicePick
 rw[h1,h2,h3]
 simp only[sliceRange_one,pick_run,List.size_toArray]<;>rfl
noncomputable def y_6(K:Frag):V->Option Int->Option Int->Hp->VK->Prop:=fun x lo hi H Q=>∃a xs,x=.ref a/\SqL K H a xs/\∀p,H p=none->Q (.ref p) (upd H p (.lst (t_u xs lo hi)))
theorem t_c:SlR X (y_6 X.K):=by
 intro pins s Y H x v vl vu lo hi sl Q I rx hs pl pu h
 obtain⟨a,xs,rfl,hx,q⟩:=h
 cases rx
 obtain⟨its,r,ht,hz⟩:=I.list hx
 have hlen:=r.length
 refine⟨"list",_,slot_list_getitem.lookup,ht.isList.typeIs,?_⟩
 refine wpAny_getItem_list_slice ht.isList hs pl pu .none (by simp) ?_ (by rw[List.size_toArray]<;>omega)
 rw[i_5,<-hlen]
 refine⟨.ref s.heap.objs.size,_,I.laid (t':=s.toks) (o:=.lst (t_u xs lo hi)) (fun b ob q=>Qac _ q) (Qae _) ?_,rfl,q _ (I.hok.fresh (Qae _))⟩
 exact⟨Nat.le_trans (l_U xs lo hi) hz,_,0,(r.drop (HT.sIx xs.length 0 lo)).take (HT.sIx xs.length xs.length hi - HT.sIx xs.length 0 lo),Heap.get?_push_size _ rfl⟩
theorem a_Z:i_p X (.builtin "len") (fun xs H Q=>∃p ys,xs=[.ref p]/\(SqL X.K H p ys\/SqT X.K H p ys)/\Q (.int ys.length) H):=by
 intro pins s Y H xs us Q I r h
 obtain⟨p,ys,rfl,hq,q⟩:=h
 obtain⟨u,rfl,rx⟩:=vals1 r
 cases rx
 have hn:=line63
 rcases hq with hq | hq
 ·obtain⟨its,r',pl,hz⟩:=I.list hq
  have hlen:=r'.length
  exact Calls.call_len_list pl.isList (by simp only[List.size_toArray]<;>omega) ⟨.int ys.length,H,I.tok _,⟨s.toks+1,by rw[List.size_toArray,hlen]⟩,q⟩
 ·obtain⟨its,r',pl,hz⟩:=I.tuple hq
  have hlen:=r'.length
  exact len_tuple pl (by simp only[List.size_toArray]<;>omega) ⟨.int ys.length,H,I.tok _,⟨s.toks+1,by rw[List.size_toArray,hlen]⟩,q⟩
theorem k_R:i_p X (.type "list") (fun xs H Q=>∃p ys,xs=[.ref p]/\(SqL X.K H p ys\/SqT X.K H p ys)/\∀l,H l=none->Q (.ref l) (upd H l (.lst ys))):=by
 intro pins s Y H xs us Q I r h
 obtain⟨p,ys,rfl,hq,q⟩:=h
 obtain⟨u,rfl,rx⟩:=vals1 r
 cases rx
 have fin:∀(its:List Value),b_M ys its->ys.length<=sizeLine->∀(h':Heap) (c':Nat),(∀b o',s.heap.get? b=some o'->h'.get? b=some o')->
   h'.get? s.heap.objs.size=some { cls:=.type "list",dict:=none,data:=.seq its.toArray c',slots:=#[] }->EP X pins Y Q (.ref s.heap.objs.size) { s with heap:=h' }:=fun its r' hz h' c' kp e=>
  ⟨.ref s.heap.objs.size,_,I.laid (t':=s.toks) kp (Qae _) (show c_V X.prog X.w _ h' _ (.lst ys) from⟨hz,its,c',r',e⟩),rfl,q _ (I.hok.fresh (Qae _))⟩
 rcases hq with hq | hq
 ·obtain⟨its,r',pl,hz⟩:=I.list hq
  have hlen:=r'.length
  obtain⟨o,ho,hc,n,hd⟩:=pl.isList
  exact call_list_seq p (.inl rfl) ho hc hd (fun h' c' kp e=>fin its r' hz h' c' kp e) (by simp only[List.size_toArray]<;>omega)
 ·obtain⟨its,r',pl,hz⟩:=I.tuple hq
  have hlen:=r'.length
  obtain⟨o,ho,hc,n,hd⟩:=pl
  exact call_list_seq p (.inr rfl) ho hc hd (fun h' c' kp e=>fin its r' hz h' c' kp e) (by simp only[List.size_toArray]<;>omega)
noncomputable def tyV(K:Frag)(T:String)(x:V)(H:Hp):Prop:=match x with
 | .str _=>T="str"
 | .int _=>T="int"
 | .ref p=>(T="list"/\∃xs,SqL K H p xs)\/(T="tuple"/\∃o,K.lookup p=some o/\o.cls=.type "tuple"/\o.dict=none)\/
   (T="dict"/\((∃kvs,H p=some (.dK kvs))\/∃kvs,H p=some (.dT kvs)))\/(T="set"/\∃S n,H p=some (.set S n))
 | _=>False
theorem v_O{pins:List (Addr×Obj)}{Y:St}{H:Hp}{s:Shared}{T:String}{x:V}{v:Value}(I:Inv X pins Y H s)(r:c_b x v)(ty:tyV X.K T x H) :
  s.TypeIs v T/\∀a,v=.ref a->∃ob,s.heap.get? a=some ob/\ob.dict=none:=by
 cases x with
 | str z=>
  obtain⟨t,rfl⟩:=r
  cases(show T="str" from ty)
  exact⟨typeIs_str s z t,fun _ e=>nomatch e⟩
 | int i=>
  obtain⟨t,rfl⟩:=r
  cases(show T="int" from ty)
  exact⟨typeIs_int s i t,fun _ e=>nomatch e⟩
 | ref p=>
  cases r
  rcases ty with⟨rfl,xs,hq⟩ | ⟨rfl,o,hk,hc,hd⟩ | ⟨rfl,hk⟩ | ⟨rfl,S,n,hk⟩
  ·obtain⟨its,_,pl,_⟩:=I.list hq
   refine⟨pl.isList.typeIs,fun a e=>?_⟩
   cases e
   obtain⟨o,n,e,c,hd,_⟩:=pl
   exact⟨o,e,hd⟩
  ·refine⟨⟨o,I.kIn p o hk,hc⟩,fun a e=>?_⟩
   cases e
   exact⟨o,I.kIn _ o hk,hd⟩
  ·have z:∃o,s.heap.get? p=some o/\o.ExactDict:=by
    rcases hk with⟨kvs,hk⟩ | ⟨kvs,hk⟩
    ·obtain⟨_,_,_,_,o,_,_,e,ex,_⟩:=I.hok p _ hk
     exact⟨o,e,ex⟩
    ·obtain⟨_,_,_,_,o,_,_,e,ex,_⟩:=I.hok p _ hk
     exact⟨o,e,ex⟩
   obtain⟨o,e,ex⟩:=z
   refine⟨⟨o,e,ex.1⟩,fun a e2=>?_⟩
   cases e2
   exact⟨o,e,ex.2.1⟩
  ·obtain⟨o,_,_,_,e,ex,_⟩:=I.hok p _ hk
   refine⟨⟨o,e,ex.1⟩,fun a e2=>?_⟩
   cases e2
   exact⟨o,e,ex.2.1⟩
 | _=>exact False.elim ty
noncomputable def tBM(K:Frag)(T:String)(r:V->List V->Hp->VK->Prop)(to:TE)(t:TA):TE:=fun Y H Q=>to Y H fun x H1=>tyV K T x H1/\t Y H1 fun xs H2=>r x xs H2 Q
variable{o e:Expr}{es:List Expr}{to:TE}{t:TA}{name:Str}{apos cpos:Pos}{T id:String}{r:V->List V->Hp->VK->Prop}
theorem u_a(pa:PlainAttrs T)(slot:Slot T name id)(hty:typeOf (.builtin id)=pure (.type "method_descriptor"))(hm:MtR X id r)(ho:PE X o to)(ha:PA X (e::es) t)
  (hbase:attributeBase o name X.env (eval o X.env)=eval o X.env:=by rfl)
  (hfew:((backTo cpos (starEach (e::es) X.env)).all (fun x=>!x.1)&&(backToKw cpos (keywordEach [] X.env)).all (fun x=>x.1.isSome)
   && decide ((e::es).length+([]:List Keyword).length+(if ([]:List Keyword).isEmpty then 0 else 1)<30))=true:=by rfl)
  (hline:(apos.endLine==cpos.line)=true:=by rfl) (hs:starEach (e::es) X.env=(false,eval e X.env)::starEach es X.env:=by rfl) (hplain:(backTo cpos (starEach es X.env)).any (·.1)=false:=by rfl) :
  PE X (.Call (.Attribute o name apos) (e::es) [] cpos) (tBM X.K T r to t):=by
 intro pins s Y H Q I h
 refine wpAny_Call_method_late hbase hfew hline rfl (thn (ho pins s Y H _ I h) fun v s1 ⟨x,H1,I1,r1,ty,q1⟩=>?_)
 obtain⟨h1,h2⟩:=v_O I1 r1 ty
 refine⟨T,id,pa,slot,hty,h1,h2,?_⟩
 have hA:=ha cpos pins s1 Y H1 _ I1 q1
 rw[hs] at hA ⊢
 refine Calls.callWith_builtin (by show(false||(backTo cpos (starEach es X.env)).any (·.1))=false;rw[hplain]<;>rfl) (Calls.evalArgs_plain ?_)
 exact thn hA fun us s2 ⟨vs,H2,I2,r2,q2⟩=>hm pins s2 Y H2 x vs v us Q I2 r1 r2 q2
end
noncomputable def MtM(X:Cx)(id:String)(r:V->List V->Hp->VK->Prop):Prop:=
 ∀(pins:List (Addr×Obj)) (s:Shared) (Y:St) (H:Hp) (x:V) (xs:List V) (v:Value) (us:List Value) (Q:VK),Inv X pins Y H s->c_b x v->b_M xs us->r x xs H Q->
  wpAny (model X.prog X.w) X.A (call (.builtin id) (v::us)) (EP X pins Y Q) X.xe s
theorem b_M.one:∀{x:V}{us:List Value},b_M [x] us->∃u,us=[u]/\c_b x u
 | _,_,.cons r .nil=>⟨_,rfl,r⟩
theorem b_M.rep{xs:List V}{us:List Value}(h:b_M xs us):∀k:Nat,b_M (List.replicate k xs).flatten (List.replicate k us).flatten
 | 0=>.nil
 | k+1=>by
  rw[List.replicate_succ,List.replicate_succ,List.flatten_cons,List.flatten_cons]
  exact b_M.append h (b_M.rep h k)
theorem j_1(its:List Value):∀(k:Nat) (acc:List Value),
  List.foldl (fun x1 x2=>x1++x2) acc.toArray (List.replicate k its.toArray)=(acc++(List.replicate k its).flatten).toArray
 | 0,acc=>by simp
 | k+1,acc=>by
  have e:acc.toArray++its.toArray=(acc++its).toArray:=by simp
  have e2:(acc++its)++(List.replicate k its).flatten=acc++(List.replicate (k+1) its).flatten:=by
   rw[List.replicate_succ,List.flatten_cons,List.append_assoc]
  rw[<-e2,<-j_1 its k (acc++its),<-e,List.replicate_succ,List.foldl_cons]
section
variable{X:Cx}{pins:List (Addr×Obj)}{Y:St}{H:Hp}{s:Shared}{l b:Addr}{xs ys zs:List V}
theorem Inv.lset{its its':List Value}{n:Nat}{f:Array Value->Array Value}{t':Nat}(I:Inv X pins Y H s)(hH:H l=some (.lst xs))
  (e:s.heap.get? l=some { cls:=.type "list",data:=.seq its.toArray n }) (hf:f its.toArray=its'.toArray) (hv:b_M ys its') (hz:ys.length<=sizeLine) :
  Inv X pins Y (upd H l (.lst ys)) { s with heap:=s.heap.update l (Obj.mapSeq f),toks:=t' }:=by
 have q:=PySem.IsL.update e f
 rw[hf] at q
 refine I.write (x:=l) (e:=l) (by rw[hH];exact trivial) (.inl rfl) (fun b' u hb hu=>(Heap.get?_update_other s.heap (Obj.mapSeq f) (Ne.symm hb)).trans hu) ⟨_,q⟩ ?_
 exact⟨hz,its',_,hv,q⟩
theorem Inv.lnew{its:List Value}{t':Nat}(I:Inv X pins Y H s)(hv:b_M ys its)(hz:ys.length<=sizeLine) :
  Inv X pins Y (upd H s.heap.objs.size (.lst ys)) { s with heap:=s.heap.push { cls:=.type "list",data:=.seq its.toArray },toks:=t' }:=
 I.laid (fun _ _ q=>Qac _ q) (Qae _) ⟨hz,its,0,hv,Heap.get?_push_size _ rfl⟩
theorem Inv.fresh(I:Inv X pins Y H s):H s.heap.objs.size=none:=I.hok.fresh (Qae _)
theorem Inv.lstM(I:Inv X pins Y H s)(hH:H l=some (.lst xs)):xs.length<=sizeLine/\∃(its:List Value) (n:Nat),b_M xs its/\xs.length=its.length/\s.heap.get? l=some { cls:=.type "list",data:=.seq its.toArray n }:=by
 obtain⟨z,its,n,r,e⟩:=I.hok l _ hH
 exact⟨z,its,n,r,r.length,e⟩
theorem p_z{n:Nat}(h:n<=sizeLine):Builtin.List.listTooLong n=false:=by
 unfold Builtin.List.listTooLong
 exact decide_eq_false (by omega)
end
section
variable{X:Cx}
noncomputable def s_D:V->List V->Hp->VK->Prop:=fun x vs H Q=>∃l xs y,x=.ref l/\vs=[y]/\H l=some (.lst xs)/\xs.length<sizeLine/\Q .non (upd H l (.lst (xs++[y])))
theorem k_D:MtM X "list.append" s_D:=by
 intro pins s Y H x vs v us Q I rx rv h
 obtain⟨l,xs,y,rfl,rfl,hH,hz,q⟩:=h
 cases rx
 obtain⟨u,rfl,ru⟩:=rv.one
 obtain⟨z,its,n,r,hl,e⟩:=I.lstM hH
 refine call_meets F.slot_list_append ⟨_,e,rfl⟩ F.entry_list_append (F.args_list_append_2 _ _) (PySem.list_append l its.toArray n u (by rw[List.size_toArray];omega)) ⟨e,?_⟩
 refine⟨.non,_,I.lset (its':=its++[u]) hH e (by simp) (r.append (.cons ru .nil)) ?_,rfl,q⟩
 rw[List.length_append,List.length_singleton]
 omega
noncomputable def y_d:R2:=fun x y H Q=>∃l b xs zs,x=.ref l/\y=.ref b/\H l=some (.lst xs)/\H b=some (.lst zs)/\xs.length+zs.length<=sizeLine/\∀p,H p=none->Q (.ref p) (upd H p (.lst (xs++zs)))
theorem v_X:OpR X (binaryOp .Add) y_d:=by
 intro pins s Y H x y v u Q I rx ry h
 obtain⟨l,b,xs,zs,rfl,rfl,hH,hB,hz,q⟩:=h
 cases rx
 cases ry
 obtain⟨z,its,n,r,hl,e⟩:=I.lstM hH
 obtain⟨z2,its2,n2,r2,hl2,e2⟩:=I.lstM hB
 refine PySem.P.add_list e e2 ?_ (by rw[List.size_toArray,List.size_toArray];omega)
 have ea:its.toArray++its2.toArray=(its++its2).toArray:=by simp
 rw[ea]
 exact⟨.ref _,_,I.lnew (t':=s.toks) (r.append r2) (by rw[List.length_append];omega),rfl,q _ I.fresh⟩
noncomputable def x_6:R2:=fun x y H Q=>∃l k xs,x=.ref l/\y=.int k/\H l=some (.lst xs)/\-(2 ^ 63)<=k/\k<2 ^ 63/\xs.length * k.toNat<=sizeLine/\
 ∀p,H p=none->Q (.ref p) (upd H p (.lst (List.replicate k.toNat xs).flatten))
theorem s_r{α:Type}(xs:List α)(k:Nat):(List.replicate k xs).flatten.length=k * xs.length:=by
 induction k with
 | zero=>simp
 | succ k ih=>rw[List.replicate_succ,List.flatten_cons,List.length_append,ih,Nat.succ_mul,Nat.add_comm]
theorem u_S:OpR X (binaryOp .Mult) x_6:=by
 intro pins s Y H x y v u Q I rx ry h
 obtain⟨l,k,xs,rfl,rfl,hH,h1,h2,hz,q⟩:=h
 cases rx
 obtain⟨t,rfl⟩:=ry
 obtain⟨z,its,n,r,hl,e⟩:=I.lstM hH
 have hlen:its.toArray.size * k.toNat<=sizeLine:=by rw[List.size_toArray,<-hl];exact hz
 have hcap:¬ its.toArray.size * k.toNat>(2 ^ 63 - 1) / 8:=by
  have:(sizeLine:Nat)<=(2 ^ 63 - 1) / 8:=by decide
  omega
 have hfit:¬ (!Builtin.List.listFitsIndex k)=true:=by
  rw[fitsIndex_both h1 h2]
  exact Bool.false_ne_true
 have hlong:¬ Builtin.List.listTooLong (its.toArray.size * k.toNat)=true:=by
  rw[p_z hlen]
  exact Bool.false_ne_true
 have hnew:List.foldl (fun x1 x2=>x1++x2) #[] (List.replicate (if its.toArray.isEmpty=true then 0 else k.toNat) its.toArray)=(List.replicate k.toNat its).flatten.toArray:=by
  have f0:∀m:Nat,List.foldl (fun x1 x2=>x1++x2) #[] (List.replicate m its.toArray)=(List.replicate m its).flatten.toArray:=fun m=>by
   have:=j_1 its m []
   rw[List.nil_append] at this
   exact this
  rw[f0]
  cases its with
  | nil=>simp
  | cons a r'=>rw[if_neg (by simp)]
 refine wpAny_binaryOp_repeat_ref (T:="list") (U:="int") (by decide) ⟨_,e,rfl⟩ (fun s'=>typeIs_int s' k t) noFill_list_mul F.fills_int_mul F.slot_int_rmul repeat_list F.slot_int_index.lookup
  (call_meets F.slot_int_rmul (typeIs_int s k t) F.entry_int_rmul (F.args_int_rmul_2 _ _) (int___rmul___int_list k t l its.toArray n)
   ⟨e,rfl,⟨_,e,rfl⟩,call_meets F.slot_list_mul ⟨_,e,rfl⟩ F.entry_list_mul (F.args_list_mul_2 _ _) (AutoListH.list___mul___list_int_3 l its.toArray n k t hfit hcap hlong) ⟨e,?_⟩⟩)
 rw[hnew]
 exact⟨.ref _,_,I.lnew (t':=s.toks) (r.rep k.toNat) (by rw[s_r,Nat.mul_comm];exact hz),rfl,q _ I.fresh⟩
end
end L2
namespace Att
open PySem PySem.W PySem.Calls PyProof.Rows
theorem h_S{P:Params}{h:Heap}:∀(ns:List Int) (vs:List Value),WellAll P h vs (ns.map WData.int)->IntsAre vs ns:=by
 intro ns
 induction ns with
 | nil=>
  intro vs w
  rw[List.map_nil] at w
  cases w
  exact .nil
 | cons n ns ih=>
  intro vs w
  rw[List.map_cons] at w
  cases w with
  | cons a b=>
   cases a
   exact .cons _ _ (ih _ b)
theorem n_6{l:OpenLaw}{n:Nat}(hn:l.most=some n){P:Params}{h:Heap}{args:List WData}{vals:List Value}
  (hpre:l.row.toRowW.claim.pre args=true) (hwl:WellAll P h vals args) :
  ∃a vs ns,vals=[Value.ref a]/\args=[WData.list (ns.map WData.int)]/\h.get? a=some { cls:=.type "list",data:=.seq vs.toArray }/\IntsAre vs ns/\ns.length<=n:=by
 have hsh:WShape.hasAll [] args [.list .int]=true:=(pre_splitW hpre).1
 have hc:l.pre.holds [] { args:=args }=true:=(pre_splitW hpre).2
 obtain⟨d,r,rfl,h1,h2⟩:=hasAllW_cons hsh
 obtain rfl:=hasAllW_nil h2
 obtain⟨xs,rfl,h3⟩:=hasW_list h1
 obtain⟨ns,rfl⟩:=items_int h3
 have hlen:ns.length<=n:=by
  unfold OpenLaw.pre at hc
  have h4:(WTm.not (.lt (.lit (.int (n:Int))) (.len (.arg 0)))).holds [] { args:=[.list (ns.map .int)] }=true:=by
   have h4:=(holds_andW hc).1
   rw[hn] at h4
   exact h4
  have h5:=condW_of h4 (w_not (w_lt w_lit (w_len_list (w_arg rfl))))
  rw[List.length_map] at h5
  refine Nat.le_of_not_lt fun q=>?_
  have q':(n:Int)<((ns.length:Nat):Int):=by omega
  first
   | (rw[decide_eq_true q'] at h5;exact absurd h5 (by decide))
   | (simp at h5;omega)
 cases hwl with
 | cons w1 w2=>
  cases w2
  cases w1 with
  | list ho hall=>exact⟨_,_,ns,rfl,rfl,ho,h_S ns _ hall,hlen⟩
theorem n_H(l:OpenLaw)(args:List WData):l.row.toRowW.claim.post args (.bool true) args=true:=
 postW_of (r:=l.row.toRowW) (X:=(true==true))
  (show WShape.has [] (.bool true) .bool=true by first | rfl | decide | simp[WShape.has,WShape.arms,WShape.armsAll])
  (show(WTm.eq .res (.lit (.bool true))).value [] { args:=args,res:=some (.bool true),after:=args }=some (.bool (true==true)) from w_eq_bool (w_res rfl) w_lit) rfl
theorem attach_call{l:OpenLaw}{n:Nat}{q:Program}{loose:List Str}{XP:(Str->Option Value)->Heap->Prop}{YP:World->Heap->Prop}{d:DefRec}
  (hn:l.most=some n) (hdf:d.params.defaults=[])
  (call:∀(w:World) (s₀ s₁:Shared) (mg mb:Str->Option Value) (fa:Addr) (o:Obj) (pm cd doc:Value) (a:Addr) (vs:List Value) (ns:List Int),
   Ground q loose [] XP w s₀ mg mb s₁.heap->YP w s₁.heap->
   s₁.heap.get? fa=some o->o.data=.func (docDef d.name d.params d.body d.scope pm cd doc)->s₁.heap.CodeRec cd d.name->mg d.name=some (.ref fa)->
   s₁.heap.get? a=some { cls:=.type "list",data:=.seq vs.toArray }->IntsAre vs ns->ns.length<=n->s₁.gens = #[]->
   codeAny (model l.prog w) callerA (.call (.ref fa) ⟨[.ref a],[]⟩) (fun r s'=>r=.ok (.ret (.bool true))/\OldK s₁.heap s'.heap/\s'.os=s₁.os/\AllBare s'.gens) s₁) :
  WalkO q loose XP YP l.row.toRowW d [] (fun f vs=>PySem.call f vs):=by
 intro w s₀ s₁ mg mb G Y9 fa o pm cd doc dV kV ho hd hcd hD hmg hg args vals as hpre hlay hrd hwl hlo
 obtain rfl:dV=.none:=Dflts.none hD hdf
 obtain rfl:kV=.none:=Dflts.noKw hD
 obtain⟨a,vs,ns,rfl,rfl,hobj,hints,hlen⟩:=n_6 hn hpre hwl
 refine enter_call (codeAny_mono (call w s₀ s₁ mg mb fa o pm cd doc a vs ns G Y9 ho (fd_plain hd) hcd hmg hobj hints hlen hg) fun r s' hq=>?_)
 obtain⟨rfl,h2,h3,h4⟩:=hq
 exact⟨.inl ⟨.bool true,.bool true,[],rfl,fun _=>rfl,.bool true,n_H l _,fun _=>⟨List.Pairwise.nil,fun _ hm=>(nomatch hm)⟩⟩,h2,h3,h4⟩
end Att
namespace L2
open PySem PySem.Spec PyProof.Rows
theorem k_G:∀{vs:List Value}{ns:List Int},IntsAre vs ns->b_M (ns.map V.int) vs
 | _,_,.nil=>.nil
 | _,_,.cons n t h=>.cons ⟨t,rfl⟩ (k_G h)
noncomputable def w_J(H:Hp):Prop:=∀b,H b=none\/∃o xs,H b=some (.frz o (.lst xs))
theorem q_B{P:Program}{w:World}{K:Frag}{mg mb:Str->Option Value}{CX:CXT}{k:Nat}{fa a:Addr}{fd:FuncData}{x:Str}{sp:Sp}{s₁:Shared}{vs:List Value}{ns:List Int}
  (KX:K.In s₁.heap) (hns:s₁.heap.Ns mainGlobals mg) (hb:s₁.heap.Ns builtinsNs mb) (hbb:∀x:Str,x≠"__name__"->mb x=bootBuiltins x) (hlim:s₁.heap.NoLimit) (hg:s₁.gens = #[])
  (ha:s₁.heap.get? a=some { cls:=.type "list",data:=.seq vs.toArray }) (hi:IntsAre vs ns) (hl:ns.length<=sizeLine) (hr:Room k callerA)
  (F:∀base:Heap,K.In base->base.Ns mainGlobals mg->FnOk P w K mg base CX k fa fd [x] sp) (hbind:∀(s:Shared) (u:Value),BindsTo s fd ⟨[u],[]⟩ [(x,u)])
  (hsp:∀H:Hp,w_J H->SqL K H a (ns.map V.int)->sp [.ref a] H (fun v _=>v=.bl true) fun _ _ _=>False)
  (hCX:∀H e s',CX [] H s₁ (fun _ _ _=>False) e s'->False) :
  codeAny (model P w) callerA (.call (.ref fa) ⟨[.ref a],[]⟩) (fun r s'=>r=.ok (.ret (.bool true))/\OldK s₁.heap s'.heap/\s'.os=s₁.os/\AllBare s'.gens) s₁:=by
 have rv:=k_G hi
 have lenV:=hi.length
 have core:∀H:Hp,w_J H->SqL K H a (ns.map V.int)->HOk P w H s₁.heap->(∀b,H b≠none->b=a)->(H a≠none->K.lookup a=none)->
   codeAny (model P w) callerA (.call (.ref fa) ⟨[.ref a],[]⟩) (fun r s'=>r=.ok (.ret (.bool true))/\OldK s₁.heap s'.heap/\s'.os=s₁.os/\AllBare s'.gens) s₁:=by
  intro H hO hS hok hA hK
  have base_of:∀{b:Addr}{o:Obj},s₁.heap.get? b=some o->H b=none->(p_4 s₁.heap H).get? b=some o:=fun e n=>q_q e n
  have noA:∀{b:Addr}{o:Obj}{es:Array DictEntry}{ep:Nat},s₁.heap.get? b=some o->o.data=.dict es ep->H b=none:=fun {b o es ep} e d=>by
   cases q:H b with
   | none=>rfl
   | some u=>
    have e':b=a:=hA b (by rw[q];simp)
    subst e'
    rw[ha] at e;cases e
    have d':Data.seq vs.toArray _=Data.dict es ep:=d
    cases d'
  have nsK:∀{b:Addr}{m:Str->Option Value},s₁.heap.Ns b m->(p_4 s₁.heap H).Ns b m:=fun {b m} ⟨o,es,ep,e,d,r⟩=>⟨o,es,ep,base_of e (noA e d),d,r⟩
  have hKb:K.In (p_4 s₁.heap H):=fun b o e=>base_of (KX b o e) (by
   cases q:H b with
   | none=>rfl
   | some u=>
    have e':b=a:=hA b (by rw[q];simp)
    subst e'
    rw[hK (by rw[q];simp)] at e;cases e)
  have hM:Mod K mg (p_4 s₁.heap H):=⟨hKb,nsK hns,⟨mb,nsK hb,hbb⟩,let⟨mc,h1,h2⟩:=hlim;⟨mc,nsK h1,h2⟩⟩
  have e0:Env0 P w K mg (p_4 s₁.heap H) callerA [] s₁ H:=⟨rfl,hM,fun b o e=>s_8 e,Nat.le_of_eq (n_2 _ _),trivial,fun b hb=>absurd (show b∈([]:List Addr) from hb) (by simp),hok,.of_eq hg⟩
  refine codeAny_mono ((F _ hKb (nsK hns)).run callerA [] s₁ H ⟨[.ref a],[]⟩ [.ref a] [.ref a] _ _ hr e0 (hbind s₁ (.ref a)) (.cons rfl .nil) (hsp H hO hS)) fun r s' h=>?_
  cases r with
  | error e=>exact(hCX H e s' h).elim
  | ok fl=>
   cases fl with
   | next=>exact False.elim h
   | brk=>exact False.elim h
   | cont=>exact False.elim h
   | ret u=>
    obtain⟨v,H',os,bare,un,hok',r',q⟩:=h
    have q':v=.bl true:=q
    subst q'
    obtain rfl:u=Value.bool true:=r'
    refine⟨rfl,OldK.of_keep fun b o e=>?_,os,bare⟩
    cases q:H b with
    | none=>exact un.keep b o e q (by intro z;exact absurd (show b∈([]:List Addr) from z) (by simp)) (by simp)
    | some u=>
     rcases hO b with z | ⟨ob,xs,z⟩
     ·rw[q] at z;cases z
     ·have z2:=un.frzs b ob _ z
      obtain⟨e1,_⟩:=hok b _ z
      obtain⟨e2,_⟩:=hok' b _ z2
      rw[e] at e1;cases e1
      exact e2
 cases hk:K.lookup a with
 | some o=>
  have e:=KX a o hk
  rw[ha] at e
  cases e
  refine core (fun _=>none) (fun _=>.inl rfl) (.inr ⟨_,vs.toArray,_,hk,rfl,rfl,rfl,by rw[List.size_toArray,lenV];exact hl,by simpa using rv⟩) (fun b u z=>by have z':(none:Option HO)=some u:=z;cases z') (fun b z=>absurd rfl z) fun z=>absurd rfl z
 | none=>
  refine core (fun b=>if b=a then some (.frz { cls:=.type "list",data:=.seq vs.toArray } (.lst (ns.map V.int))) else none) (fun b=>?_) (.inl (.inr ⟨{ cls:=.type "list",data:=.seq vs.toArray },if_pos rfl⟩)) (fun b u z=>?_) (fun b z=>?_) fun _=>hk
  ·by_cases hb:b=a
   ·exact .inr ⟨_,_,if_pos hb⟩
   ·exact .inl (if_neg hb)
  ·by_cases hb:b=a
   ·have z':=(if_pos hb).symm.trans z
    cases z'
    subst hb
    exact⟨ha,by rw[List.length_map];exact hl,vs,_,rv,ha⟩
   ·have z':=(if_neg hb).symm.trans z
    cases z'
  ·by_cases hb:b=a
   ·exact hb
   ·exact absurd (if_neg hb) z
theorem walk_of{l:PySem.W.OpenLaw}{n k:Nat}{q:Program}{loose:List Str}{XP:(Str->Option Value)->Heap->Prop}{YP:World->Heap->Prop}{d:DefRec}{K:Params->Frag}{CX:World->CXT}{sp:World->Sp}{x:Str}
  (hn:l.most=some n) (hn2:n<=sizeLine) (hdf:d.params.defaults=[]) (hr:Room k callerA)
  (hY:∀(w:World) (h:Heap),YP w h->(K w.params).In h)
  (F:∀(w:World) (mg:Str->Option Value) (fa:Addr) (h:Heap),(K w.params).In h->h.Ns mainGlobals mg->mg d.name=some (.ref fa)->
   ∃fd:FuncData,(∀(s:Shared) (u:Value),BindsTo s fd ⟨[u],[]⟩ [(x,u)])/\
    ∀base:Heap,(K w.params).In base->base.Ns mainGlobals mg->FnOk l.prog w (K w.params) mg base (CX w) k fa fd [x] (sp w))
  (hsp:∀(w:World) (H:Hp) (a:Addr) (ns:List Int),ns.length<=n->w_J H->SqL (K w.params) H a (ns.map V.int)->sp w [.ref a] H (fun v _=>v=.bl true) fun _ _ _=>False)
  (hCX:∀(w:World) (H:Hp) (s:Shared) (e:Value) (s':Shared),CX w [] H s (fun _ _ _=>False) e s'->False) :
  PySem.W.WalkO q loose XP YP l.row.toRowW d [] (fun f vs=>PySem.call f vs):=by
 refine Att.attach_call hn hdf fun w s₀ s₁ mg mb fa o pm cd doc a vs ns G Y9 ho hd hcd hmg hobj hints hlen hg=>?_
 have KX:=hY w _ Y9
 obtain⟨fd,hb,hF⟩:=F w mg fa _ KX G.T.g hmg
 exact q_B KX G.T.g G.T.b G.T.builtins G.T.nolimit hg hobj hints (Nat.le_trans hlen hn2) hr hF hb (fun H hO hS=>hsp w H a ns hlen hO hS) fun H e s'=>hCX w H s₁ e s'
noncomputable def c_W(s:Stmt)(j:Nat):Stmt:=match s with
 | .ClassDef _ _ _ body _ _ _ _ _ _ _=>body.getD j (.Pass ⟨0,0,0,0⟩)
 | _=>.Pass ⟨0,0,0,0⟩
noncomputable def g_6(s:Stmt):Arguments:=match s with
 | .FunctionDef _ a _ _ _ _ _ _ _ _=>a
 | _=>{ posonlyargs:=[],args:=[],vararg:=none,kwonlyargs:=[],kw_defaults:=[],kwarg:=none,defaults:=[] }
noncomputable def g_g(s:Stmt):List Stmt:=match s with
 | .FunctionDef _ _ b _ _ _ _ _ _ _=>b
 | _=>[]
noncomputable def a_e(s:Stmt):Scope:=match s with
 | .FunctionDef _ _ _ _ _ _ sc _ _ _=>sc
 | _=>{ kind:=.function,names:=[],isGenerator:=false,isCoroutine:=false }
structure Fun (K:Frag) (x qual:Str) (st:Stmt) (f:Addr) (fd:FuncData):Prop where
 ex:∃(oc:Value) (od:Option Addr) (kV doc pm:Value) (an:Option Addr) (cdv ct:Value) (osl:Array (Option Value)),
  fd=fnOf x qual (g_6 st) (g_g st) (a_e st) .none kV doc pm an cdv ct/\K.lookup f=some ⟨oc,od,.func fd,osl⟩/\codeIn K cdv qual=true
 kp:keepIn K (.ref f)=true
section
variable{P:Program}{w:World}{K:Frag}{mg:Str->Option Value}{base:Heap}
theorem Fun.binds{x qual:Str}{st:Stmt}{f:Addr}{fd:FuncData}{ps:List Str}(F:Fun K x qual st f fd)
  (h:∀(kV doc pm:Value) (an:Option Addr) (cdv ct:Value) (us:List Value),us.length=ps.length->bindArgs (fnOf x qual (g_6 st) (g_g st) (a_e st) .none kV doc pm an cdv ct) ⟨us,[]⟩=pure (ps.zip us)):i_z K fd ps []:=by
 obtain⟨oc,od,kV,doc,pm,an,cdv,ct,osl,rfl,lk,hcd⟩:=F.ex
 exact .all (h kV doc pm an cdv ct)
theorem a_v{x qual:Str}{st:Stmt}{f:Addr}{oc:Value}{od an:Option Addr}{osl:Array (Option Value)}{kV doc pm cdv ct:Value}(l:K.lookup f=some ⟨oc,od,.func (fnOf x qual (g_6 st) (g_g st) (a_e st) .none kV doc pm an cdv ct),osl⟩)
  (c:codeIn K cdv qual=true) (k:keepIn K (.ref f)=true):Fun K x qual st f (fnOf x qual (g_6 st) (g_g st) (a_e st) .none kV doc pm an cdv ct):=⟨⟨oc,od,kV,doc,pm,an,cdv,ct,osl,rfl,l,c⟩,k⟩
end
theorem v_f{A:Around}{k:Nat}(hr:Room k A):A.units+1<cLine:=Nat.lt_of_le_of_lt (Nat.add_le_add_left (by decide:1<=64) _) hr.units
section
variable{X:Cx}
theorem pv(i:Nat){x:Str}{pos:Pos}(hN:X.N[i]? = some x:=by rfl)(hv:Vis X.env.scope x:=by first | exact Or.inl rfl | exact Or.inr (Or.inl rfl) | exact Or.inr (Or.inr rfl))(hd:(x==("__debug__":Str))=false:=by decide)
  (hcd:(x==("__classdict__":Str))=false:=by decide):PE X (.Name x pos) (f_r i):=u_l hN hv hd hcd
end
theorem i_S{A B:Prop}(h:B):if false=true then A else B:=by
 rw[if_neg Bool.false_ne_true]
 exact h
theorem i_V{A B:Prop}(h:A):if true=true then A else B:=by
 rw[if_pos rfl]
 exact h
noncomputable def e_3(H H':Hp):Prop:=∀b o,H b=some o->H' b=some o
theorem e_3.seq{K:Frag}{H H':Hp}{a:Addr}{xs:List V}(e:e_3 H H')(h:SqL K H a xs):SqL K H' a xs:=by
 rcases h with(h | ⟨o,h⟩) | h
 ·exact .inl (.inl (e _ _ h))
 ·exact .inl (.inr ⟨o,e _ _ h⟩)
 ·exact .inr h
end L2
set_option maxHeartbeats 4000000
namespace L2
open PySem PySem.Spec PyProof.Rows
section
variable{κ:Type}[DecidableEq κ]
noncomputable def p_r(kvs:List (κ×V))(k:κ):Option V:=(kvs.find? fun kv=>decide (kv.1=k)).map (·.2)
noncomputable def k_0(kvs:List (κ×V))(k:κ)(v:V):List (κ×V):=
 if (kvs.any fun kv=>decide (kv.1=k))=true then kvs.map (fun kv=>if kv.1=k then(kv.1,v) else kv) else kvs++[(k,v)]
theorem j_q{p:κ×V}{r:List (κ×V)}{k:κ}(e:p.1=k):p_r (p::r) k=some p.2:=by simp[p_r,List.find?_cons,e]
theorem j_s{p:κ×V}{r:List (κ×V)}{k:κ}(e:¬ p.1=k):p_r (p::r) k=p_r r k:=by simp[p_r,List.find?_cons,e]
theorem h_y(k:κ):∀kvs:List (κ×V),(kvs.any fun kv=>decide (kv.1=k))=(p_r kvs k).isSome
 | []=>rfl
 | p::r=>by
  rw[List.any_cons]
  by_cases e:p.1=k
  ·simp only[j_q e,decide_eq_true e,Bool.true_or,Option.isSome_some]
  ·rw[j_s e,decide_eq_false e,Bool.false_or];exact h_y k r
theorem i_j(kvs:List (κ×V))(k:κ)(v:V):(k_0 kvs k v).length<=kvs.length+1:=by
 unfold k_0
 split
 ·rw[List.length_map];omega
 ·rw[List.length_append,List.length_cons,List.length_nil];omega
theorem p_A{kvs:List (κ×V)}{k:κ}(v:V)(h:p_r kvs k=none):k_0 kvs k v=kvs++[(k,v)]:=by
 unfold k_0
 rw[h_y,h]
 exact if_neg (by decide)
theorem m_L.isSome_eq{o:Option V}{u:Option Value}(r:m_L o u):o.isSome=u.isSome:=by
 cases o with
 | none=>cases u with
  | none=>rfl
  | some _=>exact(show False from r).elim
 | some _=>cases u with
  | none=>exact(show False from r).elim
  | some _=>rfl
theorem KV.any{kvs:List (κ×V)}{vs:List (κ×Value)}(r:KV kvs vs)(k:κ):(kvs.any fun kv=>decide (kv.1=k))=vs.any fun kv=>decide (kv.1=k):=by
 unfold KV at r
 induction r with
 | nil=>rfl
 | cons h t ih=>rw[List.any_cons,List.any_cons,ih,h.1]
theorem KV.repl{kvs:List (κ×V)}{vs:List (κ×Value)}(r:KV kvs vs)(k:κ){y:V}{u:Value}(ry:c_b y u) :
  KV (kvs.map fun kv=>if kv.1=k then(kv.1,y) else kv) (vs.map fun kv=>if kv.1=k then(kv.1,u) else kv):=by
 unfold KV at r ⊢
 induction r with
 | nil=>exact .nil
 | @cons p q ps qs h t ih=>
  rw[List.map_cons,List.map_cons]
  refine .cons ?_ ih
  obtain⟨h1,h2⟩:=h
  by_cases e:p.1=k
  ·rw[if_pos e,if_pos (h1.symm.trans e)];exact⟨h1,ry⟩
  ·rw[if_neg e,if_neg (fun z=>e (h1.trans z))];exact⟨h1,h2⟩
theorem KV.put{kvs:List (κ×V)}{vs:List (κ×Value)}(r:KV kvs vs)(k:κ){y:V}{u:Value}(ry:c_b y u):KV (k_0 kvs k y) (stored vs k u):=by
 unfold k_0 stored
 rw[r.any k]
 by_cases e:(vs.any fun kv=>decide (kv.1=k))=true
 ·rw[if_pos e,if_pos e];exact r.repl k ry
 ·rw[if_neg e,if_neg e];exact Paired.snoc r ⟨rfl,ry⟩
theorem KV.length{kvs:List (κ×V)}{vs:List (κ×Value)}(r:KV kvs vs):kvs.length=vs.length:=Paired.length r
end
theorem u_Q{P:Program}{w:World}{k:Key}{u:Value}(r:c_b (kV k) u):(c_6 P w).is k u=true:=by
 cases k with
 | inl i=>obtain⟨t,e⟩:=(show ∃t,u=Value.int i t from r);subst e;exact l_i P w i t
 | inr x=>obtain⟨t,e⟩:=(show ∃t,u=Value.str x t from r);subst e;exact l_s P w x t
theorem k_J{P:Program}{w:World}:∀{ks:List Key}{us:List Value},b_M (ks.map kV) us->ItemsAre (c_6 P w) ks us
 | [],_,r=>by rw[List.map_nil] at r;cases r;exact .nil
 | k::ks,_,r=>by
  rw[List.map_cons] at r
  cases r with
  | cons h t=>exact .cons (u_Q h) (k_J t)
noncomputable abbrev KT(H:Hp):List (List Key×V)->List (List Key×Addr×Value)->Prop:=Paired fun p q=>p.1=q.1/\H q.2.1=some (.tup (p.1.map kV))/\c_b p.2 q.2.2
theorem KT.val{H:Hp}{kvs:List (List Key×V)}{xs:List (List Key×Addr×Value)}(r:KT H kvs xs)(k:List Key):m_L (p_r kvs k) ((atKey xs k).map (·.2)):=by
 induction r with
 | nil=>exact True.intro
 | @cons p q ps qs h t ih=>
  obtain⟨h1,_,h2⟩:=h
  by_cases e:p.1=k
  ·have e':q.1=k:=h1.symm.trans e
   have b:atKey (q::qs) k=some q.2:=by simp[atKey,List.find?_cons,e']
   rw[j_q e,b];exact h2
  ·have e':¬ q.1=k:=fun z=>e (h1.trans z)
   have b:atKey (q::qs) k=atKey qs k:=by simp[atKey,List.find?_cons,e']
   rw[j_s e,b];exact ih
theorem KT.repl{H:Hp}{kvs:List (List Key×V)}{xs:List (List Key×Addr×Value)}(r:KT H kvs xs)(k:List Key){y:V}{u:Value}(ry:c_b y u) :
  KT H (kvs.map fun kv=>if kv.1=k then(kv.1,y) else kv) (xs.map (putAt k u)):=by
 induction r with
 | nil=>exact .nil
 | @cons p q ps qs h t ih=>
  rw[List.map_cons,List.map_cons]
  refine .cons ?_ ih
  obtain⟨h1,h2,h3⟩:=h
  unfold putAt
  by_cases e:p.1=k
  ·rw[if_pos e,if_pos (h1.symm.trans e)];exact⟨h1,h2,ry⟩
  ·rw[if_neg e,if_neg (fun z=>e (h1.trans z))];exact⟨h1,h2,h3⟩
theorem KT.put{H:Hp}{kvs:List (List Key×V)}{xs:List (List Key×Addr×Value)}(r:KT H kvs xs)(k:List Key){b:Addr}{y:V}{u:Value}(hb:H b=some (.tup (k.map kV)))(ry:c_b y u) :
  KT H (k_0 kvs k y) (storedH xs k b u):=by
 have e:(kvs.any fun kv=>decide (kv.1=k))=(atKey xs k).isSome:=by
  rw[h_y,(r.val k).isSome_eq,Option.isSome_map]
 unfold k_0 storedH
 rw[e]
 by_cases q:(atKey xs k).isSome=true
 ·rw[if_pos q,if_pos q];exact r.repl k ry
 ·rw[if_neg q,if_neg q];exact Paired.snoc r ⟨rfl,hb,ry⟩
theorem KT.keeps{H H':Hp}{kvs:List (List Key×V)}{xs:List (List Key×Addr×Value)}(r:KT H kvs xs)(ht:∀b ys,H b=some (.tup ys)->H' b=some (.tup ys)):KT H' kvs xs:=
 Paired.mapP r fun _ _ z=>⟨z.1,ht _ _ z.2.1,z.2.2⟩
section
variable{P:Program}{w:World}{H:Hp}{h:Heap}{a:Addr}
theorem u_g{u:HO}(ok:HOk P w H h)(e:Rd H a u):c_V P w H h a u:=e.ok ok
theorem x_D{kvs:List (Key×V)}(ok:HOk P w H h)(e:Rd H a (.dK kvs)):kvs.length<=sizeLine/\(a==sysModules)=false/\∃vs,KV kvs vs/\h.DictOf (c_6 P w) a vs:=
 show c_V P w H h a (.dK kvs) from u_g ok e
theorem w_Q{kvs:List (Key×V)}(ok:HOk P w H h)(e:H a=some (.dK kvs)):kvs.length<=sizeLine/\(a==sysModules)=false/\∃vs,KV kvs vs/\h.DictOf (c_6 P w) a vs:=x_D ok (.inl e)
theorem r_h{ks:List Key}(ok:HOk P w H h)(e:H a=some (.tup (ks.map kV))):(tupleKind (c_6 P w)).is h ks a:=by
 obtain⟨_,its,r,o,h1,h2,n,h3⟩:=(show c_V P w H h a (.tup (ks.map kV)) from ok a _ e)
 exact⟨o,its.toArray,n,h1,h2,h3,by simpa using k_J r⟩
theorem w_6{kvs:List (List Key×V)}(ok:HOk P w H h)(e:Rd H a (.dT kvs)):kvs.length<=sizeLine/\(a==sysModules)=false/\
  ∃xs,KT H kvs xs/\h.DictOfH (tupleKind (c_6 P w)) a xs:=by
 obtain⟨z,y,xs,r,o,es,ep,h1,h2,h3,h4,h5⟩:=(show c_V P w H h a (.dT kvs) from u_g ok e)
 refine⟨z,y,xs,r,o,es,ep,h1,h2,h3,h4,fun x hx=>?_,h5⟩
 have all:∀{l:List (List Key×V)}{m:List (List Key×Addr×Value)},KT H l m->∀x∈m,(tupleKind (c_6 P w)).is h x.1 x.2.1:=by
  intro l m q
  induction q with
  | nil=>intro x hx;exact nomatch hx
  | @cons p q ps qs hq t ih=>
   intro x hx
   rcases List.mem_cons.mp hx with e | hx
   ·subst e
    exact r_h ok (by rw[<-hq.1];exact hq.2.1)
   ·exact ih x hx
 exact all r x hx
theorem x_t{kvs:List (List Key×V)}(ok:HOk P w H h)(e:H a=some (.dT kvs)):kvs.length<=sizeLine/\(a==sysModules)=false/\
  ∃xs,KT H kvs xs/\h.DictOfH (tupleKind (c_6 P w)) a xs:=w_6 ok (.inl e)
end
noncomputable def s_7(H:Hp)(a:Addr)(y v:V)(H':Hp):Prop:=
 (∃kvs k,H a=some (.dK kvs)/\y=kV k/\kvs.length<sizeLine/\H' = upd H a (.dK (k_0 kvs k v)))\/
 ∃kvs k b,H a=some (.dT kvs)/\y=.ref b/\H b=some (.tup (k.map kV))/\kvs.length<sizeLine/\H' = upd H a (.dT (k_0 kvs k v))
theorem s_7.k{H:Hp}{a:Addr}{kvs:List (Key×V)}{k:Key}{v:V}(e:H a=some (.dK kvs))(hl:kvs.length<sizeLine):s_7 H a (kV k) v (upd H a (.dK (k_0 kvs k v))):=.inl ⟨kvs,k,e,rfl,hl,rfl⟩
theorem s_7.t{H:Hp}{a b:Addr}{kvs:List (List Key×V)}{k:List Key}{v:V}(e:H a=some (.dT kvs))(eb:H b=some (.tup (k.map kV)))(hl:kvs.length<sizeLine) :
  s_7 H a (.ref b) v (upd H a (.dT (k_0 kvs k v))):=.inr ⟨kvs,k,b,e,rfl,eb,hl,rfl⟩
section
variable{X:Cx}{pins:List (Addr×Obj)}{Y:St}{H:Hp}{s:Shared}{a:Addr}{y v:V}{u r:Value}{o:Option V}{A:Around}{E:Value->Shared->Prop}
theorem Inv.big(I:Inv X pins Y H s):sysModules<s.heap.objs.size:=by
 have h:mainGlobals<s.heap.objs.size:=(I.mod.glob.keeps I.bk).lt
 exact Nat.lt_trans (by decide) h
theorem o_l{h':Heap}{t':Nat}{ob:HO}(I:Inv X pins Y H s)(mu:Mut (H a))(hs:Heap.SameBut a s.heap h')(he:∃q,h'.get? a=some q)(new:c_V X.prog X.w (upd H a ob) h' a ob) :
  Inv X pins Y (upd H a ob) { s with heap:=h',toks:=t' }:=
 I.write (x:=a) (e:=a) mu (.inl rfl) (fun b q hb z=>(hs.2 b hb).trans z) he new
theorem u_4{P:Program}{w:World}{H':Hp}{h':Heap}{kvs:List (Key×V)}{vs:List (Key×Value)}(z:kvs.length<=sizeLine)(hd:(a==sysModules)=false)(rel:KV kvs vs)(dd:h'.DictOf (c_6 P w) a vs) :
  c_V P w H' h' a (.dK kvs):=⟨z,hd,vs,rel,dd⟩
theorem n_Z{H':Hp}{Q:Unit->Shared->Prop}(hu:A.units+1<cLine)(I:Inv X pins Y H s)(g:s_7 H a y v H')(ry:c_b y u)(rv:c_b v r)(h:∀s',Inv X pins Y H' s'->Q () s') :
  wpAny (model X.prog X.w) A (setItem (.ref a) u r) Q E s:=by
 rcases g with⟨kvs,k,e,ey,l,eH⟩ | ⟨kvs,k,b,e,ey,eb,l,eH⟩
 ·subst ey eH
  obtain⟨z,hd,vs,rel,dd⟩:=w_Q I.hok e
  have hz:vs.length<=sizeLine:=by rw[<-rel.length];exact z
  have hl:(k_0 kvs k v).length<=sizeLine:=by have:=i_j kvs k v;omega
  refine wpAny_setItem_pairs (hsz:=hz) (u_Q ry) dd fun h' dd' hs=>h _ ?_
  have he:∃q,h'.get? a=some q:=let⟨q,_,_,hq,_⟩:=dd';⟨q,hq⟩
  exact o_l I (by rw[e];exact True.intro) hs he (u_4 hl hd (rel.put k rv) dd')
 ·subst ey eH
  cases(show u=Value.ref b from ry)
  obtain⟨z,hd,xs,rel,dd⟩:=x_t I.hok e
  have hz:xs.length<=sizeLine:=by rw[<-Paired.length rel];exact z
  have hl:(k_0 kvs k v).length<=sizeLine:=by have:=i_j kvs k v;omega
  refine wpAny_setItem_heap (hsz:=hz) (tupleKind_room_in1 hu) (r_h I.hok eb) dd fun h' dd' hs=>h _ ?_
  obtain⟨q,es,ep,hq,h2,h3,h4,_,h5⟩:=dd'
  refine o_l I (by rw[e];exact True.intro) hs ⟨q,hq⟩ ⟨hl,hd,_,(rel.put k eb rv).keeps fun c ys ec=>?_,q,es,ep,hq,h2,h3,h4,h5⟩
  rw[a_u (w_2 ec e (fun z=>nomatch z))]
  exact ec
end
noncomputable def y_L(i:Expr):Prop:=∀ov iv,subscripted i false ov iv=operate [ov,iv] (getItem ov iv)
theorem s_c{prog:Program}{w:World}{A:Around}{E:Value->Shared->Prop}{s:Shared}{env:Env}{value slice:Expr}{pos:Pos}{T id:String}{Q:Value->Shared->Prop}
  (hl:typeLookup (.type T) "__getitem__" = pure (some (.builtin id))) (hs:y_L slice)
  (h:wpAny (model prog w) A (eval value env) (fun o s₁=>wpAny (model prog w) A (eval slice env) (fun i s₂=>s₂.TypeIs o T/\wpAny (model prog w) A (getItem o i) Q E s₂) E s₁) E s) :
  wpAny (model prog w) A (eval (.Subscript value slice pos) env) Q E s:=by
 refine Subscript_ (wpAny_mono h (fun o s₁ h₁=>wpAny_mono h₁ (fun i s₂ h₂=>?_) fun _ _ x=>x) fun _ _ x=>x)
 obtain⟨hT,h₂⟩:=h₂
 unfold subscriptTail
 refine Qaa ?_
 rw[getitemInPython_of_ne hT.not_modules]
 refine Qaa (wpAny_specialOf hT hl ?_)
 have fin:wpAny (model prog w) A (subscripted slice false o i) (fun r s₃=>wpAny (model prog w) A (letTemporaryGo value o r >>= fun _=>pure r) Q E s₃) E s₂:=by
  rw[hs o i]
  exact wpAny_operating (wpAny_mono h₂ (fun r s₃ h₃=>Qaa (wpAny_letTemporaryGo (Qab h₃))) fun _ _ x=>x)
 first
  | exact Qab (Qaa fin)
  | exact Qaa (Qab (Qaa fin))
  | exact Qaa fin
noncomputable def w_V(td ty tv:TE):TS:=fun D Y H=>tv Y H fun v H1=>td Y H1 fun x H2=>ty Y H2 fun y H3=>∃a H4,x=.ref a/\s_7 H3 a y v H4/\D.nx Y H4
section
variable{X:Cx}{o i e value:Expr}{pos pos' tpos:Pos}{td ty tv:TE}
theorem r_4(hu:X.A.units+1<cLine)(ho:PE X o td)(hi:PE X i ty)(hv:PE X value tv)(hs:swapsWith value (some (.Subscript o i pos')) pos.line X.env=pure false) :
  PS X (.Assign [.Subscript o i pos'] value pos) (w_V td ty tv):=by
 intro pins s Y H D I h
 refine wpAny_Assign_Subscript (thn (hv pins s Y H _ I h) fun r s1 ⟨v,H1,I1,rv,q1⟩=>thn (ho pins s1 Y H1 _ I1 q1) fun u s2 ⟨x,H2,I2,rx,q2⟩=>thn (hi pins s2 Y H2 _ I2 q2) fun iv s3 ⟨y,H3,I3,ry,a,H4,ex,g,q3⟩=>?_) hs
 subst ex
 obtain rfl:u=Value.ref a:=rx
 exact n_Z hu I3 g ry rv fun s4 I4=>⟨Y,H4,I4,q3⟩
end
theorem q_G{P:Program}{w:World}{H:Hp}(h:Heap)(hb:sysModules<h.objs.size):c_V P w H (h.push { cls:=.type "dict",data:=.dict #[] }) h.objs.size (.dT []):=
 ⟨Nat.zero_le _,beq_eq_false_iff_ne.mpr (Ne.symm (Nat.ne_of_lt hb)),[],.nil,_,#[],0,Heap.get?_push_size _ rfl,⟨rfl,rfl,rfl⟩,rfl,rfl,List.nodup_nil⟩
noncomputable def w_e:TE:=fun _ H Q=>∀p,H p=none->Q (.ref p) (upd H p (.dT []))
section
variable{X:Cx}{pos:Pos}
theorem p_P:PE X (.Dict [] [] pos) w_e:=fun pins s Y H Q I h=>
 wpAny_Dict_empty ⟨.ref s.heap.objs.size,_,I.laid (a:=s.heap.objs.size) (o:=.dT []) (t':=s.toks) (fun _ _ q=>Qac _ q) (Qae _) (q_G s.heap I.big),rfl,h _ (I.hok.fresh (Qae _))⟩
end
noncomputable def g_A(env:Env):List (Str×NameKind)->List (Str×Addr)->List (Str×Addr)
 | [],acc=>acc
 | (n,k)::r,acc=>if k==.free then g_A env r ((n,(env.cells.lookup n).getD 0)::acc) else g_A env r acc
theorem h_g(env:Env):∀(names:List (Str×NameKind)) (acc:List (Str×Addr)),(∀y∈names,y.2=.free->(env.cells.lookup y.1).isSome=true)->
  (forIn names acc fun(x:Str×NameKind) (cs:List (Str×Addr))=>if (x.2==NameKind.free)=true then(do let c <-cellOf env x.1;pure (ForInStep.yield ((x.1,c)::cs))) else(pure (ForInStep.yield cs):Sem (ForInStep (List (Str×Addr)))))=pure (g_A env names acc)
 | [],acc,_=>rfl
 | (n,k)::r,acc,h=>by
  have ih:=fun a=>h_g env r a fun y hy=>h y (Qak _ hy)
  rw[List.forIn_cons]
  unfold g_A
  by_cases hk:(k==NameKind.free)=true
  ·obtain⟨c,hc⟩:=Option.isSome_iff_exists.mp (h (n,k) List.mem_cons_self (by simpa using hk))
   simp only[hk,if_true]
   have:cellOf env n=pure c:=by unfold cellOf;rw[hc]
   rw[this,hc]
   exact ih _
  ·simp only[hk]
   exact ih _
theorem e_6{scope:Scope}{env:Env}(h:∀y∈scope.names,y.2=.free->(env.cells.lookup y.1).isSome=true):closureFor scope env=pure (g_A env scope.names []):=by
 have e:=h_g env scope.names [] h
 unfold closureFor
 exact congrArg (fun m=>m >>= pure) e
theorem g_U{env:Env}{x:Str}:∀{names:List (Str×NameKind)}{acc:List (Str×Addr)}{c:Addr},(∀y∈names,y.2=.free->(env.cells.lookup y.1).isSome=true)->
  (∀c,acc.lookup x=some c->env.cells.lookup x=some c)->(g_A env names acc).lookup x=some c->env.cells.lookup x=some c
 | [],_,_,_,ha,h=>ha _ h
 | (n,k)::r,acc,c,hn,ha,h=>by
  unfold g_A at h
  by_cases hk:(k==NameKind.free)=true
  ·rw[if_pos hk] at h
   refine g_U (fun y hy=>hn y (Qak _ hy)) (fun c' e=>?_) h
   rw[List.lookup_cons] at e
   cases hx:x==n with
   | true=>
    rw[hx] at e
    have:x=n:=by simpa using hx
    subst this
    obtain⟨d,hd⟩:=Option.isSome_iff_exists.mp (hn (x,k) List.mem_cons_self (by simpa using hk))
    rw[hd] at e ⊢
    exact e
   | false=>
    rw[hx] at e
    exact ha _ e
  ·rw[if_neg hk] at h
   exact g_U (fun y hy=>hn y (Qak _ hy)) ha h
theorem g_p{env:Env}{x:Str}:∀{names:List (Str×NameKind)}{acc:List (Str×Addr)},((x,NameKind.free)∈names\/(acc.lookup x).isSome=true)->((g_A env names acc).lookup x).isSome=true
 | [],_,h=>by rcases h with h | h;cases h;exact h
 | (n,k)::r,acc,h=>by
  unfold g_A
  by_cases hk:(k==NameKind.free)=true
  ·rw[if_pos hk]
   refine g_p ?_
   rw[List.lookup_cons]
   cases hx:x==n with
   | true=>exact .inr rfl
   | false=>
    rcases h with h | h
    ·rcases List.mem_cons.mp h with e | h
     ·cases e;simp at hx
     ·exact .inl h
    ·exact .inr h
  ·rw[if_neg hk]
   refine g_p ?_
   rcases h with h | h
   ·rcases List.mem_cons.mp h with e | h
    ·cases e;simp at hk
    ·exact .inl h
   ·exact .inr h
noncomputable abbrev rlab(env:Env):Str×NameKind->Str×NameKind:=fun(n,k)=>if (k==NameKind.free&&env.scope.kind==.function&&env.kindOf n==some .cell) then(n,NameKind.cell) else(n,k)
theorem g_V{env:Env}:∀{names:List (Str×NameKind)}{x:Str}{k:NameKind},names.lookup x=some k->
  (names.map (rlab env)).lookup x=some k\/(k=.free/\(names.map (rlab env)).lookup x=some .cell)
 | [],_,_,h=>by simp at h
 | (n,k)::r,x,k',h=>by
  have ih:=@g_V env r x k'
  rw[List.map_cons]
  have e:rlab env (n,k)=(n,k)\/(k=.free/\rlab env (n,k)=(n,.cell)):=by
   by_cases hc:(k==NameKind.free&&env.scope.kind==.function&&env.kindOf n==some .cell)=true
   ·refine .inr ⟨?_,if_pos hc⟩
    cases k<;>first | rfl | (simp at hc)
   ·exact .inl (if_neg hc)
  cases hx:x==n with
  | true=>
   simp only[List.lookup_cons,hx] at h
   cases h
   rcases e with e | ⟨e1,e⟩
   ·rw[e];exact .inl (by simp only[List.lookup_cons,hx])
   ·rw[e];exact .inr ⟨e1,by simp only[List.lookup_cons,hx]⟩
  | false=>
   simp only[List.lookup_cons,hx] at h
   rcases e with e | ⟨e1,e⟩<;>(rw[e];simp only[List.lookup_cons,hx];exact ih h)
theorem g_9{env:Env}:∀{names:List (Str×NameKind)}{x:Str},names.lookup x=none->(names.map (rlab env)).lookup x=none
 | [],_,_=>rfl
 | (n,k)::r,x,h=>by
  have ih:=@g_9 env r x
  rw[List.map_cons]
  have e:rlab env (n,k)=(n,k)\/rlab env (n,k)=(n,.cell):=by
   by_cases hc:(k==NameKind.free&&env.scope.kind==.function&&env.kindOf n==some .cell)=true
   ·exact .inr (if_pos hc)
   ·exact .inl (if_neg hc)
  cases hx:x==n with
  | true=>simp only[List.lookup_cons,hx] at h;cases h
  | false=>
   simp only[List.lookup_cons,hx] at h
   rcases e with e | e<;>(rw[e];simp only[List.lookup_cons,hx];exact ih h)
section
variable{prog:Program}{w:World}{A:Around}{E:Value->Shared->Prop}{R:Result->Shared->Prop}{s:Shared}
theorem k_P{elt target iter:Expr}{ifs:List Expr}{scope:Scope}{pos:Pos}{it acc:Value}{env:Env}(I:Nat->Shared->Prop)
  (turn:∀n s,I n s->wpAny (model prog w) A (pyNext it) (fun r s₁=>match r with
   | none=>R (.ok .next) s₁
   | some v=>wpAny (model prog w) A (letOwnedTupleGo target it v) (fun _ s₁'=>wpAny (model prog w) A (assign target env v) (fun _ s₂=>
     wpAny (model prog w) A (forIn ifs true fun c r=>if r=true then do let ok <-isTrue c env (eval c env);pure (ForInStep.yield ok) else pure (ForInStep.yield r)) (fun ok s₃=>
      if ok=true then wpAny (model prog w) A (eval elt env) (fun x s₄=>
       wpAny (model prog w) A (call (.builtin "list.append") [acc,x]) (fun _ s₅=>∃m,m<n/\I m s₅) (fun _ _=>False) s₄) (fun _ _=>False) s₃
      else ∃m,m<n/\I m s₃) (fun _ _=>False) s₂) (fun _ _=>False) s₁') (fun _ _=>False) s₁) (fun _ _=>False) s)
  (n:Nat) (h:I n s) :
  codeAny (model prog w) A (.compLoop (.ListComp elt [⟨target,iter,ifs,0⟩] scope pos) 0 it acc env) R s:=by
 refine codeAny_loop rfl I (fun n s hI=>?_) n h
 show wpAny _ A ((compTurn (.ListComp elt [⟨target,iter,ifs,0⟩] scope pos) 0 it acc env).onRaise (fun x=>do noteFrame x env;theTreesLotGoes x)) _ _ s
 refine wpAny_noted (wpAny_noRaise ?_)
 rw[compTurn_list]
 refine Qaa (wpAny_standAt (Qaa (wpAny_mono (turn n s hI) (fun r s₁ h₁=>?_) fun _ _ h'=>h')))
 cases r with
 | none=>exact Qab h₁
 | some v=>
  refine Qaa (wpAny_mono h₁ (fun _ s₁' h₁'=>?_) fun _ _ h'=>h')
  refine Qaa (wpAny_mono h₁' (fun _ s₂ h₂=>Qaa (wpAny_mono h₂ (fun ok s₃ h₃=>?_) fun _ _ h'=>h')) fun _ _ h'=>h')
  cases ok with
  | false=>exact Qab ⟨rfl,h₃⟩
  | true=>
   exact Qaa (Qaa (wpAny_mono h₃ (fun x s₄ h₄=>Qaa (wpAny_mono h₄ (fun _ s₅ h₅=>Qab (Qab ⟨rfl,h₅⟩)) fun _ _ h'=>h')) fun _ _ h'=>h'))
end
noncomputable abbrev a_G(X:Cx)(scope:Scope)(N':List Str)(C:Addr)(fp:List Addr)(s₂:Shared)(H₂:Hp)(pl:List (Addr×Obj)):Cx where
 prog:=X.prog
 w:=X.w
 K:=X.K
 mg:=X.mg
 base:=X.base
 A:=X.A
 N:=N'
 s₀:=s₂
 H₀:=H₂
 env:=compEnvC scope (g_A X.env scope.names []) C X.env
 outer:=X.stack
 stack:=X.stack
 ex:=fp
 fn:=fun _=>false
 calm:=X.calm
 pn:=X.pn++pl
 xe:=fun _ _=>False
structure CompScope (X:Cx) (scope:Scope) (own capN:List Str) (caps:List Nat):Prop where
 kind:scope.kind=.function
 nocell:∀y∈scope.names,y.2≠.cell
 free:∀y∈scope.names,y.2=.free->X.env.kindOf y.1=some .cell\/X.env.kindOf y.1=some .free
 loc:∀y∈scope.names,y.2=.local->scope.names.lookup y.1=some .local
 caps:caps.map (fun j=>X.N[j]?)=capN.map some
 capf:∀x∈capN,scope.names.lookup x=some .free
noncomputable def e_F(own:List Str)(caps:List Nat)(Y:St):St:=own.map (fun _=>none)++caps.map (fun j=>(Y[j]?).getD none)
section
variable{X:Cx}{scope:Scope}{own capN:List Str}{caps:List Nat}
theorem CompScope.cells(S:CompScope X scope own capN caps)(ok:X.Ok):∀y∈scope.names,y.2=.free->(X.env.cells.lookup y.1).isSome=true:=fun y hy hf=>by
 obtain⟨c,hc⟩:=ok.has y.1 (S.free y hy hf)
 rw[hc];rfl
theorem CompScope.cl(S:CompScope X scope own capN caps)(ok:X.Ok){x:Str}{c:Addr}(h:(g_A X.env scope.names []).lookup x=some c):X.env.cells.lookup x=some c:=
 g_U (S.cells ok) (fun _ e=>by simp at e) h
theorem p_K{pins:List (Addr×Obj)}{Y:St}{H₂:Hp}{s₂:Shared}{h₁:Heap}{C:Addr}{fp:List Addr}{tk:Nat}{m:Str->Option Value}(S:CompScope X scope own capN caps)(I:Inv X pins Y H₂ s₂)
  (hf:∀b∈fp,n_q X pins H₂ b) (hfo:∀b∈fp,b<s₂.heap.objs.size) (hC:s₂.heap.objs.size<=C) (hk:∀b o,s₂.heap.get? b=some o->h₁.get? b=some o) (hn:h₁.Ns C m) :
  Inv (a_G X scope (own++capN) C fp s₂ H₂ pins) [] (e_F own caps Y) H₂ { s₂ with heap:=h₁,toks:=tk }:=by
 have cl:=fun {x:Str}{c:Addr}=>S.cl (x:=x) (c:=c) I.ok
 have kindRel:∀x,((relabel scope X.env).names.lookup x=some .cell\/(relabel scope X.env).names.lookup x=some .free)->scope.names.lookup x=some .free:=fun x hx=>by
  cases e:scope.names.lookup x with
  | none=>
   have z:(relabel scope X.env).names.lookup x=none:=g_9 (env:=X.env) e
   rw[z] at hx
   rcases hx with q | q<;>cases q
  | some k=>
   rcases g_V (env:=X.env) e with z | ⟨z,_⟩
   ·have z':(relabel scope X.env).names.lookup x=some k:=z
    rw[z'] at hx
    rcases hx with q | q
    ·cases q;exact absurd rfl (S.nocell _ (PySem.mem_of_lookup e))
    ·cases q;rfl
   ·rw[z]
 have stk:∀b,b≠X.env.locals->b∉X.fs->b∉frs X.stack:=fun b h1 h2 z=>(List.mem_cons.mp (I.stkSub b z)).elim h1 h2
 refine⟨⟨I.ok.mod,S.kind,I.ok.glob,I.ok.blt,hC,fun x y c h1 h2=>I.ok.inj x y c (cl h1) (cl h2),fun x hx=>?_,fun x c h _=>(by cases h),I.ok.hd,I.ok.frames,.inl rfl,fun b hb=>⟨?_,fun x c h=>(hf b hb).2.2.2.2.1 x c (cl h)⟩,
   I.bs,Nat.le_trans I.ok.bsz I.sz,fun b o e hb=>?_,fun b hb=>stk b (hf b hb).2.1 (hf b hb).2.2.1,I.stack,I.stkFree⟩,
  rfl,I.bare,Un.kept hk,⟨m,hn,fun i x v h1 h2 h3=>?_⟩,fun x c h=>?_,I.hok.fresh hC,fun x c h=>I.freeC x c (cl h),fun p hp=>?_,I.hok.kept hk,?_⟩
 ·have q:=kindRel x hx
  exact Option.isSome_iff_exists.mp (g_p (env:=X.env) (.inl (PySem.mem_of_lookup q)))
 ·exact Nat.ne_of_lt (Nat.lt_of_lt_of_le (hfo b hb) hC)
 ·rcases(hf b hb).2.2.2.1 with z | z
  ·exact I.ok.noex b o e z
  ·exact absurd (Nat.lt_of_lt_of_le (Qad (I.ok.bs b o e).1) z) (Nat.lt_irrefl _)
 ·
  have hi:own.length<=i:=by
   refine Nat.le_of_not_lt fun hlt=>?_
   unfold e_F at h2
   rw[List.getElem?_append_left (by simpa using hlt),List.getElem?_map] at h2
   cases q:own[i]? with
   | none=>rw[q] at h2;cases h2
   | some y=>rw[q] at h2;cases h2
  have h1':capN[i - own.length]? = some x:=by
   have:(own++capN)[i]? = some x:=h1
   rwa [List.getElem?_append_right hi] at this
  have h2':(caps.map (fun j=>(Y[j]?).getD none))[i - own.length]? = some (some v):=by
   unfold e_F at h2
   rwa [List.getElem?_append_right (by simpa using hi),List.length_map] at h2
  rw[List.getElem?_map] at h2'
  obtain⟨j,hj,hj2⟩:=Option.map_eq_some_iff.mp h2'
  have hX:X.N[j]? = some x:=by
   have q:=congrArg (fun l=>l[i - own.length]?) S.caps
   simp only[List.getElem?_map,hj,h1',Option.map_some] at q
   exact Option.some.inj q
  have hY:Y[j]? = some (some v):=by
   cases q:Y[j]? with
   | none=>rw[q] at hj2;cases hj2
   | some z=>rw[q] at hj2;simp at hj2;rw[hj2]
  have hfr:=S.capf x (List.mem_of_getElem? h1')
  have hmem:(x,NameKind.free)∈scope.names:=PySem.mem_of_lookup hfr
  have hkX:=S.free _ hmem rfl
  obtain⟨m',hm',hl⟩:=I.loc
  obtain⟨u,ru,l⟩:=hl j x v hX hY (hkX.elim (fun q=>.inr (.inl q)) fun q=>.inr (.inr q))
  refine⟨u,ru,.inr ⟨?_,?_⟩⟩
  ·rcases g_V (env:=X.env) hfr with z | ⟨_,z⟩
   ·exact .inr z
   ·exact .inl z
  ·rcases l with⟨l,_⟩ | ⟨_,c,hc,hcell⟩
   ·have l':X.env.kindOf x=some .local:=l
    rcases hkX with q | q<;>(rw[l'] at q;cases q)
   ·obtain⟨c',hc'⟩:=Option.isSome_iff_exists.mp (g_p (env:=X.env) (acc:=[]) (.inl hmem))
    have:=cl hc'
    rw[hc] at this
    cases this
    obtain⟨o,ho,hd⟩:=hcell
    exact⟨c,hc',o,hk c o ho,hd⟩
 ·obtain⟨v,o,ho,hd⟩:=I.cell x c (cl h)
  exact⟨v,o,hk c o ho,hd⟩
 ·have hp':p∈X.pn++pins:=by simpa using hp
  obtain⟨e,n,ne,nf,d⟩:=I.pin p hp'
  exact⟨hk _ _ e,n,Nat.ne_of_lt (Nat.lt_of_lt_of_le (Qad e) hC),stk p.1 ne nf,d⟩
 ·unfold e_F
  have hl:=congrArg List.length S.caps
  simp only[List.length_map] at hl
  show(own.map (fun _=>(none:Option V))++caps.map (fun j=>(Y[j]?).getD none)).length=(own++capN).length
  rw[List.length_append,List.length_append,List.length_map,List.length_map,hl]
end
noncomputable def PTs(X:Cx)(ifs:List Expr)(t:TT):Prop:=
 ∀(pins:List (Addr×Obj)) (s:Shared) (Y:St) (H:Hp) (Q:Bool->Hp->Prop),Inv X pins Y H s->t Y H Q->
  wpAny (model X.prog X.w) X.A (forIn ifs true fun c r=>if r=true then do let ok <-isTrue c X.env (eval c X.env);pure (ForInStep.yield ok) else pure (ForInStep.yield r)) (TP X pins Y Q) X.xe s
noncomputable def z_v:TT:=fun _ H Q=>Q true H
theorem r_u{X:Cx}:PTs X [] z_v:=fun _ _ _ H _ I h=>wpAny_tests_nil ⟨H,I,h⟩
theorem s_Z{X:Cx}{c:Expr}{t:TT}(h:PT X c t):PTs X [c] t:=fun pins s Y H Q I q=>wpAny_tests_one (h pins s Y H Q I q)
noncomputable def l_h(own:List Str)(caps:List Nat)(wi:TI)(g:TG)(tc:TT)(te:TE):TE:=fun Y H Q=>wi Y H fun J H1=>∃W:Nat->Nat->List V->St->Hp->Prop,(∃m,W 0 m [] (e_F own caps Y) H1)/\∀i m ys Y' H,W i m ys Y' H->
 (J.stop i H/\ys.length<=sizeLine/\∀p,H p=none->Q (.ref p) (upd H p (.lst ys)))\/
 (J.go i H/\∀x H',J.yld i H x H'->g x Y' H' fun Y2 H2=>tc Y2 H2 fun b H3=>if b=true then te Y2 H3 fun y H4=>ys.length<sizeLine/\∃m',m'<m/\W (i+1) m' (ys++[y]) Y2 H4 else ∃m',m'<m/\W (i+1) m' ys Y2 H3)
section
variable{X:Cx}{scope:Scope}{own capN:List Str}{caps:List Nat}{tg iter elt:Expr}{ifs:List Expr}{wi:TI}{g:TG}{tc:TT}{te:TE}{pos:Pos}
theorem k_v{pins:List (Addr×Obj)}{Y:St}{H:Hp}{s:Shared}{Q:VK}{RR:Value->Addr->Result->Shared->Prop}(S:CompScope X scope own capN caps)(hc:X.calm=true)(hi:PI X tg iter wi)
  (hin:∀C fp s₂ H₂ pl,PG (a_G X scope (own++capN) C fp s₂ H₂ pl) tg g/\PTs (a_G X scope (own++capN) C fp s₂ H₂ pl) ifs tc/\PE (a_G X scope (own++capN) C fp s₂ H₂ pl) elt te)
  (I:Inv X pins Y H s) (h:l_h own caps wi g tc te Y H Q)
  (hRR:∀(D C:Addr) (s':Shared) (H':Hp) (m:Str->Option Value),Inv X pins Y H' s'->n_q X pins H' C->s'.heap.Ns C m->Q (.ref D) H'->RR (.ref D) C (.ok .next) s') :
  wpAny (model X.prog X.w) X.A (eval iter X.env) (fun x s₁=>wpAny (model X.prog X.w) X.A (pyIter x) (fun it s₂=>wpAny (model X.prog X.w) X.A (newList []) (fun acc s₃=>
   wpAny (model X.prog X.w) X.A (newFunctionEnv scope X.env.globals (g_A X.env scope.names []) [] X.env.qual none .none (some X.env)) (fun cenv s₄=>
    codeAny (model X.prog X.w) X.A (.compStart (.ListComp elt [⟨tg,iter,ifs,0⟩] scope pos) 0 it acc { cenv with scope:=relabel scope X.env }) (RR acc cenv.locals) s₄) X.xe s₃) X.xe s₂) X.xe s₁) X.xe s:=by
 refine thn (hi pins s Y H _ I h) fun v s1 h1=>thn h1 fun itv s2 h2=>?_
 obtain⟨it,fp,tn,J,H2,e,I2,T,st2,f2,W,⟨m0,w0⟩,turn⟩:=h2
 subst e
 have hfo:∀b∈fp,b<s2.heap.objs.size:=fun b hb=>by obtain⟨o,e,_⟩:=T.obj _ _ st2 b hb;exact Qad e
 refine wpAny_newObj_type (wpAny_newFunctionEnv S.nocell (by intro y hy;simp at hy) (fun h₁ hns₁ hsb₁=>?_) S.kind)
 dsimp only at hns₁ hsb₁ ⊢
 generalize hH2:s2.heap.push { cls:=.type "list",dict:=none,data:=.seq ([]:List Value).toArray }=HH at hns₁ hsb₁ ⊢
 have hC:HH.objs.size=s2.heap.objs.size+1:=by rw[<-hH2,Heap.size_push]
 have hCle:s2.heap.objs.size<=HH.objs.size:=by rw[hC];exact Nat.le_succ _
 have hDC:s2.heap.objs.size≠HH.objs.size:=by rw[hC];exact Nat.ne_of_lt (Nat.lt_succ_self _)
 have below:∀b,b<s2.heap.objs.size->b≠HH.objs.size:=fun b hb=>by rw[hC];exact Nat.ne_of_lt (Nat.lt_succ_of_lt hb)
 have old:∀b o,s2.heap.get? b=some o->h₁.get? b=some o:=fun b o e=>hsb₁.extBut b o (below b (Qad e)) (Qac _ (hH2▸Qac _ e))
 have hacc:h₁.get? s2.heap.objs.size=some { cls:=.type "list",dict:=none,data:=.seq ([]:List Value).toArray }:=hsb₁.extBut _ _ hDC (Qac _ (hH2▸Heap.get?_push_size _ rfl))
 generalize hCe:HH.objs.size=C at hns₁ hDC hCle below ⊢
 generalize hDe:s2.heap.objs.size=D at hacc hDC ⊢
 clear hsb₁ hH2 hC hCe HH
 obtain⟨hg,ht,he⟩:=hin C fp s2 H2 pins
 have Ic:Inv (a_G X scope (own++capN) C fp s2 H2 pins) [] (e_F own caps Y) H2 { s2 with heap:=h₁,toks:=s2.toks+([]:List (Str×Value)).length }:=p_K S I2 f2 hfo (by rw[hDe];rw[hDe] at hCle;exact hCle) old hns₁
 have cellsD:∀x c,(g_A X.env scope.names []).lookup x=some c->c≠D:=fun x c e z=>by
  obtain⟨v,q⟩:=I2.cell x c (S.cl I2.ok e)
  exact absurd q.lt (by rw[z,hDe];exact Nat.lt_irrefl _)
 have DnotFs:D∉frs X.stack:=fun z=>by
  rcases List.mem_cons.mp (I2.stkSub D z) with q | q
  ·exact absurd I2.lt (by rw[<-q,hDe];exact Nat.lt_irrefl _)
  ·exact I2.nofs (by rw[hDe];exact Qae _) q
 have DnotPin:∀p∈X.pn++pins,p.1≠D:=fun p hp z=>absurd (Qad (I2.pin p hp).1) (by rw[z,hDe];exact Nat.lt_irrefl _)
 have pinD:∀{Y':St}{H':Hp}{s':Shared}{us:List Value}{k:Nat},Inv (a_G X scope (own++capN) C fp s2 H2 pins) [] Y' H' s'->s'.heap.get? D=some { cls:=.type "list",data:=.seq us.toArray k }->H' D=none->
   Inv (a_G X scope (own++capN) C fp s2 H2 pins) [(D,{ cls:=.type "list",data:=.seq us.toArray k })] Y' H' s':=fun J e n=>J.pins_of fun p hp=>by
  obtain rfl:=List.mem_singleton.mp hp
  exact⟨e,n,hDC,DnotFs,fun v z=>by cases z⟩
 have fpc:∀{H':Hp}{o:Obj},(∀b∈fp,H' b=none)->∀b∈fp,n_q (a_G X scope (own++capN) C fp s2 H2 pins) [(D,o)] H' b:=fun hn b hb=>by
  obtain⟨f0,f1,f2',f3,f4,f5⟩:=f2 b hb
  refine⟨hn b hb,Nat.ne_of_lt (Nat.lt_of_lt_of_le (hfo b hb) (by rw[hDe];rw[hDe] at hCle;exact hCle)),fun z=>(List.mem_cons.mp (I2.stkSub b z)).elim f1 f2',.inl hb,fun x c e=>f4 x c (S.cl I2.ok e),fun p hp=>?_⟩
  rcases List.mem_append.mp hp with hp | hp
  ·exact f5 p hp
  ·obtain rfl:=List.mem_singleton.mp hp
   intro z
   have z':D=b:=z
   exact absurd (hfo b hb) (by rw[<-z',hDe];exact Nat.lt_irrefl _)
 have loop:codeAny (model X.prog X.w) X.A (.compLoop (.ListComp elt [⟨tg,iter,ifs,0⟩] scope pos) 0 (.ref it) (.ref D) (compEnvC scope (g_A X.env scope.names []) C X.env)) (RR (.ref D) C) { s2 with heap:=h₁,toks:=s2.toks+([]:List (Str×Value)).length }:=by
  refine k_P (fun n s'=>∃i ys us k Y' H',Inv (a_G X scope (own++capN) C fp s2 H2 pins) [(D,{ cls:=.type "list",data:=.seq us.toArray k })] Y' H' s'/\tn i s'.heap/\(∀b∈fp,H' b=none)/\b_M ys us/\W i n ys Y' H') ?_ m0
   ⟨0,[],[],0,_,H2,pinD Ic hacc (I2.hok.fresh (by rw[hDe];exact Qae _)),T.keep _ _ _ st2 fun b _ o e=>old b o e,fun b hb=>(f2 b hb).1,.nil,w0⟩
  rintro n s3 ⟨i,ys,us,k,Y3,H3,I3,st3,fr3,r3,w3⟩
  rcases turn i n ys Y3 H3 w3 with⟨stop,hz,qn⟩ | ⟨go,step⟩
  ·refine thn (T.done (a_G X scope (own++capN) C fp s2 H2 pins) rfl rfl rfl hc i _ s3 Y3 H3 _ I3 (fpc fr3) st3 stop) fun r s4 ⟨hr,I4⟩=>?_
   subst hr
   obtain⟨eD,nD,_⟩:=I4.pin (D,_) (Qai _ (List.mem_singleton.mpr rfl))
   have nD':H3 D=none:=nD
   have I5:Inv X pins Y (upd H3 D (.lst ys)) s4:=by
    refine I2.call' (ch:=fp) I4.os ⟨I4.base.keep,I4.base.slot,fun b o e n hx=>?_,I4.base.there,fun b xs e=>?_,fun b o u e=>?_,fun b ps e=>?_⟩ (fun b u e=>?_) I4.bare fun b hb=>⟨(f2 b hb).2.2.2.1,(f2 b hb).2.1,(f2 b hb).2.2.2.2.1,(f2 b hb).2.2.2.2.2⟩
    ·rw[a_u (by intro z;exact absurd (Qad e) (by rw[z,hDe];exact Nat.lt_irrefl _))]
     exact I4.base.free b o e n hx
    ·have q:=I4.base.tups b xs e
     rw[a_u (b_h q nD')];exact q
    ·have q:=I4.base.frzs b o u e
     rw[a_u (b_h q nD')];exact q
    ·obtain⟨more,q⟩:=I4.base.tbls b ps e
     exact⟨more,by rw[a_u (b_h q nD')];exact q⟩
    ·by_cases hb:b=D
     ·subst hb
      rw[a_A] at e;cases e
      exact⟨hz,us,k,r3,eD⟩
     ·rw[a_u hb] at e
      exact(I4.hok b u e).stay (fun _ _ _ q=>q) (fun c q=>by rw[a_u (b_h q nD')];exact q) fun c xs q=>by rw[a_u (b_h q nD')];exact q
   obtain⟨m,hm,_⟩:=I4.loc
   exact hRR D C s4 _ m I5 (I2.fpOk (by rw[hDe];rw[hDe] at hCle;exact hCle) (by rw[a_u (Ne.symm hDC)];exact I4.free)) hm (qn D nD')
  ·refine thn (T.item (a_G X scope (own++capN) C fp s2 H2 pins) rfl rfl rfl hc i _ s3 Y3 H3 _ I3 (fpc fr3) st3 go) fun r s4 ⟨u,hr,h4⟩=>?_
   subst hr
   refine thn h4 fun _ s5 ⟨x,H5,I5,r5,y5,st5,fr5⟩=>?_
   have I5':=I5.pinned (fpc fr5) (T.obj _ _ st5)
   refine thn (hg _ s5 Y3 H5 x u _ I5' r5 (step x H5 y5)) fun _ s6 ⟨Y6,H6,I6,q6⟩=>?_
   refine thn (ht _ s6 Y6 H6 _ I6 q6) fun ok s7 ⟨H7,I7,q7⟩=>?_
   have back:∀{Y8:St}{H8:Hp}{s8:Shared},Inv (a_G X scope (own++capN) C fp s2 H2 pins) ([(D,{ cls:=.type "list",data:=.seq us.toArray k })]++k_l fp s5.heap) Y8 H8 s8->tn (i+1) s8.heap/\(∀b∈fp,H8 b=none):=fun {Y8 H8 s8} I8=>by
    refine⟨T.keep _ _ _ st5 fun b hb o e=>(I8.pin (b,o) (Qai _ (Qai _ (f_H hb e)))).1,fun b hb=>?_⟩
    obtain⟨o,e,d⟩:=T.obj _ _ st5 b hb
    exact(I8.pin (b,o) (Qai _ (Qai _ (f_H hb e)))).2.1
   cases ok with
   | false=>
    obtain⟨m',hm,w7⟩:=q7
    obtain⟨t7,n7⟩:=back I7
    exact⟨m',hm,i+1,ys,us,k,Y6,H7,I7.unpinned,t7,n7,r3,w7⟩
   | true=>
    refine thn (he _ s7 Y6 H7 _ I7 q7) fun u8 s8 ⟨y,H8,I8,r8,hz,m',hm,w8⟩=>?_
    obtain⟨t8,n8⟩:=back I8
    have I9:=I8.unpinned
    obtain⟨eD,nD,neD,nfD,_⟩:=I9.pin (D,_) (Qai _ (List.mem_singleton.mpr rfl))
    have hl:=r3.length
    refine call_meets F.slot_list_append ⟨_,eD,rfl⟩ F.entry_list_append (F.args_list_append_2 _ _) (PySem.list_append D us.toArray k u8 (by rw[List.size_toArray];omega)) ⟨eD,?_⟩
    have q:=PySem.IsL.update eD (fun a=>a.push u8)
    have e2:us.toArray.push u8=(us++[u8]).toArray:=by simp
    rw[e2] at q
    have keep:∀b o,b≠D->s8.heap.get? b=some o->(s8.heap.update D (Obj.mapSeq fun a=>a.push u8)).get? b=some o:=fun b o hb e=>(Heap.get?_update_other s8.heap _ (Ne.symm hb)).trans e
    have I10:Inv (a_G X scope (own++capN) C fp s2 H2 pins) [] Y6 H8 { s8 with heap:=s8.heap.update D (Obj.mapSeq fun a=>a.push u8) }:=by
     refine(I9.pins_of (pins':=[]) fun p hp=>absurd hp (by simp)).turned (t':=s8.toks) (it:=D) keep nD neD (.inr (by rw[hDe];exact Qae _)) cellsD fun p hp=>?_
     exact DnotPin p (by simpa using hp)
    exact⟨m',hm,i+1,ys++[y],us++[u8],_,Y6,H8,pinD I10 q nD,T.keep _ _ _ t8 fun b hb o e=>keep b o (by intro z;exact absurd (hfo b hb) (by rw[z,hDe];exact Nat.lt_irrefl _)) e,n8,r3.append (.cons r8 .nil),w8⟩
 exact codeAny_compStart_list loop (wpAny_noRaise (T.self _ 0 _ _ _ (T.keep _ _ _ st2 fun b _ o e=>old b o e) loop))
theorem l_c(S:CompScope X scope own capN caps)(hc:X.calm=true)(hi:PI X tg iter wi)
  (hin:∀C fp s₂ H₂ pl,PG (a_G X scope (own++capN) C fp s₂ H₂ pl) tg g/\PTs (a_G X scope (own++capN) C fp s₂ H₂ pl) ifs tc/\PE (a_G X scope (own++capN) C fp s₂ H₂ pl) elt te)
  (hs:∀x,foldedSetIterable iter X.env x=pure x:=by intro _;rfl):PE X (.ListComp elt [⟨tg,iter,ifs,0⟩] scope pos) (l_h own caps wi g tc te):=by
 intro pins s Y H Q I h
 rw[eval_ListComp]
 refine wpAny_comprehension_free (use:=none) rfl hs (e_6 (S.cells I.ok)) S.kind S.loc ?_
 refine k_v S hc hi hin I h fun D C s' H' m I' f hm q=>⟨m,hm,fun h' hs'=>?_⟩
 exact⟨.ref D,H',I'.turned (t':=s'.toks) (it:=C) (fun b o hb e=>(hs'.2 b hb).trans e) f.1 f.2.1 f.2.2.2.1 f.2.2.2.2.1 f.2.2.2.2.2,rfl,q⟩
theorem i_X{i:Nat}{y:Str}{py spos:Pos}(hN:X.N.Nodup)(hi':X.N[i]? = some y)(hx:Loc X.env.scope y)(S:CompScope X scope own capN caps)(hc:X.calm=true)(hi:PI X tg iter wi)
  (hin:∀C fp s₂ H₂ pl,PG (a_G X scope (own++capN) C fp s₂ H₂ pl) tg g/\PTs (a_G X scope (own++capN) C fp s₂ H₂ pl) ifs tc/\PE (a_G X scope (own++capN) C fp s₂ H₂ pl) elt te)
  (hsw:swapsWith (.ListComp elt [⟨tg,iter,ifs,0⟩] scope pos) (some (.Name y py)) spos.line X.env=pure true:=by rfl)
  (hs:∀x,foldedSetIterable iter X.env x=pure x:=by intro _;rfl) (hf:X.fn y=true\/X.env.scope.names.lookup y=some .local:=by first | exact .inl rfl | exact .inr rfl | assumption) :
  PS X (.Assign [.Name y py] (.ListComp elt [⟨tg,iter,ifs,0⟩] scope pos) spos) (w_3 (l_h own caps wi g tc te) (q_E i)):=by
 intro pins s Y H D I h
 rw[exec_Assign_Name_used _ _ _ _ hsw]
 refine Qaa (wpAny_standAt (Qaa ?_))
 show wpAny _ X.A (do let _ <-comprehension (.ListComp elt [⟨tg,iter,ifs,0⟩] scope pos) scope X.env _ (newList []) false (eval iter X.env) (some (assign (.Name y py) X.env))) _ _ s
 refine Qaa (wpAny_mono (wpAny_comprehension_free (use:=some (assign (.Name y py) X.env)) (Q:=fun _ s'=>SP X pins D .next s') rfl hs (e_6 (S.cells I.ok)) S.kind S.loc ?_) (fun _ s' hq=>Qab (Qab hq)) fun _ _ e=>e)
 refine k_v S hc hi hin I h fun Da C s' H' m I' f hm q=>?_
 show wpAny _ X.A (assign (.Name y py) X.env (.ref Da)) _ _ _
 refine wpAny_assign_Name (k_K I' hN hi' hx (v:=.ref Da) rfl (fun s2 I2 ⟨a,sb,ha⟩=>⟨m,?_,fun h' hs'=>?_⟩) hf)
 ·refine hm.sameBut sb ?_
  rcases ha with z | z
  ·rw[z];exact f.2.1
  ·exact Ne.symm (f.2.2.2.2.1 y a z)
 ·exact⟨_,H',I2.turned (t':=s2.toks) (it:=C) (fun b o hb e=>(hs'.2 b hb).trans e) f.1 f.2.1 f.2.2.2.1 f.2.2.2.2.1 f.2.2.2.2.2,q⟩
end
end L2
namespace L2
open PySem
theorem g_T{M:Model}{A:Around}{E:Value->Shared->Prop}{s:Shared}{a:Addr}{Q:Option Obj->Shared->Prop}(h:Q (s.heap.get? a) s):wpAny M A (loadIfAlive a) Q E s:=by
 intro Γ p hΓ
 unfold loadIfAlive
 rw[Sem.wp_loadIfAlive]
 exact Qab h Γ p hΓ
noncomputable abbrev d_L(h:Heap)(z TI TO:Addr)(f0 f1:Value):Prop:=
 h.get? z=some { cls:=.type "zip",dict:=none,data:=.fields #[f0,f1,.bool false,.ref TI,.ref TO],slots:=#[] }
noncomputable abbrev b_K(h:Heap)(T:Addr)(a b c:Value):Prop:=h.get? T=some { cls:=.type "tuple",data:=.seq #[a,b,c] }
section
variable{prog:Program}{w:World}{A:Around}{E:Value->Shared->Prop}{s:Shared}
theorem e_t{T:Addr}{a b c x:Value}{k:Nat}{Q:Unit->Shared->Prop}(hT:b_K s.heap T a b c)
  (h:∀h',h'.get? T=some { cls:=.type "tuple",data:=.seq ((#[a,b,c]:Array Value).setIfInBounds k x) }->Heap.SameBut T s.heap h'->Q () { s with heap:=h' }) :
  wpAny (model prog w) A (updateSeq T (·.setIfInBounds k x)) Q E s:=by
 refine wpAny_updateSeq hT rfl (h _ ?_ (Heap.SameBut.update ..))
 rw[Heap.get?_update_self _ hT rfl]
 simp[Obj.mapSeq]
theorem m_N{z TI TO i1 i2 i3 l1 l2 l3:Addr}{k:Nat}{xs ys zs:Array Value}{x y v a b c:Value}{Q:Value->Shared->Prop}
  (nd:[z,TI,TO,i1,i2,i3].Nodup) (hl:∀l∈[l1,l2,l3],∀j∈[z,TI,TO,i1,i2,i3],l≠j)
  (hz:d_L s.heap z TI TO .none (.bool false)) (hTI:b_K s.heap TI (.ref i1) (.ref i2) (.ref i3)) (hTO:b_K s.heap TO a b c)
  (h1:s.heap.IsListIter i1 l1 k) (h2:s.heap.IsListIter i2 l2 k) (h3:s.heap.IsListIter i3 l3 k) (hl1:s.heap.IsList l1 xs) (hl2:s.heap.IsList l2 ys) (hl3:s.heap.IsList l3 zs)
  (hx:xs[k]? = some x) (hy:ys[k]? = some y) (hv:zs[k]? = some v)
  (hQ:∀h',d_L h' z TI TO (rawInt s.heap.objs.size) (.bool false)->b_K h' TO x y v->h'.IsListIter i1 l1 (k+1)->h'.IsListIter i2 l2 (k+1)->h'.IsListIter i3 l3 (k+1)->b_K h' s.heap.objs.size x y v->h'.objs.size=s.heap.objs.size+1->
   (∀c o,c∉[z,TO,i1,i2,i3]->s.heap.get? c=some o->h'.get? c=some o)->Q (.ref s.heap.objs.size) { s with heap:=h' }) :
  wpAny (model prog w) A (Builtin.«zip.__next__» ⟨[.ref z],[]⟩) (fun fin s'=>∃v,fin=.done (.ret v)/\Q v s') E s:=by
 simp only[List.nodup_cons,List.mem_cons,List.not_mem_nil,or_false,not_or,not_false_eq_true,and_true,List.nodup_nil] at nd
 obtain⟨⟨zTI,zTO,z1,z2,z3⟩,⟨TITO,TI1,TI2,TI3⟩,⟨TO1,TO2,TO3⟩,⟨i12,i13⟩,i23⟩:=nd
 have n1:∀j∈[z,TI,TO,i1,i2,i3],l1≠j:=hl l1 (by simp)
 have n2:∀j∈[z,TI,TO,i1,i2,i3],l2≠j:=hl l2 (by simp)
 have n3:∀j∈[z,TI,TO,i1,i2,i3],l3≠j:=hl l3 (by simp)
 show wpAny _ _ (field (.ref z) 2 >>= _) _ _ _
 refine Qaa (wpAny_field hz rfl (x:=.bool false) rfl ?_)
 show wpAny _ _ (field (.ref z) 3 >>= _) _ _ _
 refine Qaa (wpAny_field hz rfl (x:=.ref TI) rfl ?_)
 refine Qaa (wpAny_seqItems hTI rfl ?_)
 show wpAny _ _ (Builtin.SmallTypes.ownedTupleIsFree (.ref z) >>= _) _ _ _
 refine Qaa ?_
 unfold Builtin.SmallTypes.ownedTupleIsFree
 refine Qaa (wpAny_field hz rfl (x:=.none) rfl (Qab ?_))
 simp only[if_true]
 refine Qaa (wpAny_rule ?_)
 refine Qaa (wpAny_field hz rfl (x:=.ref TO) rfl ?_)
 refine Qaa (wpAny_setField_rec hz (by simp) fun h₁ hz₁ hs₁=>?_)
 replace hz₁:d_L h₁ z TI TO .ellipsis (.bool false):=hz₁
 refine Qaa ?_
 simp only[List.zipIdx_cons,List.zipIdx_nil,List.forIn_cons,List.forIn_nil]
 refine Qaa (Qaa (wpAny_onRaise ?_))
 show wpAny _ _ (Builtin.SmallTypes.nextOf (.ref i1) >>= _) _ _ _
 refine Qaa (wpAny_nextOf_list_item (h1.extBut hs₁.extBut (Ne.symm z1)) (hl1.extBut hs₁.extBut (n1 z (by simp))) hx fun h₂ h1₂ hs₂=>Qab ?_)
 have hTO₂:b_K h₂ TO a b c:=hs₂.extBut _ _ TO1 (hs₁.extBut _ _ (Ne.symm zTO) hTO)
 refine Qaa (wpAny_seqItems hTO₂ rfl ?_)
 refine Qaa (e_t hTO₂ fun h₃ hTO₃ hs₃=>?_)
 replace hTO₃:b_K h₃ TO x b c:=hTO₃
 refine Qaa (wpAny_letGo (Qab ?_))
 refine Qaa (Qaa (wpAny_onRaise ?_))
 show wpAny _ _ (Builtin.SmallTypes.nextOf (.ref i2) >>= _) _ _ _
 refine Qaa (wpAny_nextOf_list_item (((h2.extBut hs₁.extBut (Ne.symm z2)).extBut hs₂.extBut (Ne.symm i12)).extBut hs₃.extBut (Ne.symm TO2))
  (((hl2.extBut hs₁.extBut (n2 z (by simp))).extBut hs₂.extBut (n2 i1 (by simp))).extBut hs₃.extBut (n2 TO (by simp))) hy fun h₄ h2₄ hs₄=>Qab ?_)
 have hTO₄:b_K h₄ TO x b c:=hs₄.extBut _ _ TO2 hTO₃
 refine Qaa (wpAny_seqItems hTO₄ rfl ?_)
 refine Qaa (e_t hTO₄ fun h₅ hTO₅ hs₅=>?_)
 replace hTO₅:b_K h₅ TO x y c:=hTO₅
 refine Qaa (wpAny_letGo (Qab ?_))
 refine Qaa (Qaa (wpAny_onRaise ?_))
 show wpAny _ _ (Builtin.SmallTypes.nextOf (.ref i3) >>= _) _ _ _
 refine Qaa (wpAny_nextOf_list_item (((((h3.extBut hs₁.extBut (Ne.symm z3)).extBut hs₂.extBut (Ne.symm i13)).extBut hs₃.extBut (Ne.symm TO3)).extBut hs₄.extBut (Ne.symm i23)).extBut hs₅.extBut (Ne.symm TO3))
  (((((hl3.extBut hs₁.extBut (n3 z (by simp))).extBut hs₂.extBut (n3 i1 (by simp))).extBut hs₃.extBut (n3 TO (by simp))).extBut hs₄.extBut (n3 i2 (by simp))).extBut hs₅.extBut (n3 TO (by simp))) hv fun h₆ h3₆ hs₆=>Qab ?_)
 have hTO₆:b_K h₆ TO x y c:=hs₆.extBut _ _ TO3 hTO₅
 refine Qaa (wpAny_seqItems hTO₆ rfl ?_)
 refine Qaa (e_t hTO₆ fun h₇ hTO₇ hs₇=>?_)
 replace hTO₇:b_K h₇ TO x y v:=hTO₇
 refine Qaa (wpAny_letGo (Qab (Qab ?_)))
 refine Qaa (wpAny_seqItems hTO₇ rfl ?_)
 refine Qaa (wpAny_newTuple ?_)
 have up₇:∀c o,c∉[z,TO,i1,i2,i3]->s.heap.get? c=some o->h₇.get? c=some o:=fun c o hc e=>by
  simp only[List.mem_cons,List.not_mem_nil,or_false,not_or] at hc
  obtain⟨c1,c2,c3,c4,c5⟩:=hc
  exact hs₇.extBut _ _ c2 (hs₆.extBut _ _ c5 (hs₅.extBut _ _ c2 (hs₄.extBut _ _ c4 (hs₃.extBut _ _ c2 (hs₂.extBut _ _ c3 (hs₁.extBut _ _ c1 e))))))
 have hsz:h₇.objs.size=s.heap.objs.size:=by rw[hs₇.1,hs₆.1,hs₅.1,hs₄.1,hs₃.1,hs₂.1,hs₁.1]
 have hz₇:d_L h₇ z TI TO .ellipsis (.bool false):=hs₇.extBut _ _ zTO (hs₆.extBut _ _ z3 (hs₅.extBut _ _ zTO (hs₄.extBut _ _ z2 (hs₃.extBut _ _ zTO (hs₂.extBut _ _ z1 hz₁)))))
 have h1₇:h₇.IsListIter i1 l1 (k+1):=((((h1₂.extBut hs₃.extBut (Ne.symm TO1)).extBut hs₄.extBut i12).extBut hs₅.extBut (Ne.symm TO1)).extBut hs₆.extBut i13).extBut hs₇.extBut (Ne.symm TO1)
 have h2₇:h₇.IsListIter i2 l2 (k+1):=((h2₄.extBut hs₅.extBut (Ne.symm TO2)).extBut hs₆.extBut i23).extBut hs₇.extBut (Ne.symm TO2)
 have h3₇:h₇.IsListIter i3 l3 (k+1):=h3₆.extBut hs₇.extBut (Ne.symm TO3)
 have hzlt:z<h₇.objs.size:=Qad hz₇
 show wpAny _ _ (Builtin.SmallTypes.ownedTupleHandOut (.ref z) (.ref h₇.objs.size) >>= _) _ _ _
 refine Qaa ?_
 unfold Builtin.SmallTypes.ownedTupleHandOut
 have hz₈:d_L (h₇.push { cls:=.type "tuple",data:=.seq #[x,y,v] }) z TI TO .ellipsis (.bool false):=Qac _ hz₇
 refine Qaa (wpAny_setField_rec hz₈ (by simp) fun h₉ hz₉ hs₉=>?_)
 replace hz₉:d_L h₉ z TI TO (rawInt h₇.objs.size) (.bool false):=hz₉
 refine wpAny_setField_rec hz₉ (by simp) fun hA hzA hsA=>?_
 replace hzA:d_L hA z TI TO (rawInt h₇.objs.size) (.bool false):=hzA
 have up:∀c o,c≠z->h₇.get? c=some o->hA.get? c=some o:=fun c o c1 e=>hsA.extBut _ _ c1 (hs₉.extBut _ _ c1 (Qac _ e))
 have hTA:b_K hA h₇.objs.size x y v:=hsA.extBut _ _ (Nat.ne_of_gt hzlt) (hs₉.extBut _ _ (Nat.ne_of_gt hzlt) (Heap.get?_push_size _ rfl))
 have hzA':hA.objs.size=h₇.objs.size+1:=by rw[hsA.1,hs₉.1,Heap.size_push]
 rw[hsz] at hzA hTA hzA'
 refine Qab ⟨_,rfl,?_⟩
 show Q (.ref h₇.objs.size) _
 rw[hsz]
 exact hQ hA hzA (up _ _ (Ne.symm zTO) hTO₇) (h1₇.at fun o e=>up _ o (Ne.symm z1) e) (h2₇.at fun o e=>up _ o (Ne.symm z2) e) (h3₇.at fun o e=>up _ o (Ne.symm z3) e) hTA hzA' fun c o hc e=>up c o (fun q=>hc (by simp[q])) (up₇ c o hc e)
theorem h_b{z TI TO T:Addr}{f1:Value}{oT:Obj}{Q:Bool->Shared->Prop}(hf1:f1=.bool false\/f1=.bool true)(hz:d_L s.heap z TI TO (rawInt T) f1)(hT:s.heap.get? T=some oT)
  (hQ:∀h',d_L h' z TI TO (rawInt T) (.bool true)->Heap.SameBut z s.heap h'->Q false { s with heap:=h' }):wpAny (model prog w) A (Builtin.SmallTypes.ownedTupleIsFree (.ref z)) Q E s:=by
 unfold Builtin.SmallTypes.ownedTupleIsFree
 refine Qaa (wpAny_field hz rfl (x:=rawInt T) rfl ?_)
 show wpAny _ _ (loadIfAlive (Int.toNat T) >>= _) _ _ _
 refine Qaa (g_T ?_)
 rw[Int.toNat_natCast,hT]
 show wpAny _ _ (field (.ref z) 1 >>= _) _ _ _
 refine Qaa (wpAny_field hz rfl (x:=f1) rfl ?_)
 rcases hf1 with rfl | rfl
 ·show wpAny _ _ (setField (.ref z) 1 (.bool true) >>= _) _ _ _
  exact Qaa (wpAny_setField_rec hz (by simp) fun h₁ hz₁ hs₁=>Qab (hQ h₁ hz₁ hs₁))
 ·exact Qab (hQ s.heap hz (Heap.SameBut.refl ..))
theorem q_j{z TI TO i1 i2 i3 l1 l2 l3 T:Addr}{k:Nat}{f1:Value}{oT:Obj}{xs ys zs:Array Value}{x y v:Value}{Q:Value->Shared->Prop}
  (nd:[z,TI,TO,i1,i2,i3].Nodup) (hl:∀l∈[l1,l2,l3],∀j∈[z,TI,TO,i1,i2,i3],l≠j) (hf1:f1=.bool false\/f1=.bool true)
  (hz:d_L s.heap z TI TO (rawInt T) f1) (hT:s.heap.get? T=some oT) (hTI:b_K s.heap TI (.ref i1) (.ref i2) (.ref i3))
  (h1:s.heap.IsListIter i1 l1 k) (h2:s.heap.IsListIter i2 l2 k) (h3:s.heap.IsListIter i3 l3 k) (hl1:s.heap.IsList l1 xs) (hl2:s.heap.IsList l2 ys) (hl3:s.heap.IsList l3 zs)
  (hx:xs[k]? = some x) (hy:ys[k]? = some y) (hv:zs[k]? = some v)
  (hQ:∀h',d_L h' z TI TO (rawInt T) (.bool true)->h'.IsListIter i1 l1 (k+1)->h'.IsListIter i2 l2 (k+1)->h'.IsListIter i3 l3 (k+1)->b_K h' s.heap.objs.size x y v->h'.objs.size=s.heap.objs.size+1->
   (∀c o,c∉[z,i1,i2,i3]->s.heap.get? c=some o->h'.get? c=some o)->Q (.ref s.heap.objs.size) { s with heap:=h' }) :
  wpAny (model prog w) A (Builtin.«zip.__next__» ⟨[.ref z],[]⟩) (fun fin s'=>∃v,fin=.done (.ret v)/\Q v s') E s:=by
 simp only[List.nodup_cons,List.mem_cons,List.not_mem_nil,or_false,not_or,not_false_eq_true,and_true,List.nodup_nil] at nd
 obtain⟨⟨zTI,zTO,z1,z2,z3⟩,⟨TITO,TI1,TI2,TI3⟩,⟨TO1,TO2,TO3⟩,⟨i12,i13⟩,i23⟩:=nd
 have n1:∀j∈[z,TI,TO,i1,i2,i3],l1≠j:=hl l1 (by simp)
 have n2:∀j∈[z,TI,TO,i1,i2,i3],l2≠j:=hl l2 (by simp)
 have n3:∀j∈[z,TI,TO,i1,i2,i3],l3≠j:=hl l3 (by simp)
 show wpAny _ _ (field (.ref z) 2 >>= _) _ _ _
 refine Qaa (wpAny_field hz rfl (x:=.bool false) rfl ?_)
 show wpAny _ _ (field (.ref z) 3 >>= _) _ _ _
 refine Qaa (wpAny_field hz rfl (x:=.ref TI) rfl ?_)
 refine Qaa (wpAny_seqItems hTI rfl ?_)
 show wpAny _ _ (Builtin.SmallTypes.ownedTupleIsFree (.ref z) >>= _) _ _ _
 refine Qaa (h_b hf1 hz hT fun h₁ hz₁ hs₁=>?_)
 simp only[Bool.false_eq_true,if_false]
 refine Qaa ?_
 simp only[List.forIn_toArray,List.forIn_cons,List.forIn_nil]
 refine Qaa (Qaa (wpAny_holding ?_))
 show wpAny _ _ (Builtin.SmallTypes.nextOf (.ref i1) >>= _) _ _ _
 refine Qaa (wpAny_nextOf_list_item (h1.extBut hs₁.extBut (Ne.symm z1)) (hl1.extBut hs₁.extBut (n1 z (by simp))) hx fun h₂ h1₂ hs₂=>Qab (Qab ?_))
 refine Qaa (Qaa (wpAny_holding ?_))
 show wpAny _ _ (Builtin.SmallTypes.nextOf (.ref i2) >>= _) _ _ _
 refine Qaa (wpAny_nextOf_list_item ((h2.extBut hs₁.extBut (Ne.symm z2)).extBut hs₂.extBut (Ne.symm i12)) ((hl2.extBut hs₁.extBut (n2 z (by simp))).extBut hs₂.extBut (n2 i1 (by simp))) hy fun h₃ h2₃ hs₃=>Qab (Qab ?_))
 refine Qaa (Qaa (wpAny_holding ?_))
 show wpAny _ _ (Builtin.SmallTypes.nextOf (.ref i3) >>= _) _ _ _
 refine Qaa (wpAny_nextOf_list_item (((h3.extBut hs₁.extBut (Ne.symm z3)).extBut hs₂.extBut (Ne.symm i13)).extBut hs₃.extBut (Ne.symm i23)) (((hl3.extBut hs₁.extBut (n3 z (by simp))).extBut hs₂.extBut (n3 i1 (by simp))).extBut hs₃.extBut (n3 i2 (by simp))) hv fun h₄ h3₄ hs₄=>Qab (Qab (Qab ?_)))
 show wpAny _ _ (newTuple [x,y,v] >>= _) _ _ _
 refine Qaa (wpAny_newTuple ?_)
 refine Qab ⟨_,rfl,?_⟩
 have hsz:h₄.objs.size=s.heap.objs.size:=by rw[hs₄.1,hs₃.1,hs₂.1,hs₁.1]
 show Q (.ref h₄.objs.size) { s with heap:=h₄.push { cls:=.type "tuple",data:=.seq #[x,y,v] } }
 have up:∀c o,c∉[z,i1,i2,i3]->s.heap.get? c=some o->h₄.get? c=some o:=fun c o hc e=>by
  simp only[List.mem_cons,List.not_mem_nil,or_false,not_or] at hc
  obtain⟨c1,c2,c3,c4⟩:=hc
  exact hs₄.extBut _ _ c4 (hs₃.extBut _ _ c3 (hs₂.extBut _ _ c2 (hs₁.extBut _ _ c1 e)))
 rw[hsz]
 refine hQ _ (Qac _ (hs₄.extBut _ _ z3 (hs₃.extBut _ _ z2 (hs₂.extBut _ _ z1 hz₁)))) (((h1₂.extBut hs₃.extBut i12).extBut hs₄.extBut i13).at fun o e=>Qac _ e) ((h2₃.extBut hs₄.extBut i23).at fun o e=>Qac _ e)
  (h3₄.at fun o e=>Qac _ e) ?_ (by rw[Heap.size_push,hsz]) fun c o hc e=>Qac _ (up c o hc e)
 rw[<-hsz]
 exact Heap.get?_push_size _ rfl
theorem q_H{z TI TO i1 i2 i3 l1 l2 l3 T:Addr}{k:Nat}{f1:Value}{oT:Obj}{xs:Array Value}{Q:Fin->Shared->Prop}(hh:A.handled=none)
  (nd:[z,TI,TO,i1,i2,i3].Nodup) (hl:∀l∈[l1,l2,l3],∀j∈[z,TI,TO,i1,i2,i3],l≠j) (hf1:f1=.bool false\/f1=.bool true)
  (hz:d_L s.heap z TI TO (rawInt T) f1) (hT:s.heap.get? T=some oT) (hTI:b_K s.heap TI (.ref i1) (.ref i2) (.ref i3))
  (h1:s.heap.IsListIter i1 l1 k) (hl1:s.heap.IsList l1 xs) (hx:xs[k]? = none)
  (hE:∀h' e,(∀c o,c∉[z,i1]->s.heap.get? c=some o->h'.get? c=some o)->(∃o,h'.get? e=some o/\o.cls=.type "StopIteration")->E (.ref e) { s with heap:=h' }) :
  wpAny (model prog w) A (Builtin.«zip.__next__» ⟨[.ref z],[]⟩) Q E s:=by
 simp only[List.nodup_cons,List.mem_cons,List.not_mem_nil,or_false,not_or,not_false_eq_true,and_true,List.nodup_nil] at nd
 obtain⟨⟨zTI,zTO,z1,z2,z3⟩,⟨TITO,TI1,TI2,TI3⟩,⟨TO1,TO2,TO3⟩,⟨i12,i13⟩,i23⟩:=nd
 have n1:∀j∈[z,TI,TO,i1,i2,i3],l1≠j:=hl l1 (by simp)
 show wpAny _ _ (field (.ref z) 2 >>= _) _ _ _
 refine Qaa (wpAny_field hz rfl (x:=.bool false) rfl ?_)
 show wpAny _ _ (field (.ref z) 3 >>= _) _ _ _
 refine Qaa (wpAny_field hz rfl (x:=.ref TI) rfl ?_)
 refine Qaa (wpAny_seqItems hTI rfl ?_)
 show wpAny _ _ (Builtin.SmallTypes.ownedTupleIsFree (.ref z) >>= _) _ _ _
 refine Qaa (h_b hf1 hz hT fun h₁ hz₁ hs₁=>?_)
 simp only[Bool.false_eq_true,if_false]
 refine Qaa ?_
 simp only[List.forIn_toArray,List.forIn_cons,List.forIn_nil]
 refine Qaa (Qaa (wpAny_holding ?_))
 show wpAny _ _ (Builtin.SmallTypes.nextOf (.ref i1) >>= _) _ _ _
 refine Qaa (wpAny_nextOf_list_end hh (h1.extBut hs₁.extBut (Ne.symm z1)) (hl1.extBut hs₁.extBut (n1 z (by simp))) hx fun h₂ e hs₂ he=>?_)
 refine hE h₂ e (fun c o hc x=>?_) he
 simp only[List.mem_cons,List.not_mem_nil,or_false,not_or] at hc
 exact hs₂ _ _ hc.2 (hs₁.extBut _ _ hc.1 x)
end
structure Z3 (h:Heap) (z TI TO i1 i2 i3 l1 l2 l3:Addr) (xs ys zs:Array Value) (S:Addr) (i:Nat):Prop where
 zrec:∃(f0 f1:Value),d_L h z TI TO f0 f1/\(f1=.bool false\/f1=.bool true)/\((i=0/\f0=.none/\f1=.bool false)\/(0<i/\∃(T:Addr) (oT:Obj),f0=rawInt T/\h.get? T=some oT/\T∉[S,z,TO,i1,i2,i3]))
 ti:b_K h TI (.ref i1) (.ref i2) (.ref i3)
 to:∃a b c,b_K h TO a b c
 h1:h.IsListIter i1 l1 i
 h2:h.IsListIter i2 l2 i
 h3:h.IsListIter i3 l3 i
 l1:h.IsList l1 xs
 l2:h.IsList l2 ys
 l3:h.IsList l3 zs
noncomputable def p_U(h:Heap)(n:Addr)(xs ys zs:Array Value)(acc:List Value):Prop:=
 ∀(j:Nat) (v:Value),acc[j]? = some v->∃(T:Addr) (x y u:Value),v=Value.ref T/\n<=T/\b_K h T x y u/\xs[j]? = some x/\ys[j]? = some y/\zs[j]? = some u
section
variable{prog:Program}{w:World}{A:Around}{E:Value->Shared->Prop}{s:Shared}
theorem h_p{z TI TO i1 i2 i3 l1 l2 l3 S:Addr}{i:Nat}{xs ys zs:Array Value}{x y v:Value}{Q:Option Value->Shared->Prop}
  (nd:[z,TI,TO,i1,i2,i3].Nodup) (hl:∀l∈[l1,l2,l3],∀j∈[z,TI,TO,i1,i2,i3],l≠j) (st:Z3 s.heap z TI TO i1 i2 i3 l1 l2 l3 xs ys zs S i) (hS:S<s.heap.objs.size)
  (hx:xs[i]? = some x) (hy:ys[i]? = some y) (hv:zs[i]? = some v)
  (hQ:∀h',Z3 h' z TI TO i1 i2 i3 l1 l2 l3 xs ys zs S (i+1)->b_K h' s.heap.objs.size x y v->h'.objs.size=s.heap.objs.size+1->(∀c o,c∉[z,TO,i1,i2,i3]->s.heap.get? c=some o->h'.get? c=some o)->Q (some (.ref s.heap.objs.size)) { s with heap:=h' }) :
  wpAny (model prog w) A (pyNext (.ref z)) Q E s:=by
 obtain⟨⟨f0,f1,hz,hf1,hf⟩,ti,⟨a,b,c,to⟩,h1,h2,h3,hl1,hl2,hl3⟩:=st
 have hT:s.TypeIs (.ref z) "zip":=⟨_,hz,rfl⟩
 have lt:∀{c o},s.heap.get? c=some o->s.heap.objs.size≠c:=fun e=>Nat.ne_of_gt (Qad e)
 have new:s.heap.objs.size∉[S,z,TO,i1,i2,i3]:=by
  simp only[List.mem_cons,List.not_mem_nil,or_false,not_or]
  exact⟨Nat.ne_of_gt hS,lt hz,lt to,(by obtain⟨_,e,_⟩:=h1;exact lt e),(by obtain⟨_,e,_⟩:=h2;exact lt e),(by obtain⟨_,e,_⟩:=h3;exact lt e)⟩
 have sub:∀l∈[l1,l2,l3],l∉[z,TO,i1,i2,i3]:=fun l hm z'=>by
  simp only[List.mem_cons,List.not_mem_nil,or_false] at z'
  rcases z' with q | q | q | q | q<;>exact hl l hm _ (by simp) q
 have tiN:TI∉[z,TO,i1,i2,i3]:=by
  simp only[List.nodup_cons,List.mem_cons,List.not_mem_nil,or_false,not_or,not_false_eq_true,and_true,List.nodup_nil] at nd
  obtain⟨⟨zTI,zTO,z1,z2,z3⟩,⟨TITO,TI1,TI2,TI3⟩,_⟩:=nd
  simp only[List.mem_cons,List.not_mem_nil,or_false,not_or]
  exact⟨Ne.symm zTI,TITO,TI1,TI2,TI3⟩
 unfold pyNext
 refine Qaa (wpAny_attempt (wpAny_callSpecial?_slot (name:=Str.ofString "__next__") hT F.slot_zip_next (wpAny_call_entry F.slot_zip_next hT F.entry_zip_next ?_ (F.args_zip_next_1 _))))
 rcases hf with⟨hi,rfl,rfl⟩ | ⟨hi,T,oT,rfl,eT,nT⟩
 ·refine m_N nd hl hz ti to h1 h2 h3 hl1 hl2 hl3 hx hy hv fun h' a1 a2 a3 a4 a5 a6 a7 a8=>Qab ?_
  exact hQ h' ⟨⟨_,_,a1,.inl rfl,.inr ⟨Nat.succ_pos _,_,_,rfl,a6,new⟩⟩,a8 _ _ tiN ti,⟨_,_,_,a2⟩,a3,a4,a5,hl1.at fun o e=>a8 _ o (sub l1 (by simp)) e,hl2.at fun o e=>a8 _ o (sub l2 (by simp)) e,hl3.at fun o e=>a8 _ o (sub l3 (by simp)) e⟩ a6 a7 a8
 ·refine q_j nd hl hf1 hz eT ti h1 h2 h3 hl1 hl2 hl3 hx hy hv fun h' a1 a3 a4 a5 a6 a7 a8=>Qab ?_
  have a8':∀c o,c∉[z,TO,i1,i2,i3]->s.heap.get? c=some o->h'.get? c=some o:=fun c o hc e=>a8 c o (fun q=>hc (by simp only[List.mem_cons,List.not_mem_nil,or_false] at q ⊢;rcases q with q | q | q | q<;>simp[q])) e
  have TO4:TO∉[z,i1,i2,i3]:=by
   simp only[List.nodup_cons,List.mem_cons,List.not_mem_nil,or_false,not_or,not_false_eq_true,and_true,List.nodup_nil] at nd
   obtain⟨⟨zTI,zTO,z1,z2,z3⟩,⟨TITO,TI1,TI2,TI3⟩,⟨TO1,TO2,TO3⟩,_⟩:=nd
   simp only[List.mem_cons,List.not_mem_nil,or_false,not_or]
   exact⟨Ne.symm zTO,TO1,TO2,TO3⟩
  refine hQ h' ⟨⟨_,_,a1,.inr rfl,.inr ⟨Nat.succ_pos _,_,_,rfl,a8' T oT (fun q=>nT (Qak _ q)) eT,nT⟩⟩,a8' _ _ tiN ti,⟨a,b,c,a8 _ _ TO4 to⟩,a3,a4,a5,hl1.at fun o e=>a8' _ o (sub l1 (by simp)) e,hl2.at fun o e=>a8' _ o (sub l2 (by simp)) e,hl3.at fun o e=>a8' _ o (sub l3 (by simp)) e⟩ a6 a7 a8'
theorem h_C{z TI TO i1 i2 i3 l1 l2 l3 S:Addr}{i:Nat}{xs ys zs:Array Value}{Q:Option Value->Shared->Prop}(hh:A.handled=none)
  (nd:[z,TI,TO,i1,i2,i3].Nodup) (hl:∀l∈[l1,l2,l3],∀j∈[z,TI,TO,i1,i2,i3],l≠j) (st:Z3 s.heap z TI TO i1 i2 i3 l1 l2 l3 xs ys zs S i) (hi:0<i) (hx:xs[i]? = none)
  (hQ:∀h',(∀c o,c∉[z,i1]->s.heap.get? c=some o->h'.get? c=some o)->Q none { s with heap:=h' }) :
  wpAny (model prog w) A (pyNext (.ref z)) Q E s:=by
 obtain⟨⟨f0,f1,hz,hf1,hf⟩,ti,⟨a,b,c,to⟩,h1,h2,h3,hl1,hl2,hl3⟩:=st
 have hT:s.TypeIs (.ref z) "zip":=⟨_,hz,rfl⟩
 rcases hf with⟨hi0,_⟩ | ⟨_,T,oT,rfl,eT,nT⟩
 ·omega
 ·unfold pyNext
  refine Qaa (wpAny_attempt (wpAny_callSpecial?_slot (name:=Str.ofString "__next__") hT F.slot_zip_next
   (wpAny_call_entry F.slot_zip_next hT F.entry_zip_next (q_H hh nd hl hf1 hz eT ti h1 hl1 hx fun h' e hk he=>?_) (F.args_zip_next_1 _))))
  obtain⟨o,ho,hc⟩:=he
  refine Qaa (wpAny_isInstance (T:="StopIteration") (b:=true) ⟨o,ho,hc⟩ isSubtype_stop ?_)
  exact Qab (hQ _ hk)
end
section
variable{prog:Program}{w:World}{A:Around}{R:Result->Shared->Prop}
theorem Z3.keep{h h':Heap}{z TI TO i1 i2 i3 l1 l2 l3 S:Addr}{xs ys zs:Array Value}{i:Nat}(st:Z3 h z TI TO i1 i2 i3 l1 l2 l3 xs ys zs S i)(hS:S∉[z,TI,TO,i1,i2,i3,l1,l2,l3])(k:∀b o,b≠S->h.get? b=some o->h'.get? b=some o) :
  Z3 h' z TI TO i1 i2 i3 l1 l2 l3 xs ys zs S i:=by
 simp only[List.mem_cons,List.not_mem_nil,or_false,not_or] at hS
 obtain⟨n1,n2,n3,n4,n5,n6,n7,n8,n9⟩:=hS
 obtain⟨⟨f0,f1,hz,hf1,hf⟩,ti,⟨a,b,c,to⟩,h1,h2,h3,hl1,hl2,hl3⟩:=st
 refine⟨⟨f0,f1,k _ _ (Ne.symm n1) hz,hf1,?_⟩,k _ _ (Ne.symm n2) ti,⟨a,b,c,k _ _ (Ne.symm n3) to⟩,h1.at fun o e=>k _ o (Ne.symm n4) e,h2.at fun o e=>k _ o (Ne.symm n5) e,h3.at fun o e=>k _ o (Ne.symm n6) e,hl1.at fun o e=>k _ o (Ne.symm n7) e,hl2.at fun o e=>k _ o (Ne.symm n8) e,hl3.at fun o e=>k _ o (Ne.symm n9) e⟩
 rcases hf with hf | ⟨hi,T,oT,e,eT,nT⟩
 ·exact .inl hf
 ·exact .inr ⟨hi,T,oT,e,k _ _ (fun q=>nT (by simp[q])) eT,nT⟩
noncomputable abbrev d_a(a:Array Value)(v:Value)(c:Nat):Nat:=if (a.push v).size==a.size then c else c+1
theorem l_u{z TI TO i1 i2 i3 l1 l2 l3 S n₀:Addr}{xs ys zs:Array Value}(hh:A.handled=none)
  (nd:[z,TI,TO,i1,i2,i3].Nodup) (hl:∀l∈[l1,l2,l3],∀j∈[z,TI,TO,i1,i2,i3],l≠j) (hS:S∉[z,TI,TO,i1,i2,i3,l1,l2,l3]) (hb:∀j∈[S,z,TI,TO,i1,i2,i3],j<n₀)
  (e2:ys.size=xs.size) (e3:zs.size=xs.size) (hpos:0<xs.size) (hn:xs.size<=sizeLine) (res:Value) :
  ∀(k i:Nat) (s:Shared) (acc:List Value) (c:Nat),xs.size - i=k->i<=xs.size->Z3 s.heap z TI TO i1 i2 i3 l1 l2 l3 xs ys zs S i->n₀<=s.heap.objs.size->s.heap.get? S=some { cls:=.type "list",dict:=none,data:=.seq acc.toArray c,slots:=#[] }->acc.length=i->p_U s.heap n₀ xs ys zs acc->
  (∀h' acc' c',(∀b o,b∉[S,z,TO,i1,i2,i3]->s.heap.get? b=some o->h'.get? b=some o)->h'.get? S=some { cls:=.type "list",dict:=none,data:=.seq acc'.toArray c',slots:=#[] }->acc'.length=xs.size->p_U h' n₀ xs ys zs acc'->R (.ok (.ret res)) { s with heap:=h' })->
  codeAny (model prog w) A (.builtin "list.extend.loop" ⟨[.ref S,.ref z,res],[]⟩) R s:=by
 intro k
 induction k with
 | zero=>
  intro i s acc c hk hi st hsz hSo hlen tr hR
  have hin:i=xs.size:=by omega
  refine codeAny_builtin F.entry_extend_loop ?_
  rw[Around.under_plainId F.plain_extend_loop _]
  show wpAny _ A.in1 (pyNext (.ref z) >>= _) _ _ s
  have nS:S∉[z,i1]:=fun q=>hS (by simp only[List.mem_cons,List.not_mem_nil,or_false] at q ⊢;rcases q with q | q<;>simp[q])
  refine Qaa (h_C hh nd hl st (by omega) (by rw[hin];exact Array.getElem?_eq_none (Qae _)) fun h' hk'=>?_)
  refine Qab (hR h' acc c (fun b o hb e=>hk' b o (fun q=>hb (by simp only[List.mem_cons,List.not_mem_nil,or_false] at q ⊢;rcases q with q | q<;>simp[q])) e) (hk' S _ nS hSo) (hlen.trans hin) fun j v hj=>?_)
  obtain⟨T,x,y,u,e,hT,t,q⟩:=tr j v hj
  refine⟨T,x,y,u,e,hT,hk' T _ (fun m=>?_) t,q⟩
  simp only[List.mem_cons,List.not_mem_nil,or_false] at m
  rcases m with m | m
  ·exact absurd (hb z (by simp)) (by rw[<-m];exact Nat.not_lt.mpr hT)
  ·exact absurd (hb i1 (by simp)) (by rw[<-m];exact Nat.not_lt.mpr hT)
 | succ k ih=>
  intro i s acc c hk hi st hsz hSo hlen tr hR
  have hlt:i<xs.size:=by omega
  refine codeAny_builtin F.entry_extend_loop ?_
  rw[Around.under_plainId F.plain_extend_loop _]
  show wpAny _ A.in1 (pyNext (.ref z) >>= _) _ _ s
  refine Qaa (h_p nd hl st (Qad hSo) (x:=xs[i]) (y:=ys[i]) (v:=zs[i]) (Array.getElem?_eq_getElem hlt) (Array.getElem?_eq_getElem (by omega)) (Array.getElem?_eq_getElem (by omega)) fun h' st' hT' hsz' hk'=>?_)
  have nS:S∉[z,TO,i1,i2,i3]:=fun q=>hS (by simp only[List.mem_cons,List.not_mem_nil,or_false] at q ⊢;rcases q with q | q | q | q | q<;>simp[q])
  have hS':=hk' S _ nS hSo
  have ha:acc.toArray.size=i:=by rw[List.size_toArray];exact hlen
  show wpAny _ A.in1 (updateSeq S (·.push (.ref s.heap.objs.size)) >>= _) _ _ _
  refine Qaa ?_
  have old:∀b o,b≠S->h'.get? b=some o->(h'.update S (Obj.mapSeq (·.push (.ref s.heap.objs.size)))).get? b=some o:=fun b o hb e=>(Heap.get?_update_other _ _ (Ne.symm hb)).trans e
  have big:∀T,n₀<=T->T∉[S,z,TO,i1,i2,i3]:=fun T hT m=>by
   simp only[List.mem_cons,List.not_mem_nil,or_false] at m
   rcases m with m | m | m | m | m | m<;>exact absurd (hb T (by rw[m];simp)) (Nat.not_lt.mpr hT)
  refine wpAny_updateSeq hS' rfl (Qab ⟨plainId_quiet F.plain_extend_loop _,ih (i+1) _ (acc++[.ref s.heap.objs.size]) (d_a acc.toArray (.ref s.heap.objs.size) c) (by omega) hlt (st'.keep hS old) ?_ ?_ (by rw[List.length_append,hlen];rfl) ?_ fun h'' acc' c' hk'' hS'' hl' tr''=>?_⟩)
   (by rw[ha];omega) (by show(acc.toArray.push _).size<=sizeLine+1;rw[Array.size_push,ha];omega)
  ·show n₀<=(h'.update S (Obj.mapSeq (·.push (.ref s.heap.objs.size)))).objs.size
   rw[show(h'.update S (Obj.mapSeq (·.push (Value.ref s.heap.objs.size)))).objs.size=h'.objs.size from(Heap.SameBut.update ..).1,hsz']
   exact Nat.le_succ_of_le hsz
  ·have q:=Heap.get?_update_self (Obj.mapSeq (·.push (Value.ref s.heap.objs.size))) hS' rfl
   have e:acc.toArray.push (Value.ref s.heap.objs.size)=(acc++[Value.ref s.heap.objs.size]).toArray:=by simp
   have q':(h'.update S (Obj.mapSeq (·.push (Value.ref s.heap.objs.size)))).get? S=some { cls:=.type "list",dict:=none,data:=.seq (acc.toArray.push (Value.ref s.heap.objs.size)) (d_a acc.toArray (Value.ref s.heap.objs.size) c),slots:=#[] }:=q
   rw[e] at q'
   exact q'
  ·intro j v hj
   by_cases hji:j<acc.length
   ·rw[List.getElem?_append_left hji] at hj
    obtain⟨T,x,y,u,e,hT,t,q⟩:=tr j v hj
    have nb:=big T hT
    exact⟨T,x,y,u,e,hT,old T _ (fun z'=>nb (by simp[z'])) (hk' T _ (fun z'=>nb (Qak _ z')) t),q⟩
   ·have hj':j=acc.length:=by
     have:=(List.getElem?_eq_some_iff.mp hj).1
     rw[List.length_append,List.length_singleton] at this
     omega
    subst hj'
    rw[List.getElem?_append_right (Qae _),Nat.sub_self] at hj
    cases hj
    have nb:=big s.heap.objs.size hsz
    refine⟨s.heap.objs.size,xs[i],ys[i],zs[i],rfl,hsz,old _ _ (fun z'=>nb (by simp[z'])) hT',?_,?_,?_⟩<;>(rw[hlen];exact Array.getElem?_eq_getElem (by omega))
  ·refine hR h'' acc' c' (fun b o hb' e=>hk'' b o hb' (old b o (fun z'=>hb' (by simp[z'])) (hk' b o (fun z'=>hb' (Qak _ z')) e))) hS'' hl' tr''
end
namespace F3
theorem zip_no_len:typeLookup (.type "zip") "__len__" = pure none:=by rw[typeLookup_type,builtinLookup_eq_fast];kernel_rfl
theorem zip_no_hint:typeLookup (.type "zip") "__length_hint__" = pure none:=by rw[typeLookup_type,builtinLookup_eq_fast];kernel_rfl
theorem typeCall_zip_3(a b c:Value):checkTypeCall "zip" ⟨[a,b,c],[]⟩=pure ():=by kernel_rfl
theorem newCall_zip_3(a b c:Value):checkBuiltinCall "zip.__new__" ⟨[.type "zip",a,b,c],[]⟩=pure ():=by kernel_rfl
theorem args_object_init_4(a b c d:Value):argsOk "object.__init__" ⟨[a,b,c,d],[]⟩:=by
 unfold argsOk;rw[signature?_of (id:="object.__init__") (n:=['_','_','t','i','n','i','_','_']) (o:=['t','c','e','j','b','o']) (by kernel_rfl) F.owner_object];kernel_rfl
end F3
noncomputable abbrev zA(h:Heap)(l1:Addr):Heap:=h.push { cls:=.type "list_iterator",data:=.fields #[.ref l1,.int 0 0] }
noncomputable abbrev zB(h:Heap)(l1 l2:Addr):Heap:=(zA h l1).push { cls:=.type "list_iterator",data:=.fields #[.ref l2,.int 0 0] }
noncomputable abbrev zC(h:Heap)(l1 l2 l3:Addr):Heap:=(zB h l1 l2).push { cls:=.type "list_iterator",data:=.fields #[.ref l3,.int 0 0] }
noncomputable abbrev zD(h:Heap)(l1 l2 l3:Addr):Heap:=(zC h l1 l2 l3).push { cls:=.type "tuple",data:=.seq #[.ref h.objs.size,.ref (zA h l1).objs.size,.ref (zB h l1 l2).objs.size] }
noncomputable abbrev zE(h:Heap)(l1 l2 l3:Addr):Heap:=(zD h l1 l2 l3).push { cls:=.type "tuple",data:=.seq #[.none,.none,.none] }
noncomputable abbrev zF(h:Heap)(l1 l2 l3:Addr):Heap:=(zE h l1 l2 l3).push { cls:=.type "zip",data:=.fields #[.none,.bool false,.bool false,.ref (zC h l1 l2 l3).objs.size,.ref (zD h l1 l2 l3).objs.size] }
theorem i_t(l1 l2 l3:Addr)(xs ys zs:Array Value) :
  Meets (Builtin.«zip.__new__» ⟨[.type "zip",.ref l1,.ref l2,.ref l3],[]⟩) (fun _ R s=>s.heap.IsList l1 xs/\s.heap.IsList l2 ys/\s.heap.IsList l3 zs/\
   R (.ok (.ret (.ref (zE s.heap l1 l2 l3).objs.size))) { s with heap:=zF s.heap l1 l2 l3 }):=
 .of_wp fun prog w A R s h=>by
  obtain⟨hp,g,d,tk,os⟩:=s;obtain⟨hl1,hl2,hl3,h⟩:=h
  have hsub:=sub_zip
  have hL1:Heap.IsList (Shared.heap ⟨hp,g,d,tk,os⟩) l1 xs:=hl1
  have hL2:Heap.IsList (Shared.heap ⟨hp.push { cls:=.type "list_iterator",data:=.fields #[.ref l1,.int 0 0] },g,d,tk,os⟩) l2 ys:=Heap.IsList.push hl2 _
  have hL3:Heap.IsList (Shared.heap ⟨(hp.push { cls:=.type "list_iterator",data:=.fields #[.ref l1,.int 0 0] }).push { cls:=.type "list_iterator",data:=.fields #[.ref l2,.int 0 0] },g,d,tk,os⟩) l3 zs:=Heap.IsList.push (Heap.IsList.push hl3 _) _
  wp_walk using wpAny_pyIter_list hL1,wpAny_pyIter_list hL2,wpAny_pyIter_list hL3
  exact⟨_,rfl,h⟩
section
variable{prog:Program}{w:World}{A:Around}{E:Value->Shared->Prop}{s:Shared}
theorem n_k{l1 l2 l3:Addr}{xs ys zs:Array Value}{Q:Value->Shared->Prop}(hl1:s.heap.IsList l1 xs)(hl2:s.heap.IsList l2 ys)(hl3:s.heap.IsList l3 zs)
  (h:∀h',d_L h' (s.heap.objs.size+5) (s.heap.objs.size+3) (s.heap.objs.size+4) .none (.bool false)->b_K h' (s.heap.objs.size+3) (.ref s.heap.objs.size) (.ref (s.heap.objs.size+1)) (.ref (s.heap.objs.size+2))->
   b_K h' (s.heap.objs.size+4) .none .none .none->h'.IsListIter s.heap.objs.size l1 0->h'.IsListIter (s.heap.objs.size+1) l2 0->h'.IsListIter (s.heap.objs.size+2) l3 0->h'.objs.size=s.heap.objs.size+6->
   (∀c o,s.heap.get? c=some o->h'.get? c=some o)->Q (.ref (s.heap.objs.size+5)) { s with heap:=h' }) :
  wpAny (model prog w) A (call (.type "zip") [.ref l1,.ref l2,.ref l3]) Q E s:=by
 refine callType_new F.called_zip (by decide) (F3.typeCall_zip_3 _ _ _) (F3.newCall_zip_3 _ _ _) (fun obj=>F3.args_object_init_4 obj _ _ _) F.entry_zip_new
  (i_t l1 l2 l3 xs ys zs) ⟨hl1,hl2,hl3,?_⟩
 have z1:(zA s.heap l1).objs.size=s.heap.objs.size+1:=Heap.size_push ..
 have z2:(zB s.heap l1 l2).objs.size=s.heap.objs.size+2:=by rw[Heap.size_push,z1]
 have z3:(zC s.heap l1 l2 l3).objs.size=s.heap.objs.size+3:=by rw[Heap.size_push,z2]
 have z4:(zD s.heap l1 l2 l3).objs.size=s.heap.objs.size+4:=by rw[Heap.size_push,z3]
 have z5:(zE s.heap l1 l2 l3).objs.size=s.heap.objs.size+5:=by rw[Heap.size_push,z4]
 have z6:(zF s.heap l1 l2 l3).objs.size=s.heap.objs.size+6:=by rw[Heap.size_push,z5]
 have g6:(zF s.heap l1 l2 l3).get? (zE s.heap l1 l2 l3).objs.size=some _:=Heap.get?_push_size _ rfl
 have g5:(zF s.heap l1 l2 l3).get? (zD s.heap l1 l2 l3).objs.size=some _:=Qac _ (Heap.get?_push_size _ rfl)
 have g4:(zF s.heap l1 l2 l3).get? (zC s.heap l1 l2 l3).objs.size=some _:=Qac _ (Qac _ (Heap.get?_push_size _ rfl))
 have g3:(zF s.heap l1 l2 l3).get? (zB s.heap l1 l2).objs.size=some _:=Qac _ (Qac _ (Qac _ (Heap.get?_push_size _ rfl)))
 have g2:(zF s.heap l1 l2 l3).get? (zA s.heap l1).objs.size=some _:=Qac _ (Qac _ (Qac _ (Qac _ (Heap.get?_push_size _ rfl))))
 have g1:(zF s.heap l1 l2 l3).get? s.heap.objs.size=some _:=Qac _ (Qac _ (Qac _ (Qac _ (Qac _ (Heap.get?_push_size _ rfl)))))
 show _/\_
 rw[z3,z4,z5] at g6
 rw[z1,z2,z3] at g4
 rw[z4] at g5
 rw[z2] at g3
 rw[z1] at g2
 rw[z5]
 exact⟨⟨_,g6,rfl⟩,h _ g6 g4 g5 ⟨_,g1,rfl,rfl⟩ ⟨_,g2,rfl,rfl⟩ ⟨_,g3,rfl,rfl⟩ z6 fun c o x=>
  Qac _ (Qac _ (Qac _ (Qac _ (Qac _ (Qac _ x)))))⟩
theorem i_w{z TI TO i1 i2 i3 l1 l2 l3:Addr}{xs ys zs:Array Value}{Q:Value->Shared->Prop}(hh:A.handled=none)
  (nd:[z,TI,TO,i1,i2,i3].Nodup) (hl:∀l∈[l1,l2,l3],∀j∈[z,TI,TO,i1,i2,i3],l≠j) (hlt:∀j∈[z,TI,TO,i1,i2,i3,l1,l2,l3],j<s.heap.objs.size)
  (hz:d_L s.heap z TI TO .none (.bool false)) (ti:b_K s.heap TI (.ref i1) (.ref i2) (.ref i3)) (to:b_K s.heap TO .none .none .none)
  (h1:s.heap.IsListIter i1 l1 0) (h2:s.heap.IsListIter i2 l2 0) (h3:s.heap.IsListIter i3 l3 0) (hl1:s.heap.IsList l1 xs) (hl2:s.heap.IsList l2 ys) (hl3:s.heap.IsList l3 zs)
  (e2:ys.size=xs.size) (e3:zs.size=xs.size) (hpos:0<xs.size) (hn:xs.size<=sizeLine)
  (hQ:∀h' acc c,(∀b o,b∉[z,TO,i1,i2,i3]->s.heap.get? b=some o->h'.get? b=some o)->h'.get? s.heap.objs.size=some { cls:=.type "list",dict:=none,data:=.seq acc.toArray c,slots:=#[] }->acc.length=xs.size->p_U h' (s.heap.objs.size+1) xs ys zs acc->
   Q (.ref s.heap.objs.size) { s with heap:=h' }):wpAny (model prog w) A (call (.type "list") [.ref z]) Q E s:=by
 have hSf:s.heap.objs.size∉[z,TI,TO,i1,i2,i3,l1,l2,l3]:=fun hm=>Nat.lt_irrefl _ (hlt _ hm)
 have hSI:s.heap.objs.size≠z:=fun e=>hSf (by simp[e])
 refine callType_codes (Q₁:=fun obj s₁=>obj=.ref s.heap.objs.size/\s₁ = { s with heap:=s.heap.push { cls:=.type "list",data:=.seq #[] } }) F.called_list (F.typeCall_list_1 _) F.entry_list_init
  (code_list_new _ ⟨rfl,rfl⟩) fun obj s₁ h₁=>?_
 obtain⟨rfl,rfl⟩:=h₁
 have hS:(s.heap.push { cls:=.type "list",data:=.seq #[] }).get? s.heap.objs.size=some { cls:=.type "list",data:=.seq #[] }:=Heap.get?_push_size _ rfl
 have hTz:∀h',d_L h' z TI TO .none (.bool false)->Shared.TypeIs { s with heap:=h' } (.ref z) "zip":=fun h' q=>⟨_,q,rfl⟩
 refine⟨⟨_,hS,rfl⟩,F.args_list_init_2 _ _,?_⟩
 have pu:∀b o,s.heap.get? b=some o->(s.heap.push { cls:=.type "list",data:=.seq #[] }).get? b=some o:=fun b o e=>Qac _ e
 show wpAny _ A.in1.in1 (do let old <-Builtin.List.listItems (.ref s.heap.objs.size);Builtin.List.listUpdate (.ref s.heap.objs.size) (fun _=>#[]);letGo old.toList.reverse;Builtin.List.listExtendWith (.ref s.heap.objs.size) (.ref z) .none) _ _ _
 refine Qaa ?_
 unfold Builtin.List.listItems
 refine Qaa (wpAny_seqItems hS rfl (Qab ?_))
 show wpAny _ _ (updateSeq s.heap.objs.size (fun _=>#[]) >>= fun _=>letGo (#[]:Array Value).toList.reverse >>= fun _=>Builtin.List.listExtendWith (.ref s.heap.objs.size) (.ref z) .none) _ _ _
 refine Qaa (wpAny_updateSeq hS rfl ?_)
 have hS₂:=Heap.get?_update_self (Obj.mapSeq (fun _=>(#[]:Array Value))) hS rfl
 refine Qaa (wpAny_letGo ?_)
 generalize hg1:(s.heap.push { cls:=.type "list",data:=.seq #[] }).update s.heap.objs.size (Obj.mapSeq (fun _=>(#[]:Array Value)))=H1 at hS₂ ⊢
 have oth1:∀b o,s.heap.get? b=some o->H1.get? b=some o:=fun b o e=>by
  rw[<-hg1];exact(Heap.get?_update_other _ _ (Nat.ne_of_gt (Qad e))).trans (pu b o e)
 have sz1:H1.objs.size=s.heap.objs.size+1:=by rw[<-hg1,show((s.heap.push { cls:=.type "list",data:=.seq #[] }).update s.heap.objs.size (Obj.mapSeq (fun _=>(#[]:Array Value)))).objs.size=(s.heap.push { cls:=.type "list",data:=.seq #[] }).objs.size from(Heap.SameBut.update ..).1,Heap.size_push]
 unfold Builtin.List.listExtendWith
 refine Qaa (wpAny_typeOf (hTz _ (oth1 _ _ hz)) ?_)
 have g1:Builtin.List.listSameRef (.ref s.heap.objs.size) (.ref z)=false:=by simp[Builtin.List.listSameRef,hSI]
 have g2:(Value.type "zip"==Value.type "list")=false:=by decide
 have g3:(Value.type "zip"==Value.type "tuple")=false:=by decide
 simp only[g1,g2,g3,Bool.or_false,Bool.false_eq_true,if_false]
 refine Qaa (wpAny_pyIter_zip (s:={ s with heap:=H1 }) (oth1 _ _ hz) ?_)
 refine Qaa (wpAny_holding ?_)
 unfold Builtin.List.listLengthHint
 refine Qaa (wpAny_specialOf (hTz _ (oth1 _ _ hz)) F3.zip_no_len ?_)
 show wpAny _ _ (specialOf (Value.ref z) (Str.ofString "__length_hint__") >>= _) _ _ _
 refine Qaa (wpAny_specialOf (hTz _ (oth1 _ _ hz)) F3.zip_no_hint ?_)
 refine Qab ?_
 show wpAny _ _ (rule "list.extend.makes-room" >>= fun _=>Builtin.List.listTouch (.ref s.heap.objs.size) >>= fun _=>
  again (.builtin "list.extend.loop" ⟨[.ref s.heap.objs.size,.ref z,.none],[]⟩)) _ _ _
 refine Qaa (wpAny_rule ?_)
 refine Qaa ?_
 show wpAny _ _ (updateSeq s.heap.objs.size (·.push .none) >>= fun _=>updateSeq s.heap.objs.size (·.pop)) _ _ _
 refine Qaa (wpAny_updateSeq hS₂ rfl ?_)
 have hS₃:=Heap.get?_update_self (Obj.mapSeq (·.push Value.none)) hS₂ rfl
 refine wpAny_updateSeq (hz:=by seq_fits) hS₃ rfl ?_
 have hS₄:=Heap.get?_update_self (Obj.mapSeq (·.pop)) hS₃ rfl
 generalize hg2:(H1.update s.heap.objs.size (Obj.mapSeq (·.push Value.none))).update s.heap.objs.size (Obj.mapSeq (·.pop))=H2 at hS₄ ⊢
 have oth2:∀b o,s.heap.get? b=some o->H2.get? b=some o:=fun b o e=>by
  rw[<-hg2];exact(Heap.get?_update_other _ _ (Nat.ne_of_gt (Qad e))).trans ((Heap.get?_update_other _ _ (Nat.ne_of_gt (Qad e))).trans (oth1 b o e))
 have sz2:H2.objs.size=s.heap.objs.size+1:=by
  rw[<-hg2,show((H1.update s.heap.objs.size (Obj.mapSeq (·.push Value.none))).update s.heap.objs.size (Obj.mapSeq (·.pop))).objs.size=(H1.update s.heap.objs.size (Obj.mapSeq (·.push Value.none))).objs.size from(Heap.SameBut.update ..).1,
   show(H1.update s.heap.objs.size (Obj.mapSeq (·.push Value.none))).objs.size=H1.objs.size from(Heap.SameBut.update ..).1,sz1]
 refine Qab ⟨plainId_quiet F.plain_extend_loop _,l_u (A:=A.in1) (n₀:=s.heap.objs.size+1) (show A.in1.handled=none from hh) nd hl hSf (fun j hj=>?_) e2 e3 hpos hn _ xs.size 0 _ [] _ rfl (Nat.zero_le _)
  ⟨⟨_,_,oth2 _ _ hz,.inl rfl,.inl ⟨rfl,rfl,rfl⟩⟩,oth2 _ _ ti,⟨_,_,_,oth2 _ _ to⟩,h1.at fun o e=>oth2 _ o e,h2.at fun o e=>oth2 _ o e,h3.at fun o e=>oth2 _ o e,hl1.at fun o e=>oth2 _ o e,hl2.at fun o e=>oth2 _ o e,hl3.at fun o e=>oth2 _ o e⟩
  (Nat.le_of_eq sz2.symm) hS₄ rfl (fun j v h=>by simp at h) fun h' acc' c' hk' hS' hl' tr'=>?_⟩
 ·rcases List.mem_cons.mp hj with rfl | hj
  ·exact Nat.lt_succ_self _
  ·refine Nat.lt_succ_of_lt (hlt j ?_)
   simp only[List.mem_cons,List.not_mem_nil,or_false] at hj ⊢
   rcases hj with q | q | q | q | q | q<;>simp[q]
 ·refine⟨rfl,hQ h' acc' c' (fun b o hb e=>hk' b o (fun m=>?_) (oth2 b o e)) hS' hl' tr'⟩
  rcases List.mem_cons.mp m with q | q
  ·exact absurd (Qad e) (by rw[q];exact Nat.lt_irrefl _)
  ·exact hb q
end
end L2
namespace L2
open PySem PySem.Spec PyProof.Rows
noncomputable def keyless:List PyData->Bool
 | []=>true
 | .tuple _::_=>true
 | _::ds=>!ds.isEmpty&&keyless ds
noncomputable def RdT(H:Hp)(a:Addr)(xs:List V)(ds:List PyData):Prop:=H a=some (.tup xs)\/(∃o,H a=some (.frz o (.tup xs)))/\keyless ds=true
theorem RdT.mono{H H':Hp}{a:Addr}{xs:List V}{ds:List PyData}(s:e_3 H H')(h:RdT H a xs ds):RdT H' a xs ds:=h.imp (fun e=>s _ _ e) fun⟨⟨o,e⟩,k⟩=>⟨⟨o,s _ _ e⟩,k⟩
theorem RdT.rd{H:Hp}{a:Addr}{xs:List V}{ds:List PyData}(h:RdT H a xs ds):Rd H a (.tup xs):=h.imp id fun z=>z.1
mutual
inductive DV (H:Hp):V->PyData->Prop where
 | non:DV H .non .none
 | bl (b:Bool):DV H (.bl b) (.bool b)
 | int (i:Int):DV H (.int i) (.int i)
 | str (x:Str):DV H (.str x) (.str x)
 | lst {a:Addr}{xs:List V}{ds:List PyData}:H a=some (.lst xs)->DVs H xs ds->DV H (.ref a) (.list ds)
 | tup {a:Addr}{xs:List V}{ds:List PyData}:RdT H a xs ds->DVs H xs ds->DV H (.ref a) (.tuple ds)
inductive DVs (H:Hp):List V->List PyData->Prop where
 | nil:DVs H [] []
 | cons {x:V}{xs:List V}{d:PyData}{ds:List PyData}:DV H x d->DVs H xs ds->DVs H (x::xs) (d::ds)
end
section
variable{H H':Hp}
mutual
theorem DV.mono(s:e_3 H H'):∀{v:V}{d:PyData},DV H v d->DV H' v d
 | _,_,.non=>.non
 | _,_,.bl b=>.bl b
 | _,_,.int i=>.int i
 | _,_,.str x=>.str x
 | _,_,.lst h r=>.lst (s _ _ h) (DVs.mono s r)
 | _,_,.tup h r=>.tup (h.mono s) (DVs.mono s r)
theorem DVs.mono(s:e_3 H H'):∀{vs:List V}{ds:List PyData},DVs H vs ds->DVs H' vs ds
 | _,_,.nil=>.nil
 | _,_,.cons h r=>.cons (DV.mono s h) (DVs.mono s r)
end
theorem DVs.length:∀{vs:List V}{ds:List PyData},DVs H vs ds->vs.length=ds.length
 | _,_,.nil=>rfl
 | _,_,.cons _ r=>congrArg (·+1) r.length
theorem DVs.append:∀{vs ws:List V}{ds es:List PyData},DVs H vs ds->DVs H ws es->DVs H (vs++ws) (ds++es)
 | _,_,_,_,.nil,s=>s
 | _,_,_,_,.cons h r,s=>.cons h (r.append s)
theorem DVs.get:∀{vs:List V}{ds:List PyData}{i:Nat}{d:PyData},DVs H vs ds->ds[i]? = some d->∃v,vs[i]? = some v/\DV H v d
 | _,_,_,_,.nil,e=>by simp at e
 | _,_,0,_,.cons h _,e=>by simp at e;subst e;exact⟨_,rfl,h⟩
 | _,_,i+1,d,.cons _ r,e=>by
  obtain⟨v,h1,h2⟩:=r.get (i:=i) (d:=d) (by simpa using e)
  exact⟨v,by simpa using h1,h2⟩
theorem DVs.get':∀{vs:List V}{ds:List PyData}{i:Nat}{v:V},DVs H vs ds->vs[i]? = some v->∃d,ds[i]? = some d/\DV H v d
 | _,_,_,_,.nil,e=>by simp at e
 | _,_,0,_,.cons h _,e=>by simp at e;subst e;exact⟨_,rfl,h⟩
 | _,_,i+1,d,.cons _ r,e=>by
  obtain⟨v,h1,h2⟩:=r.get' (i:=i) (v:=d) (by simpa using e)
  exact⟨v,by simpa using h1,h2⟩
theorem DVs.drop:∀{vs:List V}{ds:List PyData}(n:Nat),DVs H vs ds->DVs H (vs.drop n) (ds.drop n)
 | _,_,0,r=>r
 | _,_,_+1,.nil=>.nil
 | _,_,n+1,.cons _ r=>r.drop n
theorem a_l{a:Addr}{o:HO}(h:H a=none):e_3 H (upd H a o):=fun b u e=>by rw[a_u (b_h e h)];exact e
theorem DV.tup_inv{v:V}{ds:List PyData}(h:DV H v (.tuple ds)):∃a xs,v=.ref a/\Rd H a (.tup xs)/\DVs H xs ds:=by
 cases h with | tup h r=>exact⟨_,_,rfl,h.rd,r⟩
theorem DV.tup_invK{v:V}{ds:List PyData}(h:DV H v (.tuple ds))(hk:keyless ds=false):∃a xs,v=.ref a/\H a=some (.tup xs)/\DVs H xs ds:=by
 cases h with | tup h r=>exact⟨_,_,rfl,h.elim id (fun z=>by rw[hk] at z;cases z.2),r⟩
theorem DV.lst_inv{v:V}{ds:List PyData}(h:DV H v (.list ds)):∃a xs,v=.ref a/\H a=some (.lst xs)/\DVs H xs ds:=by
 cases h with | lst h r=>exact⟨_,_,rfl,h,r⟩
theorem DV.int_inv{v:V}{i:Int}(h:DV H v (.int i)):v=.int i:=by cases h;rfl
theorem DV.str_inv{v:V}{x:Str}(h:DV H v (.str x)):v=.str x:=by cases h;rfl
theorem DV.bl_inv{v:V}{b:Bool}(h:DV H v (.bool b)):v=.bl b:=by cases h;rfl
theorem DV.non_inv{v:V}(h:DV H v .none):v=.non:=by cases h;rfl
end
section
variable{X:Cx}{pins:List (Addr×Obj)}{Y:St}{H:Hp}{s:Shared}
mutual
theorem Inv.reads(I:Inv X pins Y H s):∀{v:V}{d:PyData}{u:Value},DV H v d->c_b v u->∃as,Reads s.heap u d as
 | _,_,_,.non,r=>by cases r;exact⟨_,.none⟩
 | _,_,_,.bl b,r=>by cases r;exact⟨_,.bool b⟩
 | _,_,_,.int i,r=>by obtain⟨t,rfl⟩:=r;exact⟨_,.int i t⟩
 | _,_,_,.str x,r=>by obtain⟨t,rfl⟩:=r;exact⟨_,.str x t⟩
 | _,_,_,.lst h q,r=>by
  cases r
  obtain⟨_,its,n,rv,e⟩:=I.hok _ _ h
  obtain⟨as,z⟩:=I.readsAll q rv
  exact⟨_,reads_list_at e rfl rfl (by simpa using z)⟩
 | _,_,_,.tup h q,r=>by
  cases r
  obtain⟨_,its,rv,o,e,c,n,d⟩:=h.rd.ok I.hok
  obtain⟨as,z⟩:=I.readsAll q rv
  exact⟨_,reads_tuple_at e c d (by simpa using z)⟩
theorem Inv.readsAll(I:Inv X pins Y H s):∀{vs:List V}{ds:List PyData}{us:List Value},DVs H vs ds->b_M vs us->∃as,ReadsAll s.heap us ds as
 | _,_,_,.nil,.nil=>⟨_,.nil⟩
 | _,_,_,.cons h q,.cons r rr=>by
  obtain⟨as,z⟩:=I.reads h r
  obtain⟨bs,z'⟩:=I.readsAll q rr
  exact⟨_,.cons z z'⟩
end
end
section
variable{X:Cx}
noncomputable def x_P(neg:Bool):R2:=fun x y H Q=>∃d e,DV H x d/\DV H y e/\SeqAt.shaped d=true/\SeqAt.shaped e=true/\Q (.bl (PyData.eqv d e != neg)) H
theorem q_N(hu:X.A.units+64<cLine):OpR X (compareOp .Eq) (x_P false):=by
 intro pins s Y H x y v u Q I rx ry h
 obtain⟨d,e,h1,h2,h3,h4,q⟩:=h
 obtain⟨as,z1⟩:=I.reads h1 rx
 obtain⟨bs,z2⟩:=I.reads h2 ry
 exact eq_dataH z1 z2 h3 h4 hu ⟨_,H,I,by show Value.bool (PyData.eqv d e)=Value.bool (PyData.eqv d e != false);rw[Bool.bne_false],q⟩
theorem r_f(hu:X.A.units+64<cLine):OpR X (compareOp .NotEq) (x_P true):=by
 intro pins s Y H x y v u Q I rx ry h
 obtain⟨d,e,h1,h2,h3,h4,q⟩:=h
 obtain⟨as,z1⟩:=I.reads h1 rx
 obtain⟨bs,z2⟩:=I.reads h2 ry
 exact ne_dataH z1 z2 h3 h4 hu ⟨_,H,I,by show Value.bool (!PyData.eqv d e)=Value.bool (PyData.eqv d e != true);rw[Bool.bne_true],q⟩
@[simp] noncomputable def s_B:PyData->String
 | .none=>"NoneType"
 | .bool _=>"bool"
 | .int _=>"int"
 | .str _=>"str"
 | .list _=>"list"
 | .tuple _=>"tuple"
 | .dict _=>"dict"
noncomputable def z_m:List V->Hp->VK->Prop:=fun xs H Q=>∃x d n b,xs=[x,.ty n]/\DV H x d/\(∀K:Frag,kitOne K (.type (s_B d)) (.type n)=some b)/\Q (.bl b) H
theorem l_r:i_p X (.builtin "isinstance") z_m:=by
 intro pins s Y H xs us Q I r h
 obtain⟨x,d,n,b,rfl,hd,e,q⟩:=h
 obtain⟨u,w,rfl,r1,r2⟩:=vals2 r
 cases r2
 have fin:∀tk,EP X pins Y Q (.bool b) { s with toks:=tk }:=fun tk=>⟨.bl b,H,I.tok tk,rfl,q⟩
 cases hd with
 | non=>exact f_b I r1 .non (e _) fin
 | bl c=>exact f_b I r1 (.bl c) (e _) fin
 | int i=>exact f_b I r1 (.int i) (e _) fin
 | str z=>exact f_b I r1 (.str z) (e _) fin
 | lst h r=>exact f_b I r1 (.lst h) (e _) fin
 | @tup a xs ds h r=>
  cases(show u=Value.ref a from r1)
  obtain⟨_,_,_,p⟩:=h.rd.ok I.hok
  obtain⟨o,h1,h2,_⟩:=p
  exact kia_one PySem.W.kitx_tuple I.kIn ⟨o,h1,h2⟩ (e _) (fun z=>nomatch z) fin
end
section
variable{X:Cx}{pins:List (Addr×Obj)}{Y:St}{H:Hp}{s:Shared}{h':Heap}
theorem Inv.turnedNew{ch:List Addr}{a:Addr}{o:HO}{t':Nat}(I:Inv X pins Y H s)(hch:∀b∈ch,n_q X pins H b)(k:∀b ob,b∉ch->s.heap.get? b=some ob->h'.get? b=some ob)(hp:s.heap.objs.size<=a)
  (there:∀b∈ch,∀ob,s.heap.get? b=some ob->∃ob',h'.get? b=some ob') (new:c_V X.prog X.w (upd H a o) h' a o):Inv X pins Y (upd H a o) { s with heap:=h',toks:=t' }:=by
 have hn:=I.hok.fresh hp
 have nch:∀b u,H b=some u->b∉ch:=fun b u e z=>by rw[(hch b z).1] at e;cases e
 refine I.step (g':=s.gens) (d':=s.drawn) (ch:=ch) (fun b hb=>⟨(hch b hb).2.2.2.1,(hch b hb).2.1,(hch b hb).2.2.2.2.1,(hch b hb).2.2.2.2.2⟩) (fun b ob _ _ hc e _=>k b ob hc e) (fun b ob _ _ hc e _=>⟨ob.slots,k b ob hc e⟩)
  (fun b ob _ e n=>by rw[a_u (Nat.ne_of_lt (Nat.lt_of_lt_of_le (Qad e) hp))];exact n) (fun b ob hc e=>⟨ob,k b ob hc e⟩) (fun b xs e=>a_l hn b _ e) (fun b ob u e=>a_l hn b _ e) (fun b ps e=>⟨#[],by rw[a_l hn b _ e];simp⟩) (fun m hm=>?_) (fun b u e=>?_) I.bare
 ·obtain⟨oL,es,ep,ho,r⟩:=hm
  exact⟨oL,es,ep,k _ oL (fun z=>(hch _ z).2.1 rfl) ho,r⟩
 ·by_cases hb:b=a
  ·subst hb;rw[a_A] at e;cases e;exact new
  ·rw[a_u hb] at e
   refine(I.hok b u e).stay (fun c v hc q=>k c v ?_ q) (fun c q=>a_l hn c _ q) fun c xs q=>a_l hn c _ q
   rcases hc with z | z
   ·rw[z];exact nch b u e
   ·exact nch c _ z
end
end L2
namespace L2.L3
open PySem PySem.Spec PyProof.Rows
noncomputable def hide(O:List Addr)(H:Hp):Hp:=fun b=>if b∈O then none else H b
section
variable{O O':List Addr}{H H' H1 H2:Hp}
theorem e_x{b:Addr}{o:HO}(h:H b=some o)(n:b∉O):hide O H b=some o:=by unfold hide;rw[if_neg n];exact h
theorem a_1{b:Addr}{o:HO}(h:hide O H b=some o):H b=some o/\b∉O:=by
 unfold hide at h
 by_cases e:b∈O
 ·rw[if_pos e] at h;cases h
 ·rw[if_neg e] at h;exact⟨h,e⟩
theorem d_v{a:Addr}{u:HO}(h:Rd (hide O H) a u):Rd H a u/\a∉O:=by
 rcases h with h | ⟨o,h⟩
 ·obtain⟨e,n⟩:=a_1 h;exact⟨.inl e,n⟩
 ·obtain⟨e,n⟩:=a_1 h;exact⟨.inr ⟨o,e⟩,n⟩
theorem j_W:e_3 (hide O H) H:=fun b o h=>(a_1 h).1
structure Stp (O:List Addr) (H:Hp) (O':List Addr) (H':Hp):Prop where
 keep:∀b o,b∉O->H b=some o->H' b=some o
 new:∀a∈O',a∈O\/H a=none
theorem Stp.refl:Stp O H O H:=⟨fun _ _ _ h=>h,fun _ h=>.inl h⟩
theorem Stp.trans{O1 O2 O3:List Addr}{H3:Hp}(a:Stp O1 H1 O2 H2)(b:Stp O2 H2 O3 H3):Stp O1 H1 O3 H3:=by
 have nw:∀c o,c∉O1->H1 c=some o->c∉O2:=fun c o hc e z=>(a.new c z).elim hc fun n=>by rw[n] at e;cases e
 refine⟨fun c o hc e=>b.keep c o (nw c o hc e) (a.keep c o hc e),fun c h=>?_⟩
 by_cases hc:c∈O1
 ·exact .inl hc
 ·refine .inr ?_
  cases e:H1 c with
  | none=>rfl
  | some o=>
   rcases b.new c h with z | z
   ·exact absurd z (nw c o hc e)
   ·rw[a.keep c o hc e] at z;cases z
theorem Stp.same(s:e_3 H H'):Stp O H O H':=⟨fun b o _ e=>s b o e,fun _ h=>.inl h⟩
theorem Stp.hid(s:Stp O H O' H'):e_3 (hide O H) (hide O' H'):=fun b o e=>by
 obtain⟨e1,n⟩:=a_1 e
 refine e_x (s.keep b o n e1) fun z=>?_
 rcases s.new b z with q | q
 ·exact n q
 ·rw[q] at e1;cases e1
theorem d_F(s:e_3 H H'):e_3 (hide O H) (hide O H'):=(Stp.same s).hid
theorem f_w(s:∀a∈O',a∈O):e_3 (hide O H) (hide O' H):=fun b o e=>by
 obtain⟨e1,n⟩:=a_1 e
 exact e_x e1 fun z=>n (s b z)
end
inductive Fl where
 | d (x:PyData) | l (ds:List PyData) | m (tk:Bool) (kvs:List (PyData×PyData))
inductive Bx where
 | l (ds:List PyData) | m (tk:Bool) (kvs:List (PyData×PyData)) | o (C:Addr) (fs:List (Str×Fl)) | sd (fs:List (Str×Fl)) | ll (xs:List (List PyData)) | pr (C:Addr) (fs:List (Str×Fl)) (d:PyData)
inductive Cell where
 | dat (d:PyData)
 | own (io:Bool) (b:Bx)
 | scr (ns:List Int)
 | exc (c:Str)
 | vw (b:Bx)
noncomputable abbrev a_q:=List (Option Cell)
structure Fx where
 H₀:Hp
 A₀:List Addr
 O₀:List Addr
 I₀:Nat->Addr
noncomputable def Scr(K:Frag)(H:Hp)(a:Addr)(ns:List Int):Prop:=ns.length<=63/\((∃o,H a=some (.frz o (.lst (ns.map V.int))))\/
 ∃(o:Obj) (its:Array Value) (n:Nat),K.lookup a=some o/\o.cls=.type "list"/\o.dict=none/\o.data=.seq its n/\its.size<=sizeLine/\b_M (ns.map V.int) its.toList)
theorem Scr.sq{K:Frag}{H:Hp}{a:Addr}{ns:List Int}(h:Scr K H a ns):SqL K H a (ns.map V.int):=h.2.elim (fun⟨o,e⟩=>.inl (.inr ⟨o,e⟩)) .inr
theorem Scr.mono{K:Frag}{H H':Hp}{a:Addr}{ns:List Int}(h:Scr K H a ns)(k:∀o u,H a=some (.frz o u)->H' a=some (.frz o u)):Scr K H' a ns:=⟨h.1,h.2.imp (fun⟨o,e⟩=>⟨o,k _ _ e⟩) id⟩
noncomputable def v_j(K:Frag)(a:Addr)(c:Str)(h:Heap):Prop:=∃C o,nsIn K mainGlobals c=some (some (.ref C))/\h.get? a=some o/\o.cls=.ref C
noncomputable def o_5:Key->PyData
 | .inl i=>.int i
 | .inr x=>.str x
noncomputable def w_l(ks:List Key):PyData:=.tuple (ks.map o_5)
noncomputable def j_f(G H:Hp)(a:Addr):Bool->List (PyData×PyData)->Prop
 | false,kvs=>∃ks:List (Key×V),H a=some (.dK ks)/\Paired (fun(p:Key×V) (q:PyData×PyData)=>o_5 p.1=q.1/\DV G p.2 q.2) ks kvs
 | true,kvs=>∃ks:List (List Key×V),H a=some (.dT ks)/\Paired (fun(p:List Key×V) (q:PyData×PyData)=>w_l p.1=q.1/\DV G p.2 q.2) ks kvs
noncomputable def l_9(G H:Hp)(v:V):Fl->List Addr->Prop
 | .d x,fp=>fp=[]/\DV G v x
 | .l ds,fp=>∃a xs,v=.ref a/\fp=[a]/\H a=some (.lst xs)/\DVs G xs ds
 | .m tk kvs,fp=>∃a,v=.ref a/\fp=[a]/\j_f G H a tk kvs
inductive FlsAt (G H:Hp):List (Str×V)->List (Str×Fl)->List (List Addr)->Prop where
 | nil:FlsAt G H [] [] []
 | cons {n:Str}{v:V}{f:Fl}{fp:List Addr}{gs:List (Str×V)}{fs:List (Str×Fl)}{fps:List (List Addr)}:l_9 G H v f fp->FlsAt G H gs fs fps->FlsAt G H ((n,v)::gs) ((n,f)::fs) (fp::fps)
noncomputable def w_h(G H:Hp)(b:Addr)(ds:List PyData):Prop:=∃vs,H b=some (.lst vs)/\DVs G vs ds
noncomputable def f_Z(G H:Hp)(a:Addr):Bx->List Addr->Prop
 | .l ds,fp=>fp=[a]/\∃xs,H a=some (.lst xs)/\DVs G xs ds
 | .m tk kvs,fp=>fp=[a]/\j_f G H a tk kvs
 | .o C fs,fp=>∃dx gs fps,fp=a::dx::fps.flatten/\H a=some (.ins C dx gs)/\H dx=some (.own a)/\FlsAt G H gs fs fps
 | .sd fs,fp=>∃gs fps,fp=a::fps.flatten/\H a=some (.dK (gs.map fun p=>(Sum.inr p.1,p.2)))/\FlsAt G H gs fs fps
 | .ll xs,fp=>∃bs:List Addr,fp=a::bs/\H a=some (.lst (bs.map V.ref))/\Paired (w_h G H) bs xs
 | .pr C fs d,fp=>∃h v dx gs fps,G a=some (.tup [.ref h,v])/\fp=h::dx::fps.flatten/\H h=some (.ins C dx gs)/\H dx=some (.own h)/\FlsAt G H gs fs fps/\DV G v d
noncomputable def Mv:HO->Prop
 | .lst _=>True
 | .dK _=>True
 | .dT _=>True
 | .ins _ _ _=>True
 | .own _=>True
 | _=>False
noncomputable def c_A(K:Frag)(H:Hp)(O:List Addr)(v:V):Cell->List Addr->Prop
 | .dat d,_=>DV (hide O H) v d
 | .own _ b,fp=>∃a,v=.ref a/\f_Z (hide O H) H a b fp
 | .scr ns,_=>∃a,v=.ref a/\Scr K H a ns
 | .exc c,_=>∃a φ,v=.ref a/\hide O H a=some (.ext φ)/\∀h,φ h->v_j K a c h
 | .vw b,_=>∃a fp,v=.ref a/\f_Z (hide O H) (hide O H) a b fp
section
variable{G G' H H':Hp}{a:Addr}{v:V}{fp:List Addr}
theorem j_f.keep{tk:Bool}{kvs:List (PyData×PyData)}(h:j_f G H a tk kvs)(k:H' a=H a)(g:e_3 G G'):j_f G' H' a tk kvs:=by
 cases tk with
 | false=>obtain⟨ks,e,p⟩:=h;exact⟨ks,k.trans e,Paired.mapP p fun _ _ z=>⟨z.1,DV.mono g z.2⟩⟩
 | true=>obtain⟨ks,e,p⟩:=h;exact⟨ks,k.trans e,Paired.mapP p fun _ _ z=>⟨z.1,DV.mono g z.2⟩⟩
theorem j_f.live{tk:Bool}{kvs:List (PyData×PyData)}(h:j_f G H a tk kvs):∃o,H a=some o/\Mv o:=by
 cases tk with
 | false=>obtain⟨ks,e,p⟩:=h;exact⟨_,e,trivial⟩
 | true=>obtain⟨ks,e,p⟩:=h;exact⟨_,e,trivial⟩
theorem l_9.keep{f:Fl}(h:l_9 G H v f fp)(k:∀c∈fp,H' c=H c)(g:e_3 G G'):l_9 G' H' v f fp:=by
 cases f with
 | d x=>exact⟨h.1,DV.mono g h.2⟩
 | l ds=>obtain⟨a,xs,e1,e2,e3,e4⟩:=h;exact⟨a,xs,e1,e2,(k a (by simp[e2])).trans e3,DVs.mono g e4⟩
 | m tk kvs=>obtain⟨a,e1,e2,e3⟩:=h;exact⟨a,e1,e2,e3.keep (k a (by simp[e2])) g⟩
theorem l_9.live{f:Fl}(h:l_9 G H v f fp):∀c∈fp,∃o,H c=some o/\Mv o:=by
 cases f with
 | d x=>obtain⟨rfl,_⟩:=h;intro c hc;cases hc
 | l ds=>obtain⟨a,xs,e1,rfl,e3,e4⟩:=h;intro c hc;obtain rfl:=List.mem_singleton.mp hc;exact⟨_,e3,trivial⟩
 | m tk kvs=>obtain⟨a,e1,rfl,e3⟩:=h;intro c hc;obtain rfl:=List.mem_singleton.mp hc;exact e3.live
theorem FlsAt.keep{gs:List (Str×V)}{fs:List (Str×Fl)}{fps:List (List Addr)}(h:FlsAt G H gs fs fps)(k:∀c∈fps.flatten,H' c=H c)(g:e_3 G G'):FlsAt G' H' gs fs fps:=by
 induction h with
 | nil=>exact .nil
 | cons a b ih=>exact .cons (a.keep (fun c hc=>k c (by simp[hc])) g) (ih fun c hc=>k c (by rw[List.flatten_cons];exact Qai _ hc))
theorem FlsAt.live{gs:List (Str×V)}{fs:List (Str×Fl)}{fps:List (List Addr)}(h:FlsAt G H gs fs fps):∀c∈fps.flatten,∃o,H c=some o/\Mv o:=by
 induction h with
 | nil=>intro c hc;cases hc
 | cons a b ih=>
  intro c hc
  rw[List.flatten_cons] at hc
  rcases List.mem_append.mp hc with hc | hc
  ·exact a.live c hc
  ·exact ih c hc
theorem Lls.keep{bs:List Addr}{xs:List (List PyData)}(h:Paired (w_h G H) bs xs)(k:∀c∈bs,H' c=H c)(g:e_3 G G'):Paired (w_h G' H') bs xs:=by
 induction h with
 | nil=>exact .nil
 | cons a b ih=>obtain⟨vs,e,d⟩:=a;exact .cons ⟨vs,(k _ List.mem_cons_self).trans e,DVs.mono g d⟩ (ih fun c hc=>k c (Qak _ hc))
theorem Lls.live{bs:List Addr}{xs:List (List PyData)}(h:Paired (w_h G H) bs xs):∀c∈bs,∃o,H c=some o/\Mv o:=by
 induction h with
 | nil=>intro c hc;cases hc
 | cons a b ih=>
  intro c hc
  obtain⟨vs,e,d⟩:=a
  rcases List.mem_cons.mp hc with rfl | hc
  ·exact⟨_,e,trivial⟩
  ·exact ih c hc
theorem f_Z.keep{b:Bx}(h:f_Z G H a b fp)(k:∀c∈fp,H' c=H c)(g:e_3 G G'):f_Z G' H' a b fp:=by
 cases b with
 | l ds=>obtain⟨rfl,xs,e,d⟩:=h;exact⟨rfl,xs,(k a (by simp)).trans e,DVs.mono g d⟩
 | m tk kvs=>obtain⟨rfl,d⟩:=h;exact⟨rfl,d.keep (k a (by simp)) g⟩
 | o C fs=>obtain⟨dx,gs,fps,rfl,e1,e2,f⟩:=h;exact⟨dx,gs,fps,rfl,(k a (by simp)).trans e1,(k dx (by simp)).trans e2,f.keep (fun c hc=>k c (by simp[hc])) g⟩
 | sd fs=>obtain⟨gs,fps,rfl,e1,f⟩:=h;exact⟨gs,fps,rfl,(k a (by simp)).trans e1,f.keep (fun c hc=>k c (by simp[hc])) g⟩
 | ll xs=>obtain⟨bs,rfl,e1,f⟩:=h;exact⟨bs,rfl,(k a (by simp)).trans e1,Lls.keep f (fun c hc=>k c (by simp[hc])) g⟩
 | pr C fs d=>obtain⟨h0,v,dx,gs,fps,e0,rfl,e1,e2,f,dv⟩:=h;exact⟨h0,v,dx,gs,fps,g _ _ e0,rfl,(k h0 (by simp)).trans e1,(k dx (by simp)).trans e2,f.keep (fun c hc=>k c (by simp[hc])) g,DV.mono g dv⟩
theorem f_Z.live{b:Bx}(h:f_Z G H a b fp):∀c∈fp,∃o,H c=some o/\Mv o:=by
 cases b with
 | l ds=>obtain⟨rfl,xs,e,d⟩:=h;intro c hc;obtain rfl:=List.mem_singleton.mp hc;exact⟨_,e,trivial⟩
 | m tk kvs=>obtain⟨rfl,d⟩:=h;intro c hc;obtain rfl:=List.mem_singleton.mp hc;exact d.live
 | o C fs=>
  obtain⟨dx,gs,fps,rfl,e1,e2,f⟩:=h
  intro c hc
  rcases List.mem_cons.mp hc with rfl | hc
  ·exact⟨_,e1,trivial⟩
  ·rcases List.mem_cons.mp hc with rfl | hc
   ·exact⟨_,e2,trivial⟩
   ·exact f.live c hc
 | sd fs=>
  obtain⟨gs,fps,rfl,e1,f⟩:=h
  intro c hc
  rcases List.mem_cons.mp hc with rfl | hc
  ·exact⟨_,e1,trivial⟩
  ·exact f.live c hc
 | ll xs=>
  obtain⟨bs,rfl,e1,f⟩:=h
  intro c hc
  rcases List.mem_cons.mp hc with rfl | hc
  ·exact⟨_,e1,trivial⟩
  ·exact Lls.live f c hc
 | pr C fs d=>
  obtain⟨h0,v,dx,gs,fps,e0,rfl,e1,e2,f,dv⟩:=h
  intro c hc
  rcases List.mem_cons.mp hc with rfl | hc
  ·exact⟨_,e1,trivial⟩
  ·rcases List.mem_cons.mp hc with rfl | hc
   ·exact⟨_,e2,trivial⟩
   ·exact f.live c hc
end
theorem c_A.keep{K:Frag}{H H':Hp}{O O':List Addr}{v:V}{c:Cell}{fp:List Addr}(h:c_A K H O v c fp)(s:Stp O H O' H')(k:∀b∈fp,H' b=H b)(z:∀b o u,H b=some (.frz o u)->H' b=some (.frz o u)):c_A K H' O' v c fp:=by
 cases c with
 | dat d=>exact DV.mono s.hid h
 | own io b=>obtain⟨a,e,q⟩:=h;exact⟨a,e,q.keep k s.hid⟩
 | scr ns=>obtain⟨a,e1,q⟩:=h;exact⟨a,e1,q.mono fun o u w=>z _ _ _ w⟩
 | exc c=>obtain⟨a,φ,e1,e2,q⟩:=h;exact⟨a,φ,e1,s.hid _ _ e2,q⟩
 | vw b=>obtain⟨a,fp',e1,q⟩:=h;exact⟨a,fp',e1,q.keep (fun c hc=>by obtain⟨o,e2,_⟩:=q.live c hc;rw[e2];exact s.hid _ _ e2) s.hid⟩
structure DStW (K:Frag) (F:Fx) (H:Hp) (Y:St) (U:a_q) (W:List (List Addr)):Prop where
 at_:∀(i:Nat) (c:Cell),U[i]? = some (some c)->∃v fp,Y[i]? = some (some v)/\W[i]? = some fp/\c_A K H (W.flatten++F.O₀) v c fp
 nd:(W.flatten++F.O₀).Nodup
 kept:∀b o,b∉F.A₀->F.H₀ b=some o->H b=some o
 new:∀a∈W.flatten,a∈F.A₀\/F.H₀ a=none
 live:∀a∈W.flatten++F.O₀,∃o,H a=some o/\Mv o
 len:U.length=Y.length
 lw:W.length=U.length
 io:∀(i:Nat) (b:Bx),U[i]? = some (some (.own true b))->Y[i]? = some (some (.ref (F.I₀ i)))
noncomputable def DSt(K:Frag)(F:Fx)(H:Hp)(Y:St)(U:a_q)(O:List Addr):Prop:=∃W,DStW K F H Y U W/\O=W.flatten++F.O₀
theorem d_2{α:Type}{l:List α}{i j:Nat}{x y:α}(e:(l.set i x)[j]? = some y):(j=i/\y=x/\i<l.length)\/(j≠i/\l[j]? = some y):=by
 by_cases hj:j=i
 ·subst hj
  have hlt:j<l.length:=by
   have:=(List.getElem?_eq_some_iff.mp e).1
   rwa [List.length_set] at this
  rw[List.getElem?_set_self hlt] at e
  exact .inl ⟨rfl,(Option.some.inj e).symm,hlt⟩
 ·rw[List.getElem?_set_ne (Ne.symm hj)] at e
  exact .inr ⟨hj,e⟩
theorem a_C{α:Type}{W:List (List α)}{i:Nat}{fp:List α}{a:α}(h:a∈(W.set i fp).flatten):a∈fp\/∃j l,j≠i/\W[j]? = some l/\a∈l:=by
 obtain⟨l,hl,ha⟩:=List.mem_flatten.mp h
 obtain⟨j,hj⟩:=List.getElem?_of_mem hl
 rcases d_2 hj with⟨_,rfl,_⟩ | ⟨hj',e⟩
 ·exact .inl ha
 ·exact .inr ⟨j,l,hj',e,ha⟩
theorem a_d{α:Type}{W:List (List α)}{j:Nat}{l:List α}{a:α}(h:W[j]? = some l)(ha:a∈l):a∈W.flatten:=List.mem_flatten.mpr ⟨l,List.mem_of_getElem? h,ha⟩
theorem k_m{α:Type}{W:List (List α)}{i j:Nat}{fp l:List α}{a:α}(hj:j≠i)(h:W[j]? = some l)(ha:a∈l):a∈(W.set i fp).flatten:=a_d (j:=j) (by rw[List.getElem?_set_ne (Ne.symm hj)];exact h) ha
theorem g_x{α:Type}{W:List (List α)}{i:Nat}{fp:List α}{a:α}(hi:i<W.length)(ha:a∈fp):a∈(W.set i fp).flatten:=a_d (j:=i) (List.getElem?_set_self hi) ha
theorem d_G{α:Type}:∀{W:List (List α)}{i j:Nat}{l m:List α}{a:α},W.flatten.Nodup->W[i]? = some l->W[j]? = some m->i≠j->a∈l->a∉m
 | [],_,_,_,_,_,_,h,_,_,_=>by simp at h
 | w::W,0,0,_,_,_,_,_,_,hn,_=>absurd rfl hn
 | w::W,0,j+1,l,m,a,nd,h1,h2,_,ha=>fun hm=>by
  have e:w=l:=by simpa using h1
  subst e
  rw[List.flatten_cons] at nd
  exact(List.nodup_append.mp nd).2.2 a ha a (a_d (j:=j) (by simpa using h2) hm) rfl
 | w::W,i+1,0,l,m,a,nd,h1,h2,_,ha=>fun hm=>by
  have e:w=m:=by simpa using h2
  subst e
  rw[List.flatten_cons] at nd
  exact(List.nodup_append.mp nd).2.2 a hm a (a_d (j:=i) (by simpa using h1) ha) rfl
 | w::W,i+1,j+1,l,m,a,nd,h1,h2,hn,ha=>d_G (W:=W) (i:=i) (j:=j) (by rw[List.flatten_cons] at nd;exact(List.nodup_append.mp nd).2.1) (by simpa using h1) (by simpa using h2) (by omega) ha
theorem g_H{α:Type}[DecidableEq α]:∀{W:List (List α)}{i:Nat}{fp O:List α},(W.flatten++O).Nodup->fp.Nodup->(∀a∈fp,(∀j l,j≠i->W[j]? = some l->a∉l)/\a∉O)->((W.set i fp).flatten++O).Nodup
 | [],i,fp,O,h,_,_=>by simpa using h
 | w::W,0,fp,O,h,hf,hd=>by
  rw[List.set_cons_zero,List.flatten_cons,List.append_assoc]
  rw[List.flatten_cons,List.append_assoc] at h
  refine List.nodup_append.mpr ⟨hf,(List.nodup_append.mp h).2.1,fun a ha b hb e=>?_⟩
  subst e
  rcases List.mem_append.mp hb with hb | hb
  ·obtain⟨l,hl,hal⟩:=List.mem_flatten.mp hb
   obtain⟨j,hj⟩:=List.getElem?_of_mem hl
   exact(hd a ha).1 (j+1) l (by omega) (by simpa using hj) hal
  ·exact(hd a ha).2 hb
 | w::W,i+1,fp,O,h,hf,hd=>by
  rw[List.set_cons_succ,List.flatten_cons,List.append_assoc]
  rw[List.flatten_cons,List.append_assoc] at h
  obtain⟨h1,h2,h3⟩:=List.nodup_append.mp h
  have ih:=g_H (W:=W) (i:=i) (fp:=fp) (O:=O) h2 hf fun a ha=>⟨fun j l hj e=>(hd a ha).1 (j+1) l (by omega) (by simpa using e),(hd a ha).2⟩
  refine List.nodup_append.mpr ⟨h1,ih,fun a ha b hb e=>?_⟩
  subst e
  rcases List.mem_append.mp hb with hb | hb
  ·rcases a_C hb with hb | ⟨j,l,hj,e,hl⟩
   ·exact(hd a hb).1 0 w (by omega) (by simp) ha
   ·exact h3 a ha a (Qaj _ (a_d e hl)) rfl
  ·exact h3 a ha a (Qai _ hb) rfl
section
variable{K:Frag}{F:Fx}{H H':Hp}{Y:St}{U:a_q}{O O':List Addr}{W:List (List Addr)}
theorem DStW.nofrz(st:DStW K F H Y U W){b:Addr}(h:b∈W.flatten++F.O₀){o:Obj}{u:HO}:H b≠some (.frz o u):=fun z=>by
 obtain⟨o',e,m⟩:=st.live b h
 rw[z] at e;cases e;exact m
theorem DStW.put(st:DStW K F H Y U W){i:Nat}{v:V}{c:Cell}{fp:List Addr}(hi:i<U.length)
  (keep:∀j l b,j≠i->W[j]? = some l->b∈l->H' b=H b) (keepO:∀b∈F.O₀,H' b=H b) (frz:∀b o,b∉W.flatten++F.O₀->H b=some o->H' b=some o)
  (nd:fp.Nodup) (ap:∀a∈fp,(∀j l,j≠i->W[j]? = some l->a∉l)/\a∉F.O₀) (new:∀a∈fp,a∈W.flatten\/H a=none) (liv:∀a∈fp,∃o,H' a=some o/\Mv o)
  (hc:Stp (W.flatten++F.O₀) H ((W.set i fp).flatten++F.O₀) H'->c_A K H' ((W.set i fp).flatten++F.O₀) v c fp) (hio:∀b,c=.own true b->v=.ref (F.I₀ i)) :
  DStW K F H' (Y.set i (some v)) (U.set i (some c)) (W.set i fp)/\Stp (W.flatten++F.O₀) H ((W.set i fp).flatten++F.O₀) H':=by
 have stp:Stp (W.flatten++F.O₀) H ((W.set i fp).flatten++F.O₀) H':=⟨frz,fun a h=>by
  rcases List.mem_append.mp h with h | h
  ·rcases a_C h with h | ⟨j,l,_,e,hl⟩
   ·exact(new a h).imp (Qaj _) id
   ·exact .inl (Qaj _ (a_d e hl))
  ·exact .inl (Qai _ h)⟩
 have zf:∀b o u,H b=some (.frz o u)->H' b=some (.frz o u):=fun b o u e=>frz b _ (fun z=>st.nofrz z e) e
 have hiW:i<W.length:=by rw[st.lw];exact hi
 refine⟨⟨fun j d e=>?_,g_H st.nd nd ap,fun b o hA e=>?_,fun a h=>?_,fun a h=>?_,by rw[List.length_set,List.length_set,st.len],by rw[List.length_set,List.length_set,st.lw],fun j b e=>?_⟩,stp⟩
 ·rcases d_2 e with⟨rfl,e1,_⟩ | ⟨hj,e1⟩
  ·cases e1
   exact⟨v,fp,List.getElem?_set_self (by rw[<-st.len];exact hi),List.getElem?_set_self hiW,hc stp⟩
  ·obtain⟨w,l,h1,h2,h3⟩:=st.at_ j d e1
   exact⟨w,l,by rw[List.getElem?_set_ne (Ne.symm hj)];exact h1,by rw[List.getElem?_set_ne (Ne.symm hj)];exact h2,h3.keep stp (fun b hb=>keep j l b hj h2 hb) zf⟩
 ·have e1:=st.kept b o hA e
  by_cases hO:b∈F.O₀
  ·rw[keepO b hO];exact e1
  ·refine frz b o (fun z=>?_) e1
   rcases List.mem_append.mp z with z | z
   ·rcases st.new b z with q | q
    ·exact hA q
    ·rw[q] at e;cases e
   ·exact hO z
 ·rcases a_C h with h | ⟨j,l,_,e,hl⟩
  ·rcases new a h with q | q
   ·exact st.new a q
   ·by_cases hA:a∈F.A₀
    ·exact .inl hA
    ·refine .inr ?_
     cases e:F.H₀ a with
     | none=>rfl
     | some o=>rw[st.kept a o hA e] at q;cases q
  ·exact st.new a (a_d e hl)
 ·rcases List.mem_append.mp h with h | h
  ·rcases a_C h with h | ⟨j,l,hj,e,hl⟩
   ·exact liv a h
   ·obtain⟨o,h1,h2⟩:=st.live a (Qaj _ (a_d e hl))
    exact⟨o,by rw[keep j l a hj e hl];exact h1,h2⟩
  ·obtain⟨o,h1,h2⟩:=st.live a (Qai _ h)
   exact⟨o,by rw[keepO a h];exact h1,h2⟩
 ·rcases d_2 e with⟨rfl,e1,_⟩ | ⟨hj,e1⟩
  ·rw[List.getElem?_set_self (by rw[<-st.len];exact hi),hio b (Option.some.inj e1).symm]
  ·rw[List.getElem?_set_ne (Ne.symm hj)];exact st.io j b e1
theorem DStW.grow(st:DStW K F H Y U W)(s:e_3 H H'):DStW K F H' Y U W where
 at_:=fun i c e=>let⟨v,fp,h1,h2,h3⟩:=st.at_ i c e;⟨v,fp,h1,h2,h3.keep (.same s) (fun b hb=>by
  obtain⟨o,e1,_⟩:=st.live b (Qaj _ (a_d h2 hb))
  rw[e1];exact s _ _ e1) fun b o u e=>s _ _ e⟩
 nd:=st.nd
 kept:=fun b o n e=>s b o (st.kept b o n e)
 new:=st.new
 live:=fun a h=>let⟨o,e,m⟩:=st.live a h;⟨o,s _ _ e,m⟩
 len:=st.len
 lw:=st.lw
 io:=st.io
theorem DSt.grow(st:DSt K F H Y U O)(s:e_3 H H'):DSt K F H' Y U O:=let⟨W,h,e⟩:=st;⟨W,h.grow s,e⟩
theorem DSt.nofree(st:DSt K F H Y U O):∀p,H p=none->p∉O:=fun p hp z=>by
 obtain⟨W,h,rfl⟩:=st
 obtain⟨o,e,_⟩:=h.live p z
 rw[hp] at e;cases e
theorem DSt.dat(st:DSt K F H Y U O){i:Nat}{d:PyData}(e:U[i]? = some (some (.dat d))):∃v,Y[i]? = some (some v)/\DV (hide O H) v d:=by
 obtain⟨W,h,rfl⟩:=st
 obtain⟨v,fp,h1,h2,h3⟩:=h.at_ i _ e
 exact⟨v,h1,h3⟩
theorem DSt.scr(st:DSt K F H Y U O){i:Nat}{ns:List Int}(e:U[i]? = some (some (.scr ns))):∃a,Y[i]? = some (some (.ref a))/\Scr K H a ns:=by
 obtain⟨W,h,rfl⟩:=st
 obtain⟨v,fp,h1,h2,a,rfl,h3⟩:=h.at_ i _ e
 exact⟨a,h1,h3⟩
theorem DSt.set(st:DSt K F H Y U O){i:Nat}{v:V}{d:PyData}(h:DV (hide O H) v d):DSt K F H (Y.set i (some v)) (U.set i (some (.dat d))) O:=by
 obtain⟨W,st,rfl⟩:=st
 refine⟨W,⟨fun j c e=>?_,st.nd,st.kept,st.new,st.live,by rw[List.length_set,List.length_set,st.len],by rw[List.length_set,st.lw],fun j b e=>?_⟩,rfl⟩
 rotate_left
 ·rcases d_2 e with⟨rfl,e1,_⟩ | ⟨hj,e1⟩
  ·cases e1
  ·rw[List.getElem?_set_ne (Ne.symm hj)];exact st.io j b e1
 rcases d_2 e with⟨rfl,e1,hlt⟩ | ⟨hj,e1⟩
 ·cases e1
  obtain⟨fp,hfp⟩:∃fp,W[j]? = some fp:=⟨W[j]'(by rw[st.lw];exact hlt),List.getElem?_eq_getElem _⟩
  exact⟨v,fp,List.getElem?_set_self (by rw[<-st.len];exact hlt),hfp,h⟩
 ·obtain⟨w,l,h1,h2,h3⟩:=st.at_ j c e1
  exact⟨w,l,by rw[List.getElem?_set_ne (Ne.symm hj)];exact h1,h2,h3⟩
theorem DSt.box(st:DSt K F H Y U O){i:Nat}{io:Bool}{b:Bx}(e:U[i]? = some (some (.own io b))):∃a fp,Y[i]? = some (some (.ref a))/\f_Z (hide O H) H a b fp/\(∀c∈fp,c∈O)/\
  ∀(H':Hp) (b':Bx) (fp':List Addr),(∀c o,c∉fp->H c=some o->H' c=some o)->fp'.Nodup->(∀c∈fp',c∈fp\/H c=none)->(∀G,(∀O',Stp O H O' H'->G=hide O' H'->(∀c∈fp',c∈O')->e_3 (hide O H) G/\f_Z G H' a b' fp'))->
   ∃O',DSt K F H' Y (U.set i (some (.own io b'))) O'/\Stp O H O' H'/\(∀c∈O',c∈fp'\/c∈O):=by
 obtain⟨W,st,rfl⟩:=st
 obtain⟨v,fp,h1,h2,a,rfl,h3⟩:=st.at_ i _ e
 have hi:i<U.length:=(List.getElem?_eq_some_iff.mp e).1
 have hiW:i<W.length:=by rw[st.lw];exact hi
 refine⟨a,fp,h1,h3,fun c hc=>Qaj _ (a_d h2 hc),fun H' b' fp' keep nd fr hb=>?_⟩
 have ndW:W.flatten.Nodup:=(List.nodup_append.mp st.nd).1
 have nO:∀c∈fp,c∉F.O₀:=fun c hc z=>(List.nodup_append.mp st.nd).2.2 c (a_d h2 hc) c z rfl
 have kj:∀j l c,j≠i->W[j]? = some l->c∈l->H' c=H c:=fun j l c hj ej hc=>by
  obtain⟨o,eo,_⟩:=st.live c (Qaj _ (a_d ej hc))
  rw[eo]
  exact keep c o (fun z=>d_G ndW ej h2 hj hc z) eo
 have kO:∀c∈F.O₀,H' c=H c:=fun c hc=>by
  obtain⟨o,eo,_⟩:=st.live c (Qai _ hc)
  rw[eo]
  exact keep c o (fun z=>nO c z hc) eo
 have ap:∀c∈fp',(∀j l,j≠i->W[j]? = some l->c∉l)/\c∉F.O₀:=fun c hc=>by
  rcases fr c hc with q | q
  ·exact⟨fun j l hj ej z=>d_G ndW h2 ej (Ne.symm hj) q z,nO c q⟩
  ·refine⟨fun j l _ ej z=>?_,fun z=>?_⟩
   ·obtain⟨o,eo,_⟩:=st.live c (Qaj _ (a_d ej z));rw[q] at eo;cases eo
   ·obtain⟨o,eo,_⟩:=st.live c (Qai _ z);rw[q] at eo;cases eo
 have frz:∀c o,c∉W.flatten++F.O₀->H c=some o->H' c=some o:=fun c o hc ec=>keep c o (fun z=>hc (Qaj _ (a_d h2 z))) ec
 have stp:Stp (W.flatten++F.O₀) H ((W.set i fp').flatten++F.O₀) H':=⟨frz,fun c h=>by
  rcases List.mem_append.mp h with h | h
  ·rcases a_C h with h | ⟨j,l,_,ej,hl⟩
   ·exact(fr c h).imp (fun z=>Qaj _ (a_d h2 z)) id
   ·exact .inl (Qaj _ (a_d ej hl))
  ·exact .inl (Qai _ h)⟩
 have inO':∀c∈fp',c∈(W.set i fp').flatten++F.O₀:=fun c hc=>Qaj _ (g_x hiW hc)
 have hbx:=(hb _ _ stp rfl inO').2
 obtain⟨s1,s2⟩:=st.put (H':=H') (i:=i) (v:=.ref a) (c:=.own io b') (fp:=fp') hi kj kO frz nd ap (fun c hc=>(fr c hc).imp (fun z=>a_d h2 z) id) (fun c hc=>hbx.live c hc) (fun _=>⟨a,rfl,hbx⟩) (fun b2 z=>by cases z;have:=st.io i b e;rw[h1] at this;exact(Option.some.inj (Option.some.inj this)))
 have eY:Y.set i (some (.ref a))=Y:=by
  apply List.ext_getElem?
  intro j
  by_cases hj:j=i
  ·subst hj;rw[List.getElem?_set_self (List.getElem?_eq_some_iff.mp h1).1,h1]
  ·rw[List.getElem?_set_ne (Ne.symm hj)]
 rw[eY] at s1
 refine⟨_,⟨_,s1,rfl⟩,s2,fun c hc=>?_⟩
 rcases List.mem_append.mp hc with hc | hc
 ·rcases a_C hc with hc | ⟨j,l,_,ej,hl⟩
  ·exact .inl hc
  ·exact .inr (Qaj _ (a_d ej hl))
 ·exact .inr (Qai _ hc)
theorem DSt.freeze(st:DSt K F H Y U O){i:Nat}{ds:List PyData}(e:U[i]? = some (some (.own false (.l ds)))) :
  ∃v O',Y[i]? = some (some v)/\DSt K F H Y (U.set i (some (.dat (.list ds)))) O'/\Stp O H O' H/\DV (hide O' H) v (.list ds):=by
 obtain⟨W,st,rfl⟩:=st
 obtain⟨v,fp,h1,h2,a,rfl,rfl,xs,h3,h4⟩:=st.at_ i _ e
 have hi:i<U.length:=(List.getElem?_eq_some_iff.mp e).1
 have ndW:W.flatten.Nodup:=(List.nodup_append.mp st.nd).1
 have nin:a∉(W.set i []).flatten++F.O₀:=fun z=>by
  rcases List.mem_append.mp z with z | z
  ·rcases a_C z with z | ⟨j,l,hj,ej,hl⟩
   ·cases z
   ·exact d_G ndW h2 ej (Ne.symm hj) List.mem_cons_self hl
  ·exact(List.nodup_append.mp st.nd).2.2 a (a_d h2 List.mem_cons_self) a z rfl
 have dv:Stp (W.flatten++F.O₀) H ((W.set i []).flatten++F.O₀) H->DV (hide ((W.set i []).flatten++F.O₀) H) (.ref a) (.list ds):=fun s=>.lst (e_x h3 nin) (DVs.mono s.hid h4)
 obtain⟨s1,s2⟩:=st.put (H':=H) (i:=i) (v:=.ref a) (c:=.dat (.list ds)) (fp:=[]) hi (fun _ _ _ _ _ _=>rfl) (fun _ _=>rfl) (fun _ _ _ e=>e) List.nodup_nil (fun a h=>by cases h) (fun a h=>by cases h) (fun a h=>by cases h) (fun s=>dv s) (fun _ z=>by cases z)
 have eY:Y.set i (some (.ref a))=Y:=by
  apply List.ext_getElem?
  intro j
  by_cases hj:j=i
  ·subst hj;rw[List.getElem?_set_self (List.getElem?_eq_some_iff.mp h1).1,h1]
  ·rw[List.getElem?_set_ne (Ne.symm hj)]
 rw[eY] at s1
 exact⟨_,_,h1,⟨_,s1,rfl⟩,s2,dv s2⟩
end
noncomputable abbrev DT:=a_q->(PyData->a_q->Prop)->Prop
noncomputable def Mn(t:DT):Prop:=∀U Q Q',(∀d U',Q d U'->Q' d U')->t U Q->t U Q'
noncomputable def rdE(K:Frag)(F:Fx)(t:DT):TE:=fun Y H Q=>∃U O,DSt K F H Y U O/\t U fun d U'=>∀v H' O',DSt K F H' Y U' O'->Stp O H O' H'->DV (hide O' H') v d->Q v H'
structure DE (X:Cx) (F:Fx) (e:Expr) (t:DT):Prop where
 mn:Mn t
 pe:PE X e (rdE X.K F t)
theorem _root_.L2.PE.imp{X:Cx}{e:Expr}{t t':TE}(h:PE X e t)(k:∀Y H Q,t' Y H Q->t Y H Q):PE X e t':=fun pins s Y H Q I q=>h pins s Y H Q I (k Y H Q q)
theorem _root_.L2.PT.imp{X:Cx}{e:Expr}{t t':TT}(h:PT X e t)(k:∀Y H Q,t' Y H Q->t Y H Q):PT X e t':=fun pins s Y H Q I q=>h pins s Y H Q I (k Y H Q q)
theorem _root_.L2.PS.imp{X:Cx}{e:Stmt}{t t':TS}(h:PS X e t)(k:∀D Y H,t' D Y H->t D Y H):PS X e t':=fun pins s Y H D I q=>h pins s Y H D I (k D Y H q)
theorem _root_.L2.PSs.imp{X:Cx}{e:List Stmt}{t t':TS}(h:PSs X e t)(k:∀D Y H,t' D Y H->t D Y H):PSs X e t':=fun pins s Y H D I q=>h pins s Y H D I (k D Y H q)
section
variable{X:Cx}{F:Fx}{a b e:Expr}{ta tb:DT}{pos:Pos}
noncomputable def dC(d:PyData):DT:=fun U Q=>Q d U
noncomputable def dV(i:Nat):DT:=fun U Q=>(∃d,U[i]? = some (some (.dat d))/\Q d U)\/∃ds,U[i]? = some (some (.own false (.l ds)))/\Q (.list ds) (U.set i (some (.dat (.list ds))))
theorem y_7{d:PyData}:Mn (dC d):=fun _ _ _ h q=>h _ _ q
theorem g_j{d:PyData}{v:V}(h:PE X e (tC v))(hd:∀H,DV H v d):DE X F e (dC d):=
 ⟨y_7,h.imp fun Y H Q ⟨U,O,st,q⟩=>q v H O st .refl (hd _)⟩
theorem a_b{i j}:DE X F (.Constant (.int i) j pos) (dC (.int i)):=g_j m_f fun _=>.int i
theorem j_p{i j}:DE X F (.Constant (.bool i) j pos) (dC (.bool i)):=g_j x_k fun _=>.bl i
theorem d_N{j}:DE X F (.Constant .none j pos) (dC .none):=g_j q_T fun _=>.non
theorem a_H{x j}:DE X F (.Constant (.str x) j pos) (dC (.str x)):=g_j r_d fun _=>.str x
theorem r_b(i:Nat){x:Str}(h:PE X (.Name x pos) (f_r i)):DE X F (.Name x pos) (dV i):=
 ⟨fun _ _ _ k q=>q.imp (fun⟨d,e,q⟩=>⟨d,e,k _ _ q⟩) fun⟨d,e,q⟩=>⟨d,e,k _ _ q⟩,h.imp fun Y H Q ⟨U,O,st,q⟩=>by
  rcases q with⟨d,e,q⟩ | ⟨ds,e,q⟩
  ·obtain⟨v,h1,h2⟩:=st.dat e
   exact⟨v,h1,q v H O st .refl h2⟩
  ·obtain⟨v,O',h1,h2,h3,h4⟩:=st.freeze e
   exact⟨v,h1,q v H O' h2 h3 h4⟩⟩
noncomputable abbrev D2:=PyData->PyData->(PyData->Prop)->Prop
noncomputable def dOp(f:D2)(ta tb:DT):DT:=fun U Q=>ta U fun x U1=>tb U1 fun y U2=>f x y fun d=>Q d U2
structure Op2 (r:R2) (f:D2):Prop where
 mn:∀x y Q Q',(∀d,Q d->Q' d)->f x y Q->f x y Q'
 ok:∀(O:List Addr) (H:Hp) (u v:V) (x y:PyData) (Q:VK),(∀p,H p=none->p∉O)->DV (hide O H) u x->DV (hide O H) v y->f x y (fun d=>∀w H',e_3 H H'->DV (hide O H') w d->Q w H')->r u v H Q
theorem rd2{r:R2}{f:D2}{ta tb:DT}(o:Op2 r f)(ha:Mn ta)(hb:Mn tb){K:Frag}:∀Y H Q,rdE K F (dOp f ta tb) Y H Q->tOp r (rdE K F ta) (rdE K F tb) Y H Q:=fun Y H Q ⟨U,O,st,q⟩=>by
 refine⟨U,O,st,ha _ _ _ (fun x U1 q1 v1 H1 O1 st1 s1 d1=>?_) q⟩
 refine⟨U1,O1,st1,hb _ _ _ (fun y U2 q2 v2 H2 O2 st2 s2 d2=>?_) q1⟩
 refine o.ok O2 H2 v1 v2 x y Q st2.nofree (DV.mono s2.hid d1) d2 (o.mn _ _ _ _ (fun d q3 w H3 s3 d3=>?_) q2)
 exact q3 w H3 O2 (st2.grow s3) (s1.trans (s2.trans (.same s3))) d3
theorem mn2{r:R2}{f:D2}(o:Op2 r f)(ha:Mn ta)(hb:Mn tb):Mn (dOp f ta tb):=fun _ _ _ k q=>ha _ _ _ (fun _ _ q1=>hb _ _ _ (fun _ _ q2=>o.mn _ _ _ _ (fun _ q3=>k _ _ q3) q2) q1) q
theorem j_l{op:Operator}{r:R2}{f:D2}(ho:OpR X (binaryOp op) r)(o:Op2 r f)(ha:DE X F a ta)(hb:DE X F b tb):DE X F (.BinOp a op b pos) (dOp f ta tb):=
 ⟨mn2 o ha.mn hb.mn,(w_F ho ha.pe hb.pe).imp (rd2 o ha.mn hb.mn)⟩
theorem i_b{op:CmpOp}{r:R2}{f:D2}(ho:OpR X (compareOp op) r)(o:Op2 r f)(ha:DE X F a ta)(hb:DE X F b tb)(hm:behindInMarks op b=false):DE X F (.Compare a [op] [b] pos) (dOp f ta tb):=
 ⟨mn2 o ha.mn hb.mn,(r_I ho ha.pe hb.pe hm).imp (rd2 o ha.mn hb.mn)⟩
theorem x_e{r:R2}{f:D2}(hr:IxR X r)(o:Op2 r f)(ha:DE X F a ta)(hb:DE X F b tb)(hs:h_9 b):DE X F (.Subscript a b pos) (dOp f ta tb):=
 ⟨mn2 o ha.mn hb.mn,(s_l hr ha.pe hb.pe hs).imp (rd2 o ha.mn hb.mn)⟩
noncomputable def fI(C:Int->Int->Prop)(g:Int->Int->PyData):D2:=fun x y Q=>∃i j,x=.int i/\y=.int j/\C i j/\Q (g i j)
theorem q_b{C:Int->Int->Prop}{g:Int->Int->V}{g':Int->Int->PyData}(hg:∀i j H,DV H (g i j) (g' i j)):Op2 (rI C g) (fI C g') where
 mn:=fun _ _ _ _ k ⟨i,j,e1,e2,c,q⟩=>⟨i,j,e1,e2,c,k _ q⟩
 ok:=fun O H u v x y Q hO h1 h2 ⟨i,j,e1,e2,c,q⟩=>by
  subst e1 e2
  exact⟨i,j,h1.int_inv,h2.int_inv,c,q _ H (fun _ _ h=>h) (hg i j _)⟩
theorem g_L{g:Int->Int->V}{g':Int->Int->PyData}(hg:∀i j H,DV H (g i j) (g' i j)):Op2 (rI0 g) (fI (fun _ _=>True) g') where
 mn:=fun _ _ _ _ k ⟨i,j,e1,e2,c,q⟩=>⟨i,j,e1,e2,c,k _ q⟩
 ok:=fun O H u v x y Q hO h1 h2 ⟨i,j,e1,e2,_,q⟩=>by
  subst e1 e2
  exact⟨i,j,h1.int_inv,h2.int_inv,q _ H (fun _ _ h=>h) (hg i j _)⟩
noncomputable def fEq(neg:Bool):D2:=fun x y Q=>SeqAt.shaped x=true/\SeqAt.shaped y=true/\Q (.bool (PyData.eqv x y != neg))
theorem w_u{neg:Bool}:Op2 (x_P neg) (fEq neg) where
 mn:=fun _ _ _ _ k ⟨e1,e2,q⟩=>⟨e1,e2,k _ q⟩
 ok:=fun O H u v x y Q hO h1 h2 ⟨e1,e2,q⟩=>⟨x,y,DV.mono j_W h1,DV.mono j_W h2,e1,e2,q _ H (fun _ _ h=>h) (.bl _)⟩
@[simp] noncomputable def isNone:PyData->Bool
 | .none=>true
 | _=>false
noncomputable def fIs:D2:=fun x y Q=>y=.none/\Q (.bool (isNone x))
noncomputable def o_Z:D2:=fun x y Q=>y=.none/\Q (.bool (!isNone x))
theorem q_X{H:Hp}{v:V}{d:PyData}(h:DV H v d):decide (v=.non)=isNone d:=by
 cases h<;>first | rfl | (exact decide_eq_false (fun z=>by cases z))
theorem x_8:Op2 (fun x y H Q=>y=.non/\Q (.bl (decide (x=.non))) H) fIs where
 mn:=fun _ _ _ _ k ⟨e,q⟩=>⟨e,k _ q⟩
 ok:=fun O H u v x y Q hO h1 h2 ⟨e,q⟩=>by
  subst e
  exact⟨h2.non_inv,by rw[q_X h1];exact q _ H (fun _ _ h=>h) (.bl _)⟩
theorem o_4:Op2 (fun x y H Q=>y=.non/\Q (.bl (!decide (x=.non))) H) o_Z where
 mn:=fun _ _ _ _ k ⟨e,q⟩=>⟨e,k _ q⟩
 ok:=fun O H u v x y Q hO h1 h2 ⟨e,q⟩=>by
  subst e
  exact⟨h2.non_inv,by rw[q_X h1];exact q _ H (fun _ _ h=>h) (.bl _)⟩
noncomputable def y_A:D2:=fun x y Q=>∃ds i d,x=.tuple ds/\y=.int i/\atI ds i=some d/\Q d
noncomputable def y_z:D2:=fun x y Q=>∃ds i d,x=.list ds/\y=.int i/\atI ds i=some d/\Q d
theorem r_q{H:Hp}{vs:List V}{ds:List PyData}{i:Int}{d:PyData}(h:DVs H vs ds)(e:atI ds i=some d):∃v,atI vs i=some v/\DV H v d:=by
 unfold atI at e ⊢
 rw[h.length]
 cases q:ixN ds.length i with
 | none=>rw[q] at e;cases e
 | some j=>
  rw[q] at e
  exact h.get e
theorem v_d{K:Frag}:Op2 (w_7 K) y_A where
 mn:=fun _ _ _ _ k ⟨ds,i,d,e1,e2,e3,q⟩=>⟨ds,i,d,e1,e2,e3,k _ q⟩
 ok:=fun O H u v x y Q hO h1 h2 ⟨ds,i,d,e1,e2,e3,q⟩=>by
  subst e1 e2
  obtain⟨a,xs,rfl,ha,hd⟩:=h1.tup_inv
  obtain⟨w,ew,hw⟩:=r_q hd e3
  exact⟨a,xs,i,w,rfl,h2.int_inv,.inl (d_v ha).1,ew,q w H (fun _ _ h=>h) hw⟩
theorem u_C{K:Frag}:Op2 (x_I K) y_z where
 mn:=fun _ _ _ _ k ⟨ds,i,d,e1,e2,e3,q⟩=>⟨ds,i,d,e1,e2,e3,k _ q⟩
 ok:=fun O H u v x y Q hO h1 h2 ⟨ds,i,d,e1,e2,e3,q⟩=>by
  subst e1 e2
  obtain⟨a,xs,rfl,ha,hd⟩:=h1.lst_inv
  obtain⟨w,ew,hw⟩:=r_q hd e3
  exact⟨a,xs,i,w,rfl,h2.int_inv,.of (a_1 ha).1,ew,q w H (fun _ _ h=>h) hw⟩
theorem c_K{O:List Addr}{H:Hp}{p:Addr}{xs:List V}{ds:List PyData}(hp:H p=none)(hO:p∉O)(h:DVs (hide O H) xs ds):DV (hide O (upd H p (.lst xs))) (.ref p) (.list ds):=
 .lst (e_x a_A hO) (DVs.mono (d_F (a_l hp)) h)
theorem f_A{O:List Addr}{H:Hp}{p:Addr}{xs:List V}{ds:List PyData}(hp:H p=none)(hO:p∉O)(h:DVs (hide O H) xs ds):DV (hide O (upd H p (.tup xs))) (.ref p) (.tuple ds):=
 .tup (.inl (e_x a_A hO)) (DVs.mono (d_F (a_l hp)) h)
noncomputable def r_H:D2:=fun x y Q=>∃ds es,x=.list ds/\y=.list es/\ds.length+es.length<=sizeLine/\Q (.list (ds++es))
theorem u_k:Op2 y_d r_H where
 mn:=fun _ _ _ _ k ⟨ds,es,e1,e2,e3,q⟩=>⟨ds,es,e1,e2,e3,k _ q⟩
 ok:=fun O H u v x y Q hO h1 h2 ⟨ds,es,e1,e2,e3,q⟩=>by
  subst e1 e2
  obtain⟨a,xs,rfl,ha,hd⟩:=h1.lst_inv
  obtain⟨b,ys,rfl,hb,he⟩:=h2.lst_inv
  refine⟨a,b,xs,ys,rfl,rfl,(a_1 ha).1,(a_1 hb).1,by rw[hd.length,he.length];exact e3,fun p hp=>q _ _ (a_l hp) (c_K hp (hO p hp) (hd.append he))⟩
noncomputable def s_j:D2:=fun x y Q=>∃ds es,x=.tuple ds/\y=.tuple es/\ds.length+es.length<=sizeLine/\Q (.tuple (ds++es))
end
theorem ofT{A B:Prop}(h:if true=true then A else B):A:=by rw[if_pos rfl] at h;exact h
theorem ofF{A B:Prop}(h:if false=true then A else B):B:=by rw[if_neg Bool.false_ne_true] at h;exact h
noncomputable abbrev DTA:=a_q->(List PyData->a_q->Prop)->Prop
noncomputable def MnA(t:DTA):Prop:=∀U Q Q',(∀d U',Q d U'->Q' d U')->t U Q->t U Q'
noncomputable def rdA(K:Frag)(F:Fx)(t:DTA):TA:=fun Y H Q=>∃U O,DSt K F H Y U O/\t U fun ds U'=>∀vs H' O',DSt K F H' Y U' O'->Stp O H O' H'->DVs (hide O' H') vs ds->Q vs H'
structure DA (X:Cx) (F:Fx) (es:List Expr) (t:DTA):Prop where
 mn:MnA t
 pa:PA X es (rdA X.K F t)
theorem _root_.L2.PA.imp{X:Cx}{e:List Expr}{t t':TA}(h:PA X e t)(k:∀Y H Q,t' Y H Q->t Y H Q):PA X e t':=fun pos pins s Y H Q I q=>h pos pins s Y H Q I (k Y H Q q)
section
variable{X:Cx}{F:Fx}{a b e c:Expr}{es:List Expr}{ta tb tc:DT}{tA:DTA}{pos:Pos}
noncomputable def z_E:DTA:=fun U Q=>Q [] U
noncomputable def x_3(ta:DT)(tr:DTA):DTA:=fun U Q=>ta U fun d U1=>tr U1 fun ds U2=>Q (d::ds) U2
theorem u_P:DA X F [] z_E:=⟨fun _ _ _ k q=>k _ _ q,d_9.imp fun Y H Q ⟨U,O,st,q⟩=>q [] H O st .refl .nil⟩
theorem s_y(ha:DE X F e ta)(hr:DA X F es tA)(hs:starEach (e::es) X.env=(false,eval e X.env)::starEach es X.env:=by rfl):DA X F (e::es) (x_3 ta tA):=
 ⟨fun _ _ _ k q=>ha.mn _ _ _ (fun _ _ q1=>hr.mn _ _ _ (fun _ _ q2=>k _ _ q2) q1) q,(b_G ha.pe hr.pa hs).imp fun Y H Q ⟨U,O,st,q⟩=>
  ⟨U,O,st,ha.mn _ _ _ (fun d U1 q1 v H1 O1 st1 s1 d1=>⟨U1,O1,st1,hr.mn _ _ _ (fun ds U2 q2 vs H2 O2 st2 s2 d2=>q2 (v::vs) H2 O2 st2 (s1.trans s2) (.cons (DV.mono s2.hid d1) d2)) q1⟩) q⟩⟩
noncomputable def z_I(t:DTA):DT:=fun U Q=>t U fun ds U'=>ds.length<=sizeLine/\Q (.tuple ds) U'
noncomputable def z_s(t:DTA):DT:=fun U Q=>t U fun ds U'=>ds.length<=sizeLine/\Q (.list ds) U'
theorem t_Z{x1}(h:DA X F es tA):DE X F (.Tuple es x1 pos) (z_I tA):=
 ⟨fun _ _ _ k q=>h.mn _ _ _ (fun _ _ q1=>⟨q1.1,k _ _ q1.2⟩) q,(p_o h.pa).imp fun Y H Q ⟨U,O,st,q⟩=>
  ⟨U,O,st,h.mn _ _ _ (fun ds U1 q1 vs H1 O1 st1 s1 d1=>⟨by rw[d1.length];exact q1.1,fun p hp=>q1.2 _ _ O1 (st1.grow (a_l hp)) (s1.trans (.same (a_l hp))) (f_A hp (st1.nofree p hp) d1)⟩) q⟩⟩
theorem u_Z(h:DA X F es tA):DE X F (.List es pos) (z_s tA):=
 ⟨fun _ _ _ k q=>h.mn _ _ _ (fun _ _ q1=>⟨q1.1,k _ _ q1.2⟩) q,(m_u h.pa).imp fun Y H Q ⟨U,O,st,q⟩=>
  ⟨U,O,st,h.mn _ _ _ (fun ds U1 q1 vs H1 O1 st1 s1 d1=>⟨by rw[d1.length];exact q1.1,fun p hp=>q1.2 _ _ O1 (st1.grow (a_l hp)) (s1.trans (.same (a_l hp))) (c_K hp (st1.nofree p hp) d1)⟩) q⟩⟩
noncomputable def z_q(ta:DT):DT:=fun U Q=>ta U fun d U'=>∃i,d=.int i/\Q (.int (-i)) U'
theorem u_X(ha:DE X F a ta):DE X F (.UnaryOp .USub a pos) (z_q ta):=
 ⟨fun _ _ _ k q=>ha.mn _ _ _ (fun _ _ ⟨i,e,q⟩=>⟨i,e,k _ _ q⟩) q,(x_0 u_x ha.pe).imp fun Y H Q ⟨U,O,st,q⟩=>
  ⟨U,O,st,ha.mn _ _ _ (fun d U1 ⟨i,e,q1⟩ v H1 O1 st1 s1 d1=>by subst e;exact⟨i,d1.int_inv,q1 _ H1 O1 st1 s1 (.int _)⟩) q⟩⟩
noncomputable def z_u(ta:DT):DT:=fun U Q=>ta U fun d U'=>∃b,d=.bool b/\Q (.bool (!b)) U'
theorem w_b(ha:DE X F a ta):DE X F (.UnaryOp .Not a pos) (z_u ta):=
 ⟨fun _ _ _ k q=>ha.mn _ _ _ (fun _ _ ⟨i,e,q⟩=>⟨i,e,k _ _ q⟩) q,(v_o ha.pe).imp fun Y H Q ⟨U,O,st,q⟩=>
  ⟨U,O,st,ha.mn _ _ _ (fun d U1 ⟨i,e,q1⟩ v H1 O1 st1 s1 d1=>by subst e;exact⟨i,d1.bl_inv,q1 _ H1 O1 st1 s1 (.bl _)⟩) q⟩⟩
noncomputable def z_r(ta tb:DT):DT:=fun U Q=>ta U fun d U1=>∃b,d=.bool b/\if b=true then tb U1 Q else Q (.bool false) U1
noncomputable def dOr(ta tb:DT):DT:=fun U Q=>ta U fun d U1=>∃b,d=.bool b/\if b=true then Q (.bool true) U1 else tb U1 Q
theorem u_5{op}(h:DE X F a ta):DE X F (.BoolOp op [a] pos) ta:=⟨h.mn,v_c h.pe⟩
theorem v_2{rest:List Expr}(ha:DE X F a ta)(hb:DE X F (.BoolOp .And (b::rest) pos) tb):DE X F (.BoolOp .And (a::b::rest) pos) (z_r ta tb):=
 ⟨fun _ _ _ k q=>ha.mn _ _ _ (fun _ _ ⟨i,e,q⟩=>⟨i,e,by cases i<;>first | exact k _ _ q | exact hb.mn _ _ _ k q⟩) q,(v_0 ha.pe hb.pe).imp fun Y H Q ⟨U,O,st,q⟩=>
  ⟨U,O,st,ha.mn _ _ _ (fun d U1 ⟨i,e,q1⟩ v H1 O1 st1 s1 d1=>by
   subst e
   refine⟨i,d1.bl_inv,?_⟩
   cases i with
   | true=>exact i_V ⟨U1,O1,st1,hb.mn _ _ _ (fun d U2 q2 w H2 O2 st2 s2 d2=>q2 w H2 O2 st2 (s1.trans s2) d2) (ofT q1)⟩
   | false=>exact i_S (ofF q1 _ H1 O1 st1 s1 (.bl _))) q⟩⟩
theorem w_9{rest:List Expr}(ha:DE X F a ta)(hb:DE X F (.BoolOp .Or (b::rest) pos) tb):DE X F (.BoolOp .Or (a::b::rest) pos) (dOr ta tb):=
 ⟨fun _ _ _ k q=>ha.mn _ _ _ (fun _ _ ⟨i,e,q⟩=>⟨i,e,by cases i<;>first | exact k _ _ q | exact hb.mn _ _ _ k q⟩) q,(x_C ha.pe hb.pe).imp fun Y H Q ⟨U,O,st,q⟩=>
  ⟨U,O,st,ha.mn _ _ _ (fun d U1 ⟨i,e,q1⟩ v H1 O1 st1 s1 d1=>by
   subst e
   refine⟨i,d1.bl_inv,?_⟩
   cases i with
   | false=>exact i_S ⟨U1,O1,st1,hb.mn _ _ _ (fun d U2 q2 w H2 O2 st2 s2 d2=>q2 w H2 O2 st2 (s1.trans s2) d2) (ofF q1)⟩
   | true=>exact i_V (ofT q1 _ H1 O1 st1 s1 (.bl _))) q⟩⟩
noncomputable def n_L(p p':Int->Int->Bool)(ta tb tc:DT):DT:=fun U Q=>ta U fun x U1=>tb U1 fun y U2=>∃i j,x=.int i/\y=.int j/\if p i j=true then tc U2 (fun z U3=>∃k,z=.int k/\Q (.bool (p' j k)) U3) else Q (.bool false) U2
theorem p_6{op op':CmpOp}{p p':Int->Int->Bool}(ho:OpR X (compareOp op) (rI0 fun i j=>.bl (p i j)))(ho':OpR X (compareOp op') (rI0 fun i j=>.bl (p' i j)))(ha:DE X F a ta)(hb:DE X F b tb)(hc:DE X F c tc)
  (hm:lastMarks [op,op'] [b,c]=false:=by with_unfolding_all rfl):DE X F (.Compare a [op,op'] [b,c] pos) (n_L p p' ta tb tc):=
 ⟨fun _ _ _ k q=>ha.mn _ _ _ (fun _ _ q1=>hb.mn _ _ _ (fun _ _ ⟨i,j,e1,e2,q2⟩=>⟨i,j,e1,e2,by
   by_cases h:p i j=true
   ·rw[if_pos h] at q2 ⊢;exact hc.mn _ _ _ (fun _ _ ⟨l,e,q3⟩=>⟨l,e,k _ _ q3⟩) q2
   ·rw[if_neg h] at q2 ⊢;exact k _ _ q2⟩) q1) q,
  (p_v ho ho' ha.pe hb.pe hc.pe hm).imp fun Y H Q ⟨U,O,st,q⟩=>
  ⟨U,O,st,ha.mn _ _ _ (fun x U1 q1 v H1 O1 st1 s1 d1=>⟨U1,O1,st1,hb.mn _ _ _ (fun y U2 ⟨i,j,e1,e2,q2⟩ w H2 O2 st2 s2 d2=>by
   subst e1 e2
   refine⟨i,j,(DV.mono s2.hid d1).int_inv,d2.int_inv,p i j,rfl,?_⟩
   by_cases h:p i j=true
   ·rw[if_pos h] at q2 ⊢
    exact⟨U2,O2,st2,hc.mn _ _ _ (fun z U3 ⟨l,e,q3⟩ u H3 O3 st3 s3 d3=>by subst e;exact⟨j,l,(DV.mono s3.hid d2).int_inv,d3.int_inv,q3 _ H3 O3 st3 (s1.trans (s2.trans s3)) (.bl _)⟩) q2⟩
   ·rw[if_neg h] at q2 ⊢
    exact q2 _ H2 O2 st2 (s1.trans s2) (.bl _)) q1⟩) q⟩⟩
end
noncomputable abbrev DTT:=a_q->(Bool->a_q->Prop)->Prop
noncomputable def MnT(t:DTT):Prop:=∀U Q Q',(∀d U',Q d U'->Q' d U')->t U Q->t U Q'
noncomputable def rdT(K:Frag)(F:Fx)(t:DTT):TT:=fun Y H Q=>∃U O,DSt K F H Y U O/\t U fun b U'=>∀H' O',DSt K F H' Y U' O'->Stp O H O' H'->Q b H'
structure DB (X:Cx) (F:Fx) (e:Expr) (t:DTT):Prop where
 mn:MnT t
 pt:PT X e (rdT X.K F t)
section
variable{X:Cx}{F:Fx}{a b e c:Expr}{ta tb tc:DT}{tA tB:DTT}{pos:Pos}
noncomputable def k_5(ta:DT):DTT:=fun U Q=>ta U fun d U'=>∃b,d=.bool b/\Q b U'
theorem q_M(h:Mn ta):MnT (k_5 ta):=fun _ _ _ k q=>h _ _ _ (fun _ _ ⟨b,e,q1⟩=>⟨b,e,k _ _ q1⟩) q
theorem r_g{K:Frag}(h:Mn ta):∀Y H Q,rdT K F (k_5 ta) Y H Q->rdE K F ta Y H fun x H'=>∃k,x=.bl k/\Q k H':=fun Y H Q ⟨U,O,st,q⟩=>
 ⟨U,O,st,h _ _ _ (fun d U1 ⟨b,e,q1⟩ v H1 O1 st1 s1 d1=>by subst e;exact⟨b,d1.bl_inv,q1 H1 O1 st1 s1⟩) q⟩
theorem b_v(h:DE X F e ta)(he:∀whole,isTrue e X.env whole=(do let v <-whole;standAt e.pos;holding [v] (truthy v)):=by intro _;rfl):DB X F e (k_5 ta):=⟨q_M h.mn,(t_S h.pe he).imp (r_g h.mn)⟩
theorem h_o{op:CmpOp}{r:R2}{f:D2}(ho:OpR X (compareOp op) r)(o:Op2 r f)(ha:DE X F a ta)(hb:DE X F b tb)(hm:behindInMarks op b=false):DB X F (.Compare a [op] [b] pos) (k_5 (dOp f ta tb)):=
 ⟨q_M (mn2 o ha.mn hb.mn),(n_v ho ha.pe hb.pe hm).imp fun Y H Q q=>rd2 o ha.mn hb.mn Y H _ (r_g (mn2 o ha.mn hb.mn) Y H Q q)⟩
noncomputable def z_L(t:DTT):DTT:=fun U Q=>t U fun b U'=>Q (!b) U'
theorem u_2(h:DB X F a tA):DB X F (.UnaryOp .Not a pos) (z_L tA):=⟨fun _ _ _ k q=>h.mn _ _ _ (fun _ _ q=>k _ _ q) q,(u_T h.pt).imp fun Y H Q ⟨U,O,st,q⟩=>⟨U,O,st,h.mn _ _ _ (fun b U1 q1 H1 O1 st1 s1=>q1 H1 O1 st1 s1) q⟩⟩
structure DW (X:Cx) (F:Fx) (e:Expr) (t:DTT):Prop where
 mn:MnT t
 pw:PW X e (rdT X.K F t)
theorem _root_.L2.PW.imp{X:Cx}{e:Expr}{t t':TT}(h:PW X e t)(k:∀Y H Q,t' Y H Q->t Y H Q):PW X e t':=fun wh pins s Y H Q I q=>h wh pins s Y H Q I (k Y H Q q)
theorem DW.db{t:DTT}(h:DW X F e t):DB X F e t:=⟨h.mn,h.pw.pt⟩
noncomputable def z_F(t u:DTT):DTT:=fun U Q=>t U fun b U1=>if b=true then u U1 Q else Q false U1
noncomputable def bOr(t u:DTT):DTT:=fun U Q=>t U fun b U1=>if b=true then Q true U1 else u U1 Q
theorem s_F(h:DB X F a tA):DW X F (.BoolOp .And [a] pos) tA:=⟨h.mn,s_K h.pt⟩
theorem v_s(h:DB X F a tA):DW X F (.BoolOp .Or [a] pos) tA:=⟨h.mn,u_z h.pt⟩
theorem u_0{rest:List Expr}(ha:DB X F a tA)(hb:DW X F (.BoolOp .And (b::rest) pos) tB):DW X F (.BoolOp .And (a::b::rest) pos) (z_F tA tB):=
 ⟨fun _ _ _ k q=>ha.mn _ _ _ (fun b _ q=>by cases b<;>first | exact k _ _ q | exact hb.mn _ _ _ k q) q,(u_6 ha.pt hb.pw).imp fun Y H Q ⟨U,O,st,q⟩=>
  ⟨U,O,st,ha.mn _ _ _ (fun b U1 q1 H1 O1 st1 s1=>by
   cases b with
   | true=>exact i_V ⟨U1,O1,st1,hb.mn _ _ _ (fun b U2 q2 H2 O2 st2 s2=>q2 H2 O2 st2 (s1.trans s2)) (ofT q1)⟩
   | false=>exact i_S (ofF q1 H1 O1 st1 s1)) q⟩⟩
theorem w_S{rest:List Expr}(ha:DB X F a tA)(hb:DW X F (.BoolOp .Or (b::rest) pos) tB):DW X F (.BoolOp .Or (a::b::rest) pos) (bOr tA tB):=
 ⟨fun _ _ _ k q=>ha.mn _ _ _ (fun b _ q=>by cases b<;>first | exact k _ _ q | exact hb.mn _ _ _ k q) q,(w_B ha.pt hb.pw).imp fun Y H Q ⟨U,O,st,q⟩=>
  ⟨U,O,st,ha.mn _ _ _ (fun b U1 q1 H1 O1 st1 s1=>by
   cases b with
   | false=>exact i_S ⟨U1,O1,st1,hb.mn _ _ _ (fun b U2 q2 H2 O2 st2 s2=>q2 H2 O2 st2 (s1.trans s2)) (ofF q1)⟩
   | true=>exact i_V (ofT q1 H1 O1 st1 s1)) q⟩⟩
noncomputable def dIf(t:DTT)(ta tb:DT):DT:=fun U Q=>t U fun b U1=>if b=true then ta U1 Q else tb U1 Q
theorem x_G(hc:DB X F c tA)(ha:DE X F a ta)(hb:DE X F b tb):DE X F (.IfExp c a b pos) (dIf tA ta tb):=
 ⟨fun _ _ _ k q=>hc.mn _ _ _ (fun b _ q=>by cases b<;>first | exact ha.mn _ _ _ k q | exact hb.mn _ _ _ k q) q,(q_k hc.pt ha.pe hb.pe).imp fun Y H Q ⟨U,O,st,q⟩=>
  ⟨U,O,st,hc.mn _ _ _ (fun b U1 q1 H1 O1 st1 s1=>by
   cases b with
   | true=>exact i_V ⟨U1,O1,st1,ha.mn _ _ _ (fun d U2 q2 v H2 O2 st2 s2 d2=>q2 v H2 O2 st2 (s1.trans s2) d2) (ofT q1)⟩
   | false=>exact i_S ⟨U1,O1,st1,hb.mn _ _ _ (fun d U2 q2 v H2 O2 st2 s2 d2=>q2 v H2 O2 st2 (s1.trans s2) d2) (ofF q1)⟩) q⟩⟩
end
noncomputable abbrev DN:=List PyData->(PyData->Prop)->Prop
structure OpN (r:List V->Hp->VK->Prop) (f:DN):Prop where
 mn:∀xs Q Q',(∀d,Q d->Q' d)->f xs Q->f xs Q'
 ok:∀(O:List Addr) (H:Hp) (vs:List V) (xs:List PyData) (Q:VK),(∀p,H p=none->p∉O)->DVs (hide O H) vs xs->f xs (fun d=>∀w H',e_3 H H'->DV (hide O H') w d->Q w H')->r vs H Q
noncomputable def dCB(f:DN)(t:DTA):DT:=fun U Q=>t U fun ds U'=>f ds fun d=>Q d U'
section
variable{X:Cx}{F:Fx}{e:Expr}{es:List Expr}{tA:DTA}{pos p:Pos}{x:Str}{id T:String}{r:List V->Hp->VK->Prop}{f:DN}
theorem rdN{K:Frag}(o:OpN r f)(h:MnA tA):∀Y H Q,rdE K F (dCB f tA) Y H Q->tCB r (rdA K F tA) Y H Q:=fun Y H Q ⟨U,O,st,q⟩=>
 ⟨U,O,st,h _ _ _ (fun ds U1 q1 vs H1 O1 st1 s1 d1=>o.ok O1 H1 vs ds Q st1.nofree d1 (o.mn _ _ _ (fun d q2 w H2 s2 d2=>q2 w H2 O1 (st1.grow s2) (s1.trans (.same s2)) d2) q1)) q⟩
theorem mnN(o:OpN r f)(h:MnA tA):Mn (dCB f tA):=fun _ _ _ k q=>h _ _ _ (fun _ _ q1=>o.mn _ _ _ (fun _ q2=>k _ _ q2) q1) q
theorem b_V(hc:i_p X (.builtin id) r)(o:OpN r f)(hg:Gl X x)(hm:X.mg x=none)(hv:bootBuiltins x=some (.builtin id))(ha:DA X F (e::es) tA)(hn:x≠"__name__":=by decide)(hdb:(x==("__debug__":Str))=false:=by decide)
  (he:starEach (e::es) X.env=(false,eval e X.env)::starEach es X.env:=by rfl) (hpl:(backTo pos (starEach es X.env)).any (·.1)=false:=by rfl):DE X F (.Call (.Name x p) (e::es) [] pos) (dCB f tA):=
 ⟨mnN o ha.mn,(h_v hc hg hm hv ha.pa hn hdb he hpl).imp (rdN o ha.mn)⟩
end
noncomputable def y_j(n:String)(ta:DT):DT:=fun U Q=>ta U fun d U'=>∃b,(∀K:Frag,kitOne K (.type (s_B d)) (.type n)=some b)/\Q (.bool b) U'
section
variable{X:Cx}{F:Fx}{e:Expr}{ta:DT}{pos p p2:Pos}{T:String}{x:Str}
theorem c_k(hg:Gl X "isinstance")(hm:X.mg "isinstance" = none)(h:DE X F e ta)(ht:PE X (.Name x p2) (tC (.ty T)))
  (he:starEach [e,.Name x p2] X.env=(false,eval e X.env)::starEach [.Name x p2] X.env:=by rfl) (he2:starEach [.Name x p2] X.env=(false,eval (.Name x p2) X.env)::starEach [] X.env:=by rfl) (hpl:(backTo pos (starEach [.Name x p2] X.env)).any (·.1)=false:=by rfl) :
  DE X F (.Call (.Name "isinstance" p) [e,.Name x p2] [] pos) (y_j T ta):=
 ⟨fun _ _ _ k q=>h.mn _ _ _ (fun _ _ ⟨b,e,q⟩=>⟨b,e,k _ _ q⟩) q,
  (h_v l_r hg hm (show bootBuiltins "isinstance" = some (.builtin "isinstance") by decide +kernel) (b_G h.pe (b_G ht d_9 he2) he) (by decide) (by decide) he hpl).imp fun Y H Q ⟨U,O,st,q⟩=>
  ⟨U,O,st,h.mn _ _ _ (fun d U1 ⟨b,e,q1⟩ v H1 O1 st1 s1 d1=>⟨v,d,T,b,rfl,DV.mono j_W d1,e,q1 _ H1 O1 st1 s1 (.bl b)⟩) q⟩⟩
end
structure ExS (g:Heap) (H:Hp) (h:Heap) (a:Addr) (C:Value) (fl:Option Value):Prop where
 gh:∀b o,g.get? b=some o->∃o',h.get? b=some o'
 lo:g.get? a=none
 un:H a=none
 ob:∃oe vs a0,h.get? a=some oe/\oe.cls=C/\oe.data=.fields vs/\vs[0]? = some a0/\
  ((fl=none/\vs[1]? = some .none)\/∃T oT ts f,fl=some f/\vs[1]? = some (.ref T)/\g.get? T=none/\H T=none/\T≠a/\h.get? T=some oT/\oT.data=.fields ts/\ts[3]? = some f)
structure Ch (g:Heap) (H:Hp) (fs:List Addr) (h h':Heap):Prop where
 keep:∀b o,h.get? b=some o->((∃o',g.get? b=some o')\/H b≠none)->b∉fs->h'.get? b=some o
 slot:∀b o,b∈fs->h.get? b=some o->∃sl,h'.get? b=some { o with slots:=sl }
 there:∀b o,h.get? b=some o->∃o',h'.get? b=some o'
theorem Ch.refl{g:Heap}{H:Hp}{fs:List Addr}{h:Heap}:Ch g H fs h h:=⟨fun _ _ e _ _=>e,fun b o _ e=>⟨o.slots,e⟩,fun b o e=>⟨o,e⟩⟩
theorem Ch.trans{g:Heap}{H:Hp}{fs:List Addr}{h h1 h2:Heap}(x:Ch g H fs h h1)(y:Ch g H fs h1 h2):Ch g H fs h h2 where
 keep:=fun b o e q n=>y.keep b o (x.keep b o e q n) q n
 slot:=fun b o m e=>let⟨_,e1⟩:=x.slot b o m e;let⟨sl,e2⟩:=y.slot b _ m e1;⟨sl,e2⟩
 there:=fun b o e=>let⟨o1,e1⟩:=x.there b o e;y.there b o1 e1
theorem HOk.some_of{P:Program}{w:World}{H:Hp}{h:Heap}(k:HOk P w H h){b:Addr}(e:h.get? b=none):H b=none:=by
 cases q:H b with
 | none=>rfl
 | some u=>
  exfalso
  have x:=k b u q
  have:∀(u:HO),c_V P w H h b u->∃o,h.get? b=some o:=by
   intro u
   induction u with
   | lst xs=>exact fun⟨_,_,_,_,e⟩=>⟨_,e⟩
   | tup xs=>exact fun⟨_,_,_,o,e,_⟩=>⟨_,e⟩
   | dK kvs=>exact fun⟨_,_,_,_,o,_,_,e,_⟩=>⟨_,e⟩
   | dT kvs=>exact fun⟨_,_,_,_,o,_,_,e,_⟩=>⟨_,e⟩
   | set S n=>exact fun⟨o,_,_,_,e,_⟩=>⟨_,e⟩
   | ins C dx fs=>exact fun⟨_,_,_,e,_⟩=>⟨_,e⟩
   | own y=>exact fun⟨_,e⟩=>⟨_,e⟩
   | xd fs=>exact fun⟨_,⟨_,_,_,e,_⟩,_⟩=>⟨_,e⟩
   | rng lo hi=>exact fun⟨_,_,_,e⟩=>⟨_,e⟩
   | frz ob u _=>exact fun⟨e,_⟩=>⟨_,e⟩
   | tbl ps=>exact fun e=>⟨_,e⟩
   | met f y=>exact fun e=>⟨_,e⟩
   | ext φ=>exact fun⟨_,⟨_,e⟩,_⟩=>⟨_,e⟩
  obtain⟨o,eo⟩:=this u x
  rw[e] at eo;cases eo
theorem g_y{h base base':Heap}:∀{l:List Env},(∀b∈frs l,base'.get? b=none)->h.FunFrames base l->h.FunFrames base' l
 | [],_,_=>trivial
 | env::r,hb,⟨hk,⟨L,o,hf,_,ho,hd⟩,hr⟩=>by
  have e:frs (env::r)=L::frs r:=by unfold frs;rw[List.filterMap_cons,hf]
  exact⟨hk,⟨L,o,hf,hb L (by rw[e];exact List.mem_cons_self),ho,hd⟩,g_y (fun b h=>hb b (by rw[e];exact Qak _ h)) hr⟩
section
variable{P:Program}{w:World}{M:Model}{A:Around}{E:Value->Shared->Prop}{s:Shared}{g base:Heap}{H:Hp}{env:Env}{outer:List Env}{L a:Addr}{C fv:Value}{fl:Option Value}
theorem j_8{oe:Obj}{vs:Array Value}{head a0:Value}{hadNext:Bool}{Q:Unit->Shared->Prop}(hfr:A.frames=some (env::outer))(hl:s.heap.FunFrames base (env::outer))(hf:env.frame=some L)(hk:∀b,s.heap.get? b=none->H b=none)
  (gh:∀b o,g.get? b=some o->∃o',s.heap.get? b=some o') (lo:g.get? a=none) (un:H a=none) (he:s.heap.get? a=some oe) (hc:oe.cls=C) (hd:oe.data=.fields vs) (hsz:1<vs.size) (h0:vs[0]? = some a0)
  (h:∀h',Ch g H (frs (env::outer)) s.heap h'->ExS g H h' a C (some (rawInt L))->Q () { s with heap:=h' }) :
  wpAny M A (do let x <-frameOf env;let pl <-entryPlaceOf L hadNext;let b <-EntryCells.newEntry head x .none (rawInt L) .none pl;setField (.ref a) 1 b) Q E s:=by
 refine wpAny_entryW (base:=PySem.W.hideAll s.heap (a::frs (env::outer))) hfr (g_y (fun b hb=>PySem.W.hideAll_none _ (Qak _ hb)) hl) hf he (fun b o e=>PySem.W.of_hideAll _ e) (PySem.W.hideAll_none _ List.mem_cons_self) hd hsz h0 fun h' ⟨k1,k2,k3,k4⟩=>?_
 obtain⟨oe',vs',T,oT,ts,e1,⟨e2,e20⟩,e3,e4,e5,e6,e7,e8,e9⟩:=k3
 have sl:∀b o,b∈frs (env::outer)->s.heap.get? b=some o->∃sl,h'.get? b=some { o with slots:=sl }:=fun b o hb e=>by
  obtain⟨_,o',e',nf⟩:=hl.mem hb
  rw[e] at e';cases e'
  exact k4 b o e nf
 have kp:∀b o,s.heap.get? b=some o->b≠a->b∉frs (env::outer)->h'.get? b=some o:=fun b o e n1 n2=>k1 b o (PySem.W.hideAll_get _ e fun z=>(List.mem_cons.mp z).elim n1 n2)
 have hT:g.get? T=none/\H T=none:=by
  cases q:s.heap.get? T with
  | some o=>
   exfalso
   by_cases hfT:T∈frs (env::outer)
   ·obtain⟨_,o',e',nf⟩:=hl.mem hfT
    rw[q] at e';cases e'
    obtain⟨sl',e''⟩:=sl T o hfT q
    rw[e7] at e'';cases e''
    exact nf ts e8
   ·rw[PySem.W.hideAll_get _ q (fun z=>(List.mem_cons.mp z).elim e6 hfT)] at e5;cases e5
  | none=>
   refine⟨?_,hk T q⟩
   cases q2:g.get? T with
   | none=>rfl
   | some o=>obtain⟨o',e'⟩:=gh T o q2;rw[q] at e';cases e'
 have ch:Ch g H (frs (env::outer)) s.heap h':=⟨fun b o e q n=>kp b o e (fun z=>?_) n,fun b o hb e=>sl b o hb e,fun b o e=>?_⟩
 ·refine h h' ch ⟨fun b o e=>?_,lo,un,oe',vs',a0,e1,e2.trans hc,e3,e20,.inr ⟨T,oT,ts,_,rfl,e4,hT.1,hT.2,e6,e7,e8,e9⟩⟩
  obtain⟨o',e'⟩:=gh b o e
  exact ch.there b o' e'
 ·subst z
  rcases q with⟨o',q⟩ | q
  ·rw[lo] at q;cases q
  ·exact q un
 ·by_cases n2:b∈frs (env::outer)
  ·obtain⟨sl',e'⟩:=sl b o n2 e;exact⟨_,e'⟩
  ·by_cases n1:b=a
   ·subst n1;exact⟨_,e1⟩
   ·exact⟨o,kp b o e n1 n2⟩
theorem j_F{h:Heap}{l:List Env}{T:Addr}{oT:Obj}{ts:Array Value}{f:Obj->Obj}(hl:h.FunFrames base l)(hT:h.get? T=some oT)(hd:oT.data=.fields ts):(h.update T f).FunFrames base l:=
 hl.of_keeps fun b o hb nf=>⟨o,by rw[Heap.get?_update_other _ _ (fun z=>nf ts (by subst z;rw[hT] at hb;cases hb;exact hd))];exact hb,rfl⟩
theorem k_N{h:Heap}{fs:List Addr}{T:Addr}{oT:Obj}{ts:Array Value}{f:Array Value->Array Value}(hT:h.get? T=some oT)(hd:oT.data=.fields ts)(hg:g.get? T=none)(hH:H T=none)(hfs:T∉fs):Ch g H fs h (h.update T (Obj.mapFields f)):=by
 have self:(h.update T (Obj.mapFields f)).get? T=some (oT.mapFields f):=Heap.get?_update_self _ hT (Obj.isFreed_of_fields (Obj.data_mapFields hd f))
 refine⟨fun b o e q n=>?_,fun b o m e=>⟨o.slots,?_⟩,fun b o e=>?_⟩
 ·rw[Heap.get?_update_other _ _ (fun z=>?_)]
  ·exact e
  ·subst z
   rcases q with⟨o',q⟩ | q
   ·rw[hg] at q;cases q
   ·exact q hH
 ·rw[Heap.get?_update_other _ _ (fun z=>hfs (by rw[z];exact m))];exact e
 ·by_cases z:b=T
  ·subst z;exact⟨_,self⟩
  ·exact⟨o,by rw[Heap.get?_update_other _ _ (Ne.symm z)];exact e⟩
theorem l_2{Q:Unit->Shared->Prop}(hfr:A.frames=some (env::outer))(hl:s.heap.FunFrames base (env::outer))(hf:env.frame=some L)(hk:∀b,s.heap.get? b=none->H b=none)(x:ExS g H s.heap a C fl)
  (h:∀h',Ch g H (frs (env::outer)) s.heap h'->ExS g H h' a C (some (rawInt L))->Q () { s with heap:=h' }):wpAny M A (noteFrame (.ref a) env) Q E s:=by
 obtain⟨gh,lo,un,oe,vs,a0,he,hc,hd,h0,hx⟩:=x
 unfold noteFrame
 simp only[hf]
 rcases hx with⟨_,h1⟩ | ⟨T,oT,ts,f,_,h1,hgT,hHT,hTa,hT,hdT,h3⟩
 ·refine Qaa (wpAny_field he hd h1 ?_)
  rw[if_neg (by decide)]
  exact j_8 hfr hl hf hk gh lo un he hc hd (Array.getElem?_eq_some_iff.mp h1).1 h0 h
 ·refine Qaa (wpAny_field he hd h1 ?_)
  rw[if_pos (show(Value.ref T != Value.none)=true from by simp)]
  refine Qaa (wpAny_field hT hdT h3 ?_)
  by_cases hfl:(f==rawInt L)=true
  ·rw[if_pos hfl]
   have e:f=rawInt L:=by simpa using hfl
   subst e
   exact Qab (h s.heap .refl ⟨gh,lo,un,oe,vs,a0,he,hc,hd,h0,.inr ⟨T,oT,ts,_,rfl,h1,hgT,hHT,hTa,hT,hdT,h3⟩⟩)
  ·rw[if_neg hfl]
   refine Qaa (wpAny_setField hT hdT (Array.getElem?_eq_some_iff.mp h3).1 ?_)
   have hTf:T∉frs (env::outer):=fun z=>by
    obtain⟨_,o',e',nf⟩:=hl.mem z
    rw[hT] at e';cases e';exact nf ts hdT
   have c1:=k_N (g:=g) (H:=H) (f:=(·.setIfInBounds 3 Value.none)) hT hdT hgT hHT hTf
   refine j_8 (s:={ s with heap:=s.heap.update T (Obj.mapFields (·.setIfInBounds 3 Value.none)) }) hfr (j_F hl hT hdT) hf (fun b e=>?_) (fun b o e=>?_) lo un ?_ hc hd (Array.getElem?_eq_some_iff.mp h1).1 h0 fun h' ch ex=>h h' (c1.trans ch) ex
   ·refine hk b ?_
    cases q:s.heap.get? b with
    | none=>rfl
    | some o=>obtain⟨o',e'⟩:=c1.there b o q;rw[show({ s with heap:=s.heap.update T (Obj.mapFields (·.setIfInBounds 3 Value.none)) }:Shared).heap=s.heap.update T (Obj.mapFields (·.setIfInBounds 3 Value.none)) from rfl] at e;rw[e] at e';cases e'
   ·obtain⟨o',e'⟩:=gh b o e
    exact c1.there b o' e'
   ·show(s.heap.update T _).get? a=some oe
    rw[Heap.get?_update_other _ _ hTa];exact he
theorem g_0{Q:Unit->Shared->Prop}{fs:List Addr}(fr:Option Addr)(hfs:∀b∈fs,∃o,s.heap.get? b=some o/\∀vs,o.data≠.fields vs)(x:ExS g H s.heap a C (some fv))
  (h:∀h',Ch g H fs s.heap h'->ExS g H h' a C (some (fr.elim Value.none fun f=>rawInt f))->Q () { s with heap:=h' }):wpAny M A (setFlight (.ref a) fr) Q E s:=by
 obtain⟨gh,lo,un,oe,vs,a0,he,hc,hd,h0,hx⟩:=x
 rcases hx with⟨z,_⟩ | ⟨T,oT,ts,f,_,h1,hgT,hHT,hTa,hT,hdT,h3⟩
 ·cases z
 ·unfold setFlight
  refine Qaa (wpAny_field he hd h1 ?_)
  rw[if_pos (show(Value.ref T != Value.none)=true from by simp)]
  have hTf:T∉fs:=fun z=>by obtain⟨o,e1,e2⟩:=hfs T z;rw[hT] at e1;cases e1;exact e2 ts hdT
  have hsz:=(Array.getElem?_eq_some_iff.mp h3).1
  have c1:=k_N (g:=g) (H:=H) (f:=(·.setIfInBounds 3 (fr.elim Value.none fun f=>rawInt f))) hT hdT hgT hHT hTf
  refine wpAny_setField hT hdT hsz (h _ c1 ⟨fun b o e=>?_,lo,un,oe,vs,a0,?_,hc,hd,h0,.inr ⟨T,_,_,_,rfl,h1,hgT,hHT,hTa,Heap.get?_update_self _ hT (Obj.isFreed_of_fields (Obj.data_mapFields hdT _)),Obj.data_mapFields hdT _,?_⟩⟩)
  ·obtain⟨o',e'⟩:=gh b o e
   exact c1.there b o' e'
  ·rw[Heap.get?_update_other _ _ hTa];exact he
  ·simp[hsz]
theorem g_a{h:Heap}{l:List Env}(hl:h.FunFrames base l):∀b∈frs l,∃o,h.get? b=some o/\∀vs,o.data≠.fields vs:=fun b hb=>let⟨_,o,e,n⟩:=hl.mem hb;⟨o,e,n⟩
theorem Ch.frames{fs:List Addr}{h h':Heap}{l:List Env}(c:Ch g H fs h h')(hs:∀b∈frs l,b∈fs)(hl:h.FunFrames base l):h'.FunFrames base l:=by
 induction l with
 | nil=>trivial
 | cons env r ih=>
  obtain⟨hk,⟨L,o,hf,hn,ho,hd⟩,hr⟩:=hl
  have e:frs (env::r)=L::frs r:=by unfold frs;rw[List.filterMap_cons,hf]
  obtain⟨sl,e'⟩:=c.slot L o (hs L (by rw[e];exact List.mem_cons_self)) ho
  exact⟨hk,⟨L,_,hf,hn,e',hd⟩,ih (fun b hb=>hs b (by rw[e];exact Qak _ hb)) hr⟩
theorem n_4{Q:Unit->Shared->Prop}(hfr:A.frames=some (env::outer))(hl:s.heap.FunFrames base (env::outer))(hf:env.frame=some L)(hk:∀b,s.heap.get? b=none->H b=none)(x:ExS g H s.heap a C fl)
  (h:∀h',Ch g H (frs (env::outer)) s.heap h'->ExS g H h' a C (some .none)->Q () { s with heap:=h' }):wpAny M A (leaving env (.ref a)) Q E s:=by
 unfold leaving
 refine Qaa (l_2 hfr hl hf hk x fun h1 c1 x1=>?_)
 refine g_0 (s:={ s with heap:=h1 }) (fs:=frs (env::outer)) none (g_a (c1.frames (fun _ h=>h) hl)) x1 fun h2 c2 x2=>h h2 (c1.trans c2) x2
end
structure Cov (X:Cx) (pins:List (Addr×Obj)) (g:Heap):Prop where
 s0:∀b o,X.s₀.heap.get? b=some o->b∉X.ex->∃o',g.get? b=some o'
 loc:∃o,g.get? X.env.locals=some o
 cell:∀x c,X.env.cells.lookup x=some c->∃o,g.get? c=some o
 pin:∀p∈X.pn++pins,∃o,g.get? p.1=some o
section
variable{X:Cx}{pins:List (Addr×Obj)}{Y:St}{H:Hp}{s:Shared}{g h':Heap}
theorem _root_.L2.Inv.cov(I:Inv X pins Y H s):Cov X pins s.heap:=by
 refine⟨fun b o e n=>I.base.there b o e n,?_,fun x c e=>?_,fun p hp=>⟨_,(I.pin p hp).1⟩⟩
 ·obtain⟨m,⟨o,es,ep,ho,_⟩,_⟩:=I.loc;exact⟨o,ho⟩
 ·obtain⟨v,o,ho,_⟩:=I.cell x c e;exact⟨o,ho⟩
theorem _root_.L2.Inv.stkIn(I:Inv X pins Y H s){b:Addr}(h:b∉frs X.stack):b∉X.fs:=by
 rcases I.ok.stk with e | ⟨e,hf⟩
 ·rw[e] at h;exact h
 ·rw[e] at h;unfold frs at h;rw[List.filterMap_cons,hf] at h;exact fun z=>h (Qak _ z)
theorem _root_.L2.Inv.stkOut(I:Inv X pins Y H s){b:Addr}(h:b∉X.fs)(h2:b≠X.env.locals):b∉frs X.stack:=fun z=>(List.mem_cons.mp (I.stkSub b z)).elim h2 h
theorem p_L{h h':Heap}{a:Addr}{m:Str->Option Value}(k:∀o,h.get? a=some o->∃sl,h'.get? a=some { o with slots:=sl })(hn:h.Ns a m):h'.Ns a m:=by
 obtain⟨o,es,ep,ho,hd,r⟩:=hn
 obtain⟨sl,hs⟩:=k o ho
 exact⟨_,es,ep,hs,hd,r⟩
theorem _root_.L2.Inv.ch(I:Inv X pins Y H s)(cv:Cov X pins g)(c:Ch g H (frs X.stack) s.heap h'):Inv X pins Y H { s with heap:=h' }:=by
 have ht:∀b o,s.heap.get? b=some o->H b≠none->h'.get? b=some o:=fun b o e n=>c.keep b o e (.inr n) fun z=>n (I.stkFree b z)
 have ck:∀x cc,X.env.cells.lookup x=some cc->∀o,s.heap.get? cc=some o->∃o',h'.get? cc=some o'/\o'.data=o.data:=fun x cc e o ho=>by
  by_cases hs:cc∈frs X.stack
  ·obtain⟨sl,e1⟩:=c.slot cc o hs ho;exact⟨_,e1,rfl⟩
  ·exact⟨o,c.keep cc o ho (.inl (cv.cell x cc e)) hs,rfl⟩
 refine⟨I.ok,I.os,I.bare,⟨fun b o e n hf hx=>?_,fun b o e n hf hx=>?_,fun b o e n hx=>I.base.free b o e n hx,fun b o e hx=>?_,I.base.tups,I.base.frzs,I.base.tbls⟩,?_,fun x cc e=>?_,I.free,I.freeC,fun p hp=>?_,fun b u e=>?_,I.len⟩
 ·have e1:=I.base.keep b o e n hf hx
  refine c.keep b o e1 (.inl (cv.s0 b o e hx)) (I.stkOut hf fun z=>?_)
  have h1:=I.ok.above
  have h2:b<X.s₀.heap.objs.size:=Qad e
  rw[z] at h2
  exact Nat.lt_irrefl _ (Nat.lt_of_lt_of_le h2 h1)
 ·obtain⟨sl,e1⟩:=I.base.slot b o e n hf hx
  by_cases hs:b∈frs X.stack
  ·obtain⟨sl',e2⟩:=c.slot b _ hs e1;exact⟨sl',e2⟩
  ·exact absurd hf (I.stkIn hs)
 ·obtain⟨o1,e1⟩:=I.base.there b o e hx
  exact c.there b o1 e1
 ·obtain⟨m,hn,hl⟩:=I.loc
  refine⟨m,p_L (fun o ho=>?_) hn,fun i x v h1 h2 h3=>?_⟩
  ·by_cases hs:X.env.locals∈frs X.stack
   ·exact c.slot _ o hs ho
   ·exact⟨o.slots,c.keep _ o ho (.inl cv.loc) hs⟩
  ·obtain⟨u,r,l⟩:=hl i x v h1 h2 h3
   refine⟨u,r,?_⟩
   rcases l with l | ⟨k,cc,e,o,ho,hd⟩
   ·exact .inl l
   ·obtain⟨o',h1,h2⟩:=ck x cc e o ho
    exact .inr ⟨k,cc,e,o',h1,h2.trans hd⟩
 ·obtain⟨v,o,ho,hd⟩:=I.cell x cc e
  obtain⟨o',h1,h2⟩:=ck x cc e o ho
  exact⟨v,o',h1,h2.trans hd⟩
 ·obtain⟨h1,h2,h3,h4,h5⟩:=I.pin p hp
  exact⟨c.keep _ _ h1 (.inl (cv.pin p hp)) (I.stkOut h4 h3),h2,h3,h4,h5⟩
 ·refine(I.hok b u e).stay (fun d v hd q=>ht d v q ?_) (fun _ q=>q) fun _ _ q=>q
  rcases hd with rfl | hd
  ·rw[e];exact fun z=>by cases z
  ·rw[hd];exact fun z=>by cases z
noncomputable def CXM(P:Program)(w:World):CXT:=fun outer H s E e s'=>∃a C H',e=.ref a/\s'.os=s.os/\AllBare s'.gens/\Un (frs outer) [] H H' s.heap s'.heap/\HOk P w H' s'.heap/\ExS s.heap H' s'.heap a C (some .none)/\E C none H'
structure Fly (X:Cx) (pins:List (Addr×Obj)) (Y:St) (H:Hp) (s:Shared) (e:Value) (c:Str):Prop where
 inv:Inv X pins Y H s
 ex:∃a C g fl,e=.ref a/\Cov X pins g/\ExS g H s.heap a C fl/\X.mg c=some C
noncomputable def glob(x:Str):Option PyData:=if x="ANY_ZONE" then some (.tuple [.int 0,.tuple []]) else if x="NO_DEEDS" then some (.tuple []) else none
noncomputable def isT:HO->Bool
 | .tup _=>true
 | .frz _ (.tup _)=>true
 | _=>false
theorem t_L{u:HO}(h:isT u=true):¬ Mv u:=fun m=>by
 cases u with
 | tup _=>exact m
 | frz _ _=>exact m
 | _=>cases h
noncomputable def w_c(H:Hp):Hp:=fun b=>match H b with
 | some u=>if isT u=true then some u else none
 | none=>none
theorem u_j{H:Hp}{b:Addr}{o:HO}(h:w_c H b=some o):isT o=true/\H b=some o:=by
 unfold w_c at h
 split at h
 ·rename_i u e
  split at h
  ·rename_i t;cases h;exact⟨t,e⟩
  ·cases h
 ·cases h
theorem t_O{H:Hp}{b:Addr}{u:HO}(t:isT u=true)(h:H b=some u):w_c H b=some u:=by unfold w_c;rw[h];exact if_pos t
noncomputable def GH(mg:Str->Option Value)(H:Hp):Prop:=∀x d u,glob x=some d->mg x=some u->∃v,c_b v u/\DV (w_c H) v d
noncomputable def GF(mg:Str->Option Value)(F:Fx):Prop:=GH mg fun b=>if b∈F.A₀ then none else F.H₀ b
theorem GH.mono{mg:Str->Option Value}{H H':Hp}(g:GH mg H)(k:∀b u,isT u=true->H b=some u->H' b=some u):GH mg H':=fun x d u h1 h2=>by
 obtain⟨v,r,dv⟩:=g x d u h1 h2
 exact⟨v,r,DV.mono (fun b o e=>by obtain⟨t,e1⟩:=u_j e;exact t_O t (k b o t e1)) dv⟩
theorem GF.at{mg:Str->Option Value}{K:Frag}{F:Fx}{H:Hp}{Y:St}{U:a_q}{O:List Addr}(g:GF mg F)(st:DSt K F H Y U O):GH mg H:=GH.mono g fun b xs t e=>by
 obtain⟨W,st,rfl⟩:=st
 split at e
 ·cases e
 ·rename_i hn;exact st.kept b _ hn e
theorem GH.frame{mg:Str->Option Value}{H:Hp}{A O:List Addr}{io:Nat->Addr}(g:GH mg H)(h:∀a∈A,∃o,H a=some o/\Mv o):GF mg ⟨H,A,O,io⟩:=GH.mono g fun b xs t e=>by
 show(if b∈A then none else H b)=_
 rw[if_neg,e]
 intro z
 obtain⟨o,e1,m⟩:=h b z
 rw[e] at e1
 cases e1
 exact t_L t m
theorem GF.into{mg:Str->Option Value}{K:Frag}{F:Fx}{H:Hp}{Y:St}{U:a_q}{O O':List Addr}{io:Nat->Addr}(g:GF mg F)(st:DSt K F H Y U O):GF mg ⟨H,[],O',io⟩:=(g.at st).frame fun a h=>by cases h
noncomputable def XOk(X:Cx)(F:Fx)(E:Str->a_q->Prop):Prop:=GF X.mg F/\∀(pins:List (Addr×Obj)) (Y:St) (H:Hp) (s:Shared) (e:Value) (c:Str) (U:a_q) (O:List Addr),Fly X pins Y H s e c->DSt X.K F H Y U O->E c U->X.xe e s
theorem ExS.weak{g g':Heap}{H:Hp}{h:Heap}{a:Addr}{C:Value}{fl:Option Value}(x:ExS g H h a C fl)(k:∀b o,g'.get? b=some o->∃o',g.get? b=some o'):ExS g' H h a C fl:=by
 have nn:∀b,g.get? b=none->g'.get? b=none:=fun b e=>by
  cases q:g'.get? b with
  | none=>rfl
  | some o=>obtain⟨o',e'⟩:=k b o q;rw[e] at e';cases e'
 obtain⟨gh,lo,un,oe,vs,a0,he,hc,hd,h0,hx⟩:=x
 refine⟨fun b o e=>let⟨o',e'⟩:=k b o e;gh b o' e',nn a lo,un,oe,vs,a0,he,hc,hd,h0,hx.imp id ?_⟩
 rintro⟨T,oT,ts,f,h1,h2,h3,h4⟩
 exact⟨T,oT,ts,f,h1,h2,nn T h3,h4⟩
theorem _root_.L2.Inv.flies{E:XK}{e:Value}{s':Shared}(I:Inv X pins Y H s)(h:CXM X.prog X.w X.stack H s E e s'):∃a C H',e=.ref a/\Inv X pins Y H' s'/\Cov X pins s.heap/\ExS s.heap H' s'.heap a C (some .none)/\E C none H':=by
 obtain⟨a,C,H',e1,os,bare,un,hok,ex,q⟩:=h
 obtain⟨hh,g,d,t,os'⟩:=s'
 obtain rfl:os' = s.os:=os
 exact⟨a,C,H',e1,I.call (h':=hh) (g':=g) (d':=d) (t':=t) (ch:=[]) un hok bare (fun b z=>absurd z (by simp)),I.cov,ex,q⟩
end
theorem t_Q{P:Program}{w:World}{K:Frag}{mg:Str->Option Value}{base:Heap}{N:List Str}{qual:Str}{scope:Scope}{f:Addr}{cd:Value}{A:Around}{outer:List Env}{s:Shared}{H:Hp}{E:XK}{F:Fx}{E':Str->a_q->Prop}
  (hG:GF mg F) (hE:∀c C U' Y' H' O',mg c=some C->DSt K F H' Y' U' O'->E' c U'->E C none H'):XOk (r_c (CXM P w) P w K mg base N qual scope f cd A outer s H E) F E':=by
 refine⟨hG,?_⟩
 intro pins Y H1 s1 e c U O ⟨I,a,C,g,fl,e1,cv,ex,hm⟩ st q
 subst e1
 have fr:(A.deeper (envOfC qual scope s.heap.objs.size f cd)).frames=some (envOfC qual scope s.heap.objs.size f cd::outer):=I.ok.frames
 have hb:∀b,s1.heap.get? b=none->H1 b=none:=fun b z=>HOk.some_of I.hok z
 have stk:frs (envOfC qual scope s.heap.objs.size f cd::outer)=s.heap.objs.size::frs outer:=rfl
 refine n_4 (base:=base) fr I.stack rfl hb ex fun h' ch ex'=>?_
 have J:=I.ch cv ch
 refine⟨a,C,H1,rfl,J.os,J.bare,J.base,J.hok,ex'.weak fun b o eb=>cv.s0 b o eb (by intro z;cases z),hE c C U Y H1 O hm st q⟩
noncomputable def Fx.plus(F:Fx)(fp:List Addr):Fx:={ F with O₀:=fp++F.O₀ }
theorem Fx.plus_plus{F:Fx}{l m:List Addr}:(F.plus l).plus m=F.plus (m++l):=by unfold Fx.plus;simp
section
variable{K:Frag}{F:Fx}{H H':Hp}{Y:St}{U:a_q}{O O':List Addr}{W:List (List Addr)}{fp:List Addr}{v:V}{c:Cell}
structure Res (K:Frag) (F:Fx) (H:Hp) (Y:St) (U:a_q) (O:List Addr) (v:V) (c:Cell) (fp:List Addr):Prop where
 st:DSt K (F.plus fp) H Y U O
 at_:c_A K H O v c fp
 new:∀a∈fp,a∈F.A₀\/F.H₀ a=none
theorem d_u(h:∀a∈O',a∈O):Stp O H O' H:=⟨fun _ _ _ e=>e,fun a z=>.inl (h a z)⟩
theorem DStW.less{F':Fx}(st:DStW K F H Y U W)(h1:F'.H₀=F.H₀)(h2:F'.A₀=F.A₀)(h4:F'.I₀=F.I₀)(h3:F'.O₀.Sublist F.O₀):DStW K F' H Y U W:=by
 have sub:(W.flatten++F'.O₀).Sublist (W.flatten++F.O₀):=List.Sublist.append (List.Sublist.refl _) h3
 have mem:∀a∈W.flatten++F'.O₀,a∈W.flatten++F.O₀:=fun a h=>sub.subset h
 refine⟨fun i c e=>?_,st.nd.sublist sub,by rw[h1,h2];exact st.kept,by rw[h1,h2];exact st.new,fun a h=>st.live a (mem a h),st.len,st.lw,by rw[h4];exact st.io⟩
 obtain⟨v,fp,e1,e2,e3⟩:=st.at_ i c e
 exact⟨v,fp,e1,e2,e3.keep (d_u mem) (fun _ _=>rfl) (fun _ _ _ e=>e)⟩
theorem DSt.unplus(st:DSt K (F.plus fp) H Y U O):∃O',DSt K F H Y U O'/\Stp O H O' H/\(∀a∈fp,a∉O'):=by
 obtain⟨W,st,rfl⟩:=st
 have st':DStW K F H Y U W:=st.less rfl rfl rfl (List.sublist_append_right _ _)
 refine⟨_,⟨W,st',rfl⟩,d_u fun a h=>?_,fun a ha z=>?_⟩
 ·rcases List.mem_append.mp h with h | h
  ·exact Qaj _ h
  ·exact Qai _ (Qai _ h)
 ·have nd:(W.flatten++(fp++F.O₀)).Nodup:=st.nd
  obtain⟨_,n2,n3⟩:=List.nodup_append.mp nd
  rcases List.mem_append.mp z with z | z
  ·exact n3 a z a (Qaj _ ha) rfl
  ·exact(List.nodup_append.mp n2).2.2 a ha a z rfl
theorem Res.drop(r:Res K F H Y U O v c fp):∃O',DSt K F H Y U O'/\Stp O H O' H:=let⟨O',h1,h2,_⟩:=r.st.unplus;⟨O',h1,h2⟩
@[simp] noncomputable def frz:Cell->Option PyData
 | .dat d=>some d
 | .own _ (.l ds)=>some (.list ds)
 | _=>none
theorem Res.frz{d:PyData}(r:Res K F H Y U O v c fp)(e:frz c=some d):∃O',DSt K F H Y U O'/\Stp O H O' H/\DV (hide O' H) v d:=by
 obtain⟨O',h1,h2,h3⟩:=r.st.unplus
 refine⟨O',h1,h2,?_⟩
 have ra:=r.at_
 cases c with
 | dat x=>cases e;exact DV.mono h2.hid ra
 | scr ns=>cases e
 | exc c=>cases e
 | vw c=>cases e
 | own io b=>
  cases b with
  | l ds=>
   cases e
   obtain⟨a,rfl,rfl,xs,e1,e2⟩:=ra
   exact .lst (e_x e1 (h3 a (by simp))) (DVs.mono h2.hid e2)
  | m _ _=>cases e
  | o _ _=>cases e
  | sd _=>cases e
  | ll _=>cases e
  | pr _ _ _=>cases e
theorem r_r(st:DSt K F H Y U O){d:PyData}(h:DV (hide O H) v d):Res K F H Y U O v (.dat d) []:=⟨st,h,fun a h=>by cases h⟩
theorem DSt.put1{io:Bool}(st:DSt K (F.plus fp) H Y U O)(hc:c_A K H O v c fp)(new:∀a∈fp,a∈F.A₀\/F.H₀ a=none){i:Nat}(hi:i<U.length)(hio:∀b,c=.own true b->v=.ref (F.I₀ i)) :
  ∃O',DSt K F H (Y.set i (some v)) (U.set i (some c)) O'/\Stp O H O' H:=by
 obtain⟨W,st,rfl⟩:=st
 have nd:(W.flatten++(fp++F.O₀)).Nodup:=st.nd
 obtain⟨n1,n2,n3⟩:=List.nodup_append.mp nd
 obtain⟨n4,n5,n6⟩:=List.nodup_append.mp n2
 have hiW:i<W.length:=by rw[st.lw];exact hi
 have sub:∀a∈(W.set i fp).flatten++F.O₀,a∈W.flatten++(fp++F.O₀):=fun a h=>by
  rcases List.mem_append.mp h with h | h
  ·rcases a_C h with h | ⟨j,l,_,e,hl⟩
   ·exact Qai _ (Qaj _ h)
   ·exact Qaj _ (a_d e hl)
  ·exact Qai _ (Qai _ h)
 have stp:=d_u (H:=H) sub
 refine⟨_,⟨W.set i fp,⟨fun j d e=>?_,g_H (List.nodup_append.mpr ⟨n1,n5,fun a ha b hb=>n3 a ha b (Qai _ hb)⟩) n4 fun a ha=>⟨fun j l _ e z=>n3 a (a_d e z) a (Qaj _ ha) rfl,fun z=>n6 a ha a z rfl⟩,st.kept,fun a h=>?_,fun a h=>st.live a (sub a h),by rw[List.length_set,List.length_set,st.len],by rw[List.length_set,List.length_set,st.lw],fun j b e=>?_⟩,rfl⟩,stp⟩
 ·rcases d_2 e with⟨rfl,e1,_⟩ | ⟨hj,e1⟩
  ·cases e1
   exact⟨v,fp,List.getElem?_set_self (by rw[<-st.len];exact hi),List.getElem?_set_self hiW,hc.keep stp (fun _ _=>rfl) (fun _ _ _ e=>e)⟩
  ·obtain⟨w,l,h1,h2,h3⟩:=st.at_ j d e1
   exact⟨w,l,by rw[List.getElem?_set_ne (Ne.symm hj)];exact h1,by rw[List.getElem?_set_ne (Ne.symm hj)];exact h2,h3.keep stp (fun _ _=>rfl) (fun _ _ _ e=>e)⟩
 ·rcases a_C h with h | ⟨j,l,_,e,hl⟩
  ·exact new a h
  ·exact st.new a (a_d e hl)
 ·rcases d_2 e with⟨rfl,e1,_⟩ | ⟨hj,e1⟩
  ·rw[List.getElem?_set_self (by rw[<-st.len];exact hi),hio b (Option.some.inj e1).symm]
  ·rw[List.getElem?_set_ne (Ne.symm hj)];exact st.io j b e1
theorem DSt.take(st:DSt K F H Y U O){i:Nat}{io:Bool}{b:Bx}(e:U[i]? = some (some (.own io b))):∃a fp O',Y[i]? = some (some (.ref a))/\DSt K (F.plus fp) H Y (U.set i none) O'/\f_Z (hide O' H) H a b fp/\Stp O H O' H/\Stp O' H O H/\(∀a∈fp,a∈F.A₀\/F.H₀ a=none)/\(io=true->a=F.I₀ i):=by
 obtain⟨W,st,rfl⟩:=st
 obtain⟨v,fp,h1,h2,a,rfl,h3⟩:=st.at_ i _ e
 have hi:i<U.length:=(List.getElem?_eq_some_iff.mp e).1
 have hiW:i<W.length:=by rw[st.lw];exact hi
 obtain⟨n1,n2,n3⟩:=List.nodup_append.mp st.nd
 have s1:∀x∈(W.set i []).flatten++(fp++F.O₀),x∈W.flatten++F.O₀:=fun x h=>by
  rcases List.mem_append.mp h with h | h
  ·rcases a_C h with h | ⟨j,l,_,ej,hl⟩
   ·cases h
   ·exact Qaj _ (a_d ej hl)
  ·rcases List.mem_append.mp h with h | h
   ·exact Qaj _ (a_d h2 h)
   ·exact Qai _ h
 have s2:∀x∈W.flatten++F.O₀,x∈(W.set i []).flatten++(fp++F.O₀):=fun x h=>by
  rcases List.mem_append.mp h with h | h
  ·obtain⟨l,hl,hx⟩:=List.mem_flatten.mp h
   obtain⟨j,hj⟩:=List.getElem?_of_mem hl
   by_cases hji:j=i
   ·subst hji;rw[h2] at hj;cases hj;exact Qai _ (Qaj _ hx)
   ·exact Qaj _ (k_m hji hj hx)
  ·exact Qai _ (Qai _ h)
 have nfp:fp.Nodup:=by
  have:∀{W:List (List Addr)}{i:Nat}{l:List Addr},W.flatten.Nodup->W[i]? = some l->l.Nodup:=fun {W i l} nd hl=>nd.sublist (by
   have:=List.mem_of_getElem? hl
   exact List.sublist_flatten_of_mem this)
  exact this n1 h2
 have nd':((W.set i []).flatten++(fp++F.O₀)).Nodup:=by
  have q:((W.set i []).flatten++([]++F.O₀)).Nodup:=g_H (fp:=[]) (O:=F.O₀) st.nd List.nodup_nil (fun a h=>by cases h)
  obtain⟨q1,_,q3⟩:=List.nodup_append.mp q
  refine List.nodup_append.mpr ⟨q1,List.nodup_append.mpr ⟨nfp,n2,fun x hx y hy z=>n3 x (a_d h2 hx) y hy z⟩,fun x hx y hy z=>?_⟩
  subst z
  rcases List.mem_append.mp hy with hy | hy
  ·rcases a_C hx with hx | ⟨j,l,hj,ej,hl⟩
   ·cases hx
   ·exact d_G n1 h2 ej (Ne.symm hj) hy hl
  ·exact q3 x hx x hy rfl
 have stp:=d_u (H:=H) s1
 have k:=d_u (H:=H) s2
 refine⟨a,fp,_,h1,⟨W.set i [],⟨fun j d ej=>?_,nd',st.kept,fun x h=>?_,fun x h=>st.live x (s1 x h),by rw[List.length_set,st.len],by rw[List.length_set,List.length_set,st.lw],fun j b' ej=>?_⟩,rfl⟩,h3.keep (fun _ _=>rfl) stp.hid,stp,k,fun x hx=>st.new x (a_d h2 hx),fun hio=>?_⟩
 ·rcases d_2 ej with⟨rfl,e1,_⟩ | ⟨hj,e1⟩
  ·cases e1
  ·obtain⟨w,l,q1,q2,q3⟩:=st.at_ j d e1
   exact⟨w,l,q1,by rw[List.getElem?_set_ne (Ne.symm hj)];exact q2,q3.keep stp (fun _ _=>rfl) (fun _ _ _ e=>e)⟩
 ·rcases a_C h with h | ⟨j,l,_,ej,hl⟩
  ·cases h
  ·exact st.new x (a_d ej hl)
 ·rcases d_2 ej with⟨rfl,e1,_⟩ | ⟨hj,e1⟩
  ·cases e1
  ·exact st.io j b' e1
 ·subst hio
  have:=st.io i b e
  rw[h1] at this
  cases this;rfl
theorem DSt.swap{L L':List Addr}(st:DSt K (F.plus L) H Y U O)(keep:∀b o,b∉L->H b=some o->H' b=some o)(nd:L'.Nodup)(new:∀a∈L',a∈L\/H a=none)(hA:∀a∈L,a∈F.A₀\/F.H₀ a=none)(liv:∀a∈L',∃o,H' a=some o/\Mv o) :
  ∃O',DSt K (F.plus L') H' Y U O'/\Stp O H O' H'/\(∀a∈L',a∈O')/\(∀a∈O',a∈L'\/a∈O/\a∉L)/\∀a∈O,a∉L->a∈O':=by
 obtain⟨W,st,rfl⟩:=st
 have ndO:(W.flatten++(L++F.O₀)).Nodup:=st.nd
 obtain⟨n1,n2,n3⟩:=List.nodup_append.mp ndO
 obtain⟨n4,n5,n6⟩:=List.nodup_append.mp n2
 have wl:∀a∈W.flatten,a∉L:=fun a h z=>n3 a h a (Qaj _ z) rfl
 have ol:∀a∈F.O₀,a∉L:=fun a h z=>n6 a z a h rfl
 have lv:∀a∈W.flatten++F.O₀,∃o,H a=some o/\Mv o:=fun a h=>st.live a (by
  rcases List.mem_append.mp h with h | h
  ·exact Qaj _ h
  ·exact Qai _ (Qai _ h))
 have kp:∀a∈W.flatten++F.O₀,H' a=H a:=fun a h=>by
  obtain⟨o,e,_⟩:=lv a h
  rw[e]
  exact keep a o ((List.mem_append.mp h).elim (wl a) (ol a)) e
 have ap:∀a∈L',a∉W.flatten++F.O₀:=fun a h z=>by
  rcases new a h with q | q
  ·rcases List.mem_append.mp z with z | z
   ·exact wl a z q
   ·exact ol a z q
  ·obtain⟨o,e,_⟩:=lv a z;rw[q] at e;cases e
 have stp:Stp (W.flatten++(L++F.O₀)) H (W.flatten++(L'++F.O₀)) H':=⟨fun b o hb e=>keep b o (fun z=>hb (Qai _ (Qaj _ z))) e,fun a h=>by
  rcases List.mem_append.mp h with h | h
  ·exact .inl (Qaj _ h)
  ·rcases List.mem_append.mp h with h | h
   ·exact(new a h).imp (fun z=>Qai _ (Qaj _ z)) id
   ·exact .inl (Qai _ (Qai _ h))⟩
 have zf:∀b o u,H b=some (.frz o u)->H' b=some (.frz o u):=fun b o u e=>keep b _ (fun z=>st.nofrz (Qai _ (Qaj _ z)) e) e
 refine⟨_,⟨W,⟨fun i c e=>?_,?_,fun b o hb e=>?_,st.new,fun a h=>?_,st.len,st.lw,st.io⟩,rfl⟩,stp,fun a h=>Qai _ (Qaj _ h),fun a h=>?_,fun a h hn=>?_⟩
 ·obtain⟨v,fp,h1,h2,h3⟩:=st.at_ i c e
  exact⟨v,fp,h1,h2,h3.keep stp (fun b hb=>kp b (Qaj _ (a_d h2 hb))) zf⟩
 ·refine List.nodup_append.mpr ⟨n1,List.nodup_append.mpr ⟨nd,n5,fun a ha b hb z=>?_⟩,fun a ha b hb z=>?_⟩
  ·subst z;exact ap a ha (Qai _ hb)
  ·subst z
   rcases List.mem_append.mp hb with hb | hb
   ·exact ap a hb (Qaj _ ha)
   ·exact n3 a ha a (Qai _ hb) rfl
 ·have e1:=st.kept b o hb e
  by_cases hL:b∈L
  ·rcases hA b hL with q | q
   ·exact absurd q hb
   ·have e':F.H₀ b=some o:=e
    rw[q] at e';cases e'
  ·exact keep b o hL e1
 ·rcases List.mem_append.mp h with h | h
  ·obtain⟨o,e1,e2⟩:=lv a (Qaj _ h)
   exact⟨o,by rw[kp a (Qaj _ h)];exact e1,e2⟩
  ·rcases List.mem_append.mp h with h | h
   ·exact liv a h
   ·obtain⟨o,e1,e2⟩:=lv a (Qai _ h)
    exact⟨o,by rw[kp a (Qai _ h)];exact e1,e2⟩
 ·rcases List.mem_append.mp h with h | h
  ·exact .inr ⟨Qaj _ h,wl a h⟩
  ·rcases List.mem_append.mp h with h | h
   ·exact .inl h
   ·exact .inr ⟨Qai _ (Qai _ h),ol a h⟩
 ·rcases List.mem_append.mp h with h | h
  ·exact Qaj _ h
  ·rcases List.mem_append.mp h with h | h
   ·exact absurd h hn
   ·exact Qai _ (Qai _ h)
end
noncomputable abbrev DTO:=a_q->(Cell->a_q->Prop)->Prop
noncomputable def MnO(t:DTO):Prop:=∀U Q Q',(∀c U',Q c U'->Q' c U')->t U Q->t U Q'
noncomputable def rdO(K:Frag)(F:Fx)(t:DTO):TE:=fun Y H Q=>∃U O,DSt K F H Y U O/\t U fun c U'=>∀v H' O' fp,Res K F H' Y U' O' v c fp->Stp O H O' H'->Q v H'
structure DO (X:Cx) (F:Fx) (e:Expr) (t:DTO):Prop where
 mn:MnO t
 pe:PE X e (rdO X.K F t)
section
variable{X:Cx}{F:Fx}{e:Expr}{te:DT}{to:DTO}
noncomputable def z_o(t:DTO):DT:=fun U Q=>t U fun c U'=>∃d,frz c=some d/\Q d U'
theorem DO.de(h:DO X F e to):DE X F e (z_o to):=
 ⟨fun _ _ _ k q=>h.mn _ _ _ (fun _ _ ⟨d,e,q⟩=>⟨d,e,k _ _ q⟩) q,h.pe.imp fun Y H Q ⟨U,O,st,q⟩=>⟨U,O,st,h.mn _ _ _ (fun c U' ⟨d,e,q⟩ v H' O' fp r s=>by
  obtain⟨O2,st2,s2,dv⟩:=r.frz e
  exact q v H' O2 st2 (s.trans s2) dv) q⟩⟩
end
noncomputable abbrev DTG:=PyData->a_q->(a_q->Prop)->Prop
noncomputable def rdG(K:Frag)(F:Fx)(t:DTG):TG:=fun v Y H Q=>∃U O d,DSt K F H Y U O/\DV (hide O H) v d/\t d U fun U'=>∀Y' H' O',DSt K F H' Y' U' O'->Stp O H O' H'->Q Y' H'
structure DG (X:Cx) (F:Fx) (tg:Expr) (t:DTG):Prop where
 mn:∀d U Q Q',(∀U',Q U'->Q' U')->t d U Q->t d U Q'
 pg:PG X tg (rdG X.K F t)
noncomputable abbrev q_1:=List PyData->a_q->(a_q->Prop)->Prop
noncomputable def z_a(K:Frag)(F:Fx)(t:q_1):TGs:=fun vs Y H Q=>∃U O ds,DSt K F H Y U O/\DVs (hide O H) vs ds/\t ds U fun U'=>∀Y' H' O',DSt K F H' Y' U' O'->Stp O H O' H'->Q Y' H'
structure DGs (X:Cx) (F:Fx) (tg:List Expr) (t:q_1):Prop where
 mn:∀d U Q Q',(∀U',Q U'->Q' U')->t d U Q->t d U Q'
 pg:PGs X tg (z_a X.K F t)
theorem _root_.L2.PG.imp{X:Cx}{e:Expr}{t t':TG}(h:PG X e t)(k:∀v Y H Q,t' v Y H Q->t v Y H Q):PG X e t':=fun pins s Y H v u Q I r q=>h pins s Y H v u Q I r (k v Y H Q q)
theorem _root_.L2.PGs.imp{X:Cx}{e:List Expr}{t t':TGs}(h:PGs X e t)(k:∀v Y H Q,t' v Y H Q->t v Y H Q):PGs X e t':=fun pins s Y H v u Q I r q=>h pins s Y H v u Q I r (k v Y H Q q)
section
variable{X:Cx}{F:Fx}{e:Expr}{es:List Expr}{pos:Pos}{x:Str}{t:DTG}{ts:q_1}
noncomputable def gN(i:Nat):DTG:=fun d U Q=>Q (U.set i (some (.dat d)))
theorem r_G{i:Nat}(h:PG X (.Name x pos) (q_E i)):DG X F (.Name x pos) (gN i):=⟨fun _ _ _ _ k q=>k _ q,h.imp fun v Y H Q ⟨U,O,d,st,hd,q⟩=>q _ H O (st.set hd) .refl⟩
noncomputable def gNl:q_1:=fun ds U Q=>ds=[]/\Q U
noncomputable def gCs(t:DTG)(u:q_1):q_1:=fun ds U Q=>∃d r,ds=d::r/\t d U fun U'=>u r U' Q
theorem s_f:DGs X F [] gNl:=⟨fun _ _ _ _ k q=>⟨q.1,k _ q.2⟩,o_t.imp fun vs Y H Q ⟨U,O,ds,st,hd,e,q⟩=>by
 subst e
 cases hd
 exact⟨rfl,q _ H O st .refl⟩⟩
theorem p_Z(h1:DG X F e t)(h2:DGs X F es ts)(hs:(assignEach (e::es) X.env).map (·.2)=assign e X.env::(assignEach es X.env).map (·.2):=by rfl):DGs X F (e::es) (gCs t ts):=
 ⟨fun _ _ _ _ k ⟨d,r,e,q⟩=>⟨d,r,e,h1.mn _ _ _ _ (fun _ q1=>h2.mn _ _ _ _ k q1) q⟩,(j_L h1.pg h2.pg hs).imp fun vs Y H Q ⟨U,O,ds,st,hd,d,r,e,q⟩=>by
  subst e
  cases hd with
  | cons hd hr=>
   exact⟨_,_,rfl,U,O,d,st,hd,h1.mn _ _ _ _ (fun U1 q1 Y1 H1 O1 st1 s1=>⟨U1,O1,r,st1,DVs.mono s1.hid hr,h2.mn _ _ _ _ (fun U2 q2 Y2 H2 O2 st2 s2=>q2 Y2 H2 O2 st2 (s1.trans s2)) q1⟩) q⟩⟩
noncomputable def gTp(n:Nat)(t:q_1):DTG:=fun d U Q=>∃ds,d=.tuple ds/\ds.length=n/\t ds U Q
theorem v_q{k n:Nat}(hc:X.calm=true)(h:DGs X F es ts)(hn:(assignEach es X.env).length=n:=by rfl)(hst:(assignEach es X.env).findIdx? (·.1)=none:=by rfl):DG X F (.Tuple es k pos) (gTp n ts):=
 ⟨fun _ _ _ _ k ⟨ds,e,l,q⟩=>⟨ds,e,l,h.mn _ _ _ _ k q⟩,(q_Y hc h.pg hn hst).imp fun v Y H Q ⟨U,O,d,st,hd,ds,e,l,q⟩=>by
  subst e
  obtain⟨a,xs,rfl,ha,hx⟩:=hd.tup_inv
  exact⟨a,xs,rfl,.inl (d_v ha).1,by rw[hx.length];exact l,U,O,ds,st,hx,q⟩⟩
end
structure DEnds where
 nx:a_q->Prop
 rt:Cell->a_q->Prop
 bk:a_q->Prop:=fun _=>False
 ct:a_q->Prop:=fun _=>False
noncomputable abbrev DTS:=DEnds->a_q->Prop
structure Fits (K:Frag) (F:Fx) (O:List Addr) (H:Hp) (D:Ends) (DD:DEnds):Prop where
 nx:∀Y' H' U' O',DSt K F H' Y' U' O'->Stp O H O' H'->DD.nx U'->D.nx Y' H'
 rt:∀v Y' H' c U' O' fp,Res K F H' Y' U' O' v c fp->Stp O H O' H'->DD.rt c U'->D.rt v H'
 bk:∀Y' H' U' O',DSt K F H' Y' U' O'->Stp O H O' H'->DD.bk U'->D.bk Y' H'
 ct:∀Y' H' U' O',DSt K F H' Y' U' O'->Stp O H O' H'->DD.ct U'->D.ct Y' H'
theorem Fits.later{K:Frag}{F:Fx}{O O':List Addr}{H H':Hp}{D:Ends}{DD:DEnds}(f:Fits K F O H D DD)(s:Stp O H O' H'):Fits K F O' H' D DD:=
 ⟨fun Y H U O st s' q=>f.nx Y H U O st (s.trans s') q,fun v Y H c U O fp r s' q=>f.rt v Y H c U O fp r (s.trans s') q,fun Y H U O st s' q=>f.bk Y H U O st (s.trans s') q,fun Y H U O st s' q=>f.ct Y H U O st (s.trans s') q⟩
noncomputable def rdS(K:Frag)(F:Fx)(t:DTS):TS:=fun D Y H=>∃U O DD,DSt K F H Y U O/\t DD U/\Fits K F O H D DD
noncomputable def DS(X:Cx)(F:Fx)(s:Stmt)(t:DTS):Prop:=PS X s (rdS X.K F t)
noncomputable def DSs(X:Cx)(F:Fx)(s:List Stmt)(t:DTS):Prop:=PSs X s (rdS X.K F t)
section
variable{X:Cx}{F:Fx}{e:Expr}{es:List Expr}{st:Stmt}{rest:List Stmt}{t u:DTS}{te:DT}{to:DTO}{tA:DTA}{tc:DTT}{tg:DTG}{pos:Pos}{x:Str}
noncomputable def x_c:DTS:=fun D U=>D.nx U
noncomputable def z_D(t u:DTS):DTS:=fun D U=>t { D with nx:=fun U'=>u D U' } U
theorem r_S:DSs X F [] x_c:=r_6.imp fun D Y H ⟨U,O,DD,st,q,f⟩=>f.nx Y H U O st .refl q
theorem q_a(h1:DS X F st t)(h2:DSs X F rest u):DSs X F (st::rest) (z_D t u):=
 (p_T h1 h2).imp fun D Y H ⟨U,O,DD,s,q,f⟩=>⟨U,O,_,s,q,⟨fun Y' H' U' O' st' s' q'=>⟨U',O',DD,st',q',f.later s'⟩,f.rt,f.bk,f.ct⟩⟩
theorem s_V(h:DS X F st t):DSs X F [st] t:=r_D h
noncomputable def w_p(te:DT)(tg:DTG):DTS:=fun D U=>te U fun d U'=>tg d U' D.nx
theorem u_J{tgt:Expr}(he:DE X F e te)(hg:DG X F tgt tg)(hs:swapsWithSole [tgt] e pos.line X.env=pure false:=by rfl)(hw:swappedStores [tgt] e X.env=pure none:=by rfl)
  (h1:(assignEach [tgt] X.env).map (·.2)=[assign tgt X.env]:=by rfl):DS X F (.Assign [tgt] e pos) (w_p te tg):=
 (o_u he.pe hg.pg hs hw h1).imp fun D Y H ⟨U,O,DD,st,q,f⟩=>⟨U,O,st,he.mn _ _ _ (fun d U1 q1 v H1 O1 st1 s1 d1=>⟨U1,O1,d,st1,d1,hg.mn _ _ _ _ (fun U2 q2 Y2 H2 O2 st2 s2=>f.nx Y2 H2 U2 O2 st2 (s1.trans s2) q2) q1⟩) q⟩
theorem u_p{i:Nat}{pos':Pos}(hN:X.N.Nodup)(hi:X.N[i]? = some x)(hx:Loc X.env.scope x)(he:DE X F e te)(hs:swapsWith e (some (.Name x pos')) pos.line X.env=pure false:=by rfl)
  (hf:X.fn x=true\/X.env.scope.names.lookup x=some .local:=by first | exact .inl rfl | exact .inr rfl | assumption):DS X F (.Assign [.Name x pos'] e pos) (w_p te (gN i)):=
 (r_a hN hi hx he.pe hs hf).imp fun D Y H ⟨U,O,DD,st,q,f⟩=>⟨U,O,st,he.mn _ _ _ (fun d U1 q1 v H1 O1 st1 s1 d1=>f.nx _ H1 _ O1 (st1.set d1) s1 q1) q⟩
noncomputable def y_0(te:DT):DTS:=fun D U=>te U fun d U'=>D.rt (.dat d) U'
theorem r_k(he:DE X F e te):DS X F (.Return (some e) pos) (y_0 te):=
 (o_1 he.pe).imp fun D Y H ⟨U,O,DD,st,q,f⟩=>⟨U,O,st,he.mn _ _ _ (fun d U1 q1 v H1 O1 st1 s1 d1=>f.rt v Y H1 (.dat d) U1 O1 [] (r_r st1 d1) s1 q1) q⟩
noncomputable def x_x(to:DTO):DTS:=fun D U=>to U fun c U'=>D.rt c U'
theorem t_a(he:DO X F e to):DS X F (.Return (some e) pos) (x_x to):=
 (o_1 he.pe).imp fun D Y H ⟨U,O,DD,st,q,f⟩=>⟨U,O,st,he.mn _ _ _ (fun c U1 q1 v H1 O1 fp r s1=>f.rt v Y H1 c U1 O1 fp r s1 q1) q⟩
noncomputable def v_U(i:Nat):DTS:=fun D U=>∃b,U[i]? = some (some (.own false b))/\D.rt (.own false b) (U.set i none)
theorem p_Y{i:Nat}{p1:Pos}(hv:PE X (.Name x p1) (f_r i)):DS X F (.Return (some (.Name x p1)) pos) (v_U i):=
 (o_1 hv).imp fun D Y H ⟨U,O,DD,st,⟨b,e,q⟩,f⟩=>by
  obtain⟨a,fp,O',h1,h2,h3,h4,h5,h6,_⟩:=st.take e
  exact⟨_,h1,f.rt _ Y H (.own false b) _ O' fp ⟨h2,⟨a,rfl,h3⟩,h6⟩ h4 q⟩
noncomputable def x_H(i:Nat)(to:DTO):DTS:=fun D U=>to U fun c U'=>i<U'.length/\(∀b,c≠.own true b)/\D.nx (U'.set i (some c))
theorem s_g{i:Nat}{pos':Pos}(hN:X.N.Nodup)(hi:X.N[i]? = some x)(hx:Loc X.env.scope x)(he:DO X F e to)(hs:swapsWith e (some (.Name x pos')) pos.line X.env=pure false:=by rfl)
  (hf:X.fn x=true\/X.env.scope.names.lookup x=some .local:=by first | exact .inl rfl | exact .inr rfl | assumption):DS X F (.Assign [.Name x pos'] e pos) (x_H i to):=
 (r_a hN hi hx he.pe hs hf).imp fun D Y H ⟨U,O,DD,st,q,f⟩=>⟨U,O,st,he.mn _ _ _ (fun c U1 ⟨hl,hn,q1⟩ v H1 O1 fp r s1=>by
  obtain⟨O2,st2,s2⟩:=DSt.put1 (io:=true) r.st r.at_ r.new hl (fun b z=>absurd z (hn b))
  exact f.nx _ H1 _ O2 st2 (s1.trans s2) q1) q⟩
noncomputable def v_h(to:DTO):DTS:=fun D U=>to U fun _ U'=>D.nx U'
theorem q_p(he:DO X F e to)(hs:swapsWith e none pos.line X.env=pure false:=by rfl):DS X F (.Expr e pos) (v_h to):=
 (l_W he.pe hs).imp fun D Y H ⟨U,O,DD,st,q,f⟩=>⟨U,O,st,he.mn _ _ _ (fun c U1 q1 v H1 O1 fp r s1=>by
  obtain⟨O2,st2,s2⟩:=r.drop
  exact f.nx _ _ _ _ st2 (s1.trans s2) q1) q⟩
noncomputable def sIf(tc:DTT)(t u:DTS):DTS:=fun D U=>tc U fun b U'=>if b=true then t D U' else u D U'
theorem x_2{c:Expr}{a b:List Stmt}(hc:DB X F c tc)(ha:DSs X F a t)(hb:DSs X F b u):DS X F (.If c a b pos) (sIf tc t u):=
 (x_X hc.pt ha hb).imp fun D Y H ⟨U,O,DD,st,q,f⟩=>⟨U,O,st,hc.mn _ _ _ (fun b U1 q1 H1 O1 st1 s1=>by
  cases b with
  | true=>exact i_V ⟨U1,O1,DD,st1,ofT q1,f.later s1⟩
  | false=>exact i_S ⟨U1,O1,DD,st1,ofF q1,f.later s1⟩) q⟩
end
inductive OutF where
 | rt (c:Cell) (outs:List Bx) | ex (c:Str) (outs:List Bx) | bad
noncomputable abbrev FM:=List Cell->OutF
inductive ArgsAt (K:Frag) (H:Hp) (O:List Addr):List V->List Cell->List (List Addr)->Prop where
 | nil:ArgsAt K H O [] [] []
 | dat {v:V}{d:PyData}{vs:List V}{cs:List Cell}{fps:List (List Addr)}:DV (hide O H) v d->ArgsAt K H O vs cs fps->ArgsAt K H O (v::vs) (.dat d::cs) ([]::fps)
 | oth {v:V}{c:Cell}{vs:List V}{cs:List Cell}{fps:List (List Addr)}:(∀d,c≠.dat d)->(∀io b,c≠.own io b)->c_A K H O v c []->ArgsAt K H O vs cs fps->ArgsAt K H O (v::vs) (c::cs) ([]::fps)
 | own {a:Addr}{b:Bx}{fp:List Addr}{vs:List V}{cs:List Cell}{fps:List (List Addr)}:f_Z (hide O H) H a b fp->ArgsAt K H O vs cs fps->ArgsAt K H O (.ref a::vs) (.own true b::cs) (fp::fps)
inductive OutsAt (H:Hp) (O:List Addr):List V->List Cell->List Bx->List (List Addr)->Prop where
 | nil:OutsAt H O [] [] [] []
 | skip {v:V}{c:Cell}{vs:List V}{cs:List Cell}{bs:List Bx}{fps:List (List Addr)}:(∀io b,c≠.own io b)->OutsAt H O vs cs bs fps->OutsAt H O (v::vs) (c::cs) bs fps
 | own {a:Addr}{io:Bool}{b b':Bx}{fp:List Addr}{vs:List V}{cs:List Cell}{bs:List Bx}{fps:List (List Addr)}:f_Z (hide O H) H a b' fp->OutsAt H O vs cs bs fps->OutsAt H O (.ref a::vs) (.own io b::cs) (b'::bs) (fp::fps)
structure Beh (H H':Hp) (L L' O₀:List Addr):Prop where
 nd:(L'++O₀).Nodup
 live:∀a∈L',∃o,H' a=some o/\Mv o
 keep:∀b o,b∉L->H b=some o->H' b=some o
 new:∀a∈L',a∈L\/H a=none
noncomputable def spF(K:Frag)(mg:Str->Option Value)(f:FM):Sp:=fun vs H Q E=>GH mg H/\∃(cs:List Cell) (fps:List (List Addr)) (O₀:List Addr),ArgsAt K H (fps.flatten++O₀) vs cs fps/\(fps.flatten++O₀).Nodup/\(∀a∈fps.flatten++O₀,∃o,H a=some o/\Mv o)/\
 match f cs with
 | .rt c outs=>∀v H' fp fps',c_A K H' (fps'.flatten++fp++O₀) v c fp->OutsAt H' (fps'.flatten++fp++O₀) vs cs outs fps'->Beh H H' fps.flatten (fps'.flatten++fp) O₀->Q v H'
 | .ex c outs=>∀C H' fps',mg c=some C->OutsAt H' (fps'.flatten++O₀) vs cs outs fps'->Beh H H' fps.flatten fps'.flatten O₀->E C none H'
 | .bad=>False
theorem ArgsAt.len{K:Frag}{H:Hp}{O:List Addr}{vs:List V}{cs:List Cell}{fps:List (List Addr)}(h:ArgsAt K H O vs cs fps):vs.length=cs.length/\fps.length=cs.length:=by
 induction h with
 | nil=>exact⟨rfl,rfl⟩
 | dat _ _ ih=>exact⟨congrArg Nat.succ ih.1,congrArg Nat.succ ih.2⟩
 | oth _ _ _ _ ih=>exact⟨congrArg Nat.succ ih.1,congrArg Nat.succ ih.2⟩
 | own _ _ ih=>exact⟨congrArg Nat.succ ih.1,congrArg Nat.succ ih.2⟩
theorem ArgsAt.get{K:Frag}{H:Hp}{O:List Addr}{vs:List V}{cs:List Cell}{fps:List (List Addr)}(h:ArgsAt K H O vs cs fps):∀(i:Nat) (c:Cell),cs[i]? = some c->∃v fp,vs[i]? = some v/\fps[i]? = some fp/\c_A K H O v c fp:=by
 induction h with
 | nil=>intro i c e;simp at e
 | dat h _ ih=>
  intro i c e
  cases i with
  | zero=>simp at e;subst e;exact⟨_,_,rfl,rfl,h⟩
  | succ i=>exact ih i c (by simpa using e)
 | oth _ _ h _ ih=>
  intro i c e
  cases i with
  | zero=>simp at e;subst e;exact⟨_,_,rfl,rfl,h⟩
  | succ i=>exact ih i c (by simpa using e)
 | own h _ ih=>
  intro i c e
  cases i with
  | zero=>simp at e;subst e;exact⟨_,_,rfl,rfl,⟨_,rfl,h⟩⟩
  | succ i=>exact ih i c (by simpa using e)
theorem ArgsAt.mono{K:Frag}{H:Hp}{O O':List Addr}{vs:List V}{cs:List Cell}{fps:List (List Addr)}(h:ArgsAt K H O vs cs fps)(s:Stp O H O' H):ArgsAt K H O' vs cs fps:=by
 induction h with
 | nil=>exact .nil
 | dat h _ ih=>exact .dat (DV.mono s.hid h) ih
 | oth h1 h2 h _ ih=>exact .oth h1 h2 (h.keep s (fun _ _=>rfl) (fun _ _ _ e=>e)) ih
 | own h _ ih=>exact .own (h.keep (fun _ _=>rfl) s.hid) ih
theorem OutsAt.mono{H:Hp}{O O':List Addr}{vs:List V}{cs:List Cell}{bs:List Bx}{fps:List (List Addr)}(h:OutsAt H O vs cs bs fps)(s:Stp O H O' H):OutsAt H O' vs cs bs fps:=by
 induction h with
 | nil=>exact .nil
 | skip h1 _ ih=>exact .skip h1 ih
 | own h _ ih=>exact .own (h.keep (fun _ _=>rfl) s.hid) ih
inductive OutS where
 | nx (U:a_q) | rt (c:Cell) (U:a_q) | bk (U:a_q) | ct (U:a_q) | ex (c:Str) (U:a_q) | bad
noncomputable abbrev SM:=a_q->OutS
noncomputable def wpS(E:Str->a_q->Prop)(m:SM):DTS:=fun D U=>match m U with
 | .nx U'=>D.nx U'
 | .rt c U'=>D.rt c U'
 | .bk U'=>D.bk U'
 | .ct U'=>D.ct U'
 | .ex c U'=>E c U'
 | .bad=>False
@[simp] noncomputable def c_h:List Cell->a_q->Option (List Bx)
 | [],_=>some []
 | .own _ _::cs,some (.own true b)::U=>(c_h cs U).map (b::·)
 | .own _ _::_,_=>none
 | _::cs,_::U=>c_h cs U
 | _::_,[]=>none
@[simp] noncomputable def fnM(n N:Nat)(m:SM):FM:=fun cs=>if cs.length=n then(match m (cs.map some++List.replicate (N - n) none) with
 | .nx U=>(match c_h cs U with | some o=>.rt (.dat .none) o | none=>.bad)
 | .rt c U=>(match c_h cs U with | some o=>.rt c o | none=>.bad)
 | .ex c U=>(match c_h cs U with | some o=>.ex c o | none=>.bad)
 | _=>.bad) else .bad
section
variable{K:Frag}{F:Fx}{H:Hp}{Y:St}{U:a_q}{W:List (List Addr)}
theorem h_Q{α:Type}{l:List α}{k:Nat}{x:α}{r:List α}(h:l.drop k=x::r):l[k]? = some x/\l.drop (k+1)=r:=by
 constructor
 ·rw[<-List.head?_drop,h];rfl
 ·rw[<-List.drop_drop,h];rfl
theorem l_K(st:DStW K F H Y U W):∀(cs:List Cell) (vs:List V) (k:Nat) (outs:List Bx),vs.length=cs.length->(∀(i:Nat) io b,cs[i]? = some (.own io b)->vs[i]? = some (.ref (F.I₀ (k+i))))->c_h cs (U.drop k)=some outs->
  ∃fps,OutsAt H (W.flatten++F.O₀) vs cs outs fps/\fps.flatten.Sublist (W.drop k).flatten
 | [],[],k,outs,_,_,e=>by cases e;exact⟨[],.nil,by simp⟩
 | [],_::_,_,_,hl,_,_=>by cases hl
 | _::_,[],_,_,hl,_,_=>by cases hl
 | c::cs,v::vs,k,outs,hl,hI,e=>by
  have hl':vs.length=cs.length:=Nat.succ.inj hl
  have hI':∀(i:Nat) io b,cs[i]? = some (.own io b)->vs[i]? = some (.ref (F.I₀ (k+1+i))):=fun i io b h=>by
   have:=hI (i+1) io b (by simpa using h)
   rw[show k+1+i=k+(i+1) by omega]
   simpa using this
  have sub1:(W.drop (k+1)).flatten.Sublist (W.drop k).flatten:=by
   cases hw:W.drop k with
   | nil=>rw[show W.drop (k+1)=[] from by rw[<-List.drop_drop,hw];rfl];exact List.Sublist.refl _
   | cons w r=>rw[(h_Q hw).2,List.flatten_cons];exact List.sublist_append_right _ _
  cases hd:U.drop k with
  | nil=>
   rw[hd] at e
   cases c with
   | own io b=>cases e
   | dat d=>cases e
   | scr n=>cases e
   | exc n=>cases e
   | vw n=>cases e
  | cons x r=>
   obtain⟨h1,h2⟩:=h_Q hd
   rw[hd] at e
   have nonown:(∀io b,c≠.own io b)->c_h cs r=some outs->∃fps,OutsAt H (W.flatten++F.O₀) (v::vs) (c::cs) outs fps/\fps.flatten.Sublist (W.drop k).flatten:=fun hn he=>by
    obtain⟨fps,o,s⟩:=l_K st cs vs (k+1) outs hl' hI' (by rw[h2];exact he)
    exact⟨fps,.skip hn o,s.trans sub1⟩
   cases c with
   | dat d=>exact nonown (fun _ _ z=>by cases z) e
   | scr n=>exact nonown (fun _ _ z=>by cases z) e
   | exc n=>exact nonown (fun _ _ z=>by cases z) e
   | vw n=>exact nonown (fun _ _ z=>by cases z) e
   | own io b=>
    cases x with
    | none=>cases e
    | some x=>
     cases x with
     | dat d=>cases e
     | scr n=>cases e
     | exc n=>cases e
     | vw n=>cases e
     | own io' b'=>
      cases io' with
      | false=>cases e
      | true=>
       cases q:c_h cs r with
       | none=>simp[c_h,q] at e
       | some o'=>
        simp[c_h,q] at e
        subst e
        obtain⟨fps,o,s⟩:=l_K st cs vs (k+1) o' hl' hI' (by rw[h2];exact q)
        obtain⟨u,fp,e1,e2,a,rfl,bx⟩:=st.at_ k _ h1
        have e3:=st.io k b' h1
        rw[e1] at e3
        have ea:a=F.I₀ k:=by cases e3;rfl
        have hv:=hI 0 io b rfl
        have hv':v=.ref a:=by rw[ea];simpa using hv
        subst hv'
        refine⟨fp::fps,.own bx o,?_⟩
        cases hw:W.drop k with
        | nil=>rw[<-List.head?_drop,hw] at e2;cases e2
        | cons w wr=>
         obtain⟨w1,w2⟩:=h_Q hw
         rw[e2] at w1
         cases w1
         rw[List.flatten_cons,List.flatten_cons]
         rw[w2] at s
         exact List.Sublist.append (List.Sublist.refl _) s
end
theorem f_E{α:Type}(n:Nat):(List.replicate n ([]:List α)).flatten=[]:=by induction n with | zero=>rfl | succ n ih=>rw[List.replicate_succ,List.flatten_cons,ih];rfl
noncomputable def g_z(N n:Nat)(cs:List Cell):a_q:=cs.map some++List.replicate (N - n) none
section
variable{P:Program}{w:World}{K:Frag}{mg:Str->Option Value}{base:Heap}{x qual:Str}{st:Stmt}{f:Addr}{fd:FuncData}{N ps:List Str}{k:Nat}{m:SM}
noncomputable def t_E(vs:List V)(i:Nat):Addr:=match vs[i]? with
 | some (.ref a)=>a
 | _=>0
theorem n_Q{H:Hp}{vs:List V}{cs:List Cell}{fps:List (List Addr)}{O₀:List Addr}(ha:ArgsAt K H (fps.flatten++O₀) vs cs fps)(nd:(fps.flatten++O₀).Nodup)(live:∀a∈fps.flatten++O₀,∃o,H a=some o/\Mv o)(hl:cs.length<=N.length) :
  DStW K ⟨H,fps.flatten,O₀,t_E vs⟩ H (start N vs) (g_z N.length cs.length cs) (fps++List.replicate (N.length - cs.length) []):=by
 have fl:(fps++List.replicate (N.length - cs.length) ([]:List Addr)).flatten=fps.flatten:=by rw[List.flatten_append,f_E,List.append_nil]
 obtain⟨l1,l2⟩:=ha.len
 have get:∀(i:Nat) c,(g_z N.length cs.length cs)[i]? = some (some c)->cs[i]? = some c:=fun i c e=>by
  unfold g_z at e
  by_cases h:i<cs.length
  ·rw[List.getElem?_append_left (by simpa using h),List.getElem?_map] at e
   obtain⟨d,h1,h2⟩:=Option.map_eq_some_iff.mp e
   cases h2
   exact h1
  ·rw[List.getElem?_append_right (by simpa using Nat.le_of_not_lt h),List.getElem?_replicate] at e
   split at e<;>cases e
 have put:∀(i:Nat) v,vs[i]? = some v->(start N vs)[i]? = some (some v):=fun i v e=>by
  unfold start
  rw[List.getElem?_append_left (by simpa using(List.getElem?_eq_some_iff.mp e).1),List.getElem?_map,e]
  rfl
 refine⟨fun i c e=>?_,by rw[fl];exact nd,fun _ _ _ h=>h,fun a h=>.inl (by rw[fl] at h;exact h),by rw[fl];exact live,?_,?_,fun i b e=>?_⟩
 ·obtain⟨v,fp,h1,h2,h3⟩:=ha.get i c (get i c e)
  exact⟨v,fp,put i v h1,by rw[List.getElem?_append_left (List.getElem?_eq_some_iff.mp h2).1];exact h2,by rw[fl];exact h3⟩
 ·unfold g_z start
  rw[List.length_append,List.length_append,List.length_map,List.length_map,List.length_replicate,List.length_replicate,l1]
 ·unfold g_z
  rw[List.length_append,List.length_append,List.length_map,List.length_replicate,List.length_replicate,l2]
 ·obtain⟨v,fp,h1,h2,a,rfl,h3⟩:=ha.get i _ (get i _ e)
  rw[put i _ h1]
  show _=some (some (V.ref (t_E vs i)))
  unfold t_E
  rw[h1]
theorem ArgsAt.ios{H:Hp}{O:List Addr}{vs:List V}{cs:List Cell}{fps:List (List Addr)}(h:ArgsAt K H O vs cs fps):∀(i:Nat) io b,cs[i]? = some (.own io b)->vs[i]? = some (.ref (t_E vs (0+i))):=fun i io b e=>by
 obtain⟨v,fp,h1,_,a,rfl,_⟩:=h.get i _ e
 rw[Nat.zero_add]
 unfold t_E
 rw[h1]
theorem c_0(Fn:Fun K x qual st f fd)(S:FnScope N ps (a_e st))(hN:ps.length<=N.length)
  (der:∀(cdv:Value) (A:Around) (outer:List Env) (s:Shared) (H:Hp) (E:XK) (F:Fx) (E':Str->a_q->Prop),Room k (A.deeper (envOfC qual (a_e st) s.heap.objs.size f cdv))->XOk (r_c (CXM P w) P w K mg base N qual (a_e st) f cdv A outer s H E) F E'->
   DSs (r_c (CXM P w) P w K mg base N qual (a_e st) f cdv A outer s H E) F (g_g st) (wpS E' m)):FnOk P w K mg base (CXM P w) (k+1) f fd ps (spF K mg (fnM ps.length N.length m)):=by
 obtain⟨oc,od,kV,doc,pm,an,cdv,ct,osl,rfl,lk,hcd⟩:=Fn.ex
 have hlen:∀vs H Q E,spF K mg (fnM ps.length N.length m) vs H Q E->vs.length=ps.length:=fun vs H Q E ⟨_,cs,fps,O₀,ha,_,_,q⟩=>by
  rw[ha.len.1]
  unfold fnM at q
  by_cases h:cs.length=ps.length
  ·exact h
  ·rw[if_neg h] at q;exact q.elim
 refine x_U lk hcd S hlen fun A outer s H vs Q E hr hsp=>?_
 have hlv:=hlen vs H Q E hsp
 obtain⟨gh,cs,fps,O₀,ha,nd,live,q⟩:=hsp
 obtain⟨l1,l2⟩:=ha.len
 have hlc:cs.length=ps.length:=by omega
 let F:Fx:=⟨H,fps.flatten,O₀,t_E vs⟩
 have st0:=n_Q (N:=N) ha nd live (by omega)
 have fin:∀{Y':St}{H':Hp}{U':a_q}{O':List Addr}{fp:List Addr}{outs:List Bx},DSt K (F.plus fp) H' Y' U' O'->(∀a∈fp,a∈F.A₀\/F.H₀ a=none)->c_h cs U' = some outs->∃fps',OutsAt H' (fps'.flatten++fp++O₀) vs cs outs fps'/\Beh H H' fps.flatten (fps'.flatten++fp) O₀/\Stp O' H' (fps'.flatten++fp++O₀) H':=by
  rintro Y' H' U' O' fp outs ⟨W,st',rfl⟩ hfp ho
  obtain⟨fps',o,sb⟩:=l_K st' cs vs 0 outs l1 (fun i io b e=>ha.ios i io b e) ho
  have sb':fps'.flatten.Sublist W.flatten:=sb
  have sub:(fps'.flatten++fp++O₀).Sublist (W.flatten++(fp++O₀)):=by rw[List.append_assoc];exact List.Sublist.append sb' (List.Sublist.refl _)
  have stp:Stp (W.flatten++(fp++O₀)) H' (fps'.flatten++fp++O₀) H':=d_u fun a h=>sub.subset h
  refine⟨fps',o.mono stp,⟨st'.nd.sublist sub,fun a h=>st'.live a (sub.subset (Qaj _ h)),fun b o hb e=>st'.kept b o hb e,fun a h=>?_⟩,stp⟩
  rcases List.mem_append.mp h with h | h
  ·exact st'.new a (sb'.subset h)
  ·exact hfp a h
 have hfn:fnM ps.length N.length m cs=(match m (g_z N.length ps.length cs) with
  | .nx U=>(match c_h cs U with | some o=>.rt (.dat .none) o | none=>.bad)
  | .rt c U=>(match c_h cs U with | some o=>.rt c o | none=>.bad)
  | .ex c U=>(match c_h cs U with | some o=>.ex c o | none=>.bad)
  | _=>.bad):=by unfold fnM g_z;rw[if_pos hlc]
 rw[hfn] at q
 rw[hlc] at st0
 let E':Str->a_q->Prop:=fun c U'=>∃outs,c_h cs U' = some outs/\∀C H' fps',mg c=some C->OutsAt H' (fps'.flatten++O₀) vs cs outs fps'->Beh H H' fps.flatten fps'.flatten O₀->E C none H'
 refine⟨_,der cdv A outer s H E F E' hr (t_Q (gh.frame fun a h=>live a (Qaj _ h)) fun c C U' Y' H' O' hm st' ⟨outs,ho,k⟩=>?_),?_⟩
 ·obtain⟨fps',o,b,_⟩:=fin (fp:=[]) st' (fun a h=>by cases h) ho
  rw[List.append_nil] at o b
  exact k C H' fps' hm o b
 ·refine⟨g_z N.length ps.length cs,_,⟨fun U'=>∃outs,c_h cs U' = some outs/\∀H' fps',OutsAt H' (fps'.flatten++[]++O₀) vs cs outs fps'->Beh H H' fps.flatten (fps'.flatten++[]) O₀->Q .non H',fun c U'=>∃outs,c_h cs U' = some outs/\∀v H' fp fps',c_A K H' (fps'.flatten++fp++O₀) v c fp->OutsAt H' (fps'.flatten++fp++O₀) vs cs outs fps'->Beh H H' fps.flatten (fps'.flatten++fp) O₀->Q v H',fun _=>False,fun _=>False⟩,⟨_,st0,rfl⟩,?_,?_⟩
  ·unfold wpS
   cases hm:m (g_z N.length ps.length cs) with
   | nx U'=>
    rw[hm] at q
    cases ho:c_h cs U' with
    | none=>simp[ho] at q
    | some outs=>
     simp only[ho] at q
     exact⟨outs,ho,fun H' fps' o b=>q .non H' [] fps' .non o b⟩
   | rt c U'=>
    rw[hm] at q
    cases ho:c_h cs U' with
    | none=>simp[ho] at q
    | some outs=>
     simp only[ho] at q
     exact⟨outs,ho,q⟩
   | ex c U'=>
    rw[hm] at q
    cases ho:c_h cs U' with
    | none=>simp[ho] at q
    | some outs=>
     simp only[ho] at q
     exact⟨outs,ho,q⟩
   | bk U'=>rw[hm] at q;exact q
   | ct U'=>rw[hm] at q;exact q
   | bad=>rw[hm] at q;exact q
  ·refine⟨fun Y' H' U' O' st' s' ⟨outs,ho,k⟩=>?_,fun v Y' H' c U' O' fp r s' ⟨outs,ho,k⟩=>?_,fun _ _ _ _ _ _ z=>z.elim,fun _ _ _ _ _ _ z=>z.elim⟩
   ·obtain⟨fps',o,b,_⟩:=fin (fp:=[]) st' (fun a h=>by cases h) ho
    exact k H' fps' o b
   ·obtain⟨fps',o,b,stp⟩:=fin r.st r.new ho
    exact k v H' fp fps' (r.at_.keep stp (fun _ _=>rfl) (fun _ _ _ e=>e)) o b
end
inductive AX where
 | d (x:PyData) | s (j:Nat)
inductive AxAt (Y:St) (G:Hp):List V->List AX->Prop where
 | nil:AxAt Y G [] []
 | d {v:V}{x:PyData}{vs:List V}{as:List AX}:DV G v x->AxAt Y G vs as->AxAt Y G (v::vs) (.d x::as)
 | s {v:V}{j:Nat}{vs:List V}{as:List AX}:Y[j]? = some (some v)->AxAt Y G vs as->AxAt Y G (v::vs) (.s j::as)
noncomputable abbrev DTX:=a_q->(List AX->a_q->Prop)->Prop
noncomputable def MnX(t:DTX):Prop:=∀U Q Q',(∀d U',Q d U'->Q' d U')->t U Q->t U Q'
noncomputable def rdX(K:Frag)(F:Fx)(t:DTX):TA:=fun Y H Q=>∃U O,DSt K F H Y U O/\t U fun as U'=>∀vs H' O',DSt K F H' Y U' O'->Stp O H O' H'->AxAt Y (hide O' H') vs as->Q vs H'
structure DX (X:Cx) (F:Fx) (es:List Expr) (t:DTX):Prop where
 mn:MnX t
 pa:PA X es (rdX X.K F t)
section
variable{X:Cx}{F:Fx}{e:Expr}{es:List Expr}{te:DT}{tX:DTX}{x:Str}{p:Pos}{j:Nat}
noncomputable def y_2:DTX:=fun U Q=>Q [] U
noncomputable def z_j(te:DT)(t:DTX):DTX:=fun U Q=>te U fun d U1=>t U1 fun as U2=>Q (.d d::as) U2
noncomputable def x_f(j:Nat)(t:DTX):DTX:=fun U Q=>(∃c,U[j]? = some (some c))/\t U fun as U2=>Q (.s j::as) U2
theorem u_U:DX X F [] y_2:=⟨fun _ _ _ k q=>k _ _ q,d_9.imp fun Y H Q ⟨U,O,st,q⟩=>q [] H O st .refl .nil⟩
theorem u_R(ha:DE X F e te)(hr:DX X F es tX)(hs:starEach (e::es) X.env=(false,eval e X.env)::starEach es X.env:=by rfl):DX X F (e::es) (z_j te tX):=
 ⟨fun _ _ _ k q=>ha.mn _ _ _ (fun _ _ q1=>hr.mn _ _ _ (fun _ _ q2=>k _ _ q2) q1) q,(b_G ha.pe hr.pa hs).imp fun Y H Q ⟨U,O,st,q⟩=>
  ⟨U,O,st,ha.mn _ _ _ (fun d U1 q1 v H1 O1 st1 s1 d1=>⟨U1,O1,st1,hr.mn _ _ _ (fun as U2 q2 vs H2 O2 st2 s2 d2=>q2 (v::vs) H2 O2 st2 (s1.trans s2) (.d (DV.mono s2.hid d1) d2)) q1⟩) q⟩⟩
theorem s_3(hv:PE X (.Name x p) (f_r j))(hr:DX X F es tX)(hs:starEach (.Name x p::es) X.env=(false,eval (.Name x p) X.env)::starEach es X.env:=by rfl):DX X F (.Name x p::es) (x_f j tX):=
 ⟨fun _ _ _ k ⟨h,q⟩=>⟨h,hr.mn _ _ _ (fun _ _ q2=>k _ _ q2) q⟩,(b_G hv hr.pa hs).imp fun Y H Q ⟨U,O,st,⟨c,hc⟩,q⟩=>by
  obtain⟨W,h,rfl⟩:=id st
  obtain⟨v,fp,h1,h2,h3⟩:=h.at_ j c hc
  exact⟨v,h1,U,_,st,hr.mn _ _ _ (fun as U2 q2 vs H2 O2 st2 s2 d2=>q2 (v::vs) H2 O2 st2 s2 (.s h1 d2)) q⟩⟩
end
@[simp] noncomputable def c_o(U:a_q):List AX->Option (List Cell×List (Nat×Bool))
 | []=>some ([],[])
 | .d x::as=>(match c_o U as with | some (cs,js)=>some (.dat x::cs,js) | none=>none)
 | .s j::as=>(match c_o U as with
  | some (cs,js)=>(match U[j]? with
   | some (some (.own io b))=>if js.any (fun p=>p.1==j) then none else some (.own true b::cs,(j,io)::js)
   | some (some c)=>some (c::cs,js)
   | _=>none)
  | none=>none)
@[simp] noncomputable def clr:List (Nat×Bool)->a_q->a_q
 | [],U=>U
 | (j,_)::r,U=>(clr r U).set j none
@[simp] noncomputable def back:List (Nat×Bool)->List Bx->a_q->a_q
 | (j,io)::r,b::bs,U=>back r bs (U.set j (some (.own io b)))
 | _,_,U=>U
theorem p_b{js:List (Nat×Bool)}{U:a_q}:(clr js U).length=U.length:=by
 induction js with
 | nil=>rfl
 | cons p r ih=>obtain⟨j,io⟩:=p;rw[clr,List.length_set,ih]
theorem r_7{js:List (Nat×Bool)}{U:a_q}{i:Nat}(h:∀p∈js,p.1≠i):(clr js U)[i]? = U[i]?:=by
 induction js with
 | nil=>rfl
 | cons p r ih=>
  obtain⟨j,io⟩:=p
  rw[clr,List.getElem?_set_ne (h (j,io) List.mem_cons_self),ih fun q hq=>h q (Qak _ hq)]
inductive JsAt (Y:St) (F:Fx) (n:Nat):List V->List Cell->List (Nat×Bool)->Prop where
 | nil:JsAt Y F n [] [] []
 | skip {v:V}{c:Cell}{vs:List V}{cs:List Cell}{js:List (Nat×Bool)}:(∀io b,c≠.own io b)->JsAt Y F n vs cs js->JsAt Y F n (v::vs) (c::cs) js
 | own {a:Addr}{io:Bool}{b:Bx}{j:Nat}{vs:List V}{cs:List Cell}{js:List (Nat×Bool)}:Y[j]? = some (some (.ref a))->(io=true->a=F.I₀ j)->j<n->JsAt Y F n vs cs js->JsAt Y F n (.ref a::vs) (.own true b::cs) ((j,io)::js)
section
variable{K:Frag}{F:Fx}{H H':Hp}{Y:St}{U:a_q}{O O':List Addr}
theorem j_g(st:DSt K F H Y U O):∀(as:List AX) (vs:List V) (cs:List Cell) (js:List (Nat×Bool)),c_o U as=some (cs,js)->AxAt Y (hide O H) vs as->
  ∃fps O',DSt K (F.plus fps.flatten) H Y (clr js U) O'/\ArgsAt K H O' vs cs fps/\Stp O H O' H/\Stp O' H O H/\(∀a∈fps.flatten,a∈F.A₀\/F.H₀ a=none)/\JsAt Y F U.length vs cs js
 | [],vs,cs,js,e,h=>by
  cases e
  cases h
  refine⟨[],O,st,.nil,.refl,.refl,?_,.nil⟩
  intro a h
  cases h
 | .d x::as,vs,cs,js,e,h=>by
  cases h with
  | d hv hr=>
   unfold c_o at e
   cases q:c_o U as with
   | none=>rw[q] at e;cases e
   | some p=>
    obtain⟨cs',js'⟩:=p
    rw[q] at e
    simp only[Option.some.injEq,Prod.mk.injEq] at e
    obtain⟨e1,e2⟩:=e
    obtain⟨fps,O',st',ar,s1,s2,nw,ja⟩:=j_g st as _ cs' js' q hr
    subst e1 e2
    exact⟨[]::fps,O',st',.dat (DV.mono s1.hid hv) ar,s1,s2,nw,.skip (fun _ _ z=>by cases z) ja⟩
 | .s j::as,vs,cs,js,e,h=>by
  cases h with
  | @s v _ vs _ hv hr=>
   unfold c_o at e
   cases q:c_o U as with
   | none=>rw[q] at e;cases e
   | some p=>
    obtain⟨cs',js'⟩:=p
    rw[q] at e
    obtain⟨fps,O',st',ar,s1,s2,nw,ja⟩:=j_g st as _ cs' js' q hr
    cases hc:U[j]? with
    | none=>rw[hc] at e;cases e
    | some oc=>
     cases oc with
     | none=>rw[hc] at e;cases e
     | some c=>
      rw[hc] at e
      obtain⟨W,stw,hOW⟩:=id st
      obtain⟨v',fp',h1,h2,h3⟩:=stw.at_ j c hc
      rw[hv] at h1
      have ev:v' = v:=by cases h1;rfl
      subst ev
      rw[<-hOW] at h3
      have other:(∀io b,c≠.own io b)->∃fps O',DSt K (F.plus fps.flatten) H Y (clr js' U) O'/\ArgsAt K H O' (v'::vs) (c::cs') fps/\Stp O H O' H/\Stp O' H O H/\(∀a∈fps.flatten,a∈F.A₀\/F.H₀ a=none)/\JsAt Y F U.length (v'::vs) (c::cs') js':=fun hn=>by
       refine⟨[]::fps,O',st',?_,s1,s2,nw,.skip hn ja⟩
       cases c with
       | dat d=>exact .dat (DV.mono s1.hid h3) ar
       | own io b=>exact absurd rfl (hn io b)
       | scr ns=>exact .oth (fun _ z=>by cases z) (fun _ _ z=>by cases z) (c_A.keep (c:=.scr ns) (fp:=[]) h3 s1 (fun _ _=>rfl) (fun _ _ _ e=>e)) ar
       | exc n=>exact .oth (fun _ z=>by cases z) (fun _ _ z=>by cases z) (c_A.keep (c:=.exc n) (fp:=[]) h3 s1 (fun _ _=>rfl) (fun _ _ _ e=>e)) ar
       | vw n=>exact .oth (fun _ z=>by cases z) (fun _ _ z=>by cases z) (c_A.keep (c:=.vw n) (fp:=[]) h3 s1 (fun _ _=>rfl) (fun _ _ _ e=>e)) ar
      cases c with
      | dat d=>
       simp only[Option.some.injEq,Prod.mk.injEq] at e
       rw[<-e.1,<-e.2];exact other (fun _ _ z=>by cases z)
      | scr ns=>
       simp only[Option.some.injEq,Prod.mk.injEq] at e
       rw[<-e.1,<-e.2];exact other (fun _ _ z=>by cases z)
      | exc n=>
       simp only[Option.some.injEq,Prod.mk.injEq] at e
       rw[<-e.1,<-e.2];exact other (fun _ _ z=>by cases z)
      | vw n=>
       simp only[Option.some.injEq,Prod.mk.injEq] at e
       rw[<-e.1,<-e.2];exact other (fun _ _ z=>by cases z)
      | own io b=>
       by_cases hj:js'.any (fun p=>p.1==j)=true
       ·simp only[if_pos hj] at e;cases e
       ·simp only[if_neg hj,Option.some.injEq,Prod.mk.injEq] at e
        rw[<-e.1,<-e.2]
        have hjs:∀p∈js',p.1≠j:=fun p hp z=>hj (List.any_eq_true.mpr ⟨p,hp,by simp[z]⟩)
        obtain⟨a,fp,O2,t1,t2,t3,t4,t5,t6,t7⟩:=st'.take (i:=j) (io:=io) (b:=b) (by rw[r_7 hjs];exact hc)
        rw[hv] at t1
        have ev:v' = .ref a:=by cases t1;rfl
        subst ev
        rw[Fx.plus_plus] at t2
        refine⟨fp::fps,O2,t2,.own t3 (ar.mono t4),s1.trans t4,t5.trans s2,fun x hx=>?_,.own hv t7 (List.getElem?_eq_some_iff.mp hc).1 ja⟩
        rcases List.mem_append.mp hx with hx | hx
        ·exact t6 x hx
        ·exact nw x hx
theorem m_E{fp:List Addr}{n:Nat}{vs:List V}{cs:List Cell}{js:List (Nat×Bool)}(ja:JsAt Y F n vs cs js):∀{outs:List Bx}{fps:List (List Addr)}{U:a_q}{O:List Addr},U.length=n->DSt K (F.plus (fps.flatten++fp)) H Y U O->OutsAt H O vs cs outs fps->(∀a∈fps.flatten,a∈F.A₀\/F.H₀ a=none)->
  ∃O',DSt K (F.plus fp) H Y (back js outs U) O'/\Stp O H O' H:=by
 induction ja with
 | nil=>
  intro outs fps U O hn st oa nw
  cases oa
  exact⟨O,st,.refl⟩
 | skip hn' _ ih=>
  intro outs fps U O hn st oa nw
  cases oa with
  | skip _ oa=>exact ih hn st oa nw
  | own _ _=>exact absurd rfl (hn' _ _)
 | @own a io b j vs cs js h1 h2 h3 ja ih=>
  intro outs fps U O hn st oa nw
  cases oa with
  | skip hn' _=>exact absurd rfl (hn' _ _)
  | @own _ _ _ b' f1 _ _ bs fr hb oa=>
   have st':DSt K ((F.plus (fr.flatten++fp)).plus f1) H Y U O:=by rw[Fx.plus_plus,<-List.append_assoc];exact st
   obtain⟨O1,st1,s1⟩:=DSt.put1 (io:=true) (c:=.own io b') (v:=.ref a) (i:=j) st' ⟨a,rfl,hb⟩ (fun x hx=>nw x (by rw[List.flatten_cons];exact Qaj _ hx)) (by rw[hn];exact h3) (fun b z=>by cases z;rw[h2 rfl];rfl)
   have eY:Y.set j (some (.ref a))=Y:=by
    apply List.ext_getElem?
    intro i
    by_cases hj:i=j
    ·subst hj;rw[List.getElem?_set_self (List.getElem?_eq_some_iff.mp h1).1,h1]
    ·rw[List.getElem?_set_ne (Ne.symm hj)]
   rw[eY] at st1
   obtain⟨O2,st2,s2⟩:=ih (by rw[List.length_set];exact hn) st1 (oa.mono s1) (fun x hx=>nw x (by rw[List.flatten_cons];exact Qai _ hx))
   exact⟨O2,st2,s1.trans s2⟩
end
noncomputable def f_s(f:FM)(E:Str->a_q->Prop)(Q:Cell->a_q->Prop)(as:List AX)(U:a_q):Prop:=match c_o U as with
 | some (cs,js)=>(match f cs with
  | .rt c outs=>Q c (back js outs (clr js U))
  | .ex c outs=>E c (back js outs (clr js U))
  | .bad=>False)
 | none=>False
noncomputable def v_g(f:FM)(E:Str->a_q->Prop)(t:DTX):DTO:=fun U Q=>t U fun as U1=>f_s f E Q as U1
section
variable{X:Cx}{F:Fx}{e:Expr}{es:List Expr}{tX:DTX}{E:Str->a_q->Prop}{pos p:Pos}{x:Str}{f:FM}{k:Nat}{g:Addr}{fd:FuncData}{ps:List Str}
theorem o_O{Q Q':Cell->a_q->Prop}{as:List AX}{U:a_q}(h:∀c U',Q c U'->Q' c U')(q:f_s f E Q as U):f_s f E Q' as U:=by
 unfold f_s at q ⊢
 split
 ·rename_i cs js e
  rw[e] at q
  simp only at q
  split
  ·rename_i e2;rw[e2] at q;exact h _ _ q
  ·rename_i e2;rw[e2] at q;exact q
  ·rename_i e2;rw[e2] at q;exact q
 ·rename_i e;rw[e] at q;exact q
theorem l_J{pins:List (Addr×Obj)}{Y:St}{H:Hp}{s:Shared}{Q:VK}{us:List Value}{vs:List V}{as:List AX}{U:a_q}{O:List Addr}{QC:Cell->a_q->Prop}(hx:XOk X F E)(G:FnOk X.prog X.w X.K X.mg X.base (CXM X.prog X.w) k g fd ps (spF X.K X.mg f))(hr:Room k X.A)(hb:i_z X.K fd ps [])
  (I:Inv X pins Y H s) (r:b_M vs us) (st:DSt X.K F H Y U O) (ax:AxAt Y (hide O H) vs as) (q:f_s f E QC as U) (hQ:∀c U',QC c U'->∀v H' O' fp,Res X.K F H' Y U' O' v c fp->Stp O H O' H'->Q v H') :
  wpAny (model X.prog X.w) X.A (call (.ref g) us) (EP X pins Y Q) X.xe s:=by
 unfold f_s at q
 cases hc:c_o U as with
 | none=>rw[hc] at q;exact q.elim
 | some p=>
  obtain⟨cs,js⟩:=p
  rw[hc] at q
  simp only at q
  obtain⟨fps,O2,st2,ar,s1,s1',nw,ja⟩:=j_g st as vs cs js hc ax
  obtain⟨W,stw,hO2⟩:=id st2
  have ndO:(W.flatten++(fps.flatten++F.O₀)).Nodup:=stw.nd
  have memO:∀a,a∈O2↔a∈fps.flatten++(W.flatten++F.O₀):=fun a=>by
   rw[hO2]
   show a∈W.flatten++(fps.flatten++F.O₀)↔_
   simp only[List.mem_append]
   constructor
   ·rintro(h | h | h)<;>simp[h]
   ·rintro(h | h | h)<;>simp[h]
  have perm:(fps.flatten++(W.flatten++F.O₀)).Perm (W.flatten++(fps.flatten++F.O₀)):=by
   rw[<-List.append_assoc,<-List.append_assoc]
   exact List.Perm.append_right _ List.perm_append_comm
  have nd1:(fps.flatten++(W.flatten++F.O₀)).Nodup:=perm.nodup_iff.mpr ndO
  have stE:Stp O2 H (fps.flatten++(W.flatten++F.O₀)) H:=d_u fun a h=>(memO a).mpr h
  have back2:∀(H':Hp) (L':List Addr) (a:Addr),(a∈L'++(W.flatten++F.O₀))->a∈L'\/(a∈O2/\a∉fps.flatten):=fun H' L' a h=>by
   rcases List.mem_append.mp h with h | h
   ·exact .inl h
   ·refine .inr ⟨(memO a).mpr (Qai _ h),fun z=>?_⟩
    exact(List.nodup_append.mp nd1).2.2 a z a h rfl
  have swapped:∀(H':Hp) (L':List Addr),Beh H H' fps.flatten L' (W.flatten++F.O₀)->∃O3,DSt X.K (F.plus L') H' Y (clr js U) O3/\Stp O2 H O3 H'/\∀a,a∈O3↔a∈L'++(W.flatten++F.O₀):=fun H' L' bh=>by
   obtain⟨O3,t1,t2,t3,t4,t5⟩:=st2.swap (H':=H') (L':=L') bh.keep (List.nodup_append.mp bh.nd).1 bh.new nw bh.live
   refine⟨O3,t1,t2,fun a=>⟨fun h=>?_,fun h=>?_⟩⟩
   ·rcases t4 a h with z | ⟨z1,z2⟩
    ·exact Qaj _ z
    ·rcases List.mem_append.mp ((memO a).mp z1) with z | z
     ·exact absurd z z2
     ·exact Qai _ z
   ·rcases back2 H' L' a h with z | ⟨z1,z2⟩
    ·exact t3 a z
    ·exact t5 a z1 z2
  have r2:b_M (vs++[]) (us++[]):=by rw[List.append_nil,List.append_nil];exact r
  let EX:XK:=fun C _ H'=>∃c U' O',X.mg c=some C/\DSt X.K F H' Y U' O'/\E c U'
  have sp:spF X.K X.mg f vs H Q EX:=by
   refine⟨hx.1.at st,cs,fps,W.flatten++F.O₀,ar.mono stE,nd1,fun a h=>?_,?_⟩
   ·exact stw.live a (by have:=(memO a).mpr h;rw[hO2] at this;exact this)
   ·cases hf:f cs with
    | bad=>rw[hf] at q;exact q
    | rt c outs=>
     rw[hf] at q
     simp only at q ⊢
     intro v H' fp fps' hca hou bh
     obtain⟨O3,t1,t2,t3⟩:=swapped H' (fps'.flatten++fp) bh
     have eq3:Stp (fps'.flatten++fp++(W.flatten++F.O₀)) H' O3 H':=d_u fun a h=>(t3 a).mp h
     have nwo:∀a∈fps'.flatten++fp,a∈F.A₀\/F.H₀ a=none:=fun a h=>by
      rcases bh.new a h with z | z
      ·exact nw a z
      ·by_cases hA:a∈F.A₀
       ·exact .inl hA
       ·refine .inr ?_
        cases e:F.H₀ a with
        | none=>rfl
        | some o=>have:=stw.kept a o hA e;rw[z] at this;cases this
     have lj:(clr js U).length=U.length:=p_b
     obtain⟨O4,u1,u2⟩:=m_E (fp:=fp) ja lj t1 (hou.mono eq3) fun a h=>nwo a (Qaj _ h)
     exact hQ c _ q v H' O4 fp ⟨u1,hca.keep (eq3.trans u2) (fun _ _=>rfl) (fun _ _ _ e=>e),fun a h=>nwo a (Qai _ h)⟩ (s1.trans (t2.trans u2))
    | ex c outs=>
     rw[hf] at q
     simp only at q ⊢
     intro C H' fps' hm hou bh
     obtain⟨O3,t1,t2,t3⟩:=swapped H' fps'.flatten bh
     have eq3:Stp (fps'.flatten++(W.flatten++F.O₀)) H' O3 H':=d_u fun a h=>(t3 a).mp h
     have nwo:∀a∈fps'.flatten,a∈F.A₀\/F.H₀ a=none:=fun a h=>by
      rcases bh.new a h with z | z
      ·exact nw a z
      ·by_cases hA:a∈F.A₀
       ·exact .inl hA
       ·refine .inr ?_
        cases e:F.H₀ a with
        | none=>rfl
        | some o=>have:=stw.kept a o hA e;rw[z] at this;cases this
     have lj:(clr js U).length=U.length:=p_b
     obtain⟨O4,u1,u2⟩:=m_E (fp:=[]) ja lj (by rw[List.append_nil];exact t1) (hou.mono eq3) nwo
     exact⟨c,_,O4,hm,u1,q⟩
  have hl:(us++[]).length=ps.length:=by rw[List.append_nil,<-r.length];exact G.len _ _ _ _ sp
  refine wpAny_call (codeAny_mono (G.run X.A X.stack s H ⟨us,[]⟩ us vs Q EX hr I.env0 (by have:=hb s us I.kIn hl;rw[List.append_nil] at this;exact this) r sp) fun r s' hq=>?_)
  cases r with
  | error e=>
   obtain⟨a,C,H',e1,I',cv,ex,c,U',O',hm,st',hE⟩:=I.flies hq
   exact hx.2 pins Y H' s' e c U' O' ⟨I',a,C,s.heap,_,e1,cv,ex,hm⟩ st' hE
  | ok fl=>
   cases fl with
   | ret u=>exact I.after hq
   | next=>exact False.elim hq
   | brk=>exact False.elim hq
   | cont=>exact False.elim hq
theorem s_M(hx:XOk X F E)(G:FnOk X.prog X.w X.K X.mg X.base (CXM X.prog X.w) k g fd ps (spF X.K X.mg f))(hr:Room k X.A)(hg:Gl X x)(hm:X.mg x=some (.ref g))(hk:keepIn X.K (.ref g)=true)(hb:i_z X.K fd ps [])
  (ha:DX X F (e::es) tX) (hdb:(x==("__debug__":Str))=false:=by decide) (he:starEach (e::es) X.env=(false,eval e X.env)::starEach es X.env:=by rfl) (hpl:(backTo pos (starEach es X.env)).any (·.1)=false:=by rfl) :
  DO X F (.Call (.Name x p) (e::es) [] pos) (v_g f E tX):=by
 refine⟨fun U Q Q' k q=>ha.mn _ _ _ (fun as U1 q1=>o_O k q1) q,fun pins s Y H Q I ⟨U,O,st,q⟩=>?_⟩
 refine wpAny_Call_Name_kw (h_L I hg hm ?_ hdb)
 refine PySem.W.callWith_K (h₀:=X.base) I.ok.mod.kin hk (thn (ha.pa pos pins s Y H (fun vs H1=>∃as U1 O1,DSt X.K F H1 Y U1 O1/\Stp O H O1 H1/\AxAt Y (hide O1 H1) vs as/\f_s f E (fun c U'=>∀v H' O' fp,Res X.K F H' Y U' O' v c fp->Stp O H O' H'->Q v H') as U1) I ⟨U,O,st,ha.mn _ _ _ (fun as U1 q1 vs H1 O1 st1 s1 ax=>⟨as,U1,O1,st1,s1,ax,q1⟩) q⟩) fun us s1 ⟨vs,H1,I1,r,as,U1,O1,st1,s01,ax,q1⟩=>⟨I1.kIn,?_⟩) he hpl
 exact l_J hx G hr hb I1 r st1 ax q1 fun c U' h v H' O' fp res s2=>h v H' O' fp res (s01.trans s2)
end
noncomputable def OOk(H:Hp)(O:List Addr):Prop:=∀a∈O,∃o,H a=some o/\Mv o
theorem OOk.nofree{H:Hp}{O:List Addr}(h:OOk H O):∀p,H p=none->p∉O:=fun p hp z=>by obtain⟨o,e,_⟩:=h p z;rw[hp] at e;cases e
theorem DSt.live{K:Frag}{F:Fx}{H:Hp}{Y:St}{U:a_q}{O:List Addr}(st:DSt K F H Y U O):OOk H O:=by
 obtain⟨W,h,rfl⟩:=st
 exact h.live
noncomputable abbrev DTI:=a_q->(List PyData->a_q->Prop)->Prop
noncomputable def Wk(O:List Addr)(H:Hp)(J:It)(its:List PyData):Prop:=∀O' H',Stp O H O' H'->OOk H' O'->
 (∀i d,its[i]? = some d->J.go i H'/\∀x H'',J.yld i H' x H''->e_3 H' H''/\DV (hide O' H'') x d)/\J.stop its.length H'
noncomputable def rdI(K:Frag)(F:Fx)(s:DTI):TI:=fun Y H R=>∃U O,DSt K F H Y U O/\s U fun its U'=>∀J H' O',DSt K F H' Y U' O'->Stp O H O' H'->Wk O' H' J its->R J H'
structure DI (X:Cx) (F:Fx) (tg iter:Expr) (s:DTI):Prop where
 mn:∀U Q Q',(∀d U',Q d U'->Q' d U')->s U Q->s U Q'
 pi:PI X tg iter (rdI X.K F s)
theorem _root_.L2.PI.imp{X:Cx}{tg e:Expr}{t t':TI}(h:PI X tg e t)(k:∀Y H Q,t' Y H Q->t Y H Q):PI X tg e t':=fun pins s Y H Q I q=>h pins s Y H Q I (k Y H Q q)
section
variable{X:Cx}{F:Fx}{tg e a b:Expr}{te:DT}{tA:DTA}{pos p:Pos}
noncomputable def iL(te:DT):DTI:=fun U Q=>te U fun d U'=>∃ds,d=.list ds/\Q ds U'
noncomputable def iT(te:DT):DTI:=fun U Q=>te U fun d U'=>∃ds,d=.tuple ds/\Q ds U'
theorem t_b{K:Frag}{O:List Addr}{H:Hp}{a:Addr}{xs:List V}{ds:List PyData}(ha:hide O H a=some (.lst xs))(hd:DVs (hide O H) xs ds):Wk O H (Itl K a) ds:=fun O' H' s ok=>by
 obtain⟨h1,n1⟩:=a_1 ha
 have h2:=s.keep a _ n1 h1
 have hd':=DVs.mono s.hid hd
 refine⟨fun i d e=>?_,⟨xs,.of h2,by rw[hd.length];exact Qae _⟩⟩
 obtain⟨v,hv,dv⟩:=hd'.get e
 refine⟨⟨xs,v,.of h2,hv⟩,fun x H'' ⟨e1,e2⟩=>?_⟩
 subst e1
 have:=e2 xs (.of h2)
 rw[hv] at this
 cases this
 exact⟨fun _ _ h=>h,dv⟩
theorem u_7{K:Frag}{O:List Addr}{H:Hp}{a:Addr}{xs:List V}{ds:List PyData}(ha:Rd (hide O H) a (.tup xs))(hd:DVs (hide O H) xs ds):Wk O H (Itt K a) ds:=fun O' H' s ok=>by
 obtain⟨h1,n1⟩:=d_v ha
 have h2:Rd H' a (.tup xs):=h1.imp (fun e=>s.keep a _ n1 e) fun⟨o,e⟩=>⟨o,s.keep a _ n1 e⟩
 have hd':=DVs.mono s.hid hd
 refine⟨fun i d e=>?_,⟨xs,.inl h2,by rw[hd.length];exact Qae _⟩⟩
 obtain⟨v,hv,dv⟩:=hd'.get e
 refine⟨⟨xs,v,.inl h2,hv⟩,fun x H'' ⟨e1,e2⟩=>?_⟩
 subst e1
 have:=e2 xs (.inl h2)
 rw[hv] at this
 cases this
 exact⟨fun _ _ h=>h,dv⟩
theorem t_h(h:DE X F e te):DI X F tg e (iL te):=
 ⟨fun _ _ _ k q=>h.mn _ _ _ (fun _ _ ⟨ds,e,q⟩=>⟨ds,e,k _ _ q⟩) q,(s_u h.pe).imp fun Y H R ⟨U,O,st,q⟩=>
  ⟨U,O,st,h.mn _ _ _ (fun d U1 ⟨ds,e,q1⟩ v H1 O1 st1 s1 d1=>by
   subst e
   obtain⟨a,xs,rfl,ha,hd⟩:=d1.lst_inv
   exact⟨a,rfl,⟨xs,.of (a_1 ha).1⟩,q1 _ H1 O1 st1 s1 (t_b ha hd)⟩) q⟩⟩
theorem v_8(h:DE X F e te):DI X F tg e (iT te):=
 ⟨fun _ _ _ k q=>h.mn _ _ _ (fun _ _ ⟨ds,e,q⟩=>⟨ds,e,k _ _ q⟩) q,(v_1 h.pe).imp fun Y H R ⟨U,O,st,q⟩=>
  ⟨U,O,st,h.mn _ _ _ (fun d U1 ⟨ds,e,q1⟩ v H1 O1 st1 s1 d1=>by
   subst e
   obtain⟨a,xs,rfl,ha,hd⟩:=d1.tup_inv
   exact⟨a,rfl,⟨xs,.inl (d_v ha).1⟩,q1 _ H1 O1 st1 s1 (u_7 ha hd)⟩) q⟩⟩
noncomputable def intsFrom(lo:Int)(n:Nat):List PyData:=(List.range n).map fun(i:Nat)=>PyData.int (lo+i)
theorem c_O(lo:Int)(n:Nat):(intsFrom lo n).length=n:=by unfold intsFrom;rw[List.length_map,List.length_range]
theorem q_F{O:List Addr}{H:Hp}{lo:Int}{n:Nat}:Wk O H (Itr lo n) (intsFrom lo n):=fun O' H' s ok=>by
 refine⟨fun i d e=>?_,by show n<=(intsFrom lo n).length;rw[c_O];exact Qae _⟩
 unfold intsFrom at e
 rw[List.getElem?_map] at e
 obtain⟨j,e1,e2⟩:=Option.map_eq_some_iff.mp e
 obtain⟨hlt,e3⟩:=List.getElem?_eq_some_iff.mp e1
 rw[List.length_range] at hlt
 rw[List.getElem_range] at e3
 subst e3 e2
 exact⟨hlt,fun x H'' ⟨q1,q2⟩=>by subst q1 q2;exact⟨fun _ _ h=>h,.int _⟩⟩
noncomputable def iR1(t:DTA):DTI:=fun U Q=>t U fun ds U'=>∃j:Int,ds=[.int j]/\-(2 ^ 62)<=j/\j<2 ^ 62/\Q (intsFrom 0 j.toNat) U'
theorem e_I(hg:Gl X "range")(hm:X.mg "range" = none)(ha:DA X F [a] tA)(hs:starEach [a] X.env=[(false,eval a X.env)]:=by rfl):DI X F tg (.Call (.Name "range" p) [a] [] pos) (iR1 tA):=
 ⟨fun _ _ _ k q=>ha.mn _ _ _ (fun _ _ ⟨j,e,h1,h2,q⟩=>⟨j,e,h1,h2,k _ _ q⟩) q,(o_d hg hm ha.pa hs).imp fun Y H R ⟨U,O,st,q⟩=>
  ⟨U,O,st,ha.mn _ _ _ (fun ds U1 ⟨j,e,h1,h2,q1⟩ vs H1 O1 st1 s1 d1=>by
   subst e
   cases d1 with
   | cons d r=>
    cases r
    obtain rfl:=d.int_inv
    exact⟨j,rfl,h1,h2,q1 _ H1 O1 st1 s1 q_F⟩) q⟩⟩
noncomputable def numbered(ds:List PyData):List PyData:=ds.mapIdx fun i d=>PyData.tuple [.int i,d]
end
noncomputable def z_p(s:DTI)(g:DTG)(tb:DTS):DTS:=fun D U=>s U fun its U1=>∃Iv:Nat->a_q->Prop,Iv 0 U1/\(∀i d U,its[i]? = some d->Iv i U->g d U fun U2=>tb { D with nx:=Iv (i+1),ct:=Iv (i+1),bk:=D.nx } U2)/\∀U,Iv its.length U->D.nx U
section
variable{X:Cx}{F:Fx}{tg iter:Expr}{body:List Stmt}{s:DTI}{g:DTG}{tb:DTS}{pos:Pos}
theorem v_G(hp:PassesOwn (model X.prog X.w) X.A X.env X.xe)(hc:X.calm=true)(hi:DI X F tg iter s)(hg:DG X F tg g)(hb:DSs X F body tb)(hs:∀x,foldedSetIterable iter X.env x=pure x:=by intro _;rfl):DS X F (.For tg iter body [] pos) (z_p s g tb):=
 (u_B hp hc hi.pi hg.pg hb hs).imp fun D Y H ⟨U,O,DD,st,q,f⟩=>by
  refine⟨U,O,st,hi.mn _ _ _ (fun its U1 ⟨Iv,i0,step,fin⟩ J H1 O1 st1 s1 wk=>?_) q⟩
  refine⟨fun i m Y' H'=>∃U' O',DSt X.K F H' Y' U' O'/\Stp O1 H1 O' H'/\Iv i U'/\i<=its.length/\m=its.length - i,⟨its.length,U1,O1,st1,.refl,i0,Nat.zero_le _,rfl⟩,?_⟩
  rintro i m Y' H' ⟨U',O',st',s',iv,hi',rfl⟩
  obtain⟨w1,w2⟩:=wk O' H' s' st'.live
  by_cases hlt:i<its.length
  ·obtain⟨go,yld⟩:=w1 i its[i] (List.getElem?_eq_getElem hlt)
   refine .inr ⟨go,fun Y2 H2=>∃U2 O2,DSt X.K F H2 Y2 U2 O2/\Stp O1 H1 O2 H2/\Iv (i+1) U2,fun Y2 H2 ⟨U2,O2,st2,s2,iv2⟩=>⟨its.length - (i+1),by omega,U2,O2,st2,s2,iv2,hlt,rfl⟩,fun x H2 hy=>?_⟩
   obtain⟨sm,dv⟩:=yld x H2 hy
   refine⟨U',O',its[i],st'.grow sm,dv,hg.mn _ _ _ _ (fun U2 q2 Y3 H3 O3 st3 s3=>?_) (step i its[i] U' (List.getElem?_eq_getElem hlt) iv)⟩
   have s13:Stp O1 H1 O3 H3:=s'.trans ((Stp.same sm).trans s3)
   have nxt:∀Y4 H4 U4 O4,DSt X.K F H4 Y4 U4 O4->Stp O3 H3 O4 H4->Iv (i+1) U4->∃U2 O2,DSt X.K F H4 Y4 U2 O2/\Stp O1 H1 O2 H4/\Iv (i+1) U2:=fun Y4 H4 U4 O4 st4 s4 q4=>⟨U4,O4,st4,s13.trans s4,q4⟩
   exact⟨U2,O3,_,st3,q2,⟨nxt,fun v Y4 H4 d U4 O4 fp4 st4 s4 q4=>f.rt v Y4 H4 d U4 O4 fp4 st4 (s1.trans (s13.trans s4)) q4,fun Y4 H4 U4 O4 st4 s4 q4=>f.nx Y4 H4 U4 O4 st4 (s1.trans (s13.trans s4)) q4,nxt⟩⟩
  ·have e:i=its.length:=by omega
   subst e
   exact .inl ⟨w2,f.nx Y' H' U' O' st' (s1.trans s') (fin U' iv)⟩
end
noncomputable def v_S(c:DTT)(tb:DTS):DTS:=fun D U=>∃(Iv:a_q->Prop) (μ:a_q->Nat),Iv U/\∀U,Iv U->c U fun b U1=>if b=true then tb { D with nx:=fun U2=>Iv U2/\μ U2<μ U,ct:=fun U2=>Iv U2/\μ U2<μ U,bk:=D.nx } U1 else D.nx U1
section
variable{X:Cx}{F:Fx}{c:Expr}{body:List Stmt}{tc:DTT}{tb:DTS}{pos:Pos}
theorem p_x(hp:PassesOwn (model X.prog X.w) X.A X.env X.xe)(hc:DB X F c tc)(hb:DSs X F body tb):DS X F (.While c body [] pos) (v_S tc tb):=
 (p_E hp hc.pt hb).imp fun D Y H ⟨U,O,DD,st,⟨Iv,μ,i0,step⟩,f⟩=>by
  refine⟨fun m Y' H'=>∃U' O',DSt X.K F H' Y' U' O'/\Stp O H O' H'/\Iv U'/\m=μ U',⟨μ U,U,O,st,.refl,i0,rfl⟩,?_⟩
  rintro m Y' H' ⟨U',O',st',s',iv,rfl⟩
  refine⟨U',O',st',hc.mn _ _ _ (fun b U1 q1 H1 O1 st1 s1=>?_) (step U' iv)⟩
  cases b with
  | false=>exact i_S (f.nx _ _ _ _ st1 (s'.trans s1) (ofF q1))
  | true=>
   refine i_V ⟨fun Y2 H2=>∃U2 O2,DSt X.K F H2 Y2 U2 O2/\Stp O H O2 H2/\Iv U2/\μ U2<μ U',fun Y2 H2 ⟨U2,O2,st2,s2,iv2,lt⟩=>⟨μ U2,lt,U2,O2,st2,s2,iv2,rfl⟩,?_⟩
   have nxt:∀Y4 H4 U4 O4,DSt X.K F H4 Y4 U4 O4->Stp O1 H1 O4 H4->(Iv U4/\μ U4<μ U')->∃U2 O2,DSt X.K F H4 Y4 U2 O2/\Stp O H O2 H4/\Iv U2/\μ U2<μ U':=fun Y4 H4 U4 O4 st4 s4 q4=>⟨U4,O4,st4,s'.trans (s1.trans s4),q4⟩
   exact⟨U1,O1,_,st1,ofT q1,⟨nxt,fun v Y4 H4 d U4 O4 fp4 st4 s4 q4=>f.rt v Y4 H4 d U4 O4 fp4 st4 (s'.trans (s1.trans s4)) q4,fun Y4 H4 U4 O4 st4 s4 q4=>f.nx Y4 H4 U4 O4 st4 (s'.trans (s1.trans s4)) q4,nxt⟩⟩
end
@[simp] noncomputable def w_A:Option (Option Cell)->Option Cell
 | some (some (.dat d))=>some (.dat d)
 | some (some (.scr ns))=>some (.scr ns)
 | some (some (.vw b))=>some (.vw b)
 | _=>none
noncomputable def c_p(own:List Str)(caps:List Nat)(U:a_q):a_q:=own.map (fun _=>none)++caps.map fun j=>w_A U[j]?
noncomputable def u_9(own:List Str)(caps:List Nat)(s:DTI)(g:DTG)(tc:DTT)(te:DT):DT:=fun U Q=>s U fun its U1=>∃Iv:Nat->List PyData->a_q->Prop,Iv 0 [] (c_p own caps U1)/\
 (∀i d ys U',its[i]? = some d->Iv i ys U'->g d U' fun U2=>tc U2 fun b U3=>if b=true then te U3 fun y U4=>ys.length<sizeLine/\Iv (i+1) (ys++[y]) U4 else Iv (i+1) ys U3)/\
 ∀ys U',Iv its.length ys U'->ys.length<=sizeLine/\Q (.list ys) U1
noncomputable def MnI(s:DTI):Prop:=∀U Q Q',(∀d U',Q d U'->Q' d U')->s U Q->s U Q'
section
variable{K:Frag}{F:Fx}{own:List Str}{caps:List Nat}{s:DTI}{g:DTG}{tc:DTT}{te:DT}
theorem p_d(hs:MnI s):Mn (u_9 own caps s g tc te):=fun _ _ _ k q=>hs _ _ _ (fun _ _ ⟨Iv,h0,h1,h2⟩=>⟨Iv,h0,h1,fun ys U' h=>⟨(h2 ys U' h).1,k _ _ (h2 ys U' h).2⟩⟩) q
theorem q_9{PF:Fx->Prop}(hP:∀H1 Y U1 O1 O2,DSt K F H1 Y U1 O1->PF ⟨H1,[],O2,fun _=>0⟩)(hs:MnI s)(hg:∀d U Q Q',(∀U',Q U'->Q' U')->g d U Q->g d U Q')(ht:MnT tc)(he:Mn te):∀Y H Q,rdE K F (u_9 own caps s g tc te) Y H Q->
  l_h own caps (rdI K F s) (fun v Y H Q=>∃F',PF F'/\rdG K F' g v Y H Q) (fun Y H Q=>∃F',PF F'/\rdT K F' tc Y H Q) (fun Y H Q=>∃F',PF F'/\rdE K F' te Y H Q) Y H Q:=fun Y H Q ⟨U,O,st,q⟩=>by
 refine⟨U,O,st,hs _ _ _ (fun its U1 ⟨Iv,i0,step,fin⟩ J H1 O1 st1 s1 wk=>?_) q⟩
 refine⟨fun i m ys Y' H'=>∃U' O' ds,DSt K ⟨H1,[],O1,fun _=>0⟩ H' Y' U' O'/\Iv i ds U'/\DVs (hide O' H') ys ds/\i<=its.length/\m=its.length - i,⟨its.length,c_p own caps U1,O1,[],?_,i0,.nil,Nat.zero_le _,rfl⟩,?_⟩
 ·have cell:∀(i:Nat) (c:Cell),(c_p own caps U1)[i]? = some (some c)->(∀io b,c≠.own io b)/\∃v,(e_F own caps Y)[i]? = some (some v)/\c_A K H1 O1 v c []:=fun i c e=>by
   unfold c_p at e
   unfold e_F
   by_cases hi:i<own.length
   ·rw[List.getElem?_append_left (by simpa using hi),List.getElem?_map] at e
    cases h:own[i]? with
    | none=>rw[h] at e;cases e
    | some y=>rw[h] at e;cases e
   ·rw[List.getElem?_append_right (by simpa using Nat.le_of_not_lt hi),List.length_map,List.getElem?_map] at e
    rw[List.getElem?_append_right (by simpa using Nat.le_of_not_lt hi),List.length_map,List.getElem?_map]
    obtain⟨j,h1,h2⟩:=Option.map_eq_some_iff.mp e
    rw[h1]
    show _/\∃v,some ((Y[j]?).getD none)=some (some v)/\_
    cases h3:U1[j]? with
    | none=>rw[h3] at h2;cases h2
    | some o=>
     cases o with
     | none=>rw[h3] at h2;cases h2
     | some c'=>
      rw[h3] at h2
      obtain⟨W,stw,rfl⟩:=id st1
      obtain⟨v,fp,e1,_,e2⟩:=stw.at_ j c' h3
      rw[e1]
      cases c' with
      | dat d=>cases h2;exact⟨(fun _ _ z=>by cases z),v,rfl,e2⟩
      | scr ns=>cases h2;exact⟨(fun _ _ z=>by cases z),v,rfl,e2⟩
      | own _ _=>cases h2
      | exc _=>cases h2
      | vw b=>cases h2;exact⟨(fun _ _ z=>by cases z),v,rfl,e2⟩
  obtain⟨W,stw,hO1⟩:=id st1
  have ln:(c_p own caps U1).length=(e_F own caps Y).length:=by unfold c_p e_F;simp
  have fl:(List.replicate (c_p own caps U1).length ([]:List Addr)).flatten++O1=O1:=by rw[f_E];rfl
  refine⟨List.replicate (c_p own caps U1).length [],⟨fun i c e=>?_,by show(_++O1).Nodup;rw[fl,hO1];exact stw.nd,fun _ _ _ h=>h,fun a h=>?_,by show OOk H1 (_++O1);rw[fl];exact st1.live,ln,by simp,fun i b e=>absurd rfl ((cell i _ e).1 true b)⟩,fl.symm⟩
  ·obtain⟨_,v,e1,e2⟩:=cell i c e
   refine⟨v,[],e1,?_,by show c_A K H1 (_++O1) v c [];rw[fl];exact e2⟩
   rw[List.getElem?_replicate,if_pos (List.getElem?_eq_some_iff.mp e).1]
  ·rw[f_E] at h;cases h
 ·rintro i m ys Y' H' ⟨U',O',ds,st',iv,dv,hi,rfl⟩
  have sm:e_3 H1 H':=fun b o e=>by obtain⟨W',h',_⟩:=id st';exact h'.kept b o (by simp) e
  have stp:Stp O1 H1 O' H':=⟨fun b o _ e=>sm b o e,fun a h=>by
   obtain⟨W',h',rfl⟩:=id st'
   rcases List.mem_append.mp h with h | h
   ·exact(h'.new a h).elim (fun z=>absurd z (by simp)) .inr
   ·exact .inl h⟩
  have sub1:∀a∈O1,a∈O':=fun a h=>by obtain⟨W',h',rfl⟩:=id st';exact Qai _ h
  obtain⟨w1,w2⟩:=wk O' H' stp st'.live
  by_cases hlt:i<its.length
  ·obtain⟨go,yld⟩:=w1 i its[i] (List.getElem?_eq_getElem hlt)
   refine .inr ⟨go,fun x H2 hy=>?_⟩
   obtain⟨sm2,dx⟩:=yld x H2 hy
   refine⟨⟨H1,[],O1,fun _=>0⟩,hP _ _ _ _ _ st1,U',O',its[i],st'.grow sm2,dx,hg _ _ _ _ (fun U2 q2 Y3 H3 O3 st3 s3=>?_) (step i its[i] ds U' (List.getElem?_eq_getElem hlt) iv)⟩
   refine⟨⟨H1,[],O1,fun _=>0⟩,hP _ _ _ _ _ st1,U2,O3,st3,ht _ _ _ (fun b U3 q3 H4 O4 st4 s4=>?_) q2⟩
   have d4:DVs (hide O4 H4) ys ds:=DVs.mono s4.hid (DVs.mono s3.hid (DVs.mono (d_F sm2) dv))
   cases b with
   | false=>exact i_S ⟨its.length - (i+1),by omega,U3,O4,ds,st4,ofF q3,d4,hlt,rfl⟩
   | true=>
    refine i_V ⟨⟨H1,[],O1,fun _=>0⟩,hP _ _ _ _ _ st1,U3,O4,st4,he _ _ _ (fun y U4 q4 v H5 O5 st5 s5 dy=>?_) (ofT q3)⟩
    refine⟨by rw[d4.length];exact q4.1,its.length - (i+1),by omega,U4,O5,ds++[y],st5,q4.2,(DVs.mono s5.hid d4).append (.cons dy .nil),hlt,rfl⟩
  ·have e:i=its.length:=by omega
   subst e
   obtain⟨hz,q⟩:=fin ds U' iv
   refine .inl ⟨w2,by rw[dv.length];exact hz,fun p hp=>?_⟩
   have pO':=st'.nofree p hp
   exact q _ _ O1 (st1.grow fun b o e=>a_l hp _ _ (sm b o e)) (s1.trans (.same fun b o e=>a_l hp _ _ (sm b o e))) (c_K hp (fun z=>pO' (sub1 p z)) (DVs.mono (f_w sub1) dv))
end
noncomputable def DBs(X:Cx)(F:Fx)(ifs:List Expr)(t:DTT):Prop:=MnT t/\PTs X ifs (rdT X.K F t)
noncomputable def z_c:DTT:=fun U Q=>Q true U
theorem s_W{X:Cx}{F:Fx}:DBs X F [] z_c:=⟨fun _ _ _ k q=>k _ _ q,fun pins s Y H Q I ⟨U,O,st,q⟩=>r_u pins s Y H Q I (q H O st .refl)⟩
theorem s_n{X:Cx}{F:Fx}{c:Expr}{t:DTT}(h:DB X F c t):DBs X F [c] t:=⟨h.mn,s_Z h.pt⟩
section
variable{X:Cx}{F:Fx}{scope:Scope}{own capN:List Str}{caps:List Nat}{tg iter elt:Expr}{ifs:List Expr}{s:DTI}{g:DTG}{tc:DTT}{te:DT}{pos:Pos}
theorem s_0(hG:GF X.mg F)(S:CompScope X scope own capN caps)(hc:X.calm=true)(hi:DI X F tg iter s)
  (hin:∀C fp s₂ H₂ pl F',GF X.mg F'->DG (a_G X scope (own++capN) C fp s₂ H₂ pl) F' tg g/\DBs (a_G X scope (own++capN) C fp s₂ H₂ pl) F' ifs tc/\DE (a_G X scope (own++capN) C fp s₂ H₂ pl) F' elt te)
  (hs:∀x,foldedSetIterable iter X.env x=pure x:=by intro _;rfl):DE X F (.ListComp elt [⟨tg,iter,ifs,0⟩] scope pos) (u_9 own caps s g tc te):=by
 have F0:Fx:=F
 obtain⟨hg,ht,he⟩:=hin 0 [] (PySem.start X.prog).1 (fun _=>none) [] F hG
 refine⟨p_d hi.mn,(l_c S hc hi.pi (fun C fp s₂ H₂ pl=>⟨fun pins s Y H v u Q I r ⟨F',g',q⟩=>(hin C fp s₂ H₂ pl F' g').1.pg pins s Y H v u Q I r q,fun pins s Y H Q I ⟨F',g',q⟩=>(hin C fp s₂ H₂ pl F' g').2.1.2 pins s Y H Q I q,fun pins s Y H Q I ⟨F',g',q⟩=>(hin C fp s₂ H₂ pl F' g').2.2.pe pins s Y H Q I q⟩) hs).imp (q_9 (fun _ _ _ _ _ st=>hG.into st) hi.mn hg.mn ht.1 he.mn)⟩
theorem n_i{i:Nat}{y:Str}{py spos:Pos}(hN:X.N.Nodup)(hi':X.N[i]? = some y)(hx:Loc X.env.scope y)(hG:GF X.mg F)(S:CompScope X scope own capN caps)(hc:X.calm=true)(hi:DI X F tg iter s)
  (hin:∀C fp s₂ H₂ pl F',GF X.mg F'->DG (a_G X scope (own++capN) C fp s₂ H₂ pl) F' tg g/\DBs (a_G X scope (own++capN) C fp s₂ H₂ pl) F' ifs tc/\DE (a_G X scope (own++capN) C fp s₂ H₂ pl) F' elt te)
  (hsw:swapsWith (.ListComp elt [⟨tg,iter,ifs,0⟩] scope pos) (some (.Name y py)) spos.line X.env=pure true:=by rfl)
  (hs:∀x,foldedSetIterable iter X.env x=pure x:=by intro _;rfl) (hf:X.fn y=true\/X.env.scope.names.lookup y=some .local:=by first | exact .inl rfl | exact .inr rfl | assumption) :
  DS X F (.Assign [.Name y py] (.ListComp elt [⟨tg,iter,ifs,0⟩] scope pos) spos) (w_p (u_9 own caps s g tc te) (gN i)):=by
 obtain⟨hg,ht,he⟩:=hin 0 [] (PySem.start X.prog).1 (fun _=>none) [] F hG
 refine(i_X hN hi' hx S hc hi.pi (fun C fp s₂ H₂ pl=>⟨fun pins s Y H v u Q I r ⟨F',g',q⟩=>(hin C fp s₂ H₂ pl F' g').1.pg pins s Y H v u Q I r q,fun pins s Y H Q I ⟨F',g',q⟩=>(hin C fp s₂ H₂ pl F' g').2.1.2 pins s Y H Q I q,fun pins s Y H Q I ⟨F',g',q⟩=>(hin C fp s₂ H₂ pl F' g').2.2.pe pins s Y H Q I q⟩) hsw hs hf).imp
  fun D Y H ⟨U,O,DD,st,q,f⟩=>q_9 (fun _ _ _ _ _ st=>hG.into st) hi.mn hg.mn ht.1 he.mn Y H _ ⟨U,O,st,p_d hi.mn _ _ _ (fun d U1 q1 v H1 O1 st1 s1 d1=>f.nx _ H1 _ O1 (st1.set d1) s1 q1) q⟩
end
end L2.L3
namespace L2
open PySem PySem.Spec PyProof.Rows
section
variable{X:Cx}{pins:List (Addr×Obj)}{Y:St}{H:Hp}{s:Shared}
theorem Inv.track{a:Addr}{o:HO}(I:Inv X pins Y H s)(f:n_q X pins H a)(new:c_V X.prog X.w (upd H a o) s.heap a o):Inv X pins Y (upd H a o) s:=by
 have hn:=f.1
 refine I.step (h':=s.heap) (g':=s.gens) (d':=s.drawn) (t':=s.toks) (ch:=[a]) (fun b hb=>by obtain rfl:=List.mem_singleton.mp hb;exact⟨f.2.2.2.1,f.2.1,f.2.2.2.2.1,f.2.2.2.2.2⟩) (fun b ob _ _ _ e _=>e) (fun b ob _ _ _ e _=>⟨ob.slots,e⟩)
  (fun b ob hc _ n=>by rw[a_u (fun z=>hc (by simp[z]))];exact n) (fun b ob _ e=>⟨ob,e⟩) (fun b xs e=>a_l hn b _ e) (fun b ob u e=>a_l hn b _ e) (fun b ps e=>⟨#[],by rw[a_l hn b _ e];simp⟩) (fun m hm=>hm) (fun b u e=>?_) I.bare
 by_cases hb:b=a
 ·subst hb;rw[a_A] at e;cases e;exact new
 ·rw[a_u hb] at e
  exact(I.hok b u e).stay (fun _ _ _ q=>q) (fun c q=>a_l hn c _ q) fun c xs q=>a_l hn c _ q
end
theorem vals3{x y z:V}{us:List Value}(r:b_M [x,y,z] us):∃u v w,us=[u,v,w]/\c_b x u/\c_b y v/\c_b z w:=by
 cases r with
 | cons r1 r=>cases r with
  | cons r2 r=>cases r with
   | cons r3 r=>cases r;exact⟨_,_,_,rfl,r1,r2,r3⟩
section
variable{X:Cx}{a b c:Expr}{t:TA}{pos p1 p2 pos2:Pos}
noncomputable def tLZ(t:TA):TE:=fun Y H Q=>t Y H fun vs H1=>∃l1 l2 l3 xs ys zs,vs=[.ref l1,.ref l2,.ref l3]/\H1 l1=some (.lst xs)/\H1 l2=some (.lst ys)/\H1 l3=some (.lst zs)/\ys.length=xs.length/\zs.length=xs.length/\0<xs.length/\
 ∀p H2 (qs:List Addr),e_3 H1 H2->H1 p=none->H2 p=some (.lst (qs.map V.ref))->qs.length=xs.length->(∀(i:Nat) (q:Addr),qs[i]? = some q->∃x y z,xs[i]? = some x/\ys[i]? = some y/\zs[i]? = some z/\H1 q=none/\H2 q=some (.tup [x,y,z]))->Q (.ref p) H2
theorem o_F:∀{acc:List Value},(∀(j:Nat) (w:Value),acc[j]? = some w->∃T,w=Value.ref T)->∃qs:List Addr,acc=qs.map Value.ref
 | [],_=>⟨[],rfl⟩
 | v::r,h=>by
  obtain⟨T,e⟩:=h 0 v rfl
  obtain⟨qs,hq⟩:=o_F (acc:=r) fun j w e=>h (j+1) w (by simpa using e)
  exact⟨T::qs,by rw[hq,e];rfl⟩
theorem n_p{h:Heap}{n:Addr}{xs ys zs:Array Value}{acc:List Value}(t:p_U h n xs ys zs acc):∃qs:List Addr,acc=qs.map Value.ref:=
 o_F fun j w e=>by obtain⟨T,_,_,_,e,_⟩:=t j w e;exact⟨T,e⟩
theorem l_E(hc:X.calm=true)(hg1:Gl X "list")(hm1:X.mg "list" = none)(hg2:Gl X "zip")(hm2:X.mg "zip" = none)(ha:PA X [a,b,c] t)
  (he:starEach [.Call (.Name "zip" p2) [a,b,c] [] pos2] X.env=[(false,eval (.Call (.Name "zip" p2) [a,b,c] [] pos2) X.env)]:=by rfl)
  (hs:starEach [a,b,c] X.env=(false,eval a X.env)::starEach [b,c] X.env:=by rfl) (hpl:(backTo pos2 (starEach [b,c] X.env)).any (·.1)=false:=by rfl) :
  PE X (.Call (.Name "list" p1) [.Call (.Name "zip" p2) [a,b,c] [] pos2] [] pos) (tLZ t):=by
 intro pins s Y H Q I h
 refine wpAny_Call_Name_kw (f_P I hg1 hm1 (show bootBuiltins "list" = some (.type "list") by decide +kernel) ?_ (by decide) (by decide))
 refine PyProof.Rows.callWith_type1 ?_ (by rw[he];rfl) rfl
 rw[he]
 show wpAny _ _ (spliced [(false,eval (.Call (.Name "zip" p2) [a,b,c] [] pos2) X.env)]) _ _ s
 refine Calls.spliced_cons ?_
 refine wpAny_Call_Name_kw (f_P I hg2 hm2 boot_zip ?_ (by decide) (by decide))
 refine PyProof.Rows.callWith_type1 (thn (ha pos2 pins s Y H _ I h) fun us s1 ⟨vs,H1,I1,r1,q1⟩=>?_) hs hpl
 obtain⟨l1,l2,l3,xs,ys,zs,rfl,h1,h2,h3,e2,e3,hpos,q⟩:=q1
 obtain⟨u1,u2,u3,rfl,ru1,ru2,ru3⟩:=vals3 r1
 cases ru1;cases ru2;cases ru3
 obtain⟨z1,its1,n1,r1',g1⟩:=I1.hok _ _ h1
 obtain⟨z2,its2,n2,r2',g2⟩:=I1.hok _ _ h2
 obtain⟨z3,its3,n3,r3',g3⟩:=I1.hok _ _ h3
 have L1:s1.heap.IsList l1 its1.toArray:=⟨_,g1,rfl,_,rfl⟩
 have L2':s1.heap.IsList l2 its2.toArray:=⟨_,g2,rfl,_,rfl⟩
 have L3':s1.heap.IsList l3 its3.toArray:=⟨_,g3,rfl,_,rfl⟩
 have len1:=r1'.length
 have len2:=r2'.length
 have len3:=r3'.length
 refine n_k L1 L2' L3' fun h' hz hti hto hi1 hi2 hi3 hsz hk=>?_
 refine Calls.spliced_nil ?_
 have lt1:l1<s1.heap.objs.size:=Qad g1
 have lt2:l2<s1.heap.objs.size:=Qad g2
 have lt3:l3<s1.heap.objs.size:=Qad g3
 have nd:[s1.heap.objs.size+5,s1.heap.objs.size+3,s1.heap.objs.size+4,s1.heap.objs.size,s1.heap.objs.size+1,s1.heap.objs.size+2].Nodup:=by
  generalize s1.heap.objs.size=n
  simp only[List.nodup_cons,List.mem_cons,List.not_mem_nil,or_false,not_or,not_false_eq_true,and_true,List.nodup_nil]
  refine⟨⟨?_,?_,?_,?_,?_⟩,⟨?_,?_,?_,?_⟩,⟨?_,?_,?_⟩,⟨?_,?_⟩,?_⟩<;>exact(by intro e;exact absurd (show(_:Nat)=_ from e) (by omega))
 have ge:∀j∈[s1.heap.objs.size+5,s1.heap.objs.size+3,s1.heap.objs.size+4,s1.heap.objs.size,s1.heap.objs.size+1,s1.heap.objs.size+2],s1.heap.objs.size<=j:=fun j hj=>by
  simp only[List.mem_cons,List.not_mem_nil,or_false] at hj
  rcases hj with rfl | rfl | rfl | rfl | rfl | rfl
  ·exact Nat.le_add_right _ _
  ·exact Nat.le_add_right _ _
  ·exact Nat.le_add_right _ _
  ·exact Qae _
  ·exact Nat.le_add_right _ _
  ·exact Nat.le_add_right _ _
 have I2:Inv X pins Y H1 { s1 with heap:=h' }:=I1.kept (t':=s1.toks) hk
 refine i_w (s:={ s1 with heap:=h' }) (I1.ok.hd hc) nd (fun l hl j hj=>?_) (fun j hj=>?_) hz hti hto hi1 hi2 hi3 (L1.at fun o e=>hk _ _ e) (L2'.at fun o e=>hk _ _ e) (L3'.at fun o e=>hk _ _ e)
  (by simp only[List.size_toArray];omega) (by simp only[List.size_toArray];omega) (by simp only[List.size_toArray];omega) (by simp only[List.size_toArray];omega) fun h2 acc cc hk2 hS hl tr=>?_
 ·simp only[List.mem_cons,List.not_mem_nil,or_false] at hl
  rcases hl with rfl | rfl | rfl
  ·exact Nat.ne_of_lt (Nat.lt_of_lt_of_le lt1 (ge j hj))
  ·exact Nat.ne_of_lt (Nat.lt_of_lt_of_le lt2 (ge j hj))
  ·exact Nat.ne_of_lt (Nat.lt_of_lt_of_le lt3 (ge j hj))
 ·show j<h'.objs.size
  rw[hsz]
  simp only[List.mem_cons,List.not_mem_nil,or_false] at hj
  generalize s1.heap.objs.size=n at *
  rcases hj with rfl | rfl | rfl | rfl | rfl | rfl | rfl | rfl | rfl
  ·exact Nat.lt_succ_self _
  ·exact Nat.add_lt_add_left (show(3:Nat)<6 by decide) _
  ·exact Nat.add_lt_add_left (show(4:Nat)<6 by decide) _
  ·exact Nat.lt_add_of_pos_right (by decide)
  ·exact Nat.add_lt_add_left (show(1:Nat)<6 by decide) _
  ·exact Nat.add_lt_add_left (show(2:Nat)<6 by decide) _
  ·exact Nat.lt_of_lt_of_le lt1 (Nat.le_add_right _ _)
  ·exact Nat.lt_of_lt_of_le lt2 (Nat.le_add_right _ _)
  ·exact Nat.lt_of_lt_of_le lt3 (Nat.le_add_right _ _)
 ·
  have kp:∀b ob,s1.heap.get? b=some ob->h2.get? b=some ob:=fun b ob e=>hk2 b ob (fun z=>absurd (ge b (by
   simp only[List.mem_cons,List.not_mem_nil,or_false] at z ⊢
   rcases z with z | z | z | z | z<;>simp[z])) (Nat.not_le.mpr (Qad e))) (hk b ob e)
  have I3:Inv X pins Y H1 { s1 with heap:=h2 }:=I1.kept (t':=s1.toks) kp
  obtain⟨qs,hqs⟩:=n_p tr
  have big:∀b,h'.objs.size<=b->n_q X pins H1 b:=fun b hb=>I2.fpOk hb (I2.hok.fresh hb)
  have hlq:qs.length=xs.length:=by
   have:=congrArg List.length hqs
   rw[List.length_map] at this
   rw[<-this,hl,List.size_toArray]
   exact len1.symm
  have vq:∀qs:List Addr,b_M (qs.map V.ref) (qs.map Value.ref):=fun qs=>by
   induction qs with
   | nil=>exact .nil
   | cons q r ih=>exact .cons rfl ih
  have I4:Inv X pins Y (upd H1 h'.objs.size (.lst (qs.map V.ref))) { s1 with heap:=h2 }:=I3.track (big _ (Qae _)) ⟨by rw[List.length_map,hlq];exact z1,_,_,vq qs,by rw[<-hqs];exact hS⟩
  have all:∀k,k<=qs.length->∃H2,e_3 H1 H2/\Inv X pins Y H2 { s1 with heap:=h2 }/\H2 h'.objs.size=some (.lst (qs.map V.ref))/\(∀b,h'.objs.size<b->H2 b=none\/∃row,H2 b=some (.tup row))/\
    ∀(i:Nat) (q:Addr),i<k->qs[i]? = some q->∃x y z,xs[i]? = some x/\ys[i]? = some y/\zs[i]? = some z/\H1 q=none/\H2 q=some (.tup [x,y,z]):=fun k=>by
   induction k with
   | zero=>exact fun _=>⟨_,a_l (big _ (Qae _)).1,I4,a_A,fun b hb=>.inl (by rw[a_u (Nat.ne_of_gt hb)];exact(big b (Nat.le_of_lt hb)).1),fun i q h=>absurd h (Nat.not_lt_zero _)⟩
   | succ k ih=>
    intro hk'
    obtain⟨H2,sm,J,hp,hb2,hrow⟩:=ih (Nat.le_of_succ_le hk')
    have hkl:k<qs.length:=hk'
    have eqk:qs[k]? = some qs[k]:=List.getElem?_eq_getElem hkl
    obtain⟨T,x',y',u',eT,hT,trp,ex,ey,eu⟩:=tr k (.ref qs[k]) (by rw[hqs,List.getElem?_map,eqk];rfl)
    cases eT
    have hTlt:h'.objs.size<qs[k]:=hT
    have kx:k<xs.length:=by rw[<-hlq];exact hkl
    have vx:xs[k]? = some xs[k]:=List.getElem?_eq_getElem kx
    have vy:ys[k]? = some (ys[k]'(by omega)):=List.getElem?_eq_getElem (by omega)
    have vz:zs[k]? = some (zs[k]'(by omega)):=List.getElem?_eq_getElem (by omega)
    obtain⟨w1,hw1,rw1⟩:=r1'.get vx
    obtain⟨w2,hw2,rw2⟩:=r2'.get vy
    obtain⟨w3,hw3,rw3⟩:=r3'.get vz
    have e1:x' = w1:=by simp only[List.getElem?_toArray] at ex;rw[hw1] at ex;exact(Option.some.inj ex).symm
    have e2':y' = w2:=by simp only[List.getElem?_toArray] at ey;rw[hw2] at ey;exact(Option.some.inj ey).symm
    have e3':u' = w3:=by simp only[List.getElem?_toArray] at eu;rw[hw3] at eu;exact(Option.some.inj eu).symm
    subst e1 e2' e3'
    have rel:b_M [xs[k],ys[k]'(by omega),zs[k]'(by omega)] [x',y',u']:=.cons rw1 (.cons rw2 (.cons rw3 .nil))
    have H1q:H1 qs[k]=none:=(big _ (Nat.le_of_lt hTlt)).1
    rcases hb2 qs[k] hTlt with hn | ⟨row,hr⟩
    ·refine⟨upd H2 qs[k] (.tup [xs[k],ys[k]'(by omega),zs[k]'(by omega)]),fun b o e=>a_l hn _ _ (sm b o e),J.track ⟨hn,(big _ (Nat.le_of_lt hTlt)).2⟩ ⟨by show 3<=sizeLine;decide,_,rel,⟨_,trp,rfl,_,rfl⟩⟩,
      by rw[a_u (Nat.ne_of_lt hTlt)];exact hp,fun b hb=>?_,fun i q hi hq=>?_⟩
     ·by_cases e:b=qs[k]
      ·subst e;exact .inr ⟨_,a_A⟩
      ·rw[a_u e];exact hb2 b hb
     ·rcases Nat.lt_succ_iff_lt_or_eq.mp hi with hi | rfl
      ·obtain⟨x,y,z,a1,a2,a3,a4,a5⟩:=hrow i q hi hq
       exact⟨x,y,z,a1,a2,a3,a4,a_l hn _ _ a5⟩
      ·rw[eqk] at hq;cases hq
       exact⟨_,_,_,vx,vy,vz,H1q,a_A⟩
    ·have same:row=[xs[k],ys[k]'(by omega),zs[k]'(by omega)]:=by
      obtain⟨_,its,rv,o,eo,co,n,dn⟩:=J.hok _ _ hr
      have eo':h2.get? qs[k]=some o:=eo
      rw[trp] at eo'
      cases eo'
      have d':(#[x',y',u']:Array Value)=its.toArray:=by injection dn
      have:its=[x',y',u']:=by have:=congrArg Array.toList d';simpa using this.symm
      subst this
      exact rv.inj rel
     refine⟨H2,sm,J,hp,hb2,fun i q hi hq=>?_⟩
     rcases Nat.lt_succ_iff_lt_or_eq.mp hi with hi | rfl
     ·exact hrow i q hi hq
     ·rw[eqk] at hq;cases hq
      exact⟨_,_,_,vx,vy,vz,H1q,by rw[hr,same]⟩
  obtain⟨H2,sm,J,hp,_,hrow⟩:=all qs.length (Qae _)
  exact⟨.ref h'.objs.size,H2,J,rfl,q h'.objs.size H2 qs sm (big _ (Qae _)).1 hp hlq fun i qq e=>hrow i qq (List.getElem?_eq_some_iff.mp e).1 e⟩
theorem n_3(hc:X.calm=true):i_p X (.builtin "all") (fun xs H Q=>∃(l:Addr) (bs:List Bool),xs=[.ref l]/\H l=some (.lst (bs.map V.bl))/\Q (.bl (bs.all id)) H):=by
 intro pins s Y H xs us Q I r h
 obtain⟨l,bs,rfl,hl,q⟩:=h
 obtain⟨u,rfl,ru⟩:=vals1 r
 cases ru
 obtain⟨z,its,n,rv,e⟩:=I.hok _ _ hl
 have L:s.heap.IsList l its.toArray:=⟨_,e,rfl,_,rfl⟩
 have hlt:l<s.heap.objs.size:=Qad e
 have len:=rv.length
 rw[List.length_map] at len
 refine call_all_walk (wpAny_pyIter_list L ?_)
 refine⟨s.heap.objs.size,_,_,_,_,_,fun i=>bs.getD i true,rfl,Walks.list (A:=X.A.in1) (show X.A.in1.handled=none from I.ok.hd hc) s.heap.objs.size l (Nat.ne_of_lt hlt) its.toArray,⟨⟨_,Heap.get?_push_size _ rfl,rfl,rfl⟩,L.push _⟩,?_,fun h' tk hk=>?_⟩
 ·intro i v s' Q' E' hv hq
  have hi:its[i]? = some v:=by simpa using hv
  have hlt:i<bs.length:=by rw[len];exact(List.getElem?_eq_some_iff.mp hi).1
  obtain⟨w,hw,rw'⟩:=rv.get (i:=i) (x:=.bl bs[i]) (by rw[List.getElem?_map,List.getElem?_eq_getElem hlt];rfl)
  rw[hi] at hw
  cases hw
  cases rw'
  refine wpAny_truthy_bool ?_
  have:bs.getD i true=bs[i]:=by simp[List.getD,hlt]
  have hq:Q' (bs.getD i true) s':=hq
  rw[this] at hq
  exact hq
 ·have e1:(List.range its.toArray.size).all (fun i=>bs.getD i true)=bs.all id:=by
   rw[List.size_toArray,<-len]
   rw[Bool.eq_iff_iff,List.all_eq_true,List.all_eq_true]
   constructor
   ·intro h b hb
    obtain⟨i,hi,rfl⟩:=List.getElem_of_mem hb
    have:=h i (List.mem_range.mpr hi)
    simpa[List.getD,hi] using this
   ·intro h i hi
    have hi':=List.mem_range.mp hi
    have:=h bs[i] (List.getElem_mem hi')
    simpa[List.getD,hi'] using this
  rw[e1]
  exact⟨.bl (bs.all id),H,I.kept fun b o eb=>hk b o (fun zz=>absurd (Qad eb) (by rw[List.mem_singleton.mp zz];exact Nat.lt_irrefl _)) (Qac _ eb),rfl,q⟩
end
end L2
namespace L2.L3
open PySem PySem.Spec PyProof.Rows
noncomputable def y_N:DN:=fun xs Q=>∃ds,(xs=[.list ds]\/xs=[.tuple ds])/\Q (.int ds.length)
theorem k_V{K:Frag}:OpN (fun xs H Q=>∃p ys,xs=[.ref p]/\(SqL K H p ys\/SqT K H p ys)/\Q (.int ys.length) H) y_N where
 mn:=fun _ _ _ k ⟨ds,e,q⟩=>⟨ds,e,k _ q⟩
 ok:=fun O H vs xs Q hO hd ⟨ds,e,q⟩=>by
  rcases e with rfl | rfl
  ·cases hd with
   | cons d r=>
    cases r
    obtain⟨a,ys,rfl,ha,hy⟩:=d.lst_inv
    exact⟨a,ys,rfl,.inl (.of (a_1 ha).1),by rw[hy.length];exact q _ H (fun _ _ h=>h) (.int _)⟩
  ·cases hd with
   | cons d r=>
    cases r
    obtain⟨a,ys,rfl,ha,hy⟩:=d.tup_inv
    exact⟨a,ys,rfl,.inr (.inl (d_v ha).1),by rw[hy.length];exact q _ H (fun _ _ h=>h) (.int _)⟩
theorem dvs2{H:Hp}{vs:List V}{a b:PyData}(h:DVs H vs [a,b]):∃x y,vs=[x,y]/\DV H x a/\DV H y b:=by
 cases h with | cons d r=>cases r with | cons d' r=>cases r;exact⟨_,_,rfl,d,d'⟩
theorem dvs1{H:Hp}{vs:List V}{a:PyData}(h:DVs H vs [a]):∃x,vs=[x]/\DV H x a:=by
 cases h with | cons d r=>cases r;exact⟨_,rfl,d⟩
theorem dvs3{H:Hp}{vs:List V}{a b c:PyData}(h:DVs H vs [a,b,c]):∃x y z,vs=[x,y,z]/\DV H x a/\DV H y b/\DV H z c:=by
 cases h with | cons d r=>cases r with | cons d' r=>cases r with | cons d'' r=>cases r;exact⟨_,_,_,rfl,d,d',d''⟩
noncomputable def y_h:DN:=fun xs Q=>∃i j:Int,xs=[.int i,.int j]/\Q (.int (max i j))
theorem u_3:OpN (fun xs H Q=>∃i j,xs=[.int i,.int j]/\Q (.int (if j>i then j else i)) H) y_h where
 mn:=fun _ _ _ k ⟨i,j,e,q⟩=>⟨i,j,e,k _ q⟩
 ok:=fun O H vs xs Q hO hd ⟨i,j,e,q⟩=>by
  subst e
  obtain⟨x,y,rfl,h1,h2⟩:=dvs2 hd
  have e:(if j>i then j else i)=max i j:=by split<;>omega
  exact⟨i,j,by rw[h1.int_inv,h2.int_inv],by rw[e];exact q _ H (fun _ _ h=>h) (.int _)⟩
noncomputable def y_R:DN:=fun xs Q=>∃bs:List Bool,xs=[.list (bs.map .bool)]/\Q (.bool (bs.all id))
theorem i_g{H:Hp}:∀{bs:List Bool}{vs:List V},DVs H vs (bs.map PyData.bool)->vs=bs.map V.bl
 | [],_,h=>by cases h;rfl
 | b::r,_,h=>by
  cases h with
  | cons d q=>rw[d.bl_inv,i_g q];rfl
theorem x_Y:OpN (fun xs H Q=>∃(l:Addr) (bs:List Bool),xs=[.ref l]/\H l=some (.lst (bs.map V.bl))/\Q (.bl (bs.all id)) H) y_R where
 mn:=fun _ _ _ k ⟨bs,e,q⟩=>⟨bs,e,k _ q⟩
 ok:=fun O H vs xs Q hO hd ⟨bs,e,q⟩=>by
  subst e
  obtain⟨x,rfl,h1⟩:=dvs1 hd
  obtain⟨a,ys,rfl,ha,hy⟩:=h1.lst_inv
  exact⟨a,bs,rfl,by rw[(a_1 ha).1,i_g hy],q _ H (fun _ _ h=>h) (.bl _)⟩
noncomputable def n_D(as bs cs:List PyData):List PyData:=(as.zip (bs.zip cs)).map fun q=>PyData.tuple [q.1,q.2.1,q.2.2]
noncomputable def dLZ(t:DTA):DT:=fun U Q=>t U fun ds U'=>∃as bs cs,ds=[.list as,.list bs,.list cs]/\bs.length=as.length/\cs.length=as.length/\0<as.length/\Q (.list (n_D as bs cs)) U'
theorem n_x:∀{H:Hp}{vs:List V}{ds:List PyData},vs.length=ds.length->(∀(i:Nat) v d,vs[i]? = some v->ds[i]? = some d->DV H v d)->DVs H vs ds
 | _,[],[],_,_=>.nil
 | _,[],_::_,e,_=>by cases e
 | _,_::_,[],e,_=>by cases e
 | H,v::vs,d::ds,e,h=>.cons (h 0 v d rfl rfl) (n_x (by simpa using e) fun i v' d' e1 e2=>h (i+1) v' d' (by simpa using e1) (by simpa using e2))
section
variable{X:Cx}{F:Fx}{a b c e:Expr}{te:DT}{tA:DTA}{pos p1 p2 pos2:Pos}
theorem l_P(hc:X.calm=true)(hg1:Gl X "list")(hm1:X.mg "list" = none)(hg2:Gl X "zip")(hm2:X.mg "zip" = none)(ha:DA X F [a,b,c] tA)
  (he:starEach [.Call (.Name "zip" p2) [a,b,c] [] pos2] X.env=[(false,eval (.Call (.Name "zip" p2) [a,b,c] [] pos2) X.env)]:=by rfl)
  (hs:starEach [a,b,c] X.env=(false,eval a X.env)::starEach [b,c] X.env:=by rfl) (hpl:(backTo pos2 (starEach [b,c] X.env)).any (·.1)=false:=by rfl) :
  DE X F (.Call (.Name "list" p1) [.Call (.Name "zip" p2) [a,b,c] [] pos2] [] pos) (dLZ tA):=
 ⟨fun _ _ _ k q=>ha.mn _ _ _ (fun _ _ ⟨x,y,z,e,h1,h2,h3,q⟩=>⟨x,y,z,e,h1,h2,h3,k _ _ q⟩) q,(l_E hc hg1 hm1 hg2 hm2 ha.pa he hs hpl).imp fun Y H Q ⟨U,O,st,q⟩=>
  ⟨U,O,st,ha.mn _ _ _ (fun ds U1 ⟨as,bs,cs,e,l1,l2,l3,q1⟩ vs H1 O1 st1 s1 d1=>by
   subst e
   obtain⟨x,y,z,rfl,h1,h2,h3⟩:=dvs3 d1
   obtain⟨a1,xs,rfl,ha1,hx⟩:=h1.lst_inv
   obtain⟨a2,ys,rfl,ha2,hy⟩:=h2.lst_inv
   obtain⟨a3,zs,rfl,ha3,hz⟩:=h3.lst_inv
   refine⟨a1,a2,a3,xs,ys,zs,rfl,(a_1 ha1).1,(a_1 ha2).1,(a_1 ha3).1,by rw[hx.length,hy.length];exact l1,by rw[hx.length,hz.length];exact l2,by rw[hx.length];exact l3,fun p H2 qs sm hp hH2 hl hrow=>?_⟩
   have nO:∀b,H1 b=none->b∉O1:=st1.nofree
   refine q1 _ H2 O1 (st1.grow sm) (s1.trans (.same sm)) (.lst (e_x hH2 (nO p hp)) (n_x ?_ fun i v d e1 e2=>?_))
   ·unfold n_D
    rw[List.length_map,List.length_map,List.length_zip,List.length_zip,hl,hx.length]
    omega
   ·rw[List.getElem?_map] at e1
    obtain⟨qq,e3,e4⟩:=Option.map_eq_some_iff.mp e1
    subst e4
    obtain⟨x,y,z,g1,g2,g3,g4,g5⟩:=hrow i qq e3
    unfold n_D at e2
    rw[List.getElem?_map] at e2
    obtain⟨⟨d0,d1,d2⟩,e5,e6⟩:=Option.map_eq_some_iff.mp e2
    subst e6
    obtain⟨e7,e8⟩:=List.getElem?_zip_eq_some.mp e5
    obtain⟨e9,e10⟩:=List.getElem?_zip_eq_some.mp e8
    obtain⟨dx,k1,k2⟩:=hx.get' g1
    obtain⟨dy,k3,k4⟩:=hy.get' g2
    obtain⟨dz,k5,k6⟩:=hz.get' g3
    have e7':as[i]? = some d0:=e7
    have e9':bs[i]? = some d1:=e9
    have e10':cs[i]? = some d2:=e10
    rw[k1] at e7';rw[k3] at e9';rw[k5] at e10'
    cases e7';cases e9';cases e10'
    have m:=d_F (O:=O1) sm
    exact .tup (.inl (e_x g5 (nO qq g4))) (.cons (DV.mono m k2) (.cons (DV.mono m k4) (.cons (DV.mono m k6) .nil)))) q⟩⟩
noncomputable def v_x(te:DT)(k:Nat):DT:=fun U Q=>te U fun d U'=>∃ds,d=.list ds/\Q (.list (ds.drop k)) U'
theorem s_s{k j:Nat}{kp sp:Pos}(he:DE X F e te):DE X F (.Subscript e (.Slice (some (.Constant (.int (k:Int)) j kp)) none none sp) pos) (v_x te k):=
 ⟨fun _ _ _ k q=>he.mn _ _ _ (fun _ _ ⟨ds,e,q⟩=>⟨ds,e,k _ _ q⟩) q,(q_t t_c he.pe (r_E m_f) r_F).imp fun Y H Q ⟨U,O,st,q⟩=>
  ⟨U,O,st,he.mn _ _ _ (fun d U1 ⟨ds,e,q1⟩ v H1 O1 st1 s1 d1=>by
   subst e
   obtain⟨a,xs,rfl,ha,hx⟩:=d1.lst_inv
   refine⟨(k:Int),rfl,a,xs,rfl,.of (a_1 ha).1,fun p hp=>q1 _ _ O1 (st1.grow (a_l hp)) (s1.trans (.same (a_l hp))) (c_K hp (st1.nofree p hp) ?_)⟩
   have:t_u xs (some (k:Int)) none=xs.drop k:=by
    unfold t_u
    rw[HT.sIx_none,HT.sIx_nat]
    by_cases h:k<=xs.length
    ·rw[Nat.min_eq_left h,List.take_of_length_le (by rw[List.length_drop];exact Qae _)]
    ·rw[Nat.min_eq_right (by omega),List.drop_of_length_le (Qae _),List.drop_of_length_le (by omega)]
     simp
   rw[this]
   exact hx.drop k) q⟩⟩
end
section
variable{X:Cx}{F:Fx}{a b c e:Expr}{te:DT}{tA:DTA}{pos p p1 p2 pos2:Pos}{x:Str}{i:Nat}
noncomputable def v_V(i:Nat):DT:=fun U Q=>∃ns,U[i]? = some (some (.scr ns))/\(ns.length<=63->Q (.int ns.length) U)
theorem o_m(hg:Gl X "len")(hm:X.mg "len" = none)(h:PE X (.Name x p1) (f_r i))(he:starEach [.Name x p1] X.env=(false,eval (.Name x p1) X.env)::starEach [] X.env:=by rfl)(hpl:(backTo pos (starEach [] X.env)).any (·.1)=false:=by rfl) :
  DE X F (.Call (.Name "len" p) [.Name x p1] [] pos) (v_V i):=
 ⟨fun _ _ _ k ⟨ns,e,q⟩=>⟨ns,e,fun h=>k _ _ (q h)⟩,(h_v a_Z hg hm PySem.boot_len (b_G h d_9 he) (by decide) (by decide) he hpl).imp fun Y H Q ⟨U,O,st,ns,e,q⟩=>by
  obtain⟨sa,hv,hs⟩:=st.scr e
  refine⟨_,hv,sa,ns.map V.int,rfl,.inl hs.sq,?_⟩
  rw[List.length_map]
  exact q hs.1 _ H O st .refl (.int _)⟩
noncomputable def y_e(i:Nat)(te:DT):DT:=fun U Q=>∃ns,U[i]? = some (some (.scr ns))/\te U fun d U'=>∃k n,d=.int k/\atI ns k=some n/\Q (.int n) U'
theorem t_f{α β:Type}{g:α->β}{l:List α}{k:Int}{n:α}(h:atI l k=some n):atI (l.map g) k=some (g n):=by
 unfold atI at h ⊢
 rw[List.length_map]
 cases q:ixN l.length k with
 | none=>rw[q] at h;cases h
 | some j=>
  rw[q] at h
  show(l.map g)[j]? = some (g n)
  rw[List.getElem?_map]
  have h:l[j]? = some n:=h
  rw[h]
  rfl
theorem q_8(h:PE X (.Name x p1) (f_r i))(he:DE X F e te)(hs:h_9 e):DE X F (.Subscript (.Name x p1) e pos) (y_e i te):=
 ⟨fun _ _ _ k ⟨ns,e,q⟩=>⟨ns,e,he.mn _ _ _ (fun _ _ ⟨k',n,e1,e2,q⟩=>⟨k',n,e1,e2,k _ _ q⟩) q⟩,(s_l l_y h he.pe hs).imp fun Y H Q ⟨U,O,st,ns,e,q⟩=>by
  obtain⟨sa,hv,hs⟩:=st.scr e
  refine⟨_,hv,U,O,st,he.mn _ _ _ (fun d U1 ⟨k,n,e1,e2,q1⟩ w H1 O1 st1 s1 d1=>?_) q⟩
  subst e1
  have hs1:Scr X.K H1 sa ns:=hs.mono fun o u q=>s1.keep _ _ (fun z=>by obtain⟨xs,e,m⟩:=st.live _ z;rw[q] at e;cases e;exact m) q
  exact⟨sa,ns.map V.int,k,.int n,rfl,d1.int_inv,hs1.sq,t_f e2,q1 _ H1 O1 st1 s1 (.int _)⟩⟩
noncomputable def z_H(K:Frag):R2:=fun x y H Q=>∃a b ns,x=.ref a/\y=.ref b/\SqL K H a (ns.map V.int)/\H b=some (.lst [])/\Q (.bl (decide (ns=[]))) H
theorem i_G{h:Heap}:∀{ns:List Int}{us:List Value},b_M (ns.map V.int) us->∃as,ReadsAll h us (ns.map PyData.int) as
 | [],_,r=>by cases r;exact⟨_,.nil⟩
 | n::ns,_,r=>by
  cases r with
  | cons r1 r=>
   obtain⟨t,rfl⟩:=r1
   obtain⟨as,q⟩:=i_G r
   exact⟨_,.cons (.int n t) q⟩
theorem u_N(hu:X.A.units+64<cLine):OpR X (compareOp .Eq) (z_H X.K):=by
 intro pins s Y H x y v u Q I rx ry h
 obtain⟨a,b,ns,rfl,rfl,h1,h2,q⟩:=h
 cases rx;cases ry
 obtain⟨its,rv,⟨o,n,e,c1,_,d1⟩,hz⟩:=I.list h1
 obtain⟨_,its2,n2,rv2,e2⟩:=I.hok _ _ h2
 cases rv2
 obtain⟨as,ra⟩:=i_G (h:=s.heap) rv
 have e3:PyData.eqv (.list (ns.map .int)) (.list [])=decide (ns=[]):=by cases ns<;>rfl
 refine eq_dataH (reads_list_at e c1 d1 (by simpa using ra)) (reads_list_at (xs:=[]) e2 rfl rfl .nil) ?_ (by decide) hu (by rw[e3];exact⟨.bl _,H,I,rfl,q⟩)
 unfold SeqAt.shaped
 have c0:PyData.canLay0 (.list (ns.map .int))=true:=by
  have:∀ns:List Int,PyData.canLayAll0 (ns.map .int)=true:=fun ns=>by
   induction ns with
   | nil=>rfl
   | cons n r ih=>rw[List.map_cons];simp only[PyData.canLayAll0,PyData.canLay0,ih,Bool.and_self]
  simp only[PyData.canLay0,this]
 have dp:PyData.depth (.list (ns.map .int))<=64:=by
  have:∀ns:List Int,PyData.depthAll (ns.map .int)<=1:=fun ns=>by
   induction ns with
   | nil=>simp[PyData.depthAll]
   | cons n r ih=>rw[List.map_cons];simp only[PyData.depthAll,PyData.depth];omega
  have:=this ns
  simp only[PyData.depth]
  omega
 rw[c0,Bool.true_and]
 exact decide_eq_true dp
noncomputable def x_9(i:Nat):DTT:=fun U Q=>∃ns,U[i]? = some (some (.scr ns))/\Q (decide (ns=[])) U
theorem t_1{lp:Pos}(hu:X.A.units+64<cLine)(h:PE X (.Name x p1) (f_r i)):DB X F (.Compare (.Name x p1) [.Eq] [.List [] lp] pos) (x_9 i):=
 ⟨fun _ _ _ k ⟨ns,e,q⟩=>⟨ns,e,k _ _ q⟩,(n_v (u_N hu) h (m_u d_9) (nomark _)).imp fun Y H Q ⟨U,O,st,ns,e,q⟩=>by
  obtain⟨sa,hv,hs⟩:=st.scr e
  refine⟨_,hv,Nat.zero_le _,fun p hp=>⟨sa,p,ns,rfl,rfl,(a_l hp).seq hs.sq,a_A,_,rfl,q _ O (st.grow (a_l hp)) (.same (a_l hp))⟩⟩⟩
end
structure FD (K:Frag) (mg:Str->Option Value) (x:Str) (st:Stmt) (ps:List Str) (g:Addr) (fd:FuncData):Prop where
 fn:Fun K x x st g fd
 mgf:mg x=some (.ref g)
 b:i_z K fd ps []
section
variable{X:Cx}{scope:Scope}{own capN:List Str}{caps:List Nat}
theorem CompScope.of(h1:scope.kind=.function:=by rfl)(h2:(scope.names.all fun y=>y.2 != .cell)=true:=by rfl)
  (h3:(scope.names.all fun y=>y.2 != .free||(X.env.kindOf y.1==some .cell||X.env.kindOf y.1==some .free))=true:=by rfl)
  (h4:(scope.names.all fun y=>y.2 != .local||scope.names.lookup y.1==some .local)=true:=by rfl) (h5:caps.map (fun j=>X.N[j]?)=capN.map some:=by rfl)
  (h6:(capN.all fun x=>scope.names.lookup x==some .free)=true:=by rfl):CompScope X scope own capN caps where
 kind:=h1
 nocell:=fun y hy e=>by
  have:=List.all_eq_true.mp h2 y hy
  rw[e] at this
  exact absurd this (by decide)
 free:=fun y hy e=>by
  have:=List.all_eq_true.mp h3 y hy
  rw[e] at this
  rw[Bool.or_eq_true] at this
  rcases this with z | z
  ·exact absurd z (by decide)
  ·rw[Bool.or_eq_true] at z
   exact z.imp (fun z=>eq_of_beq z) fun z=>eq_of_beq z
 loc:=fun y hy e=>by
  have:=List.all_eq_true.mp h4 y hy
  rw[e] at this
  rw[Bool.or_eq_true] at this
  rcases this with z | z
  ·exact absurd z (by decide)
  ·exact eq_of_beq z
 caps:=h5
 capf:=fun x hx=>eq_of_beq (List.all_eq_true.mp h6 x hx)
end
section
variable{X:Cx}{F:Fx}{a b c e:Expr}{ta tb tc:DT}{pos:Pos}
noncomputable abbrev qI(g:Int->Int->Int):D2:=fI (fun _ _=>True) fun i j=>.int (g i j)
noncomputable abbrev qB(g:Int->Int->Bool):D2:=fI (fun _ _=>True) fun i j=>.bool (g i j)
theorem u_8(ha:DE X F a ta)(hb:DE X F b tb):DE X F (.BinOp a .Add b pos) (dOp (qI fun i j=>i+j) ta tb):=j_l u_I (g_L fun _ _ _=>.int _) ha hb
theorem v_H(ha:DE X F a ta)(hb:DE X F b tb):DE X F (.BinOp a .Sub b pos) (dOp (qI fun i j=>i - j) ta tb):=j_l t_K (g_L fun _ _ _=>.int _) ha hb
theorem v_W(ha:DE X F a ta)(hb:DE X F b tb):DE X F (.BinOp a .Mult b pos) (dOp (fI v_r fun i j=>.int (i * j)) ta tb):=j_l u_L (q_b fun _ _ _=>.int _) ha hb
theorem u_c(ha:DE X F a ta)(hb:DE X F b tb):DE X F (.BinOp a .FloorDiv b pos) (dOp (fI x_W fun i j=>.int (i / j)) ta tb):=j_l s_G (q_b fun _ _ _=>.int _) ha hb
theorem t_W(ha:DE X F a ta)(hb:DE X F b tb):DE X F (.BinOp a .Mod b pos) (dOp (fI (fun _ j=>0<j) fun i j=>.int (i % j)) ta tb):=j_l v_5 (q_b fun _ _ _=>.int _) ha hb
theorem t_N(ha:DE X F a ta)(hb:DE X F b tb):DE X F (.BinOp a .Add b pos) (dOp r_H ta tb):=j_l v_X u_k ha hb
theorem w_O(ha:DE X F a ta)(hb:DE X F b tb):DE X F (.Compare a [.Lt] [b] pos) (dOp (qB fun i j=>decide (i<j)) ta tb):=i_b v_m (g_L fun _ _ _=>.bl _) ha hb (nomark _)
theorem w_M(ha:DE X F a ta)(hb:DE X F b tb):DE X F (.Compare a [.LtE] [b] pos) (dOp (qB fun i j=>decide (i<=j)) ta tb):=i_b p_u (g_L fun _ _ _=>.bl _) ha hb (nomark _)
theorem x_l(ha:DE X F a ta)(hb:DE X F b tb):DE X F (.Compare a [.Gt] [b] pos) (dOp (qB fun i j=>decide (j<i)) ta tb):=i_b u_1 (g_L fun _ _ _=>.bl _) ha hb (nomark _)
theorem x_N(ha:DE X F a ta)(hb:DE X F b tb):DB X F (.Compare a [.Lt] [b] pos) (k_5 (dOp (qB fun i j=>decide (i<j)) ta tb)):=h_o v_m (g_L fun _ _ _=>.bl _) ha hb (nomark _)
theorem x_i(ha:DE X F a ta)(hb:DE X F b tb):DB X F (.Compare a [.LtE] [b] pos) (k_5 (dOp (qB fun i j=>decide (i<=j)) ta tb)):=h_o p_u (g_L fun _ _ _=>.bl _) ha hb (nomark _)
theorem w_N(ha:DE X F a ta)(hb:DE X F b tb):DB X F (.Compare a [.Gt] [b] pos) (k_5 (dOp (qB fun i j=>decide (j<i)) ta tb)):=h_o u_1 (g_L fun _ _ _=>.bl _) ha hb (nomark _)
theorem w_E(ha:DE X F a ta)(hb:DE X F b tb):DB X F (.Compare a [.GtE] [b] pos) (k_5 (dOp (qB fun i j=>decide (j<=i)) ta tb)):=h_o x_S (g_L fun _ _ _=>.bl _) ha hb (nomark _)
theorem w_T(hu:X.A.units+64<cLine)(ha:DE X F a ta)(hb:DE X F b tb):DE X F (.Compare a [.Eq] [b] pos) (dOp (fEq false) ta tb):=i_b (q_N hu) w_u ha hb (nomark _)
theorem x_A(hu:X.A.units+64<cLine)(ha:DE X F a ta)(hb:DE X F b tb):DE X F (.Compare a [.NotEq] [b] pos) (dOp (fEq true) ta tb):=i_b (r_f hu) w_u ha hb (nomark _)
theorem w_U(hu:X.A.units+64<cLine)(ha:DE X F a ta)(hb:DE X F b tb):DB X F (.Compare a [.Eq] [b] pos) (k_5 (dOp (fEq false) ta tb)):=h_o (q_N hu) w_u ha hb (nomark _)
theorem x_Z(hu:X.A.units+64<cLine)(ha:DE X F a ta)(hb:DE X F b tb):DB X F (.Compare a [.NotEq] [b] pos) (k_5 (dOp (fEq true) ta tb)):=h_o (r_f hu) w_u ha hb (nomark _)
theorem t_2(ha:DE X F a ta)(hb:DE X F b tb):DE X F (.Compare a [.Is] [b] pos) (dOp fIs ta tb):=i_b q_S x_8 ha hb (nomark _)
theorem t_V(ha:DE X F a ta)(hb:DE X F b tb):DB X F (.Compare a [.Is] [b] pos) (k_5 (dOp fIs ta tb)):=h_o q_S x_8 ha hb (nomark _)
theorem s_o(ha:DE X F a ta)(hb:DE X F b tb):DB X F (.Compare a [.IsNot] [b] pos) (k_5 (dOp o_Z ta tb)):=h_o o_g o_4 ha hb (nomark _)
theorem r_X(ha:DE X F a ta)(hb:DE X F b tb)(hc:DE X F c tc)(hm:lastMarks [.LtE,.LtE] [b,c]=false:=by with_unfolding_all rfl):DE X F (.Compare a [.LtE,.LtE] [b,c] pos) (n_L (fun i j=>decide (i<=j)) (fun i j=>decide (i<=j)) ta tb tc):=p_6 p_u p_u ha hb hc hm
theorem b_e{x:Str}{i:Int}{t:Tok}(hg:Gl X x)(hm:X.mg x=some (.int i t))(hd:(x==("__debug__":Str))=false:=by decide):DE X F (.Name x pos) (dC (.int i)):=g_j (v:=.int i) (l_A hg hm ⟨t,rfl⟩ hd) fun _=>.int i
mutual
theorem l_3:∀(d:PyData),d.canLay0=true->PyData.eqv d d=true
 | .none,_=>rfl
 | .bool b,_=>by simp[PyData.eqv]
 | .int i,_=>by simp[PyData.eqv]
 | .str s,_=>by simp[PyData.eqv]
 | .list xs,h=>by rw[PyData.eqv];exact f_W xs (by simpa[PyData.canLay0] using h)
 | .tuple xs,h=>by rw[PyData.eqv];exact f_W xs (by simpa[PyData.canLay0] using h)
 | .dict kvs,h=>by simp[PyData.canLay0] at h
theorem f_W:∀(ds:List PyData),PyData.canLayAll0 ds=true->PyData.eqvAll ds ds=true
 | [],_=>rfl
 | x::xs,h=>by
  simp only[PyData.canLayAll0,Bool.and_eq_true] at h
  rw[PyData.eqvAll,l_3 x h.1,f_W xs h.2]
  rfl
end
theorem i_Q{d:PyData}(h:SeqAt.shaped d=true):PyData.eqv d d=true:=l_3 d (SeqAt.canLay_of_shaped h)
end
end L2.L3
namespace L2
open PySem PySem.Spec PyProof.Rows
section
variable{X:Cx}
noncomputable def q_7(K:Frag):R2:=fun x y H Q=>∃a b xs ys,x=.ref a/\y=.ref b/\SqT K H a xs/\SqT K H b ys/\xs.length+ys.length<=sizeLine/\
 (xs=[]->Q (.ref b) H)/\(xs≠[]->ys=[]->Q (.ref a) H)/\(xs≠[]->ys≠[]->∀p,H p=none->Q (.ref p) (upd H p (.tup (xs++ys))))
theorem p_X:OpR X (binaryOp .Add) (q_7 X.K):=by
 intro pins s Y H x y v u Q I rx ry h
 obtain⟨a,b,xs,ys,rfl,rfl,ha,hb,hz,q0,q1,q2⟩:=h
 by_cases hx:xs=[]
 ·subst hx
  cases rx
  cases ry
  obtain⟨its,r1,p1,_⟩:=I.tuple ha
  obtain⟨its2,r2,p2,_⟩:=I.tuple hb
  have e1:its=[]:=r1.nil_iff.mpr rfl
  subst e1
  obtain⟨⟨cls,dd,data,sl⟩,ho,hc,n,hd⟩:=id p1
  obtain⟨⟨cls2,dd2,data2,sl2⟩,ho2,hc2,n2,hd2⟩:=id p2
  simp only at hc hd hc2 hd2
  subst hc hd hc2 hd2
  exact concat_meets ⟨_,ho,rfl⟩ ⟨_,ho2,rfl⟩ noFill_tuple_add seq_tuple_add PySem.F.slot_tuple_add PySem.F.entry_tuple_add (PySem.F.args_tuple_add_2 _ _)
   (tuple_addW0 a b [].toArray its2.toArray n n2 dd dd2 sl sl2 rfl) ⟨ho,ho2,.ref b,H,I,rfl,q0 rfl⟩
 ·exact s_d pins s Y H _ _ v u Q I rx ry ⟨a,b,xs,ys,rfl,rfl,ha,hb,hx,hz,q1 hx,q2 hx⟩
end
end L2
namespace L2.L3
open PySem PySem.Spec PyProof.Rows
section
variable{X:Cx}{F:Fx}{a b:Expr}{ta tb:DT}{pos:Pos}
theorem v_9{K:Frag}:Op2 (q_7 K) s_j where
 mn:=fun _ _ _ _ k ⟨ds,es,e1,e2,e3,q⟩=>⟨ds,es,e1,e2,e3,k _ q⟩
 ok:=fun O H u v x y Q hO h1 h2 ⟨ds,es,e1,e2,e3,q⟩=>by
  subst e1 e2
  obtain⟨a,xs,rfl,ha,hd⟩:=id h1.tup_inv
  obtain⟨b,ys,rfl,hb,he⟩:=id h2.tup_inv
  refine⟨a,b,xs,ys,rfl,rfl,.inl (d_v ha).1,.inl (d_v hb).1,by rw[hd.length,he.length];exact e3,fun z=>?_,fun _ z=>?_,fun _ _ p hp=>q _ _ (a_l hp) (f_A hp (hO p hp) (hd.append he))⟩
  ·subst z
   cases hd
   exact q _ H (fun _ _ h=>h) h2
  ·subst z
   cases he
   rw[List.append_nil] at q
   exact q _ H (fun _ _ h=>h) h1
theorem r_L(ha:DE X F a ta)(hb:DE X F b tb):DE X F (.BinOp a .Add b pos) (dOp s_j ta tb):=j_l p_X v_9 ha hb
end
section
variable{X:Cx}{F:Fx}{a b:Expr}{ta tb:DT}{pos:Pos}{q:PyData->Prop}
theorem v_6(ha:DE X F a ta)(hb:DE X F b tb):DE X F (.BinOp a .Pow b pos) (dOp (fI x_O fun i j=>.int (i ^ j.toNat)) ta tb):=j_l t_8 (q_b fun _ _ _=>.int _) ha hb
theorem j_5{H:Hp}:∀{ns:List Int}{vs:List V},DVs H vs (ns.map PyData.int)->vs=ns.map V.int
 | [],_,h=>by cases h;rfl
 | b::r,_,h=>by
  cases h with
  | cons d q=>rw[d.int_inv,j_5 q];rfl
end
end L2.L3
namespace L2
open PySem PySem.Spec PyProof.Rows
section
variable{X:Cx}{a b c e k:Expr}{t:TA}{te:TE}{tk:TO}{pos pos2 p1 p2:Pos}
noncomputable def cnt3(a b c:Int):Nat:=(if a<b then(b - a - 1) / c+1 else 0).toNat
noncomputable def z_d(t:TA):TE:=fun Y H Q=>t Y H fun vs H1=>∃i j k:Int,vs=[.int i,.int j,.int k]/\(0<=i/\i<=2 ^ 20)/\(0<=j/\j<=2 ^ 20)/\(0<k/\k<=2 ^ 20)/\∀p,H1 p=none->Q (.ref p) (upd H1 p (.lst ((List.range (cnt3 i j k)).map fun(m:Nat)=>V.int (i+m * k))))
theorem size3{i j k:Int}(hi:0<=i/\i<=2 ^ 20)(hj:0<=j/\j<=2 ^ 20)(hk:0<k/\k<=2 ^ 20):Builtin.Range.rangeSize i j k=cnt3 i j k/\cnt3 i j k<=2 ^ 20:=by
 unfold Builtin.Range.rangeSize cnt3
 rw[if_pos (show k>0 from hk.1)]
 by_cases h:i<j
 ·rw[if_pos h]
  have h1:0<=(j - i - 1) / k:=Int.ediv_nonneg (by omega) (by omega)
  have h2:(j - i - 1) / k<=j - i - 1:=Int.ediv_le_self _ (by omega)
  omega
 ·rw[if_neg h]
  exact⟨rfl,by decide⟩
theorem small3{i j k:Int}(hi:0<=i/\i<=2 ^ 20)(hj:0<=j/\j<=2 ^ 20)(hk:0<k/\k<=2 ^ 20):Builtin.Range.small i j k=true:=by
 obtain⟨e1,e2⟩:=size3 hi hj hk
 unfold Builtin.Range.small
 rw[e1]
 simp only[Builtin.Range.rangeFitsLong,Bool.and_eq_true,Bool.or_eq_true,decide_eq_true_eq,beq_iff_eq,show k>0 from hk.1,if_true]
 omega
theorem t_n{i k:Int}:∀(n:Nat) (l:List Value) (z:Nat),l.length=n->(∀(m:Nat) v,l[m]? = some v->∃t,v=Value.int (i+((z+m:Nat):Int) * k) t)->b_M ((List.range n).map fun(m:Nat)=>V.int (i+((z+m:Nat):Int) * k)) l:=by
 intro n
 induction n with
 | zero=>intro l z hl _;cases l with | nil=>exact .nil | cons _ _=>cases hl
 | succ n ih=>
  intro l z hl hv
  cases l with
  | nil=>cases hl
  | cons v l=>
   rw[List.range_succ_eq_map,List.map_cons,List.map_map]
   refine .cons (hv 0 v rfl) ?_
   have:=ih l (z+1) (by simpa using hl) fun m w e=>by
    obtain⟨t,e'⟩:=hv (m+1) w (by simpa using e)
    exact⟨t,by rw[e',show z+(m+1)=z+1+m by omega]⟩
   have ef:(fun(m:Nat)=>V.int (i+((z+1+m:Nat):Int) * k))=((fun(m:Nat)=>V.int (i+((z+m:Nat):Int) * k))∘Nat.succ):=by
    funext m
    show V.int _=V.int _
    rw[show z+1+m=z+Nat.succ m by omega]
   rw[ef] at this
   exact this
theorem j_c(hc:X.calm=true)(hg1:Gl X "list")(hm1:X.mg "list" = none)(hg2:Gl X "range")(hm2:X.mg "range" = none)(ha:PA X [a,b,c] t)
  (he:starEach [.Call (.Name "range" p2) [a,b,c] [] pos2] X.env=[(false,eval (.Call (.Name "range" p2) [a,b,c] [] pos2) X.env)]:=by rfl)
  (hs:starEach [a,b,c] X.env=(false,eval a X.env)::starEach [b,c] X.env:=by rfl) (hpl:(backTo pos2 (starEach [b,c] X.env)).any (·.1)=false:=by rfl) :
  PE X (.Call (.Name "list" p1) [.Call (.Name "range" p2) [a,b,c] [] pos2] [] pos) (z_d t):=by
 intro pins s Y H Q I h
 refine wpAny_Call_Name_kw (f_P I hg1 hm1 (show bootBuiltins "list" = some (.type "list") by decide +kernel) ?_ (by decide) (by decide))
 refine PyProof.Rows.callWith_type1 ?_ (by rw[he];rfl) rfl
 rw[he]
 show wpAny _ _ (spliced [(false,eval (.Call (.Name "range" p2) [a,b,c] [] pos2) X.env)]) _ _ s
 refine Calls.spliced_cons ?_
 refine wpAny_Call_Name_kw (f_P I hg2 hm2 boot_range ?_ (by decide) (by decide))
 refine PyProof.Rows.callWith_type1 (thn (ha pos2 pins s Y H _ I h) fun us s1 ⟨vs,H1,I1,r1,q1⟩=>?_) hs hpl
 obtain⟨i,j,k,rfl,hi,hj,hk,q⟩:=q1
 obtain⟨u1,u2,u3,rfl,⟨t1,rfl⟩,⟨t2,rfl⟩,⟨t3,rfl⟩⟩:=vals3 r1
 refine call_range_3 (by omega) ?_ (.inl (PyProof.noPylong_small (by omega)))
 refine Calls.spliced_nil ?_
 have I2:Inv X pins Y H1 { s1 with heap:=s1.heap.push { cls:=.type "range",data:=.fields #[.int i t1,.int j t2,.int k t3] },toks:=s1.toks }:=I1.kept fun b o e=>Qac _ e
 obtain⟨e1,e2⟩:=size3 hi hj hk
 refine call_list_range (s:={ s1 with heap:=s1.heap.push { cls:=.type "range",data:=.fields #[.int i t1,.int j t2,.int k t3] },toks:=s1.toks }) (n:=cnt3 i j k) (I1.ok.hd hc) (IsRange.new ..) (small3 hi hj hk) e1 (Nat.le_trans e2 (by decide)) fun h' tk' acc c hk' hS hacc=>?_
 have hz:((List.range (cnt3 i j k)).map fun(m:Nat)=>V.int (i+m * k)).length<=sizeLine:=by rw[List.length_map,List.length_range,sizeLine_eq];omega
 have vals:b_M ((List.range (cnt3 i j k)).map fun(m:Nat)=>V.int (i+m * k)) acc.toList:=by
  obtain⟨hl,hit⟩:=hacc
  have:=t_n (i:=i) (k:=k) (cnt3 i j k) acc.toList 0 (by rw[Array.length_toList];exact hl) fun m v e=>by
   obtain⟨t,e'⟩:=hit m v (by simpa using e)
   exact⟨t,by rw[e',Nat.zero_add]⟩
  simpa using this
 exact⟨.ref (s1.heap.push { cls:=.type "range",data:=.fields #[.int i t1,.int j t2,.int k t3] }).objs.size,_,I2.laid (o:=.lst ((List.range (cnt3 i j k)).map fun(m:Nat)=>V.int (i+m * k))) hk' (Qae _) ⟨hz,acc.toList,c,vals,by simpa using hS⟩,rfl,q _ (I2.hok.fresh (Qae _))⟩
end
end L2
namespace L2.L3
open PySem PySem.Spec PyProof.Rows
section
variable{X:Cx}{F:Fx}{a b c e k:Expr}{te:DT}{tA:DTA}{pos pos2 p1 p2:Pos}{q:PyData->Prop}{U:a_q}{Q:PyData->a_q->Prop}
noncomputable def x_5(t:DTA):DT:=fun U Q=>t U fun ds U'=>∃i j k:Int,ds=[.int i,.int j,.int k]/\((0<=i/\i<=2 ^ 20)/\(0<=j/\j<=2 ^ 20)/\(0<k/\k<=2 ^ 20))/\Q (.list ((List.range (cnt3 i j k)).map fun(m:Nat)=>.int (i+m * k))) U'
theorem j_m(hc:X.calm=true)(hg1:Gl X "list")(hm1:X.mg "list" = none)(hg2:Gl X "range")(hm2:X.mg "range" = none)(ha:DA X F [a,b,c] tA)
  (he:starEach [.Call (.Name "range" p2) [a,b,c] [] pos2] X.env=[(false,eval (.Call (.Name "range" p2) [a,b,c] [] pos2) X.env)]:=by rfl)
  (hs:starEach [a,b,c] X.env=(false,eval a X.env)::starEach [b,c] X.env:=by rfl) (hpl:(backTo pos2 (starEach [b,c] X.env)).any (·.1)=false:=by rfl) :
  DE X F (.Call (.Name "list" p1) [.Call (.Name "range" p2) [a,b,c] [] pos2] [] pos) (x_5 tA):=
 ⟨fun _ _ _ k q=>ha.mn _ _ _ (fun _ _ ⟨x,y,z,e,h1,q⟩=>⟨x,y,z,e,h1,k _ _ q⟩) q,(j_c hc hg1 hm1 hg2 hm2 ha.pa he hs hpl).imp fun Y H Q ⟨U,O,st,q⟩=>
  ⟨U,O,st,ha.mn _ _ _ (fun ds U1 ⟨i,j,k,e,⟨h0,h1,h2⟩,q1⟩ vs H1 O1 st1 s1 d1=>by
   subst e
   obtain⟨x,y,z,rfl,hx,hy,hz⟩:=dvs3 d1
   refine⟨i,j,k,by rw[hx.int_inv,hy.int_inv,hz.int_inv],h0,h1,h2,fun p hp=>q1 _ _ O1 (st1.grow (a_l hp)) (s1.trans (.same (a_l hp))) (c_K hp (st1.nofree p hp) (n_x (by simp) fun n v d e1 e2=>?_))⟩
   rw[List.getElem?_map] at e1 e2
   obtain⟨m,e3,e4⟩:=Option.map_eq_some_iff.mp e1
   obtain⟨m',e5,e6⟩:=Option.map_eq_some_iff.mp e2
   rw[e3] at e5
   cases e5
   subst e4 e6
   exact .int _) q⟩⟩
end
section
variable{X:Cx}{F:Fx}{a b:Expr}{ta tb:DT}{pos:Pos}{q:PyData->Prop}
noncomputable def w_H:D2:=fun x y Q=>∃ds k,x=.list ds/\y=.int k/\(-(2 ^ 63)<=k/\k<2 ^ 63/\ds.length * k.toNat<=sizeLine)/\Q (.list (List.replicate k.toNat ds).flatten)
theorem o_z{H:Hp}{vs:List V}{ds:List PyData}(r:DVs H vs ds):∀k:Nat,DVs H (List.replicate k vs).flatten (List.replicate k ds).flatten
 | 0=>.nil
 | k+1=>by
  rw[List.replicate_succ,List.replicate_succ,List.flatten_cons,List.flatten_cons]
  exact r.append (o_z r k)
theorem x_y:Op2 x_6 w_H where
 mn:=fun _ _ _ _ k ⟨ds,n,e1,e2,e3,q⟩=>⟨ds,n,e1,e2,e3,k _ q⟩
 ok:=fun O H u v x y Q hO h1 h2 ⟨ds,k,e1,e2,⟨e3,e4,e5⟩,q⟩=>by
  subst e1 e2
  obtain⟨a,xs,rfl,ha,hd⟩:=h1.lst_inv
  refine⟨a,k,xs,rfl,h2.int_inv,(a_1 ha).1,e3,e4,by rw[hd.length];exact e5,fun p hp=>q _ _ (a_l hp) (c_K hp (hO p hp) (o_z hd _))⟩
theorem u_m(ha:DE X F a ta)(hb:DE X F b tb):DE X F (.BinOp a .Mult b pos) (dOp w_H ta tb):=j_l u_S x_y ha hb
end
end L2.L3
namespace L2
open PySem PySem.Spec PyProof.Rows
section
variable{X:Cx}
noncomputable def u_e:List V->Hp->VK->Prop:=fun xs H Q=>∃(l:Addr) (ns:List Int),xs=[.ref l]/\H l=some (.lst (ns.map V.int))/\ns≠[]/\∀M,M∈ns->(∀a,a∈ns->M<=a)->Q (.int M) H
theorem n_0(hc:X.calm=true):i_p X (.builtin "min") u_e:=by
 intro pins s Y H xs us Q I r h
 obtain⟨l,ns,rfl,hl,hne,q⟩:=h
 obtain⟨u,rfl,ru⟩:=vals1 r
 cases ru
 obtain⟨z,its,n,rv,e⟩:=I.hok _ _ hl
 have L:s.heap.IsList l its.toArray:=⟨_,e,rfl,_,rfl⟩
 have hlt:l<s.heap.objs.size:=Qad e
 have len:=rv.length
 rw[List.length_map] at len
 have hp:0<ns.length:=List.length_pos_iff.mpr hne
 have at_:∀(i:Nat) (v:Value),its.toArray[i]? = some v->∃t,v=.int (ns.getD i 0) t:=by
  intro i v hv
  have hi:its[i]? = some v:=by simpa using hv
  have hlt:i<ns.length:=by rw[len];exact(List.getElem?_eq_some_iff.mp hi).1
  obtain⟨w,hw,rw'⟩:=rv.get (i:=i) (x:=.int ns[i]) (by rw[List.getElem?_map,List.getElem?_eq_getElem hlt];rfl)
  rw[hi] at hw
  cases hw
  cases rw'
  rename_i tk0 etk
  refine⟨tk0,etk.trans ?_⟩
  congr 1
  simp[List.getD,hlt]
 refine call_min_walk (wpAny_pyIter_list L ?_)
 refine⟨s.heap.objs.size,_,_,_,_,_,_,rfl,Walks.list (A:=X.A.in1) (show X.A.in1.handled=none from I.ok.hd hc) s.heap.objs.size l (Nat.ne_of_lt hlt) its.toArray,⟨⟨_,Heap.get?_push_size _ rfl,rfl,rfl⟩,L.push _⟩,?_,?_,CmpOf.ints_lt (fun i=>ns.getD i 0) at_,fun v h' tk hP hk=>?_⟩
 ·intro b hb
  rcases List.mem_cons.mp hb with rfl | hb
  ·show _<(s.heap.push _).objs.size
   rw[Heap.size_push];exact Nat.lt_succ_self _
  ·rw[List.mem_singleton.mp hb]
   show _<(s.heap.push _).objs.size
   rw[Heap.size_push];exact Nat.lt_succ_of_lt hlt
 ·rw[List.size_toArray,<-len];exact hp
 ·rw[List.size_toArray,<-len] at hP
  obtain⟨t,rfl⟩:=at_ _ _ hP
  obtain⟨h1,h2⟩:=argBest_lt (fun i=>ns.getD i 0) (ns.length - 1)
  refine⟨.int _,H,I.kept fun b o eb=>hk b o (fun zz=>absurd (Qad eb) (by rw[List.mem_singleton.mp zz];exact Nat.lt_irrefl _)) (Qac _ eb),⟨_,rfl⟩,q _ ?_ fun a ha=>?_⟩
  ·rw[PySem.getD_at (by omega)];exact List.getElem_mem _
  ·obtain⟨j,hj,rfl⟩:=List.getElem_of_mem ha
   have:=h2 j (by omega)
   simp only[PySem.getD_at hj] at this
   exact this
end
end L2
namespace L2.L3
open PySem PySem.Spec PyProof.Rows
section
variable{q:PyData->Prop}
noncomputable def w_d:DN:=fun xs Q=>∃ns:List Int,xs=[.list (ns.map .int)]/\ns≠[]/\∀M,M∈ns->(∀a,a∈ns->M<=a)->Q (.int M)
theorem w_a:OpN u_e w_d where
 mn:=fun _ _ _ k ⟨bs,e,h,q⟩=>⟨bs,e,h,fun M h1 h2=>k _ (q M h1 h2)⟩
 ok:=fun O H vs xs Q hO hd ⟨ns,e,h,q⟩=>by
  subst e
  obtain⟨x,rfl,h1⟩:=dvs1 hd
  obtain⟨a,ys,rfl,ha,hy⟩:=h1.lst_inv
  exact⟨a,ns,rfl,by rw[(a_1 ha).1,j_5 hy],h,fun M h1 h2=>q M h1 h2 _ H (fun _ _ h=>h) (.int _)⟩
end
inductive Out (α:Type) where
 | ok (a:α) (U:a_q) | ex (c:Str) (U:a_q) | bad
@[simp] noncomputable def Out.bind{α β:Type}(o:Out α)(k:α->a_q->Out β):Out β:=match o with
 | .ok a U=>k a U
 | .ex c U=>.ex c U
 | .bad=>.bad
@[simp] noncomputable def lift{α:Type}(o:Option α)(U:a_q):Out α:=match o with
 | some a=>.ok a U
 | none=>.bad
noncomputable abbrev XM(α:Type):=a_q->Out α
noncomputable def wp{α:Type}(E:Str->a_q->Prop)(m:XM α):a_q->(α->a_q->Prop)->Prop:=fun U Q=>match m U with
 | .ok a U'=>Q a U'
 | .ex c U'=>E c U'
 | .bad=>False
section
variable{α β:Type}{E:Str->a_q->Prop}
theorem a_m{m:XM α}:∀U (Q Q':α->a_q->Prop),(∀d U',Q d U'->Q' d U')->wp E m U Q->wp E m U Q':=fun U Q Q' k q=>by
 unfold wp at q ⊢
 generalize m U=o at q ⊢
 cases o with
 | ok a U'=>exact k _ _ q
 | ex c U'=>exact q
 | bad=>exact q
theorem a_w{m:XM α}{k:α->XM β}{U:a_q}{Q:β->a_q->Prop}(h:wp E (fun U=>(m U).bind k) U Q):wp E m U fun a U'=>wp E (k a) U' Q:=by
 unfold wp at h ⊢
 unfold Out.bind at h
 simp only at h
 generalize m U=o at h ⊢
 cases o with
 | ok a U'=>exact h
 | ex c U'=>exact h
 | bad=>exact h
theorem a_X{o:Option α}{U:a_q}{Q:α->a_q->Prop}(h:wp E (lift o) U Q):∃a,o=some a/\Q a U:=by
 unfold wp lift at h
 cases o with
 | some a=>exact⟨a,rfl,h⟩
 | none=>exact h.elim
end
section
variable{X:Cx}{F:Fx}{E:Str->a_q->Prop}{e a b c:Expr}{es:List Expr}{pos:Pos}
theorem DE.imp{t t':DT}(h:DE X F e t)(mn:Mn t')(k:∀U Q,t' U Q->t U Q):DE X F e t':=⟨mn,h.pe.imp fun Y H Q ⟨U,O,st,q⟩=>⟨U,O,st,k U _ q⟩⟩
theorem DO.imp{t t':DTO}(h:DO X F e t)(mn:MnO t')(k:∀U Q,t' U Q->t U Q):DO X F e t':=⟨mn,h.pe.imp fun Y H Q ⟨U,O,st,q⟩=>⟨U,O,st,k U _ q⟩⟩
theorem DA.imp{t t':DTA}(h:DA X F es t)(mn:MnA t')(k:∀U Q,t' U Q->t U Q):DA X F es t':=⟨mn,h.pa.imp fun Y H Q ⟨U,O,st,q⟩=>⟨U,O,st,k U _ q⟩⟩
theorem DX.imp{t t':DTX}(h:DX X F es t)(mn:MnX t')(k:∀U Q,t' U Q->t U Q):DX X F es t':=⟨mn,h.pa.imp fun Y H Q ⟨U,O,st,q⟩=>⟨U,O,st,k U _ q⟩⟩
theorem DB.imp{t t':DTT}(h:DB X F e t)(mn:MnT t')(k:∀U Q,t' U Q->t U Q):DB X F e t':=⟨mn,h.pt.imp fun Y H Q ⟨U,O,st,q⟩=>⟨U,O,st,k U _ q⟩⟩
theorem DW.imp{t t':DTT}(h:DW X F e t)(mn:MnT t')(k:∀U Q,t' U Q->t U Q):DW X F e t':=⟨mn,h.pw.imp fun Y H Q ⟨U,O,st,q⟩=>⟨U,O,st,k U _ q⟩⟩
theorem DSs.imp{sts:List Stmt}{t t':DTS}(h:DSs X F sts t)(k:∀D U,t' D U->t D U):DSs X F sts t':=PSs.imp h fun D Y H ⟨U,O,DD,st,q,f⟩=>⟨U,O,DD,st,k DD U q,f⟩
theorem DS.imp{s:Stmt}{t t':DTS}(h:DS X F s t)(k:∀D U,t' D U->t D U):DS X F s t':=PS.imp h fun D Y H ⟨U,O,DD,st,q,f⟩=>⟨U,O,DD,st,k DD U q,f⟩
noncomputable abbrev FE(X:Cx)(F:Fx)(E:Str->a_q->Prop)(e:Expr)(m:XM PyData):Prop:=DE X F e (wp E m)
noncomputable abbrev FO(X:Cx)(F:Fx)(E:Str->a_q->Prop)(e:Expr)(m:XM Cell):Prop:=DO X F e (wp E m)
noncomputable abbrev FB(X:Cx)(F:Fx)(E:Str->a_q->Prop)(e:Expr)(m:XM Bool):Prop:=DB X F e (wp E m)
noncomputable abbrev FW(X:Cx)(F:Fx)(E:Str->a_q->Prop)(e:Expr)(m:XM Bool):Prop:=DW X F e (wp E m)
noncomputable abbrev FA(X:Cx)(F:Fx)(E:Str->a_q->Prop)(es:List Expr)(m:XM (List PyData)):Prop:=DA X F es (wp E m)
noncomputable abbrev FX(X:Cx)(F:Fx)(E:Str->a_q->Prop)(es:List Expr)(m:XM (List AX)):Prop:=DX X F es (wp E m)
noncomputable abbrev FI(X:Cx)(F:Fx)(E:Str->a_q->Prop)(tg iter:Expr)(m:XM (List PyData)):Prop:=DI X F tg iter (wp E m)
noncomputable abbrev GM:=PyData->a_q->Option a_q
noncomputable def wpG(g:GM):DTG:=fun d U Q=>match g d U with
 | some U'=>Q U'
 | none=>False
noncomputable abbrev FG(X:Cx)(F:Fx)(tg:Expr)(g:GM):Prop:=DG X F tg (wpG g)
noncomputable abbrev FS(X:Cx)(F:Fx)(E:Str->a_q->Prop)(s:Stmt)(m:SM):Prop:=DS X F s (wpS E m)
noncomputable abbrev FSs(X:Cx)(F:Fx)(E:Str->a_q->Prop)(s:List Stmt)(m:SM):Prop:=DSs X F s (wpS E m)
@[simp] noncomputable def xC(d:PyData):XM PyData:=fun U=>.ok d U
@[simp] noncomputable def xV(i:Nat):XM PyData:=fun U=>match U[i]? with
 | some (some (.dat d))=>.ok d U
 | some (some (.own false (.l ds)))=>.ok (.list ds) (U.set i (some (.dat (.list ds))))
 | _=>.bad
theorem a_i{d:PyData}(h:DE X F e (dC d)):FE X F E e (xC d):=h.imp a_m fun _ _ q=>q
theorem y_1{i:Nat}(h:DE X F e (dV i)):FE X F E e (xV i):=h.imp a_m fun U Q q=>by
 unfold wp xV at q
 unfold dV
 cases h:U[i]? with
 | none=>rw[h] at q;exact q.elim
 | some o=>
  rw[h] at q
  cases o with
  | none=>exact q.elim
  | some c=>
   cases c with
   | dat d=>exact .inl ⟨d,rfl,q⟩
   | scr n=>exact q.elim
   | exc n=>exact q.elim
   | vw n=>exact q.elim
   | own io bx=>
    cases io with
    | true=>exact q.elim
    | false=>
     cases bx with
     | l ds=>exact .inr ⟨ds,rfl,q⟩
     | m _ _=>exact q.elim
     | o _ _=>exact q.elim
     | sd _=>exact q.elim
     | ll _=>exact q.elim
     | pr _ _ _=>exact q.elim
@[simp] noncomputable def xOp(g:PyData->PyData->Option PyData)(a b:XM PyData):XM PyData:=fun U=>(a U).bind fun x U1=>(b U1).bind fun y=>lift (g x y)
noncomputable def F2(f:D2)(g:PyData->PyData->Option PyData):Prop:=∀x y d Q,g x y=some d->Q d->f x y Q
theorem f_o{f:D2}{g:PyData->PyData->Option PyData}{ma mb:XM PyData}(hg:F2 f g)(h:DE X F e (dOp f (wp E ma) (wp E mb))):FE X F E e (xOp g ma mb):=h.imp a_m fun U Q q=>by
 refine a_m _ _ _ (fun x U1 q1=>?_) (a_w q)
 refine a_m _ _ _ (fun y U2 q2=>?_) (a_w q1)
 obtain⟨d,e1,q3⟩:=a_X q2
 exact hg x y d _ e1 q3
@[simp] noncomputable def b_E(m:XM PyData):XM Bool:=fun U=>(m U).bind fun d=>lift (match d with | .bool b=>some b | _=>none)
theorem r_o{U:a_q}{Q:Bool->a_q->Prop}{m:XM PyData}(q:wp E (b_E m) U Q):k_5 (wp E m) U Q:=a_m _ _ _ (fun d U1 q1=>by
 obtain⟨b,e1,q2⟩:=a_X q1
 cases d with
 | bool b'=>cases e1;exact⟨_,rfl,q2⟩
 | _=>cases e1) (a_w q)
theorem k_q{f:D2}{g:PyData->PyData->Option PyData}{ma mb:XM PyData}(hg:F2 f g)(h:DB X F e (k_5 (dOp f (wp E ma) (wp E mb)))):FB X F E e (b_E (xOp g ma mb)):=h.imp a_m fun U Q q=>by
 have q':=r_o q
 refine a_m _ _ _ (fun x U1 q1=>?_) (a_w q')
 refine a_m _ _ _ (fun y U2 q2=>?_) (a_w q1)
 obtain⟨d,e1,q3⟩:=a_X q2
 exact hg x y d _ e1 q3
theorem b_u{m:XM PyData}(h:DB X F e (k_5 (wp E m))):FB X F E e (b_E m):=h.imp a_m fun U Q q=>r_o q
@[simp] noncomputable def gI(g:Int->Int->PyData):PyData->PyData->Option PyData:=fun x y=>match x,y with
 | .int i,.int j=>some (g i j)
 | _,_=>none
@[simp] noncomputable def gIC(C:Int->Int->Bool)(g:Int->Int->PyData):PyData->PyData->Option PyData:=fun x y=>match x,y with
 | .int i,.int j=>if C i j=true then some (g i j) else none
 | _,_=>none
theorem p_R{g:Int->Int->PyData}:F2 (fI (fun _ _=>True) g) (gI g):=fun x y d Q e q=>by
 unfold gI at e
 split at e
 ·cases e;exact⟨_,_,rfl,rfl,trivial,q⟩
 ·cases e
theorem p_7{C:Int->Int->Bool}{P:Int->Int->Prop}{g:Int->Int->PyData}(h:∀i j,C i j=true->P i j):F2 (fI P g) (gIC C g):=fun x y d Q e q=>by
 unfold gIC at e
 split at e
 ·split at e
  ·rename_i hc;cases e;exact⟨_,_,rfl,rfl,h _ _ hc,q⟩
  ·cases e
 ·cases e
noncomputable def q_0(i j:Int):Bool:=(decide (-(2 ^ 64)<i)&&decide (i<2 ^ 64))||(decide (-(2 ^ 64)<j)&&decide (j<2 ^ 64))
noncomputable def w_i(_ j:Int):Bool:=decide (0<j)&&decide (j<1073741824)
noncomputable def v_C(_ j:Int):Bool:=decide (0<j)
noncomputable def w_s(i j:Int):Bool:=decide (0<=j)&&decide (j<=1000000)&&decide (i.natAbs<2 ^ 64)
theorem t_l(i j:Int)(h:q_0 i j=true):v_r i j:=by
 unfold q_0 at h
 simp only[Bool.or_eq_true,Bool.and_eq_true,decide_eq_true_eq] at h
 exact h
theorem r_v(i j:Int)(h:w_i i j=true):x_W i j:=by
 unfold w_i at h
 simp only[Bool.and_eq_true,decide_eq_true_eq] at h
 exact h
theorem t_d(i j:Int)(h:v_C i j=true):0<j:=by
 unfold v_C at h
 simpa using h
theorem s_a(i j:Int)(h:w_s i j=true):x_O i j:=by
 unfold w_s at h
 simp only[Bool.and_eq_true,decide_eq_true_eq] at h
 exact⟨h.1.1,h.1.2,h.2⟩
noncomputable def gEq(neg:Bool):PyData->PyData->Option PyData:=fun x y=>if (SeqAt.shaped x&&SeqAt.shaped y)=true then some (.bool (PyData.eqv x y != neg)) else none
theorem q_J{neg:Bool}:F2 (fEq neg) (gEq neg):=fun x y d Q e q=>by
 unfold gEq at e
 split at e
 ·rename_i h
  cases e
  exact⟨(Bool.and_eq_true_iff.mp h).1,(Bool.and_eq_true_iff.mp h).2,q⟩
 ·cases e
@[simp] noncomputable def gIs:PyData->PyData->Option PyData:=fun x y=>match y with | .none=>some (.bool (isNone x)) | _=>none
@[simp] noncomputable def f_N:PyData->PyData->Option PyData:=fun x y=>match y with | .none=>some (.bool (!isNone x)) | _=>none
theorem u_b:F2 fIs gIs:=fun x y d Q e q=>by
 unfold gIs at e
 split at e
 ·cases e;exact⟨rfl,q⟩
 ·cases e
theorem m_c:F2 o_Z f_N:=fun x y d Q e q=>by
 unfold f_N at e
 split at e
 ·cases e;exact⟨rfl,q⟩
 ·cases e
@[simp] noncomputable def l_o:PyData->PyData->Option PyData:=fun x y=>match x,y with
 | .list ds,.list es=>if ds.length+es.length<=sizeLine then some (.list (ds++es)) else none
 | _,_=>none
@[simp] noncomputable def k_k:PyData->PyData->Option PyData:=fun x y=>match x,y with
 | .tuple ds,.tuple es=>if ds.length+es.length<=sizeLine then some (.tuple (ds++es)) else none
 | _,_=>none
theorem r_M:F2 r_H l_o:=fun x y d Q e q=>by
 unfold l_o at e
 split at e
 ·split at e
  ·rename_i h;cases e;exact⟨_,_,rfl,rfl,h,q⟩
  ·cases e
 ·cases e
theorem s_T:F2 s_j k_k:=fun x y d Q e q=>by
 unfold k_k at e
 split at e
 ·split at e
  ·rename_i h;cases e;exact⟨_,_,rfl,rfl,h,q⟩
  ·cases e
 ·cases e
@[simp] noncomputable def t_s:PyData->PyData->Option PyData:=fun x y=>match x,y with
 | .list ds,.int k=>if (decide (-(2 ^ 63)<=k)&&decide (k<2 ^ 63)&&decide (ds.length * k.toNat<=sizeLine))=true then some (.list (List.replicate k.toNat ds).flatten) else none
 | _,_=>none
theorem u_Y:F2 w_H t_s:=fun x y d Q e q=>by
 unfold t_s at e
 split at e
 ·split at e
  ·rename_i h
   cases e
   simp only[Bool.and_eq_true,decide_eq_true_eq] at h
   exact⟨_,_,rfl,rfl,⟨h.1.1,h.1.2,h.2⟩,q⟩
  ·cases e
 ·cases e
@[simp] noncomputable def t_G(a:XM PyData):XM PyData:=fun U=>(a U).bind fun d=>lift (match d with | .int i=>some (.int (-i)) | _=>none)
theorem k_f{ma:XM PyData}(ha:FE X F E a ma):FE X F E (.UnaryOp .USub a pos) (t_G ma):=(u_X ha).imp a_m fun U Q q=>a_m _ _ _ (fun d U1 q1=>by
 obtain⟨y,e1,q2⟩:=a_X q1
 cases d with
 | int i=>cases e1;exact⟨i,rfl,q2⟩
 | _=>cases e1) (a_w q)
@[simp] noncomputable def y_E(a:XM PyData):XM PyData:=fun U=>(a U).bind fun d=>lift (match d with | .bool b=>some (.bool (!b)) | _=>none)
theorem u_t{ma:XM PyData}(ha:FE X F E a ma):FE X F E (.UnaryOp .Not a pos) (y_E ma):=(w_b ha).imp a_m fun U Q q=>a_m _ _ _ (fun d U1 q1=>by
 obtain⟨y,e1,q2⟩:=a_X q1
 cases d with
 | bool b=>cases e1;exact⟨b,rfl,q2⟩
 | _=>cases e1) (a_w q)
@[simp] noncomputable def y_n(b:XM PyData)(d:PyData):XM PyData:=fun U1=>match d with
 | .bool true=>b U1
 | .bool false=>.ok (.bool false) U1
 | _=>.bad
@[simp] noncomputable def orK(b:XM PyData)(d:PyData):XM PyData:=fun U1=>match d with
 | .bool true=>.ok (.bool true) U1
 | .bool false=>b U1
 | _=>.bad
@[simp] noncomputable def k_e(a b:XM PyData):XM PyData:=fun U=>(a U).bind (y_n b)
@[simp] noncomputable def xOr(a b:XM PyData):XM PyData:=fun U=>(a U).bind (orK b)
theorem d_O{rest:List Expr}{ma mb:XM PyData}(ha:FE X F E a ma)(hb:FE X F E (.BoolOp .And (b::rest) pos) mb):FE X F E (.BoolOp .And (a::b::rest) pos) (k_e ma mb):=(v_2 ha hb).imp a_m fun U Q q=>a_m _ _ _ (fun d U1 q1=>by
 cases d with
 | bool b=>cases b with
  | true=>exact⟨true,rfl,i_V q1⟩
  | false=>exact⟨false,rfl,i_S q1⟩
 | _=>exact q1.elim) (a_w (k:=y_n mb) q)
theorem s_A{rest:List Expr}{ma mb:XM PyData}(ha:FE X F E a ma)(hb:FE X F E (.BoolOp .Or (b::rest) pos) mb):FE X F E (.BoolOp .Or (a::b::rest) pos) (xOr ma mb):=(w_9 ha hb).imp a_m fun U Q q=>a_m _ _ _ (fun d U1 q1=>by
 cases d with
 | bool b=>cases b with
  | true=>exact⟨true,rfl,i_V q1⟩
  | false=>exact⟨false,rfl,i_S q1⟩
 | _=>exact q1.elim) (a_w (k:=orK mb) q)
theorem e_c{op}{ma:XM PyData}(h:FE X F E a ma):FE X F E (.BoolOp op [a] pos) ma:=u_5 h
@[simp] noncomputable def p_m(p p':Int->Int->Bool)(a b c:XM PyData):XM PyData:=fun U=>(a U).bind fun x U1=>(b U1).bind fun y U2=>match x,y with
 | .int i,.int j=>if p i j=true then(c U2).bind (fun z=>lift (match z with | .int k=>some (.bool (p' j k)) | _=>none)) else .ok (.bool false) U2
 | _,_=>.bad
theorem p_S{p p':Int->Int->Bool}{ma mb mc:XM PyData}(h:DE X F e (n_L p p' (wp E ma) (wp E mb) (wp E mc))):FE X F E e (p_m p p' ma mb mc):=h.imp a_m fun U Q q=>by
 refine a_m _ _ _ (fun x U1 q1=>?_) (a_w q)
 refine a_m _ _ _ (fun y U2 q2=>?_) (a_w q1)
 unfold wp at q2
 cases x with
 | int i=>cases y with
  | int j=>
   refine⟨i,j,rfl,rfl,?_⟩
   by_cases hp:p i j=true
   ·simp only[if_pos hp] at q2
    rw[if_pos hp]
    refine a_m _ _ _ (fun z U3 q3=>?_) (a_w (m:=mc) (k:=fun z=>lift (match z with | .int k=>some (PyData.bool (p' j k)) | _=>none)) q2)
    obtain⟨d,e1,q4⟩:=a_X q3
    cases z with
    | int k=>cases e1;exact⟨k,rfl,q4⟩
    | _=>cases e1
   ·simp only[if_neg hp] at q2
    rw[if_neg hp]
    exact q2
  | _=>exact q2.elim
 | _=>exact q2.elim
@[simp] noncomputable def e_W(a:XM Bool):XM Bool:=fun U=>(a U).bind fun b U1=>.ok (!b) U1
theorem c_1{ma:XM Bool}(h:FB X F E a ma):FB X F E (.UnaryOp .Not a pos) (e_W ma):=(u_2 h).imp a_m fun U Q q=>a_m _ _ _ (fun d U1 q1=>q1) (a_w (k:=fun b U1=>.ok (!b) U1) q)
@[simp] noncomputable def n_E(a b:XM Bool):XM Bool:=fun U=>(a U).bind fun x U1=>if x=true then b U1 else .ok false U1
@[simp] noncomputable def s_k(a b:XM Bool):XM Bool:=fun U=>(a U).bind fun x U1=>if x=true then .ok true U1 else b U1
theorem i_6{ma:XM Bool}(h:FB X F E a ma):FW X F E (.BoolOp .And [a] pos) ma:=s_F h
theorem k_z{ma:XM Bool}(h:FB X F E a ma):FW X F E (.BoolOp .Or [a] pos) ma:=v_s h
theorem m_D{rest:List Expr}{ma mb:XM Bool}(ha:FB X F E a ma)(hb:FW X F E (.BoolOp .And (b::rest) pos) mb):FW X F E (.BoolOp .And (a::b::rest) pos) (n_E ma mb):=(u_0 ha hb).imp a_m fun U Q q=>a_m _ _ _ (fun d U1 q1=>by
 cases d with
 | true=>exact i_V q1
 | false=>exact i_S q1) (a_w (k:=fun x U1=>if x=true then mb U1 else .ok false U1) q)
theorem m_S{rest:List Expr}{ma mb:XM Bool}(ha:FB X F E a ma)(hb:FW X F E (.BoolOp .Or (b::rest) pos) mb):FW X F E (.BoolOp .Or (a::b::rest) pos) (s_k ma mb):=(w_S ha hb).imp a_m fun U Q q=>a_m _ _ _ (fun d U1 q1=>by
 cases d with
 | true=>exact i_V q1
 | false=>exact i_S q1) (a_w (k:=fun x U1=>if x=true then .ok true U1 else mb U1) q)
theorem q_i{ma:XM Bool}(h:FW X F E e ma):FB X F E e ma:=h.db
@[simp] noncomputable def xIf{α:Type}(t:XM Bool)(a b:XM α):XM α:=fun U=>(t U).bind fun x U1=>if x=true then a U1 else b U1
theorem m_Y{mt:XM Bool}{ma mb:XM PyData}(hc:FB X F E c mt)(ha:FE X F E a ma)(hb:FE X F E b mb):FE X F E (.IfExp c a b pos) (xIf mt ma mb):=(x_G hc ha hb).imp a_m fun U Q q=>a_m _ _ _ (fun d U1 q1=>by
 cases d with
 | true=>exact i_V q1
 | false=>exact i_S q1) (a_w (k:=fun x U1=>if x=true then ma U1 else mb U1) q)
@[simp] noncomputable def a_3:XM (List PyData):=fun U=>.ok [] U
@[simp] noncomputable def a_f(a:XM PyData)(r:XM (List PyData)):XM (List PyData):=fun U=>(a U).bind fun d U1=>(r U1).bind fun ds U2=>.ok (d::ds) U2
theorem a_n:FA X F E [] a_3:=u_P.imp a_m fun _ _ q=>q
theorem s_J{ma:XM PyData}{mr:XM (List PyData)}(ha:FE X F E e ma)(hr:FA X F E es mr)(hs:starEach (e::es) X.env=(false,eval e X.env)::starEach es X.env:=by rfl):FA X F E (e::es) (a_f ma mr):=(s_y ha hr hs).imp a_m fun U Q q=>
 a_m _ _ _ (fun d U1 q1=>a_m _ _ _ (fun ds U2 q2=>q2) (a_w (k:=fun ds U2=>.ok (d::ds) U2) q1)) (a_w (k:=fun d U1=>(mr U1).bind fun ds U2=>.ok (d::ds) U2) q)
@[simp] noncomputable def g_O(a:XM (List PyData)):XM PyData:=fun U=>(a U).bind fun ds=>lift (if ds.length<=sizeLine then some (.tuple ds) else none)
@[simp] noncomputable def h_A(a:XM (List PyData)):XM PyData:=fun U=>(a U).bind fun ds=>lift (if ds.length<=sizeLine then some (.list ds) else none)
theorem b_I{x1}{ma:XM (List PyData)}(h:FA X F E es ma):FE X F E (.Tuple es x1 pos) (g_O ma):=(t_Z h).imp a_m fun U Q q=>a_m _ _ _ (fun ds U1 q1=>by
 obtain⟨d,e1,q2⟩:=a_X q1
 split at e1
 ·rename_i h;cases e1;exact⟨h,q2⟩
 ·cases e1) (a_w q)
theorem d_E{ma:XM (List PyData)}(h:FA X F E es ma):FE X F E (.List es pos) (h_A ma):=(u_Z h).imp a_m fun U Q q=>a_m _ _ _ (fun ds U1 q1=>by
 obtain⟨d,e1,q2⟩:=a_X q1
 split at e1
 ·rename_i h;cases e1;exact⟨h,q2⟩
 ·cases e1) (a_w q)
@[simp] noncomputable def xCB(g:List PyData->Option PyData)(a:XM (List PyData)):XM PyData:=fun U=>(a U).bind fun ds=>lift (g ds)
noncomputable def FN(f:DN)(g:List PyData->Option PyData):Prop:=∀ds d Q,g ds=some d->Q d->f ds Q
theorem g_2{f:DN}{g:List PyData->Option PyData}{ma:XM (List PyData)}(hg:FN f g)(h:DE X F e (dCB f (wp E ma))):FE X F E e (xCB g ma):=h.imp a_m fun U Q q=>a_m _ _ _ (fun ds U1 q1=>by
 obtain⟨d,e1,q2⟩:=a_X q1
 exact hg ds d _ e1 q2) (a_w q)
end
section
variable{X:Cx}{F:Fx}{E:Str->a_q->Prop}{e a b c:Expr}{es:List Expr}{st:Stmt}{rest:List Stmt}{pos:Pos}{x:Str}
@[simp] noncomputable def k_9:List PyData->Option PyData:=fun xs=>match xs with
 | [.list ds]=>some (.int ds.length)
 | [.tuple ds]=>some (.int ds.length)
 | _=>none
theorem h_m:FN y_N k_9:=fun xs d Q e q=>by
 unfold k_9 at e
 split at e
 ·cases e;exact⟨_,.inl rfl,q⟩
 ·cases e;exact⟨_,.inr rfl,q⟩
 ·cases e
@[simp] noncomputable def w_q:List PyData->Option PyData:=fun xs=>match xs with
 | [.int i,.int j]=>some (.int (max i j))
 | _=>none
theorem q_R:FN y_h w_q:=fun xs d Q e q=>by
 unfold w_q at e
 split at e
 ·cases e;exact⟨_,_,rfl,q⟩
 ·cases e
noncomputable def ints?:List PyData->Option (List Int)
 | []=>some []
 | .int i::r=>(ints? r).map (i::·)
 | _::_=>none
noncomputable def bools?:List PyData->Option (List Bool)
 | []=>some []
 | .bool i::r=>(bools? r).map (i::·)
 | _::_=>none
theorem o_0:∀{ds:List PyData}{ns:List Int},ints? ds=some ns->ds=ns.map .int
 | [],_,e=>by cases e;rfl
 | d::r,ns,e=>by
  cases d with
  | int i=>
   cases q:ints? r with
   | none=>simp[ints?,q] at e
   | some l=>simp[ints?,q] at e;subst e;rw[o_0 q];rfl
  | _=>cases e
theorem i_8:∀{ds:List PyData}{ns:List Bool},bools? ds=some ns->ds=ns.map .bool
 | [],_,e=>by cases e;rfl
 | d::r,ns,e=>by
  cases d with
  | bool i=>
   cases q:bools? r with
   | none=>simp[bools?,q] at e
   | some l=>simp[bools?,q] at e;subst e;rw[i_8 q];rfl
  | _=>cases e
theorem ints_map(ns:List Int):ints? (ns.map .int)=some ns:=by
 induction ns with
 | nil=>rfl
 | cons i r ih=>simp[ints?,ih]
noncomputable def t_B:List PyData->Option PyData:=fun xs=>match xs with
 | [.list ds]=>(bools? ds).map fun bs=>.bool (bs.all id)
 | _=>none
theorem t_T:FN y_R t_B:=fun xs d Q e q=>by
 unfold t_B at e
 split at e
 ·obtain⟨bs,e1,e2⟩:=Option.map_eq_some_iff.mp e
  rw[i_8 e1]
  subst e2
  exact⟨bs,rfl,q⟩
 ·cases e
noncomputable def lmin:List Int->Option Int
 | []=>none
 | i::r=>some (r.foldl min i)
theorem n_R(r:List Int):∀i,r.foldl min i<=i/\(∀a∈r,r.foldl min i<=a)/\(r.foldl min i=i\/r.foldl min i∈r):=by
 induction r with
 | nil=>intro i;exact⟨Int.le_refl _,fun a h=>(by cases h),.inl rfl⟩
 | cons j r ih=>
  intro i
  obtain⟨h1,h2,h3⟩:=ih (min i j)
  refine⟨Int.le_trans h1 (Int.min_le_left _ _),fun a h=>?_,?_⟩
  ·rcases List.mem_cons.mp h with rfl | h
   ·exact Int.le_trans h1 (Int.min_le_right _ _)
   ·exact h2 a h
  ·rcases h3 with h3 | h3
   ·rw[List.foldl_cons,h3]
    rcases Int.le_total i j with q | q
    ·exact .inl (Int.min_eq_left q)
    ·exact .inr (by rw[Int.min_eq_right q];exact List.mem_cons_self)
   ·exact .inr (Qak _ h3)
noncomputable def p_c:List PyData->Option PyData:=fun xs=>match xs with
 | [.list ds]=>((ints? ds).bind lmin).map .int
 | _=>none
theorem r_B:∀ds d (Q:PyData->Prop),p_c ds=some d->Q d->∃ns:List Int,ds=[.list (ns.map .int)]/\ns≠[]/\∃M,d=.int M/\M∈ns/\(∀a∈ns,M<=a):=fun xs d Q e q=>by
 unfold p_c at e
 split at e
 ·obtain⟨M,e1,e2⟩:=Option.map_eq_some_iff.mp e
  obtain⟨ns,e3,e4⟩:=Option.bind_eq_some_iff.mp e1
  cases ns with
  | nil=>cases e4
  | cons i r=>
   cases e4
   obtain⟨h1,h2,h3⟩:=n_R r i
   refine⟨i::r,by rw[o_0 e3],by simp,_,e2.symm,?_,fun a h=>?_⟩
   ·rcases h3 with h3 | h3
    ·rw[h3];exact List.mem_cons_self
    ·exact Qak _ h3
   ·rcases List.mem_cons.mp h with rfl | h
    ·exact h1
    ·exact h2 a h
 ·cases e
theorem s_b:FN w_d p_c:=fun ds d Q e q=>by
 obtain⟨ns,h1,h2,M,h3,h4,h5⟩:=r_B ds d Q e q
 refine⟨ns,h1,h2,fun M' m1 m2=>?_⟩
 have:M' = M:=Int.le_antisymm (m2 M h4) (h5 M' m1)
 rw[this,<-h3];exact q
@[simp] noncomputable def p_F(i:Nat):XM PyData:=fun U=>match U[i]? with
 | some (some (.scr ns))=>if ns.length<=63 then .ok (.int ns.length) U else .bad
 | _=>.bad
@[simp] noncomputable def w_n(i:Nat)(a:XM PyData):XM PyData:=fun U=>match U[i]? with
 | some (some (.scr ns))=>(a U).bind fun d=>lift (match d with | .int k=>(atI ns k).map .int | _=>none)
 | _=>.bad
@[simp] noncomputable def x_z(i:Nat):XM Bool:=fun U=>match U[i]? with
 | some (some (.scr ns))=>.ok (decide (ns=[])) U
 | _=>.bad
theorem n_V{i:Nat}(h:DE X F e (v_V i)):FE X F E e (p_F i):=h.imp a_m fun U Q q=>by
 unfold wp p_F at q
 cases h:U[i]? with
 | none=>rw[h] at q;exact q.elim
 | some o=>
  rw[h] at q
  cases o with
  | none=>exact q.elim
  | some c=>
   cases c with
   | scr ns=>
    simp only at q
    by_cases hl:ns.length<=63
    ·rw[if_pos hl] at q;exact⟨ns,h,fun _=>q⟩
    ·rw[if_neg hl] at q;exact q.elim
   | _=>exact q.elim
theorem q_V{i:Nat}{ma:XM PyData}(h:DE X F e (y_e i (wp E ma))):FE X F E e (w_n i ma):=h.imp a_m fun U Q q=>by
 unfold wp w_n at q
 cases h:U[i]? with
 | none=>rw[h] at q;exact q.elim
 | some o=>
  rw[h] at q
  cases o with
  | none=>exact q.elim
  | some c=>
   cases c with
   | scr ns=>
    refine⟨ns,h,a_m _ _ _ (fun d U1 q1=>?_) (a_w (m:=ma) (k:=fun d=>lift (match d with | .int k=>(atI ns k).map PyData.int | _=>none)) q)⟩
    obtain⟨y,e1,q2⟩:=a_X q1
    cases d with
    | int k=>
     obtain⟨n,e2,e3⟩:=Option.map_eq_some_iff.mp e1
     subst e3
     exact⟨k,n,rfl,e2,q2⟩
    | _=>cases e1
   | _=>exact q.elim
theorem v_K{i:Nat}(h:DB X F e (x_9 i)):FB X F E e (x_z i):=h.imp a_m fun U Q q=>by
 unfold wp x_z at q
 cases h:U[i]? with
 | none=>rw[h] at q;exact q.elim
 | some o=>
  rw[h] at q
  cases o with
  | none=>exact q.elim
  | some c=>
   cases c with
   | scr ns=>exact⟨ns,h,q⟩
   | _=>exact q.elim
@[simp] noncomputable def gNm(i:Nat):GM:=fun d U=>some (U.set i (some (.dat d)))
theorem t_p{i:Nat}(h:DG X F e (gN i)):FG X F e (gNm i):=⟨fun d U Q Q' k q=>k _ q,h.pg.imp fun v Y H Q ⟨U,O,d,st,hd,q⟩=>⟨U,O,d,st,hd,q⟩⟩
noncomputable abbrev GMs:=List PyData->a_q->Option a_q
noncomputable def t_x(g:GMs):q_1:=fun d U Q=>match g d U with
 | some U'=>Q U'
 | none=>False
noncomputable abbrev FGs(X:Cx)(F:Fx)(tg:List Expr)(g:GMs):Prop:=DGs X F tg (t_x g)
@[simp] noncomputable def h_X:GMs:=fun ds U=>match ds with | []=>some U | _=>none
@[simp] noncomputable def b_N(t:GM)(u:GMs):GMs:=fun ds U=>match ds with | d::r=>(t d U).bind fun U'=>u r U' | []=>none
theorem u_r{g:GM}:∀d U (Q Q':a_q->Prop),(∀U',Q U'->Q' U')->wpG g d U Q->wpG g d U Q':=fun d U Q Q' k q=>by
 unfold wpG at q ⊢
 generalize g d U=o at q ⊢
 cases o with
 | some U'=>exact k _ q
 | none=>exact q
theorem o_Q{g:GMs}:∀d U (Q Q':a_q->Prop),(∀U',Q U'->Q' U')->t_x g d U Q->t_x g d U Q':=fun d U Q Q' k q=>by
 unfold t_x at q ⊢
 generalize g d U=o at q ⊢
 cases o with
 | some U'=>exact k _ q
 | none=>exact q
theorem j_U:FGs X F [] h_X:=⟨o_Q,s_f.pg.imp fun v Y H Q ⟨U,O,d,st,hd,q⟩=>⟨U,O,d,st,hd,by
 unfold t_x h_X at q
 cases d with
 | nil=>exact⟨rfl,q⟩
 | cons _ _=>exact q.elim⟩⟩
theorem d_S{g:GM}{gs:GMs}(h1:FG X F e g)(h2:FGs X F es gs)(hs:(assignEach (e::es) X.env).map (·.2)=assign e X.env::(assignEach es X.env).map (·.2):=by rfl):FGs X F (e::es) (b_N g gs):=⟨o_Q,(p_Z h1 h2 hs).pg.imp fun v Y H Q ⟨U,O,d,st,hd,q⟩=>⟨U,O,d,st,hd,by
 unfold t_x b_N at q
 cases d with
 | nil=>exact q.elim
 | cons d r=>
  refine⟨d,r,rfl,?_⟩
  unfold wpG
  simp only at q
  cases hg:g d U with
  | none=>rw[hg] at q;exact q
  | some U'=>rw[hg] at q;exact q⟩⟩
@[simp] noncomputable def h_s(n:Nat)(t:GMs):GM:=fun d U=>match d with | .tuple ds=>if ds.length=n then t ds U else none | _=>none
theorem m_y{k n:Nat}{gs:GMs}(hc:X.calm=true)(h:FGs X F es gs)(hn:(assignEach es X.env).length=n:=by rfl)(hst:(assignEach es X.env).findIdx? (·.1)=none:=by rfl):FG X F (.Tuple es k pos) (h_s n gs):=⟨u_r,(v_q hc h hn hst).pg.imp fun v Y H Q ⟨U,O,d,st,hd,q⟩=>⟨U,O,d,st,hd,by
 unfold wpG h_s at q
 cases d with
 | tuple ds=>
  simp only at q
  by_cases hl:ds.length=n
  ·rw[if_pos hl] at q;exact⟨ds,rfl,hl,q⟩
  ·rw[if_neg hl] at q;exact q.elim
 | _=>exact q.elim⟩⟩
@[simp] noncomputable def a_Q:XM (List AX):=fun U=>.ok [] U
@[simp] noncomputable def a_p(a:XM PyData)(r:XM (List AX)):XM (List AX):=fun U=>(a U).bind fun d U1=>(r U1).bind fun as U2=>.ok (.d d::as) U2
@[simp] noncomputable def a_B(j:Nat)(r:XM (List AX)):XM (List AX):=fun U=>match U[j]? with
 | some (some _)=>(r U).bind fun as U2=>.ok (.s j::as) U2
 | _=>.bad
theorem a_g:FX X F E [] a_Q:=u_U.imp a_m fun _ _ q=>q
theorem u_G{ma:XM PyData}{mr:XM (List AX)}(ha:FE X F E e ma)(hr:FX X F E es mr)(hs:starEach (e::es) X.env=(false,eval e X.env)::starEach es X.env:=by rfl):FX X F E (e::es) (a_p ma mr):=(u_R ha hr hs).imp a_m fun U Q q=>
 a_m _ _ _ (fun d U1 q1=>a_m _ _ _ (fun ds U2 q2=>q2) (a_w (k:=fun as U2=>Out.ok (AX.d d::as) U2) q1)) (a_w (m:=ma) (k:=fun d U1=>(mr U1).bind fun as U2=>Out.ok (AX.d d::as) U2) q)
theorem s_9{p:Pos}{j:Nat}{mr:XM (List AX)}(hv:PE X (.Name x p) (f_r j))(hr:FX X F E es mr)(hs:starEach (.Name x p::es) X.env=(false,eval (.Name x p) X.env)::starEach es X.env:=by rfl):FX X F E (.Name x p::es) (a_B j mr):=(s_3 hv hr hs).imp a_m fun U Q q=>by
 unfold wp a_B at q
 cases h:U[j]? with
 | none=>rw[h] at q;exact q.elim
 | some o=>
  rw[h] at q
  cases o with
  | none=>exact q.elim
  | some c=>exact⟨⟨c,h⟩,a_m _ _ _ (fun as U2 q2=>q2) (a_w (m:=mr) (k:=fun as U2=>Out.ok (AX.s j::as) U2) (show wp E (fun U=>(mr U).bind fun as U2=>Out.ok (AX.s j::as) U2) U Q from q))⟩
@[simp] noncomputable def k_6(f:FM)(as:List AX):XM Cell:=fun U=>match c_o U as with
 | some (cs,js)=>(match f cs with
  | .rt c outs=>.ok c (back js outs (clr js U))
  | .ex c outs=>.ex c (back js outs (clr js U))
  | .bad=>.bad)
 | none=>.bad
@[simp] noncomputable def a_o(f:FM)(a:XM (List AX)):XM Cell:=fun U=>(a U).bind (k_6 f)
theorem s_x{g:FM}{ma:XM (List AX)}(h:DO X F e (v_g g E (wp E ma))):FO X F E e (a_o g ma):=h.imp a_m fun U Q q=>a_m _ _ _ (fun as U1 q1=>by
 unfold wp k_6 at q1
 unfold f_s
 cases ha:c_o U1 as with
 | none=>rw[ha] at q1;exact q1
 | some p=>
  obtain⟨cs,js⟩:=p
  rw[ha] at q1
  simp only at q1 ⊢
  cases hf:g cs with
  | rt c outs=>rw[hf] at q1;exact q1
  | ex c outs=>rw[hf] at q1;exact q1
  | bad=>rw[hf] at q1;exact q1) (a_w (k:=k_6 g) q)
@[simp] noncomputable def b_b(a:XM Cell):XM PyData:=fun U=>(a U).bind fun c=>lift (frz c)
theorem a_k{ma:XM Cell}(h:FO X F E e ma):FE X F E e (b_b ma):=h.de.imp a_m fun U Q q=>a_m _ _ _ (fun c U1 q1=>a_X q1) (a_w q)
@[simp] noncomputable def sNx:SM:=fun U=>.nx U
@[simp] noncomputable def a_h(m k:SM):SM:=fun U=>match m U with
 | .nx U'=>k U'
 | o=>o
theorem a_x:FSs X F E [] sNx:=r_S.imp fun _ _ q=>q
theorem a_a{m k:SM}(h1:FS X F E st m)(h2:FSs X F E rest k):FSs X F E (st::rest) (a_h m k):=(q_a h1 h2).imp fun D U q=>by
 show wpS E m _ U
 unfold wpS a_h at q
 unfold wpS
 generalize m U=o at q ⊢
 cases o with
 | nx U'=>exact q
 | _=>exact q
theorem a_c{m:SM}(h:FS X F E st m):FSs X F E [st] m:=s_V h
@[simp] noncomputable def ofX{α:Type}(o:Out α)(k:α->a_q->OutS):OutS:=match o with
 | .ok a U=>k a U
 | .ex c U=>.ex c U
 | .bad=>.bad
theorem c_q{α:Type}{m:XM α}{k:α->SM}{D:DEnds}{U:a_q}(q:wpS E (fun U=>ofX (m U) k) D U):wp E m U fun a U'=>wpS E (k a) D U':=by
 unfold wpS ofX at q
 unfold wp
 simp only at q
 generalize m U=o at q ⊢
 cases o with
 | ok a U'=>exact q
 | ex c U'=>exact q
 | bad=>exact q
@[simp] noncomputable def x_Q(o:Option a_q):OutS:=match o with
 | some U=>.nx U
 | none=>.bad
@[simp] noncomputable def c_Z(m:XM PyData)(g:GM):SM:=fun U=>ofX (m U) fun d U1=>x_Q (g d U1)
theorem m_t{m:XM PyData}{g:GM}{D:DEnds}{U:a_q}(q:wpS E (c_Z m g) D U):w_p (wp E m) (wpG g) D U:=a_m _ _ _ (fun d U1 q1=>by
 unfold wpS x_Q at q1
 unfold wpG
 simp only at q1
 generalize g d U1=o at q1 ⊢
 cases o with
 | some U'=>exact q1
 | none=>exact q1) (c_q (k:=fun d U1=>x_Q (g d U1)) q)
theorem v_i{tgt:Expr}{m:XM PyData}{g:GM}(he:FE X F E e m)(hg:FG X F tgt g)(hs:swapsWithSole [tgt] e pos.line X.env=pure false:=by rfl)(hw:swappedStores [tgt] e X.env=pure none:=by rfl)
  (h1:(assignEach [tgt] X.env).map (·.2)=[assign tgt X.env]:=by rfl):FS X F E (.Assign [tgt] e pos) (c_Z m g):=(u_J he hg hs hw h1).imp fun D U q=>m_t q
theorem a_E{i:Nat}{pos':Pos}{m:XM PyData}(hN:X.N.Nodup)(hi:X.N[i]? = some x)(hx:Loc X.env.scope x)(he:FE X F E e m)(hs:swapsWith e (some (.Name x pos')) pos.line X.env=pure false:=by rfl)
  (hf:X.fn x=true\/X.env.scope.names.lookup x=some .local:=by first | exact .inl rfl | exact .inr rfl | assumption):FS X F E (.Assign [.Name x pos'] e pos) (c_Z m (gNm i)):=(u_p hN hi hx he hs hf).imp fun D U q=>m_t q
@[simp] noncomputable def x_B(i:Nat)(c:Cell):SM:=fun U1=>if i<U1.length then(match c with | .own true _=>.bad | c=>.nx (U1.set i (some c))) else .bad
@[simp] noncomputable def l_q(i:Nat)(m:XM Cell):SM:=fun U=>ofX (m U) (x_B i)
theorem j_a{i:Nat}{pos':Pos}{m:XM Cell}(hN:X.N.Nodup)(hi:X.N[i]? = some x)(hx:Loc X.env.scope x)(he:FO X F E e m)(hs:swapsWith e (some (.Name x pos')) pos.line X.env=pure false:=by rfl)
  (hf:X.fn x=true\/X.env.scope.names.lookup x=some .local:=by first | exact .inl rfl | exact .inr rfl | assumption):FS X F E (.Assign [.Name x pos'] e pos) (l_q i m):=(s_g hN hi hx he hs hf).imp fun D U q=>a_m _ _ _ (fun c U1 q1=>by
 unfold wpS x_B at q1
 by_cases hl:i<U1.length
 ·simp only[if_pos hl] at q1
  cases c with
  | own io b=>cases io with
   | true=>exact q1.elim
   | false=>exact⟨hl,(fun _ z=>by cases z),q1⟩
  | dat d=>exact⟨hl,(fun _ z=>by cases z),q1⟩
  | scr d=>exact⟨hl,(fun _ z=>by cases z),q1⟩
  | exc d=>exact⟨hl,(fun _ z=>by cases z),q1⟩
  | vw d=>exact⟨hl,(fun _ z=>by cases z),q1⟩
 ·simp only[if_neg hl] at q1) (c_q (k:=x_B i) q)
@[simp] noncomputable def a_O(m:XM PyData):SM:=fun U=>ofX (m U) fun d U1=>.rt (.dat d) U1
@[simp] noncomputable def e_v(m:XM Cell):SM:=fun U=>ofX (m U) fun c U1=>.rt c U1
@[simp] noncomputable def m_p(m:XM Cell):SM:=fun U=>ofX (m U) fun _ U1=>.nx U1
theorem a_z{m:XM PyData}(he:FE X F E e m):FS X F E (.Return (some e) pos) (a_O m):=(r_k he).imp fun D U q=>a_m _ _ _ (fun c U1 q1=>q1) (c_q (k:=fun d U1=>.rt (.dat d) U1) q)
theorem b_g{m:XM Cell}(he:FO X F E e m):FS X F E (.Return (some e) pos) (e_v m):=(t_a he).imp fun D U q=>a_m _ _ _ (fun c U1 q1=>q1) (c_q (k:=fun d U1=>.rt d U1) q)
theorem b_1{m:XM Cell}(he:FO X F E e m)(hs:swapsWith e none pos.line X.env=pure false:=by rfl):FS X F E (.Expr e pos) (m_p m):=(q_p he hs).imp fun D U q=>a_m _ _ _ (fun c U1 q1=>q1) (c_q (k:=fun _ U1=>.nx U1) q)
@[simp] noncomputable def sMv(i:Nat):SM:=fun U=>match U[i]? with
 | some (some (.own false b))=>.rt (.own false b) (U.set i none)
 | some (some (.dat d))=>.rt (.dat d) U
 | _=>.bad
@[simp] noncomputable def e_r(t:XM Bool)(a b:SM):SM:=fun U=>ofX (t U) fun x U1=>if x=true then a U1 else b U1
theorem b_c{cnd:Expr}{sa sb:List Stmt}{mt:XM Bool}{ma mb:SM}(hc:FB X F E cnd mt)(ha:FSs X F E sa ma)(hb:FSs X F E sb mb):FS X F E (.If cnd sa sb pos) (e_r mt ma mb):=(x_2 hc ha hb).imp fun D U q=>a_m _ _ _ (fun x U1 q1=>by
 cases x with
 | true=>exact i_V q1
 | false=>exact i_S q1) (c_q (k:=fun x U1=>if x=true then ma U1 else mb U1) q)
end
noncomputable def c_a(d n:String):Option Bool:=if d=n then some true else
 if d="bool"/\n="int" then some true else
 if (d="int"\/d="bool"\/d="str"\/d="list"\/d="tuple"\/d="NoneType")/\(n="int"\/n="bool"\/n="str"\/n="list"\/n="tuple") then some false else none
theorem s_R{d n:String}{b:Bool}(h:c_a d n=some b)(K:Frag):kitOne K (.type d) (.type n)=some b:=by
 unfold c_a at h
 split at h
 ·rename_i e;cases h;subst e;unfold kitOne;rw[if_pos (by simp)]
 ·split at h
  ·rename_i e;cases h;obtain⟨rfl,rfl⟩:=e;rfl
  ·rename_i n1 n2
   split at h
   ·rename_i e
    cases h
    obtain⟨e1,e2⟩:=e
    rcases e1 with rfl | rfl | rfl | rfl | rfl | rfl<;>rcases e2 with rfl | rfl | rfl | rfl | rfl<;>first | rfl | (exact absurd rfl n1) | (exact absurd ⟨rfl,rfl⟩ n2)
   ·cases h
@[simp] noncomputable def xIs(n:String)(a:XM PyData):XM PyData:=fun U=>(a U).bind fun d=>lift ((c_a (s_B d) n).map .bool)
section
variable{X:Cx}{F:Fx}{E:Str->a_q->Prop}{e a b c:Expr}{es:List Expr}{st:Stmt}{rest:List Stmt}{pos:Pos}{x:Str}
theorem i_y{n:String}{ma:XM PyData}(h:DE X F e (y_j n (wp E ma))):FE X F E e (xIs n ma):=h.imp a_m fun U Q q=>a_m _ _ _ (fun d U1 q1=>by
 obtain⟨y,e1,q2⟩:=a_X q1
 obtain⟨b,e2,e3⟩:=Option.map_eq_some_iff.mp e1
 subst e3
 exact⟨b,s_R e2,q2⟩) (a_w q)
theorem x_R{i:Nat}{p1:Pos}(hv:PE X (.Name x p1) (f_r i)):FS X F E (.Return (some (.Name x p1)) pos) (sMv i):=fun pins s Y H D I ⟨U,O,DD,stt,q,f⟩=>by
 unfold wpS sMv at q
 cases h:U[i]? with
 | none=>rw[h] at q;exact q.elim
 | some o=>
  rw[h] at q
  cases o with
  | none=>exact q.elim
  | some c=>
   cases c with
   | own io b=>cases io with
    | true=>exact q.elim
    | false=>exact p_Y hv pins s Y H D I ⟨U,O,DD,stt,⟨b,h,q⟩,f⟩
   | dat d=>exact r_k (r_b i hv) pins s Y H D I ⟨U,O,DD,stt,.inl ⟨d,h,q⟩,f⟩
   | scr n=>exact q.elim
   | exc n=>exact q.elim
   | vw n=>exact q.elim
noncomputable def b_8(g:GM)(b:SM):List PyData->SM
 | [],U=>.nx U
 | d::r,U=>(match g d U with
  | some U1=>(match b U1 with
   | .nx U2=>b_8 g b r U2
   | .ct U2=>b_8 g b r U2
   | .bk U2=>.nx U2
   | o=>o)
  | none=>.bad)
@[simp] noncomputable def h_q(s:XM (List PyData))(g:GM)(b:SM):SM:=fun U=>ofX (s U) (b_8 g b)
theorem g_G{tg iter:Expr}{body:List Stmt}{s:XM (List PyData)}{g:GM}{mb:SM}(hp:PassesOwn (model X.prog X.w) X.A X.env X.xe)(hc:X.calm=true)(hi:FI X F E tg iter s)(hg:FG X F tg g)(hb:FSs X F E body mb)(hs:∀x,foldedSetIterable iter X.env x=pure x:=by intro _;rfl):FS X F E (.For tg iter body [] pos) (h_q s g mb):=
 (v_G hp hc hi hg hb hs).imp fun D U q=>a_m _ _ _ (fun its U1 q1=>by
  refine⟨fun i U=>wpS E (b_8 g mb (its.drop i)) D U,q1,fun i d U hd hi=>?_,fun U h=>?_⟩
  ·have e:its.drop i=d::its.drop (i+1):=by
    obtain⟨hlt,he⟩:=List.getElem?_eq_some_iff.mp hd
    rw[<-he]
    exact List.drop_eq_getElem_cons hlt
   simp only[e] at hi
   unfold wpS b_8 at hi
   unfold wpG
   generalize g d U=o at hi ⊢
   cases o with
   | none=>exact hi
   | some U1=>
    show wpS E mb _ U1
    simp only at hi
    unfold wpS
    generalize mb U1=o2 at hi ⊢
    cases o2 with
    | nx U2=>exact hi
    | ct U2=>exact hi
    | bk U2=>exact hi
    | rt c U2=>exact hi
    | ex c U2=>exact hi
    | bad=>exact hi
  ·simp only[List.drop_length] at h
   exact h) (c_q (k:=b_8 g mb) q)
noncomputable def b_H(c:XM Bool)(b:SM):Nat->SM
 | 0,_=>.bad
 | n+1,U=>ofX (c U) fun t U1=>if t=true then(match b U1 with
   | .nx U2=>b_H c b n U2
   | .ct U2=>b_H c b n U2
   | .bk U2=>.nx U2
   | o=>o) else .nx U1
theorem least{p:Nat->Prop}:(∃k,p k)->∃k,p k/\∀j,p j->k<=j:=by
 rintro⟨k,hk⟩
 induction k using Nat.strongRecOn with
 | _ k ih=>
  by_cases h:∃j,j<k/\p j
  ·obtain⟨j,h1,h2⟩:=h
   exact ih j h1 h2
  ·exact⟨k,hk,fun j hj=>Nat.le_of_not_lt fun z=>h ⟨j,z,hj⟩⟩
theorem j_w{cnd:Expr}{body:List Stmt}{mc:XM Bool}{mb:SM}{n:Nat}(hp:PassesOwn (model X.prog X.w) X.A X.env X.xe)(hc:FB X F E cnd mc)(hb:FSs X F E body mb):FS X F E (.While cnd body [] pos) (b_H mc mb n):=
 (p_x hp hc hb).imp fun D U q=>by
  classical
  let ok:Nat->a_q->Prop:=fun k U=>wpS E (b_H mc mb k) D U
  let Iv:a_q->Prop:=fun U=>∃k,ok k U
  let μ:a_q->Nat:=fun U=>if h:Iv U then(least h).choose else 0
  have μs:∀U,Iv U->ok (μ U) U/\∀j,ok j U->μ U<=j:=fun U h=>by
   rw[show μ U=(least h).choose from dif_pos h]
   exact(least h).choose_spec
  refine⟨Iv,μ,⟨n,q⟩,fun U hI=>?_⟩
  have h1:ok (μ U) U:=(μs U hI).1
  cases hk:μ U with
  | zero=>rw[hk] at h1;exact h1.elim
  | succ k=>
   rw[hk] at h1
   have less:∀U2,ok k U2->Iv U2/\μ U2<k+1:=fun U2 h2=>⟨⟨k,h2⟩,Nat.lt_succ_of_le ((μs U2 ⟨k,h2⟩).2 k h2)⟩
   refine a_m _ _ _ (fun t U1 q1=>?_) (c_q (m:=mc) (k:=fun t U1=>if t=true then(match mb U1 with | .nx U2=>b_H mc mb k U2 | .ct U2=>b_H mc mb k U2 | .bk U2=>.nx U2 | o=>o) else .nx U1) h1)
   cases t with
   | false=>exact i_S q1
   | true=>
    refine i_V ?_
    unfold wpS at q1 ⊢
    simp only[if_true] at q1
    generalize mb U1=o2 at q1 ⊢
    cases o2 with
    | nx U2=>exact less U2 q1
    | ct U2=>exact less U2 q1
    | bk U2=>exact q1
    | rt c U2=>exact q1
    | ex c U2=>exact q1
    | bad=>exact q1
@[simp] noncomputable def iLs(a:XM PyData):XM (List PyData):=fun U=>(a U).bind fun d=>lift (match d with | .list ds=>some ds | _=>none)
@[simp] noncomputable def iTs(a:XM PyData):XM (List PyData):=fun U=>(a U).bind fun d=>lift (match d with | .tuple ds=>some ds | _=>none)
theorem DI.imp{tg iter:Expr}{t t':DTI}(h:DI X F tg iter t)(mn:∀U Q Q',(∀d U',Q d U'->Q' d U')->t' U Q->t' U Q')(k:∀U Q,t' U Q->t U Q):DI X F tg iter t':=⟨mn,h.pi.imp fun Y H Q ⟨U,O,st,q⟩=>⟨U,O,st,k U _ q⟩⟩
theorem j_k{tg:Expr}{ma:XM PyData}(h:FE X F E e ma):FI X F E tg e (iLs ma):=(t_h h).imp a_m fun U Q q=>a_m _ _ _ (fun d U1 q1=>by
 obtain⟨y,e1,q2⟩:=a_X q1
 cases d with
 | list ds=>cases e1;exact⟨_,rfl,q2⟩
 | _=>cases e1) (a_w q)
theorem h_T{tg:Expr}{ma:XM PyData}(h:FE X F E e ma):FI X F E tg e (iTs ma):=(v_8 h).imp a_m fun U Q q=>a_m _ _ _ (fun d U1 q1=>by
 obtain⟨y,e1,q2⟩:=a_X q1
 cases d with
 | tuple ds=>cases e1;exact⟨_,rfl,q2⟩
 | _=>cases e1) (a_w q)
@[simp] noncomputable def iLf(g:List PyData->Option (List PyData))(a:XM (List PyData)):XM (List PyData):=fun U=>(a U).bind fun ds=>lift (g ds)
@[simp] noncomputable def rng1:List PyData->Option (List PyData):=fun xs=>match xs with
 | [.int j]=>if (decide (-(2 ^ 62)<=j)&&decide (j<2 ^ 62))=true then some (intsFrom 0 j.toNat) else none
 | _=>none
theorem e_A{tg:Expr}{ma:XM (List PyData)}(h:DI X F tg e (iR1 (wp E ma))):FI X F E tg e (iLf rng1 ma):=h.imp a_m fun U Q q=>a_m _ _ _ (fun ds U1 q1=>by
 obtain⟨y,e1,q2⟩:=a_X q1
 unfold rng1 at e1
 split at e1
 ·split at e1
  ·rename_i h;cases e1;simp only[Bool.and_eq_true,decide_eq_true_eq] at h;exact⟨_,rfl,h.1,h.2,q2⟩
  ·cases e1
 ·cases e1) (a_w q)
noncomputable def a_V(g:GM)(t:XM Bool)(m:XM PyData):List PyData->List PyData->a_q->Option (List PyData)
 | [],ys,_=>some ys
 | d::r,ys,U=>(match g d U with
  | some U1=>(match t U1 with
   | .ok true U2=>(match m U2 with
    | .ok y U3=>if ys.length<sizeLine then a_V g t m r (ys++[y]) U3 else none
    | _=>none)
   | .ok false U2=>a_V g t m r ys U2
   | _=>none)
  | none=>none)
@[simp] noncomputable def j_d(own:Nat)(caps:List Nat)(U:a_q):a_q:=List.replicate own none++caps.map fun j=>w_A U[j]?
@[simp] noncomputable def v_z(own:Nat)(caps:List Nat)(g:GM)(t:XM Bool)(m:XM PyData)(its:List PyData):XM PyData:=fun U1=>lift ((a_V g t m its [] (j_d own caps U1)).bind fun ys=>if ys.length<=sizeLine then some (.list ys) else none) U1
@[simp] noncomputable def i_k(own:Nat)(caps:List Nat)(s:XM (List PyData))(g:GM)(t:XM Bool)(m:XM PyData):XM PyData:=fun U=>(s U).bind (v_z own caps g t m)
noncomputable abbrev E0':Str->a_q->Prop:=fun _ _=>False
theorem o_c{own:List Str}{caps:List Nat}{s:XM (List PyData)}{g:GM}{t:XM Bool}{m:XM PyData}{U:a_q}{Q:PyData->a_q->Prop}(q:wp E (i_k own.length caps s g t m) U Q):u_9 own caps (wp E s) (wpG g) (wp E0' t) (wp E0' m) U Q:=a_m _ _ _ (fun its U1 q1=>by
 obtain⟨y,e1,q2⟩:=a_X (o:=(a_V g t m its [] (j_d own.length caps U1)).bind fun ys=>if ys.length<=sizeLine then some (PyData.list ys) else none) (U:=U1) (E:=E) (Q:=Q) q1
 obtain⟨ys0,e2,e3⟩:=Option.bind_eq_some_iff.mp e1
 have hl:ys0.length<=sizeLine/\y=.list ys0:=by
  split at e3
  ·rename_i h;cases e3;exact⟨h,rfl⟩
  ·cases e3
 have eL:c_p own caps U1=j_d own.length caps U1:=by
  unfold c_p j_d
  rw[List.map_const']
 refine⟨fun i ys U=>a_V g t m (its.drop i) ys U=some ys0,by rw[eL];exact e2,fun i d ys U hd hi=>?_,fun ys U h=>?_⟩
 ·have e:its.drop i=d::its.drop (i+1):=by
   obtain⟨hlt,he⟩:=List.getElem?_eq_some_iff.mp hd
   rw[<-he]
   exact List.drop_eq_getElem_cons hlt
  simp only[e] at hi
  unfold a_V at hi
  unfold wpG
  cases hg:g d U with
  | none=>rw[hg] at hi;cases hi
  | some U2=>
   rw[hg] at hi
   simp only at hi ⊢
   unfold wp
   cases ht:t U2 with
   | ex c U3=>rw[ht] at hi;cases hi
   | bad=>rw[ht] at hi;cases hi
   | ok b U3=>
    rw[ht] at hi
    cases b with
    | false=>exact i_S hi
    | true=>
     refine i_V ?_
     simp only at hi ⊢
     cases hm:m U3 with
     | ex c U4=>rw[hm] at hi;cases hi
     | bad=>rw[hm] at hi;cases hi
     | ok y' U4=>
      rw[hm] at hi
      simp only at hi ⊢
      split at hi
      ·rename_i h;exact⟨h,hi⟩
      ·cases hi
 ·simp only[List.drop_length] at h
  have:ys=ys0:=by unfold a_V at h;exact Option.some.inj h
  subst this
  rw[hl.2] at q2
  exact⟨hl.1,q2⟩) (a_w (k:=v_z own.length caps g t m) q)
noncomputable abbrev FBs(X:Cx)(F:Fx)(E:Str->a_q->Prop)(ifs:List Expr)(m:XM Bool):Prop:=DBs X F ifs (wp E m)
noncomputable def e_u:XM Bool:=fun U=>.ok true U
theorem f_4:FBs X F E [] e_u:=⟨a_m,fun pins s Y H Q I ⟨U,O,st,q⟩=>s_W.2 pins s Y H Q I ⟨U,O,st,q⟩⟩
theorem l_a{ma:XM Bool}(h:FB X F E c ma):FBs X F E [c] ma:=s_n h
theorem h_Y{scope:Scope}{own capN:List Str}{caps:List Nat}{tg iter elt:Expr}{ifs:List Expr}{s:XM (List PyData)}{g:GM}{t:XM Bool}{m:XM PyData}{n:Nat}(hG:GF X.mg F)(S:CompScope X scope own capN caps)(hc:X.calm=true)(hn:own.length=n)(hi:FI X F E tg iter s)
  (hin:∀C fp s₂ H₂ pl F',GF X.mg F'->FG (a_G X scope (own++capN) C fp s₂ H₂ pl) F' tg g/\FBs (a_G X scope (own++capN) C fp s₂ H₂ pl) F' E0' ifs t/\FE (a_G X scope (own++capN) C fp s₂ H₂ pl) F' E0' elt m)
  (hs:∀x,foldedSetIterable iter X.env x=pure x:=by intro _;rfl):FE X F E (.ListComp elt [⟨tg,iter,ifs,0⟩] scope pos) (i_k n caps s g t m):=by
 subst hn
 exact(s_0 hG S hc hi hin hs).imp a_m fun U Q q=>o_c q
theorem i_J{scope:Scope}{own capN:List Str}{caps:List Nat}{tg iter elt:Expr}{ifs:List Expr}{s:XM (List PyData)}{g:GM}{t:XM Bool}{m:XM PyData}{n i:Nat}{y:Str}{py spos:Pos}(hN:X.N.Nodup)(hi':X.N[i]? = some y)(hx:Loc X.env.scope y)(hG:GF X.mg F)(S:CompScope X scope own capN caps)(hc:X.calm=true)(hn:own.length=n)(hi:FI X F E tg iter s)
  (hin:∀C fp s₂ H₂ pl F',GF X.mg F'->FG (a_G X scope (own++capN) C fp s₂ H₂ pl) F' tg g/\FBs (a_G X scope (own++capN) C fp s₂ H₂ pl) F' E0' ifs t/\FE (a_G X scope (own++capN) C fp s₂ H₂ pl) F' E0' elt m)
  (hsw:swapsWith (.ListComp elt [⟨tg,iter,ifs,0⟩] scope pos) (some (.Name y py)) spos.line X.env=pure true:=by rfl)
  (hs:∀x,foldedSetIterable iter X.env x=pure x:=by intro _;rfl) (hf:X.fn y=true\/X.env.scope.names.lookup y=some .local:=by first | exact .inl rfl | exact .inr rfl | assumption) :
  FS X F E (.Assign [.Name y py] (.ListComp elt [⟨tg,iter,ifs,0⟩] scope pos) spos) (c_Z (i_k n caps s g t m) (gNm i)):=by
 subst hn
 exact(n_i hN hi' hx hG S hc hi hin hsw hs hf).imp fun D U q=>by
  have q':=m_t q
  exact p_d (s:=wp E s) a_m U _ _ (fun d U' h=>h) (o_c (Q:=fun d U'=>wpG (gNm i) d U' D.nx) q')
end
section
variable{K:Frag}{F:Fx}{H H':Hp}{Y:St}{U:a_q}{O O':List Addr}
theorem DSt.fresh(st:DSt K F H Y U O){p:Addr}{o:HO}(hp:H p=none)(ho:Mv o):∃O',DSt K (F.plus [p]) (upd H p o) Y U O'/\Stp O H O' (upd H p o):=by
 obtain⟨O',h1,h2,_⟩:=DSt.swap (L:=[]) (L':=[p]) (H':=upd H p o) (F:=F) st (fun b u _ e=>a_l hp b u e) (by simp) (fun a h=>.inr (by obtain rfl:=List.mem_singleton.mp h;exact hp)) (fun a h=>by cases h) (fun a h=>by obtain rfl:=List.mem_singleton.mp h;exact⟨o,a_A,ho⟩)
 exact⟨O',h1,h2⟩
theorem DSt.new1(st:DSt K F H Y U O){p:Addr}(hp:H p=none):∀a∈[p],a∈F.A₀\/F.H₀ a=none:=fun a h=>by
 obtain rfl:=List.mem_singleton.mp h
 by_cases hA:a∈F.A₀
 ·exact .inl hA
 ·refine .inr ?_
  cases e:F.H₀ a with
  | none=>rfl
  | some o=>obtain⟨W,h,_⟩:=st;have:=h.kept a o hA e;rw[hp] at this;cases this
end
section
variable{X:Cx}{F:Fx}{E:Str->a_q->Prop}{e a b c:Expr}{es:List Expr}{st:Stmt}{rest:List Stmt}{pos:Pos}{x:Str}
noncomputable def x_F(t:DTA):DTO:=fun U Q=>t U fun ds U'=>ds.length<=sizeLine/\Q (.own false (.l ds)) U'
theorem v_y{tA:DTA}(h:DA X F es tA):DO X F (.List es pos) (x_F tA):=
 ⟨fun _ _ _ k q=>h.mn _ _ _ (fun _ _ q1=>⟨q1.1,k _ _ q1.2⟩) q,(m_u h.pa).imp fun Y H Q ⟨U,O,st,q⟩=>
  ⟨U,O,st,h.mn _ _ _ (fun ds U1 q1 vs H1 O1 st1 s1 d1=>⟨by rw[d1.length];exact q1.1,fun p hp=>by
   obtain⟨O2,st2,s2⟩:=st1.fresh (o:=.lst vs) hp trivial
   exact q1.2 _ _ O2 [p] ⟨st2,⟨p,rfl,rfl,vs,a_A,DVs.mono s2.hid d1⟩,st1.new1 hp⟩ (s1.trans s2)⟩) q⟩⟩
@[simp] noncomputable def l_g(a:XM (List PyData)):XM Cell:=fun U=>(a U).bind fun ds=>lift (if ds.length<=sizeLine then some (.own false (.l ds)) else none)
theorem l_4{ma:XM (List PyData)}(h:FA X F E es ma):FO X F E (.List es pos) (l_g ma):=(v_y h).imp a_m fun U Q q=>a_m _ _ _ (fun ds U1 q1=>by
 obtain⟨d,e1,q2⟩:=a_X q1
 split at e1
 ·rename_i h;cases e1;exact⟨h,q2⟩
 ·cases e1) (a_w q)
@[simp] noncomputable def w_f(i:Nat)(d:PyData):SM:=fun U1=>match U1[i]? with
 | some (some (.own io (.l ds)))=>if ds.length<sizeLine then .nx (U1.set i (some (.own io (.l (ds++[d]))))) else .bad
 | _=>.bad
@[simp] noncomputable def r_W(i:Nat)(m:XM PyData):SM:=fun U=>match U[i]? with
 | some (some (.own _ (.l _)))=>ofX (m U) (w_f i)
 | _=>.bad
theorem m_z{i:Nat}{m:XM PyData}{p1 apos cpos:Pos}(hv:PE X (.Name x p1) (f_r i))(he:FE X F E e m)(hsw:swapsWith (.Call (.Attribute (.Name x p1) "append" apos) [e] [] cpos) none pos.line X.env=pure false:=by rfl)
  (hbase:attributeBase (.Name x p1) "append" X.env (eval (.Name x p1) X.env)=eval (.Name x p1) X.env:=by rfl)
  (hfew:((backTo cpos (starEach [e] X.env)).all (fun x=>!x.1)&&(backToKw cpos (keywordEach [] X.env)).all (fun x=>x.1.isSome)&&decide (([e]:List Expr).length+([]:List Keyword).length+(if ([]:List Keyword).isEmpty then 0 else 1)<30))=true:=by rfl)
  (hline:(apos.endLine==cpos.line)=true:=by rfl) (hs:starEach [e] X.env=(false,eval e X.env)::starEach [] X.env:=by rfl) (hplain:(backTo cpos (starEach [] X.env)).any (·.1)=false:=by rfl) :
  FS X F E (.Expr (.Call (.Attribute (.Name x p1) "append" apos) [e] [] cpos) pos) (r_W i m):=
 (l_W (u_a PySem.F.plainAttrs_list PySem.F.slot_list_append PySem.F.type_list_append k_D hv (b_G he.pe d_9 hs) hbase hfew hline hs hplain) hsw).imp fun D Y H ⟨U,O,DD,st,q,f⟩=>by
  unfold wpS r_W at q
  cases h0:U[i]? with
  | none=>rw[h0] at q;exact q.elim
  | some o=>
   rw[h0] at q
   cases o with
   | none=>exact q.elim
   | some c0=>
    cases c0 with
    | dat d=>exact q.elim
    | scr d=>exact q.elim
    | exc d=>exact q.elim
    | vw d=>exact q.elim
    | own io0 b0=>
     cases b0 with
     | m _ _=>exact q.elim
     | o _ _=>exact q.elim
     | sd _=>exact q.elim
     | ll _=>exact q.elim
     | pr _ _ _=>exact q.elim
     | l ds0=>
      obtain⟨a,fp,hv0,⟨_,xs,hH,_⟩,_,_⟩:=st.box h0
      refine⟨_,hv0,.inl ⟨rfl,xs,.of hH⟩,U,O,st,a_m _ _ _ (fun d U1 q1 w H1 O1 st1 s1 d1=>?_) (c_q (m:=m) (k:=w_f i) q)⟩
      unfold wpS w_f at q1
      cases h1:U1[i]? with
      | none=>rw[h1] at q1;exact q1.elim
      | some o=>
       rw[h1] at q1
       cases o with
       | none=>exact q1.elim
       | some c1=>
        cases c1 with
        | dat d=>exact q1.elim
        | scr d=>exact q1.elim
        | exc d=>exact q1.elim
        | vw d=>exact q1.elim
        | own io1 b1=>
         cases b1 with
         | m _ _=>exact q1.elim
         | o _ _=>exact q1.elim
         | sd _=>exact q1.elim
         | ll _=>exact q1.elim
         | pr _ _ _=>exact q1.elim
         | l ds=>
          simp only at q1
          obtain⟨a1,fp1,hv1,⟨e1,ys,hH1,hd⟩,hO,up⟩:=st1.box h1
          rw[hv0] at hv1;cases hv1
          subst e1
          by_cases hz:ds.length<sizeLine
          ·rw[if_pos hz] at q1
           refine⟨a,ys,w,rfl,rfl,hH1,by rw[hd.length];exact hz,?_⟩
           obtain⟨O2,st2,s2,_⟩:=up (upd H1 a (.lst (ys++[w]))) (.l (ds++[d])) [a] (fun c o hc e=>by rw[a_u (by simpa using hc)];exact e) (by simp) (fun c hc=>.inl hc) (fun G O' s hG _=>by
            subst hG
            exact⟨s.hid,rfl,ys++[w],a_A,(DVs.mono s.hid hd).append (.cons (DV.mono s.hid d1) .nil)⟩)
           exact f.nx _ _ _ _ st2 (s1.trans s2) q1
          ·rw[if_neg hz] at q1;exact q1.elim
@[simp] noncomputable def z_e:Cell->Option PyData
 | .dat (.list ds)=>some (.int ds.length)
 | .dat (.tuple ds)=>some (.int ds.length)
 | .own _ (.l ds)=>some (.int ds.length)
 | _=>none
@[simp] noncomputable def s_X(i:Nat):XM PyData:=fun U=>match U[i]? with
 | some (some c)=>lift (z_e c) U
 | _=>.bad
theorem s_4{i:Nat}{p p1:Pos}(hg:Gl X "len")(hm:X.mg "len" = none)(h:PE X (.Name x p1) (f_r i))(he:starEach [.Name x p1] X.env=(false,eval (.Name x p1) X.env)::starEach [] X.env:=by rfl)(hpl:(backTo pos (starEach [] X.env)).any (·.1)=false:=by rfl) :
  FE X F E (.Call (.Name "len" p) [.Name x p1] [] pos) (s_X i):=
 ⟨a_m,(h_v a_Z hg hm PySem.boot_len (b_G h d_9 he) (by decide) (by decide) he hpl).imp fun Y H Q ⟨U,O,st,q⟩=>by
  unfold wp s_X at q
  cases h0:U[i]? with
  | none=>rw[h0] at q;exact q.elim
  | some o=>
   rw[h0] at q
   cases o with
   | none=>exact q.elim
   | some c0=>
    unfold lift at q
    cases c0 with
    | scr d=>exact q.elim
    | exc d=>exact q.elim
    | vw d=>exact q.elim
    | dat d=>
     obtain⟨v,hv,hd⟩:=st.dat h0
     cases d with
     | list ds=>
      obtain⟨a,xs,rfl,ha,hx⟩:=hd.lst_inv
      exact⟨_,hv,a,xs,rfl,.inl (.of (a_1 ha).1),by rw[hx.length];exact q _ H O st .refl (.int _)⟩
     | tuple ds=>
      obtain⟨a,xs,rfl,ha,hx⟩:=hd.tup_inv
      exact⟨_,hv,a,xs,rfl,.inr (.inl (d_v ha).1),by rw[hx.length];exact q _ H O st .refl (.int _)⟩
     | _=>exact q.elim
    | own io b=>
     cases b with
     | l ds=>
      obtain⟨a,fp,hv,⟨_,xs,hH,hx⟩,_,_⟩:=st.box h0
      exact⟨_,hv,a,xs,rfl,.inl (.of hH),by rw[hx.length];exact q _ H O st .refl (.int _)⟩
     | _=>exact q.elim⟩
end
noncomputable def i_o:PyData->Option Key
 | .int i=>some (.inl i)
 | .str x=>some (.inr x)
 | _=>none
noncomputable def f_Q:List PyData->Option (List Key)
 | []=>some []
 | d::r=>(match i_o d,f_Q r with | some k,some l=>some (k::l) | _,_=>none)
noncomputable def o_v:Bool->PyData->Option (List Key)
 | false,d=>(i_o d).map fun k=>[k]
 | true,.tuple ds=>f_Q ds
 | true,_=>none
noncomputable abbrev KVs:=List (PyData×PyData)
noncomputable def k_M(tk:Bool):KVs->List Key->Option PyData
 | [],_=>none
 | p::r,k=>if o_v tk p.1=some k then some p.2 else k_M tk r k
noncomputable def l_M(tk:Bool)(k:List Key)(v:PyData):KVs->KVs
 | []=>[]
 | p::r=>(if o_v tk p.1=some k then(p.1,v) else p)::l_M tk k v r
noncomputable def h_f(tk:Bool)(kvs:KVs)(d:PyData)(k:List Key)(v:PyData):KVs:=if (k_M tk kvs k).isSome=true then l_M tk k v kvs else kvs++[(d,v)]
theorem v_J{G:Hp}{v:V}{d:PyData}{k:Key}(h:DV G v d)(e:i_o d=some k):v=kV k:=by
 cases d with
 | int i=>cases e;exact h.int_inv
 | str x=>cases e;exact h.str_inv
 | _=>cases e
theorem t_o{k:Key}:i_o (o_5 k)=some k:=by cases k<;>rfl
theorem t_J{d:PyData}{k:Key}(e:i_o d=some k):d=o_5 k:=by
 cases d with
 | int i=>cases e;rfl
 | str x=>cases e;rfl
 | _=>cases e
theorem q_L:∀{ks:List Key},f_Q (ks.map o_5)=some ks
 | []=>rfl
 | k::r=>by show(match i_o (o_5 k),f_Q (r.map o_5) with | some k,some l=>some (k::l) | _,_=>none)=_;rw[t_o,q_L]
theorem o_x:∀{ds:List PyData}{ks:List Key},f_Q ds=some ks->ds=ks.map o_5
 | [],ks,e=>by cases e;rfl
 | d::r,ks,e=>by
  unfold f_Q at e
  cases h1:i_o d with
  | none=>rw[h1] at e;cases e
  | some k=>
   cases h2:f_Q r with
   | none=>rw[h1,h2] at e;cases e
   | some l=>rw[h1,h2] at e;cases e;rw[t_J h1,o_x h2];rfl
theorem r_j{G:Hp}:∀{vs:List V}{ks:List Key},DVs G vs (ks.map o_5)->vs=ks.map kV
 | [],[],_=>rfl
 | _::_,k::r,.cons h1 h2=>by rw[v_J h1 t_o,r_j h2];rfl
theorem m_d{κ:Type}[DecidableEq κ]{R:κ->PyData->Prop}{G:Hp}{tk:Bool}{inj:κ->List Key}(hk:∀k d,R k d->o_v tk d=some (inj k))(hi:∀a b,inj a=inj b->a=b) :
  ∀{ks:List (κ×V)}{kvs:KVs}(k:κ),Paired (fun(p:κ×V) (q:PyData×PyData)=>R p.1 q.1/\DV G p.2 q.2) ks kvs->(p_r ks k=none/\k_M tk kvs (inj k)=none)\/∃v d,p_r ks k=some v/\k_M tk kvs (inj k)=some d/\DV G v d
 | [],[],k,_=>.inl ⟨rfl,rfl⟩
 | p::r,q::s,k,.cons h t=>by
  by_cases e:p.1=k
  ·refine .inr ⟨p.2,q.2,j_q e,?_,h.2⟩
   unfold k_M
   rw[if_pos (by rw[hk _ _ h.1,e])]
  ·rw[j_s e]
   unfold k_M
   rw[if_neg (by rw[hk _ _ h.1];exact fun z=>e (hi _ _ (Option.some.inj z)))]
   exact m_d hk hi k t
theorem m_r{κ:Type}[DecidableEq κ]{R:κ->PyData->Prop}{G:Hp}{tk:Bool}{inj:κ->List Key}(hk:∀k d,R k d->o_v tk d=some (inj k))(hi:∀a b,inj a=inj b->a=b){v:V}{x:PyData}(hv:DV G v x) :
  ∀{ks:List (κ×V)}{kvs:KVs}(k:κ),Paired (fun(p:κ×V) (q:PyData×PyData)=>R p.1 q.1/\DV G p.2 q.2) ks kvs->Paired (fun(p:κ×V) (q:PyData×PyData)=>R p.1 q.1/\DV G p.2 q.2) (ks.map fun kv=>if kv.1=k then(kv.1,v) else kv) (l_M tk (inj k) x kvs)
 | [],[],k,_=>.nil
 | p::r,q::s,k,.cons h t=>by
  refine .cons ?_ (m_r hk hi hv k t)
  dsimp only
  by_cases e:p.1=k
  ·rw[if_pos e,if_pos (by rw[hk _ _ h.1,e])];exact⟨h.1,hv⟩
  ·rw[if_neg e,if_neg (by rw[hk _ _ h.1];exact fun z=>e (hi _ _ (Option.some.inj z)))];exact h
theorem q_Z{α β:Type}{R:α->β->Prop}:∀{xs:List α}{ys:List β}{us:List α}{vs:List β},Paired R xs ys->Paired R us vs->Paired R (xs++us) (ys++vs)
 | _,_,_,_,.nil,h=>h
 | _,_,_,_,.cons h t,r=>.cons h (q_Z t r)
theorem n_U{κ:Type}[DecidableEq κ]{R:κ->PyData->Prop}{G:Hp}{tk:Bool}{inj:κ->List Key}(hk:∀k d,R k d->o_v tk d=some (inj k))(hi:∀a b,inj a=inj b->a=b){v:V}{x d:PyData}(hv:DV G v x)
  {ks:List (κ×V)}{kvs:KVs}{k:κ}(hd:R k d) (h:Paired (fun(p:κ×V) (q:PyData×PyData)=>R p.1 q.1/\DV G p.2 q.2) ks kvs):Paired (fun(p:κ×V) (q:PyData×PyData)=>R p.1 q.1/\DV G p.2 q.2) (k_0 ks k v) (h_f tk kvs d (inj k) x):=by
 rcases m_d hk hi k h with⟨e1,e2⟩ | ⟨v',d',e1,e2,_⟩
 ·rw[p_A v e1]
  unfold h_f
  rw[e2,if_neg (by simp)]
  exact q_Z h (.cons ⟨hd,hv⟩ .nil)
 ·unfold h_f
  rw[e2,if_pos (by rfl)]
  unfold k_0
  rw[if_pos (by rw[h_y,e1];rfl)]
  exact m_r hk hi hv k h
theorem hk1:∀(k:Key) (d:PyData),o_5 k=d->o_v false d=some [k]:=fun k d e=>by subst e;show(i_o (o_5 k)).map _=_;rw[t_o];rfl
theorem hi1:∀(a b:Key),[a]=[b]->a=b:=fun a b e=>by cases e;rfl
theorem hk2:∀(k:List Key) (d:PyData),w_l k=d->o_v true d=some k:=fun k d e=>by subst e;exact q_L
@[simp] noncomputable def u_h(tk:Bool)(d:PyData):Option (List Key):=match d with
 | .tuple []=>none
 | d=>o_v tk d
theorem s_m{tk:Bool}{d:PyData}{k:List Key}(e:u_h tk d=some k):o_v tk d=some k/\d≠.tuple []:=by
 unfold u_h at e
 split at e
 ·cases e
 ·rename_i h;exact⟨e,h⟩
theorem i_F:∀{ds:List PyData}{k:List Key},f_Q ds=some k->ds≠[]->keyless ds=false
 | [],_,_,h=>absurd rfl h
 | [d],k,e,_=>by
  cases d<;>first | rfl | (simp[f_Q,i_o] at e)
 | d::f::r,k,e,_=>by
  unfold f_Q at e
  split at e
  ·rename_i k1 l e1 e2
   have ih:=i_F (ds:=f::r) e2 (by simp)
   cases d<;>first | (exact(by simpa[keyless] using ih)) | (exfalso;simp[i_o] at e1)
  ·cases e
section
variable{G H:Hp}{a:Addr}{tk:Bool}{kvs:KVs}
theorem t_g(h:j_f G H a tk kvs)(hG:e_3 G H){y v:V}{d x:PyData}{k:List Key}(hy:DV G y d)(hv:DV G v x)(e:u_h tk d=some k)(hl:kvs.length<sizeLine) :
  ∃o,s_7 H a y v (upd H a o)/\Mv o/\∀G',e_3 G G'->j_f G' (upd H a o) a tk (h_f tk kvs d k x):=by
 obtain⟨e,hne⟩:=s_m e
 cases tk with
 | false=>
  obtain⟨ks,hH,pr⟩:=h
  obtain⟨k',e1,e2⟩:=Option.map_eq_some_iff.mp e
  subst e2
  obtain rfl:=v_J hy e1
  refine⟨_,.k hH (by rw[Paired.length pr];exact hl),trivial,fun G' s=>⟨_,a_A,n_U hk1 hi1 (DV.mono s hv) (t_J e1).symm (Paired.mapP pr fun _ _ z=>⟨z.1,DV.mono s z.2⟩)⟩⟩
 | true=>
  obtain⟨ks,hH,pr⟩:=h
  cases d with
  | tuple ds=>
   obtain⟨b,xs,rfl,hb,hx⟩:=hy.tup_invK (i_F e fun z=>hne (by rw[z]))
   rw[o_x e] at hx
   rw[r_j hx] at hb
   exact⟨_,.t hH (hG _ _ hb) (by rw[Paired.length pr];exact hl),trivial,fun G' s=>⟨_,a_A,n_U (inj:=id) hk2 (fun _ _ z=>z) (DV.mono s hv) (show w_l k=_ by unfold w_l;rw[<-o_x e]) (Paired.mapP pr fun _ _ z=>⟨z.1,DV.mono s z.2⟩)⟩⟩
  | _=>cases e
end
section
variable{X:Cx}{F:Fx}{E:Str->a_q->Prop}{e a b c:Expr}{es:List Expr}{st:Stmt}{rest:List Stmt}{pos:Pos}{x:Str}
@[simp] noncomputable def nLZ:List PyData->Option PyData:=fun xs=>match xs with
 | [.list as,.list bs,.list cs]=>if bs.length=as.length/\cs.length=as.length/\0<as.length then some (.list (n_D as bs cs)) else none
 | _=>none
theorem x_r{ma:XM (List PyData)}(h:DE X F e (dLZ (wp E ma))):FE X F E e (xCB nLZ ma):=h.imp a_m fun U Q q=>a_m _ _ _ (fun ds U1 q1=>by
 obtain⟨d,e1,q2⟩:=a_X q1
 unfold nLZ at e1
 split at e1
 ·split at e1
  ·rename_i h;cases e1;exact⟨_,_,_,rfl,h.1,h.2.1,h.2.2,q2⟩
  ·cases e1
 ·cases e1) (a_w q)
noncomputable def w_w:List PyData->Option PyData:=fun xs=>match xs with
 | [.int i,.int j,.int k]=>if (0<=i/\i<=2 ^ 20)/\(0<=j/\j<=2 ^ 20)/\(0<k/\k<=2 ^ 20) then some (.list ((List.range (cnt3 i j k)).map fun(m:Nat)=>.int (i+m * k))) else none
 | _=>none
theorem v_b{ma:XM (List PyData)}(h:DE X F e (x_5 (wp E ma))):FE X F E e (xCB w_w ma):=h.imp a_m fun U Q q=>a_m _ _ _ (fun ds U1 q1=>by
 obtain⟨d,e1,q2⟩:=a_X q1
 unfold w_w at e1
 split at e1
 ·split at e1
  ·rename_i h;cases e1;exact⟨_,_,_,rfl,h,q2⟩
  ·cases e1
 ·cases e1) (a_w q)
@[simp] noncomputable def u_H(k:Nat):PyData->Option PyData:=fun d=>match d with | .list ds=>some (.list (ds.drop k)) | _=>none
@[simp] noncomputable def xU(g:PyData->Option PyData)(a:XM PyData):XM PyData:=fun U=>(a U).bind fun d=>lift (g d)
theorem s_q{k:Nat}{ma:XM PyData}(h:DE X F e (v_x (wp E ma) k)):FE X F E e (xU (u_H k) ma):=h.imp a_m fun U Q q=>a_m _ _ _ (fun d U1 q1=>by
 obtain⟨y,e1,q2⟩:=a_X q1
 cases d with
 | list ds=>cases e1;exact⟨_,rfl,q2⟩
 | _=>cases e1) (a_w q)
end
noncomputable abbrev bmV:List Value:=[.type "ValueError",.type "Exception",.type "BaseException",.type "object"]
noncomputable def s_P(h:Heap)(C:Addr):Prop:=∃tl N nm q bs hdct sn sub ab col dd k0 k1 k2 k3 k5 mN,h.get? C=some (excClassObj nm q C N bs tl hdct sn sub ab col dd k0 k1 k2 k3 k5 "ValueError.__new__")/\h.Ns N mN/\mN "__init__" = none/\OwnTail h bmV tl
theorem j_e{K:Frag}{h:Heap}{C:Addr}(X:K.In h)(e:excIn K C bmV "ValueError.__new__" = true):s_P h C:=by
 unfold excIn at e
 split at e
 ·rename_i o1 o2 o3 o4
  split at e
  ·rename_i a1 a2 a3 a4 a5 a6 a7 a8 a9 a10
   have e':=e
   simp only[Bool.and_eq_true,beq_iff_eq] at e'
   obtain⟨⟨⟨⟨⟨r1,r2⟩,r3⟩,r4⟩,r5⟩,r6⟩:=e'
   obtain⟨n1,n2,n3,n4,n5,n6,n7,n8,n9,n10,n11⟩:=o2
   obtain⟨l⟩:=o3
   simp at r3 a9 a10 r5 r6
   subst r1 r2 r3 a9 a10
   exact⟨a2,n4,n1,n5,n2,n6,n7,n8,n9,n10,o1,a3,a4,a5,a6,a8,_,X _ _ o4,.of_isNs (PySem.W.isNs_of_in X r5),PySem.W.nsMap_none_of_in X r5 r6,PySem.W.tail_of_in X r4⟩
  ·cases e
 ·cases e
structure EC (K:Frag) (mg:Str->Option Value) (c:Str) (C:Addr):Prop where
 mg:mg c=some (.ref C)
 ns:nsIn K mainGlobals c=some (some (.ref C))
 ex:excIn K C bmV "ValueError.__new__" = true
@[simp] noncomputable def d_e(c:Str):SM:=fun U=>.ex c U
section
variable{X:Cx}{F:Fx}{E:Str->a_q->Prop}
theorem _root_.L2.Inv.madeX{pins:List (Addr×Obj)}{Y:St}{H:Hp}{s:Shared}{h':Heap}{e:Addr}{C:Value}{us:List Value}(I:Inv X pins Y H s)(m:Heap.MadeExcOf s.heap h' e C us):Inv X pins Y H { s with heap:=h' }/\Cov X pins s.heap/\ExS s.heap H h' e C none:=by
 have hb:∀b,s.heap.get? b=none->H b=none:=fun b z=>HOk.some_of I.hok z
 obtain⟨t,h1,h2,h3⟩:=m.there
 refine⟨I.ch I.cov ⟨fun b o q _ _=>m.keeps b o q,fun b o _ q=>⟨o.slots,m.keeps b o q⟩,fun b o q=>⟨o,m.keeps b o q⟩⟩,I.cov,⟨fun b o q=>⟨o,m.keeps b o q⟩,m.new,hb e m.new,_,_,_,h1,rfl,rfl,rfl,.inl ⟨rfl,rfl⟩⟩⟩
theorem c_n{c tx:Str}{C:Addr}{j:Nat}{np cpos pos kp:Pos}(hx:XOk X F E)(hh:X.A.handled=none)(hg:Gl X c)(ec:EC X.K X.mg c C)(hdb:(c==("__debug__":Str))=false:=by decide)
  (he:starEach [.Constant (.str tx) j kp] X.env=(false,eval (.Constant (.str tx) j kp) X.env)::starEach [] X.env:=by rfl) :
  FS X F E (.Raise (some (.Call (.Name c np) [.Constant (.str tx) j kp] [] cpos)) none pos) (d_e c):=fun pins s Y H D I ⟨U,O,DD,st,q,f⟩=>by
 obtain⟨tl,N,nm,qn,bs,hdct,sn,sub,ab,col,dd,k0,k1,k2,k3,k5,mN,hC,hN,hni,T⟩:=j_e I.ok.mod.kin ec.ex
 refine wpAny_Raise_call_subU (C:=C) (nm:=nm) (q:=qn) (N:=N) (bs:=bs) (bm:=tl) (hdct:=hdct) (sn:=sn) (sub:=sub) (ab:=ab) (col:=col) (dd:=dd) (k0:=k0) (k1:=k1) (k2:=k2) (k3:=k3) (k5:=k5) (mN:=mN)
  PySem.F.excBase_ValueError (by decide) PySem.F.excBase_ValueError (T.hasType (by decide)) hh (by rw[he];rfl) hni (h_L I hg ec.mg ⟨rfl,?_⟩ hdb)
 have pa:PA X [.Constant (.str tx) j kp] _:=b_G (r_d (X:=X)) d_9 he
 have w:=pa cpos pins s Y H (fun vs H1=>vs.length=1/\H1=H) I (by exact⟨rfl,rfl⟩)
 rw[he] at w ⊢
 refine Calls.evalArgs_plain (thn w fun us s2 ⟨vs,H1,I1,r,h1,h2⟩=>?_)
 subst h2
 refine⟨rfl,by show us.length<=_;rw[<-r.length,h1];decide,I1.bk _ _ hC,hN.keeps I1.bk,T.keeps I1.bk,fun h' e m=>?_⟩
 obtain⟨I2,cv,ex⟩:=I1.madeX m
 exact hx.2 pins Y _ _ _ c U O ⟨I2,e,.ref C,s2.heap,none,rfl,cv,ex,ec.mg⟩ st q
end
noncomputable def j_b(K:Frag)(C D:Addr):Bool:=match K.lookup C with
 | some ⟨_,_,.cls cd,_⟩=>cd.mro.contains (.ref D)
 | _=>false
noncomputable def r_m(K:Frag)(C:Addr):Bool:=findIn K (.ref C) "__getattribute__"==some (some (.builtin "BaseException.__getattribute__"))&&findIn K (.ref C) "__class__"==some (some (.builtin "object.__class__"))&&findIn K (.ref C) "__getattr__"==some none &&
 PySem.W.mroIn K C (.type "BaseException")==some true&&PySem.W.mroIn K C (.type "object")==some true
noncomputable def q_O(K:Frag)(D:Addr)(l:List Str):Bool:=l.all fun c=>match nsIn K mainGlobals c with
 | some (some (.ref C))=>excIn K C bmV "ValueError.__new__"&&j_b K C D&&r_m K C&&(kitOne K (.ref C) (.type "ValueError")==some true)&&l.all fun d=>match nsIn K mainGlobals d with
  | some (some (.ref D'))=>kitOne K (.ref C) (.ref D')==some (c==d)
  | _=>false
 | _=>false
structure XT (K:Frag) (mg:Str->Option Value) (l:List Str) (D:Addr):Prop where
 top:EC K mg "DueError" D
 tab:q_O K D l=true
 mgs:∀c C,nsIn K mainGlobals c=some (some (.ref C))->mg c=some (.ref C)
theorem XT.at_{K:Frag}{mg:Str->Option Value}{l:List Str}{D:Addr}(x:XT K mg l D){c:Str}(h:c∈l):∃C,EC K mg c C/\j_b K C D=true/\r_m K C=true/\kitOne K (.ref C) (.type "ValueError")=some true/\
  ∀d∈l,∃D',mg d=some (.ref D')/\nsIn K mainGlobals d=some (some (.ref D'))/\kitOne K (.ref C) (.ref D')=some (c==d):=by
 have t:=List.all_eq_true.mp x.tab c h
 split at t
 ·rename_i C e
  simp only[Bool.and_eq_true] at t
  obtain⟨⟨⟨⟨t1,t2⟩,t0⟩,t3⟩,t4⟩:=t
  refine⟨C,⟨x.mgs c C e,e,t1⟩,t2,t0,by simpa using t3,fun d hd=>?_⟩
  have u:=List.all_eq_true.mp t4 d hd
  split at u
  ·rename_i D' e'
   exact⟨D',x.mgs d D' e',e',by simpa using u⟩
  ·cases u
 ·cases t
theorem q_A{K:Frag}{h:Heap}{C D N:Addr}{nm q:Str}{bs tl:List Value}{hdct:Bool}{sn:List Str}{sub:List Value}{ab:Bool}{col:Option Bool}{dd:Option Addr}{k0 k1 k2 k3 k5:Option Value}{newId:String}
  (X:K.In h) (e:j_b K C D=true) (hC:h.get? C=some (excClassObj nm q C N bs tl hdct sn sub ab col dd k0 k1 k2 k3 k5 newId)):(Value.ref C::tl).contains (.ref D)=true:=by
 unfold j_b at e
 split at e
 ·rename_i o
  have:=X _ _ o
  rw[hC] at this
  cases this
  exact e
 ·cases e
theorem k_4{M:Model}{A:Around}{E:Value->Shared->Prop}{h:Heap}{g:Array GenState}{d:Drawn}{t:Nat}{os:OsState}{e C D:Addr}{oe:Obj}{Q:Bool->Shared->Prop}
  (xc:s_P h C) (xd:s_P h D) (hu:∀{nm q N bs tl hdct sn sub ab col dd k0 k1 k2 k3 k5 newId},h.get? C=some (excClassObj nm q C N bs tl hdct sn sub ab col dd k0 k1 k2 k3 k5 newId)->(Value.ref C::tl).contains (.ref D)=true)
  (he:h.get? e=some oe) (hcls:oe.cls=.ref C) (hq:Q true ⟨h,g,d,t,os⟩):wpAny M A (excMatches (.ref e) (.ref D)) Q E ⟨h,g,d,t,os⟩:=by
 obtain⟨tl,N,nm,q,bs,hdct,sn,sub,ab,col,dd,k0,k1,k2,k3,k5,mN,hC,_,_,_⟩:=xc
 obtain⟨tl',N',nm',q',bs',hdct',sn',sub',ab',col',dd',k0',k1',k2',k3',k5',mN',hD,_,_,T'⟩:=xd
 have cB:(Value.ref D::tl').contains (.type "BaseException")=true:=by rw[List.contains_cons,T'.hasType (X:="BaseException") (b:=true) (by decide),Bool.or_true]
 have cC:=hu hC
 have f:=tc_notTuple
 unfold excMatches
 repeat (first | (with_reducible refine wpAny_loadPart_at he ?_;rw[hcls]) | with_reducible refine wpAny_loadPart_at hD ?_ | (with_reducible refine wpAny_isSubtype_exc hD ?_;rw[cB]) | (with_reducible refine wpAny_isSubtype_exc hC ?_;rw[cC]) | wp_step)
 exact hq
noncomputable abbrev reX(X:Cx)(A:Around)(b:Bool)(pn:List (Addr×Obj))(xe:Value->Shared->Prop):Cx:={ X with A:=A,calm:=b,pn:=pn,xe:=xe }
section
variable{X:Cx}{F:Fx}{E:Str->a_q->Prop}{pins pins':List (Addr×Obj)}{Y:St}{H:Hp}{s:Shared}{A:Around}{b:Bool}{xe:Value->Shared->Prop}
theorem _root_.L2.Inv.re(I:Inv X pins Y H s)(A:Around)(b:Bool)(xe:Value->Shared->Prop)(hA:A.frames=X.A.frames)(hb:b=true->A.handled=none):Inv (reX X A b (X.pn++pins) xe) [] Y H s:=
 ⟨⟨I.ok.mod,I.ok.kind,I.ok.glob,I.ok.blt,I.ok.above,I.ok.inj,I.ok.has,I.ok.cab,hb,hA.trans I.ok.frames,I.ok.stk,I.ok.exf,I.ok.bs,I.ok.bsz,I.ok.noex,I.ok.exfs,I.ok.funs,I.ok.frf⟩,I.os,I.bare,I.base,I.loc,I.cell,I.free,I.freeC,fun p hp=>I.pin p (by simpa using hp),I.hok,I.len⟩
theorem _root_.L2.Inv.unre(ok:X.Ok)(I:Inv (reX X A b (X.pn++pins) xe) pins' Y H s):Inv X pins Y H s:=
 ⟨ok,I.os,I.bare,I.base,I.loc,I.cell,I.free,I.freeC,fun p hp=>I.pin p (Qaj _ hp),I.hok,I.len⟩
theorem m_x(ok:X.Ok){D:Ends}{f:Flow}{s':Shared}(h:SP (reX X A b (X.pn++pins) xe) pins' D f s'):SP X pins D f s':=by
 cases f with
 | next=>obtain⟨Y',H',I,q⟩:=h;exact⟨Y',H',I.unre ok,q⟩
 | brk=>obtain⟨Y',H',I,q⟩:=h;exact⟨Y',H',I.unre ok,q⟩
 | cont=>obtain⟨Y',H',I,q⟩:=h;exact⟨Y',H',I.unre ok,q⟩
 | ret u=>obtain⟨v,Y',H',I,r,q⟩:=h;exact⟨v,Y',H',I.unre ok,r,q⟩
end
section
variable{K:Frag}{F:Fx}{H H':Hp}{Y Y':St}{U U':a_q}{O O':List Addr}{W:List (List Addr)}
noncomputable def Fx.here(F:Fx)(H:Hp)(L:List Addr):Fx:=⟨H,L,F.O₀,F.I₀⟩
theorem DStW.here(st:DStW K F H Y U W):DStW K (F.here H W.flatten) H Y U W:=⟨st.at_,st.nd,fun _ _ _ e=>e,fun _ h=>.inl h,st.live,st.len,st.lw,st.io⟩
theorem j_E(st:DStW K F H Y U W){a:Addr}(h:a∈W.flatten\/H a=none):a∈F.A₀\/F.H₀ a=none:=by
 rcases h with h | h
 ·exact st.new a h
 ·by_cases hA:a∈F.A₀
  ·exact .inl hA
  ·refine .inr ?_
   cases e:F.H₀ a with
   | none=>rfl
   | some o=>have:=st.kept a o hA e;rw[h] at this;cases this
theorem unhere{fp:List Addr}(st:DStW K F H Y U W)(st':DSt K ((F.here H W.flatten).plus fp) H' Y' U' O'):DSt K (F.plus fp) H' Y' U' O':=by
 obtain⟨W',h,e⟩:=st'
 refine⟨W',⟨h.at_,h.nd,fun b o hA e=>h.kept b o (fun z=>?_) (st.kept b o hA e),fun a ha=>j_E st (h.new a ha),h.live,h.len,h.lw,h.io⟩,e⟩
 rcases st.new b z with q | q
 ·exact hA q
 ·rw[show F.H₀ b=some o from e] at q;cases q
theorem q_C(st':DSt K (F.here H W.flatten) H' Y' U' O'):Stp (W.flatten++F.O₀) H O' H':=by
 obtain⟨W',h,rfl⟩:=st'
 refine⟨fun b o hb e=>h.kept b o (fun z=>hb (Qaj _ z)) e,fun a ha=>?_⟩
 rcases List.mem_append.mp ha with z | z
 ·exact(h.new a z).imp (Qaj _) id
 ·exact .inl (Qai _ z)
theorem Fits.here{D:Ends}{DD:DEnds}(st:DStW K F H Y U W)(f:Fits K F O H D DD):Fits K (F.here H W.flatten) O H D DD:=
 ⟨fun Y' H' U' O' s1 s2 q=>f.nx Y' H' U' O' (unhere (fp:=[]) st s1) s2 q,fun v Y' H' c U' O' fp r s2 q=>f.rt v Y' H' c U' O' fp ⟨unhere st r.st,r.at_,fun a h=>j_E st (r.new a h)⟩ s2 q,
  fun Y' H' U' O' s1 s2 q=>f.bk Y' H' U' O' (unhere (fp:=[]) st s1) s2 q,fun Y' H' U' O' s1 s2 q=>f.ct Y' H' U' O' (unhere (fp:=[]) st s1) s2 q⟩
end
noncomputable def o_L(l:List Str)(mb mh:SM):SM:=fun U=>match mb U with
 | .ex c U'=>if c∈l then(match mh U' with | .rt d U''=>.rt d U'' | _=>.bad) else .bad
 | o=>o
section
variable{X:Cx}{F:Fx}{E:Str->a_q->Prop}
theorem p_Q{l:List Str}{D a:Addr}{c:Str}{C:Value}{g:Heap}{fl:Option Value}{np hpos:Pos}{nm:Option Str}{b₀:Stmt}{suite:List Stmt}{pins:List (Addr×Obj)}{Y:St}{H:Hp}{s:Shared}{Q:Flow->Shared->Prop}{E':Value->Shared->Prop}
  (xt:XT X.K X.mg l D) (hg:Gl X "DueError") (hst:X.stack=X.env::X.outer) (hfr:X.env.frame=some X.env.locals) (hc:c∈l) (J:Inv X pins Y H s) (cv:Cov X pins g) (ex:ExS g H s.heap a C fl) (hm:X.mg c=some C)
  (h:∀s',Inv X pins Y H s'->ExS g H s'.heap a C (some .none)->codeAny (model X.prog X.w) (X.A.mark (some (.ref a))) (.handlers (.ref a) [.ExceptHandler none nm (b₀::suite) hpos] X.env) (fun r s₂=>match r with
     | .ok f=>(match nm with
      | none=>Q f s₂
      | some n=>wpAny (model X.prog X.w) X.A (do bindName X.env n .none;unbindBehindTheSuite X.env n hpos) (fun _ s₃=>Q f s₃) E' s₂)
     | .error x=>cameBackBy (model X.prog X.w) X.A X.env E' x s₂) s') :
  wpAny (model X.prog X.w) X.A (noteFrame (.ref a) X.env) (fun _ s₂=>wpAny (model X.prog X.w) X.A (setFlight (.ref a) none) (fun _ s₃=>wpAny (model X.prog X.w) X.A (handleBy (.ref a) X.env [.ExceptHandler (some (.Name "DueError" np)) nm (b₀::suite) hpos]) Q E' s₃) E' s₂) E' s:=by
 have fr:X.A.frames=some (X.env::X.outer):=by rw[J.ok.frames,hst]
 have stk:s.heap.FunFrames X.base (X.env::X.outer):=by have:=J.stack;rw[hst] at this;exact this
 have hb:∀b,s.heap.get? b=none->H b=none:=fun b z=>HOk.some_of J.hok z
 refine l_2 (base:=X.base) fr stk hfr hb ex fun h1 c1 x1=>?_
 refine g_0 (s:={ s with heap:=h1 }) (fs:=frs (X.env::X.outer)) none (g_a (c1.frames (fun _ h=>h) stk)) x1 fun h2 c2 x2=>?_
 have J2:Inv X pins Y H { s with heap:=h2 }:=J.ch cv (by rw[hst];exact c1.trans c2)
 refine wpAny_handleBy_cons (codeAny_handlers_test ?_) (by intro q;cases q)
 have J3:=J2.re (X.A.mark (some (.ref a))) false X.xe rfl (fun z=>by cases z)
 refine h_L (X:=reX X (X.A.mark (some (.ref a))) false (X.pn++pins) X.xe) J3 hg xt.top.mg ?_ (by decide)
 obtain⟨C',ec,hu,_⟩:=xt.at_ hc
 have eC:C=.ref C':=Option.some.inj (hm.symm.trans ec.mg)
 obtain⟨oe,vs,a0,he,hcl,_⟩:=x2.ob
 refine k_4 (C:=C') (j_e J2.kIn ec.ex) (j_e J2.kIn xt.top.ex) (fun hC=>q_A J2.kIn hu hC) he (hcl.trans eC) ?_
 exact h _ J2 x2
theorem s_i{l:List Str}{D:Addr}{np hpos pos:Pos}{body suite:List Stmt}{b₀:Stmt}{mb mh:SM}(xt:XT X.K X.mg l D)(hg:Gl X "DueError")(hst:X.stack=X.env::X.outer)(hfr:X.env.frame=some X.env.locals)
  (hG:GF X.mg F) (hb:∀F' pn xe E1,XOk (reX X X.A X.calm pn xe) F' E1->PassesOwn (model X.prog X.w) X.A X.env xe->FSs (reX X X.A X.calm pn xe) F' E1 body mb)
  (hs:∀F' e pn xe,GF X.mg F'->FSs (reX X (X.A.mark (some e)) false pn xe) F' E0' (b₀::suite) mh) :
  FS X F E (.Try body [.ExceptHandler (some (.Name "DueError" np)) none (b₀::suite) hpos] [] [] pos) (o_L l mb mh):=fun pins s Y H D' I ⟨U,O,DD,st,q,f⟩=>by
 obtain⟨W,stw,rfl⟩:=id st
 have hG1:GF X.mg (F.here H W.flatten):=(hG.at st).frame fun a h=>stw.live a (Qaj _ h)
 let E1:Str->a_q->Prop:=fun c U'=>c∈l/\∃d U'',mh U' = .rt d U''/\DD.rt d U''
 have q1:wpS E1 mb DD U:=by
  unfold wpS o_L at q
  unfold wpS
  generalize mb U=o at q ⊢
  cases o with
  | ex c U'=>
   simp only at q
   by_cases hc:c∈l
   ·rw[if_pos hc] at q
    refine⟨hc,?_⟩
    generalize mh U' = o2 at q ⊢
    cases o2 with
    | rt d U''=>exact⟨d,U'',rfl,q⟩
    | _=>exact q.elim
   ·rw[if_neg hc] at q;exact q.elim
  | _=>exact q
 refine wpAny_Try_except ?_
 refine thn (hb (F.here H W.flatten) (X.pn++pins) _ E1 ?_ PassesOwn.looking [] s Y H D' (I.re X.A X.calm _ rfl I.ok.hd) ⟨U,_,DD,⟨W,stw.here,rfl⟩,q1,f.here stw⟩) fun fw s1 h=>?_
 ·refine⟨hG1,?_⟩
  intro pins' Y' H' s' e c U' O' ⟨J1,a,C,g,fl,e1,cv,ex,hm⟩ st' ⟨hc,d,U'',hmh,hd⟩
  subst e1
  have J:Inv X pins Y' H' s':=J1.unre I.ok
  have cv':Cov X pins g:=⟨cv.s0,cv.loc,cv.cell,fun p hp=>cv.pin p (Qaj _ hp)⟩
  refine p_Q xt hg hst hfr hc J cv' ex hm fun s3 J3 x3=>codeAny_handlers_suite ?_
  have stk:s3.heap.FunFrames X.base (X.env::X.outer):=by have:=J3.stack;rw[hst] at this;exact this
  refine g_0 (s:=s3) (fs:=frs (X.env::X.outer)) none (g_a stk) x3 fun h4 c4 x4=>?_
  have J4:Inv X pins Y' H' { s3 with heap:=h4 }:=J3.ch cv' (by rw[hst];exact c4)
  have step:Stp (W.flatten++F.O₀) H O' H':=q_C st'
  refine thn (hs (F.here H W.flatten) (.ref a) (X.pn++pins) _ hG1 [] _ _ _ ⟨fun _ _=>False,D'.rt,fun _ _=>False,fun _ _=>False⟩ (J4.re (X.A.mark (some (.ref a))) false _ rfl (fun z=>by cases z)) ⟨_,O',⟨fun _=>False,fun d U''=>DD.rt d U'',fun _=>False,fun _=>False⟩,st',?_,?_⟩) fun fw s6 h6=>?_
  ·unfold wpS;rw[hmh];exact hd
  ·refine⟨fun _ _ _ _ _ _ z=>z.elim,fun v Y2 H2 c2 U2 O2 fp r s2 qq=>?_,fun _ _ _ _ _ _ z=>z.elim,fun _ _ _ _ _ _ z=>z.elim⟩
   exact f.rt v Y2 H2 c2 _ O2 fp ⟨unhere stw r.st,r.at_,fun x hx=>j_E stw (r.new x hx)⟩ (step.trans s2) qq
  ·cases fw with
   | next=>obtain⟨_,_,_,z⟩:=h6;exact z.elim
   | brk=>obtain⟨_,_,_,z⟩:=h6;exact z.elim
   | cont=>obtain⟨_,_,_,z⟩:=h6;exact z.elim
   | ret u=>
    obtain⟨v,Y7,H7,J8,r8,q8⟩:=h6
    exact⟨v,_,H7,J8.unre I.ok,r8,q8⟩
 ·cases fw with
  | next=>exact wpAny_execs_nil (m_x I.ok h)
  | brk=>exact m_x I.ok h
  | cont=>exact m_x I.ok h
  | ret u=>exact m_x I.ok h
end
section
variable{X:Cx}{F:Fx}{E:Str->a_q->Prop}{e a b c:Expr}{es:List Expr}{st:Stmt}{rest:List Stmt}{pos:Pos}{x:Str}
@[simp] noncomputable def asO(U:a_q)(i:Nat):Option (Bool×List PyData):=match U[i]? with
 | some (some (.own io (.l ds)))=>some (io,ds)
 | _=>none
theorem v_R{U:a_q}{i:Nat}{io:Bool}{ds:List PyData}(h:asO U i=some (io,ds)):U[i]? = some (some (.own io (.l ds))):=by
 unfold asO at h
 split at h
 ·rename_i e;cases h;exact e
 ·cases h
end
section
variable{X:Cx}{F:Fx}{E:Str->a_q->Prop}{e a b c:Expr}{es:List Expr}{st:Stmt}{rest:List Stmt}{pos:Pos}{x:Str}{ma mb mc:XM PyData}
@[simp] noncomputable def g_4:=gI fun i j=>.int (i+j)
@[simp] noncomputable def n_r:=gI fun i j=>.int (i - j)
@[simp] noncomputable def t_v:=gIC q_0 fun i j=>.int (i * j)
@[simp] noncomputable def y_X:=gIC w_i fun i j=>.int (i / j)
@[simp] noncomputable def t_A:=gIC v_C fun i j=>.int (i % j)
@[simp] noncomputable def gLt:=gI fun i j=>.bool (decide (i<j))
@[simp] noncomputable def gLe:=gI fun i j=>.bool (decide (i<=j))
@[simp] noncomputable def gGt:=gI fun i j=>.bool (decide (j<i))
@[simp] noncomputable def gGe:=gI fun i j=>.bool (decide (j<=i))
theorem b_L(ha:FE X F E a ma)(hb:FE X F E b mb):FE X F E (.BinOp a .Add b pos) (xOp g_4 ma mb):=f_o p_R (u_8 ha hb)
theorem g_E(ha:FE X F E a ma)(hb:FE X F E b mb):FE X F E (.BinOp a .Sub b pos) (xOp n_r ma mb):=f_o p_R (v_H ha hb)
theorem k_r(ha:FE X F E a ma)(hb:FE X F E b mb):FE X F E (.BinOp a .Mult b pos) (xOp t_v ma mb):=f_o (p_7 t_l) (v_W ha hb)
theorem v_L(ha:FE X F E a ma)(hb:FE X F E b mb):FE X F E (.BinOp a .FloorDiv b pos) (xOp y_X ma mb):=f_o (p_7 r_v) (u_c ha hb)
theorem k_u(ha:FE X F E a ma)(hb:FE X F E b mb):FE X F E (.BinOp a .Mod b pos) (xOp t_A ma mb):=f_o (p_7 t_d) (t_W ha hb)
theorem m_n(ha:FE X F E a ma)(hb:FE X F E b mb):FE X F E (.BinOp a .Add b pos) (xOp l_o ma mb):=f_o r_M (t_N ha hb)
theorem k_7(ha:FE X F E a ma)(hb:FE X F E b mb):FE X F E (.BinOp a .Add b pos) (xOp k_k ma mb):=f_o s_T (r_L ha hb)
theorem u_F(ha:FE X F E a ma)(hb:FE X F E b mb):FE X F E (.BinOp a .Mult b pos) (xOp t_s ma mb):=f_o u_Y (u_m ha hb)
theorem u_y(ha:FE X F E a ma)(hb:FE X F E b mb):FE X F E (.Compare a [.Lt] [b] pos) (xOp gLt ma mb):=f_o p_R (w_O ha hb)
theorem w_4(ha:FE X F E a ma)(hb:FE X F E b mb):FE X F E (.Compare a [.LtE] [b] pos) (xOp gLe ma mb):=f_o p_R (w_M ha hb)
theorem x_q(ha:FE X F E a ma)(hb:FE X F E b mb):FE X F E (.Compare a [.Gt] [b] pos) (xOp gGt ma mb):=f_o p_R (x_l ha hb)
theorem q_r(ha:FE X F E a ma)(hb:FE X F E b mb):FB X F E (.Compare a [.Lt] [b] pos) (b_E (xOp gLt ma mb)):=k_q p_R (x_N ha hb)
theorem p_M(ha:FE X F E a ma)(hb:FE X F E b mb):FB X F E (.Compare a [.LtE] [b] pos) (b_E (xOp gLe ma mb)):=k_q p_R (x_i ha hb)
theorem r_s(ha:FE X F E a ma)(hb:FE X F E b mb):FB X F E (.Compare a [.Gt] [b] pos) (b_E (xOp gGt ma mb)):=k_q p_R (w_N ha hb)
theorem x_j(ha:FE X F E a ma)(hb:FE X F E b mb):FB X F E (.Compare a [.GtE] [b] pos) (b_E (xOp gGe ma mb)):=k_q p_R (w_E ha hb)
theorem l_N(hu:X.A.units+64<cLine)(ha:FE X F E a ma)(hb:FE X F E b mb):FE X F E (.Compare a [.Eq] [b] pos) (xOp (gEq false) ma mb):=f_o q_J (w_T hu ha hb)
theorem x_a(hu:X.A.units+64<cLine)(ha:FE X F E a ma)(hb:FE X F E b mb):FE X F E (.Compare a [.NotEq] [b] pos) (xOp (gEq true) ma mb):=f_o q_J (x_A hu ha hb)
theorem e_8(hu:X.A.units+64<cLine)(ha:FE X F E a ma)(hb:FE X F E b mb):FB X F E (.Compare a [.Eq] [b] pos) (b_E (xOp (gEq false) ma mb)):=k_q q_J (w_U hu ha hb)
theorem q_y(hu:X.A.units+64<cLine)(ha:FE X F E a ma)(hb:FE X F E b mb):FB X F E (.Compare a [.NotEq] [b] pos) (b_E (xOp (gEq true) ma mb)):=k_q q_J (x_Z hu ha hb)
theorem t_I(ha:FE X F E a ma)(hb:FE X F E b mb):FE X F E (.Compare a [.Is] [b] pos) (xOp gIs ma mb):=f_o u_b (t_2 ha hb)
theorem l_d(ha:FE X F E a ma)(hb:FE X F E b mb):FE X F E (.Compare a [.IsNot] [b] pos) (xOp f_N ma mb):=f_o m_c (i_b o_g o_4 ha hb (nomark _))
theorem v_Y(ha:FE X F E a ma)(hb:FE X F E b mb):FB X F E (.Compare a [.Is] [b] pos) (b_E (xOp gIs ma mb)):=k_q u_b (t_V ha hb)
theorem l_Y(ha:FE X F E a ma)(hb:FE X F E b mb):FB X F E (.Compare a [.IsNot] [b] pos) (b_E (xOp f_N ma mb)):=k_q m_c (s_o ha hb)
theorem r_N(ha:FE X F E a ma)(hb:FE X F E b mb)(hc:FE X F E c mc)(hm:lastMarks [.LtE,.LtE] [b,c]=false:=by with_unfolding_all rfl):FE X F E (.Compare a [.LtE,.LtE] [b,c] pos) (p_m (fun i j=>decide (i<=j)) (fun i j=>decide (i<=j)) ma mb mc):=p_S (r_X ha hb hc hm)
@[simp] noncomputable def a_M:PyData->PyData->Option PyData:=fun x y=>match x,y with
 | .tuple ds,.int i=>atI ds i
 | .list ds,.int i=>atI ds i
 | _,_=>none
noncomputable def y_H:D2:=fun x y Q=>y_A x y Q\/y_z x y Q
theorem x_b{K:Frag}:Op2 (fun x y H Q=>w_7 K x y H Q\/x_I K x y H Q) y_H where
 mn:=fun x y Q Q' k h=>h.imp (v_d (K:=K).mn x y Q Q' k) (u_C (K:=K).mn x y Q Q' k)
 ok:=fun O H u v x y Q hO h1 h2 h=>h.imp (v_d.ok O H u v x y Q hO h1 h2) (u_C.ok O H u v x y Q hO h1 h2)
theorem v_M:F2 y_H a_M:=fun x y d Q e q=>by
 unfold a_M at e
 split at e
 ·exact .inl ⟨_,_,_,rfl,rfl,e,q⟩
 ·exact .inr ⟨_,_,_,rfl,rfl,e,q⟩
 ·cases e
theorem a_s(ha:FE X F E a ma)(hb:FE X F E b mb)(hs:h_9 b:=by intro _ _;rfl):FE X F E (.Subscript a b pos) (xOp a_M ma mb):=f_o v_M (x_e (IxR.or t_6 l_y) x_b ha hb hs)
end
noncomputable def o_S:Expr->Bool
 | .Starred ..=>true
 | _=>false
theorem k_8{e:Expr}{es:List Expr}{env:Env}(h:o_S e=false):starEach (e::es) env=(false,eval e env)::starEach es env:=by
 cases e<;>first | rfl | cases h
section
variable{X:Cx}{F:Fx}{E:Str->a_q->Prop}{e a b c:Expr}{es:List Expr}{pos:Pos}{x:Str}
theorem a_I{ma:XM PyData}{mr:XM (List PyData)}(ha:FE X F E e ma)(hr:FA X F E es mr)(hs:o_S e=false:=by rfl):FA X F E (e::es) (a_f ma mr):=s_J ha hr (k_8 hs)
theorem a_t{ma:XM PyData}{mr:XM (List AX)}(ha:FE X F E e ma)(hr:FX X F E es mr)(hs:o_S e=false:=by rfl):FX X F E (e::es) (a_p ma mr):=u_G ha hr (k_8 hs)
theorem c_Y{p:Pos}{j:Nat}{mr:XM (List AX)}(hv:PE X (.Name x p) (f_r j))(hr:FX X F E es mr):FX X F E (.Name x p::es) (a_B j mr):=s_9 hv hr (k_8 rfl)
end
section
variable{X:Cx}{F:Fx}{E:Str->a_q->Prop}{e a b c:Expr}{es:List Expr}{pos:Pos}{x:Str}{ma mb:XM PyData}
@[simp] noncomputable def y_J:=gIC w_s fun i j=>.int (i ^ j.toNat)
theorem v_Z(ha:FE X F E a ma)(hb:FE X F E b mb):FE X F E (.BinOp a .Pow b pos) (xOp y_J ma mb):=f_o (p_7 s_a) (v_6 ha hb)
end
noncomputable def a_0(f:Str)(v:Fl):List (Str×Fl)->List (Str×Fl)
 | []=>[(f,v)]
 | (g,x)::r=>if g=f then(g,v)::r else(g,x)::a_0 f v r
noncomputable def b_5:Option Fl->Bool
 | none=>true
 | some (.d _)=>true
 | _=>false
noncomputable def e_z(C:Addr)(U:a_q)(i:Nat):Option (Bool×List (Str×Fl)):=match U[i]? with
 | some (some (.own io (.o C' fs)))=>if C' = C then some (io,fs) else none
 | _=>none
theorem e_y{C:Addr}{U:a_q}{i:Nat}{io:Bool}{fs:List (Str×Fl)}(h:e_z C U i=some (io,fs)):U[i]? = some (some (.own io (.o C fs))):=by
 unfold e_z at h
 split at h
 ·rename_i e
  split at h
  ·rename_i hc;cases h;rw[e,hc]
  ·cases h
 ·cases h
section
variable{G H:Hp}
theorem g_t{gs:List (Str×V)}{fs:List (Str×Fl)}{fps:List (List Addr)}(h:FlsAt G H gs fs fps)(f:Str):(gs.lookup f=none/\fs.lookup f=none)\/∃v x fp,gs.lookup f=some v/\fs.lookup f=some x/\l_9 G H v x fp/\fp∈fps:=by
 induction h with
 | nil=>exact .inl ⟨rfl,rfl⟩
 | @cons n v x fp gs fs fps h1 h2 ih=>
  by_cases e:f=n
  ·subst e
   exact .inr ⟨v,x,fp,by simp[List.lookup],by simp[List.lookup],h1,List.mem_cons_self⟩
  ·have e':(f==n)=false:=by simpa using e
   rw[List.lookup_cons,List.lookup_cons,e']
   rcases ih with q | ⟨v',x',fp',q1,q2,q3,q4⟩
   ·exact .inl q
   ·exact .inr ⟨v',x',fp',q1,q2,q3,Qak _ q4⟩
end
theorem v_E{α:Type}:∀{W:List (List α)}{i:Nat}{l:List α},W.flatten.Nodup->W[i]? = some l->l.Nodup
 | w::W,0,l,nd,h=>by
  simp only[List.getElem?_cons_zero,Option.some.injEq] at h
  subst h
  rw[List.flatten_cons] at nd
  exact(List.nodup_append.mp nd).1
 | w::W,i+1,l,nd,h=>by
  rw[List.flatten_cons] at nd
  exact v_E (List.nodup_append.mp nd).2.1 (by simpa using h)
theorem DSt.boxN{K:Frag}{F:Fx}{H:Hp}{Y:St}{U:a_q}{O:List Addr}(st:DSt K F H Y U O){i:Nat}{io:Bool}{b:Bx}(e:U[i]? = some (some (.own io b))):∃a fp,Y[i]? = some (some (.ref a))/\f_Z (hide O H) H a b fp/\(∀c∈fp,c∈O)/\fp.Nodup/\
  ∀(H':Hp) (b':Bx) (fp':List Addr),(∀c o,c∉fp->H c=some o->H' c=some o)->fp'.Nodup->(∀c∈fp',c∈fp\/H c=none)->(∀G,(∀O',Stp O H O' H'->G=hide O' H'->(∀c∈fp',c∈O')->e_3 (hide O H) G/\f_Z G H' a b' fp'))->
   ∃O',DSt K F H' Y (U.set i (some (.own io b'))) O'/\Stp O H O' H'/\(∀c∈O',c∈fp'\/c∈O):=by
 obtain⟨W,st,rfl⟩:=st
 obtain⟨v,fp,h1,h2,a,rfl,h3⟩:=st.at_ i _ e
 have hi:i<U.length:=(List.getElem?_eq_some_iff.mp e).1
 have hiW:i<W.length:=by rw[st.lw];exact hi
 refine⟨a,fp,h1,h3,fun c hc=>Qaj _ (a_d h2 hc),(v_E (List.nodup_append.mp st.nd).1 h2),fun H' b' fp' keep nd fr hb=>?_⟩
 have ndW:W.flatten.Nodup:=(List.nodup_append.mp st.nd).1
 have nO:∀c∈fp,c∉F.O₀:=fun c hc z=>(List.nodup_append.mp st.nd).2.2 c (a_d h2 hc) c z rfl
 have kj:∀j l c,j≠i->W[j]? = some l->c∈l->H' c=H c:=fun j l c hj ej hc=>by
  obtain⟨o,eo,_⟩:=st.live c (Qaj _ (a_d ej hc))
  rw[eo]
  exact keep c o (fun z=>d_G ndW ej h2 hj hc z) eo
 have kO:∀c∈F.O₀,H' c=H c:=fun c hc=>by
  obtain⟨o,eo,_⟩:=st.live c (Qai _ hc)
  rw[eo]
  exact keep c o (fun z=>nO c z hc) eo
 have ap:∀c∈fp',(∀j l,j≠i->W[j]? = some l->c∉l)/\c∉F.O₀:=fun c hc=>by
  rcases fr c hc with q | q
  ·exact⟨fun j l hj ej z=>d_G ndW h2 ej (Ne.symm hj) q z,nO c q⟩
  ·refine⟨fun j l _ ej z=>?_,fun z=>?_⟩
   ·obtain⟨o,eo,_⟩:=st.live c (Qaj _ (a_d ej z));rw[q] at eo;cases eo
   ·obtain⟨o,eo,_⟩:=st.live c (Qai _ z);rw[q] at eo;cases eo
 have frz:∀c o,c∉W.flatten++F.O₀->H c=some o->H' c=some o:=fun c o hc ec=>keep c o (fun z=>hc (Qaj _ (a_d h2 z))) ec
 have stp:Stp (W.flatten++F.O₀) H ((W.set i fp').flatten++F.O₀) H':=⟨frz,fun c h=>by
  rcases List.mem_append.mp h with h | h
  ·rcases a_C h with h | ⟨j,l,_,ej,hl⟩
   ·exact(fr c h).imp (fun z=>Qaj _ (a_d h2 z)) id
   ·exact .inl (Qaj _ (a_d ej hl))
  ·exact .inl (Qai _ h)⟩
 have inO':∀c∈fp',c∈(W.set i fp').flatten++F.O₀:=fun c hc=>Qaj _ (g_x hiW hc)
 have hbx:=(hb _ _ stp rfl inO').2
 obtain⟨s1,s2⟩:=st.put (H':=H') (i:=i) (v:=.ref a) (c:=.own io b') (fp:=fp') hi kj kO frz nd ap (fun c hc=>(fr c hc).imp (fun z=>a_d h2 z) id) (fun c hc=>hbx.live c hc) (fun _=>⟨a,rfl,hbx⟩) (fun b2 z=>by cases z;have:=st.io i b e;rw[h1] at this;exact(Option.some.inj (Option.some.inj this)))
 have eY:Y.set i (some (.ref a))=Y:=by
  apply List.ext_getElem?
  intro j
  by_cases hj:j=i
  ·subst hj;rw[List.getElem?_set_self (List.getElem?_eq_some_iff.mp h1).1,h1]
  ·rw[List.getElem?_set_ne (Ne.symm hj)]
 rw[eY] at s1
 refine⟨_,⟨_,s1,rfl⟩,s2,fun c hc=>?_⟩
 rcases List.mem_append.mp hc with hc | hc
 ·rcases a_C hc with hc | ⟨j,l,_,ej,hl⟩
  ·exact .inl hc
  ·exact .inr (Qaj _ (a_d ej hl))
 ·exact .inr (Qai _ hc)
theorem FlsAt.len{G H:Hp}{gs:List (Str×V)}{fs:List (Str×Fl)}{fps:List (List Addr)}(h:FlsAt G H gs fs fps):gs.length=fs.length:=by
 induction h with
 | nil=>rfl
 | cons _ _ ih=>simp[ih]
theorem FlsAt.putD{G G' H H':Hp}{gs:List (Str×V)}{fs:List (Str×Fl)}{fps:List (List Addr)}{f:Str}{v:V}{d:PyData}(h:FlsAt G H gs fs fps)(hp:b_5 (fs.lookup f)=true)(hd:DV G' v d)(g:e_3 G G')(k:∀c∈fps.flatten,H' c=H c) :
  FlsAt G' H' (g_i f v gs) (a_0 f (.d d) fs) (if (fs.lookup f).isSome=true then fps else fps++[[]]):=by
 induction h with
 | nil=>exact .cons ⟨rfl,hd⟩ .nil
 | @cons n w x fp gs fs fps h1 h2 ih=>
  unfold g_i a_0
  by_cases e:n=f
  ·subst e
   have hl:List.lookup n ((n,x)::fs)=some x:=by simp[List.lookup]
   rw[hl] at hp ⊢
   rw[if_pos rfl,if_pos rfl]
   have h2':=h2.keep (H':=H') (fun c hc=>k c (by simp only[List.flatten_cons,List.mem_append];exact .inr hc)) g
   cases x with
   | d y=>
    obtain⟨rfl,_⟩:=h1
    exact .cons ⟨rfl,hd⟩ h2'
   | l ds=>cases hp
   | m tk kvs=>cases hp
  ·have e':(f==n)=false:=by simpa using fun z=>e z.symm
   rw[List.lookup_cons,e'] at hp ⊢
   rw[if_neg e,if_neg e]
   have h1':=h1.keep (H':=H') (fun c hc=>k c (by simp only[List.flatten_cons,List.mem_append];exact .inl hc)) g
   have ih':=ih hp fun c hc=>k c (by simp only[List.flatten_cons,List.mem_append];exact .inr hc)
   simp only at ih' ⊢
   split
   ·rename_i q;rw[if_pos q] at ih';exact .cons h1' ih'
   ·rename_i q;rw[if_neg q] at ih';exact .cons h1' ih'
section
variable{X:Cx}{F:Fx}{E:Str->a_q->Prop}{e a b c:Expr}{es:List Expr}{st:Stmt}{pos p1:Pos}{x f:Str}{C:Addr}{i:Nat}
noncomputable def f_T(C:Addr)(i:Nat)(f:Str):XM PyData:=fun U=>match e_z C U i with
 | some (_,fs)=>(match fs.lookup f with
  | some (.d d)=>.ok d U
  | _=>.bad)
 | none=>.bad
theorem b_J(cl:Cls X.K C)(na:b_a X.K C f)(hv:PE X (.Name x p1) (f_r i))(hb:attributeBase (.Name x p1) f X.env (eval (.Name x p1) X.env)=eval (.Name x p1) X.env:=by rfl):FE X F E (.Attribute (.Name x p1) f pos) (f_T C i f):=
 ⟨a_m,(i_R hv hb).imp fun Y H Q ⟨U,O,st,q⟩=>by
  unfold wp f_T at q
  cases ho:e_z C U i with
  | none=>rw[ho] at q;exact q.elim
  | some p=>
   obtain⟨io,fs⟩:=p
   rw[ho] at q
   simp only at q
   obtain⟨a0,fp,hv0,⟨dx,gs,fps,e1,e2,e3,e4⟩,_,_⟩:=st.box (e_y ho)
   rcases g_t e4 f with⟨l1,l2⟩ | ⟨v,y,fp',l1,l2,l3,_⟩
   ·rw[l2] at q;exact q.elim
   ·rw[l2] at q
    cases y with
    | d d=>exact⟨_,hv0,a0,C,dx,gs,v,rfl,e2,cl,na,l1,q v H O st (.refl ..) l3.2⟩
    | l ds=>exact q.elim
    | m tk kvs=>exact q.elim⟩
noncomputable def k_Z(C:Addr)(i:Nat)(f:Str)(d:PyData):SM:=fun U=>match e_z C U i with
 | some (io,fs)=>if fs.length<1000/\b_5 (fs.lookup f)=true then .nx (U.set i (some (.own io (.o C (a_0 f (.d d) fs))))) else .bad
 | none=>.bad
noncomputable def c_N(C:Addr)(i:Nat)(f:Str)(m:XM PyData):SM:=fun U=>ofX (m U) (k_Z C i f)
theorem d_M{m:XM PyData}{pos':Pos}(cl:Cls X.K C)(na:b_a X.K C f)(hv:PE X (.Name x p1) (f_r i))(he:FE X F E e m)(hs:swapsWith e (some (.Attribute (.Name x p1) f pos')) pos.line X.env=pure false:=by rfl):FS X F E (.Assign [.Attribute (.Name x p1) f pos'] e pos) (c_N C i f m):=
 (m_i hv he.pe hs).imp fun D Y H ⟨U,O,DD,st,q,fD⟩=>⟨U,O,st,a_m _ _ _ (fun d U1 q1 vy H1 O1 st1 s1 d1=>by
  unfold wpS k_Z at q1
  cases ho:e_z C U1 i with
  | none=>rw[ho] at q1;exact q1.elim
  | some p=>
   obtain⟨io,fs⟩:=p
   rw[ho] at q1
   simp only at q1
   by_cases hc:fs.length<1000/\b_5 (fs.lookup f)=true
   ·rw[if_pos hc] at q1
    obtain⟨a0,fp,hv0,⟨dx,gs,fps,e1,e2,e3,e4⟩,hO,nd,up⟩:=st1.boxN (e_y ho)
    subst e1
    obtain⟨ndx,_⟩:dx≠a0/\True:=⟨fun z=>by subst z;simp at nd,trivial⟩
    refine⟨_,hv0,a0,C,dx,gs,rfl,e2,cl,na,by rw[e4.len];exact hc.1,?_⟩
    obtain⟨O3,st3,s3,_⟩:=up (upd H1 a0 (.ins C dx (g_i f vy gs))) (.o C (a_0 f (.d d) fs)) (a0::dx::fps.flatten) (fun c o hcn e=>by rw[a_u (fun z=>hcn (by simp[z]))];exact e) nd (fun c hc=>.inl hc) (fun G O' s hG _=>by
     subst hG
     refine⟨s.hid,dx,g_i f vy gs,if (fs.lookup f).isSome=true then fps else fps++[[]],?_,a_A,by rw[a_u ndx];exact e3,?_⟩
     ·split
      ·rfl
      ·simp
     ·refine e4.putD hc.2 (DV.mono s.hid d1) s.hid fun c hc=>a_u (fun z=>?_)
      subst z
      exact absurd hc (by
       have:=(List.nodup_cons.mp nd).1
       exact fun w=>this (Qak _ w)))
    exact fD.nx _ _ _ _ st3 (s1.trans s3) q1
   ·rw[if_neg hc] at q1;exact q1.elim) (c_q (m:=m) (k:=k_Z C i f) q)⟩
end
section
variable{X:Cx}{F:Fx}{E:Str->a_q->Prop}{e:Expr}{es:List Expr}{pos p1 apos p:Pos}{x m:Str}{C:Addr}{i:Nat}{k:Nat}{g:Addr}{fd:FuncData}{ps:List Str}{f:FM}{mX:XM (List AX)}
theorem m_g{as:List AX}{U1:a_q}{Q:Cell->a_q->Prop}(q1:wp E (k_6 f as) U1 Q):f_s f E Q as U1:=by
 unfold wp k_6 at q1
 unfold f_s
 cases ha:c_o U1 as with
 | none=>rw[ha] at q1;exact q1
 | some p=>
  obtain⟨cs,js⟩:=p
  rw[ha] at q1
  simp only at q1 ⊢
  cases hf:f cs with
  | rt c outs=>rw[hf] at q1;exact q1
  | ex c outs=>rw[hf] at q1;exact q1
  | bad=>rw[hf] at q1;exact q1
noncomputable def c_e(f:FM)(i:Nat)(as:List AX):XM Cell:=k_6 f (.s i::as)
noncomputable def a_4(C:Addr)(i:Nat)(m:Str)(f:FM)(mX:XM (List AX)):XM Cell:=fun U=>match e_z C U i with
 | some (_,fs)=>if fs.lookup m=none then(mX U).bind (c_e f i) else .bad
 | none=>.bad
theorem r_2{pl:Sem Bool}(hx:XOk X F E)(cl:Cls X.K C)(hm:Meth X.K C m g)(G:FnOk X.prog X.w X.K X.mg X.base (CXM X.prog X.w) k g fd ps (spF X.K X.mg f))(hr:Room k X.A)(hb:i_z X.K fd ps [])(hv:PE X (.Name x p1) (f_r i))(ha:FX X F E (e::es) mX)
  (hst:starEach (e::es) X.env=(false,eval e X.env)::starEach es X.env:=by rfl) (hpl:(backTo pos (starEach es X.env)).any (·.1)=false:=by rfl)
  (ht:eval (.Call (.Attribute (.Name x p1) m apos) (e::es) [] pos) X.env=(do
   let ov <-eval (.Name x p1) X.env
   standAt apos.atName
   let(f,first) <-holding [ov] (getMethod ov m pl)
   callWith pos f first (backTo pos (starEach (e::es) X.env)) (backToKw pos (keywordEach [] X.env))):=by rfl) :
  FO X F E (.Call (.Attribute (.Name x p1) m apos) (e::es) [] pos) (a_4 C i m f mX):=by
 refine⟨a_m,fun pins s Y H Q I ⟨U,O,st,q⟩=>?_⟩
 unfold wp a_4 at q
 cases ho:e_z C U i with
 | none=>rw[ho] at q;exact q.elim
 | some p=>
  obtain⟨io,fs⟩:=p
  rw[ho] at q
  simp only at q
  by_cases hl:fs.lookup m=none
  ·rw[if_pos hl] at q
   obtain⟨a0,fp,hv0,⟨dx,gs,fps,e1,e2,e3,e4⟩,_,_⟩:=st.box (e_y ho)
   have hg:gs.lookup m=none:=by
    rcases g_t e4 m with⟨l1,_⟩ | ⟨_,_,_,_,l2,_⟩
    ·exact l1
    ·rw[hl] at l2;cases l2
   refine PySem.W.methodCall_KW (pl:=pl) (thn (hv pins s Y H (fun v H1=>v=.ref a0/\H1=H) I ⟨_,hv0,rfl,rfl⟩) fun u s1 ⟨v,H1,I1,rx,ex,eH⟩=>?_) ht
   subst ex eH
   obtain rfl:u=Value.ref a0:=rx
   refine i_L I1 e2 cl hm hg ?_
   have q':=a_w (E:=E) (m:=mX) (k:=c_e f i) (U:=U) q
   refine PySem.W.callWith_K (first:=[.ref a0]) (h₀:=X.base) I.ok.mod.kin hm.kp (thn (ha.pa pos pins s1 Y H1 (fun vs H2=>∃as U1 O1,DSt X.K F H2 Y U1 O1/\Stp O H1 O1 H2/\AxAt Y (hide O1 H2) vs as/\f_s f E (fun c U'=>∀v H' O' fp,Res X.K F H' Y U' O' v c fp->Stp O H1 O' H'->Q v H') (.s i::as) U1) I1 ⟨U,O,st,ha.mn _ _ _ (fun as U1 q1 vs H2 O1 st1 s1 ax=>⟨as,U1,O1,st1,s1,ax,m_g q1⟩) q'⟩) fun us s2 ⟨vs,H2,I2,r,as,U1,O1,st1,s01,ax,q1⟩=>⟨I2.kIn,?_⟩) hst hpl
   exact l_J hx G hr hb I2 (vs:=V.ref a0::vs) (us:=Value.ref a0::us) (.cons (show c_b (.ref a0) (.ref a0) from rfl) r) st1 (AxAt.s hv0 ax) q1 fun c U' h v H' O' fp res s2=>h v H' O' fp res (s01.trans s2)
  ·rw[if_neg hl] at q;exact q.elim
noncomputable def b_P(C:Addr)(i:Nat)(m:Str)(f:FM):XM Cell:=fun U=>match e_z C U i with
 | some (_,fs)=>if fs.lookup m=none then k_6 f [.s i] U else .bad
 | none=>.bad
theorem q_h{pl:Sem Bool}(hx:XOk X F E)(cl:Cls X.K C)(hm:Meth X.K C m g)(G:FnOk X.prog X.w X.K X.mg X.base (CXM X.prog X.w) k g fd ps (spF X.K X.mg f))(hr:Room k X.A)(hb:i_z X.K fd ps [])(hv:PE X (.Name x p1) (f_r i))
  (ht:eval (.Call (.Attribute (.Name x p1) m apos) [] [] pos) X.env=(do
   let ov <-eval (.Name x p1) X.env
   standAt apos.atName
   let(f,first) <-holding [ov] (getMethod ov m pl)
   callWith pos f first (backTo pos (starEach [] X.env)) (backToKw pos (keywordEach [] X.env))):=by rfl) :
  FO X F E (.Call (.Attribute (.Name x p1) m apos) [] [] pos) (b_P C i m f):=by
 refine⟨a_m,fun pins s Y H Q I ⟨U,O,st,q⟩=>?_⟩
 unfold wp b_P at q
 cases ho:e_z C U i with
 | none=>rw[ho] at q;exact q.elim
 | some p=>
  obtain⟨io,fs⟩:=p
  rw[ho] at q
  simp only at q
  by_cases hl:fs.lookup m=none
  ·rw[if_pos hl] at q
   obtain⟨a0,fp,hv0,⟨dx,gs,fps,e1,e2,e3,e4⟩,_,_⟩:=st.box (e_y ho)
   have hg:gs.lookup m=none:=by
    rcases g_t e4 m with⟨l1,_⟩ | ⟨_,_,_,_,l2,_⟩
    ·exact l1
    ·rw[hl] at l2;cases l2
   refine PySem.W.methodCall_KW (pl:=pl) (thn (hv pins s Y H (fun v H1=>v=.ref a0/\H1=H) I ⟨_,hv0,rfl,rfl⟩) fun u s1 ⟨v,H1,I1,rx,ex,eH⟩=>?_) ht
   subst ex eH
   obtain rfl:u=Value.ref a0:=rx
   refine i_L I1 e2 cl hm hg ?_
   refine PySem.W.callWith_K0 (first:=[.ref a0]) I1.kIn hm.kp ?_
   exact l_J (vs:=[V.ref a0]) (us:=[Value.ref a0]) (as:=[.s i]) hx G hr hb I1 (.cons (show c_b (.ref a0) (.ref a0) from rfl) .nil) st (AxAt.s hv0 .nil) (m_g q) fun c U' h v H' O' fp res s2=>h v H' O' fp res s2
  ·rw[if_neg hl] at q;exact q.elim
noncomputable def n_w(C:Addr)(f:FM)(ds:List PyData):XM Cell:=fun U=>match f (.own true (.o C [])::ds.map .dat) with
 | .rt (.dat .none) [b]=>.ok (.own false b) U
 | .ex c _=>.ex c U
 | _=>.bad
noncomputable def r_x(C:Addr)(f:FM)(mA:XM (List PyData)):XM Cell:=fun U=>(mA U).bind (n_w C f)
theorem m_v{K:Frag}{H:Hp}{O:List Addr}:∀{vs:List V}{ds:List PyData},DVs (hide O H) vs ds->ArgsAt K H O vs (ds.map .dat) (ds.map fun _=>[])
 | _,_,.nil=>.nil
 | _,_,.cons h t=>.dat h (m_v t)
theorem l_6{H:Hp}{O:List Addr}{a:Addr}{b:Bx}:∀{ds:List PyData}{vs:List V}{bs:List Bx}{fps:List (List Addr)},OutsAt H O vs (ds.map Cell.dat) bs fps->bs=[]/\fps=[]
 | [],_,_,_,.nil=>⟨rfl,rfl⟩
 | d::ds,_,_,_,.skip _ h=>l_6 (a:=a) (b:=b) h
theorem i_2{α β:Type}:∀l:List α,(l.map fun _=>([]:List β)).flatten=[]
 | []=>rfl
 | _::r=>by simp[i_2 r]
theorem r_J{mA:XM (List PyData)}(hx:XOk X F E)(M:Mk X.K C g)(G:FnOk X.prog X.w X.K X.mg X.base (CXM X.prog X.w) k g fd ps (spF X.K X.mg f))(hr:Room (k+1) X.A)(hg:Gl X x)(hm:X.mg x=some (.ref C))(hb:i_z X.K fd ps [])(ha:FA X F E (e::es) mA)
  (hdb:(x==("__debug__":Str))=false:=by decide) (he:starEach (e::es) X.env=(false,eval e X.env)::starEach es X.env:=by rfl) (hpl:(backTo pos (starEach es X.env)).any (·.1)=false:=by rfl) :
  FO X F E (.Call (.Name x p) (e::es) [] pos) (r_x C f mA):=by
 refine⟨a_m,fun pins s Y H Q I ⟨U,O,st,q⟩=>?_⟩
 refine wpAny_Call_Name_kw (h_L I hg hm ?_ hdb)
 have q':=a_w (E:=E) (m:=mA) (k:=n_w C f) (U:=U) q
 refine PySem.W.callWith_K (h₀:=X.base) I.ok.mod.kin M.kp (thn (ha.pa pos pins s Y H (fun vs H1=>∃ds U1 O1,DSt X.K F H1 Y U1 O1/\Stp O H O1 H1/\DVs (hide O1 H1) vs ds/\wp E (n_w C f ds) U1 (fun c U'=>∀v H' O' fp,Res X.K F H' Y U' O' v c fp->Stp O H O' H'->Q v H')) I ⟨U,O,st,ha.mn _ _ _ (fun ds U1 q1 vs H1 O1 st1 s1 dv=>⟨ds,U1,O1,st1,s1,dv,q1⟩) q'⟩) fun us s1 ⟨vs,H1,I1,r,ds,U1,O1,st1,s01,dv,q1⟩=>⟨I1.kIn,?_⟩) he hpl
 let EX:XK:=fun C _ H'=>∃c U' O',X.mg c=some C/\DSt X.K F H' Y U' O'/\E c U'
 have h:∀x dx,H1 x=none->H1 dx=none->dx≠x->spF X.K X.mg f (.ref x::vs) (upd (upd H1 dx (.own x)) x (.ins C dx [])) (fun v H2=>v=.non/\Q (.ref x) H2) EX:=fun x dx h1 h2 hne=>by
  obtain⟨W,stw,hO1⟩:=id st1
  have liv:∀a∈O1,∃o,H1 a=some o/\Mv o:=fun a h=>stw.live a (by rw[<-hO1];exact h)
  have nx:x∉O1:=fun z=>by obtain⟨o,e,_⟩:=liv x z;rw[h1] at e;cases e
  have ndx:dx∉O1:=fun z=>by obtain⟨o,e,_⟩:=liv dx z;rw[h2] at e;cases e
  have ndO:O1.Nodup:=by rw[hO1];exact stw.nd
  have up:∀b o,H1 b=some o->upd (upd H1 dx (.own x)) x (.ins C dx []) b=some o:=fun b o e=>by
   rw[a_u (fun z=>by subst z;rw[h1] at e;cases e),a_u (fun z=>by subst z;rw[h2] at e;cases e)];exact e
  have fl:(([x,dx]::ds.map fun _=>([]:List Addr)).flatten++O1)=x::dx::O1:=by rw[List.flatten_cons,i_2];rfl
  have hid:e_3 (hide O1 H1) (hide (x::dx::O1) (upd (upd H1 dx (.own x)) x (.ins C dx []))):=fun b o e=>by
   obtain⟨e1,n1⟩:=a_1 e
   refine e_x (up b o e1) fun z=>?_
   rcases List.mem_cons.mp z with z | z
   ·subst z;rw[h1] at e1;cases e1
   ·rcases List.mem_cons.mp z with z | z
    ·subst z;rw[h2] at e1;cases e1
    ·exact n1 z
  refine⟨(hx.1.at st1).mono fun b u _ e=>up b u e,.own true (.o C [])::ds.map .dat,[x,dx]::ds.map fun _=>[],O1,?_,?_,?_,?_⟩
  ·rw[fl]
   exact .own ⟨dx,[],[],rfl,a_A,by rw[a_u hne,a_A],.nil⟩ (m_v (DVs.mono hid dv))
  ·rw[fl]
   refine List.nodup_cons.mpr ⟨fun z=>?_,List.nodup_cons.mpr ⟨ndx,ndO⟩⟩
   rcases List.mem_cons.mp z with z | z
   ·exact hne z.symm
   ·exact nx z
  ·rw[fl]
   intro a ha
   rcases List.mem_cons.mp ha with rfl | ha
   ·exact⟨.ins C dx [],a_A,trivial⟩
   ·rcases List.mem_cons.mp ha with rfl | ha
    ·exact⟨.own x,by rw[a_u hne,a_A],trivial⟩
    ·obtain⟨o,e1,e2⟩:=liv a ha
     exact⟨o,up a o e1,e2⟩
  ·unfold wp n_w at q1
   have hL:([x,dx]::ds.map fun _=>([]:List Addr)).flatten=[x,dx]:=by rw[List.flatten_cons,i_2];rfl
   have st1':DSt X.K (F.plus []) H1 Y U1 O1:=st1
   have lift:∀(H':Hp) (L':List Addr),Beh (upd (upd H1 dx (.own x)) x (.ins C dx [])) H' [x,dx] L' O1->∃O3,DSt X.K (F.plus L') H' Y U1 O3/\Stp O1 H1 O3 H'/\(∀a∈L',a∈O3)/\(∀a∈O3,a∈L'\/a∈O1)/\∀a∈L',a∈F.A₀\/F.H₀ a=none:=fun H' L' bh=>by
    have new1:∀a∈L',H1 a=none:=fun a ha=>by
     rcases bh.new a ha with z | z
     ·simp only[List.mem_cons,List.not_mem_nil,or_false] at z
      rcases z with rfl | rfl
      ·exact h1
      ·exact h2
     ·cases e:H1 a with
      | none=>rfl
      | some o=>rw[up a o e] at z;cases z
    obtain⟨O3,t1,t2,t3,t4,_⟩:=st1'.swap (L':=L') (H':=H') (fun b o _ e=>bh.keep b o (fun z=>by
     simp only[List.mem_cons,List.not_mem_nil,or_false] at z
     rcases z with rfl | rfl
     ·rw[h1] at e;cases e
     ·rw[h2] at e;cases e) (up b o e)) (List.nodup_append.mp bh.nd).1 (fun a ha=>.inr (new1 a ha)) (fun a h=>by cases h) bh.live
    refine⟨O3,t1,t2,t3,fun a ha=>(t4 a ha).imp id (·.1),fun a ha=>?_⟩
    by_cases hA:a∈F.A₀
    ·exact .inl hA
    ·refine .inr ?_
     cases e:F.H₀ a with
     | none=>rfl
     | some o=>have:=stw.kept a o hA e;rw[new1 a ha] at this;cases this
   cases hf:f (.own true (.o C [])::ds.map .dat) with
   | bad=>rw[hf] at q1;exact q1
   | ex c outs=>
    rw[hf] at q1
    intro C' H' fps' hmc hou bh
    rw[hL] at bh
    obtain⟨O3,t1,t2,t3,t4,t5⟩:=lift H' [] ⟨ndO,fun a h=>(by cases h),bh.keep,fun a h=>(by cases h)⟩
    exact⟨c,U1,O3,hmc,t1,q1⟩
   | rt c outs=>
    rw[hf] at q1
    intro v H' fp fps' hca hou bh
    rw[hL] at bh
    match c,outs,q1 with
    | .dat .none,[b'],q1=>
     have hv:v=.non:=DV.non_inv hca
     cases hou with
     | skip hno _=>exact absurd rfl (hno _ _)
     | @own _ _ _ _ fp' _ _ _ fps0 hbx hrest=>
      obtain⟨_,rfl⟩:=l_6 (a:=0) (b:=b') hrest
      refine⟨hv,?_⟩
      simp only[List.flatten_cons,List.flatten_nil,List.append_nil] at hbx bh
      have bh':Beh (upd (upd H1 dx (.own x)) x (.ins C dx [])) H' [x,dx] fp' O1:=⟨by
       have n1:=bh.nd
       rw[List.append_assoc] at n1
       obtain⟨m1,m2,m3⟩:=List.nodup_append.mp n1
       exact List.nodup_append.mpr ⟨m1,ndO,fun a ha b hb=>m3 a ha b (Qai _ hb)⟩,fun a ha=>bh.live a (Qaj _ ha),bh.keep,fun a ha=>bh.new a (Qaj _ ha)⟩
      obtain⟨O3,t1,t2,t3,t4,t5⟩:=lift H' fp' bh'
      refine q1 (.ref x) H' O3 fp' ⟨t1,⟨x,rfl,hbx.keep (fun _ _=>rfl) (f_w fun a ha=>?_)⟩,t5⟩ (s01.trans t2)
      rcases t4 a ha with z | z
      ·exact Qaj _ (Qaj _ z)
      ·exact Qai _ z
 have hq:=h (s1.heap.objs.size+1) s1.heap.objs.size (I1.hok.fresh (Nat.le_succ _)) (I1.hok.fresh (Qae _)) (Nat.ne_of_lt (Nat.lt_succ_self _))
 have I2:=Inv.made (C:=C) I1
 have r2:b_M (V.ref (s1.heap.objs.size+1)::vs) (Value.ref (s1.heap.objs.size+1)::us):=.cons rfl r
 have hl:(Value.ref (s1.heap.objs.size+1)::us++[]).length=ps.length:=by
  have e:=r2.length
  rw[G.len _ _ _ _ hq] at e
  rw[List.append_nil]
  exact e.symm
 refine wpAny_call (p_N (f:=g) I1.kIn M.makes M.init (beq_iff_eq.mp M.fn) (codeAny_mono (G.run _ X.stack _ _ ⟨Value.ref (s1.heap.objs.size+1)::us,[]⟩ (Value.ref (s1.heap.objs.size+1)::us) _ _ EX (hr.make C us [])
  (I2.env0.make C us []) (by have:=hb _ (Value.ref (s1.heap.objs.size+1)::us) I2.kIn hl;rw[List.append_nil] at this;exact this) r2 hq) fun r s' hq'=>?_))
 cases r with
 | error e=>
  obtain⟨a,C',H',e1,I',cv,ex,c,U',O',hmc,st',hE⟩:=I2.flies hq'
  exact hx.2 pins Y H' s' e c U' O' ⟨I',a,C',_,_,e1,cv,ex,hmc⟩ st' hE
 | ok fl=>
  cases fl with
  | ret u=>
   obtain⟨v,H',I3,rv,ev,q3⟩:=I2.after hq'
   subst ev
   exact⟨rv,⟨V.ref (s1.heap.objs.size+1),H',I3,rfl,q3⟩⟩
  | next=>exact False.elim hq'
  | brk=>exact False.elim hq'
  | cont=>exact False.elim hq'
end
noncomputable def o_P:Fl->Bool
 | .d _=>false
 | _=>true
theorem t_7{G H:Hp}{v:V}{x:Fl}{fp:List Addr}(h:l_9 G H v x fp)(ho:o_P x=true):∃b,v=.ref b/\fp=[b]:=by
 cases x with
 | d _=>cases ho
 | l ds=>obtain⟨a,xs,e1,e2,_⟩:=h;exact⟨a,e1,e2⟩
 | m tk kvs=>obtain⟨a,e1,e2,_⟩:=h;exact⟨a,e1,e2⟩
theorem o_G{G H:Hp}{f:Str}{x:Fl}(ho:o_P x=true):∀{gs:List (Str×V)}{fs:List (Str×Fl)}{fps:List (List Addr)},FlsAt G H gs fs fps->fs.lookup f=some x->fps.flatten.Nodup->
  ∃b,gs.lookup f=some (.ref b)/\l_9 G H (.ref b) x [b]/\b∈fps.flatten/\∀(G' H':Hp) (x':Fl),e_3 G G'->(∀c∈fps.flatten,c≠b->H' c=H c)->l_9 G' H' (.ref b) x' [b]->FlsAt G' H' gs (a_0 f x' fs) fps
 | _,_,_,.nil,hl,_=>by cases hl
 | (n,v)::gs,(_,y)::fs,fp::fps,.cons h1 h2,hl,nd=>by
  rw[List.flatten_cons] at nd
  obtain⟨n1,n2,n3⟩:=List.nodup_append.mp nd
  by_cases e:f=n
  ·subst e
   have hy:y=x:=by simpa[List.lookup] using hl
   subst hy
   obtain⟨b,rfl,rfl⟩:=t_7 h1 ho
   refine⟨b,by simp[List.lookup],h1,by simp,fun G' H' x' g k hx'=>?_⟩
   unfold a_0
   rw[if_pos rfl]
   refine .cons hx' (h2.keep (fun c hc=>k c (by rw[List.flatten_cons];exact Qai _ hc) fun z=>?_) g)
   exact n3 b (by simp) c hc z.symm
  ·have e':(f==n)=false:=by simpa using e
   rw[List.lookup_cons,e'] at hl
   obtain⟨b,q1,q2,q3,q4⟩:=o_G ho h2 hl n2
   refine⟨b,by rw[List.lookup_cons,e'];exact q1,q2,by rw[List.flatten_cons];exact Qai _ q3,fun G' H' x' g k hx'=>?_⟩
   unfold a_0
   rw[if_neg (fun z=>e z.symm)]
   refine .cons (h1.keep (fun c hc=>k c (by rw[List.flatten_cons];exact Qaj _ hc) fun z=>?_) g) (q4 G' H' x' g (fun c hc hne=>k c (by rw[List.flatten_cons];exact Qai _ hc) hne) hx')
   exact n3 c hc b q3 z
theorem DSt.fldUp{K:Frag}{F:Fx}{H:Hp}{Y:St}{U:a_q}{O:List Addr}{C:Addr}{i:Nat}{io:Bool}{fs:List (Str×Fl)}{f:Str}{x:Fl}(st:DSt K F H Y U O)(ho:e_z C U i=some (io,fs))(lk:fs.lookup f=some x)(hx:o_P x=true) :
  ∃a dx gs b,Y[i]? = some (some (.ref a))/\H a=some (.ins C dx gs)/\gs.lookup f=some (.ref b)/\l_9 (hide O H) H (.ref b) x [b]/\
   ∀(o':HO) (x':Fl),Mv o'->(∀G,e_3 (hide O H) G->l_9 G (upd H b o') (.ref b) x' [b])->∃O',DSt K F (upd H b o') Y (U.set i (some (.own io (.o C (a_0 f x' fs))))) O'/\Stp O H O' (upd H b o'):=by
 obtain⟨a,fp,hv0,⟨dx,gs,fps,e1,e2,e3,e4⟩,hO,nd,up⟩:=st.boxN (e_y ho)
 subst e1
 have nd':=nd
 rw[List.nodup_cons,List.nodup_cons] at nd'
 obtain⟨na,ndx,nf⟩:=nd'
 obtain⟨b,q1,q2,q3,q4⟩:=o_G hx e4 lk nf
 have ba:a≠b:=fun z=>na (by rw[z];exact Qak _ q3)
 have bd:dx≠b:=fun z=>ndx (by rw[z];exact q3)
 refine⟨a,dx,gs,b,hv0,e2,q1,q2,fun o' x' hM hf=>?_⟩
 obtain⟨O',st',s',_⟩:=up (upd H b o') (.o C (a_0 f x' fs)) (a::dx::fps.flatten) (fun c o hc e=>by rw[a_u (fun z=>hc (by rw[z];exact Qak _ (Qak _ q3)))];exact e) nd (fun c hc=>.inl hc) (fun G O' s hG _=>by
  subst hG
  exact⟨s.hid,dx,gs,fps,rfl,by rw[a_u ba];exact e2,by rw[a_u bd];exact e3,q4 _ _ x' s.hid (fun c _ hne=>a_u hne) (hf _ s.hid)⟩)
 exact⟨O',st',s'⟩
section
variable{X:Cx}{F:Fx}{E:Str->a_q->Prop}{e a b c:Expr}{es:List Expr}{st:Stmt}{pos p1 apos cpos fpos:Pos}{x f:Str}{C:Addr}{i:Nat}{m:XM PyData}
noncomputable def g_W(C:Addr)(i:Nat)(f:Str)(d:PyData):SM:=fun U=>match e_z C U i with
 | some (io,fs)=>(match fs.lookup f with
  | some (.l ds)=>if ds.length<sizeLine then .nx (U.set i (some (.own io (.o C (a_0 f (.l (ds++[d])) fs))))) else .bad
  | _=>.bad)
 | none=>.bad
noncomputable def e_9(U:a_q)(j:Nat):Option PyData:=match U[j]? with
 | some (some (.dat d))=>some d
 | _=>none
theorem g_C{U:a_q}{j:Nat}{d:PyData}(h:e_9 U j=some d):U[j]? = some (some (.dat d)):=by
 unfold e_9 at h
 split at h
 ·rename_i e;cases h;exact e
 ·cases h
noncomputable def f_5(C:Addr)(i:Nat)(f:Str)(j:Nat):SM:=fun U=>match e_9 U j with
 | some d=>g_W C i f d U
 | none=>.bad
theorem n_I{y:Str}{p2:Pos}{j:Nat}(cl:Cls X.K C)(na:b_a X.K C f)(hv:PE X (.Name x p1) (f_r i))(hy:PE X (.Name y p2) (f_r j))(hb:attributeBase (.Name x p1) f X.env (eval (.Name x p1) X.env)=eval (.Name x p1) X.env:=by rfl)
  (hsw:swapsWith (.Call (.Attribute (.Attribute (.Name x p1) f fpos) "append" apos) [.Name y p2] [] cpos) none pos.line X.env=pure false:=by rfl)
  (hbase:attributeBase (.Attribute (.Name x p1) f fpos) "append" X.env (eval (.Attribute (.Name x p1) f fpos) X.env)=eval (.Attribute (.Name x p1) f fpos) X.env:=by rfl)
  (hfew:((backTo cpos (starEach [.Name y p2] X.env)).all (fun x=>!x.1)&&(backToKw cpos (keywordEach [] X.env)).all (fun x=>x.1.isSome)&&decide (([.Name y p2]:List Expr).length+([]:List Keyword).length+(if ([]:List Keyword).isEmpty then 0 else 1)<30))=true:=by rfl)
  (hline:(apos.endLine==cpos.line)=true:=by rfl) (hs:starEach [.Name y p2] X.env=(false,eval (.Name y p2) X.env)::starEach [] X.env:=by rfl) (hplain:(backTo cpos (starEach [] X.env)).any (·.1)=false:=by rfl) :
  FS X F E (.Expr (.Call (.Attribute (.Attribute (.Name x p1) f fpos) "append" apos) [.Name y p2] [] cpos) pos) (f_5 C i f j):=
 (l_W (u_a PySem.F.plainAttrs_list PySem.F.slot_list_append PySem.F.type_list_append k_D (i_R hv hb) (b_G hy d_9 hs) hbase hfew hline hs hplain) hsw).imp fun D Y H ⟨U,O,DD,st,q,fD⟩=>by
  unfold wpS f_5 at q
  cases hd':e_9 U j with
  | none=>rw[hd'] at q;exact q.elim
  | some d=>
   have hd:=g_C hd'
   rw[hd'] at q
   simp only at q
   unfold g_W at q
   cases ho:e_z C U i with
   | none=>rw[ho] at q;exact q.elim
   | some p=>
    obtain⟨io,fs⟩:=p
    rw[ho] at q
    simp only at q
    cases hlk:fs.lookup f with
    | none=>rw[hlk] at q;exact q.elim
    | some z=>
     rw[hlk] at q
     cases z with
     | d _=>exact q.elim
     | m _ _=>exact q.elim
     | l ds=>
      simp only at q
      by_cases hz:ds.length<sizeLine
      ·rw[if_pos hz] at q
       obtain⟨a0,dx,gs,b0,hv0,e2,q1,⟨b1,xs,eb,_,hH,hdv⟩,up⟩:=st.fldUp ho hlk rfl
       cases eb
       obtain⟨w,hw,hwd⟩:=st.dat hd
       obtain⟨O2,st2,s2⟩:=up (.lst (xs++[w])) (.l (ds++[d])) trivial (fun G g=>⟨b0,xs++[w],rfl,rfl,a_A,(DVs.mono g hdv).append (.cons (DV.mono g hwd) .nil)⟩)
       exact⟨_,hv0,a0,C,dx,gs,.ref b0,rfl,e2,cl,na,q1,.inl ⟨rfl,xs,.of hH⟩,w,hw,b0,xs,w,rfl,rfl,hH,by rw[hdv.length];exact hz,fD.nx _ _ _ _ st2 s2 q⟩
      ·rw[if_neg hz] at q;exact q.elim
noncomputable def g_h(C:Addr)(i:Nat)(f:Str)(j l:Nat)(v:PyData):SM:=fun U=>match e_z C U i,e_9 U j,e_9 U l with
 | some (io,fs),some y,some z=>(match fs.lookup f,u_h true (.tuple [y,z]) with
  | some (.m true kvs),some k=>if kvs.length<sizeLine then .nx (U.set i (some (.own io (.o C (a_0 f (.m true (h_f true kvs (.tuple [y,z]) k v)) fs))))) else .bad
  | _,_=>.bad)
 | _,_,_=>.bad
noncomputable def g_R(C:Addr)(i:Nat)(f:Str)(j l:Nat)(m:XM PyData):SM:=fun U=>ofX (m U) (g_h C i f j l)
theorem p_k{y z:Str}{p2 p3 p4 pos':Pos}{j l kx:Nat}(hu:X.A.units+1<cLine)(cl:Cls X.K C)(na:b_a X.K C f)(hv:PE X (.Name x p1) (f_r i))(hy:PE X (.Name y p2) (f_r j))(hz:PE X (.Name z p3) (f_r l))(he:FE X F E e m)(hb:attributeBase (.Name x p1) f X.env (eval (.Name x p1) X.env)=eval (.Name x p1) X.env:=by rfl)
  (h1:starEach [.Name y p2,.Name z p3] X.env=(false,eval (.Name y p2) X.env)::starEach [.Name z p3] X.env:=by rfl) (h2:starEach [.Name z p3] X.env=(false,eval (.Name z p3) X.env)::starEach [] X.env:=by rfl)
  (hs:swapsWith e (some (.Subscript (.Attribute (.Name x p1) f fpos) (.Tuple [.Name y p2,.Name z p3] kx p4) pos')) pos.line X.env=pure false:=by rfl) :
  FS X F E (.Assign [.Subscript (.Attribute (.Name x p1) f fpos) (.Tuple [.Name y p2,.Name z p3] kx p4) pos'] e pos) (g_R C i f j l m):=
 (r_4 hu (i_R hv hb) (p_o (b_G hy (b_G hz d_9 h2) h1)) he.pe hs).imp fun D Y H ⟨U,O,DD,st,q,fD⟩=>⟨U,O,st,a_m _ _ _ (fun v U1 q1 vy H1 O1 st1 s1 d1=>by
  unfold wpS g_h at q1
  cases ho:e_z C U1 i with
  | none=>rw[ho] at q1;exact q1.elim
  | some p=>
   obtain⟨io,fs⟩:=p
   cases hj:e_9 U1 j with
   | none=>rw[ho,hj] at q1;exact q1.elim
   | some y0=>
    cases hl:e_9 U1 l with
    | none=>rw[ho,hj,hl] at q1;exact q1.elim
    | some z0=>
     rw[ho,hj,hl] at q1
     simp only at q1
     cases hlk:fs.lookup f with
     | none=>rw[hlk] at q1;exact q1.elim
     | some t=>
      rw[hlk] at q1
      cases t with
      | d _=>exact q1.elim
      | l _=>exact q1.elim
      | m tk kvs=>
       cases tk with
       | false=>exact q1.elim
       | true=>
        cases hk:u_h true (.tuple [y0,z0]) with
        | none=>rw[hk] at q1;exact q1.elim
        | some k=>
         rw[hk] at q1
         simp only at q1
         by_cases hsz:kvs.length<sizeLine
         ·rw[if_pos hsz] at q1
          obtain⟨a0,dx,gs,b0,hv0,e2,l1,_,_⟩:=st1.fldUp ho hlk rfl
          obtain⟨w1,hw1,dw1⟩:=st1.dat (g_C hj)
          obtain⟨w2,hw2,dw2⟩:=st1.dat (g_C hl)
          refine⟨_,hv0,a0,C,dx,gs,.ref b0,rfl,e2,cl,na,l1,w1,hw1,w2,hw2,show 2<=sizeLine by decide,fun p hp=>?_⟩
          have sm:e_3 H1 (upd H1 p (.tup [w1,w2])):=a_l hp
          have st2:=st1.grow sm
          have hd:=d_F (O:=O1) sm
          obtain⟨a1,dx1,gs1,b1,hv1,e3,l2,⟨b2,eb,_,dic⟩,up⟩:=st2.fldUp ho hlk rfl
          rw[hv0] at hv1
          cases hv1
          rw[sm _ _ e2] at e3
          cases e3
          rw[l1] at l2
          cases l2
          cases eb
          obtain⟨o',g1,mv,g2⟩:=t_g dic j_W (f_A hp (st1.nofree p hp) (.cons dw1 (.cons dw2 .nil))) (DV.mono hd d1) hk hsz
          obtain⟨O3,st3,s3⟩:=up o' (.m true (h_f true kvs (.tuple [y0,z0]) k v)) mv (fun G g=>⟨b0,rfl,rfl,g2 G g⟩)
          exact⟨b0,_,rfl,g1,fD.nx _ _ _ _ st3 (s1.trans ((Stp.same sm).trans s3)) q1⟩
         ·rw[if_neg hsz] at q1;exact q1.elim) (c_q (m:=m) (k:=g_h C i f j l) q)⟩
end
section
variable{X:Cx}{F:Fx}{E:Str->a_q->Prop}{e a b c:Expr}{es:List Expr}{st:Stmt}{pos p1 apos cpos fpos:Pos}{x f:Str}{C:Addr}{i:Nat}{m:XM PyData}
noncomputable def k_C(C:Addr)(i:Nat)(f:Str)(j:Nat):XM PyData:=fun U=>match e_z C U i,e_9 U j with
 | some (_,fs),some (.int k)=>(match fs.lookup f with
  | some (.l ds)=>lift (atI ds k) U
  | some (.d (.list ds))=>lift (atI ds k) U
  | some (.d (.tuple ds))=>.bad
  | _=>.bad)
 | _,_=>.bad
theorem n_J{G:Hp}{xs:List V}{ds:List PyData}{k:Int}{d:PyData}(h:DVs G xs ds)(e:atI ds k=some d):∃v,atI xs k=some v/\DV G v d:=by
 unfold atI at e ⊢
 rw[h.length]
 cases hx:ixN ds.length k with
 | none=>rw[hx] at e;cases e
 | some j=>
  rw[hx] at e
  exact h.get e
theorem q_w{y:Str}{p2:Pos}{j:Nat}(cl:Cls X.K C)(na:b_a X.K C f)(hv:PE X (.Name x p1) (f_r i))(hy:PE X (.Name y p2) (f_r j))(hb:attributeBase (.Name x p1) f X.env (eval (.Name x p1) X.env)=eval (.Name x p1) X.env:=by rfl)(hs:h_9 (.Name y p2):=by intro _ _;rfl) :
  FE X F E (.Subscript (.Attribute (.Name x p1) f fpos) (.Name y p2) pos) (k_C C i f j):=
 ⟨a_m,(s_l l_y (i_R hv hb) hy hs).imp fun Y H Q ⟨U,O,st,q⟩=>by
  unfold wp k_C at q
  cases ho:e_z C U i with
  | none=>rw[ho] at q;exact q.elim
  | some p=>
   obtain⟨io,fs⟩:=p
   cases hj:e_9 U j with
   | none=>rw[ho,hj] at q;exact q.elim
   | some y0=>
    rw[ho,hj] at q
    cases y0 with
    | int k=>
     simp only at q
     obtain⟨w,hw,dw⟩:=st.dat (g_C hj)
     obtain rfl:=dw.int_inv
     cases hlk:fs.lookup f with
     | none=>rw[hlk] at q;exact q.elim
     | some t=>
      rw[hlk] at q
      cases t with
      | m _ _=>exact q.elim
      | l ds=>
       obtain⟨a0,dx,gs,b0,hv0,e2,l1,⟨b1,xs,eb,_,hH,hdv⟩,_⟩:=st.fldUp ho hlk rfl
       cases eb
       obtain⟨d,e1,q2⟩:=a_X (o:=atI ds k) (U:=U) (E:=E) q
       obtain⟨v,ev,dv⟩:=n_J hdv e1
       exact⟨_,hv0,a0,C,dx,gs,.ref b0,rfl,e2,cl,na,l1,_,hw,b0,xs,k,v,rfl,rfl,.of hH,ev,q2 v H O st .refl dv⟩
      | d x0=>
       cases x0 with
       | list ds=>
        obtain⟨a0,fp,hv0,⟨dx,gs,fps,e1,e2,e3,e4⟩,_,_⟩:=st.box (e_y ho)
        rcases g_t e4 f with⟨_,l2⟩ | ⟨v,y1,fp',l1,l2,l3,_⟩
        ·rw[hlk] at l2;cases l2
        ·rw[hlk] at l2;cases l2
         obtain⟨b1,xs,rfl,hH,hdv⟩:=l3.2.lst_inv
         obtain⟨d,e1,q2⟩:=a_X (o:=atI ds k) (U:=U) (E:=E) q
         obtain⟨v,ev,dv⟩:=n_J hdv e1
         exact⟨_,hv0,a0,C,dx,gs,.ref b1,rfl,e2,cl,na,l1,_,hw,b1,xs,k,v,rfl,rfl,.of (a_1 hH).1,ev,q2 v H O st .refl dv⟩
       | _=>exact q.elim
    | _=>exact q.elim⟩
noncomputable def g_f(C:Addr)(i:Nat)(f:Str)(j:Nat)(v:PyData):SM:=fun U=>match e_z C U i,e_9 U j with
 | some (io,fs),some (.int k)=>(match fs.lookup f with
  | some (.l ds)=>(match ixN ds.length k with
   | some n=>.nx (U.set i (some (.own io (.o C (a_0 f (.l (ds.set n v)) fs)))))
   | none=>.bad)
  | _=>.bad)
 | _,_=>.bad
noncomputable def g_3(C:Addr)(i:Nat)(f:Str)(j:Nat)(m:XM PyData):SM:=fun U=>ofX (m U) (g_f C i f j)
theorem n_u{G:Hp}{v:V}{d:PyData}(hd:DV G v d):∀{xs:List V}{ds:List PyData}(n:Nat),DVs G xs ds->DVs G (xs.set n v) (ds.set n d)
 | _,_,_,.nil=>.nil
 | _,_,0,.cons _ t=>.cons hd t
 | _,_,n+1,.cons h t=>.cons h (n_u hd n t)
theorem n_t{y:Str}{p2 pos':Pos}{j:Nat}(cl:Cls X.K C)(na:b_a X.K C f)(hv:PE X (.Name x p1) (f_r i))(hy:PE X (.Name y p2) (f_r j))(he:FE X F E e m)(hb:attributeBase (.Name x p1) f X.env (eval (.Name x p1) X.env)=eval (.Name x p1) X.env:=by rfl)
  (hs:swapsWithSole [.Subscript (.Attribute (.Name x p1) f fpos) (.Name y p2) pos'] e pos.line X.env=pure false:=by rfl) (hw:swappedStores [.Subscript (.Attribute (.Name x p1) f fpos) (.Name y p2) pos'] e X.env=pure none:=by rfl)
  (h1:(assignEach [.Subscript (.Attribute (.Name x p1) f fpos) (.Name y p2) pos'] X.env).map (·.2)=[assign (.Subscript (.Attribute (.Name x p1) f fpos) (.Name y p2) pos') X.env]:=by rfl)
  (hq:∀v,assign (.Subscript (.Attribute (.Name x p1) f fpos) (.Name y p2) pos') X.env v=(do
   let ov <-holding [v] (eval (.Attribute (.Name x p1) f fpos) X.env)
   let iv <-holding [v,ov] (eval (.Name y p2) X.env)
   standAt pos'
   holding [v,ov,iv] (setItem ov iv v)
   release [v,ov,iv] []):=by intro _;rfl) :
  FS X F E (.Assign [.Subscript (.Attribute (.Name x p1) f fpos) (.Name y p2) pos'] e pos) (g_3 C i f j m):=
 (o_u he.pe (t_Y (i_R hv hb) hy q_g hq) hs hw h1).imp fun D Y H ⟨U,O,DD,st,q,fD⟩=>⟨U,O,st,a_m _ _ _ (fun v U1 q1 vy H1 O1 st1 s1 d1=>by
  unfold wpS g_f at q1
  cases ho:e_z C U1 i with
  | none=>rw[ho] at q1;exact q1.elim
  | some p=>
   obtain⟨io,fs⟩:=p
   cases hj:e_9 U1 j with
   | none=>rw[ho,hj] at q1;exact q1.elim
   | some y0=>
    rw[ho,hj] at q1
    cases y0 with
    | int k=>
     simp only at q1
     cases hlk:fs.lookup f with
     | none=>rw[hlk] at q1;exact q1.elim
     | some t=>
      rw[hlk] at q1
      cases t with
      | d _=>exact q1.elim
      | m _ _=>exact q1.elim
      | l ds=>
       simp only at q1
       cases hn:ixN ds.length k with
       | none=>rw[hn] at q1;exact q1.elim
       | some n=>
        rw[hn] at q1
        obtain⟨w,hw',dw⟩:=st1.dat (g_C hj)
        obtain rfl:=dw.int_inv
        obtain⟨a0,dx,gs,b0,hv0,e2,l1,⟨b1,xs,eb,_,hH,hdv⟩,up⟩:=st1.fldUp ho hlk rfl
        cases eb
        obtain⟨O2,st2,s2⟩:=up (.lst (xs.set n vy)) (.l (ds.set n v)) trivial (fun G g=>⟨b0,xs.set n vy,rfl,rfl,a_A,n_u (DV.mono g d1) n (DVs.mono g hdv)⟩)
        exact⟨_,hv0,a0,C,dx,gs,.ref b0,rfl,e2,cl,na,l1,_,hw',b0,xs,k,n,rfl,rfl,hH,by rw[hdv.length];exact hn,fD.nx _ _ _ _ st2 (s1.trans s2) q1⟩
    | _=>exact q1.elim) (c_q (m:=m) (k:=g_f C i f j) q)⟩
noncomputable def j_I(C:Addr)(i:Nat)(f:Str)(n:Int):SM:=fun U=>match e_z C U i with
 | some (io,fs)=>(match fs.lookup f with
  | some (.d (.int v))=>if fs.length<1000 then .nx (U.set i (some (.own io (.o C (a_0 f (.d (.int (v+n))) fs))))) else .bad
  | _=>.bad)
 | none=>.bad
theorem o_e{n:Int}{tpos:Pos}(cl:Cls X.K C)(na:b_a X.K C f)(hv:PE X (.Name x p1) (f_r i))(he:PE X e (fun Y H Q=>Q (.int n) H)):FS X F E (.AugAssign (.Attribute (.Name x p1) f tpos) .Add e pos) (j_I C i f n):=
 (n_S hv he t_U).imp fun D Y H ⟨U,O,DD,st,q,fD⟩=>by
  unfold wpS j_I at q
  cases ho:e_z C U i with
  | none=>rw[ho] at q;exact q.elim
  | some p=>
   obtain⟨io,fs⟩:=p
   rw[ho] at q
   simp only at q
   cases hlk:fs.lookup f with
   | none=>rw[hlk] at q;exact q.elim
   | some t=>
    rw[hlk] at q
    cases t with
    | l _=>exact q.elim
    | m _ _=>exact q.elim
    | d x0=>
     cases x0 with
     | int v0=>
      simp only at q
      by_cases hz:fs.length<1000
      ·rw[if_pos hz] at q
       obtain⟨a0,fp,hv0,⟨dx,gs,fps,e1,e2,e3,e4⟩,hO,nd,up⟩:=st.boxN (e_y ho)
       subst e1
       have ndx:dx≠a0:=fun z=>by subst z;simp at nd
       rcases g_t e4 f with⟨_,l2⟩ | ⟨v,y1,fp',l1,l2,l3,_⟩
       ·rw[hlk] at l2;cases l2
       ·rw[hlk] at l2;cases l2
        obtain rfl:=l3.2.int_inv
        obtain⟨O3,st3,s3,_⟩:=up (upd H a0 (.ins C dx (g_i f (.int (v0+n)) gs))) (.o C (a_0 f (.d (.int (v0+n))) fs)) (a0::dx::fps.flatten) (fun c o hcn e=>by rw[a_u (fun z=>hcn (by simp[z]))];exact e) nd (fun c hc=>.inl hc) (fun G O' s hG _=>by
         subst hG
         refine⟨s.hid,dx,g_i f (.int (v0+n)) gs,if (fs.lookup f).isSome=true then fps else fps++[[]],?_,a_A,by rw[a_u ndx];exact e3,?_⟩
         ·split
          ·rfl
          ·simp
         ·refine e4.putD (by rw[hlk];rfl) (.int _) s.hid fun c hc=>a_u (fun z=>?_)
          subst z
          exact absurd hc (fun w=>(List.nodup_cons.mp nd).1 (Qak _ w)))
        exact⟨_,hv0,a0,C,dx,gs,_,rfl,e2,cl,na,l1,v0,n,rfl,rfl,dx,gs,e2,by rw[e4.len];exact hz,fD.nx _ _ _ _ st3 s3 q⟩
      ·rw[if_neg hz] at q;exact q.elim
     | _=>exact q.elim
end
theorem p_p{G G' H H':Hp}{f:Str}{p:Addr}{y:Fl}:∀{gs:List (Str×V)}{fs:List (Str×Fl)}{fps:List (List Addr)},FlsAt G H gs fs fps->fs.lookup f=none->e_3 G G'->(∀c∈fps.flatten,H' c=H c)->l_9 G' H' (.ref p) y [p]->FlsAt G' H' (g_i f (.ref p) gs) (a_0 f y fs) (fps++[[p]])
 | _,_,_,.nil,_,_,_,h=>.cons h .nil
 | (n,v)::gs,(_,z)::fs,fp::fps,.cons h1 h2,hl,g,k,h=>by
  by_cases e:f=n
  ·subst e
   simp[List.lookup] at hl
  ·have e':(f==n)=false:=by simpa using e
   rw[List.lookup_cons,e'] at hl
   unfold g_i a_0
   rw[if_neg (fun z=>e z.symm),if_neg (fun z=>e z.symm)]
   exact .cons (h1.keep (fun c hc=>k c (by rw[List.flatten_cons];exact Qaj _ hc)) g) (p_p h2 hl g (fun c hc=>k c (by rw[List.flatten_cons];exact Qai _ hc)) h)
theorem DSt.fldNew{K:Frag}{F:Fx}{H:Hp}{Y:St}{U:a_q}{O:List Addr}{C:Addr}{i:Nat}{io:Bool}{fs:List (Str×Fl)}{f:Str}(st:DSt K F H Y U O)(ho:e_z C U i=some (io,fs))(lk:fs.lookup f=none) :
  ∃a dx gs,Y[i]? = some (some (.ref a))/\H a=some (.ins C dx gs)/\gs.length=fs.length/\
   ∀(p:Addr) (o':HO) (y:Fl),H p=none->Mv o'->(∀G,e_3 (hide O H) G->l_9 G (upd (upd H p o') a (.ins C dx (g_i f (.ref p) gs))) (.ref p) y [p])->upd H p o' a=some (.ins C dx gs)/\∃O',DSt K F (upd (upd H p o') a (.ins C dx (g_i f (.ref p) gs))) Y (U.set i (some (.own io (.o C (a_0 f y fs))))) O'/\Stp O H O' (upd (upd H p o') a (.ins C dx (g_i f (.ref p) gs))):=by
 obtain⟨a,fp,hv0,⟨dx,gs,fps,e1,e2,e3,e4⟩,hO,nd,up⟩:=st.boxN (e_y ho)
 subst e1
 have nd':=nd
 rw[List.nodup_cons,List.nodup_cons] at nd'
 obtain⟨na,ndx,nf⟩:=nd'
 have ad:dx≠a:=fun z=>na (by rw[z];exact List.mem_cons_self)
 refine⟨a,dx,gs,hv0,e2,e4.len,fun p o' y hp hM hf=>?_⟩
 have pa:a≠p:=fun z=>by subst z;rw[e2] at hp;cases hp
 have pd:dx≠p:=fun z=>by subst z;rw[e3] at hp;cases hp
 have liv:=st.live
 have pf:p∉fps.flatten:=fun z=>by
  exact absurd (hO p (Qak _ (Qak _ z))) (st.nofree p hp)
 refine⟨by rw[a_u pa];exact e2,?_⟩
 obtain⟨O',st',s',_⟩:=up (upd (upd H p o') a (.ins C dx (g_i f (.ref p) gs))) (.o C (a_0 f y fs)) (a::dx::(fps++[[p]]).flatten) (fun c o hc e=>by
   rw[a_u (fun z=>hc (by simp[z])),a_u (fun z=>by subst z;rw[hp] at e;cases e)];exact e) (by
   rw[List.flatten_append]
   simp only[List.flatten_cons,List.flatten_nil,List.append_nil]
   refine List.nodup_cons.mpr ⟨fun z=>?_,List.nodup_cons.mpr ⟨fun z=>?_,List.nodup_append.mpr ⟨nf,by simp,fun x hx y hy=>?_⟩⟩⟩
   ·rcases List.mem_cons.mp z with z | z
    ·exact ad z.symm
    ·rcases List.mem_append.mp z with z | z
     ·exact na (Qak _ z)
     ·exact pa (List.mem_singleton.mp z)
   ·rcases List.mem_append.mp z with z | z
    ·exact ndx z
    ·exact pd (List.mem_singleton.mp z)
   ·rw[List.mem_singleton.mp hy];exact fun z=>pf (by rw[<-z];exact hx)) (fun c hc=>by
   rw[List.flatten_append] at hc
   simp only[List.flatten_cons,List.flatten_nil,List.append_nil] at hc
   rcases List.mem_cons.mp hc with rfl | hc
   ·exact .inl List.mem_cons_self
   ·rcases List.mem_cons.mp hc with rfl | hc
    ·exact .inl (by simp)
    ·rcases List.mem_append.mp hc with hc | hc
     ·exact .inl (Qak _ (Qak _ hc))
     ·exact .inr (by rw[List.mem_singleton.mp hc];exact hp)) (fun G O' s hG _=>by
  subst hG
  refine⟨s.hid,dx,g_i f (.ref p) gs,fps++[[p]],rfl,a_A,by rw[a_u ad,a_u pd];exact e3,p_p e4 lk s.hid (fun c hc=>?_) (hf _ s.hid)⟩
  rw[a_u (fun z=>na (by rw[<-z];exact Qak _ hc)),a_u (fun z=>pf (by rw[<-z];exact hc))])
 exact⟨O',st',s'⟩
section
variable{X:Cx}{F:Fx}{E:Str->a_q->Prop}{e a b c:Expr}{es:List Expr}{st:Stmt}{pos p1 p2 apos cpos fpos pos':Pos}{x f:Str}{C:Addr}{i:Nat}{m:XM PyData}
noncomputable def f_U(C:Addr)(i:Nat)(f:Str)(y:Fl):SM:=fun U=>match e_z C U i with
 | some (io,fs)=>if fs.lookup f=none/\fs.length<1000 then .nx (U.set i (some (.own io (.o C (a_0 f y fs))))) else .bad
 | none=>.bad
theorem o_j(cl:Cls X.K C)(na:b_a X.K C f)(hv:PE X (.Name x p1) (f_r i))(hs:swapsWith (.List [] p2) (some (.Attribute (.Name x p1) f pos')) pos.line X.env=pure false:=by rfl):FS X F E (.Assign [.Attribute (.Name x p1) f pos'] (.List [] p2) pos) (f_U C i f (.l [])):=
 (m_i hv (m_u d_9) hs).imp fun D Y H ⟨U,O,DD,st,q,fD⟩=>by
  unfold wpS f_U at q
  cases ho:e_z C U i with
  | none=>rw[ho] at q;exact q.elim
  | some p=>
   obtain⟨io,fs⟩:=p
   rw[ho] at q
   simp only at q
   by_cases hc:fs.lookup f=none/\fs.length<1000
   ·rw[if_pos hc] at q
    obtain⟨a0,dx,gs,hv0,e2,hl,nw⟩:=st.fldNew ho hc.1
    refine⟨Nat.zero_le _,fun p hp=>?_⟩
    have pa:a0≠p:=fun z=>by subst z;rw[e2] at hp;cases hp
    obtain⟨h1,O3,st3,s3⟩:=nw p (.lst []) (.l []) hp trivial (fun G g=>⟨p,[],rfl,rfl,by rw[a_u (fun z=>pa z.symm),a_A],.nil⟩)
    exact⟨_,hv0,a0,C,dx,gs,rfl,h1,cl,na,by rw[hl];exact hc.2,fD.nx _ _ _ _ st3 s3 q⟩
   ·rw[if_neg hc] at q;exact q.elim
theorem o_K(cl:Cls X.K C)(na:b_a X.K C f)(hv:PE X (.Name x p1) (f_r i))(hs:swapsWith (.Dict [] [] p2) (some (.Attribute (.Name x p1) f pos')) pos.line X.env=pure false:=by rfl):FS X F E (.Assign [.Attribute (.Name x p1) f pos'] (.Dict [] [] p2) pos) (f_U C i f (.m true [])):=
 (m_i hv p_P hs).imp fun D Y H ⟨U,O,DD,st,q,fD⟩=>by
  unfold wpS f_U at q
  cases ho:e_z C U i with
  | none=>rw[ho] at q;exact q.elim
  | some p=>
   obtain⟨io,fs⟩:=p
   rw[ho] at q
   simp only at q
   by_cases hc:fs.lookup f=none/\fs.length<1000
   ·rw[if_pos hc] at q
    obtain⟨a0,dx,gs,hv0,e2,hl,nw⟩:=st.fldNew ho hc.1
    intro p hp
    have pa:a0≠p:=fun z=>by subst z;rw[e2] at hp;cases hp
    obtain⟨h1,O3,st3,s3⟩:=nw p (.dT []) (.m true []) hp trivial (fun G g=>⟨p,rfl,rfl,[],by rw[a_u (fun z=>pa z.symm),a_A],.nil⟩)
    exact⟨_,hv0,a0,C,dx,gs,rfl,h1,cl,na,by rw[hl];exact hc.2,fD.nx _ _ _ _ st3 s3 q⟩
   ·rw[if_neg hc] at q;exact q.elim
noncomputable def h_z(C:Addr)(i:Nat)(f:Str):XM PyData:=fun U=>match e_z C U i with
 | some (_,fs)=>(match fs.lookup f with
  | some (.l ds)=>.ok (.list ds) U
  | _=>.bad)
 | none=>.bad
theorem m_2{lp:Pos}(hg:Gl X "list")(hm:X.mg "list" = none)(cl:Cls X.K C)(na:b_a X.K C f)(hv:PE X (.Name x p1) (f_r i))(hb:attributeBase (.Name x p1) f X.env (eval (.Name x p1) X.env)=eval (.Name x p1) X.env:=by rfl)
  (he:starEach [.Attribute (.Name x p1) f fpos] X.env=(false,eval (.Attribute (.Name x p1) f fpos) X.env)::starEach [] X.env:=by rfl) (hpl:(backTo pos (starEach [] X.env)).any (·.1)=false:=by rfl) :
  FE X F E (.Call (.Name "list" lp) [.Attribute (.Name x p1) f fpos] [] pos) (h_z C i f):=
 ⟨a_m,(n_G k_R hg hm (show bootBuiltins "list" = some (.type "list") by decide +kernel) (b_G (i_R hv hb) d_9 he) (by decide) (by decide) he hpl).imp fun Y H Q ⟨U,O,st,q⟩=>by
  unfold wp h_z at q
  cases ho:e_z C U i with
  | none=>rw[ho] at q;exact q.elim
  | some p=>
   obtain⟨io,fs⟩:=p
   rw[ho] at q
   simp only at q
   cases hlk:fs.lookup f with
   | none=>rw[hlk] at q;exact q.elim
   | some t=>
    rw[hlk] at q
    cases t with
    | d _=>exact q.elim
    | m _ _=>exact q.elim
    | l ds=>
     obtain⟨a0,dx,gs,b0,hv0,e2,l1,⟨b1,xs,eb,_,hH,hdv⟩,_⟩:=st.fldUp ho hlk rfl
     cases eb
     exact⟨_,hv0,a0,C,dx,gs,.ref b0,rfl,e2,cl,na,l1,b0,xs,rfl,.inl (.of hH),fun p hp=>q _ _ O (st.grow (a_l hp)) (.same (a_l hp)) (c_K hp (st.nofree p hp) hdv)⟩⟩
end
end L2.L3
namespace L2
open PySem
section
variable{prog:Program}{w:World}{A:Around}{E:Value->Shared->Prop}{s:Shared}
theorem g_B(a d:Value):argsOk "min" ⟨[a],[("default",d)]⟩:=by unfold argsOk;kernel_rfl
theorem h_a{id:String}{b:Builtin}{args:List Value}{kw:List (Str×Value)}{Q:Value->Shared->Prop}(hk:builtinKind id=none)(hp:plainId id=true)(hb:entryFor table id=some b)(ha:argsOk id ⟨args,kw⟩)
  (hc:wpAny (model prog w) A.in1 (b ⟨args,kw⟩) (fun fin s'=>match fin with
   | .done f=>(match (Except.ok f:Result) with | .ok (.ret v)=>Q v s' | .ok _=>False | .error e=>E e s')
   | .again c'=>c'.quiet=true/\codeAny (model prog w) A c' (fun r s'=>match r with | .ok (.ret v)=>Q v s' | .ok _=>False | .error e=>E e s') s') E s):wpAny (model prog w) A (call (.builtin id) args kw) Q E s:=by
 refine wpAny_call (codeAny_call_builtin hp hb ?_)
 simp only[checkBuiltinCall,hk]
 cases hsig:Manifest.signature? id with
 | none=>exact Qab hc
 | some sig=>
  have ha':Bind.checkArgs id sig ⟨args,kw⟩=pure ():=by simpa only[argsOk,hsig] using ha
  simp only[ha']
  exact Qab hc
theorem k_x{l:Addr}{d:Value}{Q:Value->Shared->Prop}(hh:A.handled=none)(hl:s.heap.IsList l #[])(hQ:∀h',(∀b o,s.heap.get? b=some o->h'.get? b=some o)->Q d { s with heap:=h' }) :
  wpAny (model prog w) A (call (.builtin "min") [.ref l] [("default",d)]) Q E s:=by
 refine h_a F.kind_min F.plain_min F.entry_min (g_B _ _) ?_
 show wpAny _ A.in1 (Builtin.Builtins.bindParams "min" ["key","default"] 0 ⟨[],[("default",d)]⟩ >>= _) _ _ s
 refine Qaa (wpAny_of_eq (show Builtin.Builtins.bindParams "min" ["key","default"] 0 ⟨[],[("default",d)]⟩=pure [none,some d] from rfl) ?_)
 refine Qaa (Qab ?_)
 refine Qaa (wpAny_pyIter_list hl ?_)
 refine Qaa (wpAny_newObj_type ?_)
 have hname:(toString "min"++toString ".loop":String)="min.loop":=by decide
 rw[hname]
 obtain⟨ol,hol,hcl,nl,hdl⟩:=id hl
 generalize hg:(s.heap.push { cls:=.type "list_iterator",data:=.fields #[.ref l,.int 0 0] })=h1
 have e1:h1.get? s.heap.objs.size=some { cls:=.type "list_iterator",data:=.fields #[.ref l,.int 0 0] }:=by rw[<-hg];exact Heap.get?_push_size _ rfl
 have k1:∀b o,s.heap.get? b=some o->h1.get? b=some o:=fun b o e=>by rw[<-hg];exact Qac _ e
 refine Qab ⟨plainId_quiet F.plain_min_loop _,?_⟩
 refine codeAny_builtin F.entry_min_loop ?_
 rw[Around.under_plainId F.plain_min_loop _]
 have hS:(h1.push { cls:=.type "list",data:=.seq #[] }).get? h1.objs.size=some { cls:=.type "list",data:=.seq #[] }:=Heap.get?_push_size _ rfl
 show wpAny _ A.in1 (seqItems? (.ref h1.objs.size) >>= _) _ _ _
 refine Qaa (wpAny_seqItems hS rfl ?_)
 show wpAny _ A.in1 (tryCatch (pyNext (.ref s.heap.objs.size)) _ >>= _) _ _ _
 refine Qaa (wpAny_tryCatch (wpAny_pyNext_list_end (i:=0) (l:=l) (items:=#[]) hh ⟨_,Qac _ e1,rfl,rfl⟩ ⟨ol,Qac _ (k1 _ _ hol),hcl,nl,hdl⟩ rfl fun h' hk'=>?_))
 refine Qaa (wpAny_rule (Qab ?_))
 exact hQ h' fun b o e=>hk' b o (Nat.ne_of_lt (Qad e)) (Qac _ (k1 b o e))
end
section
variable{prog:Program}{w:World}{A:Around}{E:Value->Shared->Prop}{s:Shared}
theorem h_V{it t:Addr}{i:Nat}{items:Array Value}{x:Value}{Q:Value->Shared->Prop}(hit:s.heap.IsTupleIter it t i)(ht:s.heap.IsTuple t items)(hx:items[i]? = some x)
  (hQ:∀h',h'.IsTupleIter it t (i+1)->Heap.SameBut it s.heap h'->Q x { s with heap:=h' }):wpAny (model prog w) A (Builtin.SmallTypes.nextOf (.ref it)) Q E s:=by
 obtain⟨o,ho,hc,hd⟩:=id hit
 obtain⟨ol,hol,_,nl,hdl⟩:=ht
 unfold Builtin.SmallTypes.nextOf
 refine Qaa (wpAny_callSpecial?_slot (name:=Str.ofString "__next__") hit.typeIs F.slot_tuple_iterator_next (wpAny_call_entry F.slot_tuple_iterator_next hit.typeIs F.entry_tuple_iterator_next ?_ (F.args_tuple_iterator_next_1 _)))
 show wpAny _ _ (field (.ref it) 0 >>= _) _ _ s
 refine Qaa (wpAny_field ho hd (x:=.ref t) rfl ?_)
 show wpAny _ _ (if (Value.ref t==Value.none)=true then _ else _) _ _ s
 rw[if_neg (by exact Bool.false_ne_true)]
 show wpAny _ _ (field (.ref it) 1 >>= _) _ _ s
 refine Qaa (wpAny_field ho hd (x:=.int i 0) rfl ?_)
 show wpAny _ _ (seqItems? (.ref t) >>= _) _ _ s
 refine Qaa (wpAny_seqItems hol hdl ?_)
 simp only[Int.toNat_natCast,hx]
 refine Qaa (wpAny_setField ho hd (by simp) (Qab ⟨x,rfl,Qab (hQ _ ⟨_,Heap.get?_update_self _ ho (Obj.isFreed_of_fields (Obj.data_mapFields hd _)),(Obj.cls_mapFields ..).trans hc,?_⟩ (Heap.SameBut.update ..))⟩))
 rw[Obj.data_mapFields hd];simp[rawInt]
theorem i_m{it t:Addr}{i:Nat}{items:Array Value}{Q:Value->Shared->Prop}(hh:A.handled=none)(hit:s.heap.IsTupleIter it t i)(ht:s.heap.IsTuple t items)(hx:items[i]? = none)
  (hE:∀h' e,Heap.ExtBut it s.heap h'->(∃o,h'.get? e=some o/\o.cls=.type "StopIteration")->E (.ref e) { s with heap:=h' }):wpAny (model prog w) A (Builtin.SmallTypes.nextOf (.ref it)) Q E s:=by
 obtain⟨o,ho,hc,hd⟩:=id hit
 obtain⟨ol,hol,_,nl,hdl⟩:=ht
 unfold Builtin.SmallTypes.nextOf
 refine Qaa (wpAny_callSpecial?_slot (name:=Str.ofString "__next__") hit.typeIs F.slot_tuple_iterator_next (wpAny_call_entry F.slot_tuple_iterator_next hit.typeIs F.entry_tuple_iterator_next ?_ (F.args_tuple_iterator_next_1 _)))
 show wpAny _ _ (field (.ref it) 0 >>= _) _ _ s
 refine Qaa (wpAny_field ho hd (x:=.ref t) rfl ?_)
 show wpAny _ _ (if (Value.ref t==Value.none)=true then _ else _) _ _ s
 rw[if_neg (by exact Bool.false_ne_true)]
 show wpAny _ _ (field (.ref it) 1 >>= _) _ _ s
 refine Qaa (wpAny_field ho hd (x:=.int i 0) rfl ?_)
 show wpAny _ _ (seqItems? (.ref t) >>= _) _ _ s
 refine Qaa (wpAny_seqItems hol hdl ?_)
 simp only[Int.toNat_natCast,hx]
 refine Qaa (wpAny_rule (Qaa (wpAny_setField ho hd (by simp) ?_)))
 show wpAny _ _ (newExc (.type "StopIteration") [] >>= _) _ _ _
 refine Qaa ?_
 simp only[newExc,newTuple]
 refine Qaa (wpAny_newObj_type ?_ (by size_fits))
 refine Qaa (m:=firstArgMember _ _) (wpAny_of_eq (a:=Value.none) (by first | rfl | (simp only[firstArgMember];rfl)) ?_)
 refine wpAny_newObj_type ?_ (by size_fits)
 simp only[raiseNew]
 refine Qaa (wpAny_handled ?_)
 first | rw[show A.in1.handled=none from hh] | rw[hh]
 exact Qaa (Qab (wpAny_throw (hE _ _ (((Heap.SameBut.update ..).extBut.push _).push _) ⟨_,Heap.get?_push_size _ rfl,rfl⟩)))
end
theorem q_4{prog:Program}{w:World}{A:Around}(hh:A.handled=none)(it l:Addr)(hne:l≠it)(items:Array Value):Draws prog w A it [it,l] items.size (fun i v=>items[i]? = some v) (fun i h=>h.IsTupleIter it l i/\h.IsTuple l items) where
 live:=fun _ _ st=>let⟨o,ho,_⟩:=st.1;⟨o,ho⟩
 frame:=fun _ _ _ st hk=>⟨let⟨o,ho,r⟩:=st.1;⟨o,hk it (by simp) o ho,r⟩,let⟨o,ho,r⟩:=st.2;⟨o,hk l (by simp) o ho,r⟩⟩
 item:=fun i s Q E hi st hQ=>h_V st.1 st.2 (x:=items[i]) (by simp[hi]) fun h' hit' hs'=>hQ _ h' s.toks (by simp[hi]) ⟨hit',st.2.extBut hs'.extBut hne⟩ hs'
 done:=fun s Q E st hE=>i_m hh st.1 st.2 (by simp) hE
end L2
namespace L2.L3
open PySem PySem.Spec PyProof.Rows
section
variable{X:Cx}{F:Fx}{E:Str->a_q->Prop}{pos:Pos}
theorem DE.imp'{e:Expr}{t t':DT}(h:DE X F e t)(mn:Mn t')(k:∀U Q,t' U Q->t U Q):DE X F e t':=⟨mn,h.pe.imp fun Y H Q ⟨U,O,st,q⟩=>⟨U,O,st,k U _ q⟩⟩
end
section
variable{K:Frag}{F:Fx}{own:List Str}{caps:List Nat}{s:DTI}{g:DTG}{tc:DTT}{te:DT}
theorem r_8{PF:Fx->Prop}(hP:∀H1 Y U1 O1 O2,DSt K F H1 Y U1 O1->PF ⟨H1,[],O2,fun _=>0⟩)(hs:MnI s)(hg:∀d U Q Q',(∀U',Q U'->Q' U')->g d U Q->g d U Q')(ht:MnT tc)(he:Mn te):∀(Y:St) (H:Hp) (Q:VK),(∃U O,DSt K F H Y U O/\s U fun its U1=>∃Iv:Nat->List PyData->a_q->Prop,Iv 0 [] (c_p own caps U1)/\
   (∀i d ys U',its[i]? = some d->Iv i ys U'->g d U' fun U2=>tc U2 fun b U3=>if b=true then te U3 fun y U4=>ys.length<sizeLine/\Iv (i+1) (ys++[y]) U4 else Iv (i+1) ys U3)/\
   ∀ys U',Iv its.length ys U'->ys.length<=sizeLine/\∀H' O' vs p,DSt K F H' Y U1 O'->Stp O H O' H'->DVs (hide O' H') vs ys->H' p=none->Q (.ref p) (upd H' p (.lst vs)))->
  l_h own caps (rdI K F s) (fun v Y H Q=>∃F',PF F'/\rdG K F' g v Y H Q) (fun Y H Q=>∃F',PF F'/\rdT K F' tc Y H Q) (fun Y H Q=>∃F',PF F'/\rdE K F' te Y H Q) Y H Q:=fun Y H Q ⟨U,O,st,q⟩=>by
 refine⟨U,O,st,hs _ _ _ (fun its U1 ⟨Iv,i0,step,fin⟩ J H1 O1 st1 s1 wk=>?_) q⟩
 refine⟨fun i m ys Y' H'=>∃U' O' ds,DSt K ⟨H1,[],O1,fun _=>0⟩ H' Y' U' O'/\Iv i ds U'/\DVs (hide O' H') ys ds/\i<=its.length/\m=its.length - i,⟨its.length,c_p own caps U1,O1,[],?_,i0,.nil,Nat.zero_le _,rfl⟩,?_⟩
 ·have cell:∀(i:Nat) (c:Cell),(c_p own caps U1)[i]? = some (some c)->(∀io b,c≠.own io b)/\∃v,(e_F own caps Y)[i]? = some (some v)/\c_A K H1 O1 v c []:=fun i c e=>by
   unfold c_p at e
   unfold e_F
   by_cases hi:i<own.length
   ·rw[List.getElem?_append_left (by simpa using hi),List.getElem?_map] at e
    cases h:own[i]? with
    | none=>rw[h] at e;cases e
    | some y=>rw[h] at e;cases e
   ·rw[List.getElem?_append_right (by simpa using Nat.le_of_not_lt hi),List.length_map,List.getElem?_map] at e
    rw[List.getElem?_append_right (by simpa using Nat.le_of_not_lt hi),List.length_map,List.getElem?_map]
    obtain⟨j,h1,h2⟩:=Option.map_eq_some_iff.mp e
    rw[h1]
    show _/\∃v,some ((Y[j]?).getD none)=some (some v)/\_
    cases h3:U1[j]? with
    | none=>rw[h3] at h2;cases h2
    | some o=>
     cases o with
     | none=>rw[h3] at h2;cases h2
     | some c'=>
      rw[h3] at h2
      obtain⟨W,stw,rfl⟩:=id st1
      obtain⟨v,fp,e1,_,e2⟩:=stw.at_ j c' h3
      rw[e1]
      cases c' with
      | dat d=>cases h2;exact⟨(fun _ _ z=>by cases z),v,rfl,e2⟩
      | scr ns=>cases h2;exact⟨(fun _ _ z=>by cases z),v,rfl,e2⟩
      | own _ _=>cases h2
      | exc _=>cases h2
      | vw b=>cases h2;exact⟨(fun _ _ z=>by cases z),v,rfl,e2⟩
  obtain⟨W,stw,hO1⟩:=id st1
  have ln:(c_p own caps U1).length=(e_F own caps Y).length:=by unfold c_p e_F;simp
  have fl:(List.replicate (c_p own caps U1).length ([]:List Addr)).flatten++O1=O1:=by rw[f_E];rfl
  refine⟨List.replicate (c_p own caps U1).length [],⟨fun i c e=>?_,by show(_++O1).Nodup;rw[fl,hO1];exact stw.nd,fun _ _ _ h=>h,fun a h=>?_,by show OOk H1 (_++O1);rw[fl];exact st1.live,ln,by simp,fun i b e=>absurd rfl ((cell i _ e).1 true b)⟩,fl.symm⟩
  ·obtain⟨_,v,e1,e2⟩:=cell i c e
   refine⟨v,[],e1,?_,by show c_A K H1 (_++O1) v c [];rw[fl];exact e2⟩
   rw[List.getElem?_replicate,if_pos (List.getElem?_eq_some_iff.mp e).1]
  ·rw[f_E] at h;cases h
 ·rintro i m ys Y' H' ⟨U',O',ds,st',iv,dv,hi,rfl⟩
  have sm:e_3 H1 H':=fun b o e=>by obtain⟨W',h',_⟩:=id st';exact h'.kept b o (by simp) e
  have stp:Stp O1 H1 O' H':=⟨fun b o _ e=>sm b o e,fun a h=>by
   obtain⟨W',h',rfl⟩:=id st'
   rcases List.mem_append.mp h with h | h
   ·exact(h'.new a h).elim (fun z=>absurd z (by simp)) .inr
   ·exact .inl h⟩
  have sub1:∀a∈O1,a∈O':=fun a h=>by obtain⟨W',h',rfl⟩:=id st';exact Qai _ h
  obtain⟨w1,w2⟩:=wk O' H' stp st'.live
  by_cases hlt:i<its.length
  ·obtain⟨go,yld⟩:=w1 i its[i] (List.getElem?_eq_getElem hlt)
   refine .inr ⟨go,fun x H2 hy=>?_⟩
   obtain⟨sm2,dx⟩:=yld x H2 hy
   refine⟨⟨H1,[],O1,fun _=>0⟩,hP _ _ _ _ _ st1,U',O',its[i],st'.grow sm2,dx,hg _ _ _ _ (fun U2 q2 Y3 H3 O3 st3 s3=>?_) (step i its[i] ds U' (List.getElem?_eq_getElem hlt) iv)⟩
   refine⟨⟨H1,[],O1,fun _=>0⟩,hP _ _ _ _ _ st1,U2,O3,st3,ht _ _ _ (fun b U3 q3 H4 O4 st4 s4=>?_) q2⟩
   have d4:DVs (hide O4 H4) ys ds:=DVs.mono s4.hid (DVs.mono s3.hid (DVs.mono (d_F sm2) dv))
   cases b with
   | false=>exact i_S ⟨its.length - (i+1),by omega,U3,O4,ds,st4,ofF q3,d4,hlt,rfl⟩
   | true=>
    refine i_V ⟨⟨H1,[],O1,fun _=>0⟩,hP _ _ _ _ _ st1,U3,O4,st4,he _ _ _ (fun y U4 q4 v H5 O5 st5 s5 dy=>?_) (ofT q3)⟩
    refine⟨by rw[d4.length];exact q4.1,its.length - (i+1),by omega,U4,O5,ds++[y],st5,q4.2,(DVs.mono s5.hid d4).append (.cons dy .nil),hlt,rfl⟩
  ·have e:i=its.length:=by omega
   subst e
   obtain⟨hz,q⟩:=fin ds U' iv
   exact .inl ⟨w2,by rw[dv.length];exact hz,fun p hp=>q H' O1 ys p (st1.grow sm) (s1.trans (.same sm)) (DVs.mono (f_w sub1) dv) hp⟩
end
section
variable{X:Cx}{F:Fx}{E:Str->a_q->Prop}{pos:Pos}
theorem q_u{own:List Str}{caps:List Nat}{s:XM (List PyData)}{g:GM}{t:XM Bool}{m:XM PyData}{U:a_q}{P:List PyData->a_q->Prop}(q:wp E s U fun its U1=>∃ys,a_V g t m its [] (j_d own.length caps U1)=some ys/\ys.length<=sizeLine/\P ys U1) :
  wp E s U fun its U1=>∃Iv:Nat->List PyData->a_q->Prop,Iv 0 [] (c_p own caps U1)/\
   (∀i d ys U',its[i]? = some d->Iv i ys U'->wpG g d U' fun U2=>wp E0' t U2 fun b U3=>if b=true then wp E0' m U3 fun y U4=>ys.length<sizeLine/\Iv (i+1) (ys++[y]) U4 else Iv (i+1) ys U3)/\
   ∀ys U',Iv its.length ys U'->ys.length<=sizeLine/\P ys U1:=a_m _ _ _ (fun its U1 ⟨ys0,e2,hl,hP⟩=>by
 have eL:c_p own caps U1=j_d own.length caps U1:=by
  unfold c_p j_d
  rw[List.map_const']
 refine⟨fun i ys U=>a_V g t m (its.drop i) ys U=some ys0,by rw[eL];exact e2,fun i d ys U hd hi=>?_,fun ys U h=>?_⟩
 ·have e:its.drop i=d::its.drop (i+1):=by
   obtain⟨hlt,he⟩:=List.getElem?_eq_some_iff.mp hd
   rw[<-he]
   exact List.drop_eq_getElem_cons hlt
  simp only[e] at hi
  unfold a_V at hi
  unfold wpG
  cases hg:g d U with
  | none=>rw[hg] at hi;cases hi
  | some U2=>
   rw[hg] at hi
   simp only at hi ⊢
   unfold wp
   cases ht:t U2 with
   | ex c U3=>rw[ht] at hi;cases hi
   | bad=>rw[ht] at hi;cases hi
   | ok b U3=>
    rw[ht] at hi
    cases b with
    | false=>exact i_S hi
    | true=>
     refine i_V ?_
     simp only at hi ⊢
     cases hm:m U3 with
     | ex c U4=>rw[hm] at hi;cases hi
     | bad=>rw[hm] at hi;cases hi
     | ok y' U4=>
      rw[hm] at hi
      simp only at hi ⊢
      split at hi
      ·rename_i h;exact⟨h,hi⟩
      ·cases hi
 ·simp only[List.drop_length] at h
  have:ys=ys0:=by unfold a_V at h;exact Option.some.inj h
  subst this
  exact⟨hl,hP⟩) q
noncomputable def j_A(C:Addr)(i:Nat)(f:Str)(own:Nat)(caps:List Nat)(g:GM)(t:XM Bool)(m:XM PyData)(its:List PyData):SM:=fun U=>match a_V g t m its [] (j_d own caps U),e_z C U i with
 | some ys,some (io,fs)=>if ys.length<=sizeLine/\fs.lookup f=none/\fs.length<1000 then .nx (U.set i (some (.own io (.o C (a_0 f (.l ys) fs))))) else .bad
 | _,_=>.bad
noncomputable def l_f(C:Addr)(i:Nat)(f:Str)(own:Nat)(caps:List Nat)(s:XM (List PyData))(g:GM)(t:XM Bool)(m:XM PyData):SM:=fun U=>ofX (s U) (j_A C i f own caps g t m)
theorem m_1{C:Addr}{i:Nat}{f x:Str}{p1 pos' spos:Pos}{scope:Scope}{own capN:List Str}{caps:List Nat}{tg iter elt:Expr}{ifs:List Expr}{s:XM (List PyData)}{g:GM}{t:XM Bool}{m:XM PyData}{n:Nat}(cl:Cls X.K C)(na:b_a X.K C f)(hv:PE X (.Name x p1) (f_r i))(hG:GF X.mg F)(S:CompScope X scope own capN caps)(hc:X.calm=true)(hn:own.length=n)(hi:FI X F E tg iter s)
  (hin:∀C fp s₂ H₂ pl F',GF X.mg F'->FG (a_G X scope (own++capN) C fp s₂ H₂ pl) F' tg g/\FBs (a_G X scope (own++capN) C fp s₂ H₂ pl) F' E0' ifs t/\FE (a_G X scope (own++capN) C fp s₂ H₂ pl) F' E0' elt m)
  (hsw:swapsWith (.ListComp elt [⟨tg,iter,ifs,0⟩] scope pos) (some (.Attribute (.Name x p1) f pos')) spos.line X.env=pure false:=by rfl)
  (hs:∀x,foldedSetIterable iter X.env x=pure x:=by intro _;rfl):FS X F E (.Assign [.Attribute (.Name x p1) f pos'] (.ListComp elt [⟨tg,iter,ifs,0⟩] scope pos) spos) (l_f C i f n caps s g t m):=by
 subst hn
 obtain⟨hg,ht,he⟩:=hin 0 [] (PySem.start X.prog).1 (fun _=>none) [] F hG
 have pe:PE X (.ListComp elt [⟨tg,iter,ifs,0⟩] scope pos) (l_h own caps (rdI X.K F (wp E s)) (fun v Y H Q=>∃F',GF X.mg F'/\rdG X.K F' (wpG g) v Y H Q) (fun Y H Q=>∃F',GF X.mg F'/\rdT X.K F' (wp E0' t) Y H Q) (fun Y H Q=>∃F',GF X.mg F'/\rdE X.K F' (wp E0' m) Y H Q)):=l_c S hc hi.pi (fun C fp s₂ H₂ pl=>⟨fun pins s Y H v u Q I r ⟨F',g',q⟩=>(hin C fp s₂ H₂ pl F' g').1.pg pins s Y H v u Q I r q,fun pins s Y H Q I ⟨F',g',q⟩=>(hin C fp s₂ H₂ pl F' g').2.1.2 pins s Y H Q I q,fun pins s Y H Q I ⟨F',g',q⟩=>(hin C fp s₂ H₂ pl F' g').2.2.pe pins s Y H Q I q⟩) hs
 refine(m_i hv pe hsw).imp fun D Y H ⟨U,O,DD,st,q,fD⟩=>?_
 refine r_8 (fun _ _ _ _ _ st=>hG.into st) hi.mn hg.mn ht.1 he.mn Y H _ ⟨U,O,st,q_u (a_m _ _ _ (fun its U1 q1=>?_) (c_q (m:=s) (k:=j_A C i f own.length caps g t m) q))⟩
 unfold wpS j_A at q1
 cases hys:a_V g t m its [] (j_d own.length caps U1) with
 | none=>rw[hys] at q1;exact q1.elim
 | some ys=>
  cases ho:e_z C U1 i with
  | none=>rw[hys,ho] at q1;exact q1.elim
  | some p=>
   obtain⟨io,fs⟩:=p
   rw[hys,ho] at q1
   simp only at q1
   by_cases hcnd:ys.length<=sizeLine/\fs.lookup f=none/\fs.length<1000
   ·rw[if_pos hcnd] at q1
    refine⟨ys,rfl,hcnd.1,fun H' O' vs p st' s' dv hp=>?_⟩
    obtain⟨a0,dx,gs,hv0,e2,hl,nw⟩:=st'.fldNew ho hcnd.2.1
    have pa:a0≠p:=fun z=>by subst z;rw[e2] at hp;cases hp
    obtain⟨h1,O3,st3,s3⟩:=nw p (.lst vs) (.l ys) hp trivial (fun G gg=>⟨p,vs,rfl,rfl,by rw[a_u (fun z=>pa z.symm),a_A],DVs.mono gg dv⟩)
    exact⟨_,hv0,a0,C,dx,gs,rfl,h1,cl,na,by rw[hl];exact hcnd.2.2,fD.nx _ _ _ _ st3 (s'.trans s3) q1⟩
   ·rw[if_neg hcnd] at q1;exact q1.elim
end
end L2.L3
namespace L2
open PySem PyProof.Rows
noncomputable def n_z(h:Heap)(its:List Value)(rows:List (List Int)):Prop:=its.length=rows.length/\∀(i:Nat) (v:Value),its[i]? = some v->∃(T:Addr) (items:Array Value) (r:List Int),v=.ref T/\IsTup h T items/\rows[i]? = some r/\IntsAre items.toList r
noncomputable abbrev btT(rows:List (List Int)):Nat->Nat->Bool:=fun i j=>HT.lexLt (rows.getD i []) (rows.getD j [])
section
variable{prog:Program}{w:World}{A:Around}{R:Result->Shared->Prop}{E:Value->Shared->Prop}{s:Shared}{h0:Heap}{I l S:Addr}{its:Array Value}{rows:List (List Int)}{d:Value}
theorem q_c{Q:Value->Shared->Prop}{i j:Nat}{u v:Value}(hu:A.units<cLine)(ht:n_z h0 its.toList rows)(kp:∀b o,h0.get? b=some o->s.heap.get? b=some o)(hi:its[i]? = some u)(hj:its[j]? = some v)(q:Q (.bool (btT rows i j)) s):wpAny (model prog w) A (richCompare .Lt u v) Q E s:=by
 obtain⟨T,xs,r,rfl,t1,r1,a1⟩:=ht.2 i u (by simpa using hi)
 obtain⟨T',ys,r',rfl,t2,r2,a2⟩:=ht.2 j v (by simpa using hj)
 have e1:rows.getD i []=r:=by rw[List.getD_eq_getElem?_getD,r1];rfl
 have e2:rows.getD j []=r':=by rw[List.getD_eq_getElem?_getD,r2];rfl
 unfold btT at q
 rw[e1,e2] at q
 have k1:IsTup s.heap T xs:=let⟨o,e,x⟩:=t1;⟨o,kp _ _ e,x⟩
 have k2:IsTup s.heap T' ys:=let⟨o,e,x⟩:=t2;⟨o,kp _ _ e,x⟩
 exact(HT.lt_tupInts k1 k2 a1 a2 hu q:wpAny (model prog w) A (compareOp .Lt (.ref T) (.ref T')) Q E s)
theorem o_w(hh:A.handled=none)(hu:A.in1.units<cLine)(ht:n_z h0 its.toList rows)(hl:h0.IsList l its)(hI:h0.objs.size<=I)(hS:h0.objs.size<=S)(hIS:I≠S) :
  ∀(k j:Nat) (s:Shared) (vb:Value) (c:Nat),its.size - (j+1)=k->j+1<=its.size->(∀b o,h0.get? b=some o->s.heap.get? b=some o)->s.heap.IsListIter I l (j+1)->its[argBest (btT rows) j]? = some vb->
  s.heap.get? S=some { cls:=.type "list",dict:=none,data:=.seq #[vb,vb] c,slots:=#[] }->
  (∀v h' tk,its[argBest (btT rows) (its.size - 1)]? = some v->(∀b o,h0.get? b=some o->h'.get? b=some o)->R (.ok (.ret v)) { s with heap:=h',toks:=tk })->
  codeAny (model prog w) A (.builtin "min.loop" ⟨[.ref I,.none,.ref S],[("default",d)]⟩) R s:=by
 have hname:(toString "min"++toString ".loop":String)="min.loop":=by decide
 have nI:∀{b:Addr}{o:Obj},h0.get? b=some o->b≠I:=fun e z=>by subst z;exact absurd (Qad e) (Nat.not_lt.mpr hI)
 have nS:∀{b:Addr}{o:Obj},h0.get? b=some o->S≠b:=fun e z=>by subst z;exact absurd (Qad e) (Nat.not_lt.mpr hS)
 intro k
 induction k with
 | zero=>
  intro j s vb c hk hj kp hit hb hSt hR
  have hin:j+1=its.size:=by omega
  refine codeAny_builtin F.entry_min_loop ?_
  rw[Around.under_plainId F.plain_min_loop _]
  show wpAny _ A.in1 (seqItems? (.ref S) >>= _) _ _ s
  refine Qaa (wpAny_seqItems hSt rfl ?_)
  show wpAny _ A.in1 (tryCatch (pyNext (.ref I)) _ >>= _) _ _ s
  refine Qaa (wpAny_tryCatch (wpAny_pyNext_list_end hh hit (hl.at fun o e=>kp _ _ e) (by simp;omega) fun h1 hs1=>?_))
  have hS1:=hs1 S _ (Ne.symm hIS) hSt
  show wpAny _ A.in1 (updateSeq S (fun _=>#[]) >>= _) _ _ _
  refine Qaa (wpAny_updateSeq hS1 rfl (Qaa (wpAny_letGo (Qab ?_))))
  refine hR vb _ _ (by rw[<-hin];exact hb) fun b o e=>?_
  exact(Heap.get?_update_other _ _ (nS e)).trans (hs1 _ _ (nI e) (kp _ _ e))
 | succ k ih=>
  intro j s vb c hk hj kp hit hb hSt hR
  have hlt:j+1<its.size:=by omega
  refine codeAny_builtin F.entry_min_loop ?_
  rw[Around.under_plainId F.plain_min_loop _]
  show wpAny _ A.in1 (seqItems? (.ref S) >>= _) _ _ s
  refine Qaa (wpAny_seqItems hSt rfl ?_)
  show wpAny _ A.in1 (tryCatch (pyNext (.ref I)) _ >>= _) _ _ s
  refine Qaa (wpAny_tryCatch (wpAny_pyNext_list_item hit (hl.at fun o e=>kp _ _ e) (x:=its[j+1]) (by simp[hlt]) fun h1 hit1 hs1=>?_))
  have hS1:=hs1.extBut S _ (Ne.symm hIS) hSt
  have kp1:∀b o,h0.get? b=some o->h1.get? b=some o:=fun b o e=>hs1.extBut _ _ (nI e) (kp _ _ e)
  show wpAny _ A.in1 (tryCatch (holding [its[j+1],its[j+1]] (richCompare .Lt its[j+1] vb >>= _)) _ >>= _) _ _ _
  refine Qaa (wpAny_tryCatch (wpAny_holding (Qaa (q_c (i:=j+1) (j:=argBest (btT rows) j) hu ht kp1 (by simp[hlt]) hb ?_))))
  refine Qaa (wpAny_holding (wpAny_truthy_bool ?_))
  refine Qaa (wpAny_letGo (Qab ?_))
  cases hbt:btT rows (j+1) (argBest (btT rows) j) with
  | true=>
   simp only[if_true]
   refine Qaa (wpAny_updateSeq hS1 rfl (Qaa (wpAny_letGo ?_)))
   rw[hname]
   refine Qab ⟨plainId_quiet F.plain_min_loop _,ih (j+1) _ its[j+1] _ (by omega) hlt (fun b o e=>(Heap.get?_update_other _ _ (nS e)).trans (kp1 _ _ e)) (hit1.at fun o e=>(Heap.get?_update_other _ _ (Ne.symm hIS)).trans e) (by simp only[argBest,hbt,if_true];simp[hlt]) (Heap.get?_update_self _ hS1 rfl) fun v h' tk hv kp'=>hR v h' tk hv kp'⟩
  | false=>
   simp only[Bool.false_eq_true,if_false]
   refine Qaa (wpAny_letGo ?_)
   rw[hname]
   exact Qab ⟨plainId_quiet F.plain_min_loop _,ih (j+1) _ vb c (by omega) hlt kp1 hit1 (by simp only[argBest,hbt,Bool.false_eq_true,if_false];exact hb) hS1 fun v h' tk hv kp'=>hR v h' tk hv kp'⟩
theorem j_Q{Q:Value->Shared->Prop}(hh:A.handled=none)(hu:A.in1.units<cLine)(hl:s.heap.IsList l its)(ht:n_z s.heap its.toList rows)(hn:0<its.size)(hQ:∀v h' tk,its[argBest (btT rows) (its.size - 1)]? = some v->(∀b o,s.heap.get? b=some o->h'.get? b=some o)->Q v { s with heap:=h',toks:=tk }) :
  wpAny (model prog w) A (call (.builtin "min") [.ref l] [("default",d)]) Q E s:=by
 refine h_a F.kind_min F.plain_min F.entry_min (g_B _ _) ?_
 show wpAny _ A.in1 (Builtin.Builtins.bindParams "min" ["key","default"] 0 ⟨[],[("default",d)]⟩ >>= _) _ _ s
 refine Qaa (wpAny_of_eq (show Builtin.Builtins.bindParams "min" ["key","default"] 0 ⟨[],[("default",d)]⟩=pure [none,some d] from rfl) ?_)
 refine Qaa (Qab ?_)
 refine Qaa (wpAny_pyIter_list hl ?_)
 refine Qaa (wpAny_newObj_type ?_)
 have hname:(toString "min"++toString ".loop":String)="min.loop":=by decide
 rw[hname]
 generalize hg:(s.heap.push { cls:=.type "list_iterator",data:=.fields #[.ref l,.int 0 0] })=h1
 have e1:h1.get? s.heap.objs.size=some { cls:=.type "list_iterator",data:=.fields #[.ref l,.int 0 0] }:=by rw[<-hg];exact Heap.get?_push_size _ rfl
 have k1:∀b o,s.heap.get? b=some o->h1.get? b=some o:=fun b o e=>by rw[<-hg];exact Qac _ e
 have z1:h1.objs.size=s.heap.objs.size+1:=by rw[<-hg,Heap.size_push]
 refine Qab ⟨plainId_quiet F.plain_min_loop _,?_⟩
 refine codeAny_builtin F.entry_min_loop ?_
 rw[Around.under_plainId F.plain_min_loop _]
 have hS:(h1.push { cls:=.type "list",data:=.seq #[] }).get? h1.objs.size=some { cls:=.type "list",data:=.seq #[] }:=Heap.get?_push_size _ rfl
 have k2:∀b o,s.heap.get? b=some o->(h1.push { cls:=.type "list",data:=.seq #[] }).get? b=some o:=fun b o e=>Qac _ (k1 b o e)
 show wpAny _ A.in1 (seqItems? (.ref h1.objs.size) >>= _) _ _ _
 refine Qaa (wpAny_seqItems hS rfl ?_)
 show wpAny _ A.in1 (tryCatch (pyNext (.ref s.heap.objs.size)) _ >>= _) _ _ _
 refine Qaa (wpAny_tryCatch (wpAny_pyNext_list_item (i:=0) (l:=l) (items:=its) (x:=its[0]) ⟨_,Qac _ e1,rfl,rfl⟩ (hl.at fun o e=>k2 _ _ e) (by simp[hn]) fun h2 hit2 hs2=>?_))
 have ne:s.heap.objs.size≠h1.objs.size:=by rw[z1];exact Nat.ne_of_lt (Nat.lt_succ_self _)
 have hS2:=hs2.extBut _ _ (Ne.symm ne) hS
 have k3:∀b o,s.heap.get? b=some o->h2.get? b=some o:=fun b o e=>hs2.extBut _ _ (Nat.ne_of_lt (Qad e)) (k2 _ _ e)
 show wpAny _ A.in1 (updateSeq h1.objs.size (fun _=>#[its[0],its[0]]) >>= _) _ _ _
 refine Qaa (wpAny_updateSeq hS2 rfl ?_)
 rw[hname]
 refine Qab ⟨plainId_quiet F.plain_min_loop _,o_w (h0:=s.heap) (its:=its) (rows:=rows) hh hu ht hl (Qae _) (by rw[z1];exact Nat.le_succ _) ne _ 0 _ its[0] _ rfl hn (fun b o e=>(Heap.get?_update_other _ _ (fun z=>by subst z;exact absurd (Qad e) (by rw[z1];exact Nat.not_lt.mpr (Nat.le_succ _)))).trans (k3 _ _ e)) (hit2.at fun o e=>(Heap.get?_update_other _ _ (Ne.symm ne)).trans e) (by simp[argBest,hn]) (Heap.get?_update_self _ hS2 rfl) fun v h' tk hv kp=>hQ v h' tk hv kp⟩
end
end L2
namespace L2.L3
open PySem PySem.Spec PyProof.Rows
noncomputable def h_G:List PyData->Option (List Int)
 | []=>some []
 | .int i::r=>(h_G r).map (i::·)
 | _=>none
noncomputable def h_d:List PyData->Option (List (List Int))
 | []=>some []
 | .tuple ds::r=>(match h_G ds,h_d r with | some x,some y=>some (x::y) | _,_=>none)
 | _=>none
theorem k_I:∀{ds:List PyData}{ns:List Int},h_G ds=some ns->ds=ns.map PyData.int
 | [],ns,h=>by cases h;rfl
 | .int i::r,ns,h=>by
  unfold h_G at h
  obtain⟨m,h1,h2⟩:=Option.map_eq_some_iff.mp h
  subst h2
  rw[k_I h1];rfl
 | .none::_,_,h=>by cases h
 | .bool _::_,_,h=>by cases h
 | .str _::_,_,h=>by cases h
 | .list _::_,_,h=>by cases h
 | .tuple _::_,_,h=>by cases h
 | .dict _::_,_,h=>by cases h
theorem j_6:∀{ds:List PyData}{rs:List (List Int)},h_d ds=some rs->ds=rs.map fun r=>PyData.tuple (r.map PyData.int)
 | [],rs,h=>by cases h;rfl
 | .tuple l::r,rs,h=>by
  unfold h_d at h
  cases h1:h_G l with
  | none=>rw[h1] at h;cases h
  | some x=>
   cases h2:h_d r with
   | none=>rw[h1,h2] at h;cases h
   | some y=>
    rw[h1,h2] at h
    cases h
    rw[j_6 h2,k_I h1];rfl
 | .none::_,_,h=>by cases h
 | .bool _::_,_,h=>by cases h
 | .str _::_,_,h=>by cases h
 | .list _::_,_,h=>by cases h
 | .int _::_,_,h=>by cases h
 | .dict _::_,_,h=>by cases h
theorem m_q{H:Hp}:∀{vs:List V}{ns:List Int},DVs H vs (ns.map PyData.int)->vs=ns.map V.int
 | _,[],.nil=>rfl
 | _,n::ns,.cons h t=>by rw[h.int_inv,m_q t];rfl
theorem l_0:∀{ns:List Int}{us:List Value},b_M (ns.map V.int) us->IntsAre us ns
 | [],_,.nil=>.nil
 | n::ns,_,.cons r t=>by
  obtain⟨tk,rfl⟩:=r
  exact .cons n tk (l_0 t)
noncomputable def d_1:List (List Int)->List Int->List Int
 | [],b=>b
 | r::rs,b=>d_1 rs (if HT.lexLt r b=true then r else b)
theorem h_3(rows:List (List Int)):∀(k j:Nat),j+1+k=rows.length->d_1 (rows.drop (j+1)) (rows.getD (argBest (btT rows) j) [])=rows.getD (argBest (btT rows) (rows.length - 1)) []
 | 0,j,h=>by
  have e:rows.drop (j+1)=[]:=List.drop_eq_nil_of_le (by omega)
  rw[e,d_1,show rows.length - 1=j by omega]
 | k+1,j,h=>by
  have hlt:j+1<rows.length:=by omega
  rw[List.drop_eq_getElem_cons hlt,d_1,<-h_3 rows k (j+1) (by omega)]
  congr 1
  have e1:rows.getD (j+1) []=rows[j+1]:=by rw[List.getD_eq_getElem?_getD,List.getElem?_eq_getElem hlt];rfl
  simp only[argBest]
  unfold btT
  rw[e1]
  split
  ·exact e1.symm
  ·rfl
theorem hu1{A:Around}(hu:A.units+1<cLine):A.in1.units<cLine:=by
 have:A.in1.units<=A.units+1:=by first | exact Qae _ | exact Nat.le_succ _
 exact Nat.lt_of_le_of_lt this hu
section
variable{X:Cx}{F:Fx}{E:Str->a_q->Prop}{pos p p1 kp kpos:Pos}{x:Str}{i:Nat}
noncomputable def j_9(i:Nat):XM PyData:=fun U=>match asO U i with
 | some (_,ds)=>(match h_d ds with
  | some []=>.ok .none U
  | some (r::rs)=>.ok (.tuple ((d_1 rs r).map PyData.int)) U
  | none=>.bad)
 | none=>.bad
theorem r_V{kj:Nat}(hu:X.A.units+1<cLine)(hc:X.calm=true)(hg:Gl X "min")(hm:X.mg "min" = none)(hv:PE X (.Name x p1) (f_r i))
  (he0:starEach [.Name x p1] X.env=(false,eval (.Name x p1) X.env)::starEach [] X.env:=by rfl)
  (he:backTo pos (starEach [.Name x p1] X.env)=(false,eval (.Name x p1) X.env)::backTo pos (starEach [] X.env):=by rfl)
  (hplain:(backTo pos (starEach [.Name x p1] X.env)).any (·.1)=false:=by rfl)
  (hall:(backToKw pos (keywordEach [⟨some "default",.Constant .none kj kp,kpos⟩] X.env)).all (·.1.isSome)=true:=by rfl)
  (hkw:(backToKw pos (keywordEach [⟨some "default",.Constant .none kj kp,kpos⟩] X.env)).any (·.1.isNone)=false:=by rfl)
  (hn:(backToKw pos (keywordEach [⟨some "default",.Constant .none kj kp,kpos⟩] X.env)).filterMap (·.1)=[("default":Str)]:=by rfl) :
  FE X F E (.Call (.Name "min" p) [.Name x p1] [⟨some "default",.Constant .none kj kp,kpos⟩] pos) (j_9 i):=by
 refine⟨a_m,fun pins s Y H Q I ⟨U,O,st,q⟩=>?_⟩
 unfold wp j_9 at q
 cases ho:asO U i with
 | none=>rw[ho] at q;exact q.elim
 | some pr=>
  obtain⟨io,ds⟩:=pr
  rw[ho] at q
  simp only at q
  cases hr:h_d ds with
  | none=>rw[hr] at q;exact q.elim
  | some rows=>
   rw[hr] at q
   obtain⟨a,fp,hv0,⟨_,xs,hH,hd⟩,_,_⟩:=st.box (v_R ho)
   refine wpAny_Call_Name_kw (f_P I hg hm PyProof.Rows.boot_min ?_ (by decide) (by decide))
   refine PyProof.Rows.callWith_kw ?_ he hplain hall hkw
   refine thn ((b_G hv d_9 he0) pos pins s Y H (fun vs H1=>vs=[.ref a]/\H1=H) I ⟨_,hv0,rfl,rfl⟩) fun us s1 ⟨vs,H1,I1,r1,e1,e2⟩=>?_
   subst e1 e2
   obtain⟨u,rfl,ru⟩:=vals1 r1
   cases ru
   refine thn ((s_t (nm:=some "default") (kpos:=kpos) q_T u_n) pos pins s1 Y H1 (fun vs H2=>vs=[.non]/\H2=H1) I1 ⟨rfl,rfl⟩) fun us s2 ⟨vs,H2,I2,r2,e1,e2⟩=>?_
   subst e1 e2
   obtain⟨u,rfl,ru⟩:=vals1 r2
   cases ru
   rw[hn]
   obtain⟨z1,its,n1,rv,g1⟩:=I2.hok _ _ hH
   have hds:=j_6 hr
   have L:s2.heap.IsList a its.toArray:=⟨_,g1,rfl,_,rfl⟩
   cases rows with
   | nil=>
    subst hds
    cases hd
    cases rv
    simp only at q
    refine k_x (l:=a) (d:=.none) (I2.ok.hd hc) L fun h' hk=>?_
    exact⟨.non,H2,I2.kept (t':=s2.toks) hk,rfl,q _ H2 O st .refl .non⟩
   | cons r rs=>
    simp only at q
    have hlen:its.length=(r::rs).length:=by rw[<-rv.length,hd.length,hds,List.length_map]
    have item:∀(k:Nat) (v:Value),its[k]? = some v->∃(T:Addr) (rk:List Int) (jts:List Value) (vv:V),v=.ref T/\IsTup s2.heap T jts.toArray/\(r::rs)[k]? = some rk/\IntsAre jts rk/\c_b vv v/\DV (hide O H2) vv (.tuple (rk.map PyData.int)):=fun k v hk=>by
     have hkl:k<(r::rs).length:=by rw[<-hlen];exact(List.getElem?_eq_some_iff.mp hk).1
     have hdk:ds[k]? = some (.tuple (((r::rs)[k]).map PyData.int)):=by rw[hds,List.getElem?_map,List.getElem?_eq_getElem hkl];rfl
     obtain⟨vv,hvv,dvv⟩:=hd.get hdk
     obtain⟨w,hw,rw'⟩:=rv.get hvv
     rw[hk] at hw
     cases hw
     obtain⟨T,ys,rfl,hT,hy⟩:=dvv.tup_inv
     obtain⟨_,jts,rj,pj⟩:=(d_v hT).1.ok I2.hok
     rw[m_q hy] at rj
     cases rw'
     exact⟨T,_,jts,.ref T,rfl,pj,List.getElem?_eq_getElem hkl,l_0 rj,rfl,dvv⟩
    refine j_Q (l:=a) (its:=its.toArray) (rows:=r::rs) (d:=.none) (I2.ok.hd hc) (hu1 hu) L ⟨hlen,fun k v hk=>by
     obtain⟨T,rk,jts,vv,e1,e2,e3,e4,_,_⟩:=item k v hk
     exact⟨T,jts.toArray,rk,e1,e2,e3,e4⟩⟩ (by simp only[List.size_toArray];rw[hlen];simp) fun v h' tk hv hk=>?_
    simp only[List.size_toArray,List.getElem?_toArray] at hv
    obtain⟨T,rk,jts,vv,e1,e2,e3,e4,e5,e6⟩:=item _ v hv
    have hm:=h_3 (r::rs) rs.length 0 (by simp;omega)
    have hb0:(r::rs).getD (argBest (btT (r::rs)) 0) []=r:=by simp[argBest]
    rw[hb0] at hm
    change d_1 rs r=_ at hm
    rw[hlen] at e3
    have:rk=d_1 rs r:=by rw[hm,List.getD_eq_getElem?_getD,e3];rfl
    subst this
    exact⟨vv,H2,I2.kept (t':=tk) hk,e5,q _ H2 O st .refl e6⟩
end
structure MD (K:Frag) (C:Addr) (m qual:Str) (st:Stmt) (ps:List Str) (g:Addr) (fd:FuncData):Prop where
 fn:Fun K m qual st g fd
 mt:Meth K C m g
 b:i_z K fd ps []
theorem scm{N P:List Str}{sc:Scope}(h1:sc.kind=.function:=by rfl)(h2:sc.isCoroutine=false:=by rfl)(h3:sc.isGenerator=false:=by rfl)(h4:N.Nodup:=by decide +kernel)(h5:N.take P.length=P:=by rfl)(h6:∀x∈P,sc.names.lookup x=some .local\/sc.names.lookup x=some .cell:=by decide +kernel)(h7:∀y∈sc.names,y.2≠.free:=by decide +kernel):FnScope N P sc:=⟨h1,h2,h3,h4,h5,h6,h7⟩
section
variable{X:Cx}{F:Fx}{E:Str->a_q->Prop}{e:Expr}{es:List Expr}{pos p p1 apos:Pos}{x m q:Str}{C:Addr}{i k j:Nat}{g:Addr}{fd:FuncData}{ps:List Str}{f:FM}{st:Stmt}{mX:XM (List AX)}
theorem fv(i:Nat)(hN:X.N[i]? = some x:=by rfl)(hv:Vis X.env.scope x:=by first | exact Or.inl rfl | exact Or.inr (Or.inl rfl) | exact Or.inr (Or.inr rfl))(hd:(x==("__debug__":Str))=false:=by decide)(hcd:(x==("__classdict__":Str))=false:=by decide):FE X F E (.Name x pos) (xV i):=y_1 (r_b i (pv i hN hv hd hcd))
theorem fgn(i:Nat)(hN:X.N.Nodup)(hi:X.N[i]? = some x:=by rfl)(hx:Loc X.env.scope x:=by first | exact Or.inl rfl | exact Or.inr rfl)(hf:X.fn x=true\/X.env.scope.names.lookup x=some .local:=by first | exact .inl rfl | exact .inr rfl | assumption):FG X F (.Name x pos) (gNm i):=t_p (r_G (l_v hN hi hx hf))
theorem fcd(hx:XOk X F E)(G:FnOk X.prog X.w X.K X.mg X.base (CXM X.prog X.w) k g fd ps (spF X.K X.mg f))(D:FD X.K X.mg x st ps g fd)(hr:Room j X.A)(ha:FX X F E (e::es) mX)(hk:k<=j:=by decide)(hg:Gl X x:=by rfl)(hdb:(x==("__debug__":Str))=false:=by decide)
  (he:starEach (e::es) X.env=(false,eval e X.env)::starEach es X.env:=by rfl) (hpl:(backTo pos (starEach es X.env)).any (·.1)=false:=by rfl):FO X F E (.Call (.Name x p) (e::es) [] pos) (a_o f mX):=s_x (s_M hx G (hr.mono hk) hg D.mgf D.fn.kp D.b ha hdb he hpl)
theorem fmd{pl:Sem Bool}(hx:XOk X F E)(cl:Cls X.K C)(G:FnOk X.prog X.w X.K X.mg X.base (CXM X.prog X.w) k g fd ps (spF X.K X.mg f))(D:MD X.K C m q st ps g fd)(hr:Room j X.A)(hv:PE X (.Name x p1) (f_r i))(ha:FX X F E (e::es) mX)(hk:k<=j:=by decide)
  (hst:starEach (e::es) X.env=(false,eval e X.env)::starEach es X.env:=by rfl) (hpl:(backTo pos (starEach es X.env)).any (·.1)=false:=by rfl)
  (ht:eval (.Call (.Attribute (.Name x p1) m apos) (e::es) [] pos) X.env=(do
   let ov <-eval (.Name x p1) X.env
   standAt apos.atName
   let(f,first) <-holding [ov] (getMethod ov m pl)
   callWith pos f first (backTo pos (starEach (e::es) X.env)) (backToKw pos (keywordEach [] X.env))):=by rfl) :
  FO X F E (.Call (.Attribute (.Name x p1) m apos) (e::es) [] pos) (a_4 C i m f mX):=r_2 hx cl D.mt G (hr.mono hk) D.b hv ha hst hpl ht
theorem fmd0{pl:Sem Bool}(hx:XOk X F E)(cl:Cls X.K C)(G:FnOk X.prog X.w X.K X.mg X.base (CXM X.prog X.w) k g fd ps (spF X.K X.mg f))(D:MD X.K C m q st ps g fd)(hr:Room j X.A)(hv:PE X (.Name x p1) (f_r i))(hk:k<=j:=by decide)
  (ht:eval (.Call (.Attribute (.Name x p1) m apos) [] [] pos) X.env=(do
   let ov <-eval (.Name x p1) X.env
   standAt apos.atName
   let(f,first) <-holding [ov] (getMethod ov m pl)
   callWith pos f first (backTo pos (starEach [] X.env)) (backToKw pos (keywordEach [] X.env))):=by rfl) :
  FO X F E (.Call (.Attribute (.Name x p1) m apos) [] [] pos) (b_P C i m f):=q_h hx cl D.mt G (hr.mono hk) D.b hv ht
end
end L2.L3
namespace L2
open PySem PySem.Spec PyProof.Rows
open AutoSeq1 (wpAny_loadPart')
theorem l_x(l:Addr)(its:Array Value)(n:Nat)(dct:Option Addr)(sl:Array (Option Value)) :
  Meets (Builtin.«enumerate.__new__» ⟨[.type "enumerate",.ref l],[]⟩) (fun _ R s=>s.heap.get? l=some { cls:=.type "tuple",dict:=dct,data:=.seq its n,slots:=sl }/\
   R (.ok (.ret (.ref (s.heap.push { cls:=.type "tuple_iterator",data:=.fields #[.ref l,.int 0 0] }).objs.size)))
    { s with heap:=(s.heap.push { cls:=.type "tuple_iterator",data:=.fields #[.ref l,.int 0 0] }).push { cls:=.type "enumerate",data:=.fields #[.none,.bool false,.ref s.heap.objs.size,rawInt 0,.none,.none] } }):=
 .of_wp fun prog w A R s h=>by
  obtain⟨hp,g,d,tk,os⟩:=s;obtain⟨hl,h⟩:=h
  have hsub:=sub_enumerate
  have tL:Heap.IsTuple (Shared.heap ⟨hp,g,d,tk,os⟩) l its:=⟨_,hl,rfl,n,rfl⟩
  wp_walk using wpAny_loadPart' hl
  refine wpAny_stack_any fun st=>Qab ?_
  split
  ·rename_i c _ _ _ _ _
   cases(c==Value.type "enumerate")
   ·wp_walk using wpAny_loadPart' hl,wpAny_pyIter_tuple tL
    exact⟨_,rfl,h⟩
   ·wp_walk using wpAny_loadPart' hl,wpAny_pyIter_tuple tL
    exact⟨_,rfl,h⟩
  ·wp_walk using wpAny_loadPart' hl,wpAny_pyIter_tuple tL
   exact⟨_,rfl,h⟩
theorem n_a{prog:Program}{w:World}{A:Around}{E:Value->Shared->Prop}{s:Shared}{l:Addr}{its:Array Value}{Q:Value->Shared->Prop}(tL:s.heap.IsTuple l its)
  (h:∀h',IsEnum h' (s.heap.objs.size+1) s.heap.objs.size 0 .none->h'.IsTupleIter s.heap.objs.size l 0->(∀b o,s.heap.get? b=some o->h'.get? b=some o)->Q (.ref (s.heap.objs.size+1)) { s with heap:=h' }) :
  wpAny (model prog w) A (call (.type "enumerate") [.ref l]) Q E s:=by
 obtain⟨⟨c,dct,dt,sl⟩,hl,hc,n,hd⟩:=tL
 replace hc:c=.type "tuple":=hc
 replace hd:dt=.seq its n:=hd
 subst hc hd
 refine callType_new F.called_enumerate (by decide) (F.typeCall_enumerate_1 _) (F.newCall_enumerate_1 _) (fun obj=>F.args_object_init_2 obj _) F.entry_enumerate_new
  (l_x l its n dct sl) ⟨hl,?_⟩
 generalize hg:s.heap.push { cls:=.type "tuple_iterator",data:=.fields #[.ref l,.int 0 0] }=g
 have gz:g.objs.size=s.heap.objs.size+1:=by rw[<-hg];exact Heap.size_push ..
 have gi:g.get? s.heap.objs.size=some { cls:=.type "tuple_iterator",data:=.fields #[.ref l,.int 0 0] }:=by rw[<-hg];exact Heap.get?_push_size _ rfl
 have gk:∀b o,s.heap.get? b=some o->g.get? b=some o:=fun b o e=>by rw[<-hg];exact Qac _ e
 show _/\_
 rw[gz]
 have he:IsEnum (g.push { cls:=.type "enumerate",data:=.fields #[.none,.bool false,.ref s.heap.objs.size,rawInt 0,.none,.none] }) (s.heap.objs.size+1) s.heap.objs.size 0 .none:=by
  have:=Heap.get?_push_size g (o:={ cls:=.type "enumerate",data:=.fields #[.none,.bool false,.ref s.heap.objs.size,rawInt 0,.none,.none] }) rfl
  rw[gz] at this;exact this
 exact⟨⟨_,he,rfl⟩,h _ he ⟨_,Qac _ gi,rfl,rfl⟩ fun b o x=>Qac _ (gk b o x)⟩
noncomputable def ItT(K:Frag)(a:Addr):It:=
 ⟨fun i H=>∃xs x,SqT K H a xs/\xs[i]? = some x,fun i H v H'=>∃T x,v=.ref T/\H T=none/\H' = upd H T (.tup [.int i,x])/\∀xs,SqT K H a xs->xs[i]? = some x,fun i H=>∃xs,SqT K H a xs/\xs.length=i⟩
theorem n_c{P:Program}{w:World}{K:Frag}{elts:List Expr}{kk:Nat}{tpos:Pos}(a e it:Addr)(hne:e≠it):Turn P w K (.Tuple elts kk tpos) (ItT K a) [e,it] e (fun i h=>(∃old,IsEnum h e it i old)/\h.IsTupleIter it a i) where
 mem:=by simp
 obj:=fun i h st b hb=>by
  obtain⟨⟨old,he⟩,o,e1,c,d⟩:=st
  rcases List.mem_cons.mp hb with rfl | hb
  ·exact⟨_,he,fun v z=>by cases z⟩
  ·obtain rfl:=List.mem_singleton.mp hb
   exact⟨o,e1,fun v z=>by rw[d] at z;cases z⟩
 keep:=fun i h h' st k=>⟨st.1.elim fun old he=>⟨old,k e (by simp) _ he⟩,(let⟨o,e',r⟩:=st.2;⟨o,k it (by simp) o e',r⟩)⟩
 item:=by
  intro X hP hw hK hc i pins s Y H E I hf st hg
  subst hP hw hK
  obtain⟨⟨old,he⟩,hit⟩:=st
  obtain⟨xs,x,hq,hx⟩:=hg
  obtain⟨its,rv,p,hz⟩:=I.tuple hq
  obtain⟨u,hu,ru⟩:=rv.get hx
  have hh:X.A.in1.handled=none:=I.ok.hd hc
  have hae:a≠e:=fun q=>by
   obtain⟨o,e1,e2,_⟩:=p
   rw[q] at e1;rw[he] at e1;cases e1;exact absurd (show Value.type "enumerate" = Value.type "tuple" from e2) (by decide)
  have hai:a≠it:=fun q=>by
   obtain⟨o,e1,e2,_⟩:=p
   obtain⟨o',e1',c',_⟩:=hit
   rw[q] at e1;rw[e1'] at e1;cases e1;rw[c'] at e2;exact absurd e2 (by decide)
  refine wpAny_pyNext_enum_itemD (q_4 hh it a hai its.toArray) he ⟨hit,p⟩ (by simpa using(List.getElem?_eq_some_iff.mp hu).1) hne (by simp only[List.mem_cons,List.not_mem_nil,or_false,not_or];exact⟨hne,Ne.symm hae⟩) fun x' h' tk ex ho hi' hT hsz hk=>⟨_,rfl,?_⟩
  obtain rfl:x' = u:=by
   have:its.toArray[i]? = some x':=ex
   rw[List.getElem?_toArray,hu] at this
   exact(Option.some.inj this).symm
  refine wpAny_letOwnedTupleGo_enum (s:={ s with heap:=h',toks:=tk+1 }) ho fun h2 he2 hs2=>?_
  have hel:s.heap.objs.size≠e:=Nat.ne_of_gt (Qad he)
  have k2:∀b ob,b∉[e,it]->s.heap.get? b=some ob->h2.get? b=some ob:=fun b ob hb q=>by
   simp only[List.mem_cons,List.not_mem_nil,or_false,not_or] at hb
   exact(hs2.2 b hb.1).trans (hk b ob hb.1 hb.2 q)
  have it2:h2.IsTupleIter it a (i+1):=let⟨o,e1,r⟩:=hi'.1;⟨o,(hs2.2 it (Ne.symm hne)).trans e1,r⟩
  have I1:Inv X pins Y (upd H s.heap.objs.size (.tup [.int i,x])) { s with heap:=h2,toks:=tk+1 }:=by
   refine I.turnedNew (ch:=[e,it]) hf k2 (Qae _) (fun b hb ob q=>?_) ?_
   ·rcases List.mem_cons.mp hb with rfl | hb
    ·exact⟨_,he2⟩
    ·obtain rfl:=List.mem_singleton.mp hb
     obtain⟨o,e1,_⟩:=it2
     exact⟨o,e1⟩
   ·exact⟨by show 2<=sizeLine;decide,[.int i tk,x'],.cons ⟨_,rfl⟩ (.cons ru .nil),⟨_,(hs2.2 _ hel).trans hT,rfl,_,rfl⟩⟩
  refine⟨.ref s.heap.objs.size,_,I1,rfl,⟨_,x,rfl,I.hok.fresh (Qae _),rfl,fun ys hy=>by rw[I.tuple_inj hy hq];exact hx⟩,⟨⟨_,by simpa using he2⟩,it2⟩,fun b hb=>?_⟩
  have hb':b<s.heap.objs.size:=by
   rcases List.mem_cons.mp hb with rfl | hb
   ·exact Qad he
   ·obtain rfl:=List.mem_singleton.mp hb
    obtain⟨o,e1,_⟩:=hit
    exact Qad e1
  rw[a_u (Nat.ne_of_lt hb')]
  exact(hf b hb).1
 done:=by
  intro X hP hw hK hc i pins s Y H E I hf st hg
  subst hP hw hK
  obtain⟨⟨old,he⟩,hit⟩:=st
  obtain⟨xs,hq,rfl⟩:=hg
  obtain⟨its,rv,p,hz⟩:=I.tuple hq
  obtain⟨f0,f1,f2,f3,f4,f5⟩:=hf it (by simp)
  have hh:X.A.in1.handled=none:=I.ok.hd hc
  have hai:a≠it:=fun q=>by
   obtain⟨o,e1,e2,_⟩:=p
   obtain⟨o',e1',c',_⟩:=hit
   rw[q] at e1;rw[e1'] at e1;cases e1;rw[c'] at e2;exact absurd e2 (by decide)
  refine wpAny_pyNext_enum_endD (q_4 hh it a hai its.toArray) he ⟨?_,p⟩ fun h' eb=>⟨rfl,I.turned (t':=s.toks) (fun b o hb e=>eb b o hb e) f0 f1 f3 f4 f5⟩
  have:its.toArray.size=xs.length:=by rw[List.size_toArray,rv.length]
  rw[this];exact hit
 self:=fun _ _ _ _ _ st h=>st.1.elim fun _ he=>wpAny_pyIter_enum he h
section
variable{X:Cx}{elts:List Expr}{kk:Nat}{tpos:Pos}
noncomputable def v_k(K:Frag)(ta:TA):TI:=fun Y H R=>ta Y H fun vs H1=>∃a xs,vs=[.ref a]/\SqT K H1 a xs/\R (ItT K a) H1
theorem p_O{a:Expr}{ta:TA}{p pos:Pos}(hg:Gl X "enumerate")(hm:X.mg "enumerate" = none)(ha:PA X [a] ta)(hs:starEach [a] X.env=[(false,eval a X.env)]:=by rfl):PI X (.Tuple elts kk tpos) (.Call (.Name "enumerate" p) [a] [] pos) (v_k X.K ta):=by
 intro pins s Y H R I h
 refine Call_ (f_P I hg hm (show bootBuiltins "enumerate" = some (.type "enumerate") by decide +kernel) (PyProof.Rows.callWith_type1 (thn (ha pos pins s Y H _ I h) fun us s1 ⟨vs,H1,I1,r1,q1⟩=>?_) hs rfl))
 obtain⟨l,xs,rfl,hq,q⟩:=q1
 obtain⟨u,rfl,ru⟩:=vals1 r1
 cases ru
 obtain⟨its,rv,p,hz⟩:=I1.tuple hq
 refine n_a p fun h' he hi hk=>?_
 refine wpAny_pyIter_enum (s:={ s1 with heap:=h' }) he ?_
 refine⟨s1.heap.objs.size+1,[s1.heap.objs.size+1,s1.heap.objs.size],_,_,H1,rfl,I1.kept (t':=s1.toks) hk,n_c l _ _ (Nat.succ_ne_self _),⟨⟨_,he⟩,hi⟩,fun b hb=>?_,q⟩
 have hb':s1.heap.objs.size<=b:=by
  rcases List.mem_cons.mp hb with rfl | hb
  ·exact Nat.le_succ _
  ·obtain rfl:=List.mem_singleton.mp hb
   exact Qae _
 exact I1.fpOk hb' (I1.hok.fresh hb')
end
end L2
namespace L2.L3
open PySem PySem.Spec PyProof.Rows
section
variable{X:Cx}{F:Fx}{E:Str->a_q->Prop}{a e:Expr}{tA:DTA}{p pos:Pos}
noncomputable def iET(t:DTA):DTI:=fun U Q=>t U fun ds U'=>∃es,ds=[.tuple es]/\Q (numbered es) U'
theorem q_e{elts:List Expr}{kk:Nat}{tpos:Pos}(hg:Gl X "enumerate")(hm:X.mg "enumerate" = none)(ha:DA X F [a] tA)(hs:starEach [a] X.env=[(false,eval a X.env)]:=by rfl):DI X F (.Tuple elts kk tpos) (.Call (.Name "enumerate" p) [a] [] pos) (iET tA):=
 ⟨fun _ _ _ k q=>ha.mn _ _ _ (fun _ _ ⟨j,e,q⟩=>⟨j,e,k _ _ q⟩) q,(p_O hg hm ha.pa hs).imp fun Y H R ⟨U,O,st,q⟩=>
  ⟨U,O,st,ha.mn _ _ _ (fun ds U1 ⟨es,e,q1⟩ vs H1 O1 st1 s1 d1=>by
   subst e
   cases d1 with
   | cons d r=>
    cases r
    obtain⟨a,xs,rfl,hx,hd⟩:=d.tup_inv
    obtain⟨hx1,hn1⟩:=d_v hx
    refine⟨a,xs,rfl,.inl hx1,q1 _ H1 O1 st1 s1 fun O' H' s ok=>?_⟩
    have h2:Rd H' a (.tup xs):=hx1.imp (fun e=>s.keep a _ hn1 e) fun⟨o,e⟩=>⟨o,s.keep a _ hn1 e⟩
    have hd':=DVs.mono s.hid hd
    refine⟨fun i d e=>?_,⟨xs,.inl h2,by unfold numbered;rw[List.length_mapIdx,hd.length]⟩⟩
    unfold numbered at e
    rw[List.getElem?_mapIdx] at e
    obtain⟨d0,e1,e2⟩:=Option.map_eq_some_iff.mp e
    subst e2
    obtain⟨v,hv,dv⟩:=hd'.get e1
    refine⟨⟨xs,v,.inl h2,hv⟩,fun x H'' ⟨T,y,q1,q2,q3,q4⟩=>?_⟩
    subst q1 q3
    have:=q4 xs (.inl h2)
    rw[hv] at this
    cases this
    exact⟨a_l q2,f_A q2 (ok.nofree T q2) (.cons (.int _) (.cons dv .nil))⟩) q⟩⟩
@[simp] noncomputable def t_9:List PyData->Option (List PyData):=fun xs=>match xs with
 | [.tuple ds]=>some (numbered ds)
 | _=>none
theorem p_W{tg:Expr}{ma:XM (List PyData)}(h:DI X F tg e (iET (wp E ma))):FI X F E tg e (iLf t_9 ma):=h.imp a_m fun U Q q=>a_m _ _ _ (fun ds U1 q1=>by
 obtain⟨y,e1,q2⟩:=a_X q1
 unfold t_9 at e1
 split at e1
 ·cases e1;exact⟨_,rfl,q2⟩
 ·cases e1) (a_w q)
end
noncomputable def l_V(ws:List Str):List PyData:=ws.map PyData.str
section
variable{X:Cx}{F:Fx}{E:Str->a_q->Prop}{tg e:Expr}{x:Str}{pos p1:Pos}{g d:Addr}{ws:List Str}
@[simp] noncomputable def iC(ds:List PyData):XM (List PyData):=fun U=>.ok ds U
noncomputable def y_c(X:Cx)(d:Addr)(kd:List (Str×Int)):Prop:=(d==sysModules)=false/\∃(kvs:List (Str×Value)) (ep:Nat),
 (∀h:Heap,X.K.In h->h.DictAt (strKind X.prog X.w) d kvs ep)/\kvs.map (·.1)=kd.map (·.1)/\∀k n,kd.lookup k=some n->∃t,valueAt kvs k=some (.int n t)
noncomputable def Itk(ws:List Str):It:=⟨fun i _=>i<ws.length,fun i H x H'=>H' = H/\∃k,ws[i]? = some k/\x=.str k,fun i _=>ws.length<=i⟩
theorem n_W{kvs:List (Str×Value)}{ep:Nat}{P:Program}{w:World}{K:Frag}(it:Addr)(hD:∀h:Heap,K.In h->h.DictAt (strKind P w) d kvs ep) :
  Turn P w K tg (Itk (kvs.map (·.1))) [it] it (fun i h=>h.IsKeyIter it d i kvs.length ep) where
 mem:=by simp
 obj:=fun i h st b hb=>by
  have e:b=it:=by simpa using hb
  subst e
  obtain⟨o,e,c,dd⟩:=st
  exact⟨o,e,fun v z=>by rw[dd] at z;cases z⟩
 keep:=fun i h h' st k=>by
  obtain⟨o,e,c,dd⟩:=st
  exact⟨o,k it (by simp) o e,c,dd⟩
 item:=by
  intro X hP hw hK hc i pins s Y H E I hf st hg
  subst hP hw hK
  have hi:i<kvs.length:=by simpa[Itk] using hg
  obtain⟨⟨k,x⟩,hx⟩:∃p,kvs[i]? = some p:=⟨kvs[i],by simp[hi]⟩
  obtain⟨f0,f1,f2,f3,f4,f5⟩:=hf it (by simp)
  refine wpAny_pyNext_dict_item st (hD _ I.kIn) hx fun key h' hkey hit' sb=>?_
  obtain⟨t,rfl⟩:=Value.isStrOf_shape hkey
  have I1:Inv X pins Y H { s with heap:=h' }:=I.turned (t':=s.toks) (fun b o hb e=>(sb.2 b hb).trans e) f0 f1 f3 f4 f5
  obtain⟨o,e,c,dd⟩:=id hit'
  exact⟨_,rfl,p_8 (s:={ s with heap:=h' }) e c dd (by decide) ⟨.str k,H,I1,⟨t,rfl⟩,⟨rfl,k,by simp[hx],rfl⟩,hit',fun b hb=>(hf b hb).1⟩⟩
 done:=by
  intro X hP hw hK hc i pins s Y H E I hf st hg
  subst hP hw hK
  have hi:kvs.length<=i:=by simpa[Itk] using hg
  obtain⟨f0,f1,f2,f3,f4,f5⟩:=hf it (by simp)
  exact wpAny_pyNext_dict_end (I.ok.hd hc) st (hD _ I.kIn) (by simp;omega) fun h' eb=>⟨rfl,I.turned (t':=s.toks) (fun b o hb e=>eb b o hb e) f0 f1 f3 f4 f5⟩
 self:=fun _ _ _ _ _ st h=>wpAny_pyIter_keyiter st h
theorem s_E{O:List Addr}{H:Hp}:Wk O H (Itk ws) (l_V ws):=fun O' H' s ok=>by
 refine⟨fun i d e=>?_,by simp[Itk,l_V]⟩
 unfold l_V at e
 rw[List.getElem?_map] at e
 obtain⟨y,hy,rfl⟩:=Option.map_eq_some_iff.mp e
 refine⟨(List.getElem?_eq_some_iff.mp hy).1,fun x H'' ⟨e1,k,e2,e3⟩=>?_⟩
 subst e1 e3
 rw[hy] at e2
 cases e2
 exact⟨fun _ _ h=>h,.str _⟩
theorem r_5{kvs:List (Str×Value)}{ep:Nat}(hs:(d==sysModules)=false)(hg:Gl X x)(hm:X.mg x=some (.ref d))(hD:∀h:Heap,X.K.In h->h.DictAt (strKind X.prog X.w) d kvs ep)(hd:(x==("__debug__":Str))=false:=by decide) :
  PI X tg (.Name x pos) (fun _ H R=>R (Itk (kvs.map (·.1))) H):=by
 intro pins s Y H R I h
 refine thn (l_A (v:=.ref d) hg hm rfl hd pins s Y H (fun v H1=>v=.ref d/\H1=H) I ⟨rfl,rfl⟩) fun v s1 ⟨y,H1,I1,r1,q1,q2⟩=>?_
 subst q1 q2
 cases r1
 refine wpAny_pyIter_dict hs (hD _ I1.kIn) ?_
 refine⟨s1.heap.objs.size,[s1.heap.objs.size],_,_,H1,rfl,I1.kept (t':=s1.toks) fun b o e=>Qac _ e,n_W _ hD,⟨_,Heap.get?_push_size _ rfl,rfl,rfl⟩,fun b hb=>?_,h⟩
 have e:b=s1.heap.objs.size:=by simpa using hb
 subst e
 exact I1.fpOk (Qae _) (I1.hok.fresh (Qae _))
theorem r_R{kd:List (Str×Int)}(hg:Gl X x)(hm:X.mg x=some (.ref d))(hD:y_c X d kd)(hd:(x==("__debug__":Str))=false:=by decide):FI X F E tg (.Name x pos) (iC (l_V (kd.map (·.1)))):=by
 obtain⟨hs,kvs,ep,h1,h2,_⟩:=hD
 refine⟨a_m,(r_5 hs hg hm h1 hd).imp fun Y H R ⟨U,O,st,q⟩=>?_⟩
 rw[h2]
 exact q _ H O st (.refl ..) s_E
noncomputable def gdK(kd:List (Str×Int)):PyData->Option PyData
 | .str k=>(kd.lookup k).map PyData.int
 | _=>none
@[simp] noncomputable def xGD(kd:List (Str×Int))(m:XM PyData):XM PyData:=fun U=>(m U).bind fun d=>lift (gdK kd d)
theorem s_C{kd:List (Str×Int)}{m:XM PyData}(hg:Gl X x)(hm:X.mg x=some (.ref d))(hD:y_c X d kd)(he:FE X F E e m)(hs:y_L e:=by intro _ _;rfl)(hd:(x==("__debug__":Str))=false:=by decide):FE X F E (.Subscript (.Name x p1) e pos) (xGD kd m):=by
 obtain⟨hsy,kvs,ep,h1,h2,h3⟩:=hD
 refine⟨a_m,fun pins s Y H Q I ⟨U,O,st,q⟩=>?_⟩
 refine s_c PySem.F.slot_dict_getitem.lookup hs (thn (l_A (v:=.ref d) hg hm rfl hd pins s Y H (fun v H1=>v=.ref d/\H1=H) I ⟨rfl,rfl⟩) fun u s1 ⟨y,H1,I1,r1,q1,q2⟩=>?_)
 subst q1 q2
 cases r1
 refine thn (he.pe pins s1 Y H1 (fun v H2=>∃k n,v=.str k/\kd.lookup k=some n/\Q (.int n) H2) I1 ⟨U,O,st,a_m _ _ _ (fun dd U1 q1 w H2 O2 st2 s2 d2=>?_) (a_w q)⟩) fun iv s2 ⟨z,H2,I2,rz,k,n,ez,el,qz⟩=>?_
 ·obtain⟨r,e1,q3⟩:=a_X q1
  unfold gdK at e1
  split at e1
  ·rename_i k
   obtain⟨n,e2,e3⟩:=Option.map_eq_some_iff.mp e1
   subst e3
   cases d2
   exact⟨k,n,rfl,e2,q3 _ H2 O2 st2 s2 (.int _)⟩
  ·cases e1
 ·subst ez
  obtain⟨t,rfl⟩:=(show ∃t,iv=Value.str k t from rz)
  have dd:=h1 _ I2.kIn
  obtain⟨t',hv⟩:=h3 k n el
  refine⟨dd.dictOf.typeIs,wpAny_getItem_of (knd:=strKind X.prog X.w) (k:=k) ?_ dd.dictOf.mapOf hv ⟨.int n,H2,I2.tok _,⟨t',rfl⟩,qz⟩⟩
  show Value.isStrOf k (.str k t)=true
  simp[Value.isStrOf]
end
section
variable{X:Cx}{F:Fx}{E:Str->a_q->Prop}{a b:Expr}
@[simp] noncomputable def x_m(i j:Nat)(n:Int)(c:Cell):SM:=fun U1=>if i<U1.length then(match c with | .own true _=>.bad | c=>.nx ((U1.set i (some c)).set j (some (.dat (.int n))))) else .bad
@[simp] noncomputable def v_w(i j:Nat)(n:Int)(m:XM Cell):SM:=fun U=>ofX (m U) (x_m i j n)
theorem r_Y{i j:Nat}{x y:Str}{px py pt pos pb:Pos}{kt k2 pt2}{n:Int}{jb}{m:XM Cell}(hc:X.calm=true)(hN:X.N.Nodup)(hi:X.N[i]? = some x)(hj:X.N[j]? = some y)(hij:i≠j)
  (hx:X.env.scope.names.lookup x=some .local) (hy:X.env.scope.names.lookup y=some .local) (he:FO X F E a m)
  (hw:swappedStores [.Tuple [.Name x px,.Name y py] kt pt] (.Tuple [a,.Constant (.int n) jb pb] k2 pt2) X.env=pure (some [x,y]):=by rfl)
  (hs:swapsWithSole [.Tuple [.Name x px,.Name y py] kt pt] (.Tuple [a,.Constant (.int n) jb pb] k2 pt2) pos.line X.env=pure false:=by rfl)
  (h1:starEach [a,.Constant (.int n) jb pb] X.env=(false,eval a X.env)::starEach [.Constant (.int n) jb pb] X.env:=by rfl) (h2:starEach [.Constant (.int n) jb pb] X.env=(false,eval (.Constant (.int n) jb pb) X.env)::starEach [] X.env:=by rfl) :
  FS X F E (.Assign [.Tuple [.Name x px,.Name y py] kt pt] (.Tuple [a,.Constant (.int n) jb pb] k2 pt2) pos) (v_w i j n m):=
 (v_P hc hN hi hj hij hx hy (b_G he.pe (b_G m_f d_9 h2) h1) hw hs).imp fun D Y H ⟨U,O,DD,st,q,f⟩=>⟨U,O,st,he.mn _ _ _ (fun c U1 q0 v H1 O1 fp r s1=>by
  have q1:i<U1.length/\(∀b,c≠.own true b)/\DD.nx ((U1.set i (some c)).set j (some (.dat (.int n)))):=by
   unfold wpS x_m at q0
   by_cases hl:i<U1.length
   ·simp only[if_pos hl] at q0
    cases c with
    | own io b=>cases io with
     | true=>exact q0.elim
     | false=>exact⟨hl,(fun _ z=>by cases z),q0⟩
    | dat d=>exact⟨hl,(fun _ z=>by cases z),q0⟩
    | scr d=>exact⟨hl,(fun _ z=>by cases z),q0⟩
    | exc d=>exact⟨hl,(fun _ z=>by cases z),q0⟩
    | vw d=>exact⟨hl,(fun _ z=>by cases z),q0⟩
   ·simp only[if_neg hl] at q0
  obtain⟨hl,hn,q2⟩:=q1
  obtain⟨O2,st2,s2⟩:=DSt.put1 (io:=true) r.st r.at_ r.new hl (fun b z=>absurd z (hn b))
  exact⟨v,.int n,rfl,f.nx _ H1 _ O2 (st2.set (.int n)) (s1.trans s2) q2⟩) (c_q (k:=x_m i j n) q)⟩
end
end L2.L3
namespace L2.L3
open PySem
theorem s_v{mg:Str->Option Value}(h1:mg "ANY_ZONE" = none)(h2:mg "NO_DEEDS" = none)(H:Hp):GH mg H:=fun x d u e1 e2=>by
 unfold glob at e1
 split at e1
 ·rename_i h;subst h;rw[h1] at e2;cases e2
 ·split at e1
  ·rename_i h;subst h;rw[h2] at e2;cases e2
  ·cases e1
end L2.L3
namespace L2.L3
open PySem PySem.Spec PyProof.Rows
noncomputable def u_W(P:Program)(w:World)(K:Frag)(d:Addr)(kd:List (Str×Int)):Prop:=(d==sysModules)=false/\∃(kvs:List (Str×Value)) (ep:Nat),
 (∀h:Heap,K.In h->h.DictAt (strKind P w) d kvs ep)/\kvs.map (·.1)=kd.map (·.1)/\∀k n,kd.lookup k=some n->∃t,valueAt kvs k=some (.int n t)
structure Wn4 where
 k:Str
 n:Int
 t:Tok
 u:Tok
noncomputable def ent(w:World)(e:Wn4):DictEntry:=⟨hashStr w e.k,.str e.k e.t,.int e.n e.u⟩
theorem k_S{P:Program}{w:World}:∀L:List Wn4,Pairs (strKind P w) (L.map (ent w)) (L.map fun e=>(e.k,Value.int e.n e.u))
 | []=>.nil
 | e::L=>.cons (by show Value.isStrOf e.k (.str e.k e.t)=true;simp[Value.isStrOf]) rfl (k_S L)
theorem n_N:∀(L:List Wn4) (k:Str) (n:Int),(L.map fun e=>(e.k,e.n)).lookup k=some n->∃t,valueAt (L.map fun e=>(e.k,Value.int e.n e.u)) k=some (.int n t)
 | [],k,n,e=>by cases e
 | e::L,k,n,h=>by
  rw[List.map_cons,List.lookup_cons] at h
  by_cases q:k=e.k
  ·subst q
   simp at h
   subst h
   exact⟨e.u,by simp[valueAt]⟩
  ·have:(k==e.k)=false:=by simpa using q
   rw[this] at h
   obtain⟨t,ih⟩:=n_N L k n h
   refine⟨t,?_⟩
   rw[<-ih]
   unfold valueAt
   rw[List.map_cons,List.find?_cons_of_neg (by simpa using fun z:e.k=k=>q z.symm)]
theorem r_z{P:Program}{w:World}{K:Frag}{d:Addr}{ep:Nat}(L:List Wn4)(hl:K.lookup d=some ⟨.type "dict",none,.dict (L.map (ent w)).toArray ep,#[]⟩)(nd:(L.map (·.k)).Nodup)(hs:(d==sysModules)=false):u_W P w K d (L.map fun e=>(e.k,e.n)):=by
 refine⟨hs,L.map fun e=>(e.k,Value.int e.n e.u),ep,fun h X=>⟨_,_,X _ _ hl,⟨rfl,rfl,rfl⟩,rfl,?_,by simpa using k_S L,by simpa[Function.comp_def] using nd⟩,by simp[Function.comp_def],n_N L⟩
 intro e he
 obtain⟨x,_,rfl⟩:∃x∈L,ent w x=e:=by simpa using he
 exact⟨x.k,by show Value.isStrOf x.k (.str x.k x.t)=true;simp[Value.isStrOf],rfl⟩
end L2.L3
namespace L2
open PySem PySem.Spec PyProof.Rows
section
variable{X:Cx}
theorem n_B(hc:X.calm=true):i_p X (.builtin "any") (fun xs H Q=>∃(l:Addr) (bs:List Bool),xs=[.ref l]/\H l=some (.lst (bs.map V.bl))/\Q (.bl (bs.any id)) H):=by
 intro pins s Y H xs us Q I r h
 obtain⟨l,bs,rfl,hl,q⟩:=h
 obtain⟨u,rfl,ru⟩:=vals1 r
 cases ru
 obtain⟨z,its,n,rv,e⟩:=I.hok _ _ hl
 have L:s.heap.IsList l its.toArray:=⟨_,e,rfl,_,rfl⟩
 have hlt:l<s.heap.objs.size:=Qad e
 have len:=rv.length
 rw[List.length_map] at len
 refine call_any_walk (wpAny_pyIter_list L ?_)
 refine⟨s.heap.objs.size,_,_,_,_,_,fun i=>bs.getD i false,rfl,Walks.list (A:=X.A.in1) (show X.A.in1.handled=none from I.ok.hd hc) s.heap.objs.size l (Nat.ne_of_lt hlt) its.toArray,⟨⟨_,Heap.get?_push_size _ rfl,rfl,rfl⟩,L.push _⟩,?_,fun h' tk hk=>?_⟩
 ·intro i v s' Q' E' hv hq
  have hi:its[i]? = some v:=by simpa using hv
  have hlt:i<bs.length:=by rw[len];exact(List.getElem?_eq_some_iff.mp hi).1
  obtain⟨w,hw,rw'⟩:=rv.get (i:=i) (x:=.bl bs[i]) (by rw[List.getElem?_map,List.getElem?_eq_getElem hlt];rfl)
  rw[hi] at hw
  cases hw
  cases rw'
  refine wpAny_truthy_bool ?_
  have:bs.getD i false=bs[i]:=by simp[List.getD,hlt]
  have hq:Q' (bs.getD i false) s':=hq
  rw[this] at hq
  exact hq
 ·have e1:(List.range its.toArray.size).any (fun i=>bs.getD i false)=bs.any id:=by
   rw[List.size_toArray,<-len]
   rw[Bool.eq_iff_iff,List.any_eq_true,List.any_eq_true]
   constructor
   ·rintro⟨i,hi,h⟩
    have hi':=List.mem_range.mp hi
    exact⟨bs[i],List.getElem_mem hi',by simpa[List.getD,hi'] using h⟩
   ·rintro⟨b,hb,h⟩
    obtain⟨i,hi,rfl⟩:=List.getElem_of_mem hb
    exact⟨i,List.mem_range.mpr hi,by simpa[List.getD,hi] using h⟩
  rw[e1]
  exact⟨.bl (bs.any id),H,I.kept fun b o eb=>hk b o (fun zz=>absurd (Qad eb) (by rw[List.mem_singleton.mp zz];exact Nat.lt_irrefl _)) (Qac _ eb),rfl,q⟩
end
end L2
namespace L2.L3
open PySem PySem.Spec PyProof.Rows
noncomputable def y_P:DN:=fun xs Q=>∃bs:List Bool,xs=[.list (bs.map .bool)]/\Q (.bool (bs.any id))
theorem w_X:OpN (fun xs H Q=>∃(l:Addr) (bs:List Bool),xs=[.ref l]/\H l=some (.lst (bs.map V.bl))/\Q (.bl (bs.any id)) H) y_P where
 mn:=fun _ _ _ k ⟨bs,e,q⟩=>⟨bs,e,k _ q⟩
 ok:=fun O H vs xs Q hO hd ⟨bs,e,q⟩=>by
  subst e
  obtain⟨x,rfl,h1⟩:=dvs1 hd
  obtain⟨a,ys,rfl,ha,hy⟩:=h1.lst_inv
  exact⟨a,bs,rfl,by rw[(a_1 ha).1,i_g hy],q _ H (fun _ _ h=>h) (.bl _)⟩
noncomputable def r_P:List PyData->Option PyData:=fun xs=>match xs with
 | [.list ds]=>(bools? ds).map fun bs=>.bool (bs.any id)
 | _=>none
theorem v_D:FN y_P r_P:=fun xs d Q e q=>by
 unfold r_P at e
 split at e
 ·obtain⟨bs,e1,e2⟩:=Option.map_eq_some_iff.mp e
  rw[i_8 e1]
  subst e2
  exact⟨bs,rfl,q⟩
 ·cases e
theorem h_i{α:Type}{fp:List α}:∀{n k:Nat},k<n->((List.replicate n ([]:List α)).set k fp).flatten=fp
 | 0,_,h=>by omega
 | n+1,0,_=>by rw[List.replicate_succ,List.set_cons_zero,List.flatten_cons,f_E,List.append_nil]
 | n+1,k+1,h=>by rw[List.replicate_succ,List.set_cons_succ,List.flatten_cons,h_i (by omega)];rfl
noncomputable def k_b(own:List Str)(caps:List Nat)(k:Nat)(b:Bx)(U:a_q):a_q:=(c_p own caps U).set (own.length+k) (some (.own true b))
noncomputable def p_I(own:List Str)(caps:List Nat)(k jm:Nat)(s:DTI)(g:DTG)(tc:DTT)(te:DT):DT:=fun U Q=>s U fun its U1=>∃io b,U1[jm]? = some (some (.own io b))/\∃Iv:Nat->List PyData->a_q->Prop,Iv 0 [] (k_b own caps k b U1)/\
 (∀i d ys U',its[i]? = some d->Iv i ys U'->g d U' fun U2=>tc U2 fun b U3=>if b=true then te U3 fun y U4=>ys.length<sizeLine/\Iv (i+1) (ys++[y]) U4 else Iv (i+1) ys U3)/\
 ∀ys U',Iv its.length ys U'->∃b',U'[own.length+k]? = some (some (.own true b'))/\ys.length<=sizeLine/\Q (.list ys) (U1.set jm (some (.own io b')))
section
variable{K:Frag}{F:Fx}{own:List Str}{caps:List Nat}{k jm:Nat}{s:DTI}{g:DTG}{tc:DTT}{te:DT}
theorem o_i(hs:MnI s):Mn (p_I own caps k jm s g tc te):=fun _ _ _ kk q=>hs _ _ _ (fun _ _ ⟨io,b,hb,Iv,h0,h1,h2⟩=>⟨io,b,hb,Iv,h0,h1,fun ys U' h=>let⟨b',e,l,q⟩:=h2 ys U' h;⟨b',e,l,kk _ _ q⟩⟩) q
theorem o_7{PF:Fx->Prop}(hP:∀H1 Y U1 O1 A O2 I,DSt K F H1 Y U1 O1->(∀a∈A,∃o,H1 a=some o/\Mv o)->PF ⟨H1,A,O2,I⟩)(hkj:caps[k]? = some jm)(hs:MnI s)(hg:∀d U Q Q',(∀U',Q U'->Q' U')->g d U Q->g d U Q')(ht:MnT tc)(he:Mn te):∀Y H Q,rdE K F (p_I own caps k jm s g tc te) Y H Q->
  l_h own caps (rdI K F s) (fun v Y H Q=>∃F',PF F'/\rdG K F' g v Y H Q) (fun Y H Q=>∃F',PF F'/\rdT K F' tc Y H Q) (fun Y H Q=>∃F',PF F'/\rdE K F' te Y H Q) Y H Q:=fun Y H Q ⟨U,O,st,q⟩=>by
 refine⟨U,O,st,hs _ _ _ (fun its U1 ⟨io,b0,hb0,Iv,i0,step,fin⟩ J H1 O1 st1 s1 wk=>?_) q⟩
 obtain⟨W,stw,hO1⟩:=id st1
 obtain⟨v0,fp,hY,hW,a,rfl,hbx⟩:=stw.at_ jm _ hb0
 rw[<-hO1] at hbx
 have hjl:jm<U1.length:=(List.getElem?_eq_some_iff.mp hb0).1
 have ndO:O1.Nodup:=by rw[hO1];exact stw.nd
 have ndW:W.flatten.Nodup:=(List.nodup_append.mp stw.nd).1
 have nfp:fp.Nodup:=ndW.sublist (List.sublist_flatten_of_mem (List.mem_of_getElem? hW))
 have fpO:∀c∈fp,c∈O1:=fun c hc=>by rw[hO1];exact Qaj _ (a_d hW hc)
 have lfp:∀c∈fp,∃o,H1 c=some o/\Mv o:=fun c hc=>st1.live c (fpO c hc)
 let Oc:List Addr:=O1.filter fun c=>decide (c∉fp)
 have subc:∀c∈Oc,c∈O1/\c∉fp:=fun c h=>by
  obtain⟨h1,h2⟩:=List.mem_filter.mp h
  exact⟨h1,by simpa using h2⟩
 have inc:∀c∈O1,c∉fp->c∈Oc:=fun c h h2=>List.mem_filter.mpr ⟨h,by simpa using h2⟩
 have memO:∀c,c∈fp++Oc↔c∈O1:=fun c=>⟨fun h=>(List.mem_append.mp h).elim (fpO c) fun z=>(subc c z).1,fun h=>by
  by_cases z:c∈fp
  ·exact Qaj _ z
  ·exact Qai _ (inc c h z)⟩
 have ndc:(fp++Oc).Nodup:=List.nodup_append.mpr ⟨nfp,ndO.filter _,fun x hx y hy e=>by subst e;exact(subc x hy).2 hx⟩
 have stE:Stp O1 H1 (fp++Oc) H1:=d_u fun c h=>(memO c).mp h
 let F':Fx:=⟨H1,fp,Oc,fun _=>a⟩
 have pf:PF F':=hP _ _ _ _ _ _ _ st1 lfp
 have kn:own.length+k<(c_p own caps U1).length:=by
  have:=(List.getElem?_eq_some_iff.mp hkj).1
  unfold c_p;simp;omega
 have ln:(c_p own caps U1).length=(e_F own caps Y).length:=by unfold c_p e_F;simp
 have fl:((List.replicate (c_p own caps U1).length ([]:List Addr)).set (own.length+k) fp).flatten=fp:=h_i kn
 have Yk:(e_F own caps Y)[own.length+k]? = some (some (.ref a)):=by
  unfold e_F
  rw[List.getElem?_append_right (by simp),List.length_map,Nat.add_sub_cancel_left,List.getElem?_map,hkj]
  show some ((Y[jm]?).getD none)=_
  rw[hY];rfl
 refine⟨fun i m ys Y' H'=>∃U' O' ds,DSt K F' H' Y' U' O'/\Iv i ds U'/\DVs (hide O' H') ys ds/\i<=its.length/\m=its.length - i,⟨its.length,k_b own caps k b0 U1,fp++Oc,[],?_,i0,.nil,Nat.zero_le _,rfl⟩,?_⟩
 ·have cell:∀(i:Nat) (c:Cell),(c_p own caps U1)[i]? = some (some c)->(∀io b,c≠.own io b)/\∃v,(e_F own caps Y)[i]? = some (some v)/\c_A K H1 O1 v c []:=fun i c e=>by
   unfold c_p at e
   unfold e_F
   by_cases hi:i<own.length
   ·rw[List.getElem?_append_left (by simpa using hi),List.getElem?_map] at e
    cases h:own[i]? with
    | none=>rw[h] at e;cases e
    | some y=>rw[h] at e;cases e
   ·rw[List.getElem?_append_right (by simpa using Nat.le_of_not_lt hi),List.length_map,List.getElem?_map] at e
    rw[List.getElem?_append_right (by simpa using Nat.le_of_not_lt hi),List.length_map,List.getElem?_map]
    obtain⟨j,h1,h2⟩:=Option.map_eq_some_iff.mp e
    rw[h1]
    show _/\∃v,some ((Y[j]?).getD none)=some (some v)/\_
    cases h3:U1[j]? with
    | none=>rw[h3] at h2;cases h2
    | some o=>
     cases o with
     | none=>rw[h3] at h2;cases h2
     | some c'=>
      rw[h3] at h2
      obtain⟨v,fp',e1,_,e2⟩:=stw.at_ j c' h3
      rw[<-hO1] at e2
      rw[e1]
      cases c' with
      | dat d=>cases h2;exact⟨(fun _ _ z=>by cases z),v,rfl,e2⟩
      | scr ns=>cases h2;exact⟨(fun _ _ z=>by cases z),v,rfl,e2⟩
      | own _ _=>cases h2
      | exc _=>cases h2
      | vw b=>cases h2;exact⟨(fun _ _ z=>by cases z),v,rfl,e2⟩
  refine⟨(List.replicate (c_p own caps U1).length []).set (own.length+k) fp,⟨fun i c e=>?_,by show(_++Oc).Nodup;rw[fl];exact ndc,fun _ _ _ h=>h,fun c h=>?_,?_,?_,?_,fun i b e=>?_⟩,by show fp++Oc=_++Oc;rw[fl]⟩
  ·unfold k_b at e
   rcases d_2 e with⟨rfl,e1,hl⟩ | ⟨hi,e1⟩
   ·cases e1
    refine⟨.ref a,fp,Yk,List.getElem?_set_self (by simpa using hl),a,rfl,?_⟩
    show f_Z (hide (_++Oc) H1) H1 a b0 fp
    rw[fl]
    exact hbx.keep (fun _ _=>rfl) stE.hid
   ·obtain⟨_,v,e2,e3⟩:=cell i c e1
    refine⟨v,[],e2,?_,?_⟩
    ·rw[List.getElem?_set_ne (Ne.symm hi),List.getElem?_replicate,if_pos (List.getElem?_eq_some_iff.mp e1).1]
    ·show c_A K H1 (_++Oc) v c []
     rw[fl]
     exact e3.keep stE (fun _ _=>rfl) fun _ _ _ e=>e
  ·rw[fl] at h;exact .inl h
  ·show OOk H1 (_++Oc)
   rw[fl]
   exact fun c h=>st1.live c ((memO c).mp h)
  ·unfold k_b;rw[List.length_set];exact ln
  ·unfold k_b;rw[List.length_set,List.length_set,List.length_replicate]
  ·unfold k_b at e
   rcases d_2 e with⟨rfl,_,_⟩ | ⟨hi,e1⟩
   ·exact Yk
   ·exact absurd rfl ((cell i _ e1).1 true b)
 ·rintro i m ys Y' H' ⟨U',O',ds,st',iv,dv,hi,rfl⟩
  obtain⟨W',h',hO'⟩:=id st'
  have kp:∀b o,b∉fp->H1 b=some o->H' b=some o:=fun b o hb e=>h'.kept b o hb e
  have stp:Stp O1 H1 O' H':=⟨fun b o hb e=>kp b o (fun z=>hb (fpO b z)) e,fun c h=>by
   rw[hO'] at h
   rcases List.mem_append.mp h with h | h
   ·exact(h'.new c h).imp (fpO c) id
   ·exact .inl (subc c h).1⟩
  obtain⟨w1,w2⟩:=wk O' H' stp st'.live
  by_cases hlt:i<its.length
  ·obtain⟨go,yld⟩:=w1 i its[i] (List.getElem?_eq_getElem hlt)
   refine .inr ⟨go,fun x H2 hy=>?_⟩
   obtain⟨sm2,dx⟩:=yld x H2 hy
   refine⟨F',pf,U',O',its[i],st'.grow sm2,dx,hg _ _ _ _ (fun U2 q2 Y3 H3 O3 st3 s3=>?_) (step i its[i] ds U' (List.getElem?_eq_getElem hlt) iv)⟩
   refine⟨F',pf,U2,O3,st3,ht _ _ _ (fun b U3 q3 H4 O4 st4 s4=>?_) q2⟩
   have d4:DVs (hide O4 H4) ys ds:=DVs.mono s4.hid (DVs.mono s3.hid (DVs.mono (d_F sm2) dv))
   cases b with
   | false=>exact i_S ⟨its.length - (i+1),by omega,U3,O4,ds,st4,ofF q3,d4,hlt,rfl⟩
   | true=>
    refine i_V ⟨F',pf,U3,O4,st4,he _ _ _ (fun y U4 q4 v H5 O5 st5 s5 dy=>?_) (ofT q3)⟩
    refine⟨by rw[d4.length];exact q4.1,its.length - (i+1),by omega,U4,O5,ds++[y],st5,q4.2,(DVs.mono s5.hid d4).append (.cons dy .nil),hlt,rfl⟩
  ·have e:i=its.length:=by omega
   subst e
   obtain⟨b',hk',hz,q⟩:=fin ds U' iv
   refine .inl ⟨w2,by rw[dv.length];exact hz,fun p hp=>?_⟩
   obtain⟨v',fp',g1,g2,a',ea,g3⟩:=h'.at_ _ _ hk'
   have g4:=h'.io _ _ hk'
   rw[g1] at g4
   obtain rfl:a' = a:=by cases ea;cases g4;rfl
   rw[<-hO'] at g3
   have fpO':∀c∈fp',c∈O':=fun c hc=>by rw[hO'];exact Qaj _ (a_d g2 hc)
   have ndW':(W'.flatten++Oc).Nodup:=h'.nd
   have nfp':fp'.Nodup:=(List.nodup_append.mp ndW').1.sublist (List.sublist_flatten_of_mem (List.mem_of_getElem? g2))
   have oth:∀j l,j≠jm->W[j]? = some l->∀c∈l,c∈Oc:=fun j l hj e c hc=>inc c (by rw[hO1];exact Qaj _ (a_d e hc)) (d_G ndW e hW hj hc)
   have othO:∀c∈F.O₀,c∈Oc:=fun c hc=>inc c (by rw[hO1];exact Qai _ hc) fun z=>(List.nodup_append.mp stw.nd).2.2 c (a_d hW z) c hc rfl
   have apc:∀c∈fp',c∉Oc:=fun c hc z=>(List.nodup_append.mp ndW').2.2 c (a_d g2 hc) c z rfl
   have keq:∀c∈Oc,H' c=H1 c:=fun c hc=>by
    obtain⟨o,e,_⟩:=st1.live c (subc c hc).1
    rw[e];exact kp c o (subc c hc).2 e
   have subN:∀c∈(W.set jm fp').flatten++F.O₀,c∈O':=fun c h=>by
    rcases List.mem_append.mp h with h | h
    ·rcases a_C h with h | ⟨j,l,hj,e,hl⟩
     ·exact fpO' c h
     ·rw[hO'];exact Qai _ (oth j l hj e c hl)
    ·rw[hO'];exact Qai _ (othO c h)
   obtain⟨s2,s3⟩:=stw.put (H':=H') (i:=jm) (v:=.ref a') (c:=.own io b') (fp:=fp') hjl (fun j l c hj e hc=>keq c (oth j l hj e c hc)) (fun c hc=>keq c (othO c hc)) (fun c o hc e=>kp c o (fun z=>hc (by rw[<-hO1];exact fpO c z)) e) nfp'
    (fun c hc=>⟨fun j l hj e z=>apc c hc (oth j l hj e c z),fun z=>apc c hc (othO c z)⟩) (fun c hc=>(h'.new c (a_d g2 hc)).imp (fun z=>a_d hW z) id) (fun c hc=>h'.live c (by rw[<-hO'];exact fpO' c hc)) (fun _=>⟨a',rfl,g3.keep (fun _ _=>rfl) (f_w subN)⟩) (fun b2 z=>by
     have e1:io=true:=by cases z;rfl
     subst e1
     have:=stw.io jm b0 hb0
     rw[hY] at this
     exact Option.some.inj (Option.some.inj this))
   have eY:Y.set jm (some (.ref a'))=Y:=by
    apply List.ext_getElem?
    intro j
    by_cases hj:j=jm
    ·subst hj;rw[List.getElem?_set_self (List.getElem?_eq_some_iff.mp hY).1,hY]
    ·rw[List.getElem?_set_ne (Ne.symm hj)]
   rw[eY] at s2
   have stN:DSt K F H' Y (U1.set jm (some (.own io b'))) ((W.set jm fp').flatten++F.O₀):=⟨_,s2,rfl⟩
   rw[<-hO1] at s3
   have pO':=st'.nofree p hp
   exact q _ _ _ (stN.grow (a_l hp)) (s1.trans (s3.trans (.same (a_l hp)))) (c_K hp (fun z=>pO' (subN p z)) (DVs.mono (f_w subN) dv))
end
section
variable{X:Cx}{F:Fx}{scope:Scope}{own capN:List Str}{caps:List Nat}{k jm:Nat}{tg iter elt:Expr}{ifs:List Expr}{s:DTI}{g:DTG}{tc:DTT}{te:DT}{pos:Pos}
theorem q_m(hG:GF X.mg F)(S:CompScope X scope own capN caps)(hkj:caps[k]? = some jm)(hc:X.calm=true)(hi:DI X F tg iter s)
  (hin:∀C fp s₂ H₂ pl F',GF X.mg F'->DG (a_G X scope (own++capN) C fp s₂ H₂ pl) F' tg g/\DBs (a_G X scope (own++capN) C fp s₂ H₂ pl) F' ifs tc/\DE (a_G X scope (own++capN) C fp s₂ H₂ pl) F' elt te)
  (hs:∀x,foldedSetIterable iter X.env x=pure x:=by intro _;rfl):DE X F (.ListComp elt [⟨tg,iter,ifs,0⟩] scope pos) (p_I own caps k jm s g tc te):=by
 obtain⟨hg,ht,he⟩:=hin 0 [] (PySem.start X.prog).1 (fun _=>none) [] F hG
 refine⟨o_i hi.mn,(l_c S hc hi.pi (fun C fp s₂ H₂ pl=>⟨fun pins s Y H v u Q I r ⟨F',g',q⟩=>(hin C fp s₂ H₂ pl F' g').1.pg pins s Y H v u Q I r q,fun pins s Y H Q I ⟨F',g',q⟩=>(hin C fp s₂ H₂ pl F' g').2.1.2 pins s Y H Q I q,fun pins s Y H Q I ⟨F',g',q⟩=>(hin C fp s₂ H₂ pl F' g').2.2.pe pins s Y H Q I q⟩) hs).imp (o_7 (fun _ _ _ _ _ _ _ st hA=>(hG.at st).frame hA) hkj hi.mn hg.mn ht.1 he.mn)⟩
end
noncomputable def d_K(g:GM)(t:XM Bool)(m:XM PyData):List PyData->List PyData->a_q->Option (List PyData×a_q)
 | [],ys,U=>some (ys,U)
 | d::r,ys,U=>(match g d U with
  | some U1=>(match t U1 with
   | .ok true U2=>(match m U2 with
    | .ok y U3=>if ys.length<sizeLine then d_K g t m r (ys++[y]) U3 else none
    | _=>none)
   | .ok false U2=>d_K g t m r ys U2
   | _=>none)
  | none=>none)
noncomputable def i_I(own:Nat)(caps:List Nat)(k jm:Nat)(g:GM)(t:XM Bool)(m:XM PyData)(its:List PyData):XM PyData:=fun U1=>match U1[jm]? with
 | some (some (.own io b))=>(match d_K g t m its [] ((List.replicate own none++caps.map fun j=>w_A U1[j]?).set (own+k) (some (.own true b))) with
  | some (ys,U')=>(match U'[own+k]? with
   | some (some (.own true b'))=>if ys.length<=sizeLine then .ok (.list ys) (U1.set jm (some (.own io b'))) else .bad
   | _=>.bad)
  | none=>.bad)
 | _=>.bad
noncomputable def h_5(own:Nat)(caps:List Nat)(k jm:Nat)(s:XM (List PyData))(g:GM)(t:XM Bool)(m:XM PyData):XM PyData:=fun U=>(s U).bind (i_I own caps k jm g t m)
section
variable{X:Cx}{F:Fx}{E:Str->a_q->Prop}{pos:Pos}
theorem m_w{own:List Str}{caps:List Nat}{k jm:Nat}{s:XM (List PyData)}{g:GM}{t:XM Bool}{m:XM PyData}{U:a_q}{Q:PyData->a_q->Prop}(q:wp E (h_5 own.length caps k jm s g t m) U Q):p_I own caps k jm (wp E s) (wpG g) (wp E0' t) (wp E0' m) U Q:=a_m _ _ _ (fun its U1 q1=>by
 unfold wp i_I at q1
 split at q1
 ·rename_i e1
  revert q1 e1
  split
  ·rename_i io b hb
   split
   ·rename_i ys0 U0 hgo
    split
    ·rename_i b' hb'
     split
     ·rename_i hl
      intro e1 q1
      cases e1
      have eL:k_b own caps k b U1=(List.replicate own.length none++caps.map fun j=>w_A U1[j]?).set (own.length+k) (some (.own true b)):=by
       unfold k_b c_p
       rw[List.map_const']
      refine⟨io,b,hb,fun i ys U=>d_K g t m (its.drop i) ys U=some (ys0,U0),by rw[eL];exact hgo,fun i d ys U hd hi=>?_,fun ys U h=>?_⟩
      ·have e:its.drop i=d::its.drop (i+1):=by
        obtain⟨hlt,he⟩:=List.getElem?_eq_some_iff.mp hd
        rw[<-he]
        exact List.drop_eq_getElem_cons hlt
       simp only[e] at hi
       unfold d_K at hi
       unfold wpG
       cases hg:g d U with
       | none=>rw[hg] at hi;cases hi
       | some U2=>
        rw[hg] at hi
        simp only at hi ⊢
        unfold wp
        cases ht:t U2 with
        | ex c U3=>rw[ht] at hi;cases hi
        | bad=>rw[ht] at hi;cases hi
        | ok b U3=>
         rw[ht] at hi
         cases b with
         | false=>exact i_S hi
         | true=>
          refine i_V ?_
          simp only at hi ⊢
          cases hm:m U3 with
          | ex c U4=>rw[hm] at hi;cases hi
          | bad=>rw[hm] at hi;cases hi
          | ok y' U4=>
           rw[hm] at hi
           simp only at hi ⊢
           split at hi
           ·rename_i h;exact⟨h,hi⟩
           ·cases hi
      ·simp only[List.drop_length] at h
       have e:ys=ys0/\U=U0:=by unfold d_K at h;cases h;exact⟨rfl,rfl⟩
       obtain⟨rfl,rfl⟩:=e
       exact⟨b',hb',hl,q1⟩
     ·intro e1 _;cases e1
    ·intro e1 _;cases e1
   ·intro e1 _;cases e1
  ·intro e1 _;cases e1
 ·rename_i e1
  revert e1
  repeat (first | (split) | (intro e1;cases e1))
 ·exact q1.elim) (a_w (k:=i_I own.length caps k jm g t m) q)
theorem p_0{scope:Scope}{own capN:List Str}{caps:List Nat}{k jm:Nat}{tg iter elt:Expr}{ifs:List Expr}{s:XM (List PyData)}{g:GM}{t:XM Bool}{m:XM PyData}{n:Nat}(hG:GF X.mg F)(S:CompScope X scope own capN caps)(hkj:caps[k]? = some jm)(hc:X.calm=true)(hn:own.length=n)(hi:FI X F E tg iter s)
  (hin:∀C fp s₂ H₂ pl F',GF X.mg F'->FG (a_G X scope (own++capN) C fp s₂ H₂ pl) F' tg g/\FBs (a_G X scope (own++capN) C fp s₂ H₂ pl) F' E0' ifs t/\FE (a_G X scope (own++capN) C fp s₂ H₂ pl) F' E0' elt m)
  (hs:∀x,foldedSetIterable iter X.env x=pure x:=by intro _;rfl):FE X F E (.ListComp elt [⟨tg,iter,ifs,0⟩] scope pos) (h_5 n caps k jm s g t m):=by
 subst hn
 exact DE.imp' (q_m hG S hkj hc hi hin hs) a_m fun U Q q=>m_w q
theorem l_L{scope:Scope}{own capN:List Str}{caps:List Nat}{k jm:Nat}{tg iter elt:Expr}{ifs:List Expr}{s:XM (List PyData)}{g:GM}{t:XM Bool}{m:XM PyData}{n i:Nat}{y:Str}{py spos:Pos}(hN:X.N.Nodup)(hi':X.N[i]? = some y)(hx:Loc X.env.scope y)(hG:GF X.mg F)(S:CompScope X scope own capN caps)(hkj:caps[k]? = some jm)(hc:X.calm=true)(hn:own.length=n)(hi:FI X F E tg iter s)
  (hin:∀C fp s₂ H₂ pl F',GF X.mg F'->FG (a_G X scope (own++capN) C fp s₂ H₂ pl) F' tg g/\FBs (a_G X scope (own++capN) C fp s₂ H₂ pl) F' E0' ifs t/\FE (a_G X scope (own++capN) C fp s₂ H₂ pl) F' E0' elt m)
  (hsw:swapsWith (.ListComp elt [⟨tg,iter,ifs,0⟩] scope pos) (some (.Name y py)) spos.line X.env=pure true:=by rfl)
  (hs:∀x,foldedSetIterable iter X.env x=pure x:=by intro _;rfl) (hf:X.fn y=true\/X.env.scope.names.lookup y=some .local:=by first | exact .inl rfl | exact .inr rfl | assumption) :
  FS X F E (.Assign [.Name y py] (.ListComp elt [⟨tg,iter,ifs,0⟩] scope pos) spos) (c_Z (h_5 n caps k jm s g t m) (gNm i)):=by
 subst hn
 obtain⟨hg,ht,he⟩:=hin 0 [] (PySem.start X.prog).1 (fun _=>none) [] F hG
 refine(i_X hN hi' hx S hc hi.pi (fun C fp s₂ H₂ pl=>⟨fun pins s Y H v u Q I r ⟨F',g',q⟩=>(hin C fp s₂ H₂ pl F' g').1.pg pins s Y H v u Q I r q,fun pins s Y H Q I ⟨F',g',q⟩=>(hin C fp s₂ H₂ pl F' g').2.1.2 pins s Y H Q I q,fun pins s Y H Q I ⟨F',g',q⟩=>(hin C fp s₂ H₂ pl F' g').2.2.pe pins s Y H Q I q⟩) hsw hs hf).imp
  fun D Y H ⟨U,O,DD,st,q,f⟩=>o_7 (fun _ _ _ _ _ _ _ st hA=>(hG.at st).frame hA) hkj hi.mn hg.mn ht.1 he.mn Y H _ ⟨U,O,st,o_i hi.mn _ _ _ (fun d U1 q1 v H1 O1 st1 s1 d1=>f.nx _ H1 _ O1 (st1.set d1) s1 q1) (m_w (Q:=fun d U'=>wpG (gNm i) d U' DD.nx) (m_t q))⟩
end
section
variable{X:Cx}{F:Fx}{E:Str->a_q->Prop}{e:Expr}{pos p1 px py pt:Pos}{x y:Str}{i j:Nat}{C:Addr}
noncomputable def o_J(C:Addr)(i:Nat)(d:PyData):XM Cell:=fun U=>match e_z C U i with
 | some (false,fs)=>.ok (.own false (.pr C fs d)) (U.set i none)
 | _=>.bad
noncomputable def n_h(C:Addr)(i:Nat)(m:XM PyData):XM Cell:=fun U=>match e_z C U i with
 | some (false,_)=>(m U).bind (o_J C i)
 | _=>.bad
theorem p_n{m:XM PyData}{k}(hv:PE X (.Name x p1) (f_r i))(he:FE X F E e m)(h1:starEach [.Name x p1,e] X.env=(false,eval (.Name x p1) X.env)::starEach [e] X.env:=by rfl)(h2:starEach [e] X.env=(false,eval e X.env)::starEach [] X.env:=by rfl) :
  FO X F E (.Tuple [.Name x p1,e] k pos) (n_h C i m):=
 ⟨a_m,(p_o (b_G hv (b_G he.pe d_9 h2) h1)).imp fun Y H Q ⟨U,O,st,q⟩=>by
  unfold wp n_h at q
  cases h0:e_z C U i with
  | none=>rw[h0] at q;exact q.elim
  | some pr0=>
   obtain⟨io0,fs0⟩:=pr0
   cases io0 with
   | true=>rw[h0] at q;exact q.elim
   | false=>
    rw[h0] at q
    obtain⟨a,fp0,hY,_,_,_⟩:=st.box (e_y h0)
    refine⟨.ref a,hY,U,O,st,a_m _ _ _ (fun d U1 q1 vy H1 O1 st1 s1 d1=>⟨by show 2<=sizeLine;decide,fun p hp=>?_⟩) (a_w (E:=E) (m:=m) (k:=o_J C i) (U:=U) q)⟩
    unfold wp o_J at q1
    cases h3:e_z C U1 i with
    | none=>rw[h3] at q1;exact q1.elim
    | some pr=>
     obtain⟨io,fs⟩:=pr
     cases io with
     | true=>rw[h3] at q1;exact q1.elim
     | false=>
      rw[h3] at q1
      obtain⟨a1,fp,O2,t1,t2,t3,t4,t5,t6,t7⟩:=st1.take (e_y h3)
      obtain rfl:a1=a:=by rw[hY] at t1;cases t1;rfl
      obtain⟨dx,gs,fps,e1,e2,e3,e4⟩:=t3
      have ne:∀b o,H1 b=some o->upd H1 p (.tup [.ref a1,vy]) b=some o:=fun b o e=>a_l hp b o e
      have sm:e_3 (hide O2 H1) (hide O2 (upd H1 p (.tup [.ref a1,vy]))):=d_F (a_l hp)
      refine q1 (.ref p) (upd H1 p (.tup [.ref a1,vy])) O2 fp ⟨t2.grow (a_l hp),⟨p,rfl,a1,vy,dx,gs,fps,e_x a_A (t2.nofree p hp),e1,ne _ _ e2,ne _ _ e3,e4.keep (fun c hc=>?_) sm,DV.mono sm (DV.mono t4.hid d1)⟩,t6⟩ (s1.trans (t4.trans (.same (a_l hp))))
      obtain⟨o,eo,_⟩:=e4.live c hc
      rw[eo];exact ne _ _ eo⟩
noncomputable def o_o(i j:Nat)(c:Cell):SM:=fun U=>match c with
 | .own false (.pr C fs d)=>if i<U.length then .nx ((U.set i (some (.own false (.o C fs)))).set j (some (.dat d))) else .bad
 | _=>.bad
noncomputable def o_b(i j:Nat)(m:XM Cell):SM:=fun U=>ofX (m U) (o_o i j)
theorem o_a{m:XM Cell}{k}(hc:X.calm=true)(he:FO X F E e m)(hN:X.N.Nodup)(hi:X.N[i]? = some x)(hj:X.N[j]? = some y)(hx:Loc X.env.scope x)(hy:Loc X.env.scope y)
  (hfx:X.fn x=true\/X.env.scope.names.lookup x=some .local:=by first | exact .inl rfl | exact .inr rfl | assumption) (hfy:X.fn y=true\/X.env.scope.names.lookup y=some .local:=by first | exact .inl rfl | exact .inr rfl | assumption)
  (hg1:(assignEach [.Name x px,.Name y py] X.env).map (·.2)=assign (.Name x px) X.env::(assignEach [.Name y py] X.env).map (·.2):=by rfl) (hg2:(assignEach [.Name y py] X.env).map (·.2)=assign (.Name y py) X.env::(assignEach [] X.env).map (·.2):=by rfl)
  (hn:(assignEach [.Name x px,.Name y py] X.env).length=2:=by rfl) (hst:(assignEach [.Name x px,.Name y py] X.env).findIdx? (·.1)=none:=by rfl)
  (hs:swapsWithSole [.Tuple [.Name x px,.Name y py] k pt] e pos.line X.env=pure false:=by rfl) (hw:swappedStores [.Tuple [.Name x px,.Name y py] k pt] e X.env=pure none:=by rfl)
  (h1:(assignEach [.Tuple [.Name x px,.Name y py] k pt] X.env).map (·.2)=[assign (.Tuple [.Name x px,.Name y py] k pt) X.env]:=by rfl) :
  FS X F E (.Assign [.Tuple [.Name x px,.Name y py] k pt] e pos) (o_b i j m):=
 (o_u he.pe (q_Y hc (j_L (l_v hN hi hx hfx) (j_L (l_v hN hj hy hfy) o_t hg2) hg1) hn hst) hs hw h1).imp fun D Y H ⟨U,O,DD,st,q,f⟩=>⟨U,O,st,he.mn _ _ _ (fun c U1 q0 v H1 O1 fp r s1=>by
  have q1:∃C fs d,c=.own false (.pr C fs d)/\i<U1.length/\DD.nx ((U1.set i (some (.own false (.o C fs)))).set j (some (.dat d))):=by
   unfold wpS o_o at q0
   cases c with
   | dat _=>exact q0.elim
   | scr _=>exact q0.elim
   | exc _=>exact q0.elim
   | vw _=>exact q0.elim
   | own io b=>
    cases io with
    | true=>exact q0.elim
    | false=>
     cases b with
     | l _=>exact q0.elim
     | m _ _=>exact q0.elim
     | o _ _=>exact q0.elim
     | sd _=>exact q0.elim
     | ll _=>exact q0.elim
     | pr C fs d=>
      simp only at q0
      by_cases hl:i<U1.length
      ·rw[if_pos hl] at q0;exact⟨C,fs,d,rfl,hl,q0⟩
      ·rw[if_neg hl] at q0;exact q0.elim
  obtain⟨C,fs,d,rfl,hl,q0⟩:=q1
  obtain⟨a,rfl,h0,v2,dx,gs,fps,e0,rfl,e1,e2,e4,dv⟩:=r.at_
  obtain⟨O2,st2,s2⟩:=DSt.put1 (io:=true) (c:=.own false (.o C fs)) (v:=.ref h0) r.st ⟨h0,rfl,dx,gs,fps,rfl,e1,e2,e4⟩ r.new hl (fun b z=>by cases z)
  refine⟨a,[.ref h0,v2],rfl,.inl (.inl (a_1 e0).1),rfl,.ref h0,[v2],rfl,v2,[],rfl,rfl,?_⟩
  exact f.nx _ H1 _ O2 (st2.set (DV.mono s2.hid dv)) (s1.trans s2) q0
  ) (c_q (k:=o_o i j) q)⟩
end
end L2.L3
namespace Due
noncomputable abbrev Sh:=List (Int×Int)
noncomputable def c_s(a:Int):Sh->Int->Int
 | [],_=>a
 | (b,c)::r,m=>c_s (if b<=m then c else a) r m
noncomputable def a_8(a:Int)(ss:Sh)(m:Int):Int:=m+c_s a ss m
noncomputable def e_d:Int->Sh->Prop
 | _,[]=>True
 | lo,(b,_)::r=>lo<b/\e_d b r
theorem h_h{a m:Int}:∀{ss:Sh}{lo:Int},e_d lo ss->m<=lo->c_s a ss m=a
 | [],_,_,_=>rfl
 | (b,c)::r,lo,⟨h1,h2⟩,hm=>by
  unfold c_s
  rw[if_neg (by omega)]
  exact h_h h2 (by omega)
noncomputable def e_k(g:Int):Int->Int->Sh->Int
 | s,a,[]=>max s (g - a)
 | s,a,(b,c)::r=>if max s (g - a)<b then max s (g - a) else e_k g b c r
theorem d_i{g:Int}:∀{ss:Sh}{s a:Int},e_d s ss->s<=e_k g s a ss/\g<=a_8 a ss (e_k g s a ss)/\∀m,s<=m->m<e_k g s a ss->a_8 a ss m<g
 | [],s,a,_=>by
  unfold e_k a_8 c_s
  refine⟨by omega,by omega,fun m h1 h2=>?_⟩
  omega
 | (b,c)::r,s,a,⟨h1,h2⟩=>by
  unfold e_k
  have bef:∀m,m<b->a_8 a ((b,c)::r) m=m+a:=fun m hm=>by
   unfold a_8 c_s
   rw[if_neg (by omega),h_h h2 (by omega)]
  have aft:∀m,b<=m->a_8 a ((b,c)::r) m=a_8 c r m:=fun m hm=>by
   unfold a_8
   rw[c_s,if_pos hm]
  by_cases hlt:max s (g - a)<b
  ·rw[if_pos hlt]
   refine⟨by omega,?_,fun m h1 h2=>?_⟩
   ·rw[bef _ hlt];omega
   ·rw[bef _ (by omega)];omega
  ·rw[if_neg hlt]
   obtain⟨q1,q2,q3⟩:=d_i (g:=g) (a:=c) h2
   refine⟨by omega,?_,fun m h3 h4=>?_⟩
   ·rw[aft _ q1];exact q2
   ·by_cases hm:m<b
    ·rw[bef _ hm];omega
    ·rw[aft _ (by omega)];exact q3 m (by omega) h4
theorem l_B{g g':Int}(h:g<=g'){ss:Sh}{s a:Int}(hr:e_d s ss):e_k g s a ss<=e_k g' s a ss:=by
 obtain⟨q1,q2,q3⟩:=d_i (g:=g) (a:=a) hr
 obtain⟨p1,p2,p3⟩:=d_i (g:=g') (a:=a) hr
 refine Int.not_lt.mp fun hlt=>?_
 have:=q3 _ p1 hlt
 omega
noncomputable def j_j(a:Int)(ss:Sh):Prop:=(-12<=a/\a<=14)/\∀p∈ss,-12<=p.2/\p.2<=14
theorem h_t{m:Int}:∀{ss:Sh}{a:Int},j_j a ss->-12<=c_s a ss m/\c_s a ss m<=14
 | [],a,h=>h.1
 | (b,c)::r,a,h=>by
  unfold c_s
  refine h_t ⟨?_,fun p hp=>h.2 p (Qak _ hp)⟩
  split
  ·exact h.2 (b,c) List.mem_cons_self
  ·exact h.1
noncomputable def stret(s a:Int):Sh->List (Int×Option Int×Int)
 | []=>[(s,none,a)]
 | (b,c)::r=>(s,some b,a)::stret b c r
noncomputable def e_1(m:Int):Option Int->Bool
 | none=>true
 | some e=>decide (m<e)
noncomputable def f_z(g:Int)(l:List (Int×Option Int×Int)):List Int:=(l.filter fun p=>e_1 (max p.1 (g - p.2.2)) p.2.1).map fun p=>max p.1 (g - p.2.2)
theorem h_k(g:Int):∀(ss:Sh) (s a:Int),∃t,f_z g (stret s a ss)=e_k g s a ss::t
 | [],s,a=>⟨[],rfl⟩
 | (b,c)::r,s,a=>by
  obtain⟨t,ih⟩:=h_k g r b c
  unfold stret e_k f_z
  rw[List.filter_cons]
  by_cases h:max s (g - a)<b
  ·rw[if_pos (by show decide (max s (g - a)<b)=true;exact decide_eq_true h),if_pos h]
   exact⟨_,rfl⟩
  ·rw[if_neg (by show ¬ decide (max s (g - a)<b)=true;simpa using h),if_neg h]
   exact⟨t,ih⟩
noncomputable def c_T(a:Int)(ss:Sh)(h:Int):Int:=-((h - a_8 a ss 0) / 24)
theorem g_l{a h:Int}{ss:Sh}:a_8 a ss 0<=24 * c_T a ss h+h/\24 * c_T a ss h+h<a_8 a ss 0+24:=by
 unfold c_T
 omega
noncomputable def c_C(a:Int)(ss:Sh)(h:Int)(c:Nat):Int:=e_k ((c_T a ss h+c) * 24+h) 0 a ss
inductive Plan where
 | once (m:Int) | every (f s:Int) | daily (h:Int)
noncomputable def a_5(a:Int)(ss:Sh):Plan->Nat->Option Int
 | .once m,c=>if c=0 then some m else none
 | .every f s,c=>some (f+c * s)
 | .daily h,c=>some (c_C a ss h c)
theorem q_x{a h:Int}{ss:Sh}{c:Nat}(hr:e_d 0 ss):0<=c_C a ss h c:=(d_i hr).1
theorem n_f{a h:Int}{ss:Sh}{c d:Nat}(hr:e_d 0 ss)(hcd:c<=d):c_C a ss h c<=c_C a ss h d:=l_B (by omega) hr
theorem p_1{a h:Int}{ss:Sh}{c:Nat}(hr:e_d 0 ss)(ho:j_j a ss):24 * (c:Int) - 26<=c_C a ss h c:=by
 obtain⟨q1,q2,_⟩:=d_i (g:=(c_T a ss h+c) * 24+h) (a:=a) hr
 have:=g_l (a:=a) (h:=h) (ss:=ss)
 have b1:=h_t (m:=0) ho
 have b2:=h_t (m:=e_k ((c_T a ss h+c) * 24+h) 0 a ss) ho
 unfold a_8 at *
 unfold c_C
 omega
structure ZOk (a:Int) (ss:Sh):Prop where
 len:ss.length<=6
 rise:e_d 0 ss
 ah:j_j a ss
 top:∀p∈ss,p.1<=9999
noncomputable def b_i:Plan->Prop
 | .once m=>0<=m/\m<=9999
 | .every f s=>(0<=f/\f<=9999)/\1<=s/\s<=999
 | .daily h=>0<=h/\h<=23
noncomputable def g_J(a:Int)(ss:Sh)(p:Plan)(c:Nat):Int:=(a_5 a ss p c).getD 0
structure Upto (a:Int) (ss:Sh) (p:Plan) (last:Int) (n:Nat):Prop where
 le:n<=20000
 in_:∀c,c<n->∃v,a_5 a ss p c=some v/\v<=last
 out:a_5 a ss p n=none\/∃v,a_5 a ss p n=some v/\last<v
noncomputable def y_F(a b c:Int):Nat:=(if a<b then(b - a - 1) / c+1 else 0).toNat
theorem least{P:Nat->Prop}:∀N,P N->∃n,n<=N/\P n/\∀m,m<n->¬ P m
 | 0,h=>⟨0,Qae _,h,fun m hm=>absurd hm (Nat.not_lt_zero m)⟩
 | N+1,h=>by
  by_cases e:∃m,m<=N/\P m
  ·obtain⟨m,hm,pm⟩:=e
   obtain⟨n,h1,h2,h3⟩:=least m pm
   exact⟨n,by omega,h2,h3⟩
  ·exact⟨N+1,Qae _,h,fun m hm pm=>e ⟨m,by omega,pm⟩⟩
theorem i_N{a h last:Int}{ss:Sh}(z:ZOk a ss)(hl:last<=9999):∃n,Upto a ss (.daily h) last n:=by
 obtain⟨n,h1,h2,h3⟩:=least (P:=fun c=>last<c_C a ss h c) 1000 (by
  have:=p_1 (h:=h) (c:=1000) z.rise z.ah
  show last<c_C a ss h 1000
  omega)
 refine⟨n,by omega,fun c hc=>⟨_,rfl,?_⟩,.inr ⟨_,rfl,h2⟩⟩
 have:=h3 c hc
 omega
theorem p_f{a:Int}{ss:Sh}{p:Plan}(z:ZOk a ss)(ok:b_i p){c d:Nat}{v w:Int}(h:c<=d)(hv:a_5 a ss p c=some v)(hw:a_5 a ss p d=some w):v<=w:=by
 cases p with
 | once m=>
  rw[a_5] at hv hw
  by_cases e:c=0
  ·by_cases e2:d=0
   ·rw[if_pos e] at hv;rw[if_pos e2] at hw;cases hv;cases hw;exact Int.le_refl _
   ·rw[if_neg e2] at hw;cases hw
  ·rw[if_neg e] at hv;cases hv
 | every f s=>
  rw[a_5] at hv hw
  cases hv;cases hw
  have:=Int.mul_le_mul_of_nonneg_right (show(c:Int)<=d by omega) (show(0:Int)<=s by have:=ok.2.1;omega)
  omega
 | daily h'=>
  rw[a_5] at hv hw
  cases hv;cases hw
  exact n_f z.rise h
theorem r_K{a:Int}{ss:Sh}{p:Plan}(z:ZOk a ss)(ok:b_i p){c:Nat}{v:Int}(hv:a_5 a ss p c=some v):0<=v:=by
 cases p with
 | once m=>
  rw[a_5] at hv
  by_cases e:c=0
  ·rw[if_pos e] at hv;cases hv;exact ok.1
  ·rw[if_neg e] at hv;cases hv
 | every f s=>
  rw[a_5] at hv
  cases hv
  have:=Int.mul_nonneg (show(0:Int)<=c by omega) (show(0:Int)<=s by have:=ok.2.1;omega)
  have:=ok.1.1
  omega
 | daily h'=>
  rw[a_5] at hv
  cases hv
  exact q_x z.rise
theorem p_y{a last:Int}{ss:Sh}{p:Plan}(z:ZOk a ss)(ok:b_i p)(hl:last<=9999):∃n,Upto a ss p last n:=by
 cases p with
 | once m=>
  by_cases e:m<=last
  ·refine⟨1,by omega,fun c hc=>⟨m,by rw[a_5,if_pos (by omega)],e⟩,.inl (by rw[a_5,if_neg (by omega)])⟩
  ·exact⟨0,by omega,fun c hc=>absurd hc (Nat.not_lt_zero c),.inr ⟨m,by rw[a_5,if_pos rfl],by omega⟩⟩
 | every f s=>
  obtain⟨n,h1,h2,h3⟩:=least (P:=fun(c:Nat)=>last<f+c * s) 10000 (by
   have:=ok.1.1
   have:=Int.mul_le_mul_of_nonneg_left (show(1:Int)<=s from ok.2.1) (show(0:Int)<=((10000:Nat):Int) by omega)
   show last<f+((10000:Nat):Int) * s
   omega)
  exact⟨n,by omega,fun c hc=>⟨_,rfl,Int.not_lt.mp (h3 c hc)⟩,.inr ⟨_,rfl,h2⟩⟩
 | daily h=>exact i_N z hl
theorem j_H{a last:Int}{ss:Sh}{p:Plan}{n:Nat}(z:ZOk a ss)(ok:b_i p)(u:Upto a ss p last n){c:Nat}{v:Int}(h:n<=c)(hv:a_5 a ss p c=some v):last<v:=by
 rcases u.out with e | ⟨w,e,hw⟩
 ·cases p with
  | once m=>
   rw[a_5] at e hv
   by_cases e1:n=0
   ·rw[if_pos e1] at e;cases e
   ·rw[if_neg (by omega)] at hv;cases hv
  | every f s=>cases e
  | daily h'=>cases e
 ·have:=p_f z ok h e hv
  omega
theorem s_2{a a' last:Int}{ss ss':Sh}{p p':Plan}{n n':Nat}(u:Upto a ss p last n)(u':Upto a' ss' p' last n')(h:∀c v,v<=last->(a_5 a ss p c=some v↔a_5 a' ss' p' c=some v)):n=n':=by
 rcases Nat.lt_trichotomy n n' with hlt | e | hlt
 ·obtain⟨v,hv,hle⟩:=u'.in_ n hlt
  have hv':=(h n v hle).mpr hv
  rcases u.out with e | ⟨w,e,hw⟩
  ·rw[e] at hv';cases hv'
  ·rw[e] at hv';cases hv';omega
 ·exact e
 ·obtain⟨v,hv,hle⟩:=u.in_ n' hlt
  have hv':=(h n' v hle).mp hv
  rcases u'.out with e | ⟨w,e,hw⟩
  ·rw[e] at hv';cases hv'
  ·rw[e] at hv';cases hv';omega
theorem q_D{a b s last:Int}{ss:Sh}{n:Nat}(u:Upto a ss (.every b s) last n):(∀c:Nat,c<n->b+c * s<=last)/\last<b+n * s:=by
 refine⟨fun c hc=>?_,?_⟩
 ·obtain⟨v,hv,h⟩:=u.in_ c hc
  cases hv
  exact h
 ·rcases u.out with e | ⟨v,e,h⟩
  ·cases e
  ·cases e
   exact h
theorem o_A{a b s last:Int}{ss:Sh}{n:Nat}(hs:0<s)(u:Upto a ss (.every b s) last n):n=y_F b (last+1) s:=by
 obtain⟨h1,h2⟩:=q_D u
 unfold y_F
 by_cases h:b<last+1
 ·rw[if_pos h]
  have n0:0<n:=by
   refine Nat.pos_of_ne_zero fun e=>?_
   subst e
   simp at h2
   omega
  have h3:=h1 (n - 1) (by omega)
  have e1:((n - 1:Nat):Int)=(n:Int) - 1:=by omega
  rw[e1] at h3
  have e:(last+1 - b - 1) / s=(n:Int) - 1:=by
   refine Int.le_antisymm ?_ ?_
   ·have:(last+1 - b - 1) / s<n:=Int.ediv_lt_of_lt_mul hs (by omega)
    omega
   ·exact Int.le_ediv_of_mul_le hs (by omega)
  rw[e]
  omega
 ·rw[if_neg h]
  have:n=0:=by
   refine Nat.eq_zero_of_not_pos fun hp=>?_
   have:=h1 0 hp
   simp at this
   omega
  rw[this];rfl
theorem o_9{a:Int}{ss:Sh}{p:Plan}(z:ZOk a ss)(ok:b_i p):Upto a ss p (0 - 1) 0:=by
 refine⟨by omega,fun c hc=>absurd hc (Nat.not_lt_zero c),?_⟩
 cases h:a_5 a ss p 0 with
 | none=>exact .inl rfl
 | some v=>exact .inr ⟨v,rfl,by have:=r_K z ok h;omega⟩
noncomputable def g_n(a:Int)(ss:Sh)(h:Int)(k:Nat):Int:=(c_T a ss h+k) * 24+h
theorem h_O{a h m:Int}{ss:Sh}{k:Nat}(hr:e_d 0 ss)(h0:0<=m)(h1:m<=c_C a ss h k):g_n a ss h k<=a_8 a ss m↔c_C a ss h k=m:=by
 obtain⟨q1,q2,q3⟩:=d_i (g:=g_n a ss h k) (a:=a) hr
 have e:c_C a ss h k=e_k (g_n a ss h k) 0 a ss:=rfl
 rw[e] at h1 ⊢
 constructor
 ·intro h2
  refine Int.le_antisymm (Int.not_lt.mp fun hlt=>?_) h1
  have:=q3 m h0 hlt
  omega
 ·intro h2
  rw[h2] at q2
  exact q2
noncomputable def c_c(a:Int)(ss:Sh)(p:Plan)(n:Nat):List Int:=(List.range n).map fun c=>g_J a ss p c
end Due
namespace K3
open PySem PySem.Spec L2 L2.L3 PyProof.Rows
noncomputable abbrev exL:List Str:=["NoZone","NoPlan","NoMoment","NoDeeds","NoDeed","NoRunner","NoTerm","NotHolder","Nothing","NoCall"]
noncomputable def e_M:SM:=(a_O (k_e (xIs "int" (xV 0)) (k_e (y_E (xIs "bool" (xV 0))) (p_m (fun i j=>decide (i<=j)) (fun i j=>decide (i<=j)) (xV 1) (xV 0) (xV 2)))))
noncomputable def a_T:FM:=fnM 3 3 e_M
noncomputable def d_P:SM:=(a_O (k_e (xIs "tuple" (xV 0)) (xOp (gEq false) (xCB k_9 (a_f (xV 0) a_3)) (xV 1))))
noncomputable def a_7:FM:=fnM 2 2 d_P
noncomputable def g_r:SM:=(e_r (b_E (xOp gLe (xOp a_M (xV 3) (xC (.int 0))) (xV 1))) (c_Z (xOp a_M (xV 3) (xC (.int 1))) (gNm 2)) sNx)
noncomputable def l_Z:SM:=(a_h (c_Z (xOp a_M (xV 0) (xC (.int 0))) (gNm 2))
  (a_h (h_q (iTs (xOp a_M (xV 0) (xC (.int 1)))) (gNm 3) g_r)
  (a_O (xOp g_4 (xV 1) (xV 2)))))
noncomputable def i_3:FM:=fnM 2 4 l_Z
noncomputable def e_V:XM PyData:=(xOp a_M (xV 0) (xC (.int 0)))
noncomputable def e_U:XM PyData:=(xOp a_M (xV 0) (xC (.int 1)))
noncomputable def f_X:SM:=(a_h (c_Z (xOp l_o (h_A (a_f (xC (.int 0)) a_3)) (i_k 1 [] (iTs (xOp a_M (xV 0) (xC (.int 1)))) (gNm 0) e_u e_V)) (gNm 1))
  (a_h (c_Z (xOp l_o (xU (u_H 1) (xV 1)) (h_A (a_f (xC .none) a_3))) (gNm 2))
  (a_h (c_Z (xOp l_o (h_A (a_f (xOp a_M (xV 0) (xC (.int 0))) a_3)) (i_k 1 [] (iTs (xOp a_M (xV 0) (xC (.int 1)))) (gNm 0) e_u e_U)) (gNm 3))
  (a_O (xCB nLZ (a_f (xV 1) (a_f (xV 2) (a_f (xV 3) a_3))))))))
noncomputable def e_Y:FM:=fnM 1 4 f_X
noncomputable def e_2:SM:=(a_O (xOr (xOp gIs (xV 1) (xC .none)) (xOp gLt (xV 0) (xV 1))))
noncomputable def d_Q:FM:=fnM 2 2 e_2
noncomputable def c_f:SM:=(a_h (e_r (b_E (xOp gLt (xV 1) (p_F 0))) (a_O (w_n 0 (xV 1))) sNx)
  (a_h (e_r (x_z 0) (a_O (xC (.int 0))) sNx)
  (a_O (xOp g_4 (xOp t_v (w_n 0 (xOp t_A (xV 1) (p_F 0))) (xC (.int 31))) (xV 1)))))
noncomputable def b_D:FM:=fnM 2 2 c_f
noncomputable def d_y:SM:=(c_Z (xIf (b_E (xOp gLe (xV 3) (xV 1))) (xV 4) (xV 2)) (gNm 2))
noncomputable def f_g:SM:=(a_h (c_Z (xOp a_M (xV 0) (xC (.int 0))) (gNm 2))
  (a_h (h_q (iTs (xOp a_M (xV 0) (xC (.int 1)))) (h_s 2 (b_N (gNm 3) (b_N (gNm 4) h_X))) d_y)
  (a_O (xOp g_4 (xV 1) (xV 2)))))
noncomputable def c_D:FM:=fnM 2 5 f_g
noncomputable def g_c(C:Addr):SM:=(a_O (k_e (xOp f_N (f_T C 0 "holder") (xC .none)) (xOp gLt (xV 1) (f_T C 0 "until"))))
noncomputable def d_6(C:Addr):FM:=fnM 2 2 (g_c C)
noncomputable def d_d(C:Addr):SM:=(a_h (c_Z (xOp a_M (xV 1) (xC (.int 2))) (gNm 2))
  (a_h (c_Z (xOp a_M (xV 1) (xC (.int 3))) (gNm 3))
  (a_h (c_Z (xOp a_M (xV 1) (xC (.int 4))) (gNm 4))
  (a_h (f_5 C 0 "rows" 1)
  (a_h (g_R C 0 "words" 3 4 (xV 2))
  (a_h (e_r (b_E (xOp (gEq false) (xV 2) (xC (.str "begun")))) (c_N C 0 "begun" (g_O (a_f (xV 3) (a_f (xV 4) (a_f (f_T C 0 "holds") a_3))))) (a_h (c_N C 0 "begun" (xC .none))
  (g_3 C 0 "settled" 3 (xOp g_4 (xV 4) (xC (.int 1))))))
  (a_O (g_O (a_f (xV 2) (a_f (xV 3) (a_f (xV 4) a_3)))))))))))
noncomputable def a_L(C:Addr):FM:=fnM 2 5 (d_d C)
noncomputable def e_Z(C:Addr):SM:=(a_O (k_e (xOp f_N (f_T C 0 "begun") (xC .none)) (xOp (gEq false) (xOp a_M (f_T C 0 "begun") (xC (.int 2))) (f_T C 0 "holds"))))
noncomputable def c_2(C:Addr):FM:=fnM 1 1 (e_Z C)
noncomputable def l_e(C:Addr):SM:=(a_O (h_z C 0 "rows"))
noncomputable def f_k(C:Addr):FM:=fnM 1 1 (l_e C)
noncomputable def g_8:SM:=(e_v (a_o a_T (a_p (xV 0) (a_p (xC (.int (-12))) (a_p (xC (.int (14))) a_Q)))))
noncomputable def e_L:FM:=fnM 1 1 g_8
noncomputable def g_d:SM:=(e_v (a_o a_T (a_p (xV 0) (a_p (xC (.int 0)) (a_p (xC (.int (9999))) a_Q)))))
noncomputable def d_o:FM:=fnM 1 1 g_d
noncomputable def f_6:SM:=(e_v (a_o a_T (a_p (xV 0) (a_p (xC (.int 0)) (a_p (xC (.int (3))) a_Q)))))
noncomputable def e_T:FM:=fnM 1 1 f_6
noncomputable def h_4:SM:=(e_v (a_o a_T (a_p (xV 0) (a_p (xC (.int 1)) (a_p (xC (.int (99))) a_Q)))))
noncomputable def g_o:FM:=fnM 1 1 h_4
noncomputable def f_J:SM:=(a_O (k_e (b_b (a_o a_7 (a_p (xV 0) (a_p (xV 2) a_Q)))) (k_e (xIs "str" (xOp a_M (xV 0) (xC (.int 0)))) (xOp (gEq false) (xOp a_M (xV 0) (xC (.int 0))) (xV 1)))))
noncomputable def b_4:FM:=fnM 3 3 f_J
noncomputable def d_m:XM Bool:=(b_E (b_b (a_o d_Q (a_p (xCB w_q (a_f (xV 0) (a_f (xOp n_r (xV 3) (xV 2)) a_3))) (a_p (xV 1) a_Q)))))
noncomputable def c_9:XM PyData:=(xCB w_q (a_f (xV 0) (a_f (xOp n_r (xV 3) (xV 2)) a_3)))
noncomputable def d_0:SM:=(a_h (c_Z (i_k 3 [1] (iLs (b_b (a_o e_Y (a_p (xV 0) a_Q)))) (h_s 3 (b_N (gNm 0) (b_N (gNm 1) (b_N (gNm 2) h_X)))) d_m c_9) (gNm 2))
  (a_O (xOp a_M (xV 2) (xC (.int 0)))))
noncomputable def c_Q:FM:=fnM 2 3 d_0
noncomputable def f_V:SM:=(a_O (t_G (xOp y_X (xOp n_r (xV 1) (b_b (a_o i_3 (a_p (xV 0) (a_p (xC (.int 0)) a_Q))))) (xC (.int (24))))))
noncomputable def e_R:FM:=fnM 2 2 f_V
noncomputable def f_y:SM:=(a_h (c_Z (xOp t_A (xOp g_4 (xOp g_4 (xOp t_v (b_b (a_o b_D (a_B 0 (a_p (xV 1) a_Q)))) (xC (.int 1103515245))) (xOp t_v (xC (.int 7919)) (xV 1))) (xC (.int 12345))) (xC (.int 2147483647))) (gNm 3))
  (a_O (xOp t_A (xOp t_A (xOp t_A (xOp y_J (xV 3) (xC (.int 5))) (xC (.int 2147483647))) (xC (.int 999983))) (xV 2))))
noncomputable def e_n:FM:=fnM 3 4 f_y
noncomputable def d_t:SM:=(c_Z (xOp g_4 (xV 3) (xC (.int 24))) (gNm 3))
noncomputable def d_r:XM Bool:=(b_E (xOp gLt (xV 3) (b_b (a_o c_D (a_p (xV 0) (a_p (xC (.int 0)) a_Q))))))
noncomputable def d_p:SM:=(c_Z (xOp n_r (xV 3) (xC (.int 24))) (gNm 3))
noncomputable def d_C:XM Bool:=(b_E (xOp gGe (xOp n_r (xV 3) (xC (.int 24))) (b_b (a_o c_D (a_p (xV 0) (a_p (xC (.int 0)) a_Q))))))
noncomputable def c_j:SM:=(a_h (r_W 4 (xV 5))
  (c_Z (xOp g_4 (xV 3) (xC (.int 24))) (gNm 3)))
noncomputable def c_l:XM Bool:=(b_E (xOp gLe (xV 3) (b_b (a_o c_D (a_p (xV 0) (a_p (xV 5) a_Q))))))
noncomputable def c_g:SM:=(b_H c_l c_j 100000)
noncomputable def c_H:SM:=(a_h (e_r (b_E (xOp (gEq false) (xOp a_M (xV 1) (xC (.int 0))) (xC (.str "once")))) (a_O (xIf (b_E (xOp gLe (xOp a_M (xV 1) (xC (.int 1))) (xV 2))) (h_A (a_f (xOp a_M (xV 1) (xC (.int 1))) a_3)) (h_A a_3))) sNx)
  (a_h (e_r (b_E (xOp (gEq false) (xOp a_M (xV 1) (xC (.int 0))) (xC (.str "every")))) (a_O (xCB w_w (a_f (xOp a_M (xV 1) (xC (.int 1))) (a_f (xOp g_4 (xV 2) (xC (.int 1))) (a_f (xOp a_M (xV 1) (xC (.int 2))) a_3))))) sNx)
  (a_h (c_Z (xOp a_M (xV 1) (xC (.int 1))) (gNm 3))
  (a_h (b_H d_r d_t 100000)
  (a_h (b_H d_C d_p 100000)
  (a_h (l_q 4 (l_g a_3))
  (a_h (h_q (iLf rng1 (a_f (xOp g_4 (xV 2) (xC (.int 1))) a_3)) (gNm 5) c_g)
  (sMv 4))))))))
noncomputable def b_Q:FM:=fnM 3 6 c_H
noncomputable def a_2(C:Addr):SM:=(a_h (c_Z (xOp a_M (f_T C 0 "begun") (xC (.int 0))) (gNm 3))
  (a_h (c_Z (xIf (b_E (xOp a_M (xOp a_M (f_T C 0 "deeds") (xV 3)) (xC (.int (2))))) (xC (.str "begun")) (xC (.str "unsure"))) (gNm 4))
  (e_v (a_4 C 0 "add_row" (a_L C) (a_p (g_O (a_f (xV 2) (a_f (xV 1) (a_f (xV 4) (a_f (xV 3) (a_f (xOp a_M (f_T C 0 "begun") (xC (.int 1))) a_3)))))) a_Q)))))
noncomputable def a_P(C:Addr):FM:=fnM 3 5 (a_2 C)
noncomputable def c_d:SM:=(a_h (e_r (s_k (e_W (b_E (b_b (a_o a_7 (a_p (xV 2) (a_p (xC (.int 2)) a_Q)))))) (e_W (b_E (b_b (a_o e_L (a_p (xOp a_M (xV 2) (xC (.int 1))) a_Q)))))) (a_O (xC (.bool false))) sNx)
  (a_h (e_r (e_W (b_E (b_b (a_o a_T (a_p (xOp a_M (xV 2) (xC (.int 0))) (a_p (xV 1) (a_p (xC (.int (9999))) a_Q))))))) (a_O (xC (.bool false))) sNx)
  (c_Z (xOp g_4 (xOp a_M (xV 2) (xC (.int 0))) (xC (.int 1))) (gNm 1))))
noncomputable def f_n:SM:=(a_h (e_r (s_k (e_W (b_E (xIs "tuple" (xV 0)))) (b_E (xOp gGt (xCB k_9 (a_f (xV 0) a_3)) (xC (.int (6)))))) (a_O (xC (.bool false))) sNx)
  (a_h (c_Z (xC (.int 1)) (gNm 1))
  (a_h (h_q (iTs (xV 0)) (gNm 2) c_d)
  (a_O (xC (.bool true))))))
noncomputable def e_o:FM:=fnM 1 3 f_n
noncomputable def f_q:SM:=(a_h (e_r (b_E (b_b (a_o b_4 (a_p (xV 0) (a_p (xC (.str "once")) (a_p (xC (.int 2)) a_Q)))))) (e_v (a_o d_o (a_p (xOp a_M (xV 0) (xC (.int 1))) a_Q))) sNx)
  (a_h (e_r (b_E (b_b (a_o b_4 (a_p (xV 0) (a_p (xC (.str "every")) (a_p (xC (.int 3)) a_Q)))))) (a_O (k_e (b_b (a_o d_o (a_p (xOp a_M (xV 0) (xC (.int 1))) a_Q))) (b_b (a_o a_T (a_p (xOp a_M (xV 0) (xC (.int 2))) (a_p (xC (.int 1)) (a_p (xC (.int (999))) a_Q))))))) sNx)
  (a_O (k_e (b_b (a_o b_4 (a_p (xV 0) (a_p (xC (.str "daily")) (a_p (xC (.int 2)) a_Q))))) (b_b (a_o a_T (a_p (xOp a_M (xV 0) (xC (.int 1))) (a_p (xC (.int 0)) (a_p (xC (.int (23))) a_Q)))))))))
noncomputable def d_7:FM:=fnM 1 1 f_q
noncomputable def f_j:SM:=(a_h (e_r (b_E (xIs "str" (xV 0))) (a_O (xOr (xOp (gEq false) (xV 0) (xC (.str "all"))) (xOp (gEq false) (xV 0) (xC (.str "last"))))) sNx)
  (a_O (k_e (b_b (a_o b_4 (a_p (xV 0) (a_p (xC (.str "within")) (a_p (xC (.int 2)) a_Q))))) (b_b (a_o a_T (a_p (xOp a_M (xV 0) (xC (.int 1))) (a_p (xC (.int 0)) (a_p (xC (.int (999))) a_Q))))))))
noncomputable def e_K:FM:=fnM 1 1 f_j
noncomputable def e_s:SM:=(e_r (e_W (b_E (b_b (a_o d_o (a_p (xV 0) a_Q))))) (d_e "NoMoment") sNx)
noncomputable def d_x:FM:=fnM 1 1 e_s
noncomputable def e_w:SM:=(e_r (e_W (b_E (b_b (a_o e_T (a_p (xV 0) a_Q))))) (d_e "NoRunner") sNx)
noncomputable def d_D:FM:=fnM 1 1 e_w
noncomputable def f_c:SM:=(e_r (e_W (b_E (b_b (a_o g_o (a_p (xV 0) a_Q))))) (d_e "NoTerm") sNx)
noncomputable def e_g:FM:=fnM 1 1 f_c
noncomputable def f_f:SM:=(a_h (c_Z (xOp g_4 (b_b (a_o e_R (a_p (xV 0) (a_p (xV 1) a_Q)))) (xV 2)) (gNm 3))
  (e_v (a_o c_Q (a_p (xV 0) (a_p (xOp g_4 (xOp t_v (xV 3) (xC (.int (24)))) (xV 1)) a_Q)))))
noncomputable def e_e:FM:=fnM 3 4 f_f
noncomputable def d_w:XM PyData:=(b_b (a_o b_4 (a_p (xV 1) (a_p (xV 0) (a_p (xGD [("take",4),("give",3),("step",3),("finish",3)] (xV 0)) a_Q)))))
noncomputable def c_t:SM:=(e_r (e_W (b_E (xCB r_P (a_f (i_k 1 [0] (iC (l_V ["take","give","step","finish"])) (gNm 0) e_u d_w) a_3)))) (d_e "NoCall") sNx)
noncomputable def a_N:FM:=fnM 1 1 c_t
noncomputable def f_3:SM:=(a_h (r_W 1 (xC (.int 0)))
  (e_v (a_o e_n (a_B 0 (a_p (s_X 1) (a_p (xV 2) a_Q))))))
noncomputable def a_r:FM:=fnM 3 3 f_3
noncomputable def h_W:SM:=(a_O (k_e (b_b (a_o a_7 (a_p (xV 0) (a_p (xC (.int 2)) a_Q)))) (k_e (b_b (a_o e_L (a_p (xOp a_M (xV 0) (xC (.int 0))) a_Q))) (b_b (a_o e_o (a_p (xOp a_M (xV 0) (xC (.int 1))) a_Q))))))
noncomputable def g_F:FM:=fnM 1 1 h_W
noncomputable def h_F:SM:=(a_O (k_e (b_b (a_o a_7 (a_p (xV 0) (a_p (xC (.int 3)) a_Q)))) (k_e (b_b (a_o d_7 (a_p (xOp a_M (xV 0) (xC (.int 0))) a_Q))) (k_e (b_b (a_o e_K (a_p (xOp a_M (xV 0) (xC (.int 1))) a_Q))) (xIs "bool" (xOp a_M (xV 0) (xC (.int 2))))))))
noncomputable def g_D:FM:=fnM 1 1 h_F
noncomputable def f_l:SM:=(e_r (e_W (b_E (b_b (a_o d_7 (a_p (xV 0) a_Q))))) (d_e "NoPlan") sNx)
noncomputable def e_b:FM:=fnM 1 1 f_l
noncomputable def e_O:SM:=(a_h (e_r (b_E (xOp (gEq false) (xOp a_M (xV 1) (xC (.int 0))) (xC (.str "once")))) (a_O (xIf (b_E (xOp (gEq false) (xV 2) (xC (.int 0)))) (xOp a_M (xV 1) (xC (.int 1))) (xC .none))) sNx)
  (a_h (e_r (b_E (xOp (gEq false) (xOp a_M (xV 1) (xC (.int 0))) (xC (.str "every")))) (a_O (xOp g_4 (xOp a_M (xV 1) (xC (.int 1))) (xOp t_v (xV 2) (xOp a_M (xV 1) (xC (.int 2)))))) sNx)
  (e_v (a_o e_e (a_p (xV 0) (a_p (xOp a_M (xV 1) (xC (.int 1))) (a_p (xV 2) a_Q)))))))
noncomputable def b_s:FM:=fnM 3 3 e_O
noncomputable def f_Y:SM:=(a_O (xOp a_M (xV 2) (b_b (a_o a_r (a_B 0 (a_B 1 (a_p (xCB k_9 (a_f (xV 2) a_3)) a_Q)))))))
noncomputable def a_R:FM:=fnM 3 3 f_Y
noncomputable def d_B(C:Addr):SM:=(a_h (m_p (a_o d_D (a_p (xV 1) a_Q)))
  (a_h (m_p (a_o d_x (a_p (xV 2) a_Q)))
  (e_r (n_E (b_E (xOp f_N (f_T C 0 "last") (xC .none))) (b_E (xOp gLt (xV 2) (f_T C 0 "last")))) (d_e "NoMoment") sNx)))
noncomputable def a_K(C:Addr):FM:=fnM 3 3 (d_B C)
noncomputable def d_R:XM PyData:=(b_b (a_o g_D (a_p (xV 0) a_Q)))
noncomputable def f_7:SM:=(a_h (e_r (s_k (e_W (b_E (xIs "tuple" (xV 0)))) (b_E (xOp gGt (xCB k_9 (a_f (xV 0) a_3)) (xC (.int (6)))))) (a_O (xC (.bool false))) sNx)
  (a_O (xCB t_B (a_f (i_k 1 [] (iTs (xV 0)) (gNm 0) e_u d_R) a_3))))
noncomputable def f_9:FM:=fnM 1 1 f_7
noncomputable def f_u:SM:=(e_r (e_W (b_E (b_b (a_o g_F (a_p (xV 0) a_Q))))) (d_e "NoZone") sNx)
noncomputable def b_j:FM:=fnM 1 1 f_u
noncomputable def b_Z:SM:=(a_h (e_r (b_E (xOp (gEq false) (xOp a_M (xV 1) (xC (.int (1)))) (xC (.str "all")))) (a_O (xC (.bool false))) sNx)
  (a_h (e_r (b_E (xOp (gEq false) (xOp a_M (xV 1) (xC (.int (1)))) (xC (.str "last")))) (a_h (c_Z (b_b (a_o b_s (a_p (xV 0) (a_p (xOp a_M (xV 1) (xC (.int (0)))) (a_p (xOp g_4 (xV 2) (xC (.int 1))) a_Q))))) (gNm 4))
  (a_O (k_e (xOp f_N (xV 4) (xC .none)) (xOp gLe (xV 4) (xV 3))))) sNx)
  (a_O (xOp gGt (xOp n_r (xV 3) (b_b (a_o b_s (a_p (xV 0) (a_p (xOp a_M (xV 1) (xC (.int (0)))) (a_p (xV 2) a_Q)))))) (xOp a_M (xOp a_M (xV 1) (xC (.int (1)))) (xC (.int 1)))))))
noncomputable def b_o:FM:=fnM 4 5 b_Z
noncomputable def c_X:SM:=(a_h (c_Z (xOp g_4 (xOp g_4 (xV 4) (xC (.int 1))) (b_b (a_o a_r (a_B 0 (a_B 1 (a_p (xV 2) a_Q)))))) (gNm 4))
  (c_Z (xOp k_k (xV 3) (g_O (a_f (g_O (a_f (xV 4) (a_f (b_b (a_o a_R (a_B 0 (a_B 1 (a_p (h_A (a_f (xC (.int 0)) (a_f (xC (.int 1)) (a_f (xC (.int 2)) (a_f (t_G (xC (.int 1))) (a_f (xC (.int 14)) (a_f (t_G (xC (.int 12))) (a_f (xC (.int 3)) a_3)))))))) a_Q))))) a_3))) a_3))) (gNm 3)))
noncomputable def f_2:SM:=(a_h (c_Z (g_O (a_f (g_O a_3) (a_f (xC (.int 0)) a_3))) (h_s 2 (b_N (gNm 3) (b_N (gNm 4) h_X))))
  (a_h (h_q (iLf rng1 (a_f (b_b (a_o a_r (a_B 0 (a_B 1 (a_p (xC (.int 5)) a_Q))))) a_3)) (gNm 5) c_X)
  (a_O (g_O (a_f (b_b (a_o a_R (a_B 0 (a_B 1 (a_p (h_A (a_f (xC (.int 0)) (a_f (xC (.int 1)) (a_f (xC (.int 2)) (a_f (t_G (xC (.int 1))) (a_f (xC (.int 14)) (a_f (t_G (xC (.int 12))) a_3))))))) a_Q))))) (a_f (xV 3) a_3))))))
noncomputable def d_4:FM:=fnM 3 6 f_2
noncomputable def d_5:SM:=(a_h (c_Z (b_b (a_o a_r (a_B 0 (a_B 1 (a_p (xC (.int 3)) a_Q))))) (gNm 3))
  (a_h (e_r (b_E (xOp (gEq false) (xV 3) (xC (.int 0)))) (a_O (g_O (a_f (xC (.str "once")) (a_f (b_b (a_o a_r (a_B 0 (a_B 1 (a_p (xV 2) a_Q))))) a_3)))) sNx)
  (a_h (e_r (b_E (xOp (gEq false) (xV 3) (xC (.int 1)))) (a_h (c_Z (xOp g_4 (xC (.int 1)) (b_b (a_o a_r (a_B 0 (a_B 1 (a_p (b_b (a_o a_R (a_B 0 (a_B 1 (a_p (h_A (a_f (xC (.int 3)) (a_f (xC (.int 30)) (a_f (xC (.int 200)) a_3)))) a_Q))))) a_Q)))))) (gNm 4))
  (a_O (g_O (a_f (xC (.str "every")) (a_f (b_b (a_o a_r (a_B 0 (a_B 1 (a_p (xV 2) a_Q))))) (a_f (xV 4) a_3)))))) sNx)
  (a_O (g_O (a_f (xC (.str "daily")) (a_f (b_b (a_o a_r (a_B 0 (a_B 1 (a_p (xC (.int 24)) a_Q))))) a_3)))))))
noncomputable def d_j:FM:=fnM 3 5 d_5
noncomputable def b_t(C:Addr):SM:=(a_h (m_p (a_4 C 0 "check_call" (a_K C) (a_p (xV 1) (a_p (xV 2) a_Q))))
  (e_r (s_k (e_W (b_E (b_b (a_4 C 0 "is_held" (d_6 C) (a_p (xV 2) a_Q))))) (b_E (xOp (gEq true) (f_T C 0 "holder") (xV 1)))) (d_e "NotHolder") sNx))
noncomputable def a_j(C:Addr):FM:=fnM 3 3 (b_t C)
noncomputable def g_M(C:Addr):SM:=(a_h (m_p (a_4 C 0 "check_call" (a_K C) (a_p (xV 1) (a_p (xV 2) a_Q))))
  (a_h (m_p (a_o e_g (a_p (xV 3) a_Q)))
  (a_h (c_N C 0 "last" (xV 2))
  (a_h (e_r (e_W (b_E (b_b (a_4 C 0 "is_held" (d_6 C) (a_p (xV 2) a_Q))))) (j_I C 0 "holds" 1) (e_r (b_E (xOp (gEq true) (f_T C 0 "holder") (xV 1))) (a_O (xC (.bool false))) sNx))
  (a_h (c_N C 0 "holder" (xV 1))
  (a_h (c_N C 0 "until" (xOp g_4 (xV 2) (xV 3)))
  (a_O (xC (.bool true)))))))))
noncomputable def e_Q(C:Addr):FM:=fnM 4 4 (g_M C)
noncomputable def a_y(C:Addr):SM:=(a_h (c_Z (k_C C 0 "settled" 2) (gNm 3))
  (a_h (c_Z (b_b (a_o b_s (a_p (f_T C 0 "zone") (a_p (xOp a_M (xOp a_M (f_T C 0 "deeds") (xV 2)) (xC (.int (0)))) (a_p (xV 3) a_Q))))) (gNm 4))
  (e_r (b_E (xOp f_N (xV 4) (xC .none))) (r_W 1 (g_O (a_f (xV 4) (a_f (xV 2) (a_f (xV 3) a_3))))) sNx)))
noncomputable def d_8(C:Addr):SM:=(a_h (l_q 1 (l_g a_3))
  (a_h (h_q (iLf rng1 (a_f (xCB k_9 (a_f (f_T C 0 "deeds") a_3)) a_3)) (gNm 2) (a_y C))
  (a_O (j_9 1))))
noncomputable def c_r(C:Addr):FM:=fnM 1 5 (d_8 C)
noncomputable def e_X:SM:=(e_r (e_W (b_E (b_b (a_o f_9 (a_p (xV 0) a_Q))))) (d_e "NoDeeds") sNx)
noncomputable def b_q:FM:=fnM 1 1 e_X
noncomputable def d_I(C:Addr):XM Bool:=(n_E (b_E (xOp (gEq false) (xOp a_M (xV 0) (xC (.int 2))) (xC (.str "done")))) (b_E (xOp (gEq false) (xOp a_M (xV 0) (xC (.int 3))) (xV 3))))
noncomputable def e_a(C:Addr):XM PyData:=(xOp n_r (xOp a_M (xV 0) (xC (.int 0))) (b_b (a_o b_s (a_p (xV 1) (a_p (xV 2) (a_p (xOp a_M (xV 0) (xC (.int 4))) a_Q))))))
noncomputable def g_7(C:Addr):SM:=(a_h (m_p (a_o b_j (a_p (xV 1) a_Q)))
  (a_h (m_p (a_o e_b (a_p (xV 2) a_Q)))
  (a_h (e_r (e_W (b_E (b_b (a_o a_T (a_p (xV 3) (a_p (xC (.int 0)) (a_p (xOp n_r (xCB k_9 (a_f (f_T C 0 "deeds") a_3)) (xC (.int 1))) a_Q))))))) (d_e "NoDeed") sNx)
  (a_O (i_k 1 [1,2,3] (iLs (b_b (b_P C 0 "log" (f_k C)))) (gNm 0) (d_I C) (e_a C))))))
noncomputable def e_E(C:Addr):FM:=fnM 4 4 (g_7 C)
noncomputable def c_i:SM:=(a_h (c_Z (b_b (a_o a_r (a_B 0 (a_B 1 (a_p (xC (.int 9)) a_Q))))) (gNm 6))
  (a_h (c_Z (b_b (a_o a_R (a_B 0 (a_B 1 (a_p (h_A (a_f (xC (.str "all")) (a_f (xC (.str "all")) (a_f (xC (.str "last")) (a_f (g_O (a_f (xC (.str "within")) (a_f (xV 6) a_3))) a_3))))) a_Q))))) (gNm 7))
  (a_h (c_Z (xOp (gEq false) (b_b (a_o a_r (a_B 0 (a_B 1 (a_p (xC (.int 2)) a_Q))))) (xC (.int 0))) (gNm 8))
  (c_Z (xOp k_k (xV 4) (g_O (a_f (g_O (a_f (b_b (a_o d_j (a_B 0 (a_B 1 (a_p (xV 3) a_Q))))) (a_f (xV 7) (a_f (xV 8) a_3)))) a_3))) (gNm 4)))))
noncomputable def f_t:SM:=(a_h (c_Z (g_O a_3) (gNm 4))
  (a_h (h_q (iLf rng1 (a_f (b_b (a_o a_r (a_B 0 (a_B 1 (a_p (xOp g_4 (xV 2) (xC (.int 1))) a_Q))))) a_3)) (gNm 5) c_i)
  (a_O (xV 4))))
noncomputable def e_m:FM:=fnM 4 9 f_t
noncomputable def h_w(C:Addr):SM:=(a_h (m_p (a_4 C 0 "check_holder" (a_j C) (a_p (xV 1) (a_p (xV 2) a_Q))))
  (a_h (c_N C 0 "last" (xV 2))
  (c_N C 0 "holder" (xC .none))))
noncomputable def e_l(C:Addr):FM:=fnM 3 3 (h_w C)
noncomputable def b_F(C:Addr):SM:=(a_h (c_Z (b_b (b_P C 0 "first_unsettled" (c_r C))) (gNm 3))
  (a_h (e_r (b_E (xOp gIs (xV 3) (xC .none))) (a_O (g_O (a_f (xC (.str "idle")) (a_f (xC .none) a_3)))) sNx)
  (a_h (e_r (b_E (xOp gGt (xOp a_M (xV 3) (xC (.int 0))) (xV 2))) (a_O (g_O (a_f (xC (.str "idle")) (a_f (xOp a_M (xV 3) (xC (.int 0))) a_3)))) sNx)
  (a_h (c_Z (xOp a_M (xV 3) (xC (.int 1))) (gNm 4))
  (a_h (c_Z (xOp a_M (xV 3) (xC (.int 2))) (gNm 5))
  (a_h (c_Z (xIf (b_E (b_b (a_o b_o (a_p (f_T C 0 "zone") (a_p (xOp a_M (f_T C 0 "deeds") (xV 4)) (a_p (xV 5) (a_p (xV 2) a_Q))))))) (xC (.str "left")) (xC (.str "begun"))) (gNm 6))
  (e_v (a_4 C 0 "add_row" (a_L C) (a_p (g_O (a_f (xV 2) (a_f (xV 1) (a_f (xV 6) (a_f (xV 4) (a_f (xV 5) a_3)))))) a_Q)))))))))
noncomputable def a_9(C:Addr):FM:=fnM 3 7 (b_F C)
noncomputable def e_N(C:Addr):SM:=(a_h (m_p (a_4 C 0 "check_holder" (a_j C) (a_p (xV 1) (a_p (xV 2) a_Q))))
  (a_h (e_r (e_W (b_E (b_b (b_P C 0 "is_busy" (c_2 C))))) (d_e "Nothing") sNx)
  (a_h (c_N C 0 "last" (xV 2))
  (e_v (a_4 C 0 "add_row" (a_L C) (a_p (g_O (a_f (xV 2) (a_f (xV 1) (a_f (xC (.str "done")) (a_f (xOp a_M (f_T C 0 "begun") (xC (.int 0))) (a_f (xOp a_M (f_T C 0 "begun") (xC (.int 1))) a_3)))))) a_Q))))))
noncomputable def b_C(C:Addr):FM:=fnM 3 3 (e_N C)
noncomputable def d_z(C:Addr):XM PyData:=(xC (.int 0))
noncomputable def f_d(C:Addr):SM:=(a_h (m_p (a_o b_j (a_p (xV 1) a_Q)))
  (a_h (m_p (a_o b_q (a_p (xV 2) a_Q)))
  (a_h (c_N C 0 "zone" (xV 1))
  (a_h (c_N C 0 "deeds" (xV 2))
  (a_h (c_N C 0 "last" (xC .none))
  (a_h (c_N C 0 "holder" (xC .none))
  (a_h (c_N C 0 "until" (xC (.int 0)))
  (a_h (c_N C 0 "holds" (xC (.int 0)))
  (a_h (c_N C 0 "begun" (xC .none))
  (a_h (f_U C 0 "rows" (.l []))
  (a_h (f_U C 0 "words" (.m true []))
  (l_f C 0 "settled" 1 [] (iTs (xV 2)) (gNm 0) e_u (d_z C)))))))))))))
noncomputable def e_i(C:Addr):FM:=fnM 3 3 (f_d C)
noncomputable def f_K(C:Addr):SM:=(a_h (m_p (a_4 C 0 "check_holder" (a_j C) (a_p (xV 1) (a_p (xV 2) a_Q))))
  (a_h (c_N C 0 "last" (xV 2))
  (a_h (e_r (b_E (b_b (b_P C 0 "is_busy" (c_2 C)))) (a_O (g_O (a_f (xC (.str "busy")) (a_f (xOp a_M (f_T C 0 "begun") (xC (.int 0))) (a_f (xOp a_M (f_T C 0 "begun") (xC (.int 1))) a_3))))) sNx)
  (a_h (e_r (b_E (xOp f_N (f_T C 0 "begun") (xC .none))) (e_v (a_4 C 0 "step_behind_a_fall" (a_P C) (a_p (xV 1) (a_p (xV 2) a_Q)))) sNx)
  (e_v (a_4 C 0 "step_ahead" (a_9 C) (a_p (xV 1) (a_p (xV 2) a_Q))))))))
noncomputable def d_s(C:Addr):FM:=fnM 3 3 (f_K C)
noncomputable def j_M(C:Addr):SM:=(a_h (e_r (b_E (xOp (gEq false) (xOp a_M (xV 1) (xC (.int 0))) (xC (.str "take")))) (e_v (a_4 C 0 "take" (e_Q C) (a_p (xOp a_M (xV 1) (xC (.int 1))) (a_p (xOp a_M (xV 1) (xC (.int 2))) (a_p (xOp a_M (xV 1) (xC (.int 3))) a_Q))))) sNx)
  (a_h (e_r (b_E (xOp (gEq false) (xOp a_M (xV 1) (xC (.int 0))) (xC (.str "give")))) (e_v (a_4 C 0 "give" (e_l C) (a_p (xOp a_M (xV 1) (xC (.int 1))) (a_p (xOp a_M (xV 1) (xC (.int 2))) a_Q)))) sNx)
  (a_h (e_r (b_E (xOp (gEq false) (xOp a_M (xV 1) (xC (.int 0))) (xC (.str "step")))) (e_v (a_4 C 0 "step" (d_s C) (a_p (xOp a_M (xV 1) (xC (.int 1))) (a_p (xOp a_M (xV 1) (xC (.int 2))) a_Q)))) sNx)
  (e_v (a_4 C 0 "finish" (b_C C) (a_p (xOp a_M (xV 1) (xC (.int 1))) (a_p (xOp a_M (xV 1) (xC (.int 2))) a_Q)))))))
noncomputable def f_a(C:Addr):FM:=fnM 2 2 (j_M C)
noncomputable def w_o(C:Addr):SM:=(a_h (m_p (a_o a_N (a_p (xV 1) a_Q)))
  (o_L exL (e_v (a_o (f_a C) (a_B 0 (a_p (xV 1) a_Q)))) (a_O (xC (.str "refused")))))
noncomputable def r_Q(C:Addr):FM:=fnM 2 2 (w_o C)
noncomputable def i_Z(C:Addr):XM PyData:=(b_b (a_o (r_Q C) (a_B 1 (a_p (xV 0) a_Q))))
noncomputable def s_z(C:Addr):SM:=(a_h (l_q 3 (r_x C (e_i C) (a_f (xV 0) (a_f (xV 1) a_3))))
  (a_h (e_r (e_W (b_E (xIs "list" (xV 2)))) (d_e "NoCall") sNx)
  (e_v (n_h C 3 (h_5 1 [3] 0 3 (iLs (xV 2)) (gNm 0) e_u (i_Z C))))))
noncomputable def p_G(C:Addr):FM:=fnM 3 4 (s_z C)
noncomputable def b_f(C:Addr):SM:=(a_h (c_Z (xOp g_4 (xV 6) (b_b (a_o a_r (a_B 0 (a_B 1 (a_p (b_b (a_o a_R (a_B 0 (a_B 1 (a_p (h_A (a_f (xC (.int 1)) (a_f (xC (.int 3)) (a_f (xC (.int 12)) a_3)))) a_Q))))) a_Q)))))) (gNm 6))
  (a_h (c_Z (b_b (a_o a_r (a_B 0 (a_B 1 (a_p (b_b (a_o a_R (a_B 0 (a_B 1 (a_p (h_A (a_f (xC (.int 1)) (a_f (xC (.int 2)) (a_f (xC (.int 4)) a_3)))) a_Q))))) a_Q))))) (gNm 8))
  (a_h (c_Z (b_b (a_o a_R (a_B 0 (a_B 1 (a_p (h_A (a_f (xC (.str "take")) (a_f (xC (.str "step")) (a_f (xC (.str "step")) (a_f (xC (.str "step")) (a_f (xC (.str "finish")) (a_f (xC (.str "finish")) (a_f (xC (.str "give")) a_3)))))))) a_Q))))) (gNm 9))
  (a_h (c_Z (g_O (a_f (xV 9) (a_f (xV 8) (a_f (xV 6) a_3)))) (gNm 10))
  (r_W 5 (xIf (b_E (xOp (gEq false) (xV 9) (xC (.str "take")))) (xOp k_k (xV 10) (g_O (a_f (xOp g_4 (xC (.int 1)) (b_b (a_o a_r (a_B 0 (a_B 1 (a_p (xC (.int 30)) a_Q)))))) a_3))) (xV 10)))))))
noncomputable def e_S(C:Addr):SM:=(a_h (v_w 5 6 0 (l_g a_3))
  (a_h (h_q (iLf rng1 (a_f (b_b (a_o a_r (a_B 0 (a_B 1 (a_p (xOp g_4 (xV 4) (xC (.int 1))) a_Q))))) a_3)) (gNm 7) (b_f C))
  (a_h (o_b 11 12 (a_o (p_G C) (a_p (xV 2) (a_p (xV 3) (a_p (xOp l_o (h_A (a_f (g_O (a_f (xC (.str "take")) (a_f (xC (.int 0)) (a_f (xC (.int 0)) (a_f (xC (.int 30)) a_3))))) a_3)) (xV 5)) a_Q)))))
  (e_v (n_h C 11 (xV 5))))))
noncomputable def c_U(C:Addr):FM:=fnM 5 13 (e_S C)
noncomputable def l_p(C:Addr):SM:=(l_q 1 (l_g a_3))
noncomputable def l_Q(C:Addr):SM:=(c_Z (b_b (a_o d_4 (a_B 0 (a_B 1 (a_p (xC (.int 40)) a_Q))))) (gNm 2))
noncomputable def l_X(C:Addr):SM:=(c_Z (b_b (a_o e_m (a_B 0 (a_B 1 (a_p (xC (.int 4)) (a_p (xC (.int 20)) a_Q)))))) (gNm 3))
noncomputable def l_n(C:Addr):SM:=(o_b 4 5 (a_o (c_U C) (a_B 0 (a_B 1 (a_p (xV 2) (a_p (xV 3) (a_p (xC (.int 40)) a_Q)))))))
noncomputable def i_f(C:Addr):XM Bool:=(n_E (b_E (xOp (gEq false) (xOp a_M (xV 0) (xC (.int 2))) (xC (.str "done")))) (b_E (xOp (gEq false) (xOp a_M (xV 0) (xC (.int 3))) (xV 1))))
noncomputable def j_V(C:Addr):XM PyData:=(xOp n_r (xOp a_M (xV 0) (xC (.int 0))) (xOp a_M (xV 2) (xOp a_M (xV 0) (xC (.int 4)))))
noncomputable def g_X(C:Addr):SM:=(a_h (c_Z (xOp a_M (xOp a_M (xV 3) (xV 6)) (xC (.int 0))) (gNm 7))
  (a_h (c_Z (b_b (a_o b_Q (a_p (xV 2) (a_p (xV 7) (a_p (xC (.int 600)) a_Q))))) (gNm 8))
  (a_h (c_Z (i_k 1 [6,8] (iLs (b_b (b_P C 4 "log" (f_k C)))) (gNm 0) (i_f C) (j_V C)) (gNm 9))
  (a_h (c_Z (b_b (a_o (e_E C) (a_B 4 (a_p (xV 2) (a_p (xV 7) (a_p (xV 6) a_Q)))))) (gNm 10))
  (e_r (s_k (b_E (xOp (gEq true) (xV 10) (xV 9))) (s_k (n_E (b_E (xOp (gEq true) (xV 10) (h_A a_3))) (b_E (xOp gLt (xCB p_c (a_f (xV 10) a_3)) (xC (.int 0))))) (e_W (b_E (xIs "list" (xV 10)))))) (a_O (xC (.bool false))) sNx)))))
noncomputable def i_4(C:Addr):SM:=(h_q (iLf rng1 (a_f (xCB k_9 (a_f (xV 3) a_3)) a_3)) (gNm 6) (g_X C))
noncomputable def h_P(C:Addr):XM PyData:=(b_b (a_o (e_E C) (a_B 3 (a_p (xV 2) (a_p (xOp a_M (xV 1) (xC (.int 0))) (a_p (xV 0) a_Q))))))
noncomputable def h_x(C:Addr):SM:=(c_Z (h_5 2 [2,4] 1 4 (iLf t_9 (a_f (xV 3) a_3)) (h_s 2 (b_N (gNm 0) (b_N (gNm 1) h_X))) e_u (h_P C)) (gNm 11))
noncomputable def l_5(C:Addr):SM:=(a_O (xOr (xOp (gEq true) (b_b (b_P C 4 "log" (f_k C))) (h_A a_3)) (xOp (gEq false) (xV 11) (xOp t_s (h_A (a_f (h_A a_3) a_3)) (xCB k_9 (a_f (xV 3) a_3))))))
noncomputable def s_5(C:Addr):SM:=(a_h (l_p C)
  (a_h (l_Q C)
  (a_h (l_X C)
  (a_h (l_n C)
  (a_h (i_4 C)
  (a_h (h_x C)
  (l_5 C)))))))
noncomputable def t_5(C:Addr):FM:=fnM 1 12 (s_5 C)
end K3
namespace K3
open PySem PySem.Spec L2 L2.L3 PyProof.Rows
noncomputable def top(i:Nat):Stmt:=PySem.Challenge.pw_duehall_k32_whole_how_late.main.body.getD i (.Pass ⟨0,0,0,0⟩)
noncomputable abbrev d_Z:Stmt:=top 24
noncomputable abbrev b_T:Stmt:=top 25
noncomputable abbrev d_U:Stmt:=top 26
noncomputable abbrev d_h:Stmt:=top 27
noncomputable abbrev c_5:Stmt:=top 28
noncomputable abbrev e_D:Stmt:=top 29
noncomputable abbrev c_G:Stmt:=top 30
noncomputable abbrev e_C:Stmt:=top 31
noncomputable abbrev d_V:Stmt:=top 32
noncomputable abbrev e_J:Stmt:=top 33
noncomputable abbrev e_P:Stmt:=top 34
noncomputable abbrev e_G:Stmt:=top 35
noncomputable abbrev d_n:Stmt:=top 36
noncomputable abbrev c_I:Stmt:=top 37
noncomputable abbrev c_L:Stmt:=top 38
noncomputable abbrev b_z:Stmt:=top 39
noncomputable abbrev b_U:Stmt:=top 40
noncomputable abbrev b_w:Stmt:=top 41
noncomputable abbrev c_J:Stmt:=top 42
noncomputable abbrev g_P:Stmt:=top 45
noncomputable abbrev c_3:Stmt:=top 46
noncomputable abbrev b_Y:Stmt:=top 47
noncomputable abbrev b_d:Stmt:=top 48
noncomputable abbrev c_7:Stmt:=top 50
noncomputable abbrev c_w:Stmt:=top 51
noncomputable abbrev e_H:Stmt:=top 52
noncomputable abbrev d_X:Stmt:=top 54
noncomputable abbrev b_X:Stmt:=top 59
noncomputable abbrev c_y:Stmt:=c_W (top 60) 0
noncomputable abbrev c_8:Stmt:=c_W (top 60) 1
noncomputable abbrev b_B:Stmt:=c_W (top 60) 2
noncomputable abbrev a_6:Stmt:=c_W (top 60) 3
noncomputable abbrev f_F:Stmt:=c_W (top 60) 4
noncomputable abbrev f_B:Stmt:=c_W (top 60) 5
noncomputable abbrev c_4:Stmt:=c_W (top 60) 6
noncomputable abbrev d_l:Stmt:=c_W (top 60) 7
noncomputable abbrev a_S:Stmt:=c_W (top 60) 8
noncomputable abbrev f_L:Stmt:=c_W (top 60) 9
noncomputable abbrev a_F:Stmt:=c_W (top 60) 10
noncomputable abbrev b_A:Stmt:=c_W (top 60) 11
noncomputable abbrev d_W:Stmt:=c_W (top 60) 12
noncomputable abbrev g_Q:Stmt:=c_W (top 60) 15
noncomputable abbrev c_u:Stmt:=top 63
noncomputable abbrev m_5:Stmt:=top 64
noncomputable abbrev t_q:Stmt:=top 65
noncomputable abbrev m_6:Stmt:=top 66
noncomputable abbrev b_y:Stmt:=top 68
noncomputable abbrev c_E:Stmt:=top 69
noncomputable abbrev d_k:Stmt:=top 70
noncomputable abbrev d_f:Stmt:=top 71
noncomputable abbrev d_b:Stmt:=top 72
noncomputable abbrev c_M:Stmt:=top 73
noncomputable abbrev d_g:Stmt:=top 74
noncomputable abbrev c_F:Stmt:=top 75
noncomputable abbrev c_x:Stmt:=top 76
noncomputable abbrev b_W:Stmt:=top 77
noncomputable abbrev k_A:Stmt:=top 78
theorem l_T:FnScope ["thing","least","most"] ["thing","least","most"] (a_e d_Z):=scm
theorem i_x:FnScope ["thing","length"] ["thing","length"] (a_e b_T):=scm
theorem l_F:FnScope ["thing"] ["thing"] (a_e d_U):=scm
theorem j_4:FnScope ["thing"] ["thing"] (a_e d_h):=scm
theorem k_F:FnScope ["thing"] ["thing"] (a_e c_5):=scm
theorem m_J:FnScope ["thing"] ["thing"] (a_e e_D):=scm
theorem d_T:FnScope ["thing","earliest","shift"] ["thing"] (a_e c_G):=scm
theorem m_X:FnScope ["thing"] ["thing"] (a_e e_C):=scm
theorem l_D:FnScope ["thing","word","length"] ["thing","word","length"] (a_e d_V):=scm
theorem n_d:FnScope ["thing"] ["thing"] (a_e e_J):=scm
theorem m_Q:FnScope ["thing"] ["thing"] (a_e e_P):=scm
theorem m_K:FnScope ["thing"] ["thing"] (a_e e_G):=scm
theorem k_g:FnScope ["thing"] ["thing"] (a_e d_n):=scm
theorem i_0:FnScope ["thing"] ["thing"] (a_e c_I):=scm
theorem j_J:FnScope ["thing"] ["thing"] (a_e c_L):=scm
theorem h_6:FnScope ["thing"] ["thing"] (a_e b_z):=scm
theorem i_r:FnScope ["thing"] ["thing"] (a_e b_U):=scm
theorem h_Z:FnScope ["thing"] ["thing"] (a_e b_w):=scm
theorem j_x:FnScope ["thing"] ["thing"] (a_e c_J):=scm
theorem h_B:FnScope ["zone","moment","ahead","shift"] ["zone","moment"] (a_e g_P):=scm
theorem e_j:FnScope ["zone","starts","ends","aheads"] ["zone"] (a_e c_3):=scm
theorem i_A:FnScope ["moment","end"] ["moment","end"] (a_e b_Y):=scm
theorem e_4:FnScope ["zone","hours","reached"] ["zone","hours"] (a_e b_d):=scm
theorem j_7:FnScope ["zone","hour"] ["zone","hour"] (a_e c_7):=scm
theorem g_m:FnScope ["zone","hour","count","day"] ["zone","hour","count"] (a_e c_w):=scm
theorem m_P:FnScope ["zone","plan","count"] ["zone","plan","count"] (a_e e_H):=scm
theorem l_O:FnScope ["hall","zone","plan","deed"] ["hall","zone","plan","deed"] (a_e d_X):=scm
theorem f_S:FnScope ["zone","deed","count","now","later"] ["zone","deed","count","now"] (a_e b_X):=scm
theorem j_z:FnScope ["self","zone","deeds"] ["self","zone","deeds"] (a_e c_y):=scm
theorem j_Z:FnScope ["self","moment"] ["self","moment"] (a_e c_8):=scm
theorem h_I:FnScope ["self","runner","moment"] ["self","runner","moment"] (a_e b_B):=scm
theorem g_5:FnScope ["self","runner","moment"] ["self","runner","moment"] (a_e a_6):=scm
theorem n_M:FnScope ["self","runner","moment","term"] ["self","runner","moment","term"] (a_e f_F):=scm
theorem n_9:FnScope ["self","runner","moment"] ["self","runner","moment"] (a_e f_B):=scm
theorem e_h:FnScope ["self","row","word","deed","count"] ["self","row"] (a_e c_4):=scm
theorem k_t:FnScope ["self"] ["self"] (a_e d_l):=scm
theorem a_U:FnScope ["self","found","deed","count","moment"] ["self"] (a_e a_S):=scm
theorem o_X:FnScope ["self","runner","moment"] ["self","runner","moment"] (a_e f_L):=scm
theorem b_r:FnScope ["self","runner","moment","deed","word"] ["self","runner","moment"] (a_e a_F):=scm
theorem b_S:FnScope ["self","runner","moment","found","deed","count","word"] ["self","runner","moment"] (a_e b_A):=scm
theorem l_j:FnScope ["self","runner","moment"] ["self","runner","moment"] (a_e d_W):=scm
theorem p_J:FnScope ["self"] ["self"] (a_e g_Q):=scm
theorem j_D:FnScope ["thing"] ["thing"] (a_e c_u):=scm
theorem t_H:FnScope ["hall","call"] ["hall","call"] (a_e m_5):=scm
theorem w_I:FnScope ["hall","call"] ["hall","call"] (a_e t_q):=scm
theorem q_6:FnScope ["zone","deeds","calls","hall"] ["zone","deeds","calls"] (a_e m_6):=scm
theorem h_U:FnScope ["_law_script","_law_k"] ["_law_script","_law_k"] (a_e b_y):=scm
theorem g_q:FnScope ["_law_script","_law_k","_law_many","_law_drawn"] ["_law_script","_law_k","_law_many"] (a_e c_E):=scm
theorem k_X:FnScope ["_law_script","_law_town","_law_many"] ["_law_script","_law_town","_law_many"] (a_e d_k):=scm
theorem k_T:FnScope ["_law_script","_law_town","_law_some"] ["_law_script","_law_town","_law_some"] (a_e d_f):=scm
theorem c_B:FnScope ["_law_script","_law_town","_law_wide","_law_made","_law_at","_law_k"] ["_law_script","_law_town","_law_wide"] (a_e d_b):=scm
theorem c_S:FnScope ["_law_zone_here","_law_moment","_law_ahead","_law_begin","_law_more"] ["_law_zone_here","_law_moment"] (a_e c_M):=scm
theorem f_p:FnScope ["_law_script","_law_town","_law_wide","_law_kind","_law_step"] ["_law_script","_law_town","_law_wide"] (a_e d_g):=scm
theorem b_n:FnScope ["_law_zone_here","_law_plan_here","_law_last","_law_goal","_law_made","_law_moment"] ["_law_zone_here","_law_plan_here","_law_last"] (a_e c_F):=scm
theorem b_p:FnScope ["_law_script","_law_town","_law_most","_law_wide","_law_made","_law_k","_law_hours","_law_late","_law_again"] ["_law_script","_law_town","_law_most","_law_wide"] (a_e c_x):=scm
theorem a_Y:FnScope ["_law_script","_law_town","_law_zone_here","_law_deeds_here","_law_most","_law_calls","_law_moment","_law_k","_law_runner","_law_word","_law_call","_law_hall","_law_told"] ["_law_script","_law_town","_law_zone_here","_law_deeds_here","_law_most"] (a_e b_W):=scm
theorem f_v:FnScope ["_law_script","_law_town","_law_zone_here","_law_deeds_here","_law_hall","_law_calls","_law_deed","_law_plan_here","_law_some","_law_wanted","_law_made","_law_rows"] ["_law_script"] (a_e k_A):=scm
structure Tx (P:Program) (w:World) (K:Frag) (mg:Str->Option Value):Prop where
 d00:∃g fd,FD K mg "is_whole" d_Z ["thing","least","most"] g fd
 d01:∃g fd,FD K mg "is_tuple_of" b_T ["thing","length"] g fd
 d02:∃g fd,FD K mg "is_ahead" d_U ["thing"] g fd
 d03:∃g fd,FD K mg "is_moment" d_h ["thing"] g fd
 d04:∃g fd,FD K mg "is_runner" c_5 ["thing"] g fd
 d05:∃g fd,FD K mg "is_term" e_D ["thing"] g fd
 d06:∃g fd,FD K mg "are_shifts" c_G ["thing"] g fd
 d07:∃g fd,FD K mg "is_zone" e_C ["thing"] g fd
 d08:∃g fd,FD K mg "has_word" d_V ["thing","word","length"] g fd
 d09:∃g fd,FD K mg "is_plan" e_J ["thing"] g fd
 d0a:∃g fd,FD K mg "is_late" e_P ["thing"] g fd
 d0b:∃g fd,FD K mg "is_deed" e_G ["thing"] g fd
 d0c:∃g fd,FD K mg "are_deeds" d_n ["thing"] g fd
 d0d:∃g fd,FD K mg "check_zone" c_I ["thing"] g fd
 d0e:∃g fd,FD K mg "check_plan" c_L ["thing"] g fd
 d0f:∃g fd,FD K mg "check_moment" b_z ["thing"] g fd
 d0g:∃g fd,FD K mg "check_deeds" b_U ["thing"] g fd
 d0h:∃g fd,FD K mg "check_runner" b_w ["thing"] g fd
 d0i:∃g fd,FD K mg "check_term" c_J ["thing"] g fd
 d0j:∃g fd,FD K mg "shown" g_P ["zone","moment"] g fd
 d0k:∃g fd,FD K mg "stretches" c_3 ["zone"] g fd
 d0l:∃g fd,FD K mg "is_ahead_of" b_Y ["moment","end"] g fd
 d0m:∃g fd,FD K mg "first_showing" b_d ["zone","hours"] g fd
 d0n:∃g fd,FD K mg "first_day" c_7 ["zone","hour"] g fd
 d0o:∃g fd,FD K mg "daily_time" c_w ["zone","hour","count"] g fd
 d0p:∃g fd,FD K mg "time_of" e_H ["zone","plan","count"] g fd
 d0q:∃g fd,FD K mg "lateness" d_X ["hall","zone","plan","deed"] g fd
 d0r:∃g fd,FD K mg "is_left_out" b_X ["zone","deed","count","now"] g fd
 d0s:∃g fd,FD K mg "check_call" c_u ["thing"] g fd
 d0t:∃g fd,FD K mg "ask" m_5 ["hall","call"] g fd
 d0u:∃g fd,FD K mg "do" t_q ["hall","call"] g fd
 d0v:∃g fd,FD K mg "run" m_6 ["zone","deeds","calls"] g fd
 d0w:∃g fd,FD K mg "_law_cell_at" b_y ["_law_script","_law_k"] g fd
 d0x:∃g fd,FD K mg "_law_mixed" c_E ["_law_script","_law_k","_law_many"] g fd
 d0y:∃g fd,FD K mg "_law_draw" d_k ["_law_script","_law_town","_law_many"] g fd
 d0z:∃g fd,FD K mg "_law_pick" d_f ["_law_script","_law_town","_law_some"] g fd
 d10:∃g fd,FD K mg "_law_zone" d_b ["_law_script","_law_town","_law_wide"] g fd
 d11:∃g fd,FD K mg "_law_shown" c_M ["_law_zone_here","_law_moment"] g fd
 d12:∃g fd,FD K mg "_law_plan" d_g ["_law_script","_law_town","_law_wide"] g fd
 d13:∃g fd,FD K mg "_law_times" c_F ["_law_zone_here","_law_plan_here","_law_last"] g fd
 d14:∃g fd,FD K mg "_law_deeds" c_x ["_law_script","_law_town","_law_most","_law_wide"] g fd
 d15:∃g fd,FD K mg "_law_called" b_W ["_law_script","_law_town","_law_zone_here","_law_deeds_here","_law_most"] g fd
 d16:∃t,mg "LAST_MOMENT" = some (.int (9999) t)
 d17:∃t,mg "LAST_HOUR" = some (.int (23) t)
 d18:∃t,mg "LEAST_AHEAD" = some (.int (-12) t)
 d19:∃t,mg "MOST_AHEAD" = some (.int (14) t)
 d1a:∃t,mg "MOST_SHIFTS" = some (.int (6) t)
 d1b:∃t,mg "MOST_STEP" = some (.int (999) t)
 d1c:∃t,mg "MOST_DEEDS" = some (.int (6) t)
 d1d:∃t,mg "MOST_WITHIN" = some (.int (999) t)
 d1e:∃t,mg "LAST_RUNNER" = some (.int (3) t)
 d1f:∃t,mg "MOST_TERM" = some (.int (99) t)
 d1g:∃t,mg "DAY_HOURS" = some (.int (24) t)
 d1h:∃t,mg "PLAN" = some (.int (0) t)
 d1i:∃t,mg "LATE" = some (.int (1) t)
 d1j:∃t,mg "AGAIN" = some (.int (2) t)
 d1k:∃d,mg "LENGTHS" = some (.ref d)/\u_W P w K d [("take",4),("give",3),("step",3),("finish",3)]
 d1l:mg "all" = none
 d1m:mg "any" = none
 d1n:mg "bool" = none
 d1o:mg "enumerate" = none
 d1p:mg "int" = none
 d1q:mg "isinstance" = none
 d1r:mg "len" = none
 d1s:mg "list" = none
 d1t:mg "max" = none
 d1u:mg "min" = none
 d1v:mg "range" = none
 d1w:mg "str" = none
 d1x:mg "tuple" = none
 d1y:mg "zip" = none
 xt0:∃D,XT K mg exL D
structure HCx (K:Frag) (mg:Str->Option Value) (C:Addr):Prop where
 cl:Cls K C
 mg:mg "Hall" = some (.ref C)
 mks:PySem.W.makesIn K C=true
 kpC:keepIn K (.ref C)=true
 d1z:b_a K C "begun"
 d20:b_a K C "deeds"
 d21:b_a K C "holder"
 d22:b_a K C "holds"
 d23:b_a K C "last"
 d24:b_a K C "rows"
 d25:b_a K C "settled"
 d26:b_a K C "until"
 d27:b_a K C "words"
 d28:b_a K C "zone"
 d29:∃g fd,MD K C "__init__" "Hall.__init__" c_y ["self","zone","deeds"] g fd
 d2a:∃g fd,MD K C "is_held" "Hall.is_held" c_8 ["self","moment"] g fd
 d2b:∃g fd,MD K C "check_call" "Hall.check_call" b_B ["self","runner","moment"] g fd
 d2c:∃g fd,MD K C "check_holder" "Hall.check_holder" a_6 ["self","runner","moment"] g fd
 d2d:∃g fd,MD K C "take" "Hall.take" f_F ["self","runner","moment","term"] g fd
 d2e:∃g fd,MD K C "give" "Hall.give" f_B ["self","runner","moment"] g fd
 d2f:∃g fd,MD K C "add_row" "Hall.add_row" c_4 ["self","row"] g fd
 d2g:∃g fd,MD K C "is_busy" "Hall.is_busy" d_l ["self"] g fd
 d2h:∃g fd,MD K C "first_unsettled" "Hall.first_unsettled" a_S ["self"] g fd
 d2i:∃g fd,MD K C "step" "Hall.step" f_L ["self","runner","moment"] g fd
 d2j:∃g fd,MD K C "step_behind_a_fall" "Hall.step_behind_a_fall" a_F ["self","runner","moment"] g fd
 d2k:∃g fd,MD K C "step_ahead" "Hall.step_ahead" b_A ["self","runner","moment"] g fd
 d2l:∃g fd,MD K C "finish" "Hall.finish" d_W ["self","runner","moment"] g fd
 d2m:∃g fd,MD K C "log" "Hall.log" g_Q ["self"] g fd
theorem HCx.make{K:Frag}{mg:Str->Option Value}{C g:Addr}(h:HCx K mg C)(M:Meth K C "__init__" g):Mk K C g:=⟨h.mks,M.at_,M.fn,h.kpC⟩
theorem u_d:bootBuiltins "int" = some (.type "int"):=by decide +kernel
theorem o_y:bootBuiltins "bool" = some (.type "bool"):=by decide +kernel
theorem r_i:bootBuiltins "str" = some (.type "str"):=by decide +kernel
theorem j_u:bootBuiltins "tuple" = some (.type "tuple"):=by decide +kernel
theorem o_M:bootBuiltins "list" = some (.type "list"):=by decide +kernel
theorem r_e:bootBuiltins "max" = some (.builtin "max"):=by decide +kernel
theorem v_p:bootBuiltins "divmod" = some (.builtin "divmod"):=by decide +kernel
theorem u_v:bootBuiltins "all" = some (.builtin "all"):=by decide +kernel
theorem v_v:bootBuiltins "any" = some (.builtin "any"):=by decide +kernel
theorem y_v:bootBuiltins "sum" = some (.builtin "sum"):=by decide +kernel
theorem v_a:bootBuiltins "min" = some (.builtin "min"):=by decide +kernel
theorem u_w:bootBuiltins "sorted" = some (.builtin "sorted"):=by decide +kernel
theorem xok0{X:Cx}{F:Fx}(hG:GF X.mg F):XOk X F E0':=⟨hG,fun _ _ _ _ _ _ _ _ _ _ z=>z.elim⟩
end K3
namespace K3
open PySem PySem.Spec L2 L2.L3 PyProof.Rows
local macro_rules | `(tactic| walk_at "z")=>`(tactic| first|rfl|exact .inl rfl|exact .inr rfl|assumption|exact fun _=>rfl)
section
variable(P:Program)(w:World){K:Frag}{mg:Str->Option Value}(base:Heap)
theorem b_R{g:Addr}{fd:FuncData}(T:Tx P w K mg)(D:FD K mg "is_whole" d_Z ["thing","least","most"] g fd):FnOk P w K mg base (CXM P w) 1 g fd ["thing","least","most"] (spF K mg a_T):=by
 refine c_0 D.fn l_T (by decide) ?_
 intro cdv A outer s H E F E' hr hx
 unfold e_M
 refine a_c ?_
 refine a_z ?_
 ·exact(d_O (i_y (c_k rfl T.d1q (fv 0) (e_q rfl T.d1p u_d rfl))) (d_O (u_t (i_y (c_k rfl T.d1q (fv 0) (e_q rfl T.d1n o_y rfl)))) (e_c (r_N (fv 1) (fv 0) (fv 2)))))
theorem d_A{g:Addr}{fd:FuncData}(T:Tx P w K mg)(D:FD K mg "is_tuple_of" b_T ["thing","length"] g fd):FnOk P w K mg base (CXM P w) 1 g fd ["thing","length"] (spF K mg a_7):=by
 refine c_0 D.fn i_x (by decide) ?_
 intro cdv A outer s H E F E' hr hx
 unfold d_P
 refine a_c ?_
 refine a_z ?_
 ·exact(d_O (i_y (c_k rfl T.d1q (fv 0) (e_q rfl T.d1x j_u rfl))) (e_c (l_N hr.units (g_2 h_m (b_V a_Z k_V rfl T.d1r PySem.boot_len (a_I (fv 0) a_n))) (fv 1))))
theorem p_w{g:Addr}{fd:FuncData}(T:Tx P w K mg)(D:FD K mg "shown" g_P ["zone","moment"] g fd):FnOk P w K mg base (CXM P w) 1 g fd ["zone","moment"] (spF K mg i_3):=by
 refine c_0 D.fn h_B (by decide) ?_
 intro cdv A outer s H E F E' hr hx
 unfold l_Z
 refine a_a ?_ ?_
 ·refine a_E (i:=2) ?_ ?_ ?_ ?_ ?_ ?_<;>try walk_at "z"
  ·exact h_B.nd
  ·exact(a_s (fv 0) (a_i a_b))
 refine a_a ?_ ?_
 ·refine g_G ?_ ?_ ?_ ?_ ?_ ?_<;>try walk_at "z"
  ·exact PassesOwn.leaving
  ·exact(h_T (a_s (fv 0) (a_i a_b)))
  ·exact(fgn 3 h_B.nd)
  ·unfold g_r
   refine a_c ?_
   refine b_c ?_ ?_ ?_
   ·exact(p_M (a_s (fv 3) (a_i a_b)) (fv 1))
   ·refine a_c ?_
    refine a_E (i:=2) ?_ ?_ ?_ ?_ ?_ ?_<;>try walk_at "z"
    ·exact h_B.nd
    ·exact(a_s (fv 3) (a_i a_b))
   ·exact a_x
 refine a_c ?_
 refine a_z ?_
 ·exact(b_L (fv 1) (fv 2))
theorem k_o{g:Addr}{fd:FuncData}(T:Tx P w K mg)(D:FD K mg "stretches" c_3 ["zone"] g fd):FnOk P w K mg base (CXM P w) 1 g fd ["zone"] (spF K mg e_Y):=by
 refine c_0 D.fn e_j (by decide) ?_
 intro cdv A outer s H E F E' hr hx
 unfold f_X
 refine a_a ?_ ?_
 ·refine a_E (i:=1) ?_ ?_ ?_ ?_ ?_ ?_<;>try walk_at "z"
  ·exact e_j.nd
  ·exact(m_n (d_E (a_I (a_i a_b) a_n)) (h_Y hx.1 (CompScope.of (own:=["shift"]) (capN:=[]) (caps:=[])) rfl rfl (h_T (a_s (fv 0) (a_i a_b))) (fun _ _ _ _ _ _ hg=>⟨(fgn 0 (show((["shift"]:List Str)++([]:List Str)).Nodup from by decide +kernel)),f_4,(a_s (fv 0) (a_i a_b))⟩)))
 refine a_a ?_ ?_
 ·refine a_E (i:=2) ?_ ?_ ?_ ?_ ?_ ?_<;>try walk_at "z"
  ·exact e_j.nd
  ·exact(m_n (s_q (s_s (k:=1) (fv 1))) (d_E (a_I (a_i d_N) a_n)))
 refine a_a ?_ ?_
 ·refine a_E (i:=3) ?_ ?_ ?_ ?_ ?_ ?_<;>try walk_at "z"
  ·exact e_j.nd
  ·exact(m_n (d_E (a_I (a_s (fv 0) (a_i a_b)) a_n)) (h_Y hx.1 (CompScope.of (own:=["shift"]) (capN:=[]) (caps:=[])) rfl rfl (h_T (a_s (fv 0) (a_i a_b))) (fun _ _ _ _ _ _ hg=>⟨(fgn 0 (show((["shift"]:List Str)++([]:List Str)).Nodup from by decide +kernel)),f_4,(a_s (fv 0) (a_i a_b))⟩)))
 refine a_c ?_
 refine a_z ?_
 ·exact(x_r (l_P rfl rfl T.d1s rfl T.d1y (a_I (fv 1) (a_I (fv 2) (a_I (fv 3) a_n)))))
theorem i_u{g:Addr}{fd:FuncData}(T:Tx P w K mg)(D:FD K mg "is_ahead_of" b_Y ["moment","end"] g fd):FnOk P w K mg base (CXM P w) 1 g fd ["moment","end"] (spF K mg d_Q):=by
 refine c_0 D.fn i_A (by decide) ?_
 intro cdv A outer s H E F E' hr hx
 unfold e_2
 refine a_c ?_
 refine a_z ?_
 ·exact(s_A (t_I (fv 1) (a_i d_N)) (e_c (u_y (fv 0) (fv 1))))
theorem h_E{g:Addr}{fd:FuncData}(T:Tx P w K mg)(D:FD K mg "_law_cell_at" b_y ["_law_script","_law_k"] g fd):FnOk P w K mg base (CXM P w) 1 g fd ["_law_script","_law_k"] (spF K mg b_D):=by
 refine c_0 D.fn h_U (by decide) ?_
 intro cdv A outer s H E F E' hr hx
 unfold c_f
 refine a_a ?_ ?_
 ·refine b_c ?_ ?_ ?_
  ·exact(q_r (fv 1) (n_V (o_m rfl T.d1r (pv 0))))
  ·refine a_c ?_
   refine a_z ?_
   ·exact(q_V (q_8 (pv 0) (fv 1) (by intro _ _;rfl)))
  ·exact a_x
 refine a_a ?_ ?_
 ·refine b_c ?_ ?_ ?_
  ·exact(v_K (t_1 hr.units (pv 0)))
  ·refine a_c ?_
   refine a_z ?_
   ·exact(a_i a_b)
  ·exact a_x
 refine a_c ?_
 refine a_z ?_
 ·exact(b_L (k_r (q_V (q_8 (pv 0) (k_u (fv 1) (n_V (o_m rfl T.d1r (pv 0)))) (by intro _ _;rfl))) (a_i a_b)) (fv 1))
theorem j_h{g:Addr}{fd:FuncData}(T:Tx P w K mg)(D:FD K mg "_law_shown" c_M ["_law_zone_here","_law_moment"] g fd):FnOk P w K mg base (CXM P w) 1 g fd ["_law_zone_here","_law_moment"] (spF K mg c_D):=by
 refine c_0 D.fn c_S (by decide) ?_
 intro cdv A outer s H E F E' hr hx
 unfold f_g
 refine a_a ?_ ?_
 ·refine a_E (i:=2) ?_ ?_ ?_ ?_ ?_ ?_<;>try walk_at "z"
  ·exact c_S.nd
  ·exact(a_s (fv 0) (a_i a_b))
 refine a_a ?_ ?_
 ·refine g_G ?_ ?_ ?_ ?_ ?_ ?_<;>try walk_at "z"
  ·exact PassesOwn.leaving
  ·exact(h_T (a_s (fv 0) (a_i a_b)))
  ·exact(m_y (n:=2) rfl (d_S (fgn 3 c_S.nd) (d_S (fgn 4 c_S.nd) j_U)))
  ·unfold d_y
   refine a_c ?_
   refine a_E (i:=2) ?_ ?_ ?_ ?_ ?_ ?_<;>try walk_at "z"
   ·exact c_S.nd
   ·exact(m_Y (p_M (fv 3) (fv 1)) (fv 4) (fv 2))
 refine a_c ?_
 refine a_z ?_
 ·exact(b_L (fv 1) (fv 2))
theorem h_l{C:Addr}{g:Addr}{fd:FuncData}(T:Tx P w K mg)(HC:HCx K mg C)(D:MD K C "is_held" "Hall.is_held" c_8 ["self","moment"] g fd):FnOk P w K mg base (CXM P w) 1 g fd ["self","moment"] (spF K mg (d_6 C)):=by
 refine c_0 D.fn j_Z (by decide) ?_
 intro cdv A outer s H E F E' hr hx
 unfold g_c
 refine a_c ?_
 refine a_z ?_
 ·exact(d_O (l_d (b_J HC.cl HC.d21 (pv 0)) (a_i d_N)) (e_c (u_y (fv 1) (b_J HC.cl HC.d26 (pv 0)))))
theorem f_e{C:Addr}{g:Addr}{fd:FuncData}(T:Tx P w K mg)(HC:HCx K mg C)(D:MD K C "add_row" "Hall.add_row" c_4 ["self","row"] g fd):FnOk P w K mg base (CXM P w) 1 g fd ["self","row"] (spF K mg (a_L C)):=by
 refine c_0 D.fn e_h (by decide) ?_
 intro cdv A outer s H E F E' hr hx
 unfold d_d
 refine a_a ?_ ?_
 ·refine a_E (i:=2) ?_ ?_ ?_ ?_ ?_ ?_<;>try walk_at "z"
  ·exact e_h.nd
  ·exact(a_s (fv 1) (a_i a_b))
 refine a_a ?_ ?_
 ·refine a_E (i:=3) ?_ ?_ ?_ ?_ ?_ ?_<;>try walk_at "z"
  ·exact e_h.nd
  ·exact(a_s (fv 1) (a_i a_b))
 refine a_a ?_ ?_
 ·refine a_E (i:=4) ?_ ?_ ?_ ?_ ?_ ?_<;>try walk_at "z"
  ·exact e_h.nd
  ·exact(a_s (fv 1) (a_i a_b))
 refine a_a ?_ ?_
 ·refine n_I ?_ ?_ ?_ ?_ ?_ ?_ ?_ ?_ ?_ ?_ ?_<;>try walk_at "z"
  ·exact HC.cl
  ·exact HC.d24
  ·exact(pv 0)
  ·exact(pv 1)
 refine a_a ?_ ?_
 ·refine p_k ?_ ?_ ?_ ?_ ?_ ?_ ?_ ?_ ?_ ?_ ?_<;>try walk_at "z"
  ·exact(v_f hr)
  ·exact HC.cl
  ·exact HC.d27
  ·exact(pv 0)
  ·exact(pv 3)
  ·exact(pv 4)
  ·exact(fv 2)
 refine a_a ?_ ?_
 ·refine b_c ?_ ?_ ?_
  ·exact(e_8 hr.units (fv 2) (a_i a_H))
  ·refine a_c ?_
   refine d_M ?_ ?_ ?_ ?_ ?_
   ·exact HC.cl
   ·exact HC.d1z
   ·exact(pv 0)
   ·exact(b_I (a_I (fv 3) (a_I (fv 4) (a_I (b_J HC.cl HC.d22 (pv 0)) a_n))))
   ·rfl
  ·refine a_a ?_ ?_
   ·refine d_M ?_ ?_ ?_ ?_ ?_
    ·exact HC.cl
    ·exact HC.d1z
    ·exact(pv 0)
    ·exact(a_i d_N)
    ·rfl
   refine a_c ?_
   refine n_t ?_ ?_ ?_ ?_ ?_ ?_ ?_ ?_ ?_ ?_<;>try walk_at "z"
   ·exact HC.cl
   ·exact HC.d25
   ·exact(pv 0)
   ·exact(pv 3)
   ·exact(b_L (fv 4) (a_i a_b))
 refine a_c ?_
 refine a_z ?_
 ·exact(b_I (a_I (fv 2) (a_I (fv 3) (a_I (fv 4) a_n))))
theorem h_e{C:Addr}{g:Addr}{fd:FuncData}(T:Tx P w K mg)(HC:HCx K mg C)(D:MD K C "is_busy" "Hall.is_busy" d_l ["self"] g fd):FnOk P w K mg base (CXM P w) 1 g fd ["self"] (spF K mg (c_2 C)):=by
 refine c_0 D.fn k_t (by decide) ?_
 intro cdv A outer s H E F E' hr hx
 unfold e_Z
 refine a_c ?_
 refine a_z ?_
 ·exact(d_O (l_d (b_J HC.cl HC.d1z (pv 0)) (a_i d_N)) (e_c (l_N hr.units (a_s (b_J HC.cl HC.d1z (pv 0)) (a_i a_b)) (b_J HC.cl HC.d22 (pv 0)))))
theorem m_F{C:Addr}{g:Addr}{fd:FuncData}(T:Tx P w K mg)(HC:HCx K mg C)(D:MD K C "log" "Hall.log" g_Q ["self"] g fd):FnOk P w K mg base (CXM P w) 1 g fd ["self"] (spF K mg (f_k C)):=by
 refine c_0 D.fn p_J (by decide) ?_
 intro cdv A outer s H E F E' hr hx
 unfold l_e
 refine a_c ?_
 refine a_z ?_
 ·exact(m_2 rfl T.d1s HC.cl HC.d24 (pv 0))
theorem h_J{g:Addr}{fd:FuncData}(T:Tx P w K mg)(D:FD K mg "is_ahead" d_U ["thing"] g fd):FnOk P w K mg base (CXM P w) 2 g fd ["thing"] (spF K mg e_L):=by
 obtain⟨g0,f0,D0⟩:=T.d00
 have G0:=b_R P w base T D0
 obtain⟨t_LEAST_AHEAD,g_LEAST_AHEAD⟩:=T.d18
 obtain⟨t_MOST_AHEAD,g_MOST_AHEAD⟩:=T.d19
 refine c_0 D.fn l_F (by decide) ?_
 intro cdv A outer s H E F E' hr hx
 unfold g_8
 refine a_c ?_
 refine b_g ?_
 ·exact(fcd hx G0 D0 hr (a_t (fv 0) (a_t (a_i (b_e rfl g_LEAST_AHEAD)) (a_t (a_i (b_e rfl g_MOST_AHEAD)) a_g))))
theorem h_n{g:Addr}{fd:FuncData}(T:Tx P w K mg)(D:FD K mg "is_moment" d_h ["thing"] g fd):FnOk P w K mg base (CXM P w) 2 g fd ["thing"] (spF K mg d_o):=by
 obtain⟨g0,f0,D0⟩:=T.d00
 have G0:=b_R P w base T D0
 obtain⟨t_LAST_MOMENT,g_LAST_MOMENT⟩:=T.d16
 refine c_0 D.fn j_4 (by decide) ?_
 intro cdv A outer s H E F E' hr hx
 unfold g_d
 refine a_c ?_
 refine b_g ?_
 ·exact(fcd hx G0 D0 hr (a_t (fv 0) (a_t (a_i a_b) (a_t (a_i (b_e rfl g_LAST_MOMENT)) a_g))))
theorem k_a{g:Addr}{fd:FuncData}(T:Tx P w K mg)(D:FD K mg "is_runner" c_5 ["thing"] g fd):FnOk P w K mg base (CXM P w) 2 g fd ["thing"] (spF K mg e_T):=by
 obtain⟨g0,f0,D0⟩:=T.d00
 have G0:=b_R P w base T D0
 obtain⟨t_LAST_RUNNER,g_LAST_RUNNER⟩:=T.d1e
 refine c_0 D.fn k_F (by decide) ?_
 intro cdv A outer s H E F E' hr hx
 unfold f_6
 refine a_c ?_
 refine b_g ?_
 ·exact(fcd hx G0 D0 hr (a_t (fv 0) (a_t (a_i a_b) (a_t (a_i (b_e rfl g_LAST_RUNNER)) a_g))))
theorem n_j{g:Addr}{fd:FuncData}(T:Tx P w K mg)(D:FD K mg "is_term" e_D ["thing"] g fd):FnOk P w K mg base (CXM P w) 2 g fd ["thing"] (spF K mg g_o):=by
 obtain⟨g0,f0,D0⟩:=T.d00
 have G0:=b_R P w base T D0
 obtain⟨t_MOST_TERM,g_MOST_TERM⟩:=T.d1f
 refine c_0 D.fn m_J (by decide) ?_
 intro cdv A outer s H E F E' hr hx
 unfold h_4
 refine a_c ?_
 refine b_g ?_
 ·exact(fcd hx G0 D0 hr (a_t (fv 0) (a_t (a_i a_b) (a_t (a_i (b_e rfl g_MOST_TERM)) a_g))))
theorem f_0{g:Addr}{fd:FuncData}(T:Tx P w K mg)(D:FD K mg "has_word" d_V ["thing","word","length"] g fd):FnOk P w K mg base (CXM P w) 2 g fd ["thing","word","length"] (spF K mg b_4):=by
 obtain⟨g0,f0,D0⟩:=T.d01
 have G0:=d_A P w base T D0
 refine c_0 D.fn l_D (by decide) ?_
 intro cdv A outer s H E F E' hr hx
 unfold f_J
 refine a_c ?_
 refine a_z ?_
 ·exact(d_O (a_k (fcd hx G0 D0 hr (a_t (fv 0) (a_t (fv 2) a_g)))) (d_O (i_y (c_k rfl T.d1q (a_s (fv 0) (a_i a_b)) (e_q rfl T.d1w r_i rfl))) (e_c (l_N hr.units (a_s (fv 0) (a_i a_b)) (fv 1)))))
theorem h_r{g:Addr}{fd:FuncData}(T:Tx P w K mg)(D:FD K mg "first_showing" b_d ["zone","hours"] g fd):FnOk P w K mg base (CXM P w) 2 g fd ["zone","hours"] (spF K mg c_Q):=by
 obtain⟨g0,f0,D0⟩:=T.d0k
 have G0:=k_o P w base T D0
 obtain⟨g1,f1,D1⟩:=T.d0l
 have G1:=i_u P w base T D1
 refine c_0 D.fn e_4 (by decide) ?_
 intro cdv A outer s H E F E' hr hx
 unfold d_0
 refine a_a ?_ ?_
 ·refine i_J (i:=2) (own:=["start","end","ahead"]) (capN:=["hours"]) (caps:=[1]) ?_ ?_ ?_ ?_ ?_ ?_ ?_ ?_ ?_ ?_ ?_ ?_<;>try walk_at "z"
  ·exact e_4.nd
  ·exact hx.1
  ·exact(CompScope.of (own:=["start","end","ahead"]) (capN:=["hours"]) (caps:=[1]))
  ·exact(j_k (a_k (fcd hx G0 D0 hr (a_t (fv 0) a_g))))
  ·exact(fun _ _ _ _ _ _ hg=>⟨(m_y (n:=3) rfl (d_S (fgn 0 (show((["start","end","ahead"]:List Str)++(["hours"]:List Str)).Nodup from by decide +kernel)) (d_S (fgn 1 (show((["start","end","ahead"]:List Str)++(["hours"]:List Str)).Nodup from by decide +kernel)) (d_S (fgn 2 (show((["start","end","ahead"]:List Str)++(["hours"]:List Str)).Nodup from by decide +kernel)) j_U)))),(l_a (b_u (b_v (a_k (fcd (xok0 hg) G1 D1 hr (a_t (g_2 q_R (b_V (k_O rfl) u_3 rfl T.d1t r_e (a_I (fv 0) (a_I (g_E (fv 3) (fv 2)) a_n)))) (a_t (fv 1) a_g))))))),(g_2 q_R (b_V (k_O rfl) u_3 rfl T.d1t r_e (a_I (fv 0) (a_I (g_E (fv 3) (fv 2)) a_n))))⟩)
 refine a_c ?_
 refine a_z ?_
 ·exact(a_s (fv 2) (a_i a_b))
theorem k_B{g:Addr}{fd:FuncData}(T:Tx P w K mg)(D:FD K mg "first_day" c_7 ["zone","hour"] g fd):FnOk P w K mg base (CXM P w) 2 g fd ["zone","hour"] (spF K mg e_R):=by
 obtain⟨g0,f0,D0⟩:=T.d0j
 have G0:=p_w P w base T D0
 obtain⟨t_DAY_HOURS,g_DAY_HOURS⟩:=T.d1g
 refine c_0 D.fn j_7 (by decide) ?_
 intro cdv A outer s H E F E' hr hx
 unfold f_V
 refine a_c ?_
 refine a_z ?_
 ·exact(k_f (v_L (g_E (fv 1) (a_k (fcd hx G0 D0 hr (a_t (fv 0) (a_t (a_i a_b) a_g))))) (a_i (b_e rfl g_DAY_HOURS))))
theorem j_O{g:Addr}{fd:FuncData}(T:Tx P w K mg)(D:FD K mg "_law_mixed" c_E ["_law_script","_law_k","_law_many"] g fd):FnOk P w K mg base (CXM P w) 2 g fd ["_law_script","_law_k","_law_many"] (spF K mg e_n):=by
 obtain⟨g0,f0,D0⟩:=T.d0w
 have G0:=h_E P w base T D0
 refine c_0 D.fn g_q (by decide) ?_
 intro cdv A outer s H E F E' hr hx
 unfold f_y
 refine a_a ?_ ?_
 ·refine a_E (i:=3) ?_ ?_ ?_ ?_ ?_ ?_<;>try walk_at "z"
  ·exact g_q.nd
  ·exact(k_u (b_L (b_L (k_r (a_k (fcd hx G0 D0 hr (c_Y (pv 0) (a_t (fv 1) a_g)))) (a_i a_b)) (k_r (a_i a_b) (fv 1))) (a_i a_b)) (a_i a_b))
 refine a_c ?_
 refine a_z ?_
 ·exact(k_u (k_u (k_u (v_Z (fv 3) (a_i a_b)) (a_i a_b)) (a_i a_b)) (fv 2))
theorem j_K{g:Addr}{fd:FuncData}(T:Tx P w K mg)(D:FD K mg "_law_times" c_F ["_law_zone_here","_law_plan_here","_law_last"] g fd):FnOk P w K mg base (CXM P w) 2 g fd ["_law_zone_here","_law_plan_here","_law_last"] (spF K mg b_Q):=by
 obtain⟨g0,f0,D0⟩:=T.d11
 have G0:=j_h P w base T D0
 refine c_0 D.fn b_n (by decide) ?_
 intro cdv A outer s H E F E' hr hx
 unfold c_H
 refine a_a ?_ ?_
 ·refine b_c ?_ ?_ ?_
  ·exact(e_8 hr.units (a_s (fv 1) (a_i a_b)) (a_i a_H))
  ·refine a_c ?_
   refine a_z ?_
   ·exact(m_Y (p_M (a_s (fv 1) (a_i a_b)) (fv 2)) (d_E (a_I (a_s (fv 1) (a_i a_b)) a_n)) (d_E a_n))
  ·exact a_x
 refine a_a ?_ ?_
 ·refine b_c ?_ ?_ ?_
  ·exact(e_8 hr.units (a_s (fv 1) (a_i a_b)) (a_i a_H))
  ·refine a_c ?_
   refine a_z ?_
   ·exact(v_b (j_m rfl rfl T.d1s rfl T.d1v (a_I (a_s (fv 1) (a_i a_b)) (a_I (b_L (fv 2) (a_i a_b)) (a_I (a_s (fv 1) (a_i a_b)) a_n)))))
  ·exact a_x
 refine a_a ?_ ?_
 ·refine a_E (i:=3) ?_ ?_ ?_ ?_ ?_ ?_<;>try walk_at "z"
  ·exact b_n.nd
  ·exact(a_s (fv 1) (a_i a_b))
 refine a_a ?_ ?_
 ·refine j_w (n:=100000) ?_ ?_ ?_
  ·exact PassesOwn.leaving
  ·exact(q_r (fv 3) (a_k (fcd hx G0 D0 hr (a_t (fv 0) (a_t (a_i a_b) a_g)))))
  ·unfold d_t
   refine a_c ?_
   refine a_E (i:=3) ?_ ?_ ?_ ?_ ?_ ?_<;>try walk_at "z"
   ·exact b_n.nd
   ·exact(b_L (fv 3) (a_i a_b))
 refine a_a ?_ ?_
 ·refine j_w (n:=100000) ?_ ?_ ?_
  ·exact PassesOwn.leaving
  ·exact(x_j (g_E (fv 3) (a_i a_b)) (a_k (fcd hx G0 D0 hr (a_t (fv 0) (a_t (a_i a_b) a_g)))))
  ·unfold d_p
   refine a_c ?_
   refine a_E (i:=3) ?_ ?_ ?_ ?_ ?_ ?_<;>try walk_at "z"
   ·exact b_n.nd
   ·exact(g_E (fv 3) (a_i a_b))
 refine a_a ?_ ?_
 ·refine j_a (i:=4) ?_ ?_ ?_ ?_ ?_ ?_<;>try walk_at "z"
  ·exact b_n.nd
  ·exact(l_4 a_n)
 refine a_a ?_ ?_
 ·refine g_G ?_ ?_ ?_ ?_ ?_ ?_<;>try walk_at "z"
  ·exact PassesOwn.leaving
  ·exact(e_A (e_I rfl T.d1v (a_I (b_L (fv 2) (a_i a_b)) a_n)))
  ·exact(fgn 5 b_n.nd)
  ·unfold c_g
   refine a_c ?_
   refine j_w (n:=100000) ?_ ?_ ?_
   ·exact PassesOwn.leaving
   ·exact(p_M (fv 3) (a_k (fcd hx G0 D0 hr (a_t (fv 0) (a_t (fv 5) a_g)))))
   ·unfold c_j
    refine a_a ?_ ?_
    ·refine m_z ?_ ?_ ?_ ?_ ?_ ?_ ?_ ?_<;>try walk_at "z"
     ·exact(pv 4)
     ·exact(fv 5)
    refine a_c ?_
    refine a_E (i:=3) ?_ ?_ ?_ ?_ ?_ ?_<;>try walk_at "z"
    ·exact b_n.nd
    ·exact(b_L (fv 3) (a_i a_b))
 refine a_c ?_
 refine x_R ?_
 ·exact(pv 4)
theorem e_0{C:Addr}{g:Addr}{fd:FuncData}(T:Tx P w K mg)(HC:HCx K mg C)(D:MD K C "step_behind_a_fall" "Hall.step_behind_a_fall" a_F ["self","runner","moment"] g fd):FnOk P w K mg base (CXM P w) 2 g fd ["self","runner","moment"] (spF K mg (a_P C)):=by
 obtain⟨g0,f0,D0⟩:=HC.d2f
 have G0:=f_e P w base T HC D0
 obtain⟨t_AGAIN,g_AGAIN⟩:=T.d1j
 refine c_0 D.fn b_r (by decide) ?_
 intro cdv A outer s H E F E' hr hx
 unfold a_2
 refine a_a ?_ ?_
 ·refine a_E (i:=3) ?_ ?_ ?_ ?_ ?_ ?_<;>try walk_at "z"
  ·exact b_r.nd
  ·exact(a_s (b_J HC.cl HC.d1z (pv 0)) (a_i a_b))
 refine a_a ?_ ?_
 ·refine a_E (i:=4) ?_ ?_ ?_ ?_ ?_ ?_<;>try walk_at "z"
  ·exact b_r.nd
  ·exact(m_Y (b_u (b_v (a_s (a_s (b_J HC.cl HC.d20 (pv 0)) (fv 3)) (a_i (b_e rfl g_AGAIN))))) (a_i a_H) (a_i a_H))
 refine a_c ?_
 refine b_g ?_
 ·exact(fmd hx HC.cl G0 D0 hr (pv 0) (a_t (b_I (a_I (fv 2) (a_I (fv 1) (a_I (fv 4) (a_I (fv 3) (a_I (a_s (b_J HC.cl HC.d1z (pv 0)) (a_i a_b)) a_n)))))) a_g))
theorem i_1{g:Addr}{fd:FuncData}(T:Tx P w K mg)(D:FD K mg "are_shifts" c_G ["thing"] g fd):FnOk P w K mg base (CXM P w) 3 g fd ["thing"] (spF K mg e_o):=by
 obtain⟨g0,f0,D0⟩:=T.d00
 have G0:=b_R P w base T D0
 obtain⟨g1,f1,D1⟩:=T.d01
 have G1:=d_A P w base T D1
 obtain⟨g2,f2,D2⟩:=T.d02
 have G2:=h_J P w base T D2
 obtain⟨t_LAST_MOMENT,g_LAST_MOMENT⟩:=T.d16
 obtain⟨t_MOST_SHIFTS,g_MOST_SHIFTS⟩:=T.d1a
 refine c_0 D.fn d_T (by decide) ?_
 intro cdv A outer s H E F E' hr hx
 unfold f_n
 refine a_a ?_ ?_
 ·refine b_c ?_ ?_ ?_
  ·exact(q_i (m_S (c_1 (b_u (b_v (i_y (c_k rfl T.d1q (fv 0) (e_q rfl T.d1x j_u rfl)))))) (k_z (r_s (g_2 h_m (b_V a_Z k_V rfl T.d1r PySem.boot_len (a_I (fv 0) a_n))) (a_i (b_e rfl g_MOST_SHIFTS))))))
  ·refine a_c ?_
   refine a_z ?_
   ·exact(a_i j_p)
  ·exact a_x
 refine a_a ?_ ?_
 ·refine a_E (i:=1) ?_ ?_ ?_ ?_ ?_ ?_<;>try walk_at "z"
  ·exact d_T.nd
  ·exact(a_i a_b)
 refine a_a ?_ ?_
 ·refine g_G ?_ ?_ ?_ ?_ ?_ ?_<;>try walk_at "z"
  ·exact PassesOwn.leaving
  ·exact(h_T (fv 0))
  ·exact(fgn 2 d_T.nd)
  ·unfold c_d
   refine a_a ?_ ?_
   ·refine b_c ?_ ?_ ?_
    ·exact(q_i (m_S (c_1 (b_u (b_v (a_k (fcd hx G1 D1 hr (a_t (fv 2) (a_t (a_i a_b) a_g))))))) (k_z (c_1 (b_u (b_v (a_k (fcd hx G2 D2 hr (a_t (a_s (fv 2) (a_i a_b)) a_g)))))))))
    ·refine a_c ?_
     refine a_z ?_
     ·exact(a_i j_p)
    ·exact a_x
   refine a_a ?_ ?_
   ·refine b_c ?_ ?_ ?_
    ·exact(c_1 (b_u (b_v (a_k (fcd hx G0 D0 hr (a_t (a_s (fv 2) (a_i a_b)) (a_t (fv 1) (a_t (a_i (b_e rfl g_LAST_MOMENT)) a_g))))))))
    ·refine a_c ?_
     refine a_z ?_
     ·exact(a_i j_p)
    ·exact a_x
   refine a_c ?_
   refine a_E (i:=1) ?_ ?_ ?_ ?_ ?_ ?_<;>try walk_at "z"
   ·exact d_T.nd
   ·exact(b_L (a_s (fv 2) (a_i a_b)) (a_i a_b))
 refine a_c ?_
 refine a_z ?_
 ·exact(a_i j_p)
theorem i_K{g:Addr}{fd:FuncData}(T:Tx P w K mg)(D:FD K mg "is_plan" e_J ["thing"] g fd):FnOk P w K mg base (CXM P w) 3 g fd ["thing"] (spF K mg d_7):=by
 obtain⟨g0,f0,D0⟩:=T.d08
 have G0:=f_0 P w base T D0
 obtain⟨g1,f1,D1⟩:=T.d03
 have G1:=h_n P w base T D1
 obtain⟨g2,f2,D2⟩:=T.d00
 have G2:=b_R P w base T D2
 obtain⟨t_LAST_HOUR,g_LAST_HOUR⟩:=T.d17
 obtain⟨t_MOST_STEP,g_MOST_STEP⟩:=T.d1b
 refine c_0 D.fn n_d (by decide) ?_
 intro cdv A outer s H E F E' hr hx
 unfold f_q
 refine a_a ?_ ?_
 ·refine b_c ?_ ?_ ?_
  ·exact(b_u (b_v (a_k (fcd hx G0 D0 hr (a_t (fv 0) (a_t (a_i a_H) (a_t (a_i a_b) a_g)))))))
  ·refine a_c ?_
   refine b_g ?_
   ·exact(fcd hx G1 D1 hr (a_t (a_s (fv 0) (a_i a_b)) a_g))
  ·exact a_x
 refine a_a ?_ ?_
 ·refine b_c ?_ ?_ ?_
  ·exact(b_u (b_v (a_k (fcd hx G0 D0 hr (a_t (fv 0) (a_t (a_i a_H) (a_t (a_i a_b) a_g)))))))
  ·refine a_c ?_
   refine a_z ?_
   ·exact(d_O (a_k (fcd hx G1 D1 hr (a_t (a_s (fv 0) (a_i a_b)) a_g))) (e_c (a_k (fcd hx G2 D2 hr (a_t (a_s (fv 0) (a_i a_b)) (a_t (a_i a_b) (a_t (a_i (b_e rfl g_MOST_STEP)) a_g)))))))
  ·exact a_x
 refine a_c ?_
 refine a_z ?_
 ·exact(d_O (a_k (fcd hx G0 D0 hr (a_t (fv 0) (a_t (a_i a_H) (a_t (a_i a_b) a_g))))) (e_c (a_k (fcd hx G2 D2 hr (a_t (a_s (fv 0) (a_i a_b)) (a_t (a_i a_b) (a_t (a_i (b_e rfl g_LAST_HOUR)) a_g)))))))
theorem m_7{g:Addr}{fd:FuncData}(T:Tx P w K mg)(D:FD K mg "is_late" e_P ["thing"] g fd):FnOk P w K mg base (CXM P w) 3 g fd ["thing"] (spF K mg e_K):=by
 obtain⟨g0,f0,D0⟩:=T.d08
 have G0:=f_0 P w base T D0
 obtain⟨g1,f1,D1⟩:=T.d00
 have G1:=b_R P w base T D1
 obtain⟨t_MOST_WITHIN,g_MOST_WITHIN⟩:=T.d1d
 refine c_0 D.fn m_Q (by decide) ?_
 intro cdv A outer s H E F E' hr hx
 unfold f_j
 refine a_a ?_ ?_
 ·refine b_c ?_ ?_ ?_
  ·exact(b_u (b_v (i_y (c_k rfl T.d1q (fv 0) (e_q rfl T.d1w r_i rfl)))))
  ·refine a_c ?_
   refine a_z ?_
   ·exact(s_A (l_N hr.units (fv 0) (a_i a_H)) (e_c (l_N hr.units (fv 0) (a_i a_H))))
  ·exact a_x
 refine a_c ?_
 refine a_z ?_
 ·exact(d_O (a_k (fcd hx G0 D0 hr (a_t (fv 0) (a_t (a_i a_H) (a_t (a_i a_b) a_g))))) (e_c (a_k (fcd hx G1 D1 hr (a_t (a_s (fv 0) (a_i a_b)) (a_t (a_i a_b) (a_t (a_i (b_e rfl g_MOST_WITHIN)) a_g)))))))
theorem h_0{g:Addr}{fd:FuncData}(T:Tx P w K mg)(D:FD K mg "check_moment" b_z ["thing"] g fd):FnOk P w K mg base (CXM P w) 3 g fd ["thing"] (spF K mg d_x):=by
 obtain⟨g0,f0,D0⟩:=T.d03
 have G0:=h_n P w base T D0
 obtain⟨DE_,xt⟩:=T.xt0
 obtain⟨C_NoMoment,E_NoMoment,_⟩:=xt.at_ (c:="NoMoment") (by decide +kernel)
 refine c_0 D.fn h_6 (by decide) ?_
 intro cdv A outer s H E F E' hr hx
 unfold e_s
 refine a_c ?_
 refine b_c ?_ ?_ ?_
 ·exact(c_1 (b_u (b_v (a_k (fcd hx G0 D0 hr (a_t (fv 0) a_g))))))
 ·refine a_c ?_
  exact(c_n hx hr.hd rfl E_NoMoment)
 ·exact a_x
theorem h_1{g:Addr}{fd:FuncData}(T:Tx P w K mg)(D:FD K mg "check_runner" b_w ["thing"] g fd):FnOk P w K mg base (CXM P w) 3 g fd ["thing"] (spF K mg d_D):=by
 obtain⟨g0,f0,D0⟩:=T.d04
 have G0:=k_a P w base T D0
 obtain⟨DE_,xt⟩:=T.xt0
 obtain⟨C_NoRunner,E_NoRunner,_⟩:=xt.at_ (c:="NoRunner") (by decide +kernel)
 refine c_0 D.fn h_Z (by decide) ?_
 intro cdv A outer s H E F E' hr hx
 unfold e_w
 refine a_c ?_
 refine b_c ?_ ?_ ?_
 ·exact(c_1 (b_u (b_v (a_k (fcd hx G0 D0 hr (a_t (fv 0) a_g))))))
 ·refine a_c ?_
  exact(c_n hx hr.hd rfl E_NoRunner)
 ·exact a_x
theorem i_9{g:Addr}{fd:FuncData}(T:Tx P w K mg)(D:FD K mg "check_term" c_J ["thing"] g fd):FnOk P w K mg base (CXM P w) 3 g fd ["thing"] (spF K mg e_g):=by
 obtain⟨g0,f0,D0⟩:=T.d05
 have G0:=n_j P w base T D0
 obtain⟨DE_,xt⟩:=T.xt0
 obtain⟨C_NoTerm,E_NoTerm,_⟩:=xt.at_ (c:="NoTerm") (by decide +kernel)
 refine c_0 D.fn j_x (by decide) ?_
 intro cdv A outer s H E F E' hr hx
 unfold f_c
 refine a_c ?_
 refine b_c ?_ ?_ ?_
 ·exact(c_1 (b_u (b_v (a_k (fcd hx G0 D0 hr (a_t (fv 0) a_g))))))
 ·refine a_c ?_
  exact(c_n hx hr.hd rfl E_NoTerm)
 ·exact a_x
theorem j_r{g:Addr}{fd:FuncData}(T:Tx P w K mg)(D:FD K mg "daily_time" c_w ["zone","hour","count"] g fd):FnOk P w K mg base (CXM P w) 3 g fd ["zone","hour","count"] (spF K mg e_e):=by
 obtain⟨g0,f0,D0⟩:=T.d0m
 have G0:=h_r P w base T D0
 obtain⟨g1,f1,D1⟩:=T.d0n
 have G1:=k_B P w base T D1
 obtain⟨t_DAY_HOURS,g_DAY_HOURS⟩:=T.d1g
 refine c_0 D.fn g_m (by decide) ?_
 intro cdv A outer s H E F E' hr hx
 unfold f_f
 refine a_a ?_ ?_
 ·refine a_E (i:=3) ?_ ?_ ?_ ?_ ?_ ?_<;>try walk_at "z"
  ·exact g_m.nd
  ·exact(b_L (a_k (fcd hx G1 D1 hr (a_t (fv 0) (a_t (fv 1) a_g)))) (fv 2))
 refine a_c ?_
 refine b_g ?_
 ·exact(fcd hx G0 D0 hr (a_t (fv 0) (a_t (b_L (k_r (fv 3) (a_i (b_e rfl g_DAY_HOURS))) (fv 1)) a_g)))
theorem i_7{g:Addr}{fd:FuncData}(T:Tx P w K mg)(D:FD K mg "check_call" c_u ["thing"] g fd):FnOk P w K mg base (CXM P w) 3 g fd ["thing"] (spF K mg a_N):=by
 obtain⟨g0,f0,D0⟩:=T.d08
 have G0:=f_0 P w base T D0
 obtain⟨t_LENGTHS,g_LENGTHS⟩:=T.d1k
 obtain⟨DE_,xt⟩:=T.xt0
 obtain⟨C_NoCall,E_NoCall,_⟩:=xt.at_ (c:="NoCall") (by decide +kernel)
 refine c_0 D.fn j_D (by decide) ?_
 intro cdv A outer s H E F E' hr hx
 unfold c_t
 refine a_c ?_
 refine b_c ?_ ?_ ?_
 ·exact(c_1 (b_u (b_v (g_2 v_D (b_V (n_B rfl) w_X rfl T.d1m v_v (a_I (h_Y hx.1 (CompScope.of (own:=["word"]) (capN:=["thing"]) (caps:=[0])) rfl rfl (r_R (kd:=[("take",4),("give",3),("step",3),("finish",3)]) rfl g_LENGTHS.1 g_LENGTHS.2) (fun _ _ _ _ _ _ hg=>⟨(fgn 0 (show((["word"]:List Str)++(["thing"]:List Str)).Nodup from by decide +kernel)),f_4,(a_k (fcd (xok0 hg) G0 D0 hr (a_t (fv 1) (a_t (fv 0) (a_t (s_C (kd:=[("take",4),("give",3),("step",3),("finish",3)]) rfl g_LENGTHS.1 g_LENGTHS.2 (fv 0)) a_g)))))⟩)) a_n))))))
 ·refine a_c ?_
  exact(c_n hx hr.hd rfl E_NoCall)
 ·exact a_x
theorem d_H{g:Addr}{fd:FuncData}(T:Tx P w K mg)(D:FD K mg "_law_draw" d_k ["_law_script","_law_town","_law_many"] g fd):FnOk P w K mg base (CXM P w) 3 g fd ["_law_script","_law_town","_law_many"] (spF K mg a_r):=by
 obtain⟨g0,f0,D0⟩:=T.d0x
 have G0:=j_O P w base T D0
 refine c_0 D.fn k_X (by decide) ?_
 intro cdv A outer s H E F E' hr hx
 unfold f_3
 refine a_a ?_ ?_
 ·refine m_z ?_ ?_ ?_ ?_ ?_ ?_ ?_ ?_<;>try walk_at "z"
  ·exact(pv 1)
  ·exact(a_i a_b)
 refine a_c ?_
 refine b_g ?_
 ·exact(fcd hx G0 D0 hr (c_Y (pv 0) (a_t (s_4 rfl T.d1r (pv 1)) (a_t (fv 2) a_g))))
theorem m_0{g:Addr}{fd:FuncData}(T:Tx P w K mg)(D:FD K mg "is_zone" e_C ["thing"] g fd):FnOk P w K mg base (CXM P w) 4 g fd ["thing"] (spF K mg g_F):=by
 obtain⟨g0,f0,D0⟩:=T.d01
 have G0:=d_A P w base T D0
 obtain⟨g1,f1,D1⟩:=T.d02
 have G1:=h_J P w base T D1
 obtain⟨g2,f2,D2⟩:=T.d06
 have G2:=i_1 P w base T D2
 refine c_0 D.fn m_X (by decide) ?_
 intro cdv A outer s H E F E' hr hx
 unfold h_W
 refine a_c ?_
 refine a_z ?_
 ·exact(d_O (a_k (fcd hx G0 D0 hr (a_t (fv 0) (a_t (a_i a_b) a_g)))) (d_O (a_k (fcd hx G1 D1 hr (a_t (a_s (fv 0) (a_i a_b)) a_g))) (e_c (a_k (fcd hx G2 D2 hr (a_t (a_s (fv 0) (a_i a_b)) a_g))))))
theorem m_U{g:Addr}{fd:FuncData}(T:Tx P w K mg)(D:FD K mg "is_deed" e_G ["thing"] g fd):FnOk P w K mg base (CXM P w) 4 g fd ["thing"] (spF K mg g_D):=by
 obtain⟨g0,f0,D0⟩:=T.d01
 have G0:=d_A P w base T D0
 obtain⟨g1,f1,D1⟩:=T.d09
 have G1:=i_K P w base T D1
 obtain⟨g2,f2,D2⟩:=T.d0a
 have G2:=m_7 P w base T D2
 refine c_0 D.fn m_K (by decide) ?_
 intro cdv A outer s H E F E' hr hx
 unfold h_F
 refine a_c ?_
 refine a_z ?_
 ·exact(d_O (a_k (fcd hx G0 D0 hr (a_t (fv 0) (a_t (a_i a_b) a_g)))) (d_O (a_k (fcd hx G1 D1 hr (a_t (a_s (fv 0) (a_i a_b)) a_g))) (d_O (a_k (fcd hx G2 D2 hr (a_t (a_s (fv 0) (a_i a_b)) a_g))) (e_c (i_y (c_k rfl T.d1q (a_s (fv 0) (a_i a_b)) (e_q rfl T.d1n o_y rfl)))))))
theorem j_t{g:Addr}{fd:FuncData}(T:Tx P w K mg)(D:FD K mg "check_plan" c_L ["thing"] g fd):FnOk P w K mg base (CXM P w) 4 g fd ["thing"] (spF K mg e_b):=by
 obtain⟨g0,f0,D0⟩:=T.d09
 have G0:=i_K P w base T D0
 obtain⟨DE_,xt⟩:=T.xt0
 obtain⟨C_NoPlan,E_NoPlan,_⟩:=xt.at_ (c:="NoPlan") (by decide +kernel)
 refine c_0 D.fn j_J (by decide) ?_
 intro cdv A outer s H E F E' hr hx
 unfold f_l
 refine a_c ?_
 refine b_c ?_ ?_ ?_
 ·exact(c_1 (b_u (b_v (a_k (fcd hx G0 D0 hr (a_t (fv 0) a_g))))))
 ·refine a_c ?_
  exact(c_n hx hr.hd rfl E_NoPlan)
 ·exact a_x
theorem g_S{g:Addr}{fd:FuncData}(T:Tx P w K mg)(D:FD K mg "time_of" e_H ["zone","plan","count"] g fd):FnOk P w K mg base (CXM P w) 4 g fd ["zone","plan","count"] (spF K mg b_s):=by
 obtain⟨g0,f0,D0⟩:=T.d0o
 have G0:=j_r P w base T D0
 refine c_0 D.fn m_P (by decide) ?_
 intro cdv A outer s H E F E' hr hx
 unfold e_O
 refine a_a ?_ ?_
 ·refine b_c ?_ ?_ ?_
  ·exact(e_8 hr.units (a_s (fv 1) (a_i a_b)) (a_i a_H))
  ·refine a_c ?_
   refine a_z ?_
   ·exact(m_Y (e_8 hr.units (fv 2) (a_i a_b)) (a_s (fv 1) (a_i a_b)) (a_i d_N))
  ·exact a_x
 refine a_a ?_ ?_
 ·refine b_c ?_ ?_ ?_
  ·exact(e_8 hr.units (a_s (fv 1) (a_i a_b)) (a_i a_H))
  ·refine a_c ?_
   refine a_z ?_
   ·exact(b_L (a_s (fv 1) (a_i a_b)) (k_r (fv 2) (a_s (fv 1) (a_i a_b))))
  ·exact a_x
 refine a_c ?_
 refine b_g ?_
 ·exact(fcd hx G0 D0 hr (a_t (fv 0) (a_t (a_s (fv 1) (a_i a_b)) (a_t (fv 2) a_g))))
theorem e_f{g:Addr}{fd:FuncData}(T:Tx P w K mg)(D:FD K mg "_law_pick" d_f ["_law_script","_law_town","_law_some"] g fd):FnOk P w K mg base (CXM P w) 4 g fd ["_law_script","_law_town","_law_some"] (spF K mg a_R):=by
 obtain⟨g0,f0,D0⟩:=T.d0y
 have G0:=d_H P w base T D0
 refine c_0 D.fn k_T (by decide) ?_
 intro cdv A outer s H E F E' hr hx
 unfold f_Y
 refine a_c ?_
 refine a_z ?_
 ·exact(a_s (fv 2) (a_k (fcd hx G0 D0 hr (c_Y (pv 0) (c_Y (pv 1) (a_t (g_2 h_m (b_V a_Z k_V rfl T.d1r PySem.boot_len (a_I (fv 2) a_n))) a_g))))))
theorem f_m{C:Addr}{g:Addr}{fd:FuncData}(T:Tx P w K mg)(HC:HCx K mg C)(D:MD K C "check_call" "Hall.check_call" b_B ["self","runner","moment"] g fd):FnOk P w K mg base (CXM P w) 4 g fd ["self","runner","moment"] (spF K mg (a_K C)):=by
 obtain⟨g0,f0,D0⟩:=T.d0h
 have G0:=h_1 P w base T D0
 obtain⟨g1,f1,D1⟩:=T.d0f
 have G1:=h_0 P w base T D1
 obtain⟨DE_,xt⟩:=T.xt0
 obtain⟨C_NoMoment,E_NoMoment,_⟩:=xt.at_ (c:="NoMoment") (by decide +kernel)
 refine c_0 D.fn h_I (by decide) ?_
 intro cdv A outer s H E F E' hr hx
 unfold d_B
 refine a_a ?_ ?_
 ·refine b_1 ?_ ?_
  ·exact(fcd hx G0 D0 hr (a_t (fv 1) a_g))
  ·rfl
 refine a_a ?_ ?_
 ·refine b_1 ?_ ?_
  ·exact(fcd hx G1 D1 hr (a_t (fv 2) a_g))
  ·rfl
 refine a_c ?_
 refine b_c ?_ ?_ ?_
 ·exact(q_i (m_D (l_Y (b_J HC.cl HC.d23 (pv 0)) (a_i d_N)) (i_6 (q_r (fv 2) (b_J HC.cl HC.d23 (pv 0))))))
 ·refine a_c ?_
  exact(c_n hx hr.hd rfl E_NoMoment)
 ·exact a_x
theorem j_X{g:Addr}{fd:FuncData}(T:Tx P w K mg)(D:FD K mg "are_deeds" d_n ["thing"] g fd):FnOk P w K mg base (CXM P w) 5 g fd ["thing"] (spF K mg f_9):=by
 obtain⟨g0,f0,D0⟩:=T.d0b
 have G0:=m_U P w base T D0
 obtain⟨t_MOST_DEEDS,g_MOST_DEEDS⟩:=T.d1c
 refine c_0 D.fn k_g (by decide) ?_
 intro cdv A outer s H E F E' hr hx
 unfold f_7
 refine a_a ?_ ?_
 ·refine b_c ?_ ?_ ?_
  ·exact(q_i (m_S (c_1 (b_u (b_v (i_y (c_k rfl T.d1q (fv 0) (e_q rfl T.d1x j_u rfl)))))) (k_z (r_s (g_2 h_m (b_V a_Z k_V rfl T.d1r PySem.boot_len (a_I (fv 0) a_n))) (a_i (b_e rfl g_MOST_DEEDS))))))
  ·refine a_c ?_
   refine a_z ?_
   ·exact(a_i j_p)
  ·exact a_x
 refine a_c ?_
 refine a_z ?_
 ·exact(g_2 t_T (b_V (n_3 rfl) x_Y rfl T.d1l u_v (a_I (h_Y hx.1 (CompScope.of (own:=["deed"]) (capN:=[]) (caps:=[])) rfl rfl (h_T (fv 0)) (fun _ _ _ _ _ _ hg=>⟨(fgn 0 (show((["deed"]:List Str)++([]:List Str)).Nodup from by decide +kernel)),f_4,(a_k (fcd (xok0 hg) G0 D0 hr (a_t (fv 0) a_g)))⟩)) a_n)))
theorem g_I{g:Addr}{fd:FuncData}(T:Tx P w K mg)(D:FD K mg "check_zone" c_I ["thing"] g fd):FnOk P w K mg base (CXM P w) 5 g fd ["thing"] (spF K mg b_j):=by
 obtain⟨g0,f0,D0⟩:=T.d07
 have G0:=m_0 P w base T D0
 obtain⟨DE_,xt⟩:=T.xt0
 obtain⟨C_NoZone,E_NoZone,_⟩:=xt.at_ (c:="NoZone") (by decide +kernel)
 refine c_0 D.fn i_0 (by decide) ?_
 intro cdv A outer s H E F E' hr hx
 unfold f_u
 refine a_c ?_
 refine b_c ?_ ?_ ?_
 ·exact(c_1 (b_u (b_v (a_k (fcd hx G0 D0 hr (a_t (fv 0) a_g))))))
 ·refine a_c ?_
  exact(c_n hx hr.hd rfl E_NoZone)
 ·exact a_x
theorem i_s{g:Addr}{fd:FuncData}(T:Tx P w K mg)(D:FD K mg "is_left_out" b_X ["zone","deed","count","now"] g fd):FnOk P w K mg base (CXM P w) 5 g fd ["zone","deed","count","now"] (spF K mg b_o):=by
 obtain⟨g0,f0,D0⟩:=T.d0p
 have G0:=g_S P w base T D0
 obtain⟨t_PLAN,g_PLAN⟩:=T.d1h
 obtain⟨t_LATE,g_LATE⟩:=T.d1i
 refine c_0 D.fn f_S (by decide) ?_
 intro cdv A outer s H E F E' hr hx
 unfold b_Z
 refine a_a ?_ ?_
 ·refine b_c ?_ ?_ ?_
  ·exact(e_8 hr.units (a_s (fv 1) (a_i (b_e rfl g_LATE))) (a_i a_H))
  ·refine a_c ?_
   refine a_z ?_
   ·exact(a_i j_p)
  ·exact a_x
 refine a_a ?_ ?_
 ·refine b_c ?_ ?_ ?_
  ·exact(e_8 hr.units (a_s (fv 1) (a_i (b_e rfl g_LATE))) (a_i a_H))
  ·refine a_a ?_ ?_
   ·refine a_E (i:=4) ?_ ?_ ?_ ?_ ?_ ?_<;>try walk_at "z"
    ·exact f_S.nd
    ·exact(a_k (fcd hx G0 D0 hr (a_t (fv 0) (a_t (a_s (fv 1) (a_i (b_e rfl g_PLAN))) (a_t (b_L (fv 2) (a_i a_b)) a_g)))))
   refine a_c ?_
   refine a_z ?_
   ·exact(d_O (l_d (fv 4) (a_i d_N)) (e_c (w_4 (fv 4) (fv 3))))
  ·exact a_x
 refine a_c ?_
 refine a_z ?_
 ·exact(x_q (g_E (fv 3) (a_k (fcd hx G0 D0 hr (a_t (fv 0) (a_t (a_s (fv 1) (a_i (b_e rfl g_PLAN))) (a_t (fv 2) a_g)))))) (a_s (a_s (fv 1) (a_i (b_e rfl g_LATE))) (a_i a_b)))
theorem k_y{g:Addr}{fd:FuncData}(T:Tx P w K mg)(D:FD K mg "_law_zone" d_b ["_law_script","_law_town","_law_wide"] g fd):FnOk P w K mg base (CXM P w) 5 g fd ["_law_script","_law_town","_law_wide"] (spF K mg d_4):=by
 obtain⟨g0,f0,D0⟩:=T.d0y
 have G0:=d_H P w base T D0
 obtain⟨g1,f1,D1⟩:=T.d0z
 have G1:=e_f P w base T D1
 refine c_0 D.fn c_B (by decide) ?_
 intro cdv A outer s H E F E' hr hx
 unfold f_2
 refine a_a ?_ ?_
 ·refine v_i ?_ ?_ ?_ ?_ ?_<;>try walk_at "z"
  ·exact(b_I (a_I (b_I a_n) (a_I (a_i a_b) a_n)))
  ·exact(m_y (n:=2) rfl (d_S (fgn 3 c_B.nd) (d_S (fgn 4 c_B.nd) j_U)))
 refine a_a ?_ ?_
 ·refine g_G ?_ ?_ ?_ ?_ ?_ ?_<;>try walk_at "z"
  ·exact PassesOwn.leaving
  ·exact(e_A (e_I rfl T.d1v (a_I (a_k (fcd hx G0 D0 hr (c_Y (pv 0) (c_Y (pv 1) (a_t (a_i a_b) a_g))))) a_n)))
  ·exact(fgn 5 c_B.nd)
  ·unfold c_X
   refine a_a ?_ ?_
   ·refine a_E (i:=4) ?_ ?_ ?_ ?_ ?_ ?_<;>try walk_at "z"
    ·exact c_B.nd
    ·exact(b_L (b_L (fv 4) (a_i a_b)) (a_k (fcd hx G0 D0 hr (c_Y (pv 0) (c_Y (pv 1) (a_t (fv 2) a_g))))))
   refine a_c ?_
   refine a_E (i:=3) ?_ ?_ ?_ ?_ ?_ ?_<;>try walk_at "z"
   ·exact c_B.nd
   ·exact(k_7 (fv 3) (b_I (a_I (b_I (a_I (fv 4) (a_I (a_k (fcd hx G1 D1 hr (c_Y (pv 0) (c_Y (pv 1) (a_t (d_E (a_I (a_i a_b) (a_I (a_i a_b) (a_I (a_i a_b) (a_I (k_f (a_i a_b)) (a_I (a_i a_b) (a_I (k_f (a_i a_b)) (a_I (a_i a_b) a_n)))))))) a_g))))) a_n))) a_n)))
 refine a_c ?_
 refine a_z ?_
 ·exact(b_I (a_I (a_k (fcd hx G1 D1 hr (c_Y (pv 0) (c_Y (pv 1) (a_t (d_E (a_I (a_i a_b) (a_I (a_i a_b) (a_I (a_i a_b) (a_I (k_f (a_i a_b)) (a_I (a_i a_b) (a_I (k_f (a_i a_b)) a_n))))))) a_g))))) (a_I (fv 3) a_n)))
theorem k_w{g:Addr}{fd:FuncData}(T:Tx P w K mg)(D:FD K mg "_law_plan" d_g ["_law_script","_law_town","_law_wide"] g fd):FnOk P w K mg base (CXM P w) 5 g fd ["_law_script","_law_town","_law_wide"] (spF K mg d_j):=by
 obtain⟨g0,f0,D0⟩:=T.d0y
 have G0:=d_H P w base T D0
 obtain⟨g1,f1,D1⟩:=T.d0z
 have G1:=e_f P w base T D1
 refine c_0 D.fn f_p (by decide) ?_
 intro cdv A outer s H E F E' hr hx
 unfold d_5
 refine a_a ?_ ?_
 ·refine a_E (i:=3) ?_ ?_ ?_ ?_ ?_ ?_<;>try walk_at "z"
  ·exact f_p.nd
  ·exact(a_k (fcd hx G0 D0 hr (c_Y (pv 0) (c_Y (pv 1) (a_t (a_i a_b) a_g)))))
 refine a_a ?_ ?_
 ·refine b_c ?_ ?_ ?_
  ·exact(e_8 hr.units (fv 3) (a_i a_b))
  ·refine a_c ?_
   refine a_z ?_
   ·exact(b_I (a_I (a_i a_H) (a_I (a_k (fcd hx G0 D0 hr (c_Y (pv 0) (c_Y (pv 1) (a_t (fv 2) a_g))))) a_n)))
  ·exact a_x
 refine a_a ?_ ?_
 ·refine b_c ?_ ?_ ?_
  ·exact(e_8 hr.units (fv 3) (a_i a_b))
  ·refine a_a ?_ ?_
   ·refine a_E (i:=4) ?_ ?_ ?_ ?_ ?_ ?_<;>try walk_at "z"
    ·exact f_p.nd
    ·exact(b_L (a_i a_b) (a_k (fcd hx G0 D0 hr (c_Y (pv 0) (c_Y (pv 1) (a_t (a_k (fcd hx G1 D1 hr (c_Y (pv 0) (c_Y (pv 1) (a_t (d_E (a_I (a_i a_b) (a_I (a_i a_b) (a_I (a_i a_b) a_n)))) a_g))))) a_g))))))
   refine a_c ?_
   refine a_z ?_
   ·exact(b_I (a_I (a_i a_H) (a_I (a_k (fcd hx G0 D0 hr (c_Y (pv 0) (c_Y (pv 1) (a_t (fv 2) a_g))))) (a_I (fv 4) a_n))))
  ·exact a_x
 refine a_c ?_
 refine a_z ?_
 ·exact(b_I (a_I (a_i a_H) (a_I (a_k (fcd hx G0 D0 hr (c_Y (pv 0) (c_Y (pv 1) (a_t (a_i a_b) a_g))))) a_n)))
theorem d_c{C:Addr}{g:Addr}{fd:FuncData}(T:Tx P w K mg)(HC:HCx K mg C)(D:MD K C "check_holder" "Hall.check_holder" a_6 ["self","runner","moment"] g fd):FnOk P w K mg base (CXM P w) 5 g fd ["self","runner","moment"] (spF K mg (a_j C)):=by
 obtain⟨g0,f0,D0⟩:=HC.d2b
 have G0:=f_m P w base T HC D0
 obtain⟨g1,f1,D1⟩:=HC.d2a
 have G1:=h_l P w base T HC D1
 obtain⟨DE_,xt⟩:=T.xt0
 obtain⟨C_NotHolder,E_NotHolder,_⟩:=xt.at_ (c:="NotHolder") (by decide +kernel)
 refine c_0 D.fn g_5 (by decide) ?_
 intro cdv A outer s H E F E' hr hx
 unfold b_t
 refine a_a ?_ ?_
 ·refine b_1 ?_ ?_
  ·exact(fmd hx HC.cl G0 D0 hr (pv 0) (a_t (fv 1) (a_t (fv 2) a_g)))
  ·rfl
 refine a_c ?_
 refine b_c ?_ ?_ ?_
 ·exact(q_i (m_S (c_1 (b_u (b_v (a_k (fmd hx HC.cl G1 D1 hr (pv 0) (a_t (fv 2) a_g)))))) (k_z (q_y hr.units (b_J HC.cl HC.d21 (pv 0)) (fv 1)))))
 ·refine a_c ?_
  exact(c_n hx hr.hd rfl E_NotHolder)
 ·exact a_x
theorem n_F{C:Addr}{g:Addr}{fd:FuncData}(T:Tx P w K mg)(HC:HCx K mg C)(D:MD K C "take" "Hall.take" f_F ["self","runner","moment","term"] g fd):FnOk P w K mg base (CXM P w) 5 g fd ["self","runner","moment","term"] (spF K mg (e_Q C)):=by
 obtain⟨g0,f0,D0⟩:=HC.d2b
 have G0:=f_m P w base T HC D0
 obtain⟨g1,f1,D1⟩:=T.d0i
 have G1:=i_9 P w base T D1
 obtain⟨g2,f2,D2⟩:=HC.d2a
 have G2:=h_l P w base T HC D2
 refine c_0 D.fn n_M (by decide) ?_
 intro cdv A outer s H E F E' hr hx
 unfold g_M
 refine a_a ?_ ?_
 ·refine b_1 ?_ ?_
  ·exact(fmd hx HC.cl G0 D0 hr (pv 0) (a_t (fv 1) (a_t (fv 2) a_g)))
  ·rfl
 refine a_a ?_ ?_
 ·refine b_1 ?_ ?_
  ·exact(fcd hx G1 D1 hr (a_t (fv 3) a_g))
  ·rfl
 refine a_a ?_ ?_
 ·refine d_M ?_ ?_ ?_ ?_ ?_
  ·exact HC.cl
  ·exact HC.d23
  ·exact(pv 0)
  ·exact(fv 2)
  ·rfl
 refine a_a ?_ ?_
 ·refine b_c ?_ ?_ ?_
  ·exact(c_1 (b_u (b_v (a_k (fmd hx HC.cl G2 D2 hr (pv 0) (a_t (fv 2) a_g))))))
  ·refine a_c ?_
   refine o_e ?_ ?_ ?_ ?_
   ·exact HC.cl
   ·exact HC.d22
   ·exact(pv 0)
   ·exact m_f
  ·refine a_c ?_
   refine b_c ?_ ?_ ?_
   ·exact(q_y hr.units (b_J HC.cl HC.d21 (pv 0)) (fv 1))
   ·refine a_c ?_
    refine a_z ?_
    ·exact(a_i j_p)
   ·exact a_x
 refine a_a ?_ ?_
 ·refine d_M ?_ ?_ ?_ ?_ ?_
  ·exact HC.cl
  ·exact HC.d21
  ·exact(pv 0)
  ·exact(fv 1)
  ·rfl
 refine a_a ?_ ?_
 ·refine d_M ?_ ?_ ?_ ?_ ?_
  ·exact HC.cl
  ·exact HC.d26
  ·exact(pv 0)
  ·exact(b_L (fv 2) (fv 3))
  ·rfl
 refine a_c ?_
 refine a_z ?_
 ·exact(a_i j_p)
theorem f_M{C:Addr}{g:Addr}{fd:FuncData}(T:Tx P w K mg)(HC:HCx K mg C)(D:MD K C "first_unsettled" "Hall.first_unsettled" a_S ["self"] g fd):FnOk P w K mg base (CXM P w) 5 g fd ["self"] (spF K mg (c_r C)):=by
 obtain⟨g0,f0,D0⟩:=T.d0p
 have G0:=g_S P w base T D0
 obtain⟨t_PLAN,g_PLAN⟩:=T.d1h
 refine c_0 D.fn a_U (by decide) ?_
 intro cdv A outer s H E F E' hr hx
 unfold d_8
 refine a_a ?_ ?_
 ·refine j_a (i:=1) ?_ ?_ ?_ ?_ ?_ ?_<;>try walk_at "z"
  ·exact a_U.nd
  ·exact(l_4 a_n)
 refine a_a ?_ ?_
 ·refine g_G ?_ ?_ ?_ ?_ ?_ ?_<;>try walk_at "z"
  ·exact PassesOwn.leaving
  ·exact(e_A (e_I rfl T.d1v (a_I (g_2 h_m (b_V a_Z k_V rfl T.d1r PySem.boot_len (a_I (b_J HC.cl HC.d20 (pv 0)) a_n))) a_n)))
  ·exact(fgn 2 a_U.nd)
  ·unfold a_y
   refine a_a ?_ ?_
   ·refine a_E (i:=3) ?_ ?_ ?_ ?_ ?_ ?_<;>try walk_at "z"
    ·exact a_U.nd
    ·exact(q_w HC.cl HC.d25 (pv 0) (pv 2))
   refine a_a ?_ ?_
   ·refine a_E (i:=4) ?_ ?_ ?_ ?_ ?_ ?_<;>try walk_at "z"
    ·exact a_U.nd
    ·exact(a_k (fcd hx G0 D0 hr (a_t (b_J HC.cl HC.d28 (pv 0)) (a_t (a_s (a_s (b_J HC.cl HC.d20 (pv 0)) (fv 2)) (a_i (b_e rfl g_PLAN))) (a_t (fv 3) a_g)))))
   refine a_c ?_
   refine b_c ?_ ?_ ?_
   ·exact(l_Y (fv 4) (a_i d_N))
   ·refine a_c ?_
    refine m_z ?_ ?_ ?_ ?_ ?_ ?_ ?_ ?_<;>try walk_at "z"
    ·exact(pv 1)
    ·exact(b_I (a_I (fv 4) (a_I (fv 2) (a_I (fv 3) a_n))))
   ·exact a_x
 refine a_c ?_
 refine a_z ?_
 ·exact(r_V (v_f hr) rfl rfl T.d1u (pv 1))
theorem i_n{g:Addr}{fd:FuncData}(T:Tx P w K mg)(D:FD K mg "check_deeds" b_U ["thing"] g fd):FnOk P w K mg base (CXM P w) 6 g fd ["thing"] (spF K mg b_q):=by
 obtain⟨g0,f0,D0⟩:=T.d0c
 have G0:=j_X P w base T D0
 obtain⟨DE_,xt⟩:=T.xt0
 obtain⟨C_NoDeeds,E_NoDeeds,_⟩:=xt.at_ (c:="NoDeeds") (by decide +kernel)
 refine c_0 D.fn i_r (by decide) ?_
 intro cdv A outer s H E F E' hr hx
 unfold e_X
 refine a_c ?_
 refine b_c ?_ ?_ ?_
 ·exact(c_1 (b_u (b_v (a_k (fcd hx G0 D0 hr (a_t (fv 0) a_g))))))
 ·refine a_c ?_
  exact(c_n hx hr.hd rfl E_NoDeeds)
 ·exact a_x
theorem l_t{C:Addr}{g:Addr}{fd:FuncData}(T:Tx P w K mg)(HC:HCx K mg C)(D:FD K mg "lateness" d_X ["hall","zone","plan","deed"] g fd):FnOk P w K mg base (CXM P w) 6 g fd ["hall","zone","plan","deed"] (spF K mg (e_E C)):=by
 obtain⟨g0,f0,D0⟩:=T.d0d
 have G0:=g_I P w base T D0
 obtain⟨g1,f1,D1⟩:=T.d0e
 have G1:=j_t P w base T D1
 obtain⟨g2,f2,D2⟩:=T.d00
 have G2:=b_R P w base T D2
 obtain⟨g3,f3,D3⟩:=HC.d2m
 have G3:=m_F P w base T HC D3
 obtain⟨g4,f4,D4⟩:=T.d0p
 have G4:=g_S P w base T D4
 obtain⟨DE_,xt⟩:=T.xt0
 obtain⟨C_NoDeed,E_NoDeed,_⟩:=xt.at_ (c:="NoDeed") (by decide +kernel)
 refine c_0 D.fn l_O (by decide) ?_
 intro cdv A outer s H E F E' hr hx
 unfold g_7
 refine a_a ?_ ?_
 ·refine b_1 ?_ ?_
  ·exact(fcd hx G0 D0 hr (a_t (fv 1) a_g))
  ·rfl
 refine a_a ?_ ?_
 ·refine b_1 ?_ ?_
  ·exact(fcd hx G1 D1 hr (a_t (fv 2) a_g))
  ·rfl
 refine a_a ?_ ?_
 ·refine b_c ?_ ?_ ?_
  ·exact(c_1 (b_u (b_v (a_k (fcd hx G2 D2 hr (a_t (fv 3) (a_t (a_i a_b) (a_t (g_E (g_2 h_m (b_V a_Z k_V rfl T.d1r PySem.boot_len (a_I (b_J HC.cl HC.d20 (pv 0)) a_n))) (a_i a_b)) a_g))))))))
  ·refine a_c ?_
   exact(c_n hx hr.hd rfl E_NoDeed)
  ·exact a_x
 refine a_c ?_
 refine a_z ?_
 ·exact(h_Y hx.1 (CompScope.of (own:=["row"]) (capN:=["zone","plan","deed"]) (caps:=[1,2,3])) rfl rfl (j_k (a_k (fmd0 hx HC.cl G3 D3 hr (pv 0)))) (fun _ _ _ _ _ _ hg=>⟨(fgn 0 (show((["row"]:List Str)++(["zone","plan","deed"]:List Str)).Nodup from by decide +kernel)),(l_a (q_i (m_D (e_8 hr.units (a_s (fv 0) (a_i a_b)) (a_i a_H)) (i_6 (e_8 hr.units (a_s (fv 0) (a_i a_b)) (fv 3)))))),(g_E (a_s (fv 0) (a_i a_b)) (a_k (fcd (xok0 hg) G4 D4 hr (a_t (fv 1) (a_t (fv 2) (a_t (a_s (fv 0) (a_i a_b)) a_g))))))⟩))
theorem j_G{g:Addr}{fd:FuncData}(T:Tx P w K mg)(D:FD K mg "_law_deeds" c_x ["_law_script","_law_town","_law_most","_law_wide"] g fd):FnOk P w K mg base (CXM P w) 6 g fd ["_law_script","_law_town","_law_most","_law_wide"] (spF K mg e_m):=by
 obtain⟨g0,f0,D0⟩:=T.d0y
 have G0:=d_H P w base T D0
 obtain⟨g1,f1,D1⟩:=T.d0z
 have G1:=e_f P w base T D1
 obtain⟨g2,f2,D2⟩:=T.d12
 have G2:=k_w P w base T D2
 refine c_0 D.fn b_p (by decide) ?_
 intro cdv A outer s H E F E' hr hx
 unfold f_t
 refine a_a ?_ ?_
 ·refine a_E (i:=4) ?_ ?_ ?_ ?_ ?_ ?_<;>try walk_at "z"
  ·exact b_p.nd
  ·exact(b_I a_n)
 refine a_a ?_ ?_
 ·refine g_G ?_ ?_ ?_ ?_ ?_ ?_<;>try walk_at "z"
  ·exact PassesOwn.leaving
  ·exact(e_A (e_I rfl T.d1v (a_I (a_k (fcd hx G0 D0 hr (c_Y (pv 0) (c_Y (pv 1) (a_t (b_L (fv 2) (a_i a_b)) a_g))))) a_n)))
  ·exact(fgn 5 b_p.nd)
  ·unfold c_i
   refine a_a ?_ ?_
   ·refine a_E (i:=6) ?_ ?_ ?_ ?_ ?_ ?_<;>try walk_at "z"
    ·exact b_p.nd
    ·exact(a_k (fcd hx G0 D0 hr (c_Y (pv 0) (c_Y (pv 1) (a_t (a_i a_b) a_g)))))
   refine a_a ?_ ?_
   ·refine a_E (i:=7) ?_ ?_ ?_ ?_ ?_ ?_<;>try walk_at "z"
    ·exact b_p.nd
    ·exact(a_k (fcd hx G1 D1 hr (c_Y (pv 0) (c_Y (pv 1) (a_t (d_E (a_I (a_i a_H) (a_I (a_i a_H) (a_I (a_i a_H) (a_I (b_I (a_I (a_i a_H) (a_I (fv 6) a_n))) a_n))))) a_g)))))
   refine a_a ?_ ?_
   ·refine a_E (i:=8) ?_ ?_ ?_ ?_ ?_ ?_<;>try walk_at "z"
    ·exact b_p.nd
    ·exact(l_N hr.units (a_k (fcd hx G0 D0 hr (c_Y (pv 0) (c_Y (pv 1) (a_t (a_i a_b) a_g))))) (a_i a_b))
   refine a_c ?_
   refine a_E (i:=4) ?_ ?_ ?_ ?_ ?_ ?_<;>try walk_at "z"
   ·exact b_p.nd
   ·exact(k_7 (fv 4) (b_I (a_I (b_I (a_I (a_k (fcd hx G2 D2 hr (c_Y (pv 0) (c_Y (pv 1) (a_t (fv 3) a_g))))) (a_I (fv 7) (a_I (fv 8) a_n)))) a_n)))
 refine a_c ?_
 refine a_z ?_
 ·exact(fv 4)
theorem n_7{C:Addr}{g:Addr}{fd:FuncData}(T:Tx P w K mg)(HC:HCx K mg C)(D:MD K C "give" "Hall.give" f_B ["self","runner","moment"] g fd):FnOk P w K mg base (CXM P w) 6 g fd ["self","runner","moment"] (spF K mg (e_l C)):=by
 obtain⟨g0,f0,D0⟩:=HC.d2c
 have G0:=d_c P w base T HC D0
 refine c_0 D.fn n_9 (by decide) ?_
 intro cdv A outer s H E F E' hr hx
 unfold h_w
 refine a_a ?_ ?_
 ·refine b_1 ?_ ?_
  ·exact(fmd hx HC.cl G0 D0 hr (pv 0) (a_t (fv 1) (a_t (fv 2) a_g)))
  ·rfl
 refine a_a ?_ ?_
 ·refine d_M ?_ ?_ ?_ ?_ ?_
  ·exact HC.cl
  ·exact HC.d23
  ·exact(pv 0)
  ·exact(fv 2)
  ·rfl
 refine a_c ?_
 refine d_M ?_ ?_ ?_ ?_ ?_
 ·exact HC.cl
 ·exact HC.d21
 ·exact(pv 0)
 ·exact(a_i d_N)
 ·rfl
theorem h_R{C:Addr}{g:Addr}{fd:FuncData}(T:Tx P w K mg)(HC:HCx K mg C)(D:MD K C "step_ahead" "Hall.step_ahead" b_A ["self","runner","moment"] g fd):FnOk P w K mg base (CXM P w) 6 g fd ["self","runner","moment"] (spF K mg (a_9 C)):=by
 obtain⟨g0,f0,D0⟩:=HC.d2h
 have G0:=f_M P w base T HC D0
 obtain⟨g1,f1,D1⟩:=HC.d2f
 have G1:=f_e P w base T HC D1
 obtain⟨g2,f2,D2⟩:=T.d0r
 have G2:=i_s P w base T D2
 refine c_0 D.fn b_S (by decide) ?_
 intro cdv A outer s H E F E' hr hx
 unfold b_F
 refine a_a ?_ ?_
 ·refine a_E (i:=3) ?_ ?_ ?_ ?_ ?_ ?_<;>try walk_at "z"
  ·exact b_S.nd
  ·exact(a_k (fmd0 hx HC.cl G0 D0 hr (pv 0)))
 refine a_a ?_ ?_
 ·refine b_c ?_ ?_ ?_
  ·exact(v_Y (fv 3) (a_i d_N))
  ·refine a_c ?_
   refine a_z ?_
   ·exact(b_I (a_I (a_i a_H) (a_I (a_i d_N) a_n)))
  ·exact a_x
 refine a_a ?_ ?_
 ·refine b_c ?_ ?_ ?_
  ·exact(r_s (a_s (fv 3) (a_i a_b)) (fv 2))
  ·refine a_c ?_
   refine a_z ?_
   ·exact(b_I (a_I (a_i a_H) (a_I (a_s (fv 3) (a_i a_b)) a_n)))
  ·exact a_x
 refine a_a ?_ ?_
 ·refine a_E (i:=4) ?_ ?_ ?_ ?_ ?_ ?_<;>try walk_at "z"
  ·exact b_S.nd
  ·exact(a_s (fv 3) (a_i a_b))
 refine a_a ?_ ?_
 ·refine a_E (i:=5) ?_ ?_ ?_ ?_ ?_ ?_<;>try walk_at "z"
  ·exact b_S.nd
  ·exact(a_s (fv 3) (a_i a_b))
 refine a_a ?_ ?_
 ·refine a_E (i:=6) ?_ ?_ ?_ ?_ ?_ ?_<;>try walk_at "z"
  ·exact b_S.nd
  ·exact(m_Y (b_u (b_v (a_k (fcd hx G2 D2 hr (a_t (b_J HC.cl HC.d28 (pv 0)) (a_t (a_s (b_J HC.cl HC.d20 (pv 0)) (fv 4)) (a_t (fv 5) (a_t (fv 2) a_g)))))))) (a_i a_H) (a_i a_H))
 refine a_c ?_
 refine b_g ?_
 ·exact(fmd hx HC.cl G1 D1 hr (pv 0) (a_t (b_I (a_I (fv 2) (a_I (fv 1) (a_I (fv 6) (a_I (fv 4) (a_I (fv 5) a_n)))))) a_g))
theorem l_G{C:Addr}{g:Addr}{fd:FuncData}(T:Tx P w K mg)(HC:HCx K mg C)(D:MD K C "finish" "Hall.finish" d_W ["self","runner","moment"] g fd):FnOk P w K mg base (CXM P w) 6 g fd ["self","runner","moment"] (spF K mg (b_C C)):=by
 obtain⟨g0,f0,D0⟩:=HC.d2c
 have G0:=d_c P w base T HC D0
 obtain⟨g1,f1,D1⟩:=HC.d2f
 have G1:=f_e P w base T HC D1
 obtain⟨g2,f2,D2⟩:=HC.d2g
 have G2:=h_e P w base T HC D2
 obtain⟨DE_,xt⟩:=T.xt0
 obtain⟨C_Nothing,E_Nothing,_⟩:=xt.at_ (c:="Nothing") (by decide +kernel)
 refine c_0 D.fn l_j (by decide) ?_
 intro cdv A outer s H E F E' hr hx
 unfold e_N
 refine a_a ?_ ?_
 ·refine b_1 ?_ ?_
  ·exact(fmd hx HC.cl G0 D0 hr (pv 0) (a_t (fv 1) (a_t (fv 2) a_g)))
  ·rfl
 refine a_a ?_ ?_
 ·refine b_c ?_ ?_ ?_
  ·exact(c_1 (b_u (b_v (a_k (fmd0 hx HC.cl G2 D2 hr (pv 0))))))
  ·refine a_c ?_
   exact(c_n hx hr.hd rfl E_Nothing)
  ·exact a_x
 refine a_a ?_ ?_
 ·refine d_M ?_ ?_ ?_ ?_ ?_
  ·exact HC.cl
  ·exact HC.d23
  ·exact(pv 0)
  ·exact(fv 2)
  ·rfl
 refine a_c ?_
 refine b_g ?_
 ·exact(fmd hx HC.cl G1 D1 hr (pv 0) (a_t (b_I (a_I (fv 2) (a_I (fv 1) (a_I (a_i a_H) (a_I (a_s (b_J HC.cl HC.d1z (pv 0)) (a_i a_b)) (a_I (a_s (b_J HC.cl HC.d1z (pv 0)) (a_i a_b)) a_n)))))) a_g))
theorem j_y{C:Addr}{g:Addr}{fd:FuncData}(T:Tx P w K mg)(HC:HCx K mg C)(D:MD K C "__init__" "Hall.__init__" c_y ["self","zone","deeds"] g fd):FnOk P w K mg base (CXM P w) 7 g fd ["self","zone","deeds"] (spF K mg (e_i C)):=by
 obtain⟨g0,f0,D0⟩:=T.d0d
 have G0:=g_I P w base T D0
 obtain⟨g1,f1,D1⟩:=T.d0g
 have G1:=i_n P w base T D1
 refine c_0 D.fn j_z (by decide) ?_
 intro cdv A outer s H E F E' hr hx
 unfold f_d
 refine a_a ?_ ?_
 ·refine b_1 ?_ ?_
  ·exact(fcd hx G0 D0 hr (a_t (fv 1) a_g))
  ·rfl
 refine a_a ?_ ?_
 ·refine b_1 ?_ ?_
  ·exact(fcd hx G1 D1 hr (a_t (fv 2) a_g))
  ·rfl
 refine a_a ?_ ?_
 ·refine d_M ?_ ?_ ?_ ?_ ?_
  ·exact HC.cl
  ·exact HC.d28
  ·exact(pv 0)
  ·exact(fv 1)
  ·rfl
 refine a_a ?_ ?_
 ·refine d_M ?_ ?_ ?_ ?_ ?_
  ·exact HC.cl
  ·exact HC.d20
  ·exact(pv 0)
  ·exact(fv 2)
  ·rfl
 refine a_a ?_ ?_
 ·refine d_M ?_ ?_ ?_ ?_ ?_
  ·exact HC.cl
  ·exact HC.d23
  ·exact(pv 0)
  ·exact(a_i d_N)
  ·rfl
 refine a_a ?_ ?_
 ·refine d_M ?_ ?_ ?_ ?_ ?_
  ·exact HC.cl
  ·exact HC.d21
  ·exact(pv 0)
  ·exact(a_i d_N)
  ·rfl
 refine a_a ?_ ?_
 ·refine d_M ?_ ?_ ?_ ?_ ?_
  ·exact HC.cl
  ·exact HC.d26
  ·exact(pv 0)
  ·exact(a_i a_b)
  ·rfl
 refine a_a ?_ ?_
 ·refine d_M ?_ ?_ ?_ ?_ ?_
  ·exact HC.cl
  ·exact HC.d22
  ·exact(pv 0)
  ·exact(a_i a_b)
  ·rfl
 refine a_a ?_ ?_
 ·refine d_M ?_ ?_ ?_ ?_ ?_
  ·exact HC.cl
  ·exact HC.d1z
  ·exact(pv 0)
  ·exact(a_i d_N)
  ·rfl
 refine a_a ?_ ?_
 ·refine o_j ?_ ?_ ?_ ?_
  ·exact HC.cl
  ·exact HC.d24
  ·exact(pv 0)
  ·rfl
 refine a_a ?_ ?_
 ·refine o_K ?_ ?_ ?_ ?_
  ·exact HC.cl
  ·exact HC.d27
  ·exact(pv 0)
  ·rfl
 refine a_c ?_
 refine m_1 (own:=["deed"]) (capN:=[]) (caps:=[]) ?_ ?_ ?_ ?_ ?_ ?_ ?_ ?_ ?_ ?_ ?_<;>try walk_at "z"
 ·exact HC.cl
 ·exact HC.d25
 ·exact(pv 0)
 ·exact hx.1
 ·exact(CompScope.of (own:=["deed"]) (capN:=[]) (caps:=[]))
 ·exact(h_T (fv 2))
 ·exact(fun _ _ _ _ _ _ hg=>⟨(fgn 0 (show((["deed"]:List Str)++([]:List Str)).Nodup from by decide +kernel)),f_4,(a_i a_b)⟩)
theorem o_6{C:Addr}{g:Addr}{fd:FuncData}(T:Tx P w K mg)(HC:HCx K mg C)(D:MD K C "step" "Hall.step" f_L ["self","runner","moment"] g fd):FnOk P w K mg base (CXM P w) 7 g fd ["self","runner","moment"] (spF K mg (d_s C)):=by
 obtain⟨g0,f0,D0⟩:=HC.d2c
 have G0:=d_c P w base T HC D0
 obtain⟨g1,f1,D1⟩:=HC.d2g
 have G1:=h_e P w base T HC D1
 obtain⟨g2,f2,D2⟩:=HC.d2k
 have G2:=h_R P w base T HC D2
 obtain⟨g3,f3,D3⟩:=HC.d2j
 have G3:=e_0 P w base T HC D3
 refine c_0 D.fn o_X (by decide) ?_
 intro cdv A outer s H E F E' hr hx
 unfold f_K
 refine a_a ?_ ?_
 ·refine b_1 ?_ ?_
  ·exact(fmd hx HC.cl G0 D0 hr (pv 0) (a_t (fv 1) (a_t (fv 2) a_g)))
  ·rfl
 refine a_a ?_ ?_
 ·refine d_M ?_ ?_ ?_ ?_ ?_
  ·exact HC.cl
  ·exact HC.d23
  ·exact(pv 0)
  ·exact(fv 2)
  ·rfl
 refine a_a ?_ ?_
 ·refine b_c ?_ ?_ ?_
  ·exact(b_u (b_v (a_k (fmd0 hx HC.cl G1 D1 hr (pv 0)))))
  ·refine a_c ?_
   refine a_z ?_
   ·exact(b_I (a_I (a_i a_H) (a_I (a_s (b_J HC.cl HC.d1z (pv 0)) (a_i a_b)) (a_I (a_s (b_J HC.cl HC.d1z (pv 0)) (a_i a_b)) a_n))))
  ·exact a_x
 refine a_a ?_ ?_
 ·refine b_c ?_ ?_ ?_
  ·exact(l_Y (b_J HC.cl HC.d1z (pv 0)) (a_i d_N))
  ·refine a_c ?_
   refine b_g ?_
   ·exact(fmd hx HC.cl G3 D3 hr (pv 0) (a_t (fv 1) (a_t (fv 2) a_g)))
  ·exact a_x
 refine a_c ?_
 refine b_g ?_
 ·exact(fmd hx HC.cl G2 D2 hr (pv 0) (a_t (fv 1) (a_t (fv 2) a_g)))
theorem v_4{C:Addr}{g:Addr}{fd:FuncData}(T:Tx P w K mg)(HC:HCx K mg C)(D:FD K mg "ask" m_5 ["hall","call"] g fd):FnOk P w K mg base (CXM P w) 8 g fd ["hall","call"] (spF K mg (f_a C)):=by
 obtain⟨g0,f0,D0⟩:=HC.d2l
 have G0:=l_G P w base T HC D0
 obtain⟨g1,f1,D1⟩:=HC.d2d
 have G1:=n_F P w base T HC D1
 obtain⟨g2,f2,D2⟩:=HC.d2e
 have G2:=n_7 P w base T HC D2
 obtain⟨g3,f3,D3⟩:=HC.d2i
 have G3:=o_6 P w base T HC D3
 refine c_0 D.fn t_H (by decide) ?_
 intro cdv A outer s H E F E' hr hx
 unfold j_M
 refine a_a ?_ ?_
 ·refine b_c ?_ ?_ ?_
  ·exact(e_8 hr.units (a_s (fv 1) (a_i a_b)) (a_i a_H))
  ·refine a_c ?_
   refine b_g ?_
   ·exact(fmd hx HC.cl G1 D1 hr (pv 0) (a_t (a_s (fv 1) (a_i a_b)) (a_t (a_s (fv 1) (a_i a_b)) (a_t (a_s (fv 1) (a_i a_b)) a_g))))
  ·exact a_x
 refine a_a ?_ ?_
 ·refine b_c ?_ ?_ ?_
  ·exact(e_8 hr.units (a_s (fv 1) (a_i a_b)) (a_i a_H))
  ·refine a_c ?_
   refine b_g ?_
   ·exact(fmd hx HC.cl G2 D2 hr (pv 0) (a_t (a_s (fv 1) (a_i a_b)) (a_t (a_s (fv 1) (a_i a_b)) a_g)))
  ·exact a_x
 refine a_a ?_ ?_
 ·refine b_c ?_ ?_ ?_
  ·exact(e_8 hr.units (a_s (fv 1) (a_i a_b)) (a_i a_H))
  ·refine a_c ?_
   refine b_g ?_
   ·exact(fmd hx HC.cl G3 D3 hr (pv 0) (a_t (a_s (fv 1) (a_i a_b)) (a_t (a_s (fv 1) (a_i a_b)) a_g)))
  ·exact a_x
 refine a_c ?_
 refine b_g ?_
 ·exact(fmd hx HC.cl G0 D0 hr (pv 0) (a_t (a_s (fv 1) (a_i a_b)) (a_t (a_s (fv 1) (a_i a_b)) a_g)))
theorem x_n{C:Addr}{g:Addr}{fd:FuncData}(T:Tx P w K mg)(HC:HCx K mg C)(D:FD K mg "do" t_q ["hall","call"] g fd):FnOk P w K mg base (CXM P w) 9 g fd ["hall","call"] (spF K mg (r_Q C)):=by
 obtain⟨g0,f0,D0⟩:=T.d0s
 have G0:=i_7 P w base T D0
 obtain⟨g1,f1,D1⟩:=T.d0t
 have G1:=v_4 P w base T HC D1
 obtain⟨DE_,xt⟩:=T.xt0
 refine c_0 D.fn w_I (by decide) ?_
 intro cdv A outer s H E F E' hr hx
 unfold w_o
 refine a_a ?_ ?_
 ·refine b_1 ?_ ?_
  ·exact(fcd hx G0 D0 hr (a_t (fv 1) a_g))
  ·rfl
 refine a_c ?_
 refine s_i (D:=DE_) ?_ ?_ ?_ ?_ ?_ ?_ ?_<;>try walk_at "z"
 ·exact hx.1
 ·intro F1 pn1 xe1 E1 hx1 hp1
  refine a_c ?_
  refine b_g ?_
  ·exact(fcd hx1 G1 D1 hr (c_Y (pv 0) (a_t (fv 1) a_g)))
 ·intro F1 e1 pn1 xe1 hg1
  refine a_c ?_
  refine a_z ?_
  ·exact(a_i a_H)
theorem u_E{C:Addr}{g:Addr}{fd:FuncData}(T:Tx P w K mg)(HC:HCx K mg C)(D:FD K mg "run" m_6 ["zone","deeds","calls"] g fd):FnOk P w K mg base (CXM P w) 10 g fd ["zone","deeds","calls"] (spF K mg (p_G C)):=by
 obtain⟨g0,f0,D0⟩:=HC.d29
 have G0:=j_y P w base T HC D0
 obtain⟨g1,f1,D1⟩:=T.d0u
 have G1:=x_n P w base T HC D1
 obtain⟨DE_,xt⟩:=T.xt0
 obtain⟨C_NoCall,E_NoCall,_⟩:=xt.at_ (c:="NoCall") (by decide +kernel)
 refine c_0 D.fn q_6 (by decide) ?_
 intro cdv A outer s H E F E' hr hx
 unfold s_z
 refine a_a ?_ ?_
 ·refine j_a (i:=3) ?_ ?_ ?_ ?_ ?_ ?_<;>try walk_at "z"
  ·exact q_6.nd
  ·exact(r_J hx (HC.make D0.mt) G0 (hr.mono (by decide)) rfl HC.mg D0.b (a_I (fv 0) (a_I (fv 1) a_n)))
 refine a_a ?_ ?_
 ·refine b_c ?_ ?_ ?_
  ·exact(c_1 (b_u (b_v (i_y (c_k rfl T.d1q (fv 2) (e_q rfl T.d1s o_M rfl))))))
  ·refine a_c ?_
   exact(c_n hx hr.hd rfl E_NoCall)
  ·exact a_x
 refine a_c ?_
 refine b_g ?_
 ·exact(p_n (C:=C) (pv 3) (p_0 (k:=0) (jm:=3) hx.1 (CompScope.of (own:=["call"]) (capN:=["hall"]) (caps:=[3])) rfl rfl rfl (j_k (fv 2)) (fun _ _ _ _ _ _ hg=>⟨(fgn 0 (show((["call"]:List Str)++(["hall"]:List Str)).Nodup from by decide +kernel)),f_4,(a_k (fcd (xok0 hg) G1 D1 hr (c_Y (pv 1) (a_t (fv 0) a_g))))⟩)))
theorem i_q{C:Addr}{g:Addr}{fd:FuncData}(T:Tx P w K mg)(HC:HCx K mg C)(D:FD K mg "_law_called" b_W ["_law_script","_law_town","_law_zone_here","_law_deeds_here","_law_most"] g fd):FnOk P w K mg base (CXM P w) 11 g fd ["_law_script","_law_town","_law_zone_here","_law_deeds_here","_law_most"] (spF K mg (c_U C)):=by
 obtain⟨g0,f0,D0⟩:=T.d0v
 have G0:=u_E P w base T HC D0
 obtain⟨g1,f1,D1⟩:=T.d0y
 have G1:=d_H P w base T D1
 obtain⟨g2,f2,D2⟩:=T.d0z
 have G2:=e_f P w base T D2
 refine c_0 D.fn a_Y (by decide) ?_
 intro cdv A outer s H E F E' hr hx
 unfold e_S
 refine a_a ?_ ?_
 ·exact(r_Y (i:=5) (j:=6) rfl a_Y.nd rfl rfl (by decide) rfl rfl (l_4 a_n))
 refine a_a ?_ ?_
 ·refine g_G ?_ ?_ ?_ ?_ ?_ ?_<;>try walk_at "z"
  ·exact PassesOwn.leaving
  ·exact(e_A (e_I rfl T.d1v (a_I (a_k (fcd hx G1 D1 hr (c_Y (pv 0) (c_Y (pv 1) (a_t (b_L (fv 4) (a_i a_b)) a_g))))) a_n)))
  ·exact(fgn 7 a_Y.nd)
  ·unfold b_f
   refine a_a ?_ ?_
   ·refine a_E (i:=6) ?_ ?_ ?_ ?_ ?_ ?_<;>try walk_at "z"
    ·exact a_Y.nd
    ·exact(b_L (fv 6) (a_k (fcd hx G1 D1 hr (c_Y (pv 0) (c_Y (pv 1) (a_t (a_k (fcd hx G2 D2 hr (c_Y (pv 0) (c_Y (pv 1) (a_t (d_E (a_I (a_i a_b) (a_I (a_i a_b) (a_I (a_i a_b) a_n)))) a_g))))) a_g))))))
   refine a_a ?_ ?_
   ·refine a_E (i:=8) ?_ ?_ ?_ ?_ ?_ ?_<;>try walk_at "z"
    ·exact a_Y.nd
    ·exact(a_k (fcd hx G1 D1 hr (c_Y (pv 0) (c_Y (pv 1) (a_t (a_k (fcd hx G2 D2 hr (c_Y (pv 0) (c_Y (pv 1) (a_t (d_E (a_I (a_i a_b) (a_I (a_i a_b) (a_I (a_i a_b) a_n)))) a_g))))) a_g)))))
   refine a_a ?_ ?_
   ·refine a_E (i:=9) ?_ ?_ ?_ ?_ ?_ ?_<;>try walk_at "z"
    ·exact a_Y.nd
    ·exact(a_k (fcd hx G2 D2 hr (c_Y (pv 0) (c_Y (pv 1) (a_t (d_E (a_I (a_i a_H) (a_I (a_i a_H) (a_I (a_i a_H) (a_I (a_i a_H) (a_I (a_i a_H) (a_I (a_i a_H) (a_I (a_i a_H) a_n)))))))) a_g)))))
   refine a_a ?_ ?_
   ·refine a_E (i:=10) ?_ ?_ ?_ ?_ ?_ ?_<;>try walk_at "z"
    ·exact a_Y.nd
    ·exact(b_I (a_I (fv 9) (a_I (fv 8) (a_I (fv 6) a_n))))
   refine a_c ?_
   refine m_z ?_ ?_ ?_ ?_ ?_ ?_ ?_ ?_<;>try walk_at "z"
   ·exact(pv 5)
   ·exact(m_Y (e_8 hr.units (fv 9) (a_i a_H)) (k_7 (fv 10) (b_I (a_I (b_L (a_i a_b) (a_k (fcd hx G1 D1 hr (c_Y (pv 0) (c_Y (pv 1) (a_t (a_i a_b) a_g)))))) a_n))) (fv 10))
 refine a_a ?_ ?_
 ·refine o_a (i:=11) (j:=12) rfl ?_ a_Y.nd rfl rfl (by first | exact Or.inl rfl | exact Or.inr rfl) (by first | exact Or.inl rfl | exact Or.inr rfl) (by first | exact .inl rfl | exact .inr rfl | assumption) (by first | exact .inl rfl | exact .inr rfl | assumption) rfl rfl rfl rfl rfl rfl rfl
  exact(fcd hx G0 D0 hr (a_t (fv 2) (a_t (fv 3) (a_t (m_n (d_E (a_I (b_I (a_I (a_i a_H) (a_I (a_i a_b) (a_I (a_i a_b) (a_I (a_i a_b) a_n))))) a_n)) (fv 5)) a_g))))
 refine a_c ?_
 refine b_g ?_
 ·exact(p_n (C:=C) (pv 11) (fv 5))
theorem v_A{C:Addr}{g:Addr}{fd:FuncData}(T:Tx P w K mg)(HC:HCx K mg C)(D:FD K mg "law" k_A ["_law_script"] g fd):FnOk P w K mg base (CXM P w) 12 g fd ["_law_script"] (spF K mg (t_5 C)):=by
 obtain⟨g0,f0,D0⟩:=T.d10
 have G0:=k_y P w base T D0
 obtain⟨g1,f1,D1⟩:=T.d14
 have G1:=j_G P w base T D1
 obtain⟨g2,f2,D2⟩:=T.d15
 have G2:=i_q P w base T HC D2
 obtain⟨g3,f3,D3⟩:=T.d13
 have G3:=j_K P w base T D3
 obtain⟨g4,f4,D4⟩:=T.d0q
 have G4:=l_t P w base T HC D4
 obtain⟨g5,f5,D5⟩:=HC.d2m
 have G5:=m_F P w base T HC D5
 refine c_0 D.fn f_v (by decide) ?_
 intro cdv A outer s H E F E' hr hx
 unfold s_5
 refine a_a ?_ ?_
 ·unfold l_p
  refine j_a (i:=1) ?_ ?_ ?_ ?_ ?_ ?_<;>try walk_at "z"
  ·exact f_v.nd
  ·exact(l_4 a_n)
 refine a_a ?_ ?_
 ·unfold l_Q
  refine a_E (i:=2) ?_ ?_ ?_ ?_ ?_ ?_<;>try walk_at "z"
  ·exact f_v.nd
  ·exact(a_k (fcd hx G0 D0 hr (c_Y (pv 0) (c_Y (pv 1) (a_t (a_i a_b) a_g)))))
 refine a_a ?_ ?_
 ·unfold l_X
  refine a_E (i:=3) ?_ ?_ ?_ ?_ ?_ ?_<;>try walk_at "z"
  ·exact f_v.nd
  ·exact(a_k (fcd hx G1 D1 hr (c_Y (pv 0) (c_Y (pv 1) (a_t (a_i a_b) (a_t (a_i a_b) a_g))))))
 refine a_a ?_ ?_
 ·unfold l_n
  refine o_a (i:=4) (j:=5) rfl ?_ f_v.nd rfl rfl (by first | exact Or.inl rfl | exact Or.inr rfl) (by first | exact Or.inl rfl | exact Or.inr rfl) (by first | exact .inl rfl | exact .inr rfl | assumption) (by first | exact .inl rfl | exact .inr rfl | assumption) rfl rfl rfl rfl rfl rfl rfl
  exact(fcd hx G2 D2 hr (c_Y (pv 0) (c_Y (pv 1) (a_t (fv 2) (a_t (fv 3) (a_t (a_i a_b) a_g))))))
 refine a_a ?_ ?_
 ·unfold i_4
  refine g_G ?_ ?_ ?_ ?_ ?_ ?_<;>try walk_at "z"
  ·exact PassesOwn.leaving
  ·exact(e_A (e_I rfl T.d1v (a_I (g_2 h_m (b_V a_Z k_V rfl T.d1r PySem.boot_len (a_I (fv 3) a_n))) a_n)))
  ·exact(fgn 6 f_v.nd)
  ·unfold g_X
   refine a_a ?_ ?_
   ·refine a_E (i:=7) ?_ ?_ ?_ ?_ ?_ ?_<;>try walk_at "z"
    ·exact f_v.nd
    ·exact(a_s (a_s (fv 3) (fv 6)) (a_i a_b))
   refine a_a ?_ ?_
   ·refine a_E (i:=8) ?_ ?_ ?_ ?_ ?_ ?_<;>try walk_at "z"
    ·exact f_v.nd
    ·exact(a_k (fcd hx G3 D3 hr (a_t (fv 2) (a_t (fv 7) (a_t (a_i a_b) a_g)))))
   refine a_a ?_ ?_
   ·refine i_J (i:=9) (own:=["_law_row"]) (capN:=["_law_deed","_law_some"]) (caps:=[6,8]) ?_ ?_ ?_ ?_ ?_ ?_ ?_ ?_ ?_ ?_ ?_ ?_<;>try walk_at "z"
    ·exact f_v.nd
    ·exact hx.1
    ·exact(CompScope.of (own:=["_law_row"]) (capN:=["_law_deed","_law_some"]) (caps:=[6,8]))
    ·exact(j_k (a_k (fmd0 hx HC.cl G5 D5 hr (pv 4))))
    ·exact(fun _ _ _ _ _ _ hg=>⟨(fgn 0 (show((["_law_row"]:List Str)++(["_law_deed","_law_some"]:List Str)).Nodup from by decide +kernel)),(l_a (q_i (m_D (e_8 hr.units (a_s (fv 0) (a_i a_b)) (a_i a_H)) (i_6 (e_8 hr.units (a_s (fv 0) (a_i a_b)) (fv 1)))))),(g_E (a_s (fv 0) (a_i a_b)) (a_s (fv 2) (a_s (fv 0) (a_i a_b))))⟩)
   refine a_a ?_ ?_
   ·refine a_E (i:=10) ?_ ?_ ?_ ?_ ?_ ?_<;>try walk_at "z"
    ·exact f_v.nd
    ·exact(a_k (fcd hx G4 D4 hr (c_Y (pv 4) (a_t (fv 2) (a_t (fv 7) (a_t (fv 6) a_g))))))
   refine a_c ?_
   refine b_c ?_ ?_ ?_
   ·exact(q_i (m_S (q_y hr.units (fv 10) (fv 9)) (m_S (q_i (m_D (q_y hr.units (fv 10) (d_E a_n)) (i_6 (q_r (g_2 s_b (b_V (n_0 rfl) w_a rfl T.d1u v_a (a_I (fv 10) a_n))) (a_i a_b))))) (k_z (c_1 (b_u (b_v (i_y (c_k rfl T.d1q (fv 10) (e_q rfl T.d1s o_M rfl))))))))))
   ·refine a_c ?_
    refine a_z ?_
    ·exact(a_i j_p)
   ·exact a_x
 refine a_a ?_ ?_
 ·unfold h_x
  refine l_L (i:=11) (own:=["_law_at","_law_deed"]) (capN:=["_law_zone_here","_law_hall"]) (caps:=[2,4]) (k:=1) (jm:=4) ?_ ?_ ?_ ?_ ?_ ?_ ?_ ?_ ?_ ?_ ?_ ?_ ?_<;>try walk_at "z"
  ·exact f_v.nd
  ·exact hx.1
  ·exact(CompScope.of (own:=["_law_at","_law_deed"]) (capN:=["_law_zone_here","_law_hall"]) (caps:=[2,4]))
  ·exact(p_W (q_e rfl T.d1o (a_I (fv 3) a_n)))
  ·exact(fun _ _ _ _ _ _ hg=>⟨(m_y (n:=2) rfl (d_S (fgn 0 (show((["_law_at","_law_deed"]:List Str)++(["_law_zone_here","_law_hall"]:List Str)).Nodup from by decide +kernel)) (d_S (fgn 1 (show((["_law_at","_law_deed"]:List Str)++(["_law_zone_here","_law_hall"]:List Str)).Nodup from by decide +kernel)) j_U))),f_4,(a_k (fcd (xok0 hg) G4 D4 hr (c_Y (pv 3) (a_t (fv 2) (a_t (a_s (fv 1) (a_i a_b)) (a_t (fv 0) a_g))))))⟩)
 refine a_c ?_
 unfold l_5
 refine a_z ?_
 ·exact(s_A (x_a hr.units (a_k (fmd0 hx HC.cl G5 D5 hr (pv 4))) (d_E a_n)) (e_c (l_N hr.units (fv 11) (u_F (d_E (a_I (d_E a_n) a_n)) (g_2 h_m (b_V a_Z k_V rfl T.d1r PySem.boot_len (a_I (fv 3) a_n)))))))
end
end K3
namespace K3
open PySem L2 L2.L3 Due
noncomputable def isW(d:PyData)(lo hi:Int):Bool:=match d with
 | .int i=>decide (lo<=i)&&decide (i<=hi)
 | _=>false
noncomputable def noD:PyData->Bool
 | .dict _=>false
 | _=>true
@[simp] theorem y_I:c_a "int" "int" = some true:=by decide
@[simp] theorem y_u:c_a "int" "bool" = some false:=by decide
@[simp] theorem y_W:c_a "bool" "int" = some true:=by decide
@[simp] theorem y_O:c_a "bool" "bool" = some true:=by decide
@[simp] theorem y_t:c_a "NoneType" "int" = some false:=by decide
@[simp] theorem y_x:c_a "str" "int" = some false:=by decide
@[simp] theorem y_K:c_a "list" "int" = some false:=by decide
@[simp] theorem y_U:c_a "tuple" "int" = some false:=by decide
@[simp] theorem y_f:c_a "int" "tuple" = some false:=by decide
@[simp] theorem y_D:c_a "bool" "tuple" = some false:=by decide
@[simp] theorem y_l:c_a "NoneType" "tuple" = some false:=by decide
@[simp] theorem y_T:c_a "str" "tuple" = some false:=by decide
@[simp] theorem y_p:c_a "list" "tuple" = some false:=by decide
@[simp] theorem y_M:c_a "tuple" "tuple" = some true:=by decide
theorem l_b(i j:Int):PyData.eqv (.int i) (.int j)=(i==j):=by rw[PyData.eqv]
theorem d_Y(i:Int):SeqAt.shaped (.int i)=true:=by rfl
theorem b_3{d:PyData}{lo hi:Int}(h:noD d=true):a_T [.dat d,.dat (.int lo),.dat (.int hi)]=.rt (.dat (.bool (isW d lo hi))) []:=by
 cases d with
 | dict _=>cases h
 | int i=>
  by_cases h1:lo<=i
  ·simp[gEq,a_T,e_M,isW,h1]
  ·simp[gEq,a_T,e_M,isW,h1]
 | _=>simp[gEq,a_T,e_M,isW]
noncomputable def isT(d:PyData)(n:Int):Bool:=match d with
 | .tuple ds=>decide ((ds.length:Int)=n)
 | _=>false
theorem c_R{d:PyData}{n:Int}(h:noD d=true):a_7 [.dat d,.dat (.int n)]=.rt (.dat (.bool (isT d n))) []:=by
 cases d with
 | dict _=>cases h
 | tuple ds=>simp[gEq,a_7,d_P,isT,d_Y,l_b];rfl
 | _=>simp[gEq,a_7,d_P,isT]
theorem i_E{d:PyData}(h:noD d=true):e_L [.dat d]=.rt (.dat (.bool (isW d (-12) 14))) []:=by simp[gEq,e_L,g_8,b_3 h]
theorem f_1{d:PyData}(h:noD d=true):d_o [.dat d]=.rt (.dat (.bool (isW d 0 9999))) []:=by simp[gEq,d_o,g_d,b_3 h]
theorem f_O{d:PyData}(h:noD d=true):d_x [.dat d]=if isW d 0 9999=true then .rt (.dat .none) [] else .ex "NoMoment" []:=by
 simp only[d_x,e_s]
 cases hw:isW d 0 9999<;>simp[gEq,f_1 h,hw]
noncomputable abbrev shD(p:Int×Int):PyData:=.tuple [.int p.1,.int p.2]
noncomputable abbrev a_J(a:Int)(ss:Sh):PyData:=.tuple [.int a,.tuple (ss.map shD)]
@[simp] theorem at0{x:PyData}{l:List PyData}:atI (x::l) 0=some x:=by
 unfold atI ixN
 rw[if_pos (by omega),if_pos (by simp<;>omega)]
 rfl
@[simp] theorem at1{x y:PyData}{l:List PyData}:atI (x::y::l) 1=some y:=by
 unfold atI ixN
 rw[if_pos (by omega),if_pos (by simp<;>omega)]
 rfl
@[simp] theorem atL{x:PyData}{l:List PyData}:atI (l++[x]) (-1)=some x:=by
 unfold atI ixN
 rw[if_neg (by omega),if_pos (by simp;omega)]
 simp
 rw[show(-1+((l.length:Int)+1)).toNat=l.length by omega]
 simp
theorem k_c{c:Option Cell}:∀{ss:Sh}{lo:Int}{x:Option Cell},e_d lo ss->(∀p∈ss,p.1<=9999/\-12<=p.2/\p.2<=14)->∃e y,b_8 (gNm 2) c_d (ss.map shD) [c,some (.dat (.int (lo+1))),x]=.nx [c,e,y]
 | [],_,_,_,_=>⟨_,_,rfl⟩
 | (b,k)::r,lo,x,⟨h1,h2⟩,ho=>by
  obtain⟨e,y,ih⟩:=k_c (lo:=b) (c:=c) (x:=some (.dat (shD (b,k)))) h2 fun p hp=>ho p (Qak _ hp)
  have hb:=ho (b,k) List.mem_cons_self
  refine⟨e,y,?_⟩
  rw[List.map_cons,b_8,<-ih]
  have:c_d [c,some (.dat (.int (lo+1))),some (.dat (shD (b,k)))]=.nx [c,some (.dat (.int (b+1))),some (.dat (shD (b,k)))]:=by
   simp[gEq,c_d,c_R (d:=.tuple [.int b,.int k]) rfl,isT,i_E (d:=.int k) rfl,b_3 (d:=.int b) rfl,isW,hb.2.1,hb.2.2,hb.1,show lo+1<=b by omega]
  simp[gEq,this]
theorem k_W{ss:Sh}(hl:ss.length<=6)(hr:e_d 0 ss)(ho:∀p∈ss,p.1<=9999/\-12<=p.2/\p.2<=14):e_o [.dat (.tuple (ss.map shD))]=.rt (.dat (.bool true)) []:=by
 obtain⟨e,y,h⟩:=k_c (lo:=0) (c:=some (.dat (.tuple (ss.map shD)))) (x:=none) hr ho
 simp[gEq,e_o,f_n,show ¬ (6:Int)<ss.length by omega] at h ⊢
 rw[h]
 simp
theorem n_P{a:Int}{ss:Sh}(z:ZOk a ss):g_F [.dat (a_J a ss)]=.rt (.dat (.bool true)) []:=by
 have h1:=z.ah.1
 simp[gEq,g_F,h_W,c_R (d:=a_J a ss) rfl,isT,i_E (d:=.int a) rfl,isW,h1.1,h1.2,k_W z.len z.rise fun p hp=>⟨z.top p hp,z.ah.2 p hp⟩]
theorem h_j{a:Int}{ss:Sh}(z:ZOk a ss):b_j [.dat (a_J a ss)]=.rt (.dat .none) []:=by
 simp[gEq,b_j,f_u,n_P z]
theorem m_H{m:Int}{z:Option Cell}:∀{ss:Sh}{a:Int}{x:Option Cell},∃y,b_8 (gNm 3) g_r (ss.map shD) [z,some (.dat (.int m)),some (.dat (.int a)),x]=.nx [z,some (.dat (.int m)),some (.dat (.int (c_s a ss m))),y]
 | [],_,_=>⟨_,rfl⟩
 | (b,c)::r,a,x=>by
  obtain⟨y,ih⟩:=m_H (m:=m) (z:=z) (ss:=r) (a:=if b<=m then c else a) (x:=some (.dat (shD (b,c))))
  refine⟨y,?_⟩
  rw[List.map_cons,b_8]
  unfold c_s
  rw[<-ih]
  by_cases h:b<=m<;>simp[gEq,g_r,h]
theorem r_C{a m:Int}{ss:Sh}:i_3 [.dat (a_J a ss),.dat (.int m)]=.rt (.dat (.int (a_8 a ss m))) []:=by
 obtain⟨y,h⟩:=m_H (m:=m) (z:=some (.dat (a_J a ss))) (ss:=ss) (a:=a) (x:=none)
 simp[gEq,i_3,l_Z] at h ⊢
 rw[h]
 simp[gEq,a_8]
theorem j_B{e:XM PyData}{g:GM}{f:PyData->PyData}{P:a_q->Prop}:∀{its ys:List PyData}{U:a_q},P U->(∀d∈its,∀U,P U->∃U1 U2,g d U=some U1/\e U1=.ok (f d) U2/\P U2)->ys.length+its.length<=sizeLine->a_V g e_u e its ys U=some (ys++its.map f)
 | [],ys,U,_,_,_=>by simp[gEq,a_V]
 | d::r,ys,U,hP,h,hl=>by
  obtain⟨U1,U2,h1,h2,h3⟩:=h d List.mem_cons_self U hP
  simp only[List.length_cons] at hl
  unfold a_V
  rw[h1]
  simp only[e_u,h2]
  rw[if_pos (by omega),j_B h3 (fun d hd=>h d (Qak _ hd)) (by simp;omega)]
  simp
theorem g_b{t:XM Bool}{e:XM PyData}{g:GM}{p:PyData->Bool}{f:PyData->PyData}{P:a_q->Prop}:∀{its ys:List PyData}{U:a_q},P U->(∀d∈its,∀U,P U->∃U1 U2 U3,g d U=some U1/\t U1=.ok (p d) U2/\P U2/\(p d=true->e U2=.ok (f d) U3/\P U3))->ys.length+its.length<=sizeLine->a_V g t e its ys U=some (ys++(its.filter p).map f)
 | [],ys,U,_,_,_=>by simp[gEq,a_V]
 | d::r,ys,U,hP,h,hl=>by
  obtain⟨U1,U2,U3,h1,h2,h3,h4⟩:=h d List.mem_cons_self U hP
  simp only[List.length_cons] at hl
  unfold a_V
  rw[h1]
  simp only[h2]
  cases hp:p d with
  | true=>
   obtain⟨h5,h6⟩:=h4 hp
   simp only[h5]
   rw[if_pos (by omega),g_b h6 (fun d hd=>h d (Qak _ hd)) (by simp;omega)]
   simp[gEq,hp]
  | false=>
   simp only
   rw[g_b h3 (fun d hd=>h d (Qak _ hd)) (by omega)]
   simp[gEq,hp]
@[simp] theorem sz0:(0:Nat)<=sizeLine:=by decide
@[simp] theorem sz1:(1:Nat)<=sizeLine:=by decide
@[simp] theorem sz2:(2:Nat)<=sizeLine:=by decide
@[simp] theorem sz3:(3:Nat)<=sizeLine:=by decide
@[simp] theorem sz4:(4:Nat)<=sizeLine:=by decide
@[simp] theorem sz5:(5:Nat)<=sizeLine:=by decide
@[simp] theorem sz6:(6:Nat)<=sizeLine:=by decide
@[simp] theorem sz7:(7:Nat)<=sizeLine:=by decide
@[simp] theorem sz8:(8:Nat)<=sizeLine:=by decide
@[simp] theorem sz9:(9:Nat)<=sizeLine:=by decide
@[simp] theorem sz10:(10:Nat)<=sizeLine:=by decide
@[simp] theorem sz11:(11:Nat)<=sizeLine:=by decide
@[simp] theorem sz12:(12:Nat)<=sizeLine:=by decide
@[simp] theorem sz13:(13:Nat)<=sizeLine:=by decide
@[simp] theorem sz14:(14:Nat)<=sizeLine:=by decide
noncomputable def k_j:Option Int->PyData
 | none=>.none
 | some e=>.int e
noncomputable def stD(p:Int×Option Int×Int):PyData:=.tuple [.int p.1,k_j p.2.1,.int p.2.2]
theorem q_K:∀(ss:Sh) (s a:Int),n_D (.int s::ss.map fun p=>.int p.1) ((ss.map fun p=>PyData.int p.1)++[.none]) (.int a::ss.map fun p=>.int p.2)=(stret s a ss).map stD
 | [],s,a=>rfl
 | (b,c)::r,s,a=>by
  have ih:=q_K r b c
  simp only[List.map_cons,List.cons_append,stret]
  rw[<-ih]
  rfl
theorem k_2{a:Int}{ss:Sh}(hl:ss.length<=6):e_Y [.dat (a_J a ss)]=.rt (.dat (.list ((stret 0 a ss).map stD))) []:=by
 have sz:1000<sizeLine:=by decide
 have c1:=j_B (e:=e_V) (g:=gNm 0) (f:=fun d=>match d with | .tuple (x::_)=>x | _=>.none) (P:=fun U=>U.length=1) (its:=ss.map shD) (ys:=[]) (U:=[none]) rfl (fun d hd U hU=>by
  obtain⟨p,_,rfl⟩:=List.mem_map.mp hd
  match U,hU with
  | [y],_=>exact⟨_,_,rfl,by simp[gEq,e_V];rfl,rfl⟩) (by simp;omega)
 have c2:=j_B (e:=e_U) (g:=gNm 0) (f:=fun d=>match d with | .tuple (_::x::_)=>x | _=>.none) (P:=fun U=>U.length=1) (its:=ss.map shD) (ys:=[]) (U:=[none]) rfl (fun d hd U hU=>by
  obtain⟨p,_,rfl⟩:=List.mem_map.mp hd
  match U,hU with
  | [y],_=>exact⟨_,_,rfl,by simp[gEq,e_U];rfl,rfl⟩) (by simp;omega)
 simp only[List.nil_append,List.map_map] at c1 c2
 have d1:List.map ((fun d=>match d with | .tuple (x::_)=>x | _=>PyData.none)∘shD) ss=ss.map fun p=>PyData.int p.1:=by apply List.map_congr_left;intro p _;rfl
 have d2:List.map ((fun d=>match d with | .tuple (_::x::_)=>x | _=>PyData.none)∘shD) ss=ss.map fun p=>PyData.int p.2:=by apply List.map_congr_left;intro p _;rfl
 rw[d1] at c1
 rw[d2] at c2
 have z:=q_K ss 0 a
 simp[gEq,e_Y,f_X,c1,c2,show ss.length<=sizeLine by omega,show ss.length+1<=sizeLine by omega,show 1+ss.length<=sizeLine by omega,z]
theorem j_N{m:Int}{e:Option Int}:d_Q [.dat (.int m),.dat (k_j e)]=.rt (.dat (.bool (e_1 m e))) []:=by
 cases e<;>simp[gEq,d_Q,e_2,k_j,e_1]
theorem h_M:∀(ss:Sh) (s a:Int),(stret s a ss).length=ss.length+1
 | [],s,a=>rfl
 | (b,c)::r,s,a=>by simp[gEq,stret,h_M r b c]
theorem t_0{ns:List Int}{k:Int}(hn:ns.length<=63)(hk:0<=k):∃v,b_D [.scr ns,.dat (.int k)]=.rt (.dat (.int v)) []:=by
 by_cases h:k<ns.length
 ·have:∃v,atI ns k=some v:=by
   unfold atI ixN
   rw[if_pos hk,if_pos h]
   exact⟨ns[k.toNat]'(by omega),by simp⟩
  obtain⟨v,hv⟩:=this
  exact⟨v,by simp[gEq,b_D,c_f,hn,h,hv]⟩
 ·by_cases h0:ns=[]
  ·subst h0
   exact⟨0,by simp[gEq,b_D,c_f] at h ⊢;simp[gEq,show ¬ k<0 by omega]⟩
  ·have hp:0<(ns.length:Int):=by
    have:=List.length_pos_iff.mpr h0
    omega
   have:∃v,atI ns (k % ns.length)=some v:=by
    have h1:=Int.emod_nonneg k (show(ns.length:Int)≠0 by omega)
    have h2:=Int.emod_lt_of_pos k hp
    unfold atI ixN
    rw[if_pos h1,if_pos h2]
    exact⟨ns[(k % ns.length).toNat]'(by omega),by simp⟩
   obtain⟨v,hv⟩:=this
   exact⟨v * 31+k,by simp[gEq,b_D,c_f,hn,h,h0,hv,v_C,q_0,List.length_pos_iff.mpr h0]⟩
theorem r_0{ns:List Int}{k many:Int}(hn:ns.length<=63)(hk:0<=k)(hm:0<many):∃v,0<=v/\v<many/\e_n [.scr ns,.dat (.int k),.dat (.int many)]=.rt (.dat (.int v)) []:=by
 obtain⟨v,hv⟩:=t_0 (k:=k) hn hk
 generalize hd:(v * 1103515245+7919 * k+12345) % 2147483647=dr
 have d1:0<=dr:=by omega
 have d2:dr<2147483647:=by omega
 refine⟨dr ^ 5 % 2147483647 % 999983 % many,Int.emod_nonneg _ (by omega),Int.emod_lt_of_pos _ hm,?_⟩
 simp[gEq,e_n,f_y,hv,q_0,v_C,w_s,hd,hm,show dr.natAbs<18446744073709551616 by omega]
theorem d_3{ns:List Int}{many:Int}{t:List PyData}(hn:ns.length<=63)(ht:t.length<1000)(hm:0<many):∃v,0<=v/\v<many/\a_r [.scr ns,.own true (.l t),.dat (.int many)]=.rt (.dat (.int v)) [.l (t++[.int 0])]:=by
 have sz:1000<sizeLine:=by decide
 obtain⟨v,h1,h2,h3⟩:=r_0 (k:=((t++[PyData.int 0]).length:Int)) hn (by omega) hm
 refine⟨v,h1,h2,?_⟩
 simp at h3
 simp[gEq,a_r,f_3,show t.length<sizeLine by omega,h3]
theorem h_2{ns:List Int}{ds t:List PyData}(hn:ns.length<=63)(ht:t.length<1000)(hd:ds≠[])(hl:ds.length<=1000):∃d∈ds,a_R [.scr ns,.own true (.l t),.dat (.list ds)]=.rt (.dat d) [.l (t++[.int 0])]:=by
 have hp:=List.length_pos_iff.mpr hd
 obtain⟨v,h1,h2,h3⟩:=d_3 (many:=ds.length) hn ht (by omega)
 have:atI ds v=some (ds[v.toNat]'(by omega)):=by
  unfold atI ixN
  rw[if_pos h1,if_pos h2]
  simp
 refine⟨ds[v.toNat]'(by omega),List.getElem_mem _,?_⟩
 simp[gEq,a_R,f_Y,h3,this]
theorem o_D{ns:List Int}{t:List PyData}{ss:Sh}{m wd:Int}{k:Option Cell}(hn:ns.length<=63)(ht:t.length<900)(hs:ss.length<=100)(hw:0<wd):∃d c,0<=d/\d<wd/\-12<=c/\c<=14/\
  c_X [some (.scr ns),some (.own true (.l t)),some (.dat (.int wd)),some (.dat (.tuple (ss.map shD))),some (.dat (.int m)),k]=.nx [some (.scr ns),some (.own true (.l (t++[.int 0]++[.int 0]))),some (.dat (.int wd)),some (.dat (.tuple ((ss++[(m+1+d,c)]).map shD))),some (.dat (.int (m+1+d))),k]:=by
 have sz:1000<sizeLine:=by decide
 obtain⟨d,d1,d2,h2⟩:=d_3 (ns:=ns) (t:=t) (many:=wd) hn (by omega) hw
 obtain⟨w,hw,h1⟩:=h_2 (ns:=ns) (t:=t++[.int 0]) (ds:=[.int 0,.int 1,.int 2,.int (-1),.int 14,.int (-12),.int 3]) hn (by simp;omega) (by simp) (by simp)
 have:∃i:Int,w=.int i/\-12<=i/\i<=14:=by
  simp only[List.mem_cons,List.not_mem_nil,or_false] at hw
  rcases hw with rfl | rfl | rfl | rfl | rfl | rfl | rfl<;>exact⟨_,rfl,by omega,by omega⟩
 obtain⟨i,rfl,i1,i2⟩:=this
 refine⟨d,i,d1,by omega,i1,i2,?_⟩
 simp only[List.append_assoc,List.cons_append,List.nil_append] at h1 h2
 simp[gEq,c_X,h1,h2,show ss.length+1<=sizeLine by omega]
theorem n_5{ns:List Int}{wd:Int}(hn:ns.length<=63)(hw:0<wd):∀{its t:List PyData}{ss:Sh}{m:Int}{k:Option Cell},t.length+2 * its.length<900->ss.length+its.length<=100->∃new t' m' k',b_8 (gNm 5) c_X its [some (.scr ns),some (.own true (.l t)),some (.dat (.int wd)),some (.dat (.tuple (ss.map shD))),some (.dat (.int m)),k]=.nx [some (.scr ns),some (.own true (.l t')),some (.dat (.int wd)),some (.dat (.tuple ((ss++new).map shD))),some (.dat (.int m')),k']/\
  e_d m new/\(∀p∈new,p.1<=m+wd * its.length/\-12<=p.2/\p.2<=14)/\new.length=its.length/\t'.length=t.length+2 * its.length
 | [],t,ss,m,k,_,_=>⟨[],t,m,k,by simp[gEq,b_8],trivial,fun p hp=>(by cases hp),rfl,rfl⟩
 | x::r,t,ss,m,k,h1,h2=>by
  simp only[List.length_cons] at h1 h2
  obtain⟨d,c,d1,d2,c1,c2,e⟩:=o_D (ns:=ns) (t:=t) (ss:=ss) (m:=m) (wd:=wd) (k:=some (.dat x)) hn (by omega) (by omega) hw
  obtain⟨new,t',m',k',g1,g2,g3,g4,g5⟩:=n_5 hn hw (its:=r) (t:=t++[.int 0]++[.int 0]) (ss:=ss++[(m+1+d,c)]) (m:=m+1+d) (k:=some (.dat x)) (by simp;omega) (by simp;omega)
  have e3:wd * ((r.length+1:Nat):Int)=wd * r.length+wd:=by rw[Int.natCast_add,Int.mul_add];simp
  have e4:0<=wd * (r.length:Int):=Int.mul_nonneg (by omega) (by omega)
  refine⟨(m+1+d,c)::new,t',m',k',?_,⟨by omega,g2⟩,fun p hp=>?_,by simp[gEq,g4],by rw[g5];simp;omega⟩
  ·rw[b_8]
   simp only[gNm,List.set_cons_succ,List.set_cons_zero,e]
   rw[g1]
   simp
  ·rw[List.length_cons,e3]
   rcases List.mem_cons.mp hp with rfl | hp
   ·exact⟨by simp;omega,c1,c2⟩
   ·have:=g3 p hp
    exact⟨by omega,this.2⟩
theorem u_q{ns:List Int}{t:List PyData}{wd:Int}(hn:ns.length<=63)(ht:t.length<=100)(hw:0<wd):∃a ss t',d_4 [.scr ns,.own true (.l t),.dat (.int wd)]=.rt (.dat (a_J a ss)) [.l t']/\ss.length<=4/\e_d 0 ss/\j_j a ss/\(∀p∈ss,p.1<=4 * wd)/\t'.length<=t.length+12:=by
 have sz:1000<sizeLine:=by decide
 obtain⟨n,n1,n2,h1⟩:=d_3 (ns:=ns) (t:=t) (many:=5) hn (by omega) (by omega)
 obtain⟨new,t1,m1,k1,g1,g2,g3,g4,g5⟩:=n_5 (ns:=ns) (wd:=wd) hn hw (its:=intsFrom 0 n.toNat) (t:=t++[.int 0]) (ss:=[]) (m:=0) (k:=none) (by simp[gEq,c_O];omega) (by simp[gEq,c_O];omega)
 rw[c_O] at g3 g4 g5
 simp only[List.length_append,List.length_cons,List.length_nil] at g5
 obtain⟨w,hw',h2⟩:=h_2 (ns:=ns) (t:=t1) (ds:=[.int 0,.int 1,.int 2,.int (-1),.int 14,.int (-12)]) hn (by omega) (by simp) (by simp)
 have:∃i:Int,w=.int i/\-12<=i/\i<=14:=by
  simp only[List.mem_cons,List.not_mem_nil,or_false] at hw'
  rcases hw' with rfl | rfl | rfl | rfl | rfl | rfl<;>exact⟨_,rfl,by omega,by omega⟩
 obtain⟨i,rfl,i1,i2⟩:=this
 simp only[List.map_nil,List.nil_append] at g1
 have e3:wd * ((n.toNat:Nat):Int)<=4 * wd:=by
  rw[Int.mul_comm 4]
  exact Int.mul_le_mul_of_nonneg_left (by omega) (by omega)
 refine⟨i,new,t1++[.int 0],?_,by omega,g2,⟨⟨i1,i2⟩,fun p hp=>(g3 p hp).2⟩,fun p hp=>by have:=(g3 p hp).1;omega,by simp;omega⟩
 simp[gEq,d_4,f_2,h1,n1,show n<4611686018427387904 by omega,show -4611686018427387904<=n by omega,g1,h2]
theorem l_C(l:List Int):SeqAt.shaped (.list (l.map PyData.int))=true:=by
 have h1:∀l:List Int,PyData.canLayAll0 (l.map PyData.int)=true:=fun l=>by induction l with | nil=>rfl | cons x r ih=>simpa[PyData.canLayAll0,PyData.canLay0] using ih
 have h2:∀l:List Int,PyData.depthAll (l.map PyData.int)=0:=fun l=>by induction l with | nil=>rfl | cons x r ih=>simpa[PyData.depthAll,PyData.depth] using ih
 unfold SeqAt.shaped
 simp[PyData.canLay0,PyData.depth,h1,h2]
theorem n_C{d:PyData}(h:SeqAt.shaped d=true):gEq false d d=some (.bool true):=by simp[gEq,h,i_Q h]
theorem p_l{d:PyData}(h:SeqAt.shaped d=true):gEq true d d=some (.bool false):=by simp[gEq,h,i_Q h]
theorem t_3(i j:Int):gEq true (.int i) (.int j)=some (.bool (!decide (i=j))):=by
 by_cases h:i=j
 ·subst h;simp[p_l (d_Y i)]
 ·simp[gEq,d_Y,l_b,h]
theorem g_w(i j:Int):gEq false (.int i) (.int j)=some (.bool (decide (i=j))):=by
 by_cases h:i=j
 ·subst h;simp[n_C (d_Y i)]
 ·simp[gEq,d_Y,l_b,h]
theorem k_3{m k:SM}{U U':a_q}(h:m U=.nx U'):a_h m k U=k U':=by simp[h]
theorem s_1(i j:Str):PyData.eqv (.str i) (.str j)=(i==j):=by rw[PyData.eqv]
theorem g_Z{x:Str}(h:PyData.strOk x=true):SeqAt.shaped (.str x)=true:=by
 unfold SeqAt.shaped
 simp[PyData.canLay0,PyData.depth,h]
theorem a_D{x y:Str}(hx:PyData.strOk x=true)(hy:PyData.strOk y=true):gEq false (.str x) (.str y)=some (.bool (x==y)):=by simp[gEq,g_Z hx,g_Z hy,s_1]
theorem b_9:PyData.strOk "once" = true:=by decide +kernel
theorem c_m:PyData.strOk "every" = true:=by decide +kernel
theorem e_p:PyData.strOk "daily" = true:=by decide +kernel
@[simp] theorem z_P:(("every":Str)==("once":Str))=false:=by decide +kernel
@[simp] theorem z_O:(("daily":Str)==("once":Str))=false:=by decide +kernel
@[simp] theorem z_Z:(("daily":Str)==("every":Str))=false:=by decide +kernel
@[simp] theorem x_7:c_a "str" "str" = some true:=by decide
noncomputable abbrev d_J:Plan->PyData
 | .once m=>.tuple [.str "once",.int m]
 | .every f s=>.tuple [.str "every",.int f,.int s]
 | .daily h=>.tuple [.str "daily",.int h]
@[simp] theorem at2{x y w:PyData}{l:List PyData}:atI (x::y::w::l) 2=some w:=by
 unfold atI ixN
 rw[if_pos (by omega),if_pos (by simp<;>omega)]
 rfl
theorem c_z{x w:Str}{rest:List PyData}{n:Int}(hx:PyData.strOk x=true)(hw:PyData.strOk w=true):b_4 [.dat (.tuple (.str x::rest)),.dat (.str w),.dat (.int n)]=.rt (.dat (.bool (decide (((rest.length+1:Nat):Int)=n)&&(x==w)))) []:=by
 by_cases h:(((rest.length+1:Nat):Int)=n)
 ·simp[b_4,f_J,c_R (d:=.tuple (.str x::rest)) rfl,isT,a_D hx hw]
  simp at h
  simp[h]
 ·simp[b_4,f_J,c_R (d:=.tuple (.str x::rest)) rfl,isT,a_D hx hw]
  simp at h
  simp[h]
theorem k_p{p:Plan}(ok:b_i p):d_7 [.dat (d_J p)]=.rt (.dat (.bool true)) []:=by
 cases p with
 | once m=>simp[d_7,f_q,c_z b_9 b_9,f_1 (d:=.int m) rfl,isW,ok.1,ok.2]
 | every f s=>simp[d_7,f_q,c_z c_m b_9,c_z c_m c_m,f_1 (d:=.int f) rfl,b_3 (d:=.int s) rfl,isW,ok.1.1,ok.1.2,ok.2.1,ok.2.2]
 | daily h=>simp[d_7,f_q,c_z e_p b_9,c_z e_p c_m,c_z e_p e_p,b_3 (d:=.int h) rfl,isW,ok.1,ok.2]
theorem j_Y{p:Plan}(ok:b_i p):e_b [.dat (d_J p)]=.rt (.dat .none) []:=by
 simp[e_b,f_l,k_p ok]
noncomputable def w_m(g:Int)(d:PyData):Bool:=match d with
 | .tuple [.int s,.none,.int a]=>e_1 (max s (g - a)) none
 | .tuple [.int s,.int e,.int a]=>e_1 (max s (g - a)) (some e)
 | _=>false
noncomputable def w_k(g:Int)(d:PyData):PyData:=match d with
 | .tuple [.int s,_,.int a]=>.int (max s (g - a))
 | _=>.none
theorem n_T(g:Int)(p:Int×Option Int×Int):w_m g (stD p)=e_1 (max p.1 (g - p.2.2)) p.2.1:=by
 obtain⟨s,e,a⟩:=p
 cases e<;>rfl
theorem n_y(g:Int)(p:Int×Option Int×Int):w_k g (stD p)=.int (max p.1 (g - p.2.2)):=by
 obtain⟨s,e,a⟩:=p
 cases e<;>rfl
theorem h_7{a g:Int}{ss:Sh}(hl:ss.length<=6):c_Q [.dat (a_J a ss),.dat (.int g)]=.rt (.dat (.int (e_k g 0 a ss))) []:=by
 have sz:1000<sizeLine:=by decide
 have c:=g_b (t:=d_m) (e:=c_9) (g:=h_s 3 (b_N (gNm 0) (b_N (gNm 1) (b_N (gNm 2) h_X)))) (p:=w_m g) (f:=w_k g) (P:=fun U=>∃x y z,U=[x,y,z,some (.dat (.int g))]) (its:=(stret 0 a ss).map stD) (ys:=[]) (U:=[none,none,none,some (.dat (.int g))]) ⟨_,_,_,rfl⟩ (fun d hd U hU=>by
  obtain⟨p,_,rfl⟩:=List.mem_map.mp hd
  obtain⟨x,y,z,rfl⟩:=hU
  refine⟨[some (.dat (.int p.1)),some (.dat (k_j p.2.1)),some (.dat (.int p.2.2)),some (.dat (.int g))],[some (.dat (.int p.1)),some (.dat (k_j p.2.1)),some (.dat (.int p.2.2)),some (.dat (.int g))],[some (.dat (.int p.1)),some (.dat (k_j p.2.1)),some (.dat (.int p.2.2)),some (.dat (.int g))],by simp[stD],by simp[d_m,j_N,n_T],⟨_,_,_,rfl⟩,fun _=>⟨by simp[c_9,n_y],⟨_,_,_,rfl⟩⟩⟩) (by simp[h_M];omega)
 have f1:(((stret 0 a ss).map stD).filter (w_m g)).map (w_k g)=(f_z g (stret 0 a ss)).map PyData.int:=by
  unfold f_z
  have e1:w_k g∘stD=fun p=>.int (max p.1 (g - p.2.2)):=funext (n_y g)
  have e2:w_m g∘stD=fun p=>e_1 (max p.1 (g - p.2.2)) p.2.1:=funext (n_T g)
  rw[List.filter_map,List.map_map,List.map_map,e1,e2]
  rfl
 have lr:(f_z g (stret 0 a ss)).length<=7:=by
  unfold f_z
  rw[List.length_map]
  exact Nat.le_trans (List.length_filter_le _ _) (by rw[h_M];omega)
 obtain⟨t,e⟩:=h_k g ss 0 a
 rw[f1,e] at c
 rw[e,List.length_cons] at lr
 simp only[List.nil_append,List.map_cons] at c
 simp[c_Q,d_0,k_2 hl,c,show t.length+1<=sizeLine by omega]
theorem k_1{a h:Int}{ss:Sh}:e_R [.dat (a_J a ss),.dat (.int h)]=.rt (.dat (.int (c_T a ss h))) []:=by
 simp[e_R,f_V,r_C,c_T,w_i]
theorem j_3{a h:Int}{ss:Sh}{c:Nat}(hl:ss.length<=6):e_e [.dat (a_J a ss),.dat (.int h),.dat (.int c)]=.rt (.dat (.int (c_C a ss h c))) []:=by
 simp[e_e,f_f,k_1,h_7 hl,c_C,q_0]
theorem u_D{i j:Int}(h1:-1000000<=j)(h2:j<=1000000):q_0 i j=true:=by
 unfold q_0
 rw[decide_eq_true (show -(2 ^ 64)<j by omega),decide_eq_true (show j<2 ^ 64 by omega)]
 simp
theorem n_e{z:PyData}{f s c:Int}(h1:1<=s)(h2:s<=999):b_s [.dat z,.dat (d_J (.every f s)),.dat (.int c)]=.rt (.dat (.int (f+c * s))) []:=by
 simp[b_s,e_O,a_D c_m b_9,a_D c_m c_m,u_D (i:=c) (show -1000000<=s by omega) (show s<=1000000 by omega)]
theorem k_L{a:Int}{ss:Sh}{p:Plan}{c:Nat}(hl:ss.length<=6)(ok:b_i p):b_s [.dat (a_J a ss),.dat (d_J p),.dat (.int c)]=.rt (.dat (k_j (a_5 a ss p c))) []:=by
 cases p with
 | once m=>
  by_cases e:c=0
  ·subst e;simp[b_s,e_O,a_D b_9 b_9,g_w,a_5,k_j]
  ·simp[b_s,e_O,a_D b_9 b_9,g_w,a_5,k_j,e]
 | every f s=>
  exact n_e ok.2.1 ok.2.2
 | daily h=>simp[b_s,e_O,a_D e_p b_9,a_D e_p c_m,a_5,k_j,j_3 hl]
noncomputable def IsT(o:OutS):Prop:=∃x r,o=.rt (.dat (.bool true)) (x::r)
theorem f_C{m k:SM}{U U':a_q}(h:m U=.nx U')(q:IsT (k U')):IsT (a_h m k U):=by rw[k_3 h];exact q
theorem r_Z{m:SM}{n:Nat}{ns:List Int}(h:IsT (m (some (.scr ns)::List.replicate n none))):fnM 1 (n+1) m [.scr ns]=.rt (.dat (.bool true)) []:=by
 obtain⟨x,r,e⟩:=h
 simp[e]
theorem c_P(i:Int)(r:Nat):L3.intsFrom i (r+1)=.int i::L3.intsFrom (i+1) r:=by
 unfold L3.intsFrom
 rw[List.range_succ_eq_map,List.map_cons,List.map_map]
 congr 1
 ·simp
 ·apply List.map_congr_left
  intro k _
  simp
  omega
theorem j_o{t:XM Bool}{b:SM}{fuel:Nat}{U U1 U2:a_q}(h1:t U=.ok true U1)(h2:b U1=.nx U2):b_H t b (fuel+1) U=b_H t b fuel U2:=by
 rw[b_H,h1]
 simp only[ofX,if_true,h2]
theorem h_D{t:XM Bool}{b:SM}{fuel:Nat}{U U1:a_q}(h1:t U=.ok false U1):b_H t b (fuel+1) U=.nx U1:=by
 rw[b_H,h1]
 simp[ofX]
theorem k_H{m:Int}{z:Option Cell}:∀{ss:Sh}{a:Int}{x y:Option Cell},∃x' y',b_8 (h_s 2 (b_N (gNm 3) (b_N (gNm 4) h_X))) d_y (ss.map shD) [z,some (.dat (.int m)),some (.dat (.int a)),x,y]=.nx [z,some (.dat (.int m)),some (.dat (.int (c_s a ss m))),x',y']
 | [],_,x,y=>⟨x,y,rfl⟩
 | (b,c)::r,a,x,y=>by
  obtain⟨x',y',ih⟩:=k_H (m:=m) (z:=z) (ss:=r) (a:=if b<=m then c else a) (x:=some (.dat (.int b))) (y:=some (.dat (.int c)))
  refine⟨x',y',?_⟩
  rw[List.map_cons,b_8]
  unfold c_s
  rw[<-ih]
  by_cases h:b<=m<;>simp[d_y,h]
theorem f_G{a m:Int}{ss:Sh}:c_D [.dat (a_J a ss),.dat (.int m)]=.rt (.dat (.int (a_8 a ss m))) []:=by
 obtain⟨x',y',h⟩:=k_H (m:=m) (z:=some (.dat (a_J a ss))) (ss:=ss) (a:=a) (x:=none) (y:=none)
 simp[c_D,f_g] at h ⊢
 rw[h]
 simp[a_8]
theorem v_e{ns:List Int}{t:List PyData}{wd:Int}(hn:ns.length<=63)(ht:t.length<=900)(hw:0<wd/\wd<=10000):∃p t',b_i p/\(match p with | .once m=>m<wd | .every f s=>f<wd/\s<=200 | .daily _=>True)/\t'.length<=t.length+4/\d_j [.scr ns,.own true (.l t),.dat (.int wd)]=.rt (.dat (d_J p)) [.l t']:=by
 obtain⟨k,k1,k2,h1⟩:=d_3 (ns:=ns) (t:=t) (many:=3) hn (by omega) (by omega)
 by_cases e:k=0
 ·obtain⟨m,m1,m2,h2⟩:=d_3 (ns:=ns) (t:=t++[.int 0]) (many:=wd) hn (by simp;omega) hw.1
  exact⟨.once m,t++[.int 0]++[.int 0],⟨m1,by omega⟩,m2,by simp,by simp only[List.append_assoc,List.cons_append,List.nil_append] at h1 h2;simp[d_j,d_5,h1,h2,g_w,e]⟩
 ·by_cases e1:k=1
  ·obtain⟨w,hw',h2⟩:=h_2 (ns:=ns) (t:=t++[.int 0]) (ds:=[.int 3,.int 30,.int 200]) hn (by simp;omega) (by simp) (by simp)
   have:∃i:Int,w=.int i/\0<i/\i<=200:=by
    simp only[List.mem_cons,List.not_mem_nil,or_false] at hw'
    rcases hw' with rfl | rfl | rfl<;>exact⟨_,rfl,by omega,by omega⟩
   obtain⟨i,rfl,i1,i2⟩:=this
   obtain⟨s,s1,s2,h3⟩:=d_3 (ns:=ns) (t:=t++[.int 0]++[.int 0]) (many:=i) hn (by simp;omega) i1
   obtain⟨f,f1,f2,h4⟩:=d_3 (ns:=ns) (t:=t++[.int 0]++[.int 0]++[.int 0]) (many:=wd) hn (by simp;omega) hw.1
   refine⟨.every f (1+s),t++[.int 0]++[.int 0]++[.int 0]++[.int 0],⟨⟨f1,by omega⟩,by omega,by omega⟩,⟨f2,by omega⟩,by simp,?_⟩
   simp only[List.append_assoc,List.cons_append,List.nil_append] at h1 h2 h3 h4
   simp[d_j,d_5,h1,h2,h3,h4,g_w,e,e1]
  ·obtain⟨m,m1,m2,h2⟩:=d_3 (ns:=ns) (t:=t++[.int 0]) (many:=24) hn (by simp;omega) (by omega)
   refine⟨.daily m,t++[.int 0]++[.int 0],⟨m1,by omega⟩,trivial,by simp,?_⟩
   simp only[List.append_assoc,List.cons_append,List.nil_append] at h1 h2
   simp[d_j,d_5,h1,h2,g_w,e,e1]
theorem m_a{a:Int}{ss:Sh}{x1 x2 x4 x5:Option Cell}:∀(fuel N:Nat) (g:Int),a_8 a ss 0 - g<=24 * N->N<fuel->∃j:Int,b_H d_r d_t fuel [some (.dat (a_J a ss)),x1,x2,some (.dat (.int g)),x4,x5]=.nx [some (.dat (a_J a ss)),x1,x2,some (.dat (.int (g+24 * j))),x4,x5]/\a_8 a ss 0<=g+24 * j/\(j=0\/g+24 * j<a_8 a ss 0+24)
 | fuel+1,N,g,h1,h2=>by
  by_cases e:g<a_8 a ss 0
  ·obtain⟨j,q1,q2,q3⟩:=m_a (x1:=x1) (x2:=x2) (x4:=x4) (x5:=x5) (a:=a) (ss:=ss) fuel (N - 1) (g+24) (by omega) (by omega)
   refine⟨j+1,?_,by omega,.inr (by omega)⟩
   rw[j_o (by simp[d_r,f_G,e]<;>rfl) (by simp[d_t]<;>rfl),q1,show g+24+24 * j=g+24 * (j+1) by omega]
  ·refine⟨0,?_,by omega,.inl rfl⟩
   rw[h_D (by simp[d_r,f_G,e]<;>rfl)]
   simp
theorem i_H{a:Int}{ss:Sh}{x1 x2 x4 x5:Option Cell}:∀(fuel N:Nat) (g:Int),a_8 a ss 0<=g->g - a_8 a ss 0<24 * N+24->N<fuel->∃j:Int,b_H d_C d_p fuel [some (.dat (a_J a ss)),x1,x2,some (.dat (.int g)),x4,x5]=.nx [some (.dat (a_J a ss)),x1,x2,some (.dat (.int (g+24 * j))),x4,x5]/\a_8 a ss 0<=g+24 * j/\g+24 * j<a_8 a ss 0+24
 | fuel+1,N,g,h0,h1,h2=>by
  by_cases e:a_8 a ss 0<=g - 24
  ·obtain⟨j,q1,q2,q3⟩:=i_H (x1:=x1) (x2:=x2) (x4:=x4) (x5:=x5) (a:=a) (ss:=ss) fuel (N - 1) (g - 24) e (by omega) (by omega)
   refine⟨j - 1,?_,by omega,by omega⟩
   rw[j_o (by simp[d_C,f_G,e]<;>rfl) (by simp[d_p]<;>rfl),q1,show g - 24+24 * j=g+24 * (j - 1) by omega]
  ·refine⟨0,?_,by omega,by omega⟩
   rw[h_D (by simp[d_C,f_G,e]<;>rfl)]
   simp
theorem l_7{a m h:Int}{ss:Sh}{n:Nat}{x1 x2:Option Cell}(hr:e_d 0 ss)(h0:0<=m)(u:Upto a ss (.daily h) m n):∀(j k:Nat) (ds:List PyData) (fuel:Nat),k+j=n->ds.length=k->(∀c,k<=c->c<n->c_C a ss h c=m)->j<fuel->b_H c_l c_j fuel [some (.dat (a_J a ss)),x1,x2,some (.dat (.int (g_n a ss h k))),some (.own false (.l ds)),some (.dat (.int m))]=.nx [some (.dat (a_J a ss)),x1,x2,some (.dat (.int (g_n a ss h n))),some (.own false (.l (ds++(List.range' k j).map fun c=>.int (c_C a ss h c)))),some (.dat (.int m))]
 | 0,k,ds,fuel+1,hk,hd,hc,hf=>by
  obtain rfl:k=n:=by omega
  have hlt:m<c_C a ss h k:=by
   rcases u.out with e | ⟨v,e,hv⟩
   ·cases e
   ·cases e;exact hv
  have e:¬ g_n a ss h k<=a_8 a ss m:=fun z=>by
   have:=(h_O (k:=k) hr h0 (by omega)).mp z
   omega
  rw[h_D (by simp[c_l,f_G,e]<;>rfl)]
  simp
 | j+1,k,ds,fuel+1,hk,hd,hc,hf=>by
  have sz:1000000<sizeLine:=by decide
  have b:=u.le
  have dk:=hc k (by omega) (by omega)
  have e:g_n a ss h k<=a_8 a ss m:=(h_O hr h0 (by omega)).mpr dk
  have ih:=l_7 (x1:=x1) (x2:=x2) hr h0 u j (k+1) (ds++[.int m]) fuel (by omega) (by simp;omega) (fun c h1 h2=>hc c (by omega) h2) (by omega)
  have eg:g_n a ss h k+24=g_n a ss h (k+1):=by unfold g_n;omega
  rw[j_o (by simp[c_l,f_G,e]<;>rfl) (by simp[c_j,show ds.length<sizeLine by omega]<;>rfl),eg,ih,List.range'_succ]
  simp[dk]
theorem m_j{a h:Int}{ss:Sh}{x1 x2:Option Cell}(z:ZOk a ss)(ok:b_i (.daily h)):∀(r:Nat) (i:Int) (k n:Nat) (ds:List PyData) (x5:Option Cell),0<=i->i+r<=10000->ds.length=k->Upto a ss (.daily h) (i - 1) k->Upto a ss (.daily h) (i+r - 1) n->∃y5,k<=n/\b_8 (gNm 5) c_g (L3.intsFrom i r) [some (.dat (a_J a ss)),x1,x2,some (.dat (.int (g_n a ss h k))),some (.own false (.l ds)),x5]=.nx [some (.dat (a_J a ss)),x1,x2,some (.dat (.int (g_n a ss h n))),some (.own false (.l (ds++(List.range' k (n - k)).map fun c=>.int (c_C a ss h c)))),y5]
 | 0,i,k,n,ds,x5,h0,h1,hd,u,u'=>by
  have e:k=n:=s_2 u (by rw[show i - 1=i+((0:Nat):Int) - 1 by omega];exact u') fun _ _ _=>Iff.rfl
  subst e
  exact⟨x5,Qae _,by simp[L3.intsFrom,b_8]⟩
 | r+1,i,k,n,ds,x5,h0,h1,hd,u,u'=>by
  obtain⟨m,um⟩:=i_N (h:=h) (last:=i) z (by omega)
  have km:k<=m:=Nat.le_of_not_lt fun hlt=>by
   obtain⟨v,hv,hle⟩:=u.in_ m hlt
   have:=j_H z ok um (Qae _) hv
   omega
  have hc:∀c,k<=c->c<m->c_C a ss h c=i:=fun c c1 c2=>by
   obtain⟨v,hv,hle⟩:=um.in_ c c2
   have:=j_H z ok u c1 hv
   cases hv
   omega
  have mb:=um.le
  have w:=l_7 (x1:=x1) (x2:=x2) z.rise h0 um (m - k) k ds 100000 (by omega) hd hc (by omega)
  obtain⟨y5,mn,g⟩:=m_j (x1:=x1) (x2:=x2) z ok r (i+1) m n (ds++(List.range' k (m - k)).map fun c=>.int (c_C a ss h c)) (some (.dat (.int i))) (by omega) (by omega) (by simp;omega) (by rw[show i+1 - 1=i by omega];exact um) (by rw[show i+1+(r:Int) - 1=i+((r+1:Nat):Int) - 1 by omega];exact u')
  refine⟨y5,by omega,?_⟩
  rw[c_P,b_8]
  simp only[gNm,List.set_cons_succ,List.set_cons_zero,c_g,w]
  rw[show b_H c_l c_j 100000=c_g from rfl,g]
  rw[List.append_assoc,<-List.map_append]
  congr 6
  have:List.range' k (m - k)++List.range' m (n - m)=List.range' k (n - k):=by
   have:=List.range'_append (s:=k) (m:=m - k) (n:=n - m) (step:=1)
   rw[show k+1 * (m - k)=m by omega,show m - k+(n - m)=n - k by omega] at this
   exact this
  rw[this]
theorem s_H{a last:Int}{ss:Sh}{p:Plan}{n:Nat}(z:ZOk a ss)(ok:b_i p)(hl:0<=last/\last<=9999)(u:Upto a ss p last n):∃c,frz c=some (.list ((c_c a ss p n).map PyData.int))/\b_Q [.dat (a_J a ss),.dat (d_J p),.dat (.int last)]=.rt c []:=by
 cases p with
 | once m=>
  by_cases e:m<=last
  ·have hn:n=1:=by
    rcases Nat.lt_trichotomy n 1 with h | h | h
    ·have h0:n=0:=by omega
     subst h0
     rcases u.out with h | ⟨v,h,hv⟩
     ·rw[a_5,if_pos rfl] at h;cases h
     ·rw[a_5,if_pos rfl] at h;cases h;omega
    ·exact h
    ·obtain⟨v,hv,_⟩:=u.in_ 1 h
     rw[a_5,if_neg (by decide)] at hv;cases hv
   subst hn
   exact⟨.dat (.list [.int m]),by simp[c_c,List.range,List.range.loop,g_J,a_5],by simp[b_Q,c_H,a_D b_9 b_9,e]⟩
  ·have hn:n=0:=by
    refine Nat.eq_zero_of_not_pos fun h=>?_
    obtain⟨v,hv,h'⟩:=u.in_ 0 h
    rw[a_5,if_pos rfl] at hv;cases hv;omega
   subst hn
   exact⟨.dat (.list []),by simp[c_c],by simp[b_Q,c_H,a_D b_9 b_9,e]⟩
 | every f s=>
  obtain⟨o0,o1,o2⟩:=id ok
  have ec:=o_A (by omega) u
  refine⟨.dat (.list ((c_c a ss (.every f s) n).map PyData.int)),by simp,?_⟩
  have e1:(List.range (cnt3 f (last+1) s)).map (fun(m:Nat)=>PyData.int (f+m * s))=(c_c a ss (.every f s) n).map PyData.int:=by
   rw[show cnt3 f (last+1) s=n from ec.symm]
   unfold c_c
   rw[List.map_map]
   rfl
  simp[b_Q,c_H,a_D c_m b_9,a_D c_m c_m,w_w,e1,show 0<=f by omega,show f<=1048576 by omega,show 0<=last+1 by omega,show last+1<=1048576 by omega,show 0<s by omega,show s<=1048576 by omega]
 | daily h=>
  obtain⟨o1,o2⟩:=id ok
  have s0:=h_t (m:=0) z.ah
  have sh:a_8 a ss 0=0+c_s a ss 0:=rfl
  obtain⟨j,q1,q2,q3⟩:=m_a (a:=a) (ss:=ss) (x1:=some (.dat (d_J (.daily h)))) (x2:=some (.dat (.int last))) (x4:=none) (x5:=none) 100000 2 h (by omega) (by omega)
  obtain⟨i,w1,w2,w3⟩:=i_H (a:=a) (ss:=ss) (x1:=some (.dat (d_J (.daily h)))) (x2:=some (.dat (.int last))) (x4:=none) (x5:=none) 100000 4 (h+24 * j) q2 (by omega) (by omega)
  have fd:=g_l (a:=a) (h:=h) (ss:=ss)
  have eg:h+24 * j+24 * i=g_n a ss h 0:=by unfold g_n;omega
  rw[eg] at w1
  obtain⟨y5,_,g⟩:=m_j (x1:=some (.dat (d_J (.daily h)))) (x2:=some (.dat (.int last))) z ok (last+1).toNat 0 0 n [] none (by omega) (by omega) rfl (o_9 z ok) (by rw[show(0:Int)+((last+1).toNat:Nat) - 1=last by omega];exact u)
  rw[List.nil_append,Nat.sub_zero,<-List.range_eq_range'] at g
  have e1:(List.range n).map (fun c=>PyData.int (c_C a ss h c))=(c_c a ss (.daily h) n).map PyData.int:=by
   unfold c_c
   rw[List.map_map]
   rfl
  rw[e1] at g
  refine⟨.own false (.l ((c_c a ss (.daily h) n).map PyData.int)),by simp,?_⟩
  simp[b_Q,c_H,a_D e_p b_9,a_D e_p c_m,q1,w1,g,show -4611686018427387904<=last+1 by omega,show last+1<4611686018427387904 by omega]
@[simp] theorem z_U:noD .none=true:=by simp only[noD]
@[simp] theorem z_T(i:Int):noD (.int i)=true:=by simp only[noD]
@[simp] theorem z_Y(b:Bool):noD (.bool b)=true:=by simp only[noD]
@[simp] theorem z_S(x:Str):noD (.str x)=true:=by simp only[noD]
@[simp] theorem z_1(l:List PyData):noD (.tuple l)=true:=by simp only[noD]
@[simp] theorem z_R(l:List PyData):noD (.list l)=true:=by simp only[noD]
inductive Late where
 | all | last | within (n:Int)
structure Deed where
 plan:Plan
 late:Late
 again:Bool
noncomputable abbrev o_h:Late->PyData
 | .all=>.str "all"
 | .last=>.str "last"
 | .within n=>.tuple [.str "within",.int n]
noncomputable abbrev b_m(d:Deed):PyData:=.tuple [d_J d.plan,o_h d.late,.bool d.again]
@[irreducible] noncomputable def a_W(ds:List Deed):PyData:=.tuple (ds.map b_m)
noncomputable def m_C:Option Int->PyData
 | none=>.none
 | some i=>.int i
noncomputable def m_M:Option (Nat×Nat×Int)->PyData
 | none=>.none
 | some (d,c,h)=>.tuple [.int d,.int c,.int h]
inductive Wd where
 | begun | done | left | unsure
deriving DecidableEq
noncomputable abbrev wdS:Wd->Str
 | .begun=>"begun"
 | .done=>"done"
 | .left=>"left"
 | .unsure=>"unsure"
structure Row where
 mo:Int
 ru:Int
 wd:Wd
 dd:Nat
 ct:Nat
noncomputable abbrev b_O(r:Row):PyData:=.tuple [.int r.mo,.int r.ru,.str (wdS r.wd),.int r.dd,.int r.ct]
noncomputable abbrev f_I(n:Nat):PyData:=.int n
noncomputable def c_v(ws:List ((Nat×Nat)×Wd)):List (PyData×PyData):=ws.map fun p=>(.tuple [f_I p.1.1,f_I p.1.2],.str (wdS p.2))
structure Hl where
 a:Int
 ss:Sh
 ds:List Deed
 last:Option Int
 holder:Option Int
 til:Int
 holds:Int
 begun:Option (Nat×Nat×Int)
 rows:List Row
 words:List ((Nat×Nat)×Wd)
 settled:List Nat
@[irreducible] noncomputable def flds(S:Hl):List (Str×Fl):=[("zone",.d (a_J S.a S.ss)),("deeds",.d (a_W S.ds)),("last",.d (m_C S.last)),("holder",.d (m_C S.holder)),("until",.d (.int S.til)),("holds",.d (.int S.holds)),("begun",.d (m_M S.begun)),("rows",.l (S.rows.map b_O)),("words",.m true (c_v S.words)),("settled",.l (S.settled.map f_I))]
noncomputable abbrev hB(C:Addr)(S:Hl):Bx:=.o C (flds S)
@[simp] theorem w_K(S:Hl):List.lookup ("zone":Str) (flds S)=some (.d (a_J S.a S.ss)):=by unfold flds;kernel_rfl
@[simp] theorem w_t(S:Hl):List.lookup ("deeds":Str) (flds S)=some (.d (a_W S.ds)):=by unfold flds;kernel_rfl
@[simp] theorem x_E(S:Hl):List.lookup ("last":Str) (flds S)=some (.d (m_C S.last)):=by unfold flds;kernel_rfl
@[simp] theorem u_M(S:Hl):List.lookup ("holder":Str) (flds S)=some (.d (m_C S.holder)):=by unfold flds;kernel_rfl
@[simp] theorem w_z(S:Hl):List.lookup ("until":Str) (flds S)=some (.d (.int S.til)):=by unfold flds;kernel_rfl
@[simp] theorem w_v(S:Hl):List.lookup ("holds":Str) (flds S)=some (.d (.int S.holds)):=by unfold flds;kernel_rfl
@[simp] theorem w_y(S:Hl):List.lookup ("begun":Str) (flds S)=some (.d (m_M S.begun)):=by unfold flds;kernel_rfl
@[simp] theorem x_V(S:Hl):List.lookup ("rows":Str) (flds S)=some (.l (S.rows.map b_O)):=by unfold flds;kernel_rfl
@[simp] theorem w_g(S:Hl):List.lookup ("words":Str) (flds S)=some (.m true (c_v S.words)):=by unfold flds;kernel_rfl
@[simp] theorem t_t(S:Hl):List.lookup ("settled":Str) (flds S)=some (.l (S.settled.map f_I)):=by unfold flds;kernel_rfl
@[simp] theorem q_5(S:Hl):List.lookup ("is_held":Str) (flds S)=none:=by unfold flds;kernel_rfl
@[simp] theorem o_U(S:Hl):List.lookup ("check_call":Str) (flds S)=none:=by unfold flds;kernel_rfl
@[simp] theorem m_W(S:Hl):List.lookup ("check_holder":Str) (flds S)=none:=by unfold flds;kernel_rfl
@[simp] theorem u_f(S:Hl):List.lookup ("take":Str) (flds S)=none:=by unfold flds;kernel_rfl
@[simp] theorem u_i(S:Hl):List.lookup ("give":Str) (flds S)=none:=by unfold flds;kernel_rfl
@[simp] theorem r_l(S:Hl):List.lookup ("add_row":Str) (flds S)=none:=by unfold flds;kernel_rfl
@[simp] theorem q_3(S:Hl):List.lookup ("is_busy":Str) (flds S)=none:=by unfold flds;kernel_rfl
@[simp] theorem k_Y(S:Hl):List.lookup ("first_unsettled":Str) (flds S)=none:=by unfold flds;kernel_rfl
@[simp] theorem v_N(S:Hl):List.lookup ("step":Str) (flds S)=none:=by unfold flds;kernel_rfl
@[simp] theorem j_S(S:Hl):List.lookup ("step_behind_a_fall":Str) (flds S)=none:=by unfold flds;kernel_rfl
@[simp] theorem o_3(S:Hl):List.lookup ("step_ahead":Str) (flds S)=none:=by unfold flds;kernel_rfl
@[simp] theorem s_N(S:Hl):List.lookup ("finish":Str) (flds S)=none:=by unfold flds;kernel_rfl
@[simp] theorem t_F(S:Hl):List.lookup ("state":Str) (flds S)=none:=by unfold flds;kernel_rfl
@[simp] theorem t_R(S:Hl):List.lookup ("held":Str) (flds S)=none:=by unfold flds;kernel_rfl
@[simp] theorem w_r(S:Hl):List.lookup ("log":Str) (flds S)=none:=by unfold flds;kernel_rfl
@[simp] theorem q_U(S:Hl):List.lookup ("waiting":Str) (flds S)=none:=by unfold flds;kernel_rfl
@[simp] theorem t_r(S:Hl):List.lookup ("saved":Str) (flds S)=none:=by unfold flds;kernel_rfl
@[simp] theorem w_j(S:Hl):(flds S).length=10:=by unfold flds;kernel_rfl
theorem l_8(S:Hl)(x:Option Int):a_0 ("last":Str) (.d (m_C x)) (flds S)=flds { S with last:=x }:=by unfold flds;kernel_rfl
theorem i_P(S:Hl)(x:Option Int):a_0 ("holder":Str) (.d (m_C x)) (flds S)=flds { S with holder:=x }:=by unfold flds;kernel_rfl
theorem p_h(S:Hl)(x:Int):a_0 ("until":Str) (.d (.int x)) (flds S)=flds { S with til:=x }:=by unfold flds;kernel_rfl
theorem o_q(S:Hl)(x:Int):a_0 ("holds":Str) (.d (.int x)) (flds S)=flds { S with holds:=x }:=by unfold flds;kernel_rfl
theorem k_n(S:Hl)(x:Option (Nat×Nat×Int)):a_0 ("begun":Str) (.d (m_M x)) (flds S)=flds { S with begun:=x }:=by unfold flds;kernel_rfl
theorem q_f(S:Hl)(x:List Row):a_0 ("rows":Str) (.l (x.map b_O)) (flds S)=flds { S with rows:=x }:=by unfold flds;kernel_rfl
theorem g_u(S:Hl)(x:List ((Nat×Nat)×Wd)):a_0 ("words":Str) (.m true (c_v x)) (flds S)=flds { S with words:=x }:=by unfold flds;kernel_rfl
theorem g_e(S:Hl)(x:List Nat):a_0 ("settled":Str) (.l (x.map f_I)) (flds S)=flds { S with settled:=x }:=by unfold flds;kernel_rfl
@[simp] theorem v_I(S:Hl):a_0 ("last":Str) (.d .none) (flds S)=flds { S with last:=none }:=l_8 S none
@[simp] theorem u_o(S:Hl)(i:Int):a_0 ("last":Str) (.d (.int i)) (flds S)=flds { S with last:=some i }:=l_8 S (some i)
@[simp] theorem t_i(S:Hl):a_0 ("holder":Str) (.d .none) (flds S)=flds { S with holder:=none }:=i_P S none
@[simp] theorem t_m(S:Hl)(i:Int):a_0 ("holder":Str) (.d (.int i)) (flds S)=flds { S with holder:=some i }:=i_P S (some i)
@[simp] theorem t_C(S:Hl)(i:Int):a_0 ("until":Str) (.d (.int i)) (flds S)=flds { S with til:=i }:=p_h S i
@[simp] theorem t_w(S:Hl)(i:Int):a_0 ("holds":Str) (.d (.int i)) (flds S)=flds { S with holds:=i }:=o_q S i
@[simp] theorem t_z(S:Hl):a_0 ("begun":Str) (.d .none) (flds S)=flds { S with begun:=none }:=k_n S none
@[simp] theorem t_y(S:Hl)(d c:Nat)(h:Int):a_0 ("begun":Str) (.d (.tuple [.int d,.int c,.int h])) (flds S)=flds { S with begun:=some (d,c,h) }:=k_n S (some (d,c,h))
section
variable{C:Addr}{io:Bool}{S:Hl}{U:a_q}
@[simp] theorem z_y{fs:List (Str×Fl)}:e_z C (some (.own io (.o C fs))::U) 0=some (io,fs):=by simp[e_z]
@[simp] theorem z_J{x y:Option Cell}{fs:List (Str×Fl)}:e_z C (x::y::some (.own io (.o C fs))::U) 2=some (io,fs):=by simp[e_z]
@[simp] theorem z_t{f:Str}{d:PyData}{fs:List (Str×Fl)}(h:fs.lookup f=some (.d d)):f_T C 0 f (some (.own io (.o C fs))::U)=.ok d (some (.own io (.o C fs))::U):=by simp[f_T,h]
@[simp] theorem z_N:isNone .none=true:=by simp only[isNone]
@[simp] theorem z_0(i:Int):isNone (.int i)=false:=by simp only[isNone]
@[simp] theorem z_Q(b:Bool):isNone (.bool b)=false:=by simp only[isNone]
@[simp] theorem z_X(x:Str):isNone (.str x)=false:=by simp only[isNone]
@[simp] theorem z_W(l:List PyData):isNone (.tuple l)=false:=by simp only[isNone]
@[simp] theorem z_V(l:List PyData):isNone (.list l)=false:=by simp only[isNone]
@[simp] theorem r_9(x:Option Int):isNone (m_C x)=x.isNone:=by cases x<;>simp[m_C]
@[simp] theorem r_3(x:Option (Nat×Nat×Int)):isNone (m_M x)=x.isNone:=by rcases x with _ | ⟨_,_,_⟩<;>simp[m_M]
end
theorem l_R{d:PyData}(h:noD d=true):e_T [.dat d]=.rt (.dat (.bool (isW d 0 3))) []:=by simp[gEq,e_T,f_6,b_3 h]
theorem o_B{d:PyData}(h:noD d=true):g_o [.dat d]=.rt (.dat (.bool (isW d 1 99))) []:=by simp[gEq,g_o,h_4,b_3 h]
theorem f_R{d:PyData}(h:noD d=true):d_D [.dat d]=if isW d 0 3=true then .rt (.dat .none) [] else .ex "NoRunner" []:=by
 simp only[d_D,e_w]
 cases hw:isW d 0 3<;>simp[gEq,l_R h,hw]
theorem f_h{d:PyData}(h:noD d=true):e_g [.dat d]=if isW d 1 99=true then .rt (.dat .none) [] else .ex "NoTerm" []:=by
 simp only[e_g,f_c]
 cases hw:isW d 1 99<;>simp[gEq,o_B h,hw]
noncomputable def e_5(S:Hl)(m:Int):Bool:=S.holder.isSome&&decide (m<S.til)
noncomputable def q_I(S:Hl)(m:Int):Bool:=match S.last with
 | some l=>decide (m<l)
 | none=>false
section
variable{C:Addr}{S:Hl}{r m:Int}{d:PyData}
theorem e_B:d_6 C [.own true (hB C S),.dat (.int m)]=.rt (.dat (.bool (e_5 S m))) [hB C S]:=by
 unfold e_5
 cases h:S.holder<;>simp[d_6,g_c,h,m_C]
theorem t_j{r:PyData}(hr:noD r=true)(wr:isW r 0 3=true)(hw:isW (.int m) 0 9999=true)(hp:q_I S m=false):a_K C [.own true (hB C S),.dat r,.dat (.int m)]=.rt (.dat .none) [hB C S]:=by
 unfold q_I at hp
 cases h:S.last with
 | none=>simp[a_K,d_B,f_R hr,wr,f_O (d:=.int m) rfl,hw,h,m_C]
 | some l=>
  rw[h] at hp
  simp at hp
  simp[a_K,d_B,f_R hr,wr,f_O (d:=.int m) rfl,hw,h,m_C,show ¬ m<l by omega]
theorem j_v(x:Option Int)(r:Int):gEq true (m_C x) (.int r)=some (.bool (!decide (x=some r))):=by
 cases x with
 | none=>simp[m_C,gEq,d_Y,show SeqAt.shaped .none=true from rfl,PyData.eqv]
 | some i=>simp[m_C,t_3]
theorem o_W(h:a_K C [.own true (hB C S),.dat (.int r),.dat (.int m)]=.rt (.dat .none) [hB C S])(hn:(e_5 S m&&decide (S.holder=some r))=false):a_j C [.own true (hB C S),.dat (.int r),.dat (.int m)]=.ex "NotHolder" [hB C S]:=by
 cases hh:e_5 S m with
 | false=>simp[a_j,b_t,a_4,c_e,h,e_B,hh]
 | true=>
  rw[hh] at hn
  simp at hn
  simp[a_j,b_t,a_4,c_e,h,e_B,hh,j_v,hn]
theorem o_I(h:a_K C [.own true (hB C S),.dat (.int r),.dat (.int m)]=.rt (.dat .none) [hB C S])(h1:e_5 S m=true)(h2:S.holder=some r):a_j C [.own true (hB C S),.dat (.int r),.dat (.int m)]=.rt (.dat .none) [hB C S]:=by
 simp[a_j,b_t,a_4,c_e,h,e_B,h1,j_v,h2]
noncomputable def q_d(S:Hl)(r m t:Int):Hl×Bool:=if e_5 S m=false then({ S with last:=some m,holds:=S.holds+1,holder:=some r,til:=m+t },true) else if S.holder=some r then({ S with last:=some m,holder:=some r,til:=m+t },true) else({ S with last:=some m },false)
theorem u_A{t:Int}(h:a_K C [.own true (hB C S),.dat (.int r),.dat (.int m)]=.rt (.dat .none) [hB C S])(ht:isW (.int t) 1 99=true):e_Q C [.own true (hB C S),.dat (.int r),.dat (.int m),.dat (.int t)]=.rt (.dat (.bool (q_d S r m t).2)) [hB C (q_d S r m t).1]:=by
 unfold q_d
 have hh:e_5 { S with last:=some m } m=e_5 S m:=rfl
 cases he:e_5 S m with
 | false=>simp[e_Q,g_M,a_4,c_e,h,f_h (d:=.int t) rfl,ht,c_N,k_Z,b_5,e_B,hh,he,j_I]
 | true=>
  by_cases hr:S.holder=some r
  ·have he':m<S.til:=by unfold e_5 at he;simp[hr] at he;exact he
   simp[e_Q,g_M,a_4,c_e,h,f_h (d:=.int t) rfl,ht,c_N,k_Z,b_5,e_B,e_5,he',j_v,hr]
  ·simp[e_Q,g_M,a_4,c_e,h,f_h (d:=.int t) rfl,ht,c_N,k_Z,b_5,e_B,hh,he,j_v,hr]
theorem s_Q{c:Str}{m:PyData}(h:a_j C [.own true (hB C S),.dat d,.dat m]=.ex c [hB C S]):d_s C [.own true (hB C S),.dat d,.dat m]=.ex c [hB C S]:=by
 simp[d_s,f_K,a_4,c_e,h]
theorem p_j{c:Str}{m:PyData}(h:a_j C [.own true (hB C S),.dat d,.dat m]=.ex c [hB C S]):b_C C [.own true (hB C S),.dat d,.dat m]=.ex c [hB C S]:=by
 simp[b_C,e_N,a_4,c_e,h]
theorem r_A:f_k C [.own true (hB C S)]=.rt (.dat (.list (S.rows.map b_O))) [hB C S]:=by
 simp[f_k,l_e,h_z]
end
@[irreducible] noncomputable def fl0(z d:PyData):List (Str×Fl):=[]
@[irreducible] noncomputable def fl1(z d:PyData):List (Str×Fl):=[("zone",.d z)]
@[irreducible] noncomputable def fl2(z d:PyData):List (Str×Fl):=[("zone",.d z),("deeds",.d d)]
@[irreducible] noncomputable def fl3(z d:PyData):List (Str×Fl):=[("zone",.d z),("deeds",.d d),("last",.d .none)]
@[irreducible] noncomputable def fl4(z d:PyData):List (Str×Fl):=[("zone",.d z),("deeds",.d d),("last",.d .none),("holder",.d .none)]
@[irreducible] noncomputable def fl5(z d:PyData):List (Str×Fl):=[("zone",.d z),("deeds",.d d),("last",.d .none),("holder",.d .none),("until",.d (.int 0))]
@[irreducible] noncomputable def fl6(z d:PyData):List (Str×Fl):=[("zone",.d z),("deeds",.d d),("last",.d .none),("holder",.d .none),("until",.d (.int 0)),("holds",.d (.int 0))]
@[irreducible] noncomputable def fl7(z d:PyData):List (Str×Fl):=[("zone",.d z),("deeds",.d d),("last",.d .none),("holder",.d .none),("until",.d (.int 0)),("holds",.d (.int 0)),("begun",.d .none)]
@[irreducible] noncomputable def fl8(z d:PyData):List (Str×Fl):=[("zone",.d z),("deeds",.d d),("last",.d .none),("holder",.d .none),("until",.d (.int 0)),("holds",.d (.int 0)),("begun",.d .none),("rows",.l [])]
@[irreducible] noncomputable def fl9(z d:PyData):List (Str×Fl):=[("zone",.d z),("deeds",.d d),("last",.d .none),("holder",.d .none),("until",.d (.int 0)),("holds",.d (.int 0)),("begun",.d .none),("rows",.l []),("words",.m true [])]
@[simp] theorem lk0(z d:PyData):List.lookup ("zone":Str) (fl0 z d)=none:=by unfold fl0;kernel_rfl
@[simp] theorem ln0(z d:PyData):(fl0 z d).length=0:=by unfold fl0;kernel_rfl
@[simp] theorem pt0(z d:PyData):a_0 ("zone":Str) (.d z) (fl0 z d)=fl1 z d:=by unfold fl0 fl1;kernel_rfl
@[simp] theorem lk1(z d:PyData):List.lookup ("deeds":Str) (fl1 z d)=none:=by unfold fl1;kernel_rfl
@[simp] theorem ln1(z d:PyData):(fl1 z d).length=1:=by unfold fl1;kernel_rfl
@[simp] theorem pt1(z d:PyData):a_0 ("deeds":Str) (.d d) (fl1 z d)=fl2 z d:=by unfold fl1 fl2;kernel_rfl
@[simp] theorem lk2(z d:PyData):List.lookup ("last":Str) (fl2 z d)=none:=by unfold fl2;kernel_rfl
@[simp] theorem ln2(z d:PyData):(fl2 z d).length=2:=by unfold fl2;kernel_rfl
@[simp] theorem pt2(z d:PyData):a_0 ("last":Str) (.d .none) (fl2 z d)=fl3 z d:=by unfold fl2 fl3;kernel_rfl
@[simp] theorem lk3(z d:PyData):List.lookup ("holder":Str) (fl3 z d)=none:=by unfold fl3;kernel_rfl
@[simp] theorem ln3(z d:PyData):(fl3 z d).length=3:=by unfold fl3;kernel_rfl
@[simp] theorem pt3(z d:PyData):a_0 ("holder":Str) (.d .none) (fl3 z d)=fl4 z d:=by unfold fl3 fl4;kernel_rfl
@[simp] theorem lk4(z d:PyData):List.lookup ("until":Str) (fl4 z d)=none:=by unfold fl4;kernel_rfl
@[simp] theorem ln4(z d:PyData):(fl4 z d).length=4:=by unfold fl4;kernel_rfl
@[simp] theorem pt4(z d:PyData):a_0 ("until":Str) (.d (.int 0)) (fl4 z d)=fl5 z d:=by unfold fl4 fl5;kernel_rfl
@[simp] theorem lk5(z d:PyData):List.lookup ("holds":Str) (fl5 z d)=none:=by unfold fl5;kernel_rfl
@[simp] theorem ln5(z d:PyData):(fl5 z d).length=5:=by unfold fl5;kernel_rfl
@[simp] theorem pt5(z d:PyData):a_0 ("holds":Str) (.d (.int 0)) (fl5 z d)=fl6 z d:=by unfold fl5 fl6;kernel_rfl
@[simp] theorem lk6(z d:PyData):List.lookup ("begun":Str) (fl6 z d)=none:=by unfold fl6;kernel_rfl
@[simp] theorem ln6(z d:PyData):(fl6 z d).length=6:=by unfold fl6;kernel_rfl
@[simp] theorem pt6(z d:PyData):a_0 ("begun":Str) (.d .none) (fl6 z d)=fl7 z d:=by unfold fl6 fl7;kernel_rfl
@[simp] theorem lk7(z d:PyData):List.lookup ("rows":Str) (fl7 z d)=none:=by unfold fl7;kernel_rfl
@[simp] theorem ln7(z d:PyData):(fl7 z d).length=7:=by unfold fl7;kernel_rfl
@[simp] theorem pt7(z d:PyData):a_0 ("rows":Str) (.l []) (fl7 z d)=fl8 z d:=by unfold fl7 fl8;kernel_rfl
@[simp] theorem lk8(z d:PyData):List.lookup ("words":Str) (fl8 z d)=none:=by unfold fl8;kernel_rfl
@[simp] theorem ln8(z d:PyData):(fl8 z d).length=8:=by unfold fl8;kernel_rfl
@[simp] theorem pt8(z d:PyData):a_0 ("words":Str) (.m true []) (fl8 z d)=fl9 z d:=by unfold fl8 fl9;kernel_rfl
@[simp] theorem lk9(z d:PyData):List.lookup ("settled":Str) (fl9 z d)=none:=by unfold fl9;kernel_rfl
@[simp] theorem ln9(z d:PyData):(fl9 z d).length=9:=by unfold fl9;kernel_rfl
noncomputable def p_s(a:Int)(ss:Sh)(ds:List Deed):Hl:=⟨a,ss,ds,none,none,0,0,none,[],[],List.replicate ds.length 0⟩
theorem pt9(a:Int)(ss:Sh)(ds:List Deed):a_0 ("settled":Str) (.l ((List.replicate ds.length (0:Nat)).map f_I)) (fl9 (a_J a ss) (a_W ds))=flds (p_s a ss ds):=by unfold fl9 flds p_s;kernel_rfl
theorem m_k{C:Addr}:∀(l ys:List PyData) (U:a_q),(∃x,U=[x])->ys.length+l.length<=sizeLine->a_V (gNm 0) e_u (d_z C) l ys U=some (ys++(List.replicate l.length (0:Nat)).map f_I)
 | [],ys,U,_,_=>by simp[a_V]
 | d::l,ys,U,⟨x,hx⟩,hl=>by
  subst hx
  simp only[List.length_cons] at hl
  have ih:=m_k (C:=C) l (ys++[.int 0]) [some (.dat d)] ⟨_,rfl⟩ (by simp;omega)
  have he:d_z C [some (.dat d)]=.ok (.int 0) [some (.dat d)]:=by simp[d_z]
  rw[a_V]
  simp[e_u,he,show ys.length<sizeLine by omega,ih,List.replicate_succ]
theorem v_Q{C:Addr}{a:Int}{ss:Sh}{ds:List Deed}(hz:b_j [.dat (a_J a ss)]=.rt (.dat .none) [])(hd:b_q [.dat (a_W ds)]=.rt (.dat .none) [])(hl:ds.length<=6):e_i C [.own true (.o C []),.dat (a_J a ss),.dat (a_W ds)]=.rt (.dat .none) [hB C (p_s a ss ds)]:=by
 have sz:1000<sizeLine:=by decide
 have e0:([]:List (Str×Fl))=fl0 (a_J a ss) (a_W ds):=by unfold fl0;rfl
 have g:=m_k (C:=C) (ds.map b_m) [] [none] ⟨_,rfl⟩ (by simp;omega)
 rw[List.nil_append,List.length_map] at g
 have ed:a_W ds=.tuple (ds.map b_m):=by unfold a_W;rfl
 have p9:=pt9 a ss ds
 rw[e0]
 simp[e_i,f_d,hz,hd,c_N,k_Z,b_5,f_U,l_f,j_A]
 rw[ed] at *
 simp[g,show ds.length<=sizeLine by omega] at p9 ⊢
 exact p9
noncomputable def POk(p:Plan):Prop:=b_i p
theorem n_8{a:Int}{ss:Sh}{p:Plan}{c:Nat}(hl:ss.length<=6)(ok:POk p):b_s [.dat (a_J a ss),.dat (d_J p),.dat (.int c)]=.rt (.dat (k_j (a_5 a ss p c))) []:=k_L hl ok
theorem f_i:PyData.strOk "all" = true:=by decide +kernel
theorem d_q:PyData.strOk "last" = true:=by decide +kernel
theorem h_K:PyData.strOk "within" = true:=by decide +kernel
theorem g_s:PyData.strOk "begun" = true:=by decide +kernel
theorem s_S:PyData.strOk "done" = true:=by decide +kernel
theorem s_U:PyData.strOk "left" = true:=by decide +kernel
theorem o_R:PyData.strOk "unsure" = true:=by decide +kernel
theorem v_t:(("all":Str)==("all":Str))=true:=by decide +kernel
theorem x_g:(("last":Str)==("all":Str))=false:=by decide +kernel
theorem x_1:(("last":Str)==("last":Str))=true:=by decide +kernel
theorem z_G:(("begun":Str)==("begun":Str))=true:=by decide +kernel
theorem z_b:(("done":Str)==("begun":Str))=false:=by decide +kernel
theorem z_g:(("left":Str)==("begun":Str))=false:=by decide +kernel
theorem z_z:(("unsure":Str)==("begun":Str))=false:=by decide +kernel
theorem u_u{l:List PyData}{x:Str}(h:SeqAt.shaped (.tuple l)=true)(hx:PyData.strOk x=true):gEq false (.tuple l) (.str x)=some (.bool false):=by
 simp[gEq,h,g_Z hx,PyData.eqv]
theorem g_K(n:Int):SeqAt.shaped (.tuple [.str "within",.int n])=true:=by
 unfold SeqAt.shaped
 simp[PyData.canLay0,PyData.canLayAll0,PyData.depth,PyData.depthAll,h_K]
noncomputable def m_Z(a:Int)(ss:Sh)(d:Deed)(c:Nat)(now:Int):Bool:=match d.late with
 | .all=>false
 | .last=>(match a_5 a ss d.plan (c+1) with | some v=>decide (v<=now) | none=>false)
 | .within n=>decide (now - g_J a ss d.plan c>n)
theorem n_b{a now:Int}{ss:Sh}{d:Deed}{c:Nat}(hl:ss.length<=6)(ok:POk d.plan)(ht:∃v,a_5 a ss d.plan c=some v):b_o [.dat (a_J a ss),.dat (b_m d),.dat (.int c),.dat (.int now)]=.rt (.dat (.bool (m_Z a ss d c now))) []:=by
 obtain⟨p,la,ag⟩:=d
 obtain⟨v,hv⟩:=ht
 simp only at ok hv
 unfold m_Z
 cases la with
 | all=>simp[b_o,b_Z,a_D f_i f_i,v_t]
 | last=>
  have rt:=n_8 (a:=a) (ss:=ss) (p:=p) (c:=c+1) hl ok
  simp at rt
  cases hn:a_5 a ss p (c+1) with
  | none=>rw[hn] at rt;simp[b_o,b_Z,a_D d_q f_i,a_D d_q d_q,x_g,x_1,rt,k_j,hn]
  | some w=>rw[hn] at rt;simp[b_o,b_Z,a_D d_q f_i,a_D d_q d_q,x_g,x_1,rt,k_j,hn]
 | within n=>
  have rt:=n_8 (a:=a) (ss:=ss) (p:=p) (c:=c) hl ok
  rw[hv] at rt
  simp[b_o,b_Z,u_u (g_K n) f_i,u_u (g_K n) d_q,rt,k_j,g_J,hv]
noncomputable def m_A:List ((Nat×Nat)×Wd)->(Nat×Nat)->Wd->List ((Nat×Nat)×Wd)
 | [],k,w=>[(k,w)]
 | (k',v)::r,k,w=>if k' = k then(k',w)::r else(k',v)::m_A r k w
theorem g_k(d c:Nat):o_v true (.tuple [f_I d,f_I c])=some [Sum.inl (d:Int),Sum.inl (c:Int)]:=rfl
theorem j_2{d c d' c':Nat}:(o_v true (.tuple [f_I d',f_I c'])=some [Sum.inl (d:Int),Sum.inl (c:Int)])↔(d',c')=(d,c):=by
 rw[g_k]
 constructor
 ·intro h
  simp only[Option.some.injEq,List.cons.injEq,Sum.inl.injEq,and_true] at h
  have h1:=h.1
  have h2:=h.2
  have e1:d' = d:=by omega
  have e2:c' = c:=by omega
  rw[e1,e2]
 ·intro h;cases h;rfl
theorem i_C(d c:Nat):∀ws:List ((Nat×Nat)×Wd),k_M true (c_v ws) [Sum.inl (d:Int),Sum.inl (c:Int)]=(ws.lookup (d,c)).map fun w=>.str (wdS w)
 | []=>rfl
 | ((d',c'),w)::r=>by
  unfold c_v
  rw[List.map_cons,k_M]
  have ih:=i_C d c r
  unfold c_v at ih
  by_cases h:(d',c')=(d,c)
  ·rw[if_pos (j_2.mpr h)]
   cases h
   simp[List.lookup]
  ·rw[if_neg (fun z=>h (j_2.mp z)),ih]
   have:((d,c)==(d',c'))=false:=by simpa using fun z:(d=d'/\c=c')=>h (by rw[z.1,z.2])
   rw[List.lookup_cons,this]
theorem e_7(d c:Nat)(w:Wd):∀ws:List ((Nat×Nat)×Wd),(ws.map (·.1)).Nodup->(ws.lookup (d,c)).isSome=true->l_M true [Sum.inl (d:Int),Sum.inl (c:Int)] (.str (wdS w)) (c_v ws)=c_v (m_A ws (d,c) w)
 | [],_,h=>by cases h
 | ((d',c'),v)::r,nd,h=>by
  unfold c_v
  rw[List.map_cons,l_M]
  have tail:∀ws:List ((Nat×Nat)×Wd),(d,c)∉ws.map (·.1)->l_M true [Sum.inl (d:Int),Sum.inl (c:Int)] (.str (wdS w)) (c_v ws)=c_v ws:=by
   intro ws
   induction ws with
   | nil=>intro _;rfl
   | cons p r ih=>
    intro hn
    obtain⟨⟨d2,c2⟩,v2⟩:=p
    simp only[List.map_cons,List.mem_cons,not_or] at hn
    unfold c_v
    rw[List.map_cons,l_M,if_neg (fun z=>hn.1 (j_2.mp z).symm)]
    have:=ih hn.2
    unfold c_v at this
    rw[this]
  by_cases e:(d',c')=(d,c)
  ·cases e
   rw[if_pos (j_2.mpr rfl),m_A,if_pos rfl,List.map_cons]
   have:=tail r (by simpa using(List.nodup_cons.mp nd).1)
   unfold c_v at this
   rw[this]
  ·have h':(r.lookup (d,c)).isSome=true:=by
    have:((d,c)==(d',c'))=false:=by simpa using fun z:(d=d'/\c=c')=>e (by rw[z.1,z.2])
    rw[List.lookup_cons,this] at h
    exact h
   rw[if_neg (fun z=>e (j_2.mp z)),m_A,if_neg e,List.map_cons]
   have:=e_7 d c w r (List.nodup_cons.mp nd).2 h'
   unfold c_v at this
   rw[this]
theorem m_h(k:Nat×Nat)(w:Wd):∀ws:List ((Nat×Nat)×Wd),ws.lookup k=none->m_A ws k w=ws++[(k,w)]
 | [],_=>rfl
 | (k',v)::r,h=>by
  rw[List.lookup_cons] at h
  by_cases e:k=k'
  ·subst e;simp at h
  ·have:(k==k')=false:=by simpa using e
   rw[this] at h
   rw[m_A,if_neg (fun z=>e z.symm),m_h k w r h];rfl
theorem l_w{ws:List ((Nat×Nat)×Wd)}{d c:Nat}{w:Wd}(nd:(ws.map (·.1)).Nodup):h_f true (c_v ws) (.tuple [f_I d,f_I c]) [Sum.inl (d:Int),Sum.inl (c:Int)] (.str (wdS w))=c_v (m_A ws (d,c) w):=by
 unfold h_f
 rw[i_C]
 cases h:ws.lookup (d,c) with
 | none=>rw[m_h _ _ _ h];simp[c_v]
 | some v=>simp only[Option.map_some,Option.isSome_some,if_true];exact e_7 d c w ws nd (by rw[h];rfl)
theorem i_a(k:Nat×Nat)(w:Wd):∀ws:List ((Nat×Nat)×Wd),(m_A ws k w).map (·.1)=if k∈ws.map (·.1) then ws.map (·.1) else ws.map (·.1)++[k]
 | []=>by simp[m_A]
 | (k',v)::r=>by
  rw[m_A]
  by_cases e:k' = k
  ·subst e;simp
  ·rw[if_neg e,List.map_cons,i_a k w r]
   by_cases h:k∈r.map (·.1)
   ·rw[if_pos h];rw[if_pos (by simp[h])];rfl
   ·rw[if_neg h,if_neg (by
     simp only[List.map_cons,List.mem_cons,not_or]
     exact⟨fun z=>e z.symm,h⟩)];rfl
theorem m_O{k:Nat×Nat}{w:Wd}{ws:List ((Nat×Nat)×Wd)}(nd:(ws.map (·.1)).Nodup):((m_A ws k w).map (·.1)).Nodup:=by
 rw[i_a]
 split
 ·exact nd
 ·rename_i h
  exact List.nodup_append.mpr ⟨nd,by simp,fun a ha b hb z=>by simp at hb;subst hb;subst z;exact h ha⟩
theorem p_3(k:Nat×Nat)(w:Wd)(ws:List ((Nat×Nat)×Wd)):(m_A ws k w).length<=ws.length+1:=by
 have:=congrArg List.length (i_a k w ws)
 rw[List.length_map] at this
 rw[this]
 split<;>simp
noncomputable def n_s(S:Hl)(r:Row):Hl:={ S with rows:=S.rows++[r],words:=m_A S.words (r.dd,r.ct) r.wd,begun:=if r.wd=.begun then some (r.dd,r.ct,S.holds) else none,settled:=if r.wd=.begun then S.settled else S.settled.set r.dd (r.ct+1) }
theorem at3'{x y z v:PyData}{l:List PyData}:atI (x::y::z::v::l) 3=some v:=by
 unfold atI ixN
 rw[if_pos (by omega),if_pos (by simp<;>omega)]
 rfl
theorem at4'{x y z v u:PyData}{l:List PyData}:atI (x::y::z::v::u::l) 4=some u:=by
 unfold atI ixN
 rw[if_pos (by omega),if_pos (by simp<;>omega)]
 rfl
theorem o_C(S:Hl)(r:Row):a_0 ("rows":Str) (.l (S.rows.map b_O++[b_O r])) (flds S)=flds { S with rows:=S.rows++[r] }:=by
 rw[show S.rows.map b_O++[b_O r]=(S.rows++[r]).map b_O by simp];exact q_f S _
theorem f_x{C:Addr}{S:Hl}{r:Row}(hr:S.rows.length<1000000)(hw:S.words.length<1000000)(hn:(S.words.map (·.1)).Nodup)(hd:r.dd<S.settled.length):a_L C [.own true (hB C S),.dat (b_O r)]=.rt (.dat (.tuple [.str (wdS r.wd),f_I r.dd,f_I r.ct])) [hB C (n_s S r)]:=by
 have sz:1000000<sizeLine:=by decide
 obtain⟨mo,ru,wd,dd,ct⟩:=r
 have e1:=l_w (ws:=S.words) (d:=dd) (c:=ct) (w:=wd) hn
 have l1:(c_v S.words).length<sizeLine:=by unfold c_v;rw[List.length_map];omega
 have p1:=o_C S ⟨mo,ru,wd,dd,ct⟩
 simp only at hd
 have ix:ixN S.settled.length (dd:Int)=some dd:=by
  unfold ixN
  rw[if_pos (by omega),if_pos (by omega)]
  simp
 have st:(S.settled.map f_I).set dd (.int ((ct:Int)+1))=(S.settled.set dd (ct+1)).map f_I:=by
  rw[List.map_set];simp[f_I]
 unfold n_s
 cases wd
 ·simp[a_L,d_d,at3',at4',f_5,e_9,g_W,show S.rows.length<sizeLine by omega,p1,g_R,g_h,g_k,l1,e1,g_u,c_N,k_Z,b_5,show(3:Nat)<=sizeLine by omega,g_3,g_f,ix,st,a_D g_s g_s,z_G]
 ·simp[a_L,d_d,at3',at4',f_5,e_9,g_W,show S.rows.length<sizeLine by omega,p1,g_R,g_h,g_k,l1,e1,g_u,c_N,k_Z,b_5,show(3:Nat)<=sizeLine by omega,g_3,g_f,ix,st,a_D s_S g_s,z_b]
  rw[<-List.map_set];exact g_e _ _
 ·simp[a_L,d_d,at3',at4',f_5,e_9,g_W,show S.rows.length<sizeLine by omega,p1,g_R,g_h,g_k,l1,e1,g_u,c_N,k_Z,b_5,show(3:Nat)<=sizeLine by omega,g_3,g_f,ix,st,a_D s_U g_s,z_g]
  rw[<-List.map_set];exact g_e _ _
 ·simp[a_L,d_d,at3',at4',f_5,e_9,g_W,show S.rows.length<sizeLine by omega,p1,g_R,g_h,g_k,l1,e1,g_u,c_N,k_Z,b_5,show(3:Nat)<=sizeLine by omega,g_3,g_f,ix,st,a_D o_R g_s,z_z]
  rw[<-List.map_set];exact g_e _ _
structure HOk (S:Hl):Prop where
 z:ZOk S.a S.ss
 dl:S.ds.length<=6
 pl:∀d∈S.ds,POk d.plan
 sl:S.settled.length=S.ds.length
 nd:(S.words.map (·.1)).Nodup
 bg:∀d c h,S.begun=some (d,c,h)->d<S.ds.length
noncomputable def l_H(S:Hl):Bool:=match S.begun with
 | some (_,_,h)=>decide (h=S.holds)
 | none=>false
theorem x_d{n N:Nat}{m:SM}{cs:List Cell}{c:Cell}{U:a_q}{o:List Bx}(hl:cs.length=n)(hm:m (cs.map some++List.replicate (N - n) none)=.rt c U)(ho:c_h cs U=some o):fnM n N m cs=.rt c o:=by
 unfold fnM
 rw[if_pos hl,hm]
 simp only[ho]
theorem v_F{j:Int}(h1:-4611686018427387904<=j)(h2:j<4611686018427387904):rng1 [.int j]=some (L3.intsFrom 0 j.toNat):=by
 show(if _ then _ else _)=_
 rw[if_pos (by rw[decide_eq_true (show -(2 ^ 62)<=j by omega),decide_eq_true (show j<2 ^ 62 by omega)];rfl)]
section
variable{C:Addr}{S:Hl}
theorem i_i:c_2 C [.own true (hB C S)]=.rt (.dat (.bool (l_H S))) [hB C S]:=by
 unfold l_H
 cases h:S.begun with
 | none=>simp[c_2,e_Z,h,m_M]
 | some p=>obtain⟨d,c,k⟩:=p;simp[c_2,e_Z,h,m_M,g_w]
theorem m_e{ds:List Deed}{k:Nat}(h:k<ds.length):a_M (a_W ds) (.int k)=some (b_m ds[k]):=by
 unfold a_W
 have:atI (ds.map b_m) (k:Int)=some (b_m ds[k]):=by
  unfold atI ixN
  rw[if_pos (by omega),if_pos (by simp;omega)]
  simp[h]
 simp[a_M,this]
theorem n_o{l:List Nat}{k:Nat}(h:k<l.length):atI (l.map f_I) (k:Int)=some (f_I l[k]):=by
 unfold atI ixN
 rw[if_pos (by omega),if_pos (by simp;omega)]
 simp[h]
noncomputable def d_a(S:Hl)(k:Nat):Nat:=S.settled.getD k 0
noncomputable def k_s(S:Hl)(k:Nat):Option (List Int):=match S.ds[k]? with
 | some d=>(a_5 S.a S.ss d.plan (d_a S k)).map fun v=>[v,(k:Int),(d_a S k:Int)]
 | none=>none
noncomputable def b_6(S:Hl):List (List Int):=(List.range S.ds.length).filterMap (k_s S)
noncomputable abbrev irow(r:List Int):PyData:=.tuple (r.map PyData.int)
theorem o_E(ok:HOk S):∀(n k:Nat) (fnd:List (List Int)) (x2 x3 x4:Option Cell),k+n=S.ds.length->fnd.length<=k->∃y2 y3 y4,b_8 (gNm 2) (a_y C) (L3.intsFrom (k:Int) n) [some (.own true (hB C S)),some (.own false (.l (fnd.map irow))),x2,x3,x4]=.nx [some (.own true (hB C S)),some (.own false (.l ((fnd++(List.range' k n).filterMap (k_s S)).map irow))),y2,y3,y4]
 | 0,k,fnd,x2,x3,x4,_,_=>⟨x2,x3,x4,by simp[L3.intsFrom,b_8]⟩
 | n+1,k,fnd,x2,x3,x4,hk,hf=>by
  have sz:1000<sizeLine:=by decide
  have hk':k<S.ds.length:=by omega
  have hs:k<S.settled.length:=by rw[ok.sl];exact hk'
  have dl:=ok.dl
  have hp:POk (S.ds[k]).plan:=ok.pl _ (List.getElem_mem hk')
  have ec:d_a S k=S.settled[k]:=by unfold d_a;rw[List.getD_eq_getElem?_getD,List.getElem?_eq_getElem hs];rfl
  have rt:=n_8 (a:=S.a) (ss:=S.ss) (p:=(S.ds[k]).plan) (c:=S.settled[k]) ok.z.len hp
  have as:=n_o (l:=S.settled) hs
  have eu:k_s S k=(a_5 S.a S.ss (S.ds[k]).plan S.settled[k]).map fun v=>[v,(k:Int),((S.settled[k]:Nat):Int)]:=by
   unfold k_s
   rw[List.getElem?_eq_getElem hk',<-ec]
  rw[c_P,b_8,List.range'_succ,List.filterMap_cons,eu]
  cases ht:a_5 S.a S.ss (S.ds[k]).plan S.settled[k] with
  | none=>
   rw[ht] at rt
   have e:a_y C [some (.own true (hB C S)),some (.own false (.l (fnd.map irow))),some (.dat (.int k)),x3,x4]=.nx [some (.own true (hB C S)),some (.own false (.l (fnd.map irow))),some (.dat (.int k)),some (.dat (f_I S.settled[k])),some (.dat .none)]:=by
    simp[-a_M,a_y,k_C,e_9,as,m_e hk']
    simp[rt,k_j]
   obtain⟨y2,y3,y4,ih⟩:=o_E ok n (k+1) fnd (some (.dat (.int k))) (some (.dat (f_I S.settled[k]))) (some (.dat .none)) (by omega) (by omega)
   refine⟨y2,y3,y4,?_⟩
   simp only[Option.map_none]
   rw[<-ih]
   simp[e]
  | some v=>
   rw[ht] at rt
   have e:a_y C [some (.own true (hB C S)),some (.own false (.l (fnd.map irow))),some (.dat (.int k)),x3,x4]=.nx [some (.own true (hB C S)),some (.own false (.l ((fnd++[[v,(k:Int),((S.settled[k]:Nat):Int)]]).map irow))),some (.dat (.int k)),some (.dat (f_I S.settled[k])),some (.dat (.int v))]:=by
    simp[-a_M,a_y,k_C,e_9,as,m_e hk']
    simp[rt,k_j,show fnd.length<sizeLine by omega,show(3:Nat)<=sizeLine by omega]
   obtain⟨y2,y3,y4,ih⟩:=o_E ok n (k+1) (fnd++[[v,(k:Int),((S.settled[k]:Nat):Int)]]) (some (.dat (.int k))) (some (.dat (f_I S.settled[k]))) (some (.dat (.int v))) (by omega) (by simp;omega)
   refine⟨y2,y3,y4,?_⟩
   simp only[Option.map_some]
   rw[List.append_assoc,List.singleton_append] at ih
   rw[<-ih]
   simp[e]
theorem i_U:∀ns:List Int,h_G (ns.map PyData.int)=some ns
 | []=>rfl
 | n::ns=>by rw[List.map_cons,h_G,i_U ns];rfl
theorem i_D:∀rs:List (List Int),h_d (rs.map irow)=some rs
 | []=>rfl
 | r::rs=>by rw[List.map_cons,h_d,i_U,i_D rs]
noncomputable def t_D:List (List Int)->PyData
 | []=>.none
 | r::rs=>irow (d_1 rs r)
theorem v_7:(xCB k_9 (a_f (f_T C 0 "deeds") a_3)) [some (.own true (hB C S)),some (.own false (.l [])),none,none,none]=.ok (.int S.ds.length) [some (.own true (hB C S)),some (.own false (.l [])),none,none,none]:=by
 simp[a_W]
theorem s_Y{U:a_q}{rs:List (List Int)}(h:U[1]? = some (some (.own false (.l (rs.map irow))))):j_9 1 U=.ok (t_D rs) U:=by
 unfold j_9 asO
 rw[h]
 simp only[i_D]
 cases rs<;>rfl
theorem o_n{n:Int}(h0:0<=n)(h1:n<=1000){m:XM PyData}{g:GM}{b:SM}{U U':a_q}(hm:m U=.ok (.int n) U)(hg:b_8 g b (L3.intsFrom 0 n.toNat) U=.nx U'):h_q (iLf rng1 (a_f m a_3)) g b U=.nx U':=by
 have e1:(a_f m a_3) U=.ok [.int n] U:=by
  show Out.bind (m U) _=_
  rw[hm]
  rfl
 have e2:iLf rng1 (a_f m a_3) U=.ok (L3.intsFrom 0 n.toNat) U:=by
  show Out.bind ((a_f m a_3) U) _=_
  rw[e1]
  show L3.lift (rng1 [.int n]) U=_
  rw[v_F (by omega) (by omega)]
  rfl
 show ofX (iLf rng1 (a_f m a_3) U) _=_
 rw[e2]
 exact hg
theorem g_Y(ok:HOk S):c_r C [.own true (hB C S)]=.rt (.dat (t_D (b_6 S))) [hB C S]:=by
 have dl:=ok.dl
 obtain⟨y2,y3,y4,g⟩:=o_E (C:=C) ok S.ds.length 0 [] none none none (by omega) (by simp)
 rw[List.nil_append,<-List.range_eq_range'] at g
 change b_8 _ _ (L3.intsFrom 0 S.ds.length) [_,some (.own false (.l [])),_,_,_]=OutS.nx [_,some (.own false (.l ((b_6 S).map irow))),_,_,_] at g
 have sF:=o_n (m:=xCB k_9 (a_f (f_T C 0 "deeds") a_3)) (by omega) (by omega) (v_7 (C:=C) (S:=S)) (by rw[Int.toNat_natCast];exact g)
 have s1:l_q 1 (l_g a_3) [some (.own true (hB C S)),none,none,none,none]=.nx [some (.own true (hB C S)),some (.own false (.l [])),none,none,none]:=by simp
 have s2:a_O (j_9 1) [some (.own true (hB C S)),some (.own false (.l ((b_6 S).map irow))),y2,y3,y4]=.rt (.dat (t_D (b_6 S))) [some (.own true (hB C S)),some (.own false (.l ((b_6 S).map irow))),y2,y3,y4]:=by
  show ofX (j_9 1 _) _=_
  rw[s_Y rfl]
  rfl
 have s3:(a_h (l_q 1 (l_g a_3)) (a_h (h_q (iLf rng1 (a_f (xCB k_9 (a_f (f_T C 0 "deeds") a_3)) a_3)) (gNm 2) (a_y C)) (a_O (j_9 1)))) [some (.own true (hB C S)),none,none,none,none]=.rt (.dat (t_D (b_6 S))) [some (.own true (hB C S)),some (.own false (.l ((b_6 S).map irow))),y2,y3,y4]:=by
  rw[k_3 s1,k_3 sF,s2]
 exact x_d (n:=1) (N:=5) rfl s3 rfl
end
theorem g_1:∀(rs:List (List Int)) (r:List Int),d_1 rs r=r\/d_1 rs r∈rs
 | [],r=>.inl rfl
 | x::rs,r=>by
  rw[d_1]
  rcases g_1 rs (if HT.lexLt x r=true then x else r) with h | h
  ·rw[h]
   split
   ·exact .inr List.mem_cons_self
   ·exact .inl rfl
  ·exact .inr (Qak _ h)
theorem f_D(ds:List Deed):a_W ds=.tuple (ds.map b_m):=by unfold a_W;rfl
theorem g_v{ds:List Deed}{k:Nat}(h:k<ds.length):atI (ds.map b_m) (k:Int)=some (b_m ds[k]):=by
 unfold atI ixN
 rw[if_pos (by omega),if_pos (by simp;omega)]
 simp[h]
section
variable{C:Addr}{S:Hl}{r m:Int}
theorem o_T{x:List Int}(h:x∈b_6 S):∃k v,∃hk:k<S.ds.length,a_5 S.a S.ss (S.ds[k]).plan (d_a S k)=some v/\x=[v,(k:Int),(d_a S k:Int)]:=by
 unfold b_6 at h
 obtain⟨k,hk,e⟩:=List.mem_filterMap.mp h
 have hk':=List.mem_range.mp hk
 unfold k_s at e
 rw[List.getElem?_eq_getElem hk'] at e
 obtain⟨v,hv,e2⟩:=Option.map_eq_some_iff.mp e
 exact⟨k,v,hk',hv,e2.symm⟩
noncomputable def l_z(S:Hl):Option (Int×Nat):=match b_6 S with
 | []=>none
 | x::xs=>(match d_1 xs x with
  | [v,k,_]=>some (v,k.toNat)
  | _=>none)
theorem m_4(h:l_z S=none):b_6 S=[]:=by
 unfold l_z at h
 cases hu:b_6 S with
 | nil=>rfl
 | cons x xs=>
  rw[hu] at h
  have hm:d_1 xs x∈b_6 S:=by
   rw[hu]
   rcases g_1 xs x with e | e
   ·rw[e];exact List.mem_cons_self
   ·exact Qak _ e
  obtain⟨k,v,hk,_,e⟩:=o_T hm
  simp only[e] at h
  cases h
theorem i_W{v:Int}{k:Nat}(h:l_z S=some (v,k)):∃hk:k<S.ds.length,a_5 S.a S.ss (S.ds[k]).plan (d_a S k)=some v/\∃x xs,b_6 S=x::xs/\d_1 xs x=[v,(k:Int),(d_a S k:Int)]:=by
 unfold l_z at h
 cases hu:b_6 S with
 | nil=>rw[hu] at h;cases h
 | cons x xs=>
  rw[hu] at h
  have hm:d_1 xs x∈b_6 S:=by
   rw[hu]
   rcases g_1 xs x with e | e
   ·rw[e];exact List.mem_cons_self
   ·exact Qak _ e
  obtain⟨k',v',hk,ht,e⟩:=o_T hm
  simp only[e,Option.some.injEq,Prod.mk.injEq,Int.toNat_natCast] at h
  obtain⟨rfl,rfl⟩:=h
  exact⟨hk,ht,x,xs,rfl,e⟩
noncomputable def i_e(S:Hl)(r m:Int):Hl×PyData:=match l_z S with
 | none=>(S,.tuple [.str "idle",.none])
 | some (v,k)=>if m<v then(S,.tuple [.str "idle",.int v]) else
  (match S.ds[k]? with
  | some d=>(n_s S ⟨m,r,if m_Z S.a S.ss d (d_a S k) m=true then .left else .begun,k,d_a S k⟩,.tuple [.str (wdS (if m_Z S.a S.ss d (d_a S k) m=true then .left else .begun)),f_I k,f_I (d_a S k)])
  | none=>(S,.none))
theorem k_i(ok:HOk S)(hr:S.rows.length<1000000)(hw:S.words.length<1000000):a_9 C [.own true (hB C S),.dat (.int r),.dat (.int m)]=.rt (.dat (i_e S r m).2) [hB C (i_e S r m).1]:=by
 have sz:1000000<sizeLine:=by decide
 have fu:=g_Y (C:=C) ok
 unfold i_e
 cases hn:l_z S with
 | none=>
  rw[m_4 hn] at fu
  simp[a_9,b_F,b_P,fu,t_D,show(2:Nat)<=sizeLine by omega]
 | some p=>
  obtain⟨v,k⟩:=p
  obtain⟨hk,ht,x,xs,hu,e⟩:=i_W hn
  rw[hu,t_D,e] at fu
  simp only[irow,List.map_cons,List.map_nil] at fu
  by_cases hv:m<v
  ·simp[a_9,b_F,b_P,fu,hv,show(2:Nat)<=sizeLine by omega]
  ·have lo:=n_b (a:=S.a) (ss:=S.ss) (d:=S.ds[k]) (c:=d_a S k) (now:=m) ok.z.len (ok.pl _ (List.getElem_mem hk)) ⟨v,ht⟩
   simp only[List.getElem?_eq_getElem hk]
   rw[if_neg hv]
   cases hl:m_Z S.a S.ss S.ds[k] (d_a S k) m with
   | true=>
    rw[hl] at lo
    have ar:=f_x (C:=C) (S:=S) (r:=⟨m,r,.left,k,d_a S k⟩) hr hw ok.nd (by rw[ok.sl];exact hk)
    have ar':a_L C [.own true (hB C S),.dat (.tuple [.int m,.int r,.str "left",.int k,.int (d_a S k)])]=.rt (.dat (.tuple [.str "left",.int k,.int (d_a S k)])) [hB C (n_s S ⟨m,r,.left,k,d_a S k⟩)]:=ar
    simp[a_9,b_F,b_P,a_4,c_e,fu,f_D,g_v hk,lo,hv,ar',show(5:Nat)<=sizeLine by omega]
   | false=>
    rw[hl] at lo
    have ar:=f_x (C:=C) (S:=S) (r:=⟨m,r,.begun,k,d_a S k⟩) hr hw ok.nd (by rw[ok.sl];exact hk)
    have ar':a_L C [.own true (hB C S),.dat (.tuple [.int m,.int r,.str "begun",.int k,.int (d_a S k)])]=.rt (.dat (.tuple [.str "begun",.int k,.int (d_a S k)])) [hB C (n_s S ⟨m,r,.begun,k,d_a S k⟩)]:=ar
    simp[a_9,b_F,b_P,a_4,c_e,fu,f_D,g_v hk,lo,hv,ar',show(5:Nat)<=sizeLine by omega]
noncomputable def f_8(S:Hl)(r m:Int)(d c:Nat):Hl×PyData:=match S.ds[d]? with
 | some x=>(n_s S ⟨m,r,if x.again=true then .begun else .unsure,d,c⟩,.tuple [.str (wdS (if x.again=true then .begun else .unsure)),f_I d,f_I c])
 | none=>(S,.none)
theorem j_C{d c:Nat}{h:Int}(ok:HOk S)(hr:S.rows.length<1000000)(hw:S.words.length<1000000)(hb:S.begun=some (d,c,h)):a_P C [.own true (hB C S),.dat (.int r),.dat (.int m)]=.rt (.dat (f_8 S r m d c).2) [hB C (f_8 S r m d c).1]:=by
 have sz:1000000<sizeLine:=by decide
 have hd:=ok.bg d c h hb
 unfold f_8
 simp only[List.getElem?_eq_getElem hd]
 cases ha:(S.ds[d]).again with
 | true=>
  have ar:=f_x (C:=C) (S:=S) (r:=⟨m,r,.begun,d,c⟩) hr hw ok.nd (by rw[ok.sl];exact hd)
  have ar':a_L C [.own true (hB C S),.dat (.tuple [.int m,.int r,.str "begun",.int d,.int c])]=.rt (.dat (.tuple [.str "begun",.int d,.int c])) [hB C (n_s S ⟨m,r,.begun,d,c⟩)]:=ar
  simp[a_P,a_2,a_4,c_e,hb,m_M,f_D,g_v hd,ha,ar',show(5:Nat)<=sizeLine by omega]
 | false=>
  have ar:=f_x (C:=C) (S:=S) (r:=⟨m,r,.unsure,d,c⟩) hr hw ok.nd (by rw[ok.sl];exact hd)
  have ar':a_L C [.own true (hB C S),.dat (.tuple [.int m,.int r,.str "unsure",.int d,.int c])]=.rt (.dat (.tuple [.str "unsure",.int d,.int c])) [hB C (n_s S ⟨m,r,.unsure,d,c⟩)]:=ar
  simp[a_P,a_2,a_4,c_e,hb,m_M,f_D,g_v hd,ha,ar',show(5:Nat)<=sizeLine by omega]
theorem HOk.last(ok:HOk S)(x:Option Int):HOk { S with last:=x }:=⟨ok.z,ok.dl,ok.pl,ok.sl,ok.nd,ok.bg⟩
noncomputable def m_9(S:Hl)(r m:Int):Hl×PyData:=match S.begun with
 | some (d,c,h)=>if h=S.holds then({ S with last:=some m },.tuple [.str "busy",f_I d,f_I c]) else f_8 { S with last:=some m } r m d c
 | none=>i_e { S with last:=some m } r m
theorem u_K(ok:HOk S)(hr:S.rows.length<1000000)(hw:S.words.length<1000000)(hh:a_j C [.own true (hB C S),.dat (.int r),.dat (.int m)]=.rt (.dat .none) [hB C S]):d_s C [.own true (hB C S),.dat (.int r),.dat (.int m)]=.rt (.dat (m_9 S r m).2) [hB C (m_9 S r m).1]:=by
 have sz:1000000<sizeLine:=by decide
 have bz:=i_i (C:=C) (S:={ S with last:=some m })
 unfold l_H at bz
 unfold m_9
 cases hb:S.begun with
 | none=>
  have ra:=k_i (C:=C) (S:={ S with last:=some m }) (r:=r) (m:=m) (ok.last _) hr hw
  simp only[hb] at bz ra ⊢
  simp[d_s,f_K,a_4,b_P,c_e,hh,c_N,k_Z,b_5,bz,hb,m_M,ra]
 | some p=>
  obtain⟨d,c,h⟩:=p
  have rb:=j_C (C:=C) (S:={ S with last:=some m }) (r:=r) (m:=m) (ok.last _) hr hw hb
  simp only[hb] at bz rb ⊢
  by_cases e:h=S.holds
  ·rw[if_pos e]
   rw[decide_eq_true e] at bz
   simp[d_s,f_K,a_4,b_P,c_e,hh,c_N,k_Z,b_5,bz,hb,m_M,show(3:Nat)<=sizeLine by omega]
  ·rw[if_neg e]
   rw[decide_eq_false e] at bz
   simp[d_s,f_K,a_4,b_P,c_e,hh,c_N,k_Z,b_5,bz,hb,m_M,rb]
theorem n_1(hh:a_j C [.own true (hB C S),.dat (.int r),.dat (.int m)]=.rt (.dat .none) [hB C S])(hb:l_H S=false):b_C C [.own true (hB C S),.dat (.int r),.dat (.int m)]=.ex "Nothing" [hB C S]:=by
 have bz:=i_i (C:=C) (S:=S)
 rw[hb] at bz
 simp[b_C,e_N,a_4,b_P,c_e,hh,bz]
theorem p_H{d c:Nat}(ok:HOk S)(hr:S.rows.length<1000000)(hw:S.words.length<1000000)(hh:a_j C [.own true (hB C S),.dat (.int r),.dat (.int m)]=.rt (.dat .none) [hB C S])(hb:S.begun=some (d,c,S.holds)):b_C C [.own true (hB C S),.dat (.int r),.dat (.int m)]=.rt (.dat (.tuple [.str "done",f_I d,f_I c])) [hB C (n_s { S with last:=some m } ⟨m,r,.done,d,c⟩)]:=by
 have sz:1000000<sizeLine:=by decide
 have bz:=i_i (C:=C) (S:=S)
 unfold l_H at bz
 rw[hb] at bz
 simp only[decide_true] at bz
 have hd:=ok.bg d c _ hb
 have ar:=f_x (C:=C) (S:={ S with last:=some m }) (r:=⟨m,r,.done,d,c⟩) hr hw ok.nd (by show d<S.settled.length;rw[ok.sl];exact hd)
 have ar':a_L C [.own true (hB C { S with last:=some m }),.dat (.tuple [.int m,.int r,.str "done",.int d,.int c])]=.rt (.dat (.tuple [.str "done",.int d,.int c])) [hB C (n_s { S with last:=some m } ⟨m,r,.done,d,c⟩)]:=ar
 simp only[hb] at ar'
 simp[b_C,e_N,a_4,b_P,c_e,hh,bz,c_N,k_Z,b_5,hb,m_M,ar',show(5:Nat)<=sizeLine by omega]
end
@[simp] theorem y_S:c_a "tuple" "str" = some false:=by decide
@[simp] theorem y_g:c_a "tuple" "bool" = some false:=by decide
@[simp] theorem y_s:c_a "tuple" "list" = some false:=by decide
@[simp] theorem y_G:c_a "list" "str" = some false:=by decide
@[simp] theorem y_o:c_a "list" "bool" = some false:=by decide
@[simp] theorem x_4:c_a "list" "list" = some true:=by decide
@[simp] theorem y_y:c_a "NoneType" "str" = some false:=by decide
@[simp] theorem y_V:c_a "NoneType" "bool" = some false:=by decide
@[simp] theorem y_Q:c_a "NoneType" "list" = some false:=by decide
@[simp] theorem y_k:c_a "int" "str" = some false:=by decide
@[simp] theorem y_w:c_a "int" "list" = some false:=by decide
@[simp] theorem y_m:c_a "bool" "str" = some false:=by decide
@[simp] theorem y_r:c_a "bool" "list" = some false:=by decide
@[simp] theorem y_q:c_a "str" "bool" = some false:=by decide
@[simp] theorem y_a:c_a "str" "list" = some false:=by decide
noncomputable def h_c:Late->Prop
 | .within n=>0<=n/\n<=999
 | _=>True
theorem o_k{x:Late}(ok:h_c x):e_K [.dat (o_h x)]=.rt (.dat (.bool true)) []:=by
 cases x with
 | all=>simp[e_K,f_j,a_D f_i f_i,v_t]
 | last=>simp[e_K,f_j,a_D d_q f_i,a_D d_q d_q,x_g,x_1]
 | within n=>
  have qw:(("within":Str)==("within":Str))=true:=by decide +kernel
  simp[e_K,f_j,c_z h_K h_K,qw,b_3 (d:=.int n) rfl,isW,ok.1,ok.2]
theorem n_X{d:Deed}(hp:b_i d.plan)(hl:h_c d.late):g_D [.dat (b_m d)]=.rt (.dat (.bool true)) []:=by
 have h1:=k_p hp
 have h2:=o_k hl
 simp[g_D,h_F,c_R,isT,h1,h2]
theorem m_b:∀(ds:List Deed) (ys:List PyData) (U:a_q),(∃x,U=[x])->(∀d∈ds,b_i d.plan/\h_c d.late)->ys.length+ds.length<=sizeLine->a_V (gNm 0) e_u d_R (ds.map b_m) ys U=some (ys++(ds.map fun _=>PyData.bool true))
 | [],ys,U,_,_,_=>by simp[a_V]
 | d::ds,ys,U,⟨x,hx⟩,h,hl=>by
  subst hx
  simp only[List.length_cons] at hl
  have hd:=h d List.mem_cons_self
  have ih:=m_b ds (ys++[.bool true]) [some (.dat (b_m d))] ⟨_,rfl⟩ (fun x hx=>h x (Qak _ hx)) (by simp;omega)
  have he:d_R [some (.dat (b_m d))]=.ok (.bool true) [some (.dat (b_m d))]:=by simp[d_R,n_X hd.1 hd.2]
  rw[List.map_cons,a_V]
  simp[e_u,he,show ys.length<sizeLine by omega,ih]
theorem i_T:∀n:Nat,bools? (List.replicate n (PyData.bool true))=some (List.replicate n true)
 | 0=>rfl
 | n+1=>by rw[List.replicate_succ,bools?,i_T n];rfl
theorem j_n{ds:List Deed}(hl:ds.length<=6)(h:∀d∈ds,b_i d.plan/\h_c d.late):b_q [.dat (a_W ds)]=.rt (.dat .none) []:=by
 have sz:1000<sizeLine:=by decide
 have g:=m_b ds [] [none] ⟨_,rfl⟩ h (by simp;omega)
 rw[List.nil_append,List.map_const'] at g
 have ha:t_B [.list (List.replicate ds.length (PyData.bool true))]=some (.bool true):=by
  simp[t_B,i_T]
 unfold a_W
 simp[-t_B,b_q,e_X,f_9,f_7,g,ha,show ¬ (6:Int)<ds.length by omega,show ds.length<=sizeLine by omega]
inductive Ro where
 | take (r m t:Int) | give (r m:Int)
theorem b_0:PyData.strOk "take" = true:=by decide +kernel
theorem b_2:PyData.strOk "give" = true:=by decide +kernel
theorem r_w:(("take":Str)==("take":Str))=true:=by decide +kernel
theorem p_D:(("give":Str)==("take":Str))=false:=by decide +kernel
theorem s_I:(("give":Str)==("give":Str))=true:=by decide +kernel
noncomputable abbrev Ho:=Int×Int×Int
structure Wk where
 G:List Ho
 who:Option Int
 til:Int
section
variable{C:Addr}{S S':Hl}{w:Wk}{d q r m t c:PyData}
theorem j_T{x w:Str}{rest:List PyData}{n:Int}(hx:PyData.strOk x=true)(hw:PyData.strOk w=true)(hn:gdK [("take",4),("give",3),("step",3),("finish",3)] (.str w)=some (.int n)):d_w [some (.dat (.str w)),some (.dat (.tuple (.str x::rest)))]=.ok (.bool (decide (((rest.length+1:Nat):Int)=n)&&(x==w))) [some (.dat (.str w)),some (.dat (.tuple (.str x::rest)))]:=by
 have h:=c_z (x:=x) (w:=w) (rest:=rest) (n:=n) hx hw
 simp[d_w,hn,h]
end
section
variable{C:Addr}{S S':Hl}{w:Wk}{d q r m t c:PyData}
theorem b_k:PyData.strOk "step" = true:=by decide +kernel
theorem b_x:PyData.strOk "finish" = true:=by decide +kernel
theorem x_w:(("take":Str)==("give":Str))=false:=by decide +kernel
theorem w_G:(("take":Str)==("step":Str))=false:=by decide +kernel
theorem x_K:(("take":Str)==("finish":Str))=false:=by decide +kernel
theorem w_1:(("give":Str)==("step":Str))=false:=by decide +kernel
theorem x_h:(("give":Str)==("finish":Str))=false:=by decide +kernel
theorem n_g:(("step":Str)==("take":Str))=false:=by decide +kernel
theorem t_k:(("step":Str)==("give":Str))=false:=by decide +kernel
theorem s_w:(("step":Str)==("step":Str))=true:=by decide +kernel
theorem x_o:(("step":Str)==("finish":Str))=false:=by decide +kernel
theorem q_l{x:Str}{rest:List PyData}(hx:PyData.strOk x=true):a_V (gNm 0) e_u d_w (l_V ["take","give","step","finish"]) [] [none,some (.dat (.tuple (.str x::rest)))]=some [.bool (decide (((rest.length+1:Nat):Int)=4)&&(x=="take")),.bool (decide (((rest.length+1:Nat):Int)=3)&&(x=="give")),.bool (decide (((rest.length+1:Nat):Int)=3)&&(x=="step")),.bool (decide (((rest.length+1:Nat):Int)=3)&&(x=="finish"))]:=by
 have sz:1000<sizeLine:=by decide
 have i1:=j_T (x:=x) (w:="take") (rest:=rest) (n:=4) hx b_0 (by kernel_rfl)
 have i2:=j_T (x:=x) (w:="give") (rest:=rest) (n:=3) hx b_2 (by kernel_rfl)
 have i3:=j_T (x:=x) (w:="step") (rest:=rest) (n:=3) hx b_k (by kernel_rfl)
 have i4:=j_T (x:=x) (w:="finish") (rest:=rest) (n:=3) hx b_x (by kernel_rfl)
 have e:l_V ["take","give","step","finish"]=[.str "take",.str "give",.str "step",.str "finish"]:=rfl
 rw[e]
 simp only[a_V,gNm,e_u,List.set_cons_zero,i1,i2,i3,i4,List.nil_append,List.cons_append,List.length_nil,List.length_cons]
 rw[if_pos (by omega),if_pos (by omega),if_pos (by omega),if_pos (by omega)]
theorem s_p{a b c:PyData}:a_N [.dat (.tuple [.str "take",a,b,c])]=.rt (.dat .none) []:=by
 have g:=q_l (x:="take") (rest:=[a,b,c]) b_0
 simp only[r_w,x_w,w_G,x_K,List.length_cons,List.length_nil] at g
 simp[a_N,c_t,g,r_P,bools?]
theorem n_O{a b:PyData}:a_N [.dat (.tuple [.str "give",a,b])]=.rt (.dat .none) []:=by
 have g:=q_l (x:="give") (rest:=[a,b]) b_2
 simp only[p_D,s_I,w_1,x_h,List.length_cons,List.length_nil] at g
 simp[a_N,c_t,g,r_P,bools?]
theorem p_g{a b:PyData}:a_N [.dat (.tuple [.str "step",a,b])]=.rt (.dat .none) []:=by
 have g:=q_l (x:="step") (rest:=[a,b]) b_k
 simp only[n_g,t_k,s_w,x_o,List.length_cons,List.length_nil] at g
 simp[a_N,c_t,g,r_P,bools?]
theorem q_s(h:e_Q C [.own true (hB C S),.dat r,.dat m,.dat t]=.rt (.dat d) [hB C S']):f_a C [.own true (hB C S),.dat (.tuple [.str "take",r,m,t])]=.rt (.dat d) [hB C S']:=by
 simp[f_a,j_M,a_D b_0 b_0,r_w,a_4,c_e,h,at3']
theorem p_t(h:e_l C [.own true (hB C S),.dat r,.dat m]=.rt (.dat d) [hB C S']):f_a C [.own true (hB C S),.dat (.tuple [.str "give",r,m])]=.rt (.dat d) [hB C S']:=by
 simp[f_a,j_M,a_D b_2 b_0,p_D,a_D b_2 b_2,s_I,a_4,c_e,h]
theorem l_l{x:Str}(h:e_l C [.own true (hB C S),.dat r,.dat m]=.ex x [hB C S]):f_a C [.own true (hB C S),.dat (.tuple [.str "give",r,m])]=.ex x [hB C S]:=by
 simp[f_a,j_M,a_D b_2 b_0,p_D,a_D b_2 b_2,s_I,a_4,c_e,h]
theorem p_B(h:d_s C [.own true (hB C S),.dat r,.dat m]=.rt (.dat d) [hB C S']):f_a C [.own true (hB C S),.dat (.tuple [.str "step",r,m])]=.rt (.dat d) [hB C S']:=by
 simp[f_a,j_M,a_D b_k b_0,n_g,a_D b_k b_2,t_k,a_D b_k b_k,s_w,a_4,c_e,h]
theorem l_m{x:Str}(h:d_s C [.own true (hB C S),.dat r,.dat m]=.ex x [hB C S]):f_a C [.own true (hB C S),.dat (.tuple [.str "step",r,m])]=.ex x [hB C S]:=by
 simp[f_a,j_M,a_D b_k b_0,n_g,a_D b_k b_2,t_k,a_D b_k b_k,s_w,a_4,c_e,h]
theorem l_1(hc:a_N [.dat c]=.rt (.dat .none) [])(h:f_a C [.own true (hB C S),.dat c]=.rt (.dat d) [hB C S']):r_Q C [.own true (hB C S),.dat c]=.rt (.dat d) [hB C S']:=by
 simp[r_Q,w_o,hc,o_L,h]
theorem m_l{x:Str}(hc:a_N [.dat c]=.rt (.dat .none) [])(h:f_a C [.own true (hB C S),.dat c]=.ex x [hB C S])(hx:x∈exL):r_Q C [.own true (hB C S),.dat c]=.rt (.dat (.str "refused")) [hB C S]:=by
 simp[r_Q,w_o,hc,o_L,h,hx]
end
theorem s_6:("NotHolder":Str)∈exL:=by decide +kernel
theorem s_O{C:Addr}{S:Hl}{r m:Int}(h:a_j C [.own true (hB C S),.dat (.int r),.dat (.int m)]=.rt (.dat .none) [hB C S]):e_l C [.own true (hB C S),.dat (.int r),.dat (.int m)]=.rt (.dat .none) [hB C { S with last:=some m,holder:=none }]:=by
 simp[e_l,h_w,a_4,c_e,h,c_N,k_Z,b_5]
theorem p_V{C:Addr}{S:Hl}{r m:Int}{c:Str}(h:a_j C [.own true (hB C S),.dat (.int r),.dat (.int m)]=.ex c [hB C S]):e_l C [.own true (hB C S),.dat (.int r),.dat (.int m)]=.ex c [hB C S]:=by
 simp[e_l,h_w,a_4,c_e,h]
inductive Ca where
 | take (r m t:Int) | give (r m:Int) | step (r m:Int) | finish (r m:Int)
noncomputable def Ca.mo:Ca->Int
 | .take _ m _=>m
 | .give _ m=>m
 | .step _ m=>m
 | .finish _ m=>m
noncomputable def Ca.ru:Ca->Int
 | .take r _ _=>r
 | .give r _=>r
 | .step r _=>r
 | .finish r _=>r
noncomputable def caD:Ca->PyData
 | .take r m t=>.tuple [.str "take",.int r,.int m,.int t]
 | .give r m=>.tuple [.str "give",.int r,.int m]
 | .step r m=>.tuple [.str "step",.int r,.int m]
 | .finish r m=>.tuple [.str "finish",.int r,.int m]
structure CaOk (c:Ca) (now:Int):Prop where
 r:0<=c.ru/\c.ru<=3
 m:now<=c.mo/\c.mo<=now+12
 t:∀r m t,c=.take r m t->1<=t/\t<=99
structure Ru (S:Hl) (m:Int) (n:Nat):Prop where
 ok:HOk S
 rl:S.rows.length<=n
 wl:S.words.length<=n
 la:∀l,S.last=some l->l<=m
 dr:∀x∈S.rows,∃h:x.dd<S.ds.length,∃v,a_5 S.a S.ss (S.ds[x.dd]).plan x.ct=some v/\v<=x.mo/\x.mo<=m
 bg:∀d c k,S.begun=some (d,c,k)->∃h:d<S.ds.length,∃v,a_5 S.a S.ss (S.ds[d]).plan c=some v/\v<=m
theorem HOk.addQ{S:Hl}(ok:HOk S){r:Row}(h:r.dd<S.ds.length):HOk (n_s S r):=by
 refine⟨ok.z,ok.dl,ok.pl,?_,m_O ok.nd,?_⟩
 ·show(if r.wd=.begun then S.settled else S.settled.set r.dd (r.ct+1)).length=S.ds.length
  split
  ·exact ok.sl
  ·rw[List.length_set];exact ok.sl
 ·intro d c k e
  have e':(if r.wd=.begun then some (r.dd,r.ct,S.holds) else none)=some (d,c,k):=e
  split at e'
  ·cases e';exact h
  ·cases e'
theorem Ru.add{S:Hl}{m:Int}{n:Nat}(p:Ru S m n){r:Row}(h:r.dd<S.ds.length){v:Int}(hv:a_5 S.a S.ss (S.ds[r.dd]).plan r.ct=some v)(h1:v<=r.mo)(h2:r.mo<=m):Ru (n_s S r) m (n+1):=by
 refine⟨p.ok.addQ h,?_,?_,p.la,?_,?_⟩
 ·have:=p.rl
  show(S.rows++[r]).length<=n+1
  simp;omega
 ·have:=p.wl
  have:=p_3 (r.dd,r.ct) r.wd S.words
  show(m_A S.words (r.dd,r.ct) r.wd).length<=n+1
  omega
 ·intro x hx
  rcases List.mem_append.mp hx with hx | hx
  ·exact p.dr x hx
  ·rw[List.mem_singleton.mp hx];exact⟨h,v,hv,h1,h2⟩
 ·intro d c k e
  have e':(if r.wd=.begun then some (r.dd,r.ct,S.holds) else none)=some (d,c,k):=e
  split at e'
  ·cases e';exact⟨h,v,hv,by omega⟩
  ·cases e'
theorem Ru.mono{S:Hl}{m m':Int}{n n':Nat}(p:Ru S m n)(h:m<=m')(hn:n<=n'):Ru S m' n':=
 ⟨p.ok,Nat.le_trans p.rl hn,Nat.le_trans p.wl hn,fun l e=>Int.le_trans (p.la l e) h,fun x hx=>let⟨q,v,e1,e2,e3⟩:=p.dr x hx;⟨q,v,e1,e2,Int.le_trans e3 h⟩,fun d c k e=>let⟨q,v,e1,e2⟩:=p.bg d c k e;⟨q,v,e1,Int.le_trans e2 h⟩⟩
theorem Ru.last{S:Hl}{m m':Int}{n:Nat}(p:Ru S m n)(h:m<=m'):Ru { S with last:=some m' } m' n:=
 let q:=p.mono h (Qae _);⟨q.ok.last _,q.rl,q.wl,fun l e=>by cases e;omega,q.dr,q.bg⟩
theorem Ru.hold{S:Hl}{m m' k u:Int}{n:Nat}{w:Option Int}(p:Ru S m n)(h:m<=m'):Ru { S with last:=some m',holder:=w,til:=u,holds:=k } m' n:=
 let q:=p.mono h (Qae _);⟨⟨q.ok.z,q.ok.dl,q.ok.pl,q.ok.sl,q.ok.nd,q.ok.bg⟩,q.rl,q.wl,fun l e=>by cases e;omega,q.dr,q.bg⟩
theorem v_u{a:Int}{ss:Sh}{ds:List Deed}(z:ZOk a ss)(hl:ds.length<=6)(hd:∀d∈ds,POk d.plan):Ru (p_s a ss ds) 0 0:=
 ⟨⟨z,hl,hd,by simp[p_s],by simp[p_s],fun d c h e=>(by cases e)⟩,by simp[p_s],by simp[p_s],fun l e=>(by cases e),by simp[p_s],fun d c k e=>(by cases e)⟩
theorem t_e{S:Hl}{r m m':Int}{n:Nat}(p:Ru S m n)(h:m<=m'):Ru (m_9 S r m').1 m' (n+1):=by
 have q:=p.last h
 obtain⟨S1,hS⟩:∃S1:Hl,S1 = { S with last:=some m' }:=⟨_,rfl⟩
 rw[<-hS] at q
 have e1:S1.begun=S.begun:=by rw[hS]
 have e2:S1.holds=S.holds:=by rw[hS]
 have e:m_9 S r m' = match S.begun with
   | some (d,c,k)=>if k=S.holds then(S1,.tuple [.str "busy",f_I d,f_I c]) else f_8 S1 r m' d c
   | none=>i_e S1 r m':=by rw[hS];rfl
 rw[e,<-e1,<-e2]
 cases hb:S1.begun with
 | some x=>
  obtain⟨d,c,k⟩:=x
  simp only
  by_cases hk:k=S1.holds
  ·rw[if_pos hk]
   exact q.mono (Int.le_refl _) (by omega)
  ·rw[if_neg hk]
   obtain⟨hd,v,hv,hvm⟩:=q.bg d c k hb
   unfold f_8
   rw[List.getElem?_eq_getElem hd]
   simp only
   exact q.add (r:=⟨m',r,if S1.ds[d].again=true then .begun else .unsure,d,c⟩) hd hv hvm (Int.le_refl _)
 | none=>
  simp only
  unfold i_e
  cases hx:l_z S1 with
  | none=>exact q.mono (Int.le_refl _) (by omega)
  | some x=>
   obtain⟨v,k⟩:=x
   simp only
   by_cases hv:m'<v
   ·rw[if_pos hv]
    exact q.mono (Int.le_refl _) (by omega)
   ·rw[if_neg hv]
    obtain⟨hk,ht,_⟩:=i_W hx
    rw[List.getElem?_eq_getElem hk]
    simp only
    exact q.add (r:=⟨m',r,if m_Z S1.a S1.ss S1.ds[k] (d_a S1 k) m' = true then .left else .begun,k,d_a S1 k⟩) hk ht (by show v<=m';omega) (Int.le_refl _)
section
variable{C:Addr}{S S':Hl}{w:Wk}{d q r m t c:PyData}
theorem o_8:(("finish":Str)==("take":Str))=false:=by decide +kernel
theorem s_e:(("finish":Str)==("give":Str))=false:=by decide +kernel
theorem r_U:(("finish":Str)==("step":Str))=false:=by decide +kernel
theorem x_s:(("finish":Str)==("finish":Str))=true:=by decide +kernel
theorem i_h{a b:PyData}:a_N [.dat (.tuple [.str "finish",a,b])]=.rt (.dat .none) []:=by
 have g:=q_l (x:="finish") (rest:=[a,b]) b_x
 simp only[o_8,s_e,r_U,x_s,List.length_cons,List.length_nil] at g
 simp[a_N,c_t,g,r_P,bools?]
theorem m_3(h:b_C C [.own true (hB C S),.dat r,.dat m]=.rt (.dat d) [hB C S']):f_a C [.own true (hB C S),.dat (.tuple [.str "finish",r,m])]=.rt (.dat d) [hB C S']:=by
 simp[f_a,j_M,a_D b_x b_0,o_8,a_D b_x b_2,s_e,a_D b_x b_k,r_U,a_4,c_e,h]
theorem g_N{x:Str}(h:b_C C [.own true (hB C S),.dat r,.dat m]=.ex x [hB C S]):f_a C [.own true (hB C S),.dat (.tuple [.str "finish",r,m])]=.ex x [hB C S]:=by
 simp[f_a,j_M,a_D b_x b_0,o_8,a_D b_x b_2,s_e,a_D b_x b_k,r_U,a_4,c_e,h]
end
theorem w_R:("Nothing":Str)∈exL:=by decide +kernel
theorem x_J{C:Addr}{S:Hl}{m:Int}{n:Nat}{c:Ca}(p:Ru S m n)(hn:n<900)(hc:CaOk c m)(hm:0<=m/\m<=9000):∃d S',r_Q C [.own true (hB C S),.dat (caD c)]=.rt (.dat d) [hB C S']/\Ru S' c.mo (n+1)/\S'.a=S.a/\S'.ss=S.ss/\S'.ds=S.ds:=by
 have l1:=p.rl
 have l2:=p.wl
 have h9:0<=c.mo/\c.mo<=9999:=by have:=hc.m;omega
 have ck:a_K C [.own true (hB C S),.dat (.int c.ru),.dat (.int c.mo)]=.rt (.dat .none) [hB C S]:=t_j rfl (by have:=hc.r;simp[isW];omega) (by simp[isW];omega) (by
  cases hl:S.last with
  | none=>unfold q_I;rw[hl]
  | some l=>
   have:=p.la l hl
   have:=hc.m
   unfold q_I
   rw[hl]
   exact decide_eq_false (by omega))
 have hd:∀r m',c.ru=r->c.mo=m'->(a_j C [.own true (hB C S),.dat (.int r),.dat (.int m')]=.rt (.dat .none) [hB C S])\/(a_j C [.own true (hB C S),.dat (.int r),.dat (.int m')]=.ex "NotHolder" [hB C S]):=fun r m' e1 e2=>by
  rw[e1,e2] at ck
  cases hb:(e_5 S m'&&decide (S.holder=some r)) with
  | true=>
   rw[Bool.and_eq_true] at hb
   exact .inl (o_I ck hb.1 (of_decide_eq_true hb.2))
  | false=>exact .inr (o_W ck hb)
 have same:Ru S c.mo (n+1):=p.mono hc.m.1 (by omega)
 cases c with
 | take r m' t=>
  have ht:=hc.t r m' t rfl
  refine⟨_,_,l_1 s_p (q_s (u_A ck (by simp[isW];omega))),?_⟩
  unfold q_d
  split
  ·exact⟨(p.hold hc.m.1).mono (Int.le_refl _) (by omega),rfl,rfl,rfl⟩
  ·split
   ·exact⟨(p.hold (k:=S.holds) hc.m.1).mono (Int.le_refl _) (by omega),rfl,rfl,rfl⟩
   ·exact⟨(p.last hc.m.1).mono (Int.le_refl _) (by omega),rfl,rfl,rfl⟩
 | give r m'=>
  rcases hd r m' rfl rfl with h | h
  ·exact⟨_,_,l_1 n_O (p_t (s_O h)),(p.hold (k:=S.holds) (u:=S.til) hc.m.1).mono (Int.le_refl _) (by omega),rfl,rfl,rfl⟩
  ·exact⟨_,_,m_l n_O (l_l (p_V h)) s_6,same,rfl,rfl,rfl⟩
 | step r m'=>
  rcases hd r m' rfl rfl with h | h
  ·refine⟨_,_,l_1 p_g (p_B (u_K p.ok (by omega) (by omega) h)),t_e p hc.m.1,?_⟩
   unfold m_9
   split
   ·split
    ·exact⟨rfl,rfl,rfl⟩
    ·unfold f_8
     split<;>exact⟨rfl,rfl,rfl⟩
   ·unfold i_e
    split
    ·exact⟨rfl,rfl,rfl⟩
    ·split
     ·exact⟨rfl,rfl,rfl⟩
     ·split<;>exact⟨rfl,rfl,rfl⟩
  ·exact⟨_,_,m_l p_g (l_m (s_Q h)) s_6,same,rfl,rfl,rfl⟩
 | finish r m'=>
  rcases hd r m' rfl rfl with h | h
  ·cases hb:l_H S with
   | false=>exact⟨_,_,m_l i_h (g_N (n_1 h hb)) w_R,same,rfl,rfl,rfl⟩
   | true=>
    obtain⟨d,c,e⟩:∃d c,S.begun=some (d,c,S.holds):=by
     unfold l_H at hb
     cases hx:S.begun with
     | none=>rw[hx] at hb;cases hb
     | some x=>
      obtain⟨d,c,k⟩:=x
      rw[hx] at hb
      exact⟨d,c,by rw[of_decide_eq_true hb]⟩
    obtain⟨h1,v,hv,hvm⟩:=p.bg d c _ e
    have hcm:=hc.m.1
    simp only[Ca.mo] at hcm
    exact⟨_,_,l_1 i_h (m_3 (p_H p.ok (by omega) (by omega) h e)),(p.last hc.m.1).add (r:=⟨m',r,.done,d,c⟩) h1 hv (by show v<=m';omega) (Int.le_refl _),rfl,rfl,rfl⟩
  ·exact⟨_,_,m_l i_h (g_N (p_j h)) s_6,same,rfl,rfl,rfl⟩
noncomputable def r_y:Int->List Ca->Prop
 | _,[]=>True
 | l,c::cs=>CaOk c l/\r_y c.mo cs
theorem q_Q{C:Addr}:∀(cs:List Ca) (l:Int) (S:Hl) (n:Nat) (ys:List PyData) (x:Option Cell),r_y l cs->0<=l->l+12 * cs.length<=9000->n+cs.length<900->ys.length+cs.length<1000->Ru S l n->∃S' m' zs y,d_K (gNm 0) e_u (i_Z C) (cs.map caD) ys [x,some (.own true (hB C S))]=some (ys++zs,[y,some (.own true (hB C S'))])/\zs.length=cs.length/\Ru S' m' (n+cs.length)/\l<=m'/\m'<=l+12 * cs.length/\S'.a=S.a/\S'.ss=S.ss/\S'.ds=S.ds
 | [],l,S,n,ys,x,_,_,_,_,_,p=>⟨S,l,[],x,by simp[d_K],rfl,p,by omega,by simp,rfl,rfl,rfl⟩
 | c::cs,l,S,n,ys,x,⟨ok,up⟩,h0,h1,h2,h3,p=>by
  have sz:1000<sizeLine:=by decide
  simp only[List.length_cons] at h1 h2 h3
  obtain⟨d,S1,e1,p1,a1,a2,a3⟩:=x_J (C:=C) p (by omega) ok ⟨h0,by omega⟩
  have hm:=ok.m
  obtain⟨S2,m2,zs,y,e2,z2,p2,m3,m4,b1,b2,b3⟩:=q_Q (C:=C) cs c.mo S1 (n+1) (ys++[d]) (some (.dat (caD c))) up (by omega) (by omega) (by omega) (by simp;omega) p1
  refine⟨S2,m2,d::zs,y,?_,by simp[z2],by rw[show n+(c::cs).length=n+1+cs.length by simp;omega];exact p2,by omega,by simp only[List.length_cons];omega,by rw[b1,a1],by rw[b2,a2],by rw[b3,a3]⟩
  have e:i_Z C [some (.dat (caD c)),some (.own true (hB C S))]=.ok d [some (.dat (caD c)),some (.own true (hB C S1))]:=by
   generalize caD c=cd at e1
   simp[i_Z,e1]
  rw[List.map_cons,d_K]
  simp only[gNm,List.set_cons_zero,e_u,e]
  rw[if_pos (by omega),e2]
  simp
theorem w_C{C:Addr}{a:Int}{ss:Sh}{ds:List Deed}{cs:List Ca}(z:ZOk a ss)(hl:ds.length<=6)(hd:∀d∈ds,POk d.plan)(hz:b_j [.dat (a_J a ss)]=.rt (.dat .none) [])(hk:b_q [.dat (a_W ds)]=.rt (.dat .none) [])(up:r_y 0 cs)(hc:cs.length<250) :
  ∃S zs m,p_G C [.dat (a_J a ss),.dat (a_W ds),.dat (.list (cs.map caD))]=.rt (.own false (.pr C (flds S) (.list zs))) []/\Ru S m cs.length/\m<=12 * cs.length/\S.a=a/\S.ss=ss/\S.ds=ds:=by
 have sz:1000<sizeLine:=by decide
 have i:=v_Q (C:=C) hz hk hl
 obtain⟨S,m,zs,y,e,lz,p,m1,m2,b1,b2,b3⟩:=q_Q (C:=C) cs 0 (p_s a ss ds) 0 [] none up (by omega) (by omega) (by omega) (by simp;omega) (v_u z hl hd)
 rw[Nat.zero_add] at p
 refine⟨S,zs,m,?_,p,by omega,b1,b2,b3⟩
 rw[List.nil_append] at e
 generalize a_J a ss=zd at *
 generalize a_W ds=dd at *
 generalize cs.map caD=cd at *
 simp[p_G,s_z,r_x,n_w,i,n_h,o_J,e_z,h_5,i_I,e,show zs.length<=sizeLine by omega]
theorem l_I{ns:List Int}{t:List PyData}{ds:List Deed}{wd:Int}{x2 x5 x6 x7 x8:Option Cell}(hn:ns.length<=63)(ht:t.length<=700)(hw:0<wd/\wd<=10000)(hm:ds.length<100) :
  ∃d t' y6 y7 y8,b_i d.plan/\h_c d.late/\t'.length<=t.length+7/\c_i [some (.scr ns),some (.own true (.l t)),x2,some (.dat (.int wd)),some (.dat (.tuple (ds.map b_m))),x5,x6,x7,x8]=.nx [some (.scr ns),some (.own true (.l t')),x2,some (.dat (.int wd)),some (.dat (.tuple ((ds++[d]).map b_m))),x5,y6,y7,y8]:=by
 have sz:1000<sizeLine:=by decide
 obtain⟨u,u1,u2,h1⟩:=d_3 (ns:=ns) (t:=t) (many:=9) hn (by omega) (by omega)
 obtain⟨la,hla,h3⟩:=h_2 (ns:=ns) (t:=t++[.int 0]) (ds:=[.str "all",.str "all",.str "last",.tuple [.str "within",.int u]]) hn (by simp;omega) (by simp) (by simp)
 have:∃x:Late,la=o_h x/\h_c x:=by
  simp only[List.mem_cons,List.not_mem_nil,or_false] at hla
  rcases hla with rfl | rfl | rfl | rfl
  ·exact⟨.all,rfl,trivial⟩
  ·exact⟨.all,rfl,trivial⟩
  ·exact⟨.last,rfl,trivial⟩
  ·exact⟨.within u,rfl,by omega,by omega⟩
 obtain⟨x,rfl,hx⟩:=this
 obtain⟨k,k1,k2,h5⟩:=d_3 (ns:=ns) (t:=t++[.int 0]++[.int 0]) (many:=2) hn (by simp;omega) (by omega)
 obtain⟨p,t4,hp,_,l4,h4⟩:=v_e (ns:=ns) (t:=t++[.int 0]++[.int 0]++[.int 0]) (wd:=wd) hn (by simp;omega) hw
 simp only[List.length_append,List.length_cons,List.length_nil] at l4
 simp only[List.append_assoc,List.cons_append,List.nil_append] at h3 h4 h5
 refine⟨⟨p,x,decide (k=0)⟩,t4,some (.dat (.int u)),some (.dat (o_h x)),some (.dat (.bool (decide (k=0)))),hp,hx,by omega,?_⟩
 generalize hP:d_J p=P at *
 generalize hL:o_h x=L at *
 have e:b_m ⟨p,x,decide (k=0)⟩=.tuple [P,L,.bool (decide (k=0))]:=by unfold b_m;rw[hP,hL]
 rw[List.map_append,List.map_singleton,e]
 simp[c_i,h1,h3,h4,h5,g_w,show ds.length+1<=sizeLine by omega]
theorem h_8{ns:List Int}{wd:Int}{x2:Option Cell}(hn:ns.length<=63)(hw:0<wd/\wd<=10000):∀(n:Nat) (i:Int) {t:List PyData}{es:List Deed}{x5 x6 x7 x8:Option Cell},t.length+7 * n<=700->es.length+n<100->∃(ds:List Deed) (t':List PyData) (y5 y6 y7 y8:Option Cell),(∀d∈ds,b_i d.plan/\h_c d.late)/\ds.length=n/\t'.length<=t.length+7 * n/\
   b_8 (gNm 5) c_i (L3.intsFrom i n) [some (.scr ns),some (.own true (.l t)),x2,some (.dat (.int wd)),some (.dat (.tuple (es.map b_m))),x5,x6,x7,x8]=.nx [some (.scr ns),some (.own true (.l t')),x2,some (.dat (.int wd)),some (.dat (.tuple ((es++ds).map b_m))),y5,y6,y7,y8]
 | 0,i,t,es,x5,x6,x7,x8,_,_=>⟨[],t,x5,x6,x7,x8,by simp,rfl,by omega,by simp[L3.intsFrom,b_8]⟩
 | n+1,i,t,es,x5,x6,x7,x8,ht,hm=>by
  obtain⟨d,t1,y6,y7,y8,hp,hl,l1,e⟩:=l_I (ns:=ns) (t:=t) (ds:=es) (wd:=wd) (x2:=x2) (x5:=some (.dat (.int i))) (x6:=x6) (x7:=x7) (x8:=x8) hn (by omega) hw (by omega)
  obtain⟨ds,t2,z5,z6,z7,z8,h2,n2,l2,e2⟩:=h_8 (x2:=x2) hn hw n (i+1) (t:=t1) (es:=es++[d]) (x5:=some (.dat (.int i))) (x6:=y6) (x7:=y7) (x8:=y8) (by omega) (by simp;omega)
  refine⟨d::ds,t2,z5,z6,z7,z8,fun x hx=>?_,by simp[n2],by omega,?_⟩
  ·rcases List.mem_cons.mp hx with rfl | hx
   ·exact⟨hp,hl⟩
   ·exact h2 x hx
  ·rw[show es++d::ds=es++[d]++ds by simp,<-e2,c_P,b_8]
   simp only[gNm,List.length_cons,List.set_cons_succ,List.set_cons_zero,e]
theorem q_n{ns:List Int}{t:List PyData}{most wd:Int}(hn:ns.length<=63)(ht:t.length<=600)(hm:0<=most/\most<=6)(hw:0<wd/\wd<=10000):∃(ds:List Deed) (t':List PyData),(∀d∈ds,b_i d.plan/\h_c d.late)/\(ds.length:Int)<=most/\t'.length<=t.length+50/\e_m [.scr ns,.own true (.l t),.dat (.int most),.dat (.int wd)]=.rt (.dat (a_W ds)) [.l t']:=by
 have sz:1000<sizeLine:=by decide
 obtain⟨k,k1,k2,h2⟩:=d_3 (ns:=ns) (t:=t) (many:=most+1) hn (by omega) (by omega)
 obtain⟨ds,t2,y5,y6,y7,y8,hd,nd,l2,e⟩:=h_8 (ns:=ns) (wd:=wd) (x2:=some (.dat (.int most))) hn hw k.toNat 0 (t:=t++[.int 0]) (es:=[]) (x5:=none) (x6:=none) (x7:=none) (x8:=none) (by simp;omega) (by simp;omega)
 have hr:rng1 [.int k]=some (L3.intsFrom 0 k.toNat):=by simp only[rng1];rw[if_pos (by simp;omega)]
 simp only[List.length_append,List.length_cons,List.length_nil] at l2 nd
 refine⟨ds,t2,hd,by omega,by omega,?_⟩
 rw[List.map_nil,List.nil_append] at e
 unfold a_W
 simp[-rng1,e_m,f_t,h2,hr,e]
theorem l_k{C:Addr}{ns:List Int}{t:List PyData}{cs:List Ca}{m:Int}{x2 x3 x4 x7 x8 x9 x10 x11 x12:Option Cell}(hn:ns.length<=63)(ht:t.length<=900)(hm:0<=m)(hx:cs.length<100) :
  ∃c t' y8 y9 y10,CaOk c m/\t'.length<=t.length+6/\b_f C [some (.scr ns),some (.own true (.l t)),x2,x3,x4,some (.own false (.l (cs.map caD))),some (.dat (.int m)),x7,x8,x9,x10,x11,x12]=.nx [some (.scr ns),some (.own true (.l t')),x2,x3,x4,some (.own false (.l ((cs++[c]).map caD))),some (.dat (.int c.mo)),x7,y8,y9,y10,x11,x12]:=by
 have sz:1000<sizeLine:=by decide
 obtain⟨a,ha,h1⟩:=h_2 (ns:=ns) (t:=t) (ds:=[.int 1,.int 3,.int 12]) hn (by omega) (by simp) (by simp)
 have:∃i:Int,a=.int i/\0<i/\i<=12:=by
  simp only[List.mem_cons,List.not_mem_nil,or_false] at ha
  rcases ha with rfl | rfl | rfl<;>exact⟨_,rfl,by omega,by omega⟩
 obtain⟨i,rfl,i1,i2⟩:=this
 obtain⟨u,u1,u2,h2⟩:=d_3 (ns:=ns) (t:=t++[.int 0]) (many:=i) hn (by simp;omega) i1
 obtain⟨b,hb,h3⟩:=h_2 (ns:=ns) (t:=t++[.int 0]++[.int 0]) (ds:=[.int 1,.int 2,.int 4]) hn (by simp;omega) (by simp) (by simp)
 have:∃j:Int,b=.int j/\0<j/\j<=4:=by
  simp only[List.mem_cons,List.not_mem_nil,or_false] at hb
  rcases hb with rfl | rfl | rfl<;>exact⟨_,rfl,by omega,by omega⟩
 obtain⟨j,rfl,j1,j2⟩:=this
 obtain⟨r,r1,r2,h4⟩:=d_3 (ns:=ns) (t:=t++[.int 0]++[.int 0]++[.int 0]) (many:=j) hn (by simp;omega) j1
 obtain⟨w,hw,h5⟩:=h_2 (ns:=ns) (t:=t++[.int 0]++[.int 0]++[.int 0]++[.int 0]) (ds:=[.str "take",.str "step",.str "step",.str "step",.str "finish",.str "finish",.str "give"]) hn (by simp;omega) (by simp) (by simp)
 obtain⟨v,v1,v2,h6⟩:=d_3 (ns:=ns) (t:=t++[.int 0]++[.int 0]++[.int 0]++[.int 0]++[.int 0]) (many:=30) hn (by simp;omega) (by omega)
 simp only[List.append_assoc,List.cons_append,List.nil_append] at h1 h2 h3 h4 h5 h6
 have lc:(cs.map caD).length<sizeLine:=by rw[List.length_map];omega
 have s7:(7:Nat)<=sizeLine:=by omega
 have fin:∀(wd:Str) (c:Ca) (t':List PyData) (q:PyData),w=.str wd->caD c=q->c.mo=m+u->CaOk c m->t'.length<=t.length+6->(xIf (b_E (xOp (gEq false) (xV 9) (xC (.str "take")))) (xOp k_k (xV 10) (g_O (a_f (xOp g_4 (xC (.int 1)) (b_b (a_o a_r (a_B 0 (a_B 1 (a_p (xC (.int 30)) a_Q)))))) a_3))) (xV 10)) [some (.scr ns),some (.own true (.l (t++[.int 0,.int 0,.int 0,.int 0,.int 0]))),x2,x3,x4,some (.own false (.l (cs.map caD))),some (.dat (.int (m+u))),x7,some (.dat (.int r)),some (.dat (.str wd)),some (.dat (.tuple [.str wd,.int r,.int (m+u)])),x11,x12]=.ok q [some (.scr ns),some (.own true (.l t')),x2,x3,x4,some (.own false (.l (cs.map caD))),some (.dat (.int (m+u))),x7,some (.dat (.int r)),some (.dat (.str wd)),some (.dat (.tuple [.str wd,.int r,.int (m+u)])),x11,x12]->
   ∃c t' y8 y9 y10,CaOk c m/\t'.length<=t.length+6/\b_f C [some (.scr ns),some (.own true (.l t)),x2,x3,x4,some (.own false (.l (cs.map caD))),some (.dat (.int m)),x7,x8,x9,x10,x11,x12]=.nx [some (.scr ns),some (.own true (.l t')),x2,x3,x4,some (.own false (.l ((cs++[c]).map caD))),some (.dat (.int c.mo)),x7,y8,y9,y10,x11,x12]:=fun wd c t' q e1 e2 e3 e4 e5 e6=>by
  refine⟨c,t',some (.dat (.int r)),some (.dat (.str wd)),some (.dat (.tuple [.str wd,.int r,.int (m+u)])),e4,e5,?_⟩
  rw[e1] at h5
  rw[List.map_append,List.map_singleton,e2,e3]
  generalize cs.map caD=L at *
  unfold b_f
  have s1:∀k:SM,a_h (c_Z (xOp g_4 (xV 6) (b_b (a_o a_r (a_B 0 (a_B 1 (a_p (b_b (a_o a_R (a_B 0 (a_B 1 (a_p (h_A (a_f (xC (.int 1)) (a_f (xC (.int 3)) (a_f (xC (.int 12)) a_3)))) a_Q))))) a_Q)))))) (gNm 6)) k [some (.scr ns),some (.own true (.l t)),x2,x3,x4,some (.own false (.l L)),some (.dat (.int m)),x7,x8,x9,x10,x11,x12]=k [some (.scr ns),some (.own true (.l (t++[.int 0,.int 0]))),x2,x3,x4,some (.own false (.l L)),some (.dat (.int (m+u))),x7,x8,x9,x10,x11,x12]:=fun k=>by
   simp[h1,h2]
  have s2:∀k:SM,a_h (c_Z (b_b (a_o a_r (a_B 0 (a_B 1 (a_p (b_b (a_o a_R (a_B 0 (a_B 1 (a_p (h_A (a_f (xC (.int 1)) (a_f (xC (.int 2)) (a_f (xC (.int 4)) a_3)))) a_Q))))) a_Q))))) (gNm 8)) k [some (.scr ns),some (.own true (.l (t++[.int 0,.int 0]))),x2,x3,x4,some (.own false (.l L)),some (.dat (.int (m+u))),x7,x8,x9,x10,x11,x12]=k [some (.scr ns),some (.own true (.l (t++[.int 0,.int 0,.int 0,.int 0]))),x2,x3,x4,some (.own false (.l L)),some (.dat (.int (m+u))),x7,some (.dat (.int r)),x9,x10,x11,x12]:=fun k=>by
   simp[h3,h4]
  have s3:∀k:SM,a_h (c_Z (b_b (a_o a_R (a_B 0 (a_B 1 (a_p (h_A (a_f (xC (.str "take")) (a_f (xC (.str "step")) (a_f (xC (.str "step")) (a_f (xC (.str "step")) (a_f (xC (.str "finish")) (a_f (xC (.str "finish")) (a_f (xC (.str "give")) a_3)))))))) a_Q))))) (gNm 9)) k [some (.scr ns),some (.own true (.l (t++[.int 0,.int 0,.int 0,.int 0]))),x2,x3,x4,some (.own false (.l L)),some (.dat (.int (m+u))),x7,some (.dat (.int r)),x9,x10,x11,x12]=k [some (.scr ns),some (.own true (.l (t++[.int 0,.int 0,.int 0,.int 0,.int 0]))),x2,x3,x4,some (.own false (.l L)),some (.dat (.int (m+u))),x7,some (.dat (.int r)),some (.dat (.str wd)),x10,x11,x12]:=fun k=>by
   simp[h5,s7]
  have s4:∀k:SM,a_h (c_Z (g_O (a_f (xV 9) (a_f (xV 8) (a_f (xV 6) a_3)))) (gNm 10)) k [some (.scr ns),some (.own true (.l (t++[.int 0,.int 0,.int 0,.int 0,.int 0]))),x2,x3,x4,some (.own false (.l L)),some (.dat (.int (m+u))),x7,some (.dat (.int r)),some (.dat (.str wd)),x10,x11,x12]=k [some (.scr ns),some (.own true (.l (t++[.int 0,.int 0,.int 0,.int 0,.int 0]))),x2,x3,x4,some (.own false (.l L)),some (.dat (.int (m+u))),x7,some (.dat (.int r)),some (.dat (.str wd)),some (.dat (.tuple [.str wd,.int r,.int (m+u)])),x11,x12]:=fun k=>by
   simp[show(3:Nat)<=sizeLine by omega]
  rw[s1,s2,s3,s4]
  simp only[r_W,List.getElem?_cons_succ,List.getElem?_cons_zero,e6,ofX,w_f,lc,if_true,List.set_cons_succ,List.set_cons_zero]
 have nt:∀wd:Str,PyData.strOk wd=true->(wd==("take":Str))=false->(xIf (b_E (xOp (gEq false) (xV 9) (xC (.str "take")))) (xOp k_k (xV 10) (g_O (a_f (xOp g_4 (xC (.int 1)) (b_b (a_o a_r (a_B 0 (a_B 1 (a_p (xC (.int 30)) a_Q)))))) a_3))) (xV 10)) [some (.scr ns),some (.own true (.l (t++[.int 0,.int 0,.int 0,.int 0,.int 0]))),x2,x3,x4,some (.own false (.l (cs.map caD))),some (.dat (.int (m+u))),x7,some (.dat (.int r)),some (.dat (.str wd)),some (.dat (.tuple [.str wd,.int r,.int (m+u)])),x11,x12]=.ok (.tuple [.str wd,.int r,.int (m+u)]) [some (.scr ns),some (.own true (.l (t++[.int 0,.int 0,.int 0,.int 0,.int 0]))),x2,x3,x4,some (.own false (.l (cs.map caD))),some (.dat (.int (m+u))),x7,some (.dat (.int r)),some (.dat (.str wd)),some (.dat (.tuple [.str wd,.int r,.int (m+u)])),x11,x12]:=fun wd o1 o2=>by
  generalize cs.map caD=L
  simp[a_D o1 b_0,o2]
 simp only[List.mem_cons,List.not_mem_nil,or_false] at hw
 have five:(t++[PyData.int 0,.int 0,.int 0,.int 0,.int 0]).length<=t.length+6:=by simp
 rcases hw with rfl | rfl | rfl | rfl | rfl | rfl | rfl
 ·refine fin "take" (.take r (m+u) (1+v)) (t++[.int 0,.int 0,.int 0,.int 0,.int 0,.int 0]) _ rfl rfl rfl ⟨⟨r1,by show r<=3;omega⟩,⟨by show m<=m+u;omega,by show m+u<=m+12;omega⟩,fun a b c e=>by cases e;omega⟩ (by simp) ?_
  generalize cs.map caD=L
  simp[a_D b_0 b_0,r_w,h6,caD,show(4:Nat)<=sizeLine by omega]
 ·exact fin "step" (.step r (m+u)) _ _ rfl rfl rfl ⟨⟨r1,by show r<=3;omega⟩,⟨by show m<=m+u;omega,by show m+u<=m+12;omega⟩,fun a b c e=>by cases e⟩ five (nt "step" b_k n_g)
 ·exact fin "step" (.step r (m+u)) _ _ rfl rfl rfl ⟨⟨r1,by show r<=3;omega⟩,⟨by show m<=m+u;omega,by show m+u<=m+12;omega⟩,fun a b c e=>by cases e⟩ five (nt "step" b_k n_g)
 ·exact fin "step" (.step r (m+u)) _ _ rfl rfl rfl ⟨⟨r1,by show r<=3;omega⟩,⟨by show m<=m+u;omega,by show m+u<=m+12;omega⟩,fun a b c e=>by cases e⟩ five (nt "step" b_k n_g)
 ·exact fin "finish" (.finish r (m+u)) _ _ rfl rfl rfl ⟨⟨r1,by show r<=3;omega⟩,⟨by show m<=m+u;omega,by show m+u<=m+12;omega⟩,fun a b c e=>by cases e⟩ five (nt "finish" b_x o_8)
 ·exact fin "finish" (.finish r (m+u)) _ _ rfl rfl rfl ⟨⟨r1,by show r<=3;omega⟩,⟨by show m<=m+u;omega,by show m+u<=m+12;omega⟩,fun a b c e=>by cases e⟩ five (nt "finish" b_x o_8)
 ·exact fin "give" (.give r (m+u)) _ _ rfl rfl rfl ⟨⟨r1,by show r<=3;omega⟩,⟨by show m<=m+u;omega,by show m+u<=m+12;omega⟩,fun a b c e=>by cases e⟩ five (nt "give" b_2 p_D)
theorem m_o:∀(cs:List Ca) (l:Int) (c:Ca),r_y l cs->CaOk c (match cs.getLast? with | some x=>x.mo | none=>l)->r_y l (cs++[c])
 | [],l,c,_,h=>⟨h,trivial⟩
 | x::cs,l,c,⟨h1,h2⟩,h=>⟨h1,m_o cs x.mo c h2 (by
  cases cs with
  | nil=>exact h
  | cons y ys=>
   rw[List.getLast?_cons_cons] at h
   cases hq:(y::ys).getLast? with
   | none=>simp at hq
   | some z=>rw[hq] at h;exact h)⟩
theorem i_c{C:Addr}{ns:List Int}{x2 x3 x4 x11 x12:Option Cell}(hn:ns.length<=63):∀(n:Nat) (i:Int) {t:List PyData}{cs:List Ca}{m:Int}{x7 x8 x9 x10:Option Cell},t.length+6 * n<=900->cs.length+n<100->0<=m->r_y 0 cs->m=(match cs.getLast? with | some x=>x.mo | none=>0)->
  ∃(es:List Ca) (t':List PyData) (m':Int) (y7 y8 y9 y10:Option Cell),r_y 0 es/\es.length=cs.length+n/\t'.length<=t.length+6 * n/\b_8 (gNm 7) (b_f C) (L3.intsFrom i n) [some (.scr ns),some (.own true (.l t)),x2,x3,x4,some (.own false (.l (cs.map caD))),some (.dat (.int m)),x7,x8,x9,x10,x11,x12]=.nx [some (.scr ns),some (.own true (.l t')),x2,x3,x4,some (.own false (.l (es.map caD))),some (.dat (.int m')),y7,y8,y9,y10,x11,x12]
 | 0,i,t,cs,m,x7,x8,x9,x10,_,_,_,up,_=>⟨cs,t,m,x7,x8,x9,x10,up,rfl,by omega,by simp[L3.intsFrom,b_8]⟩
 | n+1,i,t,cs,m,x7,x8,x9,x10,ht,hx,h0,up,hm=>by
  obtain⟨c,t1,y8,y9,y10,ok,l1,e⟩:=l_k (C:=C) (ns:=ns) (t:=t) (cs:=cs) (m:=m) (x2:=x2) (x3:=x3) (x4:=x4) (x7:=some (.dat (.int i))) (x8:=x8) (x9:=x9) (x10:=x10) (x11:=x11) (x12:=x12) hn (by omega) h0 (by omega)
  have hcm:=ok.m
  obtain⟨es,t2,m',z7,z8,z9,z10,u2,n2,l2,e2⟩:=i_c (C:=C) (x2:=x2) (x3:=x3) (x4:=x4) (x11:=x11) (x12:=x12) hn n (i+1) (t:=t1) (cs:=cs++[c]) (m:=c.mo) (x7:=some (.dat (.int i))) (x8:=y8) (x9:=y9) (x10:=y10) (by omega) (by simp;omega) (by omega) (m_o cs 0 c up (by rw[<-hm];exact ok)) (by simp)
  refine⟨es,t2,m',z7,z8,z9,z10,u2,by simp at n2;omega,by omega,?_⟩
  rw[c_P,b_8,<-e2]
  simp only[gNm,List.length_cons,List.set_cons_succ,List.set_cons_zero,e]
theorem q_z{C:Addr}{ns:List Int}{t:List PyData}{a:Int}{ss:Sh}{ds:List Deed}{most:Nat}(hn:ns.length<=63)(ht:t.length<=500)(hm:most<=40)(z:ZOk a ss)(hl:ds.length<=6)(hd:∀d∈ds,POk d.plan)(hz:b_j [.dat (a_J a ss)]=.rt (.dat .none) [])(hk:b_q [.dat (a_W ds)]=.rt (.dat .none) []) :
  ∃S cd m t',c_U C [.scr ns,.own true (.l t),.dat (a_J a ss),.dat (a_W ds),.dat (.int most)]=.rt (.own false (.pr C (flds S) (.list cd))) [.l t']/\Ru S m (most+1)/\m<=12 * (most+1)/\S.a=a/\S.ss=ss/\S.ds=ds/\t'.length<=t.length+300/\cd.length<=most:=by
 have sz:1000<sizeLine:=by decide
 obtain⟨k,k1,k2,h2⟩:=d_3 (ns:=ns) (t:=t) (many:=most+1) hn (by omega) (by omega)
 obtain⟨cs,t2,m',y7,y8,y9,y10,up,nd,l2,e⟩:=i_c (C:=C) (ns:=ns) (x2:=some (.dat (a_J a ss))) (x3:=some (.dat (a_W ds))) (x4:=some (.dat (.int most))) (x11:=none) (x12:=none) hn k.toNat 0 (t:=t++[.int 0]) (cs:=[]) (m:=0) (x7:=none) (x8:=none) (x9:=none) (x10:=none) (by simp;omega) (by simp;omega) (by omega) trivial rfl
 have hr:rng1 [.int k]=some (L3.intsFrom 0 k.toNat):=by simp only[rng1];rw[if_pos (by simp;omega)]
 simp only[List.length_append,List.length_cons,List.length_nil] at l2 nd
 obtain⟨S,zs,m,er,p,hm2,b1,b2,b3⟩:=w_C (C:=C) (cs:=.take 0 0 30::cs) z hl hd hz hk ⟨⟨⟨Int.le_refl _,by show(0:Int)<=3;omega⟩,⟨Int.le_refl _,by show(0:Int)<=0+12;omega⟩,fun r m t e=>by cases e;omega⟩,up⟩ (by simp;omega)
 simp only[List.length_cons] at p hm2
 refine⟨S,cs.map caD,m,t2,?_,p.mono (Int.le_refl _) (by omega),by omega,b1,b2,b3,by omega,by rw[List.length_map];omega⟩
 have lc:1+(cs.map caD).length<=sizeLine:=by rw[List.length_map];omega
 rw[List.map_nil] at e
 rw[List.map_cons] at er
 generalize a_J a ss=zd at *
 generalize a_W ds=dd at *
 generalize cs.map caD=L at *
 simp only[caD] at er
 simp[-rng1,c_U,e_S,h2,hr,e,o_b,o_o,n_h,o_J,e_z,er,lc,show(4:Nat)<=sizeLine by omega,show(1:Nat)<=sizeLine by omega]
theorem o_V:PyData.strOk "done" = true:=by decide +kernel
noncomputable def b_7(a:Int)(ss:Sh)(p:Plan)(k:Nat)(rows:List Row):List Int:=(rows.filter fun x=>decide (x.wd=.done)&&decide (x.dd=k)).map fun x=>x.mo - g_J a ss p x.ct
theorem r_p(w:Wd):PyData.strOk (wdS w)=true:=by cases w<;>decide +kernel
theorem u_V(w:Wd):gEq false (.str (wdS w)) (.str "done")=some (.bool (decide (w=.done))):=by
 rw[a_D (r_p w) o_V]
 cases w<;>kernel_rfl
theorem r_n(x:Row):a_M (b_O x) (.int 0)=some (.int x.mo)/\a_M (b_O x) (.int 2)=some (.str (wdS x.wd))/\a_M (b_O x) (.int 3)=some (.int x.dd)/\a_M (b_O x) (.int 4)=some (.int x.ct):=⟨rfl,rfl,rfl,rfl⟩
theorem n_Y{C:Addr}{a:Int}{ss:Sh}{p:Plan}{k:Nat}(hl:ss.length<=6)(ok:b_i p):∀(rows:List Row) (ys:List PyData) (x:Option Cell),(∀r∈rows,r.dd=k->∃v,a_5 a ss p r.ct=some v)->ys.length+rows.length<=sizeLine->a_V (gNm 0) (d_I C) (e_a C) (rows.map b_O) ys [x,some (.dat (a_J a ss)),some (.dat (d_J p)),some (.dat (.int k))]=some (ys++(b_7 a ss p k rows).map PyData.int)
 | [],ys,x,_,_=>by simp[a_V,b_7]
 | r::rows,ys,x,hv,hs=>by
  simp only[List.length_cons] at hs
  obtain⟨g0,g2,g3,g4⟩:=r_n r
  have ih:=fun ys x h=>n_Y (C:=C) (k:=k) hl ok rows ys x (fun q hq=>hv q (Qak _ hq)) h
  have wc:b_7 a ss p k (r::rows)=if (decide (r.wd=.done)&&decide (r.dd=k))=true then(r.mo - g_J a ss p r.ct)::b_7 a ss p k rows else b_7 a ss p k rows:=by
   unfold b_7
   rw[List.filter_cons]
   split<;>rfl
  have e1:d_I C [some (.dat (b_O r)),some (.dat (a_J a ss)),some (.dat (d_J p)),some (.dat (.int k))]=.ok (decide (r.wd=.done)&&decide (r.dd=k)) [some (.dat (b_O r)),some (.dat (a_J a ss)),some (.dat (d_J p)),some (.dat (.int k))]:=by
   have ew:=u_V r.wd
   generalize b_O r=hr at *
   generalize a_J a ss=zd
   generalize d_J p=pd
   cases hd:decide (r.wd=.done) with
   | true=>
    rw[hd] at ew
    have:(decide ((r.dd:Int)=(k:Int)))=decide (r.dd=k):=by
     by_cases h:r.dd=k
     ·simp[h]
     ·rw[decide_eq_false h,decide_eq_false (by omega)]
    simp[-a_M,d_I,g2,g3,ew,g_w,this]
   | false=>
    rw[hd] at ew
    simp[-a_M,d_I,g2,ew]
  rw[List.map_cons,a_V]
  simp only[gNm,List.set_cons_zero,e1]
  cases hd:(decide (r.wd=.done)&&decide (r.dd=k)) with
  | true=>
   rw[hd] at wc
   rw[Bool.and_eq_true] at hd
   obtain⟨v,ev⟩:=hv r List.mem_cons_self (of_decide_eq_true hd.2)
   have tm:=k_L (a:=a) (ss:=ss) (p:=p) (c:=r.ct) hl ok
   have tv:g_J a ss p r.ct=v:=by unfold g_J;rw[ev];rfl
   rw[ev] at tm
   rw[tv] at wc
   have e2:e_a C [some (.dat (b_O r)),some (.dat (a_J a ss)),some (.dat (d_J p)),some (.dat (.int k))]=.ok (.int (r.mo - v)) [some (.dat (b_O r)),some (.dat (a_J a ss)),some (.dat (d_J p)),some (.dat (.int k))]:=by
    generalize b_O r=hr at *
    generalize a_J a ss=zd at *
    generalize d_J p=pd at *
    simp[-a_M,e_a,g0,g4,tm,k_j]
   simp only[e2]
   rw[if_pos (by omega),ih _ _ (by simp;omega),wc]
   simp
  | false=>
   rw[hd] at wc
   simp only
   rw[ih _ _ (by omega),wc]
   simp
theorem k_Q(a:Int)(ss:Sh)(p:Plan)(k:Nat)(rows:List Row):(b_7 a ss p k rows).length<=rows.length:=by
 unfold b_7;rw[List.length_map];exact List.length_filter_le ..
theorem i_Y{C:Addr}{S:Hl}{k:Nat}{p:Plan}(z:ZOk S.a S.ss)(hk:k<S.ds.length)(h6:S.ds.length<=6)(ok:b_i p)(hv:∀r∈S.rows,r.dd=k->∃v,a_5 S.a S.ss p r.ct=some v)(hr:S.rows.length<900):e_E C [.own true (hB C S),.dat (a_J S.a S.ss),.dat (d_J p),.dat (.int k)]=.rt (.dat (.list ((b_7 S.a S.ss p k S.rows).map PyData.int))) [hB C S]:=by
 have sz:1000<sizeLine:=by decide
 have g:=n_Y (C:=C) (k:=k) z.len ok S.rows [] none hv (by simp only[List.length_nil];omega)
 rw[List.nil_append] at g
 have ll:=k_Q S.a S.ss p k S.rows
 have lz:((b_7 S.a S.ss p k S.rows).map PyData.int).length<=sizeLine:=by rw[List.length_map];omega
 have hz:=h_j z
 have hp:=j_Y ok
 have lg:=r_A (C:=C) (S:=S)
 have hw:=b_3 (d:=.int k) (lo:=0) (hi:=(S.ds.length:Int) - 1) rfl
 have hi:isW (.int (k:Int)) 0 ((S.ds.length:Int) - 1)=true:=by simp[isW];omega
 rw[hi] at hw
 have de:a_W S.ds=.tuple (S.ds.map b_m):=by unfold a_W;rfl
 have ld:((S.ds.map b_m).length:Int)=S.ds.length:=by simp
 generalize (b_7 S.a S.ss p k S.rows).map PyData.int=L at *
 generalize S.rows.map b_O=R at *
 generalize a_J S.a S.ss=zd at *
 generalize d_J p=pd at *
 simp[e_E,g_7,hz,hp,de,hw,b_P,c_e,lg,g,lz]
theorem p_e{C:Addr}{a:Int}{ss:Sh}{p:Plan}{k n:Nat}:∀(rows:List Row) (ys:List PyData) (x:Option Cell),(∀r∈rows,r.dd=k->r.ct<n)->n<=20000->ys.length+rows.length<=sizeLine->a_V (gNm 0) (i_f C) (j_V C) (rows.map b_O) ys [x,some (.dat (.int k)),some (.dat (.list ((c_c a ss p n).map PyData.int)))]=some (ys++(b_7 a ss p k rows).map PyData.int)
 | [],ys,x,_,_,_=>by simp[a_V,b_7]
 | r::rows,ys,x,hv,hn,hs=>by
  simp only[List.length_cons] at hs
  obtain⟨g0,g2,g3,g4⟩:=r_n r
  have ih:=fun ys x h=>p_e (C:=C) (a:=a) (ss:=ss) (p:=p) (k:=k) (n:=n) rows ys x (fun q hq=>hv q (Qak _ hq)) hn h
  have wc:b_7 a ss p k (r::rows)=if (decide (r.wd=.done)&&decide (r.dd=k))=true then(r.mo - g_J a ss p r.ct)::b_7 a ss p k rows else b_7 a ss p k rows:=by
   unfold b_7
   rw[List.filter_cons]
   split<;>rfl
  have e1:i_f C [some (.dat (b_O r)),some (.dat (.int k)),some (.dat (.list ((c_c a ss p n).map PyData.int)))]=.ok (decide (r.wd=.done)&&decide (r.dd=k)) [some (.dat (b_O r)),some (.dat (.int k)),some (.dat (.list ((c_c a ss p n).map PyData.int)))]:=by
   have ew:=u_V r.wd
   generalize b_O r=hr at *
   generalize (c_c a ss p n).map PyData.int=T
   cases hd:decide (r.wd=.done) with
   | true=>
    rw[hd] at ew
    have:(decide ((r.dd:Int)=(k:Int)))=decide (r.dd=k):=by
     by_cases h:r.dd=k
     ·simp[h]
     ·rw[decide_eq_false h,decide_eq_false (by omega)]
    simp[-a_M,i_f,g2,g3,ew,g_w,this]
   | false=>
    rw[hd] at ew
    simp[-a_M,i_f,g2,ew]
  rw[List.map_cons,a_V]
  simp only[gNm,List.set_cons_zero,e1]
  cases hd:(decide (r.wd=.done)&&decide (r.dd=k)) with
  | true=>
   rw[hd] at wc
   rw[Bool.and_eq_true] at hd
   have hc:=hv r List.mem_cons_self (of_decide_eq_true hd.2)
   have gt:a_M (.list ((c_c a ss p n).map PyData.int)) (.int r.ct)=some (.int (g_J a ss p r.ct)):=by
    have:atI ((c_c a ss p n).map PyData.int) (r.ct:Int)=some (.int (g_J a ss p r.ct)):=by
     unfold atI ixN
     rw[if_pos (by omega),if_pos (by simp[c_c];omega)]
     simp[c_c,hc]
    simpa[a_M] using this
   have e2:j_V C [some (.dat (b_O r)),some (.dat (.int k)),some (.dat (.list ((c_c a ss p n).map PyData.int)))]=.ok (.int (r.mo - g_J a ss p r.ct)) [some (.dat (b_O r)),some (.dat (.int k)),some (.dat (.list ((c_c a ss p n).map PyData.int)))]:=by
    generalize b_O r=hr at *
    generalize (c_c a ss p n).map PyData.int=T at *
    simp[-a_M,j_V,g0,g4,gt]
   simp only[e2]
   rw[if_pos (by omega),ih _ _ (by simp;omega),wc]
   simp
  | false=>
   rw[hd] at wc
   simp only
   rw[ih _ _ (by omega),wc]
   simp
theorem t_4(l:List Int)(h:∀x∈l,0<=x)(hn:l≠[]):∃M,p_c [.list (l.map PyData.int)]=some (.int M)/\0<=M:=by
 have e1:ints? (l.map PyData.int)=some l:=L3.ints_map l
 cases l with
 | nil=>exact absurd rfl hn
 | cons i r=>
  obtain⟨h1,h2,h3⟩:=n_R r i
  refine⟨r.foldl min i,by
   show((ints? ((i::r).map PyData.int)).bind lmin).map PyData.int=_
   rw[e1];rfl,?_⟩
  rcases h3 with h3 | h3
  ·rw[h3];exact h i List.mem_cons_self
  ·exact h _ (Qak _ h3)
theorem q_W{ds:List PyData}(sh:SeqAt.shaped (.list ds)=true)(neg:Bool):gEq neg (.list ds) (.list [])=some (.bool (ds.isEmpty != neg)):=by
 have s0:SeqAt.shaped (.list [])=true:=by rfl
 cases ds with
 | nil=>simp[gEq,s0,PyData.eqv,PyData.eqvAll]
 | cons d ds=>simp[gEq,sh,s0,PyData.eqv,PyData.eqvAll]
theorem o_p{C:Addr}{S:Hl}{k:Nat}{m:Int}{n:Nat}{z0 z1 z5 x7 x8 x9 x10 z11:Option Cell}(R:Ru S m n)(hm:m<=600)(hn:n<900)(hk:k<S.ds.length)(hp:∀d∈S.ds,b_i d.plan) :
  ∃y7 y8 y9 y10,g_X C [z0,z1,some (.dat (a_J S.a S.ss)),some (.dat (a_W S.ds)),some (.own false (hB C S)),z5,some (.dat (.int k)),x7,x8,x9,x10,z11]=.nx [z0,z1,some (.dat (a_J S.a S.ss)),some (.dat (a_W S.ds)),some (.own false (hB C S)),z5,some (.dat (.int k)),y7,y8,y9,y10,z11]:=by
 have sz:1000<sizeLine:=by decide
 have z:=R.ok.z
 have h6:=R.ok.dl
 have rl:=R.rl
 have ok:b_i (S.ds[k]).plan:=hp _ (List.getElem_mem hk)
 obtain⟨N,u⟩:=p_y (p:=(S.ds[k]).plan) (last:=600) z ok (by omega)
 obtain⟨c8,f8,e8⟩:=s_H z ok ⟨by omega,by omega⟩ u
 have tv:∀r∈S.rows,r.dd=k->∃v,a_5 S.a S.ss (S.ds[k]).plan r.ct=some v/\v<=r.mo/\r.mo<=m:=fun r hr e=>by
  obtain⟨h1,v,e1,e2,e3⟩:=R.dr r hr
  subst e
  exact⟨v,e1,e2,e3⟩
 have la:=i_Y (C:=C) z hk h6 ok (fun r hr e=>let⟨v,e1,_⟩:=tv r hr e;⟨v,e1⟩) (by omega)
 have wg:=p_e (C:=C) (a:=S.a) (ss:=S.ss) (p:=(S.ds[k]).plan) (k:=k) (n:=N) S.rows [] none (fun r hr e=>by
  obtain⟨v,e1,e2,e3⟩:=tv r hr e
  rcases Nat.lt_or_ge r.ct N with h | h
  ·exact h
  ·have:=j_H z ok u h e1
   omega) u.le (by simp only[List.length_nil];omega)
 rw[List.nil_append] at wg
 have nn:∀x∈b_7 S.a S.ss (S.ds[k]).plan k S.rows,0<=x:=fun x hx=>by
  unfold b_7 at hx
  obtain⟨r,hr,rfl⟩:=List.mem_map.mp hx
  obtain⟨hr1,hr2⟩:=List.mem_filter.mp hr
  rw[Bool.and_eq_true] at hr2
  obtain⟨v,e1,e2,_⟩:=tv r hr1 (of_decide_eq_true hr2.2)
  have:g_J S.a S.ss (S.ds[k]).plan r.ct=v:=by unfold g_J;rw[e1];rfl
  rw[this]
  omega
 have mn:=t_4 _ nn
 have ll:=k_Q S.a S.ss (S.ds[k]).plan k S.rows
 have shL:=l_C (b_7 S.a S.ss (S.ds[k]).plan k S.rows)
 have neL:=p_l shL
 have e0:=q_W shL true
 have lg:=r_A (C:=C) (S:=S)
 have gd:a_M (a_W S.ds) (.int k)=some (b_m S.ds[k]):=by
  have:=g_v hk
  rw[f_D]
  simpa[a_M] using this
 have gp:a_M (b_m S.ds[k]) (.int 0)=some (d_J (S.ds[k]).plan):=rfl
 have le:((b_7 S.a S.ss (S.ds[k]).plan k S.rows).map PyData.int).isEmpty=(b_7 S.a S.ss (S.ds[k]).plan k S.rows).isEmpty:=by cases b_7 S.a S.ss (S.ds[k]).plan k S.rows<;>rfl
 have lz:((b_7 S.a S.ss (S.ds[k]).plan k S.rows).map PyData.int).length<=sizeLine:=by rw[List.length_map];omega
 generalize hL:b_7 S.a S.ss (S.ds[k]).plan k S.rows=L at *
 rw[le] at e0
 generalize (c_c S.a S.ss (S.ds[k]).plan N).map PyData.int=T at *
 generalize d_J (S.ds[k]).plan=pd at *
 generalize b_m S.ds[k]=dd at *
 generalize a_W S.ds=dsd at *
 generalize a_J S.a S.ss=zd at *
 generalize S.rows.map b_O=RR at *
 have fd:∀d,frz (.dat d)=some d:=fun _=>rfl
 refine⟨some (.dat pd),some (.dat (.list T)),some (.dat (.list (L.map PyData.int))),some (.dat (.list (L.map PyData.int))),?_⟩
 cases L with
 | nil=>
  simp only[List.map_nil,List.isEmpty_nil] at *
  simp[-a_M,-frz,fd,g_X,gd,gp,e8,f8,b_P,c_e,e_z,lg,wg,la,neL,e0]
 | cons i r=>
  obtain⟨M,hM,hM0⟩:=mn (by simp)
  generalize (i::r).map PyData.int=V at *
  simp[-a_M,-frz,fd,g_X,gd,gp,e8,f8,b_P,c_e,e_z,lg,wg,lz,la,neL,e0,hM,show ¬ M<0 by omega]
theorem i_M{C:Addr}{S:Hl}{m:Int}{n:Nat}{z0 z1 z5 z11:Option Cell}(R:Ru S m n)(hm:m<=600)(hn:n<900)(hp:∀d∈S.ds,b_i d.plan):∀(j k:Nat) (x6 x7 x8 x9 x10:Option Cell),k+j<=S.ds.length->∃y6 y7 y8 y9 y10,b_8 (gNm 6) (g_X C) (L3.intsFrom k j) [z0,z1,some (.dat (a_J S.a S.ss)),some (.dat (a_W S.ds)),some (.own false (hB C S)),z5,x6,x7,x8,x9,x10,z11]=.nx [z0,z1,some (.dat (a_J S.a S.ss)),some (.dat (a_W S.ds)),some (.own false (hB C S)),z5,y6,y7,y8,y9,y10,z11]
 | 0,k,x6,x7,x8,x9,x10,_=>⟨x6,x7,x8,x9,x10,by simp[L3.intsFrom,b_8]⟩
 | j+1,k,x6,x7,x8,x9,x10,h=>by
  obtain⟨y7,y8,y9,y10,e⟩:=o_p (C:=C) (k:=k) (z0:=z0) (z1:=z1) (z5:=z5) (x7:=x7) (x8:=x8) (x9:=x9) (x10:=x10) (z11:=z11) R hm hn (by omega) hp
  obtain⟨w6,w7,w8,w9,w10,e2⟩:=i_M (C:=C) (z0:=z0) (z1:=z1) (z5:=z5) (z11:=z11) R hm hn hp j (k+1) (some (.dat (.int k))) y7 y8 y9 y10 (by omega)
  refine⟨w6,w7,w8,w9,w10,?_⟩
  rw[c_P,b_8,<-e2]
  simp only[gNm,List.length_cons,List.set_cons_succ,List.set_cons_zero,e]
  rfl
theorem q_2{C:Addr}{S:Hl}{m:Int}{n:Nat}(R:Ru S m n)(hn:n<900)(hp:∀d∈S.ds,b_i d.plan):∀(es:List Deed) (k:Nat) (ys:List PyData) (x0 x1:Option Cell),S.ds.drop k=es->k<=S.ds.length->ys.length+es.length<900->∃y0 y1,d_K (h_s 2 (b_N (gNm 0) (b_N (gNm 1) h_X))) e_u (h_P C) ((es.map b_m).mapIdx fun i d=>PyData.tuple [.int ((k+i:Nat):Int),d]) ys [x0,x1,some (.dat (a_J S.a S.ss)),some (.own true (hB C S))]=some (ys++(List.range' k es.length).map (fun q=>PyData.list ((b_7 S.a S.ss ((S.ds[q]?.map Deed.plan).getD (.once 0)) q S.rows).map PyData.int)),[y0,y1,some (.dat (a_J S.a S.ss)),some (.own true (hB C S))])
 | [],k,ys,x0,x1,_,_,_=>⟨x0,x1,by simp[d_K]⟩
 | e::es,k,ys,x0,x1,he,hk,hl=>by
  have sz:1000<sizeLine:=by decide
  simp only[List.length_cons] at hl
  have z:=R.ok.z
  have h6:=R.ok.dl
  have rl:=R.rl
  have hk':k<S.ds.length:=by
   have:=congrArg List.length he
   simp at this
   omega
  have ek:S.ds[k]=e/\S.ds.drop (k+1)=es:=by
   rw[List.drop_eq_getElem_cons hk'] at he
   exact⟨(List.cons.inj he).1,(List.cons.inj he).2⟩
  have ok:b_i e.plan:=hp _ (by rw[<-ek.1];exact List.getElem_mem hk')
  have la:=i_Y (C:=C) z hk' h6 ok (fun r hr er=>by
   obtain⟨h1,v,e1,e2,e3⟩:=R.dr r hr
   subst er
   exact⟨v,by rw[<-ek.1];exact e1⟩) (by omega)
  obtain⟨y0,y1,ih⟩:=q_2 (C:=C) R hn hp es (k+1) (ys++[.list ((b_7 S.a S.ss e.plan k S.rows).map PyData.int)]) (some (.dat (.int k))) (some (.dat (b_m e))) ek.2 (by omega) (by simp;omega)
  refine⟨y0,y1,?_⟩
  have gp:a_M (b_m e) (.int 0)=some (d_J e.plan):=rfl
  have ee:h_P C [some (.dat (.int k)),some (.dat (b_m e)),some (.dat (a_J S.a S.ss)),some (.own true (hB C S))]=.ok (.list ((b_7 S.a S.ss e.plan k S.rows).map PyData.int)) [some (.dat (.int k)),some (.dat (b_m e)),some (.dat (a_J S.a S.ss)),some (.own true (hB C S))]:=by
   generalize (b_7 S.a S.ss e.plan k S.rows).map PyData.int=L at *
   generalize d_J e.plan=pd at *
   generalize b_m e=dd at *
   generalize a_J S.a S.ss=zd at *
   simp[-a_M,h_P,gp,la]
  have eg:h_s 2 (b_N (gNm 0) (b_N (gNm 1) h_X)) (PyData.tuple [.int (k:Int),b_m e]) [x0,x1,some (.dat (a_J S.a S.ss)),some (.own true (hB C S))]=some [some (.dat (.int k)),some (.dat (b_m e)),some (.dat (a_J S.a S.ss)),some (.own true (hB C S))]:=by simp
  rw[List.map_cons,List.mapIdx_cons,d_K]
  simp only[Nat.add_zero,eg,e_u,ee]
  rw[if_pos (by omega)]
  have e3:((es.map b_m).mapIdx fun i d=>PyData.tuple [.int ((k+(i+1):Nat):Int),d])=(es.map b_m).mapIdx fun i d=>PyData.tuple [.int ((k+1+i:Nat):Int),d]:=by
   congr 1
   funext i d
   rw[show k+(i+1)=k+1+i by omega]
  rw[e3,ih,List.length_cons,List.range'_succ,List.map_cons]
  have:(S.ds[k]?.map Deed.plan).getD (.once 0)=e.plan:=by rw[List.getElem?_eq_getElem hk',ek.1];rfl
  rw[this]
  simp
theorem m_m:∀n:Nat,PyData.canLayAll0 (List.replicate n (.list []))=true
 | 0=>rfl
 | n+1=>by rw[List.replicate_succ];simpa[PyData.canLayAll0,PyData.canLay0] using m_m n
theorem m_s:∀n:Nat,PyData.depthAll (List.replicate n (PyData.list []))<=1
 | 0=>Nat.zero_le _
 | n+1=>by have:=m_s n;rw[List.replicate_succ];simp[PyData.depthAll,PyData.depth];omega
theorem l_S(n:Nat):SeqAt.shaped (.list (List.replicate n (.list [])))=true:=by
 have h2:=m_s n
 unfold SeqAt.shaped
 simp[PyData.canLay0,PyData.depth,m_m n]
 omega
theorem o_H:∀rows:List Row,PyData.canLayAll0 (rows.map b_O)=true
 | []=>rfl
 | r::rows=>by simpa[PyData.canLayAll0,PyData.canLay0,r_p] using o_H rows
theorem o_2:∀rows:List Row,PyData.depthAll (rows.map b_O)<=1
 | []=>Nat.zero_le _
 | r::rows=>by have:=o_2 rows;simp[PyData.depthAll,PyData.depth];omega
theorem m_R(rows:List Row):SeqAt.shaped (.list (rows.map b_O))=true:=by
 have h2:=o_2 rows
 unfold SeqAt.shaped
 simp[PyData.canLay0,PyData.depth,o_H rows]
 omega
theorem numb0(l:List PyData):L3.numbered l=l.mapIdx fun i d=>PyData.tuple [.int ((0+i:Nat):Int),d]:=by
 unfold L3.numbered
 apply List.ext_getElem?
 intro i
 simp
theorem p_5(n:Nat)(h:n<=6):t_s (.list [.list []]) (.int n)=some (.list (List.replicate n (.list []))):=by
 have:n=0\/n=1\/n=2\/n=3\/n=4\/n=5\/n=6:=by omega
 rcases this with rfl | rfl | rfl | rfl | rfl | rfl | rfl<;>kernel_rfl
theorem w_Z(n:Nat)(h:n<=6):rng1 [.int n]=some (L3.intsFrom 0 n):=by
 have:n=0\/n=1\/n=2\/n=3\/n=4\/n=5\/n=6:=by omega
 rcases this with rfl | rfl | rfl | rfl | rfl | rfl | rfl<;>kernel_rfl
theorem s_h{g:PyData->PyData->Option PyData}{a b:XM PyData}{U U1 U2:a_q}{x y z:PyData}(h1:a U=.ok x U1)(h2:b U1=.ok y U2)(h3:g x y=some z):xOp g a b U=.ok z U2:=by simp[h1,h2,h3]
theorem x_M{A B:XM PyData}{U U1:a_q}(h1:A U=.ok (.bool false) U)(h2:B U=.ok (.bool true) U1):a_O (xOr A B) U=.rt (.dat (.bool true)) U1:=by simp[h1,h2]
theorem y_4{A B:XM PyData}{U:a_q}(h1:A U=.ok (.bool true) U):a_O (xOr A B) U=.rt (.dat (.bool true)) U:=by simp[h1]
theorem o_Y{DD:List PyData}{n:Nat}{z0 z1 z2:Option Cell}{r:a_q}(h:DD.length=n):xCB k_9 (a_f (xV 3) a_3) (z0::z1::z2::some (.dat (.tuple DD))::r)=.ok (.int n) (z0::z1::z2::some (.dat (.tuple DD))::r):=by subst h;simp
theorem nils1{U:a_q}:h_A (a_f (h_A a_3) a_3) U=.ok (.list [.list []]) U:=by
 have sz:1000<sizeLine:=by decide
 simp[show(1:Nat)<=sizeLine by omega]
theorem t_M{C:Addr}{S:Hl}{R:List PyData}{z0 z1 z2 z3:Option Cell}{r:a_q}(lg:f_k C [.own true (hB C S)]=.rt (.dat (.list R)) [hB C S]):b_b (b_P C 4 "log" (f_k C)) (z0::z1::z2::z3::some (.own false (hB C S))::r)=.ok (.list R) (z0::z1::z2::z3::some (.own false (hB C S))::r):=by
 simp[b_P,c_e,e_z,lg]
theorem t_P{U:a_q}:h_A a_3 U=.ok (.list []) U:=by simp
theorem p_9{C:Addr}{ns:List Int}(hn:ns.length<=63):t_5 C [.scr ns]=.rt (.dat (.bool true)) []:=by
 have sz:1000<sizeLine:=by decide
 obtain⟨a,ss,t1,h2,s4,rise,ah,top,l1⟩:=u_q (ns:=ns) (t:=[]) (wd:=40) hn (by simp) (by omega)
 simp only[List.length_nil] at l1
 have z:ZOk a ss:=⟨by omega,rise,ah,fun p hp=>by have:=top p hp;omega⟩
 obtain⟨ds,t2,hd,l4,l2,h3⟩:=q_n (ns:=ns) (t:=t1) (most:=4) (wd:=20) hn (by omega) ⟨by omega,by omega⟩ ⟨by omega,by omega⟩
 have hz:=h_j z
 have hk:=j_n (ds:=ds) (by omega) hd
 obtain⟨S,cd,m,t3,h4,R,hm,b1,b2,b3,l3,lcd⟩:=q_z (C:=C) (ns:=ns) (t:=t2) (most:=40) hn (by omega) (by omega) z (by omega) (fun d h=>(hd d h).1) hz hk
 have h4':c_U C [.scr ns,.own true (.l t2),.dat (a_J a ss),.dat (a_W ds),.dat (.int 40)]=.rt (.own false (.pr C (flds S) (.list cd))) [.l t3]:=h4
 subst b1 b2 b3
 have hp:∀d∈S.ds,b_i d.plan:=fun d h=>(hd d h).1
 have h5:d_4 [.scr ns,.own true (.l []),.dat (.int 40)]=.rt (.dat (a_J S.a S.ss)) [.l t1]:=h2
 obtain⟨y6,y7,y8,y9,y10,dg⟩:=i_M (C:=C) (z0:=some (.scr ns)) (z1:=some (.own false (.l t3))) (z5:=some (.dat (.list cd))) (z11:=none) R (by omega) (by omega) hp S.ds.length 0 none none none none none (by omega)
 obtain⟨w0,w1,ag⟩:=q_2 (C:=C) R (by omega) hp S.ds 0 [] none none rfl (by omega) (by simp;omega)
 rw[List.nil_append] at ag
 change b_8 _ _ (L3.intsFrom 0 _) _=_ at dg
 have hr:=w_Z S.ds.length (by omega)
 have de:=f_D S.ds
 have ld:((S.ds.map b_m).length:Int)=S.ds.length:=by simp
 have lg:=r_A (C:=C) (S:=S)
 have nb:=numb0 (S.ds.map b_m)
 have sl:=m_R S.rows
 have e0:=q_W sl true
 have ie:(S.rows.map b_O).isEmpty=S.rows.isEmpty:=by cases S.rows<;>rfl
 rw[ie] at e0
 have lr:((List.range' 0 S.ds.length).map (fun q=>PyData.list ((b_7 S.a S.ss ((S.ds[q]?.map Deed.plan).getD (.once 0)) q S.rows).map PyData.int))).length<=sizeLine:=by simp;omega
 have rp:=p_5 S.ds.length (by omega)
 have nilr:S.rows=[]->(List.range' 0 S.ds.length).map (fun q=>PyData.list ((b_7 S.a S.ss ((S.ds[q]?.map Deed.plan).getD (.once 0)) q S.rows).map PyData.int))=List.replicate S.ds.length (.list []):=fun h=>by
  rw[h]
  apply List.ext_getElem
  ·simp
  ·intro i h1 h2
   simp[b_7]
 have sn:=n_C (l_S S.ds.length)
 generalize (List.range' 0 S.ds.length).map (fun q=>PyData.list ((b_7 S.a S.ss ((S.ds[q]?.map Deed.plan).getD (.once 0)) q S.rows).map PyData.int))=Q at *
 generalize a_J S.a S.ss=zd at *
 generalize S.rows.map b_O=RR at *
 rw[de] at h3 h4' dg
 generalize S.ds.map b_m=DD at *
 have lD:(DD.length:Int)=S.ds.length:=ld
 rw[<-nb] at ag
 refine r_Z (n:=11) ?_
 unfold s_5
 simp only[List.replicate]
 refine f_C (by simp[l_p]<;>rfl) ?_
 refine f_C (by simp[l_Q,h5]<;>rfl) ?_
 refine f_C (by simp[l_X,h3]<;>rfl) ?_
 refine f_C (by simp[l_n,o_b,o_o,h4']<;>rfl) ?_
 have e8:i_4 C [some (.scr ns),some (.own false (.l t3)),some (.dat zd),some (.dat (.tuple DD)),some (.own false (hB C S)),some (.dat (.list cd)),none,none,none,none,none,none]=.nx [some (.scr ns),some (.own false (.l t3)),some (.dat zd),some (.dat (.tuple DD)),some (.own false (hB C S)),some (.dat (.list cd)),y6,y7,y8,y9,y10,none]:=by
  unfold i_4
  exact o_n (m:=xCB k_9 (a_f (xV 3) a_3)) (n:=S.ds.length) (by omega) (by omega) (o_Y (by omega)) (by rw[Int.toNat_natCast];exact dg)
 refine f_C e8 ?_
 have e10:h_x C [some (.scr ns),some (.own false (.l t3)),some (.dat zd),some (.dat (.tuple DD)),some (.own false (hB C S)),some (.dat (.list cd)),y6,y7,y8,y9,y10,none]=.nx [some (.scr ns),some (.own false (.l t3)),some (.dat zd),some (.dat (.tuple DD)),some (.own false (hB C S)),some (.dat (.list cd)),y6,y7,y8,y9,y10,some (.dat (.list Q))]:=by
  have src:iLf t_9 (a_f (xV 3) a_3) [some (.scr ns),some (.own false (.l t3)),some (.dat zd),some (.dat (.tuple DD)),some (.own false (hB C S)),some (.dat (.list cd)),y6,y7,y8,y9,y10,none]=.ok (L3.numbered DD) [some (.scr ns),some (.own false (.l t3)),some (.dat zd),some (.dat (.tuple DD)),some (.own false (hB C S)),some (.dat (.list cd)),y6,y7,y8,y9,y10,none]:=by simp
  generalize L3.numbered DD=NN at ag src
  unfold h_x h_5
  have k:i_I 2 [2,4] 1 4 (h_s 2 (b_N (gNm 0) (b_N (gNm 1) h_X))) e_u (h_P C) NN [some (.scr ns),some (.own false (.l t3)),some (.dat zd),some (.dat (.tuple DD)),some (.own false (hB C S)),some (.dat (.list cd)),y6,y7,y8,y9,y10,none]=.ok (.list Q) [some (.scr ns),some (.own false (.l t3)),some (.dat zd),some (.dat (.tuple DD)),some (.own false (hB C S)),some (.dat (.list cd)),y6,y7,y8,y9,y10,none]:=by
   simp[-h_s,-b_N,i_I,ag,lr]
  show ofX (Out.bind (iLf t_9 (a_f (xV 3) a_3) _) _) _=_
  rw[src]
  simp only[Out.bind,k]
  simp
 refine f_C e10 ?_
 have A:=s_h (g:=gEq true) (t_M (z0:=some (.scr ns)) (z1:=some (.own false (.l t3))) (z2:=some (.dat zd)) (z3:=some (.dat (.tuple DD))) (r:=[some (.dat (.list cd)),y6,y7,y8,y9,y10,some (.dat (.list Q))]) lg) t_P e0
 cases hR:S.rows.isEmpty with
 | false=>
  rw[hR] at A
  exact⟨_,_,y_4 A⟩
 | true=>
  rw[hR] at A
  have hQ:=nilr (List.isEmpty_iff.mp hR)
  have B:=s_h (g:=t_s) (U:=[some (.scr ns),some (.own false (.l t3)),some (.dat zd),some (.dat (.tuple DD)),some (.own false (hB C S)),some (.dat (.list cd)),y6,y7,y8,y9,y10,some (.dat (.list Q))]) nils1 (o_Y (DD:=DD) (n:=S.ds.length) (by omega)) rp
  rw[<-hQ] at B sn
  have v11:xV 11 [some (.scr ns),some (.own false (.l t3)),some (.dat zd),some (.dat (.tuple DD)),some (.own false (hB C S)),some (.dat (.list cd)),y6,y7,y8,y9,y10,some (.dat (.list Q))]=.ok (.list Q) [some (.scr ns),some (.own false (.l t3)),some (.dat zd),some (.dat (.tuple DD)),some (.own false (hB C S)),some (.dat (.list cd)),y6,y7,y8,y9,y10,some (.dat (.list Q))]:=by simp
  exact⟨_,_,x_M A (s_h (g:=gEq false) v11 B sn)⟩
end K3
namespace K3
open PySem PySem.Spec L2 L2.L3 PyProof.Rows
theorem v_B{K:Frag}{mg:Str->Option Value}{f:FM}{vs:List V}{H:Hp}{Q:VK}{E:XK}(hG:GH mg H)(hf:∀ns:List Int,ns.length<=63->f [.scr ns]=.rt (.dat (.bool true)) [])(h:∃a ns,vs=[.ref a]/\Scr K H a ns/\∀H',Q (.bl true) H'):spF K mg f vs H Q E:=by
 obtain⟨a,ns,rfl,hs,q⟩:=h
 refine⟨hG,[.scr ns],[[]],[],.oth (fun _ z=>by cases z) (fun _ _ z=>by cases z) ⟨a,rfl,hs⟩ .nil,List.nodup_nil,fun b hb=>by simp at hb,?_⟩
 rw[hf ns hs.1]
 intro v H' fp fps' hv _ _
 rw[show v=.bl true from DV.bl_inv hv]
 exact q H'
noncomputable def spL(K:Frag):Sp:=fun vs H Q _=>∃a ns,vs=[.ref a]/\Scr K H a ns/\∀H',Q (.bl true) H'
abbrev LK(K:Frag)(f:Addr)(a:Value)(b:Option Addr)(n q:Str)(s:Stmt)(k d p:Value)(e:Option Addr)(c t:Value)(l:Array (Option Value)):Prop:=K.lookup f=some ⟨a,b,.func (fnOf n q (g_6 s) (g_g s) (a_e s) .none k d p e c t),l⟩
abbrev NI(K:Frag)(n:Str)(f:Addr):Prop:=nsIn K mainGlobals n=some (some (.ref f))
abbrev NV(K:Frag)(n:Str)(i:Int)(t:Tok):Prop:=nsIn K mainGlobals n=some (some (.int i t))
abbrev NZ(K:Frag)(n:Str):Prop:=nsIn K mainGlobals n=some none
abbrev KI(K:Frag)(f:Addr):Prop:=keepIn K (.ref f)=true
local macro_rules | `(tactic| walk_at "b")=>`(tactic| first|(exact(fun _ _ _ _ _ _ us hl=>match us,hl with | [_],_=>rfl))|(exact(fun _ _ _ _ _ _ us hl=>match us,hl with | [_,_],_=>rfl))|(exact(fun _ _ _ _ _ _ us hl=>match us,hl with | [_,_,_],_=>rfl))|(exact(fun _ _ _ _ _ _ us hl=>match us,hl with | [_,_,_,_],_=>rfl))|(exact(fun _ _ _ _ _ _ us hl=>match us,hl with | [_,_,_,_,_],_=>rfl)))
theorem all_mk{l:PySem.W.OpenLaw}{w:World}{K:Frag}{h:Heap}{mg:Str->Option Value}{fa:Addr}(X:K.In h)(G:h.Ns mainGlobals mg)(hfa:mg "law" = some (.ref fa))
  {C_:Addr}
  {f0_ f1_ f2_ f3_ f4_ f5_ f6_ f7_ f8_ f9_ f10_ f11_ f12_ f13_ f14_ f15_ f16_ f17_ f18_ f19_ f20_ f21_ f22_ f23_ f24_ f25_ f26_ f27_ f28_ f29_ f30_ f31_ f32_ f33_ f34_ f35_ f36_ f37_ f38_ f39_ f40_ f41_ f42_ f43_ f44_ f45_ f46_ f47_ f48_ f49_ f50_ f51_ f52_ f53_ f54_ f55_ f56_:Addr}{od0 an0 od1 an1 od2 an2 od3 an3 od4 an4 od5 an5 od6 an6 od7 an7 od8 an8 od9 an9 od10 an10 od11 an11 od12 an12 od13 an13 od14 an14 od15 an15 od16 an16 od17 an17 od18 an18 od19 an19 od20 an20 od21 an21 od22 an22 od23 an23 od24 an24 od25 an25 od26 an26 od27 an27 od28 an28 od29 an29 od30 an30 od31 an31 od32 an32 od33 an33 od34 an34 od35 an35 od36 an36 od37 an37 od38 an38 od39 an39 od40 an40 od41 an41 od42 an42 od43 an43 od44 an44 od45 an45 od46 an46 od47 an47 od48 an48 od49 an49 od50 an50 od51 an51 od52 an52 od53 an53 od54 an54 od55 an55 od56 an56:Option Addr}{sl0 sl1 sl2 sl3 sl4 sl5 sl6 sl7 sl8 sl9 sl10 sl11 sl12 sl13 sl14 sl15 sl16 sl17 sl18 sl19 sl20 sl21 sl22 sl23 sl24 sl25 sl26 sl27 sl28 sl29 sl30 sl31 sl32 sl33 sl34 sl35 sl36 sl37 sl38 sl39 sl40 sl41 sl42 sl43 sl44 sl45 sl46 sl47 sl48 sl49 sl50 sl51 sl52 sl53 sl54 sl55 sl56:Array (Option Value)}{oc0 kV0 dc0 pm0 cd0 ct0 oc1 kV1 dc1 pm1 cd1 ct1 oc2 kV2 dc2 pm2 cd2 ct2 oc3 kV3 dc3 pm3 cd3 ct3 oc4 kV4 dc4 pm4 cd4 ct4 oc5 kV5 dc5 pm5 cd5 ct5 oc6 kV6 dc6 pm6 cd6 ct6 oc7 kV7 dc7 pm7 cd7 ct7 oc8 kV8 dc8 pm8 cd8 ct8 oc9 kV9 dc9 pm9 cd9 ct9 oc10 kV10 dc10 pm10 cd10 ct10 oc11 kV11 dc11 pm11 cd11 ct11 oc12 kV12 dc12 pm12 cd12 ct12 oc13 kV13 dc13 pm13 cd13 ct13 oc14 kV14 dc14 pm14 cd14 ct14 oc15 kV15 dc15 pm15 cd15 ct15 oc16 kV16 dc16 pm16 cd16 ct16 oc17 kV17 dc17 pm17 cd17 ct17 oc18 kV18 dc18 pm18 cd18 ct18 oc19 kV19 dc19 pm19 cd19 ct19 oc20 kV20 dc20 pm20 cd20 ct20 oc21 kV21 dc21 pm21 cd21 ct21 oc22 kV22 dc22 pm22 cd22 ct22 oc23 kV23 dc23 pm23 cd23 ct23 oc24 kV24 dc24 pm24 cd24 ct24 oc25 kV25 dc25 pm25 cd25 ct25 oc26 kV26 dc26 pm26 cd26 ct26 oc27 kV27 dc27 pm27 cd27 ct27 oc28 kV28 dc28 pm28 cd28 ct28 oc29 kV29 dc29 pm29 cd29 ct29 oc30 kV30 dc30 pm30 cd30 ct30 oc31 kV31 dc31 pm31 cd31 ct31 oc32 kV32 dc32 pm32 cd32 ct32 oc33 kV33 dc33 pm33 cd33 ct33 oc34 kV34 dc34 pm34 cd34 ct34 oc35 kV35 dc35 pm35 cd35 ct35 oc36 kV36 dc36 pm36 cd36 ct36 oc37 kV37 dc37 pm37 cd37 ct37 oc38 kV38 dc38 pm38 cd38 ct38 oc39 kV39 dc39 pm39 cd39 ct39 oc40 kV40 dc40 pm40 cd40 ct40 oc41 kV41 dc41 pm41 cd41 ct41 oc42 kV42 dc42 pm42 cd42 ct42 oc43 kV43 dc43 pm43 cd43 ct43 oc44 kV44 dc44 pm44 cd44 ct44 oc45 kV45 dc45 pm45 cd45 ct45 oc46 kV46 dc46 pm46 cd46 ct46 oc47 kV47 dc47 pm47 cd47 ct47 oc48 kV48 dc48 pm48 cd48 ct48 oc49 kV49 dc49 pm49 cd49 ct49 oc50 kV50 dc50 pm50 cd50 ct50 oc51 kV51 dc51 pm51 cd51 ct51 oc52 kV52 dc52 pm52 cd52 ct52 oc53 kV53 dc53 pm53 cd53 ct53 oc54 kV54 dc54 pm54 cd54 ct54 oc55 kV55 dc55 pm55 cd55 ct55 oc56 kV56 dc56 pm56 cd56 ct56:Value}
  {t0_ t9_ t4_ t6_ t2_ t7_ t5_ t1_ t3_ t10_ t8_ t12_ t13_ t11_:Tok}
  {gd_LENGTHS:Addr}{ed_LENGTHS:Nat}{td_LENGTHS_0 ud_LENGTHS_0 td_LENGTHS_1 ud_LENGTHS_1 td_LENGTHS_2 ud_LENGTHS_2 td_LENGTHS_3 ud_LENGTHS_3:Tok}
  {D_:Addr}
  (a_Hall:NI K "Hall" C_)
  (a0:NI K "is_whole" f0_)
  (l0:LK K f0_ oc0 od0 "is_whole" "is_whole" d_Z kV0 dc0 pm0 an0 cd0 ct0 sl0)
  (c0:codeIn K cd0 "is_whole" = true)
  (k0:KI K f0_)
  (a1:NI K "is_tuple_of" f1_)
  (l1:LK K f1_ oc1 od1 "is_tuple_of" "is_tuple_of" b_T kV1 dc1 pm1 an1 cd1 ct1 sl1)
  (c1:codeIn K cd1 "is_tuple_of" = true)
  (k1:KI K f1_)
  (a2:NI K "is_ahead" f2_)
  (l2:LK K f2_ oc2 od2 "is_ahead" "is_ahead" d_U kV2 dc2 pm2 an2 cd2 ct2 sl2)
  (c2:codeIn K cd2 "is_ahead" = true)
  (k2:KI K f2_)
  (a3:NI K "is_moment" f3_)
  (l3:LK K f3_ oc3 od3 "is_moment" "is_moment" d_h kV3 dc3 pm3 an3 cd3 ct3 sl3)
  (c3:codeIn K cd3 "is_moment" = true)
  (k3:KI K f3_)
  (a4:NI K "is_runner" f4_)
  (l4:LK K f4_ oc4 od4 "is_runner" "is_runner" c_5 kV4 dc4 pm4 an4 cd4 ct4 sl4)
  (c4:codeIn K cd4 "is_runner" = true)
  (k4:KI K f4_)
  (a5:NI K "is_term" f5_)
  (l5:LK K f5_ oc5 od5 "is_term" "is_term" e_D kV5 dc5 pm5 an5 cd5 ct5 sl5)
  (c5:codeIn K cd5 "is_term" = true)
  (k5:KI K f5_)
  (a6:NI K "are_shifts" f6_)
  (l6:LK K f6_ oc6 od6 "are_shifts" "are_shifts" c_G kV6 dc6 pm6 an6 cd6 ct6 sl6)
  (c6:codeIn K cd6 "are_shifts" = true)
  (k6:KI K f6_)
  (a7:NI K "is_zone" f7_)
  (l7:LK K f7_ oc7 od7 "is_zone" "is_zone" e_C kV7 dc7 pm7 an7 cd7 ct7 sl7)
  (c7:codeIn K cd7 "is_zone" = true)
  (k7:KI K f7_)
  (a8:NI K "has_word" f8_)
  (l8:LK K f8_ oc8 od8 "has_word" "has_word" d_V kV8 dc8 pm8 an8 cd8 ct8 sl8)
  (c8:codeIn K cd8 "has_word" = true)
  (k8:KI K f8_)
  (a9:NI K "is_plan" f9_)
  (l9:LK K f9_ oc9 od9 "is_plan" "is_plan" e_J kV9 dc9 pm9 an9 cd9 ct9 sl9)
  (c9:codeIn K cd9 "is_plan" = true)
  (k9:KI K f9_)
  (a10:NI K "is_late" f10_)
  (l10:LK K f10_ oc10 od10 "is_late" "is_late" e_P kV10 dc10 pm10 an10 cd10 ct10 sl10)
  (c10:codeIn K cd10 "is_late" = true)
  (k10:KI K f10_)
  (a11:NI K "is_deed" f11_)
  (l11:LK K f11_ oc11 od11 "is_deed" "is_deed" e_G kV11 dc11 pm11 an11 cd11 ct11 sl11)
  (c11:codeIn K cd11 "is_deed" = true)
  (k11:KI K f11_)
  (a12:NI K "are_deeds" f12_)
  (l12:LK K f12_ oc12 od12 "are_deeds" "are_deeds" d_n kV12 dc12 pm12 an12 cd12 ct12 sl12)
  (c12:codeIn K cd12 "are_deeds" = true)
  (k12:KI K f12_)
  (a13:NI K "check_zone" f13_)
  (l13:LK K f13_ oc13 od13 "check_zone" "check_zone" c_I kV13 dc13 pm13 an13 cd13 ct13 sl13)
  (c13:codeIn K cd13 "check_zone" = true)
  (k13:KI K f13_)
  (a14:NI K "check_plan" f14_)
  (l14:LK K f14_ oc14 od14 "check_plan" "check_plan" c_L kV14 dc14 pm14 an14 cd14 ct14 sl14)
  (c14:codeIn K cd14 "check_plan" = true)
  (k14:KI K f14_)
  (a15:NI K "check_moment" f15_)
  (l15:LK K f15_ oc15 od15 "check_moment" "check_moment" b_z kV15 dc15 pm15 an15 cd15 ct15 sl15)
  (c15:codeIn K cd15 "check_moment" = true)
  (k15:KI K f15_)
  (a16:NI K "check_deeds" f16_)
  (l16:LK K f16_ oc16 od16 "check_deeds" "check_deeds" b_U kV16 dc16 pm16 an16 cd16 ct16 sl16)
  (c16:codeIn K cd16 "check_deeds" = true)
  (k16:KI K f16_)
  (a17:NI K "check_runner" f17_)
  (l17:LK K f17_ oc17 od17 "check_runner" "check_runner" b_w kV17 dc17 pm17 an17 cd17 ct17 sl17)
  (c17:codeIn K cd17 "check_runner" = true)
  (k17:KI K f17_)
  (a18:NI K "check_term" f18_)
  (l18:LK K f18_ oc18 od18 "check_term" "check_term" c_J kV18 dc18 pm18 an18 cd18 ct18 sl18)
  (c18:codeIn K cd18 "check_term" = true)
  (k18:KI K f18_)
  (a19:NI K "shown" f19_)
  (l19:LK K f19_ oc19 od19 "shown" "shown" g_P kV19 dc19 pm19 an19 cd19 ct19 sl19)
  (c19:codeIn K cd19 "shown" = true)
  (k19:KI K f19_)
  (a20:NI K "stretches" f20_)
  (l20:LK K f20_ oc20 od20 "stretches" "stretches" c_3 kV20 dc20 pm20 an20 cd20 ct20 sl20)
  (c20:codeIn K cd20 "stretches" = true)
  (k20:KI K f20_)
  (a21:NI K "is_ahead_of" f21_)
  (l21:LK K f21_ oc21 od21 "is_ahead_of" "is_ahead_of" b_Y kV21 dc21 pm21 an21 cd21 ct21 sl21)
  (c21:codeIn K cd21 "is_ahead_of" = true)
  (k21:KI K f21_)
  (a22:NI K "first_showing" f22_)
  (l22:LK K f22_ oc22 od22 "first_showing" "first_showing" b_d kV22 dc22 pm22 an22 cd22 ct22 sl22)
  (c22:codeIn K cd22 "first_showing" = true)
  (k22:KI K f22_)
  (a23:NI K "first_day" f23_)
  (l23:LK K f23_ oc23 od23 "first_day" "first_day" c_7 kV23 dc23 pm23 an23 cd23 ct23 sl23)
  (c23:codeIn K cd23 "first_day" = true)
  (k23:KI K f23_)
  (a24:NI K "daily_time" f24_)
  (l24:LK K f24_ oc24 od24 "daily_time" "daily_time" c_w kV24 dc24 pm24 an24 cd24 ct24 sl24)
  (c24:codeIn K cd24 "daily_time" = true)
  (k24:KI K f24_)
  (a25:NI K "time_of" f25_)
  (l25:LK K f25_ oc25 od25 "time_of" "time_of" e_H kV25 dc25 pm25 an25 cd25 ct25 sl25)
  (c25:codeIn K cd25 "time_of" = true)
  (k25:KI K f25_)
  (a26:NI K "lateness" f26_)
  (l26:LK K f26_ oc26 od26 "lateness" "lateness" d_X kV26 dc26 pm26 an26 cd26 ct26 sl26)
  (c26:codeIn K cd26 "lateness" = true)
  (k26:KI K f26_)
  (a27:NI K "is_left_out" f27_)
  (l27:LK K f27_ oc27 od27 "is_left_out" "is_left_out" b_X kV27 dc27 pm27 an27 cd27 ct27 sl27)
  (c27:codeIn K cd27 "is_left_out" = true)
  (k27:KI K f27_)
  (a28:findIn K (.ref C_) "__init__" = some (some (.ref f28_)))
  (i28:isFn K (.ref f28_)=true)
  (l28:LK K f28_ oc28 od28 "__init__" "Hall.__init__" c_y kV28 dc28 pm28 an28 cd28 ct28 sl28)
  (c28:codeIn K cd28 "Hall.__init__" = true)
  (k28:KI K f28_)
  (a29:findIn K (.ref C_) "is_held" = some (some (.ref f29_)))
  (i29:isFn K (.ref f29_)=true)
  (l29:LK K f29_ oc29 od29 "is_held" "Hall.is_held" c_8 kV29 dc29 pm29 an29 cd29 ct29 sl29)
  (c29:codeIn K cd29 "Hall.is_held" = true)
  (k29:KI K f29_)
  (a30:findIn K (.ref C_) "check_call" = some (some (.ref f30_)))
  (i30:isFn K (.ref f30_)=true)
  (l30:LK K f30_ oc30 od30 "check_call" "Hall.check_call" b_B kV30 dc30 pm30 an30 cd30 ct30 sl30)
  (c30:codeIn K cd30 "Hall.check_call" = true)
  (k30:KI K f30_)
  (a31:findIn K (.ref C_) "check_holder" = some (some (.ref f31_)))
  (i31:isFn K (.ref f31_)=true)
  (l31:LK K f31_ oc31 od31 "check_holder" "Hall.check_holder" a_6 kV31 dc31 pm31 an31 cd31 ct31 sl31)
  (c31:codeIn K cd31 "Hall.check_holder" = true)
  (k31:KI K f31_)
  (a32:findIn K (.ref C_) "take" = some (some (.ref f32_)))
  (i32:isFn K (.ref f32_)=true)
  (l32:LK K f32_ oc32 od32 "take" "Hall.take" f_F kV32 dc32 pm32 an32 cd32 ct32 sl32)
  (c32:codeIn K cd32 "Hall.take" = true)
  (k32:KI K f32_)
  (a33:findIn K (.ref C_) "give" = some (some (.ref f33_)))
  (i33:isFn K (.ref f33_)=true)
  (l33:LK K f33_ oc33 od33 "give" "Hall.give" f_B kV33 dc33 pm33 an33 cd33 ct33 sl33)
  (c33:codeIn K cd33 "Hall.give" = true)
  (k33:KI K f33_)
  (a34:findIn K (.ref C_) "add_row" = some (some (.ref f34_)))
  (i34:isFn K (.ref f34_)=true)
  (l34:LK K f34_ oc34 od34 "add_row" "Hall.add_row" c_4 kV34 dc34 pm34 an34 cd34 ct34 sl34)
  (c34:codeIn K cd34 "Hall.add_row" = true)
  (k34:KI K f34_)
  (a35:findIn K (.ref C_) "is_busy" = some (some (.ref f35_)))
  (i35:isFn K (.ref f35_)=true)
  (l35:LK K f35_ oc35 od35 "is_busy" "Hall.is_busy" d_l kV35 dc35 pm35 an35 cd35 ct35 sl35)
  (c35:codeIn K cd35 "Hall.is_busy" = true)
  (k35:KI K f35_)
  (a36:findIn K (.ref C_) "first_unsettled" = some (some (.ref f36_)))
  (i36:isFn K (.ref f36_)=true)
  (l36:LK K f36_ oc36 od36 "first_unsettled" "Hall.first_unsettled" a_S kV36 dc36 pm36 an36 cd36 ct36 sl36)
  (c36:codeIn K cd36 "Hall.first_unsettled" = true)
  (k36:KI K f36_)
  (a37:findIn K (.ref C_) "step" = some (some (.ref f37_)))
  (i37:isFn K (.ref f37_)=true)
  (l37:LK K f37_ oc37 od37 "step" "Hall.step" f_L kV37 dc37 pm37 an37 cd37 ct37 sl37)
  (c37:codeIn K cd37 "Hall.step" = true)
  (k37:KI K f37_)
  (a38:findIn K (.ref C_) "step_behind_a_fall" = some (some (.ref f38_)))
  (i38:isFn K (.ref f38_)=true)
  (l38:LK K f38_ oc38 od38 "step_behind_a_fall" "Hall.step_behind_a_fall" a_F kV38 dc38 pm38 an38 cd38 ct38 sl38)
  (c38:codeIn K cd38 "Hall.step_behind_a_fall" = true)
  (k38:KI K f38_)
  (a39:findIn K (.ref C_) "step_ahead" = some (some (.ref f39_)))
  (i39:isFn K (.ref f39_)=true)
  (l39:LK K f39_ oc39 od39 "step_ahead" "Hall.step_ahead" b_A kV39 dc39 pm39 an39 cd39 ct39 sl39)
  (c39:codeIn K cd39 "Hall.step_ahead" = true)
  (k39:KI K f39_)
  (a40:findIn K (.ref C_) "finish" = some (some (.ref f40_)))
  (i40:isFn K (.ref f40_)=true)
  (l40:LK K f40_ oc40 od40 "finish" "Hall.finish" d_W kV40 dc40 pm40 an40 cd40 ct40 sl40)
  (c40:codeIn K cd40 "Hall.finish" = true)
  (k40:KI K f40_)
  (a41:findIn K (.ref C_) "log" = some (some (.ref f41_)))
  (i41:isFn K (.ref f41_)=true)
  (l41:LK K f41_ oc41 od41 "log" "Hall.log" g_Q kV41 dc41 pm41 an41 cd41 ct41 sl41)
  (c41:codeIn K cd41 "Hall.log" = true)
  (k41:KI K f41_)
  (a42:NI K "check_call" f42_)
  (l42:LK K f42_ oc42 od42 "check_call" "check_call" c_u kV42 dc42 pm42 an42 cd42 ct42 sl42)
  (c42:codeIn K cd42 "check_call" = true)
  (k42:KI K f42_)
  (a43:NI K "ask" f43_)
  (l43:LK K f43_ oc43 od43 "ask" "ask" m_5 kV43 dc43 pm43 an43 cd43 ct43 sl43)
  (c43:codeIn K cd43 "ask" = true)
  (k43:KI K f43_)
  (a44:NI K "do" f44_)
  (l44:LK K f44_ oc44 od44 "do" "do" t_q kV44 dc44 pm44 an44 cd44 ct44 sl44)
  (c44:codeIn K cd44 "do" = true)
  (k44:KI K f44_)
  (a45:NI K "run" f45_)
  (l45:LK K f45_ oc45 od45 "run" "run" m_6 kV45 dc45 pm45 an45 cd45 ct45 sl45)
  (c45:codeIn K cd45 "run" = true)
  (k45:KI K f45_)
  (a46:NI K "_law_cell_at" f46_)
  (l46:LK K f46_ oc46 od46 "_law_cell_at" "_law_cell_at" b_y kV46 dc46 pm46 an46 cd46 ct46 sl46)
  (c46:codeIn K cd46 "_law_cell_at" = true)
  (k46:KI K f46_)
  (a47:NI K "_law_mixed" f47_)
  (l47:LK K f47_ oc47 od47 "_law_mixed" "_law_mixed" c_E kV47 dc47 pm47 an47 cd47 ct47 sl47)
  (c47:codeIn K cd47 "_law_mixed" = true)
  (k47:KI K f47_)
  (a48:NI K "_law_draw" f48_)
  (l48:LK K f48_ oc48 od48 "_law_draw" "_law_draw" d_k kV48 dc48 pm48 an48 cd48 ct48 sl48)
  (c48:codeIn K cd48 "_law_draw" = true)
  (k48:KI K f48_)
  (a49:NI K "_law_pick" f49_)
  (l49:LK K f49_ oc49 od49 "_law_pick" "_law_pick" d_f kV49 dc49 pm49 an49 cd49 ct49 sl49)
  (c49:codeIn K cd49 "_law_pick" = true)
  (k49:KI K f49_)
  (a50:NI K "_law_zone" f50_)
  (l50:LK K f50_ oc50 od50 "_law_zone" "_law_zone" d_b kV50 dc50 pm50 an50 cd50 ct50 sl50)
  (c50:codeIn K cd50 "_law_zone" = true)
  (k50:KI K f50_)
  (a51:NI K "_law_shown" f51_)
  (l51:LK K f51_ oc51 od51 "_law_shown" "_law_shown" c_M kV51 dc51 pm51 an51 cd51 ct51 sl51)
  (c51:codeIn K cd51 "_law_shown" = true)
  (k51:KI K f51_)
  (a52:NI K "_law_plan" f52_)
  (l52:LK K f52_ oc52 od52 "_law_plan" "_law_plan" d_g kV52 dc52 pm52 an52 cd52 ct52 sl52)
  (c52:codeIn K cd52 "_law_plan" = true)
  (k52:KI K f52_)
  (a53:NI K "_law_times" f53_)
  (l53:LK K f53_ oc53 od53 "_law_times" "_law_times" c_F kV53 dc53 pm53 an53 cd53 ct53 sl53)
  (c53:codeIn K cd53 "_law_times" = true)
  (k53:KI K f53_)
  (a54:NI K "_law_deeds" f54_)
  (l54:LK K f54_ oc54 od54 "_law_deeds" "_law_deeds" c_x kV54 dc54 pm54 an54 cd54 ct54 sl54)
  (c54:codeIn K cd54 "_law_deeds" = true)
  (k54:KI K f54_)
  (a55:NI K "_law_called" f55_)
  (l55:LK K f55_ oc55 od55 "_law_called" "_law_called" b_W kV55 dc55 pm55 an55 cd55 ct55 sl55)
  (c55:codeIn K cd55 "_law_called" = true)
  (k55:KI K f55_)
  (a56:NI K "law" f56_)
  (l56:LK K f56_ oc56 od56 "law" "law" k_A kV56 dc56 pm56 an56 cd56 ct56 sl56)
  (c56:codeIn K cd56 "law" = true)
  (k56:KI K f56_)
  (v3_:NV K "LAST_MOMENT" (9999) t0_)
  (v10_:NV K "LAST_HOUR" (23) t9_)
  (v2_:NV K "LEAST_AHEAD" (-12) t4_)
  (v5_:NV K "MOST_AHEAD" (14) t6_)
  (v0_:NV K "MOST_SHIFTS" (6) t2_)
  (v8_:NV K "MOST_STEP" (999) t7_)
  (v6_:NV K "MOST_DEEDS" (6) t5_)
  (v4_:NV K "MOST_WITHIN" (999) t1_)
  (v1_:NV K "LAST_RUNNER" (3) t3_)
  (v7_:NV K "MOST_TERM" (99) t10_)
  (v9_:NV K "DAY_HOURS" (24) t8_)
  (v14_:NV K "PLAN" (0) t12_)
  (v13_:NV K "LATE" (1) t13_)
  (v12_:NV K "AGAIN" (2) t11_)
  (v11_:NI K "LENGTHS" gd_LENGTHS)
  (w_LENGTHS:K.lookup gd_LENGTHS=some ⟨.type "dict",none,.dict #[⟨hashStr w "take",.str "take" td_LENGTHS_0,.int 4 ud_LENGTHS_0⟩,⟨hashStr w "give",.str "give" td_LENGTHS_1,.int 3 ud_LENGTHS_1⟩,⟨hashStr w "step",.str "step" td_LENGTHS_2,.int 3 ud_LENGTHS_2⟩,⟨hashStr w "finish",.str "finish" td_LENGTHS_3,.int 3 ud_LENGTHS_3⟩] ed_LENGTHS,#[]⟩)
  (z3_:NZ K "ANY_ZONE")
  (z2_:NZ K "NO_DEEDS")
  (z8_:NZ K "all")
  (z13_:NZ K "any")
  (z6_:NZ K "bool")
  (z1_:NZ K "enumerate")
  (z10_:NZ K "int")
  (z0_:NZ K "isinstance")
  (z11_:NZ K "len")
  (z7_:NZ K "list")
  (z14_:NZ K "max")
  (z9_:NZ K "min")
  (z5_:NZ K "range")
  (z12_:NZ K "str")
  (z4_:NZ K "tuple")
  (z15_:NZ K "zip")
  (pg_:plainGet K C_ Str.empty=true)
  (hd_:PySem.W.hasDictIn K C_=true)
  (po_:PySem.W.plainOver K C_=true)
  (sa_:findIn K (.ref C_) "__setattr__" = some (some (.builtin "object.__setattr__")))
  (mks_:PySem.W.makesIn K C_=true)
  (kpC_:KI K C_)
  (n_begun:findIn K (.ref C_) "begun" = some none)
  (n_deeds:findIn K (.ref C_) "deeds" = some none)
  (n_holder:findIn K (.ref C_) "holder" = some none)
  (n_holds:findIn K (.ref C_) "holds" = some none)
  (n_last:findIn K (.ref C_) "last" = some none)
  (n_rows:findIn K (.ref C_) "rows" = some none)
  (n_settled:findIn K (.ref C_) "settled" = some none)
  (n_until:findIn K (.ref C_) "until" = some none)
  (n_words:findIn K (.ref C_) "words" = some none)
  (n_zone:findIn K (.ref C_) "zone" = some none)
  (a_Due:NI K "DueError" D_)
  (y_LENGTHS:(gd_LENGTHS==sysModules)=false)
  (x_Due:excIn K D_ bmV "ValueError.__new__" = true)
  (x_tab:q_O K D_ exL=true) :
  ∃fd:FuncData,(∀(s:Shared) (v:Value),BindsTo s fd ⟨[v],[]⟩ [("_law_script",v)])/\∀base:Heap,K.In base->base.Ns mainGlobals mg->FnOk l.prog w K mg base (CXM l.prog w) 12 fa fd ["_law_script"] (spL K):=by
 have e:=hfa.symm.trans (mg_of X G a56)
 cases e
 have F0:=a_v (st:=d_Z) l0 c0 k0
 have D0:FD K mg "is_whole" d_Z ["thing","least","most"] _ _:=⟨F0,mg_of X G a0,F0.binds (by walk_at "b")⟩
 have F1:=a_v (st:=b_T) l1 c1 k1
 have D1:FD K mg "is_tuple_of" b_T ["thing","length"] _ _:=⟨F1,mg_of X G a1,F1.binds (by walk_at "b")⟩
 have F2:=a_v (st:=d_U) l2 c2 k2
 have D2:FD K mg "is_ahead" d_U ["thing"] _ _:=⟨F2,mg_of X G a2,F2.binds (by walk_at "b")⟩
 have F3:=a_v (st:=d_h) l3 c3 k3
 have D3:FD K mg "is_moment" d_h ["thing"] _ _:=⟨F3,mg_of X G a3,F3.binds (by walk_at "b")⟩
 have F4:=a_v (st:=c_5) l4 c4 k4
 have D4:FD K mg "is_runner" c_5 ["thing"] _ _:=⟨F4,mg_of X G a4,F4.binds (by walk_at "b")⟩
 have F5:=a_v (st:=e_D) l5 c5 k5
 have D5:FD K mg "is_term" e_D ["thing"] _ _:=⟨F5,mg_of X G a5,F5.binds (by walk_at "b")⟩
 have F6:=a_v (st:=c_G) l6 c6 k6
 have D6:FD K mg "are_shifts" c_G ["thing"] _ _:=⟨F6,mg_of X G a6,F6.binds (by walk_at "b")⟩
 have F7:=a_v (st:=e_C) l7 c7 k7
 have D7:FD K mg "is_zone" e_C ["thing"] _ _:=⟨F7,mg_of X G a7,F7.binds (by walk_at "b")⟩
 have F8:=a_v (st:=d_V) l8 c8 k8
 have D8:FD K mg "has_word" d_V ["thing","word","length"] _ _:=⟨F8,mg_of X G a8,F8.binds (by walk_at "b")⟩
 have F9:=a_v (st:=e_J) l9 c9 k9
 have D9:FD K mg "is_plan" e_J ["thing"] _ _:=⟨F9,mg_of X G a9,F9.binds (by walk_at "b")⟩
 have F10:=a_v (st:=e_P) l10 c10 k10
 have D10:FD K mg "is_late" e_P ["thing"] _ _:=⟨F10,mg_of X G a10,F10.binds (by walk_at "b")⟩
 have F11:=a_v (st:=e_G) l11 c11 k11
 have D11:FD K mg "is_deed" e_G ["thing"] _ _:=⟨F11,mg_of X G a11,F11.binds (by walk_at "b")⟩
 have F12:=a_v (st:=d_n) l12 c12 k12
 have D12:FD K mg "are_deeds" d_n ["thing"] _ _:=⟨F12,mg_of X G a12,F12.binds (by walk_at "b")⟩
 have F13:=a_v (st:=c_I) l13 c13 k13
 have D13:FD K mg "check_zone" c_I ["thing"] _ _:=⟨F13,mg_of X G a13,F13.binds (by walk_at "b")⟩
 have F14:=a_v (st:=c_L) l14 c14 k14
 have D14:FD K mg "check_plan" c_L ["thing"] _ _:=⟨F14,mg_of X G a14,F14.binds (by walk_at "b")⟩
 have F15:=a_v (st:=b_z) l15 c15 k15
 have D15:FD K mg "check_moment" b_z ["thing"] _ _:=⟨F15,mg_of X G a15,F15.binds (by walk_at "b")⟩
 have F16:=a_v (st:=b_U) l16 c16 k16
 have D16:FD K mg "check_deeds" b_U ["thing"] _ _:=⟨F16,mg_of X G a16,F16.binds (by walk_at "b")⟩
 have F17:=a_v (st:=b_w) l17 c17 k17
 have D17:FD K mg "check_runner" b_w ["thing"] _ _:=⟨F17,mg_of X G a17,F17.binds (by walk_at "b")⟩
 have F18:=a_v (st:=c_J) l18 c18 k18
 have D18:FD K mg "check_term" c_J ["thing"] _ _:=⟨F18,mg_of X G a18,F18.binds (by walk_at "b")⟩
 have F19:=a_v (st:=g_P) l19 c19 k19
 have D19:FD K mg "shown" g_P ["zone","moment"] _ _:=⟨F19,mg_of X G a19,F19.binds (by walk_at "b")⟩
 have F20:=a_v (st:=c_3) l20 c20 k20
 have D20:FD K mg "stretches" c_3 ["zone"] _ _:=⟨F20,mg_of X G a20,F20.binds (by walk_at "b")⟩
 have F21:=a_v (st:=b_Y) l21 c21 k21
 have D21:FD K mg "is_ahead_of" b_Y ["moment","end"] _ _:=⟨F21,mg_of X G a21,F21.binds (by walk_at "b")⟩
 have F22:=a_v (st:=b_d) l22 c22 k22
 have D22:FD K mg "first_showing" b_d ["zone","hours"] _ _:=⟨F22,mg_of X G a22,F22.binds (by walk_at "b")⟩
 have F23:=a_v (st:=c_7) l23 c23 k23
 have D23:FD K mg "first_day" c_7 ["zone","hour"] _ _:=⟨F23,mg_of X G a23,F23.binds (by walk_at "b")⟩
 have F24:=a_v (st:=c_w) l24 c24 k24
 have D24:FD K mg "daily_time" c_w ["zone","hour","count"] _ _:=⟨F24,mg_of X G a24,F24.binds (by walk_at "b")⟩
 have F25:=a_v (st:=e_H) l25 c25 k25
 have D25:FD K mg "time_of" e_H ["zone","plan","count"] _ _:=⟨F25,mg_of X G a25,F25.binds (by walk_at "b")⟩
 have F26:=a_v (st:=d_X) l26 c26 k26
 have D26:FD K mg "lateness" d_X ["hall","zone","plan","deed"] _ _:=⟨F26,mg_of X G a26,F26.binds (by walk_at "b")⟩
 have F27:=a_v (st:=b_X) l27 c27 k27
 have D27:FD K mg "is_left_out" b_X ["zone","deed","count","now"] _ _:=⟨F27,mg_of X G a27,F27.binds (by walk_at "b")⟩
 have F28:=a_v (st:=c_y) l28 c28 k28
 have D28:MD K C_ "__init__" "Hall.__init__" c_y ["self","zone","deeds"] _ _:=⟨F28,⟨a28,i28,k28⟩,F28.binds (by walk_at "b")⟩
 have F29:=a_v (st:=c_8) l29 c29 k29
 have D29:MD K C_ "is_held" "Hall.is_held" c_8 ["self","moment"] _ _:=⟨F29,⟨a29,i29,k29⟩,F29.binds (by walk_at "b")⟩
 have F30:=a_v (st:=b_B) l30 c30 k30
 have D30:MD K C_ "check_call" "Hall.check_call" b_B ["self","runner","moment"] _ _:=⟨F30,⟨a30,i30,k30⟩,F30.binds (by walk_at "b")⟩
 have F31:=a_v (st:=a_6) l31 c31 k31
 have D31:MD K C_ "check_holder" "Hall.check_holder" a_6 ["self","runner","moment"] _ _:=⟨F31,⟨a31,i31,k31⟩,F31.binds (by walk_at "b")⟩
 have F32:=a_v (st:=f_F) l32 c32 k32
 have D32:MD K C_ "take" "Hall.take" f_F ["self","runner","moment","term"] _ _:=⟨F32,⟨a32,i32,k32⟩,F32.binds (by walk_at "b")⟩
 have F33:=a_v (st:=f_B) l33 c33 k33
 have D33:MD K C_ "give" "Hall.give" f_B ["self","runner","moment"] _ _:=⟨F33,⟨a33,i33,k33⟩,F33.binds (by walk_at "b")⟩
 have F34:=a_v (st:=c_4) l34 c34 k34
 have D34:MD K C_ "add_row" "Hall.add_row" c_4 ["self","row"] _ _:=⟨F34,⟨a34,i34,k34⟩,F34.binds (by walk_at "b")⟩
 have F35:=a_v (st:=d_l) l35 c35 k35
 have D35:MD K C_ "is_busy" "Hall.is_busy" d_l ["self"] _ _:=⟨F35,⟨a35,i35,k35⟩,F35.binds (by walk_at "b")⟩
 have F36:=a_v (st:=a_S) l36 c36 k36
 have D36:MD K C_ "first_unsettled" "Hall.first_unsettled" a_S ["self"] _ _:=⟨F36,⟨a36,i36,k36⟩,F36.binds (by walk_at "b")⟩
 have F37:=a_v (st:=f_L) l37 c37 k37
 have D37:MD K C_ "step" "Hall.step" f_L ["self","runner","moment"] _ _:=⟨F37,⟨a37,i37,k37⟩,F37.binds (by walk_at "b")⟩
 have F38:=a_v (st:=a_F) l38 c38 k38
 have D38:MD K C_ "step_behind_a_fall" "Hall.step_behind_a_fall" a_F ["self","runner","moment"] _ _:=⟨F38,⟨a38,i38,k38⟩,F38.binds (by walk_at "b")⟩
 have F39:=a_v (st:=b_A) l39 c39 k39
 have D39:MD K C_ "step_ahead" "Hall.step_ahead" b_A ["self","runner","moment"] _ _:=⟨F39,⟨a39,i39,k39⟩,F39.binds (by walk_at "b")⟩
 have F40:=a_v (st:=d_W) l40 c40 k40
 have D40:MD K C_ "finish" "Hall.finish" d_W ["self","runner","moment"] _ _:=⟨F40,⟨a40,i40,k40⟩,F40.binds (by walk_at "b")⟩
 have F41:=a_v (st:=g_Q) l41 c41 k41
 have D41:MD K C_ "log" "Hall.log" g_Q ["self"] _ _:=⟨F41,⟨a41,i41,k41⟩,F41.binds (by walk_at "b")⟩
 have F42:=a_v (st:=c_u) l42 c42 k42
 have D42:FD K mg "check_call" c_u ["thing"] _ _:=⟨F42,mg_of X G a42,F42.binds (by walk_at "b")⟩
 have F43:=a_v (st:=m_5) l43 c43 k43
 have D43:FD K mg "ask" m_5 ["hall","call"] _ _:=⟨F43,mg_of X G a43,F43.binds (by walk_at "b")⟩
 have F44:=a_v (st:=t_q) l44 c44 k44
 have D44:FD K mg "do" t_q ["hall","call"] _ _:=⟨F44,mg_of X G a44,F44.binds (by walk_at "b")⟩
 have F45:=a_v (st:=m_6) l45 c45 k45
 have D45:FD K mg "run" m_6 ["zone","deeds","calls"] _ _:=⟨F45,mg_of X G a45,F45.binds (by walk_at "b")⟩
 have F46:=a_v (st:=b_y) l46 c46 k46
 have D46:FD K mg "_law_cell_at" b_y ["_law_script","_law_k"] _ _:=⟨F46,mg_of X G a46,F46.binds (by walk_at "b")⟩
 have F47:=a_v (st:=c_E) l47 c47 k47
 have D47:FD K mg "_law_mixed" c_E ["_law_script","_law_k","_law_many"] _ _:=⟨F47,mg_of X G a47,F47.binds (by walk_at "b")⟩
 have F48:=a_v (st:=d_k) l48 c48 k48
 have D48:FD K mg "_law_draw" d_k ["_law_script","_law_town","_law_many"] _ _:=⟨F48,mg_of X G a48,F48.binds (by walk_at "b")⟩
 have F49:=a_v (st:=d_f) l49 c49 k49
 have D49:FD K mg "_law_pick" d_f ["_law_script","_law_town","_law_some"] _ _:=⟨F49,mg_of X G a49,F49.binds (by walk_at "b")⟩
 have F50:=a_v (st:=d_b) l50 c50 k50
 have D50:FD K mg "_law_zone" d_b ["_law_script","_law_town","_law_wide"] _ _:=⟨F50,mg_of X G a50,F50.binds (by walk_at "b")⟩
 have F51:=a_v (st:=c_M) l51 c51 k51
 have D51:FD K mg "_law_shown" c_M ["_law_zone_here","_law_moment"] _ _:=⟨F51,mg_of X G a51,F51.binds (by walk_at "b")⟩
 have F52:=a_v (st:=d_g) l52 c52 k52
 have D52:FD K mg "_law_plan" d_g ["_law_script","_law_town","_law_wide"] _ _:=⟨F52,mg_of X G a52,F52.binds (by walk_at "b")⟩
 have F53:=a_v (st:=c_F) l53 c53 k53
 have D53:FD K mg "_law_times" c_F ["_law_zone_here","_law_plan_here","_law_last"] _ _:=⟨F53,mg_of X G a53,F53.binds (by walk_at "b")⟩
 have F54:=a_v (st:=c_x) l54 c54 k54
 have D54:FD K mg "_law_deeds" c_x ["_law_script","_law_town","_law_most","_law_wide"] _ _:=⟨F54,mg_of X G a54,F54.binds (by walk_at "b")⟩
 have F55:=a_v (st:=b_W) l55 c55 k55
 have D55:FD K mg "_law_called" b_W ["_law_script","_law_town","_law_zone_here","_law_deeds_here","_law_most"] _ _:=⟨F55,mg_of X G a55,F55.binds (by walk_at "b")⟩
 have F56:=a_v (st:=k_A) l56 c56 k56
 have D56:FD K mg "law" k_A ["_law_script"] _ _:=⟨F56,mg_of X G a56,F56.binds (by walk_at "b")⟩
 have HC:HCx K mg C_:={
  cl:=⟨pg_,hd_,po_,sa_⟩
  mg:=mg_of X G a_Hall
  mks:=mks_
  kpC:=kpC_
  d1z:=n_begun
  d20:=n_deeds
  d21:=n_holder
  d22:=n_holds
  d23:=n_last
  d24:=n_rows
  d25:=n_settled
  d26:=n_until
  d27:=n_words
  d28:=n_zone
  d29:=⟨_,_,D28⟩
  d2a:=⟨_,_,D29⟩
  d2b:=⟨_,_,D30⟩
  d2c:=⟨_,_,D31⟩
  d2d:=⟨_,_,D32⟩
  d2e:=⟨_,_,D33⟩
  d2f:=⟨_,_,D34⟩
  d2g:=⟨_,_,D35⟩
  d2h:=⟨_,_,D36⟩
  d2i:=⟨_,_,D37⟩
  d2j:=⟨_,_,D38⟩
  d2k:=⟨_,_,D39⟩
  d2l:=⟨_,_,D40⟩
  d2m:=⟨_,_,D41⟩
 }
 have T:Tx l.prog w K mg:={
  d00:=⟨_,_,D0⟩
  d01:=⟨_,_,D1⟩
  d02:=⟨_,_,D2⟩
  d03:=⟨_,_,D3⟩
  d04:=⟨_,_,D4⟩
  d05:=⟨_,_,D5⟩
  d06:=⟨_,_,D6⟩
  d07:=⟨_,_,D7⟩
  d08:=⟨_,_,D8⟩
  d09:=⟨_,_,D9⟩
  d0a:=⟨_,_,D10⟩
  d0b:=⟨_,_,D11⟩
  d0c:=⟨_,_,D12⟩
  d0d:=⟨_,_,D13⟩
  d0e:=⟨_,_,D14⟩
  d0f:=⟨_,_,D15⟩
  d0g:=⟨_,_,D16⟩
  d0h:=⟨_,_,D17⟩
  d0i:=⟨_,_,D18⟩
  d0j:=⟨_,_,D19⟩
  d0k:=⟨_,_,D20⟩
  d0l:=⟨_,_,D21⟩
  d0m:=⟨_,_,D22⟩
  d0n:=⟨_,_,D23⟩
  d0o:=⟨_,_,D24⟩
  d0p:=⟨_,_,D25⟩
  d0q:=⟨_,_,D26⟩
  d0r:=⟨_,_,D27⟩
  d0s:=⟨_,_,D42⟩
  d0t:=⟨_,_,D43⟩
  d0u:=⟨_,_,D44⟩
  d0v:=⟨_,_,D45⟩
  d0w:=⟨_,_,D46⟩
  d0x:=⟨_,_,D47⟩
  d0y:=⟨_,_,D48⟩
  d0z:=⟨_,_,D49⟩
  d10:=⟨_,_,D50⟩
  d11:=⟨_,_,D51⟩
  d12:=⟨_,_,D52⟩
  d13:=⟨_,_,D53⟩
  d14:=⟨_,_,D54⟩
  d15:=⟨_,_,D55⟩
  d16:=⟨_,mg_of X G v3_⟩
  d17:=⟨_,mg_of X G v10_⟩
  d18:=⟨_,mg_of X G v2_⟩
  d19:=⟨_,mg_of X G v5_⟩
  d1a:=⟨_,mg_of X G v0_⟩
  d1b:=⟨_,mg_of X G v8_⟩
  d1c:=⟨_,mg_of X G v6_⟩
  d1d:=⟨_,mg_of X G v4_⟩
  d1e:=⟨_,mg_of X G v1_⟩
  d1f:=⟨_,mg_of X G v7_⟩
  d1g:=⟨_,mg_of X G v9_⟩
  d1h:=⟨_,mg_of X G v14_⟩
  d1i:=⟨_,mg_of X G v13_⟩
  d1j:=⟨_,mg_of X G v12_⟩
  d1k:=⟨_,mg_of X G v11_,r_z [⟨"take",4,td_LENGTHS_0,ud_LENGTHS_0⟩,⟨"give",3,td_LENGTHS_1,ud_LENGTHS_1⟩,⟨"step",3,td_LENGTHS_2,ud_LENGTHS_2⟩,⟨"finish",3,td_LENGTHS_3,ud_LENGTHS_3⟩] w_LENGTHS (show(["take","give","step","finish"]:List Str).Nodup from by decide +kernel) y_LENGTHS⟩
  d1l:=mg_none_of X G z8_
  d1m:=mg_none_of X G z13_
  d1n:=mg_none_of X G z6_
  d1o:=mg_none_of X G z1_
  d1p:=mg_none_of X G z10_
  d1q:=mg_none_of X G z0_
  d1r:=mg_none_of X G z11_
  d1s:=mg_none_of X G z7_
  d1t:=mg_none_of X G z14_
  d1u:=mg_none_of X G z9_
  d1v:=mg_none_of X G z5_
  d1w:=mg_none_of X G z12_
  d1x:=mg_none_of X G z4_
  d1y:=mg_none_of X G z15_
  xt0:=⟨D_,⟨⟨mg_of X G a_Due,a_Due,x_Due⟩,x_tab,fun c C e=>mg_of X G e⟩⟩
 }
 exact⟨fnOf "law" "law" (g_6 k_A) (g_g k_A) (a_e k_A) .none kV56 dc56 pm56 an56 cd56 ct56,fun s v=>.of_eq rfl,fun base _ _=>(v_A _ _ _ T HC D56).imp fun vs H Q E h=>v_B (s_v (mg_none_of X G z3_) (mg_none_of X G z2_) H) (fun ns hn=>p_9 hn) h⟩
theorem law_walk{l:PySem.W.OpenLaw}{q:Program}{loose:List Str}{XP:(Str->Option Value)->Heap->Prop}{YP:World->Heap->Prop}{d:DefRec}{K:Params->Frag}(hn:l.most=some 63)(hdf:d.params.defaults=[])
  (hY:∀(w:World) (h:Heap),YP w h->(K w.params).In h)
  (F:∀(w:World) (mg:Str->Option Value) (fa:Addr) (h:Heap),(K w.params).In h->h.Ns mainGlobals mg->mg d.name=some (.ref fa)->
   ∃fd:FuncData,(∀(s:Shared) (u:Value),BindsTo s fd ⟨[u],[]⟩ [("_law_script",u)])/\∀base:Heap,(K w.params).In base->base.Ns mainGlobals mg->FnOk l.prog w (K w.params) mg base (CXM l.prog w) 12 fa fd ["_law_script"] (spL (K w.params))) :
  PySem.W.WalkO q loose XP YP l.row.toRowW d [] (fun f vs=>PySem.call f vs):=by
 refine L2.walk_of (n:=63) (k:=12) (x:="_law_script") (CX:=fun w=>CXM l.prog w) (sp:=fun w=>spL (K w.params)) hn (by decide) hdf ⟨rfl,by decide,by decide⟩ hY F (fun w H a ns hl hO hS=>?hsp) fun _ _ _ _ _ ⟨_,_,_,_,_,_,_,_,_,z⟩=>z
 refine⟨a,ns,rfl,⟨hl,?_⟩,fun _=>rfl⟩
 rcases hS with(h1 | h1) | h1
 ·rcases hO a with h2 | ⟨o,xs,h2⟩
  ·rw[h2] at h1;cases h1
  ·rw[h2] at h1;cases h1
 ·exact .inl h1
 ·exact .inr h1
end K3
namespace PySem.W.Fast
def tw10086885449343327199:=()
def tw11487753916980532618:=()
def tw11933806730013897933:=()
def tw11958848325008793675:=()
def tw12553647650338995869:=()
def tw12767072827759109005:=()
def tw1298113252499248341:=()
def tw13086019100966352241:=()
def tw13372406575416230035:=()
def tw13521394882055511786:=()
def tw13647054432534735342:=()
def tw14005928191855527134:=()
def tw1447968663124870992:=()
def tw15184489339240508862:=()
def tw1576640379640800099:=()
def tw1625593011751673686:=()
def tw16289345284450018671:=()
def tw17043983595002687294:=()
def tw17239621888156006083:=()
def tw17577018559183849029:=()
def tw17601602056244652311:=()
def tw1807773357105043390:=()
def tw184827041779524429:=()
def tw252664891831333164:=()
def tw3920193648852341061:=()
def tw4220364395692219756:=()
def tw4585930697372161315:=()
def tw542417271907272335:=()
def tw578211129271034698:=()
def tw5812268725584051017:=()
def tw6240786743999743970:=()
def tw6482166555397680201:=()
def tw6885122601408390609:=()
def tw7180435205243582458:=()
def tw734278083327627276:=()
def tw7807709194418832815:=()
def tw839936062507349942:=()
def tw8430428240582231851:=()
def tw8904221298682800339:=()
def tw969268416838364048:=()
end PySem.W.Fast
open PySem PySem.W PyProof.Rows
set_option maxRecDepth 100000 in
set_option maxHeartbeats 0 in
theorem PySem.Challenge.cw_duehall_k32_whole_how_late_holds : PySem.Challenge.rw_duehall_k32_whole_how_late.Holds := by
  w_on;o_law;k_head;(case hw => w_witness2)
  k_fill
  refine K3.law_walk (l := PySem.Challenge.rw_duehall_k32_whole_how_late) rfl rfl (fun w h Y => PySem.W.kIn_of Y) ?F
  case F =>
    intro w mg fa h KX G hmg
    refine' K3.all_mk KX G hmg ?a_Hall ?a0 ?l0 ?c0 ?k0 ?a1 ?l1 ?c1 ?k1 ?a2 ?l2 ?c2 ?k2 ?a3 ?l3 ?c3 ?k3 ?a4 ?l4 ?c4 ?k4 ?a5 ?l5 ?c5 ?k5 ?a6 ?l6 ?c6 ?k6 ?a7 ?l7 ?c7 ?k7 ?a8 ?l8 ?c8 ?k8 ?a9 ?l9 ?c9 ?k9 ?a10 ?l10 ?c10 ?k10 ?a11 ?l11 ?c11 ?k11 ?a12 ?l12 ?c12 ?k12 ?a13 ?l13 ?c13 ?k13 ?a14 ?l14 ?c14 ?k14 ?a15 ?l15 ?c15 ?k15 ?a16 ?l16 ?c16 ?k16 ?a17 ?l17 ?c17 ?k17 ?a18 ?l18 ?c18 ?k18 ?a19 ?l19 ?c19 ?k19 ?a20 ?l20 ?c20 ?k20 ?a21 ?l21 ?c21 ?k21 ?a22 ?l22 ?c22 ?k22 ?a23 ?l23 ?c23 ?k23 ?a24 ?l24 ?c24 ?k24 ?a25 ?l25 ?c25 ?k25 ?a26 ?l26 ?c26 ?k26 ?a27 ?l27 ?c27 ?k27 ?a28 ?i28 ?l28 ?c28 ?k28 ?a29 ?i29 ?l29 ?c29 ?k29 ?a30 ?i30 ?l30 ?c30 ?k30 ?a31 ?i31 ?l31 ?c31 ?k31 ?a32 ?i32 ?l32 ?c32 ?k32 ?a33 ?i33 ?l33 ?c33 ?k33 ?a34 ?i34 ?l34 ?c34 ?k34 ?a35 ?i35 ?l35 ?c35 ?k35 ?a36 ?i36 ?l36 ?c36 ?k36 ?a37 ?i37 ?l37 ?c37 ?k37 ?a38 ?i38 ?l38 ?c38 ?k38 ?a39 ?i39 ?l39 ?c39 ?k39 ?a40 ?i40 ?l40 ?c40 ?k40 ?a41 ?i41 ?l41 ?c41 ?k41 ?a42 ?l42 ?c42 ?k42 ?a43 ?l43 ?c43 ?k43 ?a44 ?l44 ?c44 ?k44 ?a45 ?l45 ?c45 ?k45 ?a46 ?l46 ?c46 ?k46 ?a47 ?l47 ?c47 ?k47 ?a48 ?l48 ?c48 ?k48 ?a49 ?l49 ?c49 ?k49 ?a50 ?l50 ?c50 ?k50 ?a51 ?l51 ?c51 ?k51 ?a52 ?l52 ?c52 ?k52 ?a53 ?l53 ?c53 ?k53 ?a54 ?l54 ?c54 ?k54 ?a55 ?l55 ?c55 ?k55 ?a56 ?l56 ?c56 ?k56 ?v3_ ?v10_ ?v2_ ?v5_ ?v0_ ?v8_ ?v6_ ?v4_ ?v1_ ?v7_ ?v9_ ?v14_ ?v13_ ?v12_ ?v11_ ?w_LENGTHS ?z3_ ?z2_ ?z8_ ?z13_ ?z6_ ?z1_ ?z10_ ?z0_ ?z11_ ?z7_ ?z14_ ?z9_ ?z5_ ?z12_ ?z4_ ?z15_ ?pg_ ?hd_ ?po_ ?sa_ ?mks_ ?kpC_ ?n_begun ?n_deeds ?n_holder ?n_holds ?n_last ?n_rows ?n_settled ?n_until ?n_words ?n_zone ?a_Due ?y_LENGTHS ?x_Due ?x_tab
    (case a_Hall|a0|l0|c0|k0|a1|l1|c1|k1|a2|l2|c2|k2|a3|l3|c3|k3|a4|l4|c4|k4|a5|l5|c5|k5|a6|l6|c6|k6|a7|l7|c7|k7|a8|l8|c8|k8|a9|l9|c9|k9|a10|l10|c10|k10|a11|l11|c11|k11|a12|l12|c12|k12|a13|l13|c13|k13|a14|l14|c14|k14|a15|l15|c15|k15|a16|l16|c16|k16|a17|l17|c17|k17|a18|l18|c18|k18|a19|l19|c19|k19|a20|l20|c20|k20|a21|l21|c21|k21|a22|l22|c22|k22|a23|l23|c23|k23|a24|l24|c24|k24|a25|l25|c25|k25|a26|l26|c26|k26|a27|l27|c27|k27|a28|i28|l28|c28|k28|a29|i29|l29|c29|k29|a30|i30|l30|c30|k30|a31|i31|l31|c31|k31|a32|i32|l32|c32|k32|a33|i33|l33|c33|k33|a34|i34|l34|c34|k34|a35|i35|l35|c35|k35|a36|i36|l36|c36|k36|a37|i37|l37|c37|k37|a38|i38|l38|c38|k38|a39|i39|l39|c39|k39|a40|i40|l40|c40|k40|a41|i41|l41|c41|k41|a42|l42|c42|k42|a43|l43|c43|k43|a44|l44|c44|k44|a45|l45|c45|k45|a46|l46|c46|k46|a47|l47|c47|k47|a48|l48|c48|k48|a49|l49|c49|k49|a50|l50|c50|k50|a51|l51|c51|k51|a52|l52|c52|k52|a53|l53|c53|k53|a54|l54|c54|k54|a55|l55|c55|k55|a56|l56|c56|k56|v3_|v10_|v2_|v5_|v0_|v8_|v6_|v4_|v1_|v7_|v9_|v14_|v13_|v12_|v11_|w_LENGTHS|z3_|z2_|z8_|z13_|z6_|z1_|z10_|z0_|z11_|z7_|z14_|z9_|z5_|z12_|z4_|z15_|pg_|hd_|po_|sa_|mks_|kpC_|n_begun|n_deeds|n_holder|n_holds|n_last|n_rows|n_settled|n_until|n_words|n_zone|a_Due => (first | unfold K3.LK | unfold K3.NI | unfold K3.NV | unfold K3.NZ | unfold K3.KI | skip);k_is)
    (case y_LENGTHS => first | kernel_rfl | rfl)
    (case x_Due => first | kernel_rfl | rfl)
    (case x_tab => first | kernel_rfl | rfl)
