import PyProof.Rows.All
import Wide.All
import OpenK.AllK
import Wide.FinOn
import Lean
import PyProof.EqAt
import PyProof.EqKinds
import PyProof.TupleCall
import PySem.Challenge.RW_duehall_k05_whole_settled_once
set_option Elab.async false
set_option linter.all false
set_option maxRecDepth 100000
theorem al:type_of% @PySem.wpAny_bind:=@PySem.wpAny_bind
theorem aV:type_of% @PySem.wpAny_pure:=@PySem.wpAny_pure
theorem bA:type_of% @PySem.Heap.get?_push_of_some:=@PySem.Heap.get?_push_of_some
theorem bB:type_of% @PySem.Heap.lt_size:=@PySem.Heap.lt_size
theorem bH:type_of% @Nat.le_refl:=@Nat.le_refl
theorem bi:type_of% @List.mem_append_right:=@List.mem_append_right
theorem br:type_of% @List.mem_append_left:=@List.mem_append_left
theorem bQ:type_of% @List.mem_cons_of_mem:=@List.mem_cons_of_mem
open PySem.W (instObj Frag plainGet findIn emptyDict keepIn mroIn kitOne kia_one fnOf codeIn nsIn excIn clsIn mg_of mg_none_of)
namespace L2
open PySem PySem.Spec PyProof.Rows
noncomputable abbrev aR:=Sum Int Str
noncomputable def lY:aR->Value->Bool
 | .inl k,v=>Value.isInt k v
 | .inr x,v=>Value.isStrOf x v
noncomputable def Er(w:World):aR->Int
 | .inl k=>hashInt k
 | .inr x=>hashStr w x
theorem je:∀{k:aR}{v:Value},lY k v=true->(∃i t,k=Sum.inl i/\v=Value.int i t)\/(∃x t,k=Sum.inr x/\v=Value.str x t)
 | .inl i,v,h=>by obtain⟨t,e⟩:=Value.isInt_shape (k:=i) (v:=v) h;exact .inl ⟨i,t,rfl,e⟩
 | .inr x,v,h=>by obtain⟨t,e⟩:=Value.isStrOf_shape (x:=x) (v:=v) h;exact .inr ⟨x,t,rfl,e⟩
theorem Es(i:Int)(t:Tok):lY (.inl i) (.int i t)=true:=by simp[lY,Value.isInt]
theorem Et(x:Str)(t:Tok):lY (.inr x) (.str x t)=true:=by simp[lY,Value.isStrOf]
theorem Eu(a b:Int):decide ((Sum.inl a:aR)=Sum.inl b)=(a==b):=by
 by_cases e:a=b
 ·subst e;simp
 ·have h:¬ (Sum.inl a:aR)=Sum.inl b:=fun q=>e (Sum.inl.inj q);rw[decide_eq_false h];exact(beq_eq_false_iff_ne.mpr e).symm
theorem Ev(a b:Str):decide ((Sum.inr a:aR)=Sum.inr b)=decide (a=b):=by
 by_cases e:a=b
 ·subst e;simp
 ·have h:¬ (Sum.inr a:aR)=Sum.inr b:=fun q=>e (Sum.inr.inj q);rw[decide_eq_false h,decide_eq_false e]
theorem Ew(a:Int)(b:Str):decide ((Sum.inl a:aR)=Sum.inr b)=false:=decide_eq_false (fun q=>nomatch q)
theorem Ex(a:Str)(b:Int):decide ((Sum.inr a:aR)=Sum.inl b)=false:=decide_eq_false (fun q=>nomatch q)
noncomputable def eN(prog:Program)(w:World):PySem.KeyKind prog w aR where
 is:=lY
 hash:=Er w
 inj:=fun v a b ha hb=>by
  rcases je ha with⟨i,t,rfl,rfl⟩ | ⟨x,t,rfl,rfl⟩
  ·rcases je hb with⟨j,u,rfl,e⟩ | ⟨y,u,rfl,e⟩
   ·injection e with e1 _;rw[e1]
   ·exact nomatch e
  ·rcases je hb with⟨j,u,rfl,e⟩ | ⟨y,u,rfl,e⟩
   ·exact nomatch e
   ·injection e with e1 _;rw[e1]
 byValue:=fun k v h=>by rcases je h with⟨i,t,rfl,rfl⟩ | ⟨x,t,rfl,rfl⟩<;>rfl
 pyHash:=fun hv h=>by
  rcases je hv with⟨i,t,rfl,rfl⟩ | ⟨x,t,rfl,rfl⟩
  ·exact wpAny_pyHash_int h
  ·exact wpAny_pyHash_str h
 eqBool:=fun hu hv h=>by
  rcases je hu with⟨i,t,rfl,rfl⟩ | ⟨x,t,rfl,rfl⟩
  ·rcases je hv with⟨j,u,rfl,rfl⟩ | ⟨y,u,rfl,rfl⟩
   ·rw[Eu] at h;exact wpAny_eqBool_int h
   ·rw[Ew] at h;exact SeqAt.EqAt.int_str i t y u _ _ _ _ h
  ·rcases je hv with⟨j,u,rfl,rfl⟩ | ⟨y,u,rfl,rfl⟩
   ·rw[Ex] at h;exact SeqAt.EqAt.str_int x t j u _ _ _ _ h
   ·rw[Ev] at h;exact wpAny_eqBool_str h
 «strs»:=fun k x t v h=>by
  rcases je h with⟨i,u,rfl,e⟩ | ⟨y,u,rfl,e⟩
  ·exact nomatch e
  ·injection e with e1 _
   subst e1;cases v<;>rfl
theorem Ey(a:Program)(w:World)(i:Int)(t:Tok):(eN a w).is (.inl i) (.int i t)=true:=Es i t
theorem Ez(a:Program)(w:World)(x:Str)(t:Tok):(eN a w).is (.inr x) (.str x t)=true:=Et x t
inductive V where
 | non | bl (b:Bool) | int (i:Int) | str (x:Str) | byt (b:Array UInt8) | flt (b:UInt64) | ref (a:Addr) | ty (n:String)
 deriving DecidableEq
noncomputable def bd:V->Value->Prop
 | .non,u=>u=Value.none
 | .bl b,u=>u=Value.bool b
 | .int i,u=>∃t,u=Value.int i t
 | .str x,u=>∃t,u=Value.str x t
 | .byt b,u=>∃t,u=Value.bytes b t
 | .flt b,u=>∃t,u=Value.float b t
 | .ref a,u=>u=Value.ref a
 | .ty n,u=>u=Value.type n
noncomputable abbrev be:List V->List Value->Prop:=Paired bd
theorem be.length{a:List V}{b:List Value}(r:be a b):a.length=b.length:=Paired.length r
theorem be.get:∀{a:List V}{b:List Value}{i:Nat}{x:V},be a b->a[i]? = some x->∃u,b[i]? = some u/\bd x u
 | _,_,_,_,.nil,e=>by simp at e
 | _,_,0,_,.cons r _,e=>by simp at e;subst e;exact⟨_,rfl,r⟩
 | _,_,i+1,x,.cons _ t,e=>by obtain⟨u,h1,h2⟩:=be.get (i:=i) (x:=x) t (by simpa using e);exact⟨u,by simpa using h1,h2⟩
theorem be.set{x:V}{u:Value}(r:bd x u):∀{a:List V}{b:List Value}(i:Nat),be a b->be (a.set i x) (b.set i u)
 | _,_,_,.nil=>.nil
 | _,_,0,.cons _ t=>.cons r t
 | _,_,i+1,.cons q t=>.cons q (be.set r i t)
theorem be.append:∀{a b:List V}{c d:List Value},be a c->be b d->be (a++b) (c++d)
 | _,_,_,_,.nil,s=>s
 | _,_,_,_,.cons r t,s=>.cons r (be.append t s)
theorem be.take:∀{a:List V}{b:List Value}(n:Nat),be a b->be (a.take n) (b.take n)
 | _,_,0,_=>.nil
 | _,_,_+1,.nil=>.nil
 | _,_,n+1,.cons r t=>.cons r (be.take n t)
theorem be.drop:∀{a:List V}{b:List Value}(n:Nat),be a b->be (a.drop n) (b.drop n)
 | _,_,0,r=>r
 | _,_,_+1,.nil=>.nil
 | _,_,n+1,.cons _ t=>be.drop n t
noncomputable def fh:Option V->Option Value->Prop
 | some v,some u=>bd v u
 | none,none=>True
 | _,_=>False
noncomputable def KV{κ:Type}:List (κ×V)->List (κ×Value)->Prop:=Paired fun(p:κ×V) (q:κ×Value)=>p.1=q.1/\bd p.2 q.2
noncomputable def kV:aR->V
 | .inl i=>.int i
 | .inr x=>.str x
inductive HO where
 | lst (xs:List V)
 | tup (xs:List V)
 | dK (kvs:List (aR×V)) | dT (kvs:List (List aR×V))
 | set (S:Int->Bool) (n:Nat)
 | ins (C dx:Addr) (fs:List (Str×V))
 | own (x:Addr)
 | xd (fs:List (Str×V))
 | met (f x:Addr)
 | rng (lo hi:Int)
 | frz (o:Obj) (u:HO)
 | tbl (ps:Array Value)
 | ext (φ:Heap->Prop)
noncomputable abbrev Hp:=Addr->Option HO
noncomputable def aN(H:Hp)(a:Addr)(o:HO):Hp:=fun b=>if b=a then some o else H b
theorem cj{H:Hp}{a:Addr}{o:HO}:aN H a o a=some o:=by unfold aN;rw[if_pos rfl]
theorem bj{H:Hp}{a b:Addr}{o:HO}(h:b≠a):aN H a o b=H b:=by unfold aN;rw[if_neg h]
theorem EA{H:Hp}{a b:Addr}{o u:HO}(h:H a=some o)(c:H b=some u)(d:o≠u):a≠b:=by intro e;subst e;rw[h] at c;exact d (Option.some.inj c)
theorem hZ{H:Hp}{a b:Addr}{o:HO}(h:H a=some o)(c:H b=none):a≠b:=by intro e;subst e;rw[h] at c;cases c
section
variable(P:Program)(w:World)
noncomputable def cD(H:Hp)(h:Heap)(a:Addr):HO->Prop
 | .lst d=>d.length<=sizeLine/\∃(b:List Value) (n:Nat),be d b/\h.get? a=some { cls:=.type "list",data:=.seq b.toArray n }
 | .tup d=>d.length<=sizeLine/\∃b:List Value,be d b/\IsTup h a b.toArray
 | .dK c=>c.length<=sizeLine/\(a==sysModules)=false/\∃i,KV c i/\h.DictOf (eN P w) a i
 | .dT c=>c.length<=sizeLine/\(a==sysModules)=false/\∃d:List (List aR×Addr×Value),
   Paired (fun(p:List aR×V) (q:List aR×Addr×Value)=>p.1=q.1/\H q.2.1=some (.tup (p.1.map kV))/\bd p.2 q.2.2) c d/\
   ∃o j m,h.get? a=some o/\o.ExactDict/\o.data=.dict j m/\j.toList=d.map (entryOfKey (tupleKind (eN P w)))/\(d.map (·.1)).Nodup
 | .set S n=>h.SetOf (intKind P w) a S n
 | .ins C g fs=>H g=some (.own a)/\fs.length<=1000/\g≠a/\h.get? a=some (instObj C g)/\
   ∃e,h.Ns1 g e/\(∀f,fh (fs.lookup f) (e f))/\PySem.Within e (fs.map (·.1))
 | .own _=>∃o,h.get? a=some o
 | .xd fs=>∃e,h.Ns1 a e/\∀f,fh (fs.lookup f) (e f)
 | .rng lo r=>∃t u v,h.get? a=some { cls:=.type "range",data:=.fields #[.int lo t,.int r u,.int 1 v] }
 | .frz o u=>h.get? a=some o/\cD H h a u
 | .tbl s=>h.get? a=some { cls:=.none,data:=.fields s }
 | .met f x=>h.get? a=some (PySem.W.methodObj (.ref f) (.ref x))
 | .ext φ=>φ h/\(∃o,h.get? a=some o)/\∀k l:Heap,φ k->(∀o,k.get? a=some o->l.get? a=some o)->φ l
def bJ(H:Hp)(h:Heap):Prop:=∀a o,H a=some o->cD P w H h a o
end
section
variable{P:Program}{w:World}{H Z:Hp}{h h':Heap}{a:Addr}{o:HO}
theorem cD.lt(x:cD P w H h a o):a<h.objs.size:=by
 cases o with
 | lst c=>obtain⟨_,_,_,_,e⟩:=x;exact bB e
 | tup c=>obtain⟨_,_,_,p⟩:=x;exact p.lt
 | dK b=>obtain⟨_,_,_,_,o,_,_,e,_⟩:=x;exact bB e
 | dT b=>obtain⟨_,_,_,_,o,_,_,e,_⟩:=x;exact bB e
 | set S n=>obtain⟨o,_,_,_,e,_⟩:=x;exact bB e
 | ins C d fs=>obtain⟨_,_,_,e,_⟩:=x;exact bB e
 | own y=>obtain⟨_,e⟩:=x;exact bB e
 | xd fs=>obtain⟨_,⟨_,_,_,e,_⟩,_⟩:=x;exact bB e
 | rng lo g=>obtain⟨_,_,_,e⟩:=x;exact bB e
 | frz ob u=>obtain⟨e,_⟩:=x;exact bB e
 | tbl i=>exact bB (show h.get? a=some _ from x)
 | met f y=>exact bB (show h.get? a=some _ from x)
 | ext φ=>obtain⟨_,⟨_,e⟩,_⟩:=x;exact bB e
theorem Paired.mapP{α β:Type}{F G:α->β->Prop}:∀{c:List α}{d:List β},Paired F c d->(∀a b,F a b->G a b)->Paired G c d
 | _,_,.nil,_=>.nil
 | _,_,.cons r t,f=>.cons (f _ _ r) (Paired.mapP t f)
theorem cD.stay(x:cD P w H h a o)(k:∀b u,(b=a\/H b=some (.own a))->h.get? b=some u->h'.get? b=some u)
  (J:∀b,H b=some (.own a)->Z b=some (.own a)) (L:∀b m,H b=some (.tup m)->Z b=some (.tup m)):cD P w Z h' a o:=by
 induction o with
 | lst m=>obtain⟨z,l,n,r,e⟩:=x;exact⟨z,l,n,r,k _ _ (.inl rfl) e⟩
 | tup m=>obtain⟨z,l,r,g,e,c⟩:=x;exact⟨z,l,r,g,k _ _ (.inl rfl) e,c⟩
 | dK s=>obtain⟨z,y,E,r,g,i,j,e,c⟩:=x;exact⟨z,y,E,r,g,i,j,k _ _ (.inl rfl) e,c⟩
 | dT s=>obtain⟨z,y,m,r,g,i,j,e,c⟩:=x;exact⟨z,y,m,Paired.mapP r fun p q z=>⟨z.1,L _ _ z.2.1,z.2.2⟩,g,i,j,k _ _ (.inl rfl) e,c⟩
 | set S n=>obtain⟨g,i,j,t,e,c⟩:=x;exact⟨g,i,j,t,k _ _ (.inl rfl) e,c⟩
 | ins C M fs=>obtain⟨d,z,ne,e,A,⟨B,i,j,G,c⟩,r⟩:=x;exact⟨J _ d,z,ne,k _ _ (.inl rfl) e,A,⟨B,i,j,k _ _ (.inr d) G,c⟩,r⟩
 | own y=>obtain⟨g,e⟩:=x;exact⟨g,k _ _ (.inl rfl) e⟩
 | xd fs=>obtain⟨A,⟨B,i,j,e,c⟩,r⟩:=x;exact⟨A,⟨B,i,j,k _ _ (.inl rfl) e,c⟩,r⟩
 | rng lo N=>obtain⟨t,u,v,e⟩:=x;exact⟨t,u,v,k _ _ (.inl rfl) e⟩
 | frz g u I=>obtain⟨e,q⟩:=x;exact⟨k _ _ (.inl rfl) e,I q⟩
 | tbl D=>have e:h.get? a=some { cls:=.none,data:=.fields D }:=x;show h'.get? a=some { cls:=.none,data:=.fields D };exact k a _ (.inl rfl) e
 | met f y=>have e:h.get? a=some (PySem.W.methodObj (.ref f) (.ref y)):=x;show h'.get? a=some (PySem.W.methodObj (.ref f) (.ref y));exact k a _ (.inl rfl) e
 | ext φ=>obtain⟨p,⟨o,e⟩,st⟩:=x;exact⟨st _ _ p fun o q=>k _ _ (.inl rfl) q,⟨o,k _ _ (.inl rfl) e⟩,st⟩
theorem bJ.lt(x:bJ P w H h)(e:H a=some o):a<h.objs.size:=(x a o e).lt
theorem bJ.fresh(x:bJ P w H h)(e:h.objs.size<=a):H a=none:=by
 cases q:H a with
 | none=>rfl
 | some u=>exact absurd (Nat.lt_of_lt_of_le (x.lt q) e) (Nat.lt_irrefl _)
theorem bJ.kept(x:bJ P w H h)(k:∀b u,h.get? b=some u->h'.get? b=some u):bJ P w H h':=fun a o e=>(x a o e).stay (fun b u _ q=>k b u q) (fun _ q=>q) fun _ _ q=>q
theorem bJ.laid(x:bJ P w H h)(k:∀b u,h.get? b=some u->h'.get? b=some u)(f:h.objs.size<=a)(new:cD P w (aN H a o) h' a o):bJ P w (aN H a o) h':=fun b u e=>by
 have d:=x.fresh f
 by_cases hb:b=a
 ·subst hb;rw[cj] at e;cases e;exact new
 ·rw[bj hb] at e;exact(x b u e).stay (fun c v _ q=>k c v q) (fun c q=>by rw[bj (hZ q d)];exact q) fun c g q=>by rw[bj (hZ q d)];exact q
end
def Rd(H:Hp)(a:Addr)(u:HO):Prop:=H a=some u\/∃o,H a=some (.frz o u)
theorem Rd.ok{P:Program}{w:World}{H:Hp}{h:Heap}{a:Addr}{u:HO}(r:Rd H a u)(x:bJ P w H h):cD P w H h a u:=by
 rcases r with r | ⟨o,r⟩
 ·exact x a u r
 ·obtain⟨_,q⟩:=x a _ r;exact q
noncomputable def nE:Option HO->Prop
 | some (.lst _)=>True
 | some (.dK _)=>True
 | some (.dT _)=>True
 | some (.set _ _)=>True
 | some (.ins _ _ _)=>True
 | some (.ext _)=>True
 | _=>False
section
variable{P:Program}{w:World}{H:Hp}{h Y:Heap}{x e:Addr}{X:HO}
theorem bJ.write(ok:bJ P w H h)(g:nE (H x))(m:e=x\/H e=some (.own x))(k:∀b u,b≠e->h.get? b=some u->Y.get? b=some u)(l:∃u,Y.get? e=some u)
  (new:cD P w (aN H x X) Y x X):bJ P w (aN H x X) Y:=fun b u q=>by
 have d:∀c y,H c=some (.own y)->c≠x:=fun c y r z=>by subst z;rw[r] at g;exact g
 have f:∀c i,H c=some (.tup i)->c≠x:=fun c i r z=>by subst z;rw[r] at g;exact g
 by_cases hb:b=x
 ·subst hb;rw[cj] at q;cases q;exact new
 ·rw[bj hb] at q
  by_cases a:b=e
  ·have n:H b=some (.own x):=by
    rcases m with z | z
    ·exact absurd (a.trans z) hb
    ·rw[a];exact z
   rw[q] at n;cases n;obtain⟨v,hv⟩:=l;exact⟨v,by rw[a];exact hv⟩
  ·refine(ok b u q).stay (fun c v j r=>k c v ?_ r) (fun c r=>by rw[bj (d c b r)];exact r) fun c i r=>by rw[bj (f c i r)];exact r
   rcases j with rfl | j
   ·exact a
   ·rintro rfl;rcases m with z | z
    ·exact d c b j z
    ·rw[j] at z;cases z;exact hb rfl
end
structure Un (fs ex:List Addr) (H H':Hp) (h h':Heap):Prop where
 keep:∀b o,h.get? b=some o->H b=none->b∉fs->b∉ex->h'.get? b=some o
 slot:∀b o,h.get? b=some o->H b=none->b∈fs->b∉ex->∃sl,h'.get? b=some { o with slots:=sl }
 free:∀b o,h.get? b=some o->H b=none->b∉ex->H' b=none
 there:∀b o,h.get? b=some o->b∉ex->∃o',h'.get? b=some o'
 tups:∀b xs,H b=some (.tup xs)->H' b=some (.tup xs)
 frzs:∀b o u,H b=some (.frz o u)->H' b=some (.frz o u)
 tbls:∀b ps,H b=some (.tbl ps)->∃more,H' b=some (.tbl (ps++more))
section
variable{fs U ex T:List Addr}{H S R:Hp}{h h1 h2 h':Heap}{a x e:Addr}{o:HO}
theorem Un.any(u:Un fs ex H S h h1){b:Addr}{c:Obj}(q:h.get? b=some c)(n:H b=none)(d:b∉ex):∃f,h1.get? b=some { c with slots:=f }:=by
 by_cases hb:b∈fs
 ·exact u.slot b c q n hb d
 ·exact⟨c.slots,u.keep b c q n hb d⟩
theorem Un.kept(k:∀b u,h.get? b=some u->h'.get? b=some u):Un fs ex H H h h':=
 ⟨fun b c q _ _ _=>k b c q,fun b c q _ _ _=>⟨c.slots,k b c q⟩,fun _ _ _ n _=>n,fun b c q _=>⟨c,k b c q⟩,fun _ _ q=>q,fun _ _ _ q=>q,fun _ d q=>⟨#[],by rw[q];simp⟩⟩
theorem Un.refl:Un fs ex H H h h:=Un.kept fun _ _ q=>q
theorem Un.laid(k:∀b u,h.get? b=some u->h'.get? b=some u)(hp:h.objs.size<=a)(hn:H a=none):Un fs ex H (aN H a o) h h' where
 keep:=fun b u q _ _ _=>k b u q
 slot:=fun b u q _ _ _=>⟨u.slots,k b u q⟩
 free:=fun b u q n _=>by rw[bj (Nat.ne_of_lt (Nat.lt_of_lt_of_le (bB q) hp))];exact n
 there:=fun b u q _=>⟨u,k b u q⟩
 tups:=fun b xs q=>by rw[bj (hZ q hn)];exact q
 frzs:=fun b u xs q=>by rw[bj (hZ q hn)];exact q
 tbls:=fun b ps q=>⟨#[],by rw[bj (hZ q hn),q];simp⟩
theorem Un.write(d:nE (H x))(i:e=x\/H e=some (.own x))(k:∀b u,b≠e->h.get? b=some u->h'.get? b=some u)(f:∃u,h'.get? e=some u):Un fs ex H (aN H x o) h h':=by
 have hx:∀b,H b=none->b≠x:=fun b n z=>by subst z;rw[n] at d;exact d
 have hb:∀b,H b=none->b≠e:=fun b n z=>by
  subst z;rcases i with r | r
  ·exact hx b n r
  ·rw[n] at r;cases r
 have g:∀b u,H b=some u->¬ nE (some u)->b≠x:=fun b u q j z=>by subst z;rw[q] at d;exact j d
 refine⟨fun b u q n _ _=>k b u (hb b n) q,fun b u q n _ _=>⟨u.slots,k b u (hb b n) q⟩,fun b u q n _=>by rw[bj (hx b n)];exact n,fun b u q _=>?_,
  fun b l q=>by rw[bj (g b _ q fun z=>z)];exact q,fun b u l q=>by rw[bj (g b _ q fun z=>z)];exact q,fun b m q=>⟨#[],by rw[bj (g b _ q fun z=>z),q];simp⟩⟩
 by_cases c:b=e
 ·subst c;exact f
 ·exact⟨u,k b u c q⟩
end
noncomputable def pQ(h:Heap)(H:Hp):List Addr:=(List.range h.objs.size).filter fun a=>(H a).isSome
noncomputable def jf(h:Heap)(H:Hp):Heap:=PySem.W.hideAll h (pQ h H)
theorem EB(h:Heap)(H:Hp):(jf h H).objs.size=h.objs.size:=PySem.W.hideAll_size _ _
theorem ED{h:Heap}{H:Hp}{b:Addr}{o:Obj}(e:h.get? b=some o)(n:H b=none):(jf h H).get? b=some o:=
 PySem.W.hideAll_get _ e fun a=>by have q:(H b).isSome=true:=(List.mem_filter.mp a).2;rw[n] at q;simp at q
theorem EE{h:Heap}{H:Hp}{b:Addr}{o:Obj}(e:(jf h H).get? b=some o):h.get? b=some o/\H b=none:=by
 have a:h.get? b=some o:=PySem.W.of_hideAll (pQ h H) e;refine⟨a,?_⟩;cases q:H b with
 | none=>rfl
 | some x=>have c:b∈pQ h H:=List.mem_filter.mpr ⟨List.mem_range.mpr (bB a),by simp[q]⟩;have z:(jf h H).get? b=none:=PySem.W.hideAll_none (pQ h H) c;rw[z] at e;cases e
structure Mod (K:Frag) (mg:Str->Option Value) (base:Heap):Prop where
 kin:K.In base
 glob:base.Ns mainGlobals mg
 blt:∃mb,base.Ns builtinsNs mb/\∀x:Str,x≠"__name__"->mb x=bootBuiltins x
 nolimit:base.NoLimit
structure Cx where
 prog:Program
 w:World
 K:Frag
 mg:Str->Option Value
 base:Heap
 A:Around
 N:List Str
 s₀:Shared
 H₀:Hp
 env:Env
 outer:List Env
 stack:List Env
 ex:List Addr
 fn:Str->Bool
 calm:Bool
 pn:List (Addr×Obj)
 xe:Value->Shared->Prop
noncomputable def bN(l:List Env):List Addr:=l.filterMap (·.frame)
noncomputable abbrev Cx.fs(X:Cx):List Addr:=bN X.outer
def pR(a:Scope)(x:Str):Prop:=a.names.lookup x=some .local\/a.names.lookup x=some .cell\/a.names.lookup x=some .free
def gO(a:Scope)(x:Str):Prop:=a.names.lookup x=some .local\/a.names.lookup x=some .cell
def EF(a:Env)(h:Heap)(m:Str->Option Value)(x:Str)(u:Value):Prop:=
 (a.kindOf x=some .local/\m x=some u)\/((a.kindOf x=some .cell\/a.kindOf x=some .free)/\∃c,a.cells.lookup x=some c/\h.IsCell c (some u))
structure Cx.Ok (X:Cx):Prop where
 mod:Mod X.K X.mg X.base
 kind:X.env.scope.kind=.function
 glob:X.env.globals=mainGlobals
 blt:X.env.builtins=builtinsNs
 above:X.s₀.heap.objs.size<=X.env.locals
 inj:∀x y c,X.env.cells.lookup x=some c->X.env.cells.lookup y=some c->x=y
 has:∀x,(X.env.kindOf x=some .cell\/X.env.kindOf x=some .free)->∃c,X.env.cells.lookup x=some c
 cab:∀x c,X.fn x=true->X.env.cells.lookup x=some c->X.s₀.heap.objs.size<=c
 hd:X.calm=true->X.A.handled=none
 frames:X.A.frames=some X.stack
 stk:X.stack=X.outer\/(X.stack=X.env::X.outer/\X.env.frame=some X.env.locals)
 exf:∀b∈X.ex,b≠X.env.locals/\∀x c,X.env.cells.lookup x=some c->c≠b
 bs:∀b o,X.base.get? b=some o->X.s₀.heap.get? b=some o/\X.H₀ b=none
 bsz:X.base.objs.size<=X.s₀.heap.objs.size
 noex:∀b o,X.base.get? b=some o->b∉X.ex
 exfs:∀b∈X.ex,b∉X.fs
 funs:X.s₀.heap.FunFrames X.base X.outer
 frf:∀b∈X.fs,X.H₀ b=none
structure Inv (X:Cx) (pins:List (Addr×Obj)) (Y:List (Option V)) (H:Hp) (s:Shared):Prop where
 ok:X.Ok
 os:s.os=X.s₀.os
 bare:AllBare s.gens
 base:Un X.fs X.ex X.H₀ H X.s₀.heap s.heap
 loc:∃m,s.heap.Ns X.env.locals m/\∀(i:Nat) (x:Str) (v:V),X.N[i]? = some x->Y[i]? = some (some v)->pR X.env.scope x->∃u,bd v u/\EF X.env s.heap m x u
 cell:∀x c,X.env.cells.lookup x=some c->∃v,s.heap.IsCell c v
 free:H X.env.locals=none
 freeC:∀x c,X.env.cells.lookup x=some c->H c=none
 pin:∀p∈X.pn++pins,s.heap.get? p.1=some p.2/\H p.1=none/\p.1≠X.env.locals/\p.1∉X.fs/\∀v,p.2.data≠.cell v
 hok:bJ X.prog X.w H s.heap
 len:Y.length=X.N.length
section
variable{X:Cx}{O:List (Addr×Obj)}{Y:List (Option V)}{H J:Hp}{s:Shared}{h':Heap}
theorem Cx.Ok.nofr(ok:X.Ok){b:Addr}{o:Obj}(e:X.base.get? b=some o):b∉X.fs:=fun a=>by have:=(ok.funs.mem a).1;rw[e] at this;cases this
theorem Inv.bs(I:Inv X O Y H s):∀b o,X.base.get? b=some o->s.heap.get? b=some o/\H b=none:=fun b o e=>⟨I.base.keep b o (I.ok.bs b o e).1 (I.ok.bs b o e).2 (I.ok.nofr e) (I.ok.noex b o e),I.base.free b o (I.ok.bs b o e).1 (I.ok.bs b o e).2 (I.ok.noex b o e)⟩
theorem Inv.bk(I:Inv X O Y H s):∀b o,X.base.get? b=some o->s.heap.get? b=some o:=fun b o e=>(I.bs b o e).1
theorem Inv.mod(I:Inv X O Y H s):Mod X.K X.mg X.base:=I.ok.mod
theorem Inv.kIn(I:Inv X O Y H s):X.K.In s.heap:=I.ok.mod.kin.keeps I.bk
theorem Inv.lt(I:Inv X O Y H s):X.env.locals<s.heap.objs.size:=let⟨_,a,_⟩:=I.loc;a.lt
theorem Inv.sz(I:Inv X O Y H s):X.s₀.heap.objs.size<=s.heap.objs.size:=Nat.le_trans I.ok.above (Nat.le_of_lt I.lt)
theorem Inv.nofs(I:Inv X O Y H s){a:Addr}(h:s.heap.objs.size<=a):a∉X.fs:=fun b=>by obtain⟨_,o,c,_⟩:=I.ok.funs.mem b;exact absurd (Nat.lt_of_lt_of_le (bB c) (Nat.le_trans I.sz h)) (Nat.lt_irrefl _)
theorem Inv.cne(I:Inv X O Y H s):∀x c,X.env.cells.lookup x=some c->c≠X.env.locals:=fun x c e z=>by obtain⟨v,o,ho,hd⟩:=I.cell x c e;obtain⟨m,⟨d,f,g,a,b,_⟩,_⟩:=I.loc;rw[z,a] at ho;cases ho;rw[b] at hd;cases hd
theorem Inv.funs(I:Inv X O Y H s):s.heap.FunFrames X.base X.outer:=by
 have all:∀(l:List Env),(∀b∈bN l,b∈X.fs)->X.s₀.heap.FunFrames X.base l->s.heap.FunFrames X.base l:=by
  intro l
  induction l with
  | nil=>intro _ _;trivial
  | cons env r g=>intro f h;obtain⟨i,⟨L,o,a,j,ho,hd⟩,k⟩:=h;have c:L∈X.fs:=f L (by unfold bN;rw[List.filterMap_cons,a];exact List.mem_cons_self);obtain⟨m,e⟩:=I.base.slot L o ho (I.ok.frf L c) c fun z=>I.ok.exfs L z c;exact⟨i,⟨L,_,a,j,e,hd⟩,g (fun b d=>f b (by unfold bN;rw[List.filterMap_cons,a];exact bQ _ d)) k⟩
 exact all X.outer (fun _ d=>d) I.ok.funs
theorem Inv.stack(I:Inv X O Y H s):s.heap.FunFrames X.base X.stack:=by
 rcases I.ok.stk with e | ⟨e,a⟩
 ·rw[e];exact I.funs
 ·rw[e];obtain⟨m,b,_⟩:=I.loc;refine .cons (by rw[I.ok.kind];decide) a b ?_ I.funs;exact Heap.get?_none_of_le (Nat.le_trans I.ok.bsz I.ok.above)
theorem Inv.stkSub(I:Inv X O Y H s):∀b∈bN X.stack,b∈X.env.locals::X.fs:=fun b a=>by
 rcases I.ok.stk with e | ⟨e,c⟩
 ·rw[e] at a;exact bQ _ a
 ·rw[e] at a;unfold bN at a;rw[List.filterMap_cons,c] at a;exact a
theorem Inv.stkFree(I:Inv X O Y H s):∀b∈bN X.stack,H b=none:=fun b a=>by
 rcases List.mem_cons.mp (I.stkSub b a) with e | a
 ·rw[e];exact I.free
 ·obtain⟨_,o,c,_⟩:=I.ok.funs.mem a;exact I.base.free b o c (I.ok.frf b a) fun z=>I.ok.exfs b z a
theorem Inv.step{g':Array GenState}{t':Nat}{d':Drawn}{ch:List Addr}(I:Inv X O Y H s)
  (f:∀b∈ch,(b∈X.ex\/X.s₀.heap.objs.size<=b)/\b≠X.env.locals/\(∀x c,X.env.cells.lookup x=some c->c≠b)/\∀p∈X.pn++O,p.1≠b)
  (keep:∀b o,b≠X.env.locals->b∉X.fs->b∉ch->s.heap.get? b=some o->H b=none->h'.get? b=some o)
  (slot:∀b o,b≠X.env.locals->b∈X.fs->b∉ch->s.heap.get? b=some o->H b=none->∃Q,h'.get? b=some { o with slots:=Q }) (free:∀b o,b∉ch->s.heap.get? b=some o->H b=none->J b=none)
  (there:∀b o,b∉ch->s.heap.get? b=some o->∃B,h'.get? b=some B)
  (E:∀b y,H b=some (.tup y)->J b=some (.tup y)) (G:∀b o u,H b=some (.frz o u)->J b=some (.frz o u)) (L:∀b M,H b=some (.tbl M)->∃more,J b=some (.tbl (M++more)))
  (ns:∀m,s.heap.Ns X.env.locals m->h'.Ns X.env.locals m) (R:bJ X.prog X.w J h') (Z:AllBare g') :
  Inv X O Y J { s with heap:=h',gens:=g',drawn:=d',toks:=t' }:=by
 have C:∀b o,X.s₀.heap.get? b=some o->b≠X.env.locals:=fun b o e=>Nat.ne_of_lt (Nat.lt_of_lt_of_le (bB e) I.ok.above);have j:∀b o,X.s₀.heap.get? b=some o->b∉X.ex->b∉ch:=fun b o e a A=>by
  rcases(f b A).1 with z | z
  ·exact a z
  ·exact absurd (Nat.lt_of_lt_of_le (bB e) z) (Nat.lt_irrefl _)
 have g:∀x c,X.env.cells.lookup x=some c->∀v,s.heap.IsCell c v->h'.IsCell c v:=fun x c e v ⟨o,ho,hd⟩=>by
  have h:c∉ch:=fun z=>(f c z).2.2.1 x c e rfl
  by_cases S:c∈X.fs
  ·obtain⟨Q,q⟩:=slot c o (I.cne x c e) S h ho (I.freeC x c e);exact⟨_,q,hd⟩
  ·exact⟨o,keep c o (I.cne x c e) S h ho (I.freeC x c e),hd⟩
 refine⟨I.ok,I.os,Z,⟨fun b o e n A a=>?_,fun b o e n A a=>?_,fun b o e n a=>?_,fun b o e a=>?_,fun b y e=>E b y (I.base.tups b y e),fun b o y e=>G b o y (I.base.frzs b o y e),fun b M e=>?_⟩,?_,fun x c e=>?_,?_,fun x c e=>?_,fun p T=>?_,R,I.len⟩
 ·exact keep b o (C b o e) A (j b o e a) (I.base.keep b o e n A a) (I.base.free b o e n a)
 ·obtain⟨Q,t⟩:=I.base.slot b o e n A a;obtain⟨N,D⟩:=slot b _ (C b o e) A (j b o e a) t (I.base.free b o e n a);exact⟨N,D⟩
 ·obtain⟨B,t⟩:=I.base.there b o e a;exact free b B (j b o e a) t (I.base.free b o e n a)
 ·obtain⟨B,t⟩:=I.base.there b o e a;exact there b B (j b o e a) t
 ·obtain⟨m1,t⟩:=I.base.tbls b M e;obtain⟨m2,D⟩:=L b _ t;exact⟨m1++m2,by rw[D,Array.append_assoc]⟩
 ·obtain⟨m,hn,hl⟩:=I.loc;refine⟨m,ns m hn,fun i x v t D e3=>?_⟩;obtain⟨u,r,l⟩:=hl i x v t D e3;refine⟨u,r,?_⟩;rcases l with l | ⟨k,c,e,z⟩
  ·exact .inl l
  ·exact .inr ⟨k,c,e,g x c e _ z⟩
 ·obtain⟨v,z⟩:=I.cell x c e;exact⟨v,g x c e v z⟩
 ·obtain⟨m,⟨o,_,_,ho,_⟩,_⟩:=I.loc;exact free _ o (fun z=>(f _ z).2.1 rfl) ho I.free
 ·obtain⟨v,o,ho,hd⟩:=I.cell x c e;exact free c o (fun z=>(f c z).2.2.1 x c e rfl) ho (I.freeC x c e)
 ·obtain⟨e,n,ne,U,d⟩:=I.pin p T;have h:p.1∉ch:=fun z=>(f p.1 z).2.2.2 p T rfl;exact⟨keep p.1 p.2 ne U h e n,free p.1 p.2 h e n,ne,U,d⟩
theorem Inv.un{t':Nat}(I:Inv X O Y H s)(u:Un X.fs [] H J s.heap h')(f:bJ X.prog X.w J h'):Inv X O Y J { s with heap:=h',toks:=t' }:=by
 obtain⟨m,⟨o,k,l,ho,r⟩,_⟩:=id I.loc;obtain⟨t,h⟩:=u.any ho I.free (by simp);exact I.step (g':=s.gens) (d':=s.drawn) (ch:=[]) (fun _ z=>nomatch z) (fun b o _ g _ e n=>u.keep b o e n g (by simp)) (fun b o _ g _ e n=>u.slot b o e n g (by simp)) (fun b o _ e n=>u.free b o e n (by simp)) (fun b o _ e=>u.there b o e (by simp)) u.tups u.frzs u.tbls (fun p i=>by
  obtain⟨q,c,d,a,j⟩:=i;rw[ho] at a;cases a;exact⟨_,c,d,h,j⟩) f I.bare
theorem Inv.call{g':Array GenState}{t':Nat}{d':Drawn}{ch:List Addr}(I:Inv X O Y H s)(u:Un (bN X.stack) ch H J s.heap h')(j:bJ X.prog X.w J h')(k:AllBare g')
  (d:∀b∈ch,(b∈X.ex\/X.s₀.heap.objs.size<=b)/\b≠X.env.locals/\(∀x c,X.env.cells.lookup x=some c->c≠b)/\∀p∈X.pn++O,p.1≠b) :
  Inv X O Y J { s with heap:=h',gens:=g',drawn:=d',toks:=t' }:=by
 obtain⟨m,⟨o,v,y,ho,r⟩,_⟩:=id I.loc;obtain⟨C,g⟩:=u.any ho I.free fun z=>(d _ z).2.1 rfl;exact I.step (ch:=ch) d (fun b o g t a e n=>u.keep b o e n (fun z=>(List.mem_cons.mp (I.stkSub b z)).elim g t) a) (fun b o _ _ a e n=>u.any e n a) (fun b o a e n=>u.free b o e n a) (fun b o a e=>u.there b o e a) u.tups u.frzs u.tbls (fun A l=>by
  obtain⟨B,h,i,f,q⟩:=l;rw[ho] at f;cases f;exact⟨_,h,i,g,q⟩) j k
theorem Inv.turned{t':Nat}{it:Addr}(I:Inv X O Y H s)(k:∀b o,b≠it->s.heap.get? b=some o->h'.get? b=some o)(g:H it=none)(f:it≠X.env.locals)
  (l:it∈X.ex\/X.s₀.heap.objs.size<=it) (t:∀x c,X.env.cells.lookup x=some c->c≠it) (w:∀p∈X.pn++O,p.1≠it):Inv X O Y H { s with heap:=h',toks:=t' }:=by
 have d:∀b u,H b=some u->b≠it:=fun b u e z=>by rw[z,g] at e;cases e
 refine I.step (g':=s.gens) (d':=s.drawn) (ch:=[it]) (fun b y=>?_) (fun b o _ _ a e _=>k b o (fun z=>a (by simp[z])) e) (fun b o _ _ a e _=>⟨o.slots,k b o (fun z=>a (by simp[z])) e⟩) (fun _ _ _ _ n=>n)
  (fun b o a e=>⟨o,k b o (fun z=>a (by simp[z])) e⟩) (fun _ _ e=>e) (fun _ _ _ e=>e) (fun b A e=>⟨#[],by rw[e];simp⟩) (fun m h=>?_) (fun b u e=>?_) I.bare
 ·have e:b=it:=by simpa using y
  subst e;exact⟨l,f,t,w⟩
 ·obtain⟨o,i,j,ho,r⟩:=h;exact⟨o,i,j,k _ o (Ne.symm f) ho,r⟩
 ·refine(I.hok b u e).stay (fun c v a q=>k c v ?_ q) (fun _ q=>q) fun _ _ q=>q;rcases a with z | z
  ·rw[z];exact d b u e
  ·exact d c _ z
theorem Inv.tok(I:Inv X O Y H s)(t:Nat):Inv X O Y H { s with toks:=t }:=I.un (h':=s.heap) (t':=t) Un.refl I.hok
theorem Inv.kept{t':Nat}(I:Inv X O Y H s)(k:∀b u,s.heap.get? b=some u->h'.get? b=some u):Inv X O Y H { s with heap:=h',toks:=t' }:=I.un (Un.kept k) (I.hok.kept k)
theorem Inv.laid{a:Addr}{o:HO}{t':Nat}(I:Inv X O Y H s)(k:∀b u,s.heap.get? b=some u->h'.get? b=some u)(c:s.heap.objs.size<=a)(new:cD X.prog X.w (aN H a o) h' a o) :
  Inv X O Y (aN H a o) { s with heap:=h',toks:=t' }:=I.un (Un.laid k c (I.hok.fresh c)) (I.hok.laid k c new)
theorem Inv.write{x e:Addr}{o:HO}{t':Nat}(I:Inv X O Y H s)(c:nE (H x))(d:e=x\/H e=some (.own x))(k:∀b u,b≠e->s.heap.get? b=some u->h'.get? b=some u)(a:∃u,h'.get? e=some u)
  (new:cD X.prog X.w (aN H x o) h' x o):Inv X O Y (aN H x o) { s with heap:=h',toks:=t' }:=I.un (Un.write c d k a) (I.hok.write c d k a new)
theorem Inv.pins_of{pins':List (Addr×Obj)}(I:Inv X O Y H s)(h:∀p∈pins',s.heap.get? p.1=some p.2/\H p.1=none/\p.1≠X.env.locals/\p.1∉X.fs/\∀v,p.2.data≠.cell v):Inv X pins' Y H s:=
 ⟨I.ok,I.os,I.bare,I.base,I.loc,I.cell,I.free,I.freeC,fun p a=>(List.mem_append.mp a).elim (fun z=>I.pin p (br _ z)) (h p),I.hok,I.len⟩
theorem ue{N:List Str}(c:N.Nodup){i j:Nat}{x:Str}(a:N[i]? = some x)(b:N[j]? = some x):i=j:=by obtain⟨f,d⟩:=List.getElem?_eq_some_iff.mp a;obtain⟨g,e⟩:=List.getElem?_eq_some_iff.mp b;exact(List.getElem_inj c).mp (d.trans e.symm)
theorem yk{M:Model}{A:Around}{E:Value->Shared->Prop}{i:Nat}{x:Str}{v:V}{u:Value}{Q:Unit->Shared->Prop}(I:Inv X O Y H s)(hN:X.N.Nodup)(T:X.N[i]? = some x)(B:gO X.env.scope x)(r:bd v u)
  (h:∀s',Inv X O (Y.set i (some v)) H s'->(∃a,Heap.SameBut a s.heap s'.heap/\(a=X.env.locals\/X.env.cells.lookup x=some a))->Q () s') (hf:X.fn x=true\/X.env.scope.names.lookup x=some .local:=by first | exact .inl rfl | exact .inr rfl | assumption):wpAny M A (storeName X.env x u) Q E s:=by
 obtain⟨m,hn,hl⟩:=id I.loc;have U:(X.env.scope.kind==.class||(X.env.scope.kind==.module&&X.env.locals != X.env.globals))=false:=by rw[I.ok.kind];rfl
 have Z:i<Y.length:=by rw[I.len];exact(List.getElem?_eq_some_iff.mp T).1
 have cne:=I.cne;have g:∀{a:Addr}{h':Heap},(∃o,s.heap.get? a=some o/\H a=none)->Heap.SameBut a s.heap h'->bJ X.prog X.w H h':=fun {a h'} ha f b ob e=>by
  obtain⟨_,_,C⟩:=ha;refine(I.hok b ob e).stay (fun c w' t q=>(f.2 c ?_).trans q) (fun _ q=>q) fun _ _ q=>q;rintro rfl;rcases t with rfl | t
  ·rw[C] at e;cases e
  ·rw[C] at t;cases t
 rcases B with G | G
 ·refine wpAny_storeName_local G hn (fun h' a4 f=>?_) U;obtain⟨oL,_,_,a5,_⟩:=id hn;refine h _ ⟨I.ok,I.os,I.bare,⟨fun b o e n S B=>?_,fun b o e n S B=>?_,I.base.free,fun b o e B=>?_,I.base.tups,I.base.frzs,I.base.tbls⟩,⟨_,a4,fun j y v' l D e3=>?_⟩,fun y c e=>?_,I.free,I.freeC,fun p hp=>?_,g ⟨oL,a5,I.free⟩ f,by simpa using I.len⟩ ⟨_,f,.inl rfl⟩
  ·exact(f.2 b (Nat.ne_of_lt (Nat.lt_of_lt_of_le (bB e) I.ok.above))).trans (I.base.keep b o e n S B)
  ·obtain⟨sl,l⟩:=I.base.slot b o e n S B;exact⟨sl,(f.2 b (Nat.ne_of_lt (Nat.lt_of_lt_of_le (bB e) I.ok.above))).trans l⟩
  ·obtain⟨o',l⟩:=I.base.there b o e B;exact⟨o',(f.2 b (Nat.ne_of_lt (Nat.lt_of_lt_of_le (bB e) I.ok.above))).trans l⟩
  ·by_cases L:j=i
   ·subst L;rw[T] at l;cases l;rw[List.getElem?_set_self Z] at D;cases D;exact⟨u,r,.inl ⟨G,by simp⟩⟩
   ·rw[List.getElem?_set_ne (Ne.symm L)] at D;obtain⟨u',r',q⟩:=hl j y v' l D e3;refine⟨u',r',?_⟩;rcases q with⟨k,e⟩ | ⟨k,c,e,z⟩
    ·refine .inl ⟨k,?_⟩;have:y≠x:=fun e=>L (ue hN l (e▸T));simp[this,e]
    ·exact .inr ⟨k,c,e,z.sameBut f (cne y c e)⟩
  ·obtain⟨w',z⟩:=I.cell y c e;exact⟨w',z.sameBut f (cne y c e)⟩
  ·obtain⟨e,n,ne,nf,d⟩:=I.pin p hp;exact⟨(f.2 p.1 ne).trans e,n,ne,nf,d⟩
 ·have R:X.fn x=true:=by
   rcases hf with z | z
   ·exact z
   ·rw[z] at G;cases G
  obtain⟨c,t⟩:=I.ok.has x (.inl G);obtain⟨w',z⟩:=I.cell x c t;refine wpAny_storeName_cell I.ok.kind G t z (fun h' a0 f=>?_);obtain⟨oc,a1,a2⟩:=id z;refine h { s with heap:=h' } ⟨I.ok,I.os,I.bare,⟨fun b o e n S B=>?_,fun b o e n S B=>?_,I.base.free,fun b o e B=>?_,I.base.tups,I.base.frzs,I.base.tbls⟩,⟨m,hn.sameBut f (Ne.symm (cne x c t)),fun j y v' l D e3=>?_⟩,fun y c' e=>?_,I.free,I.freeC,fun p hp=>?_,g ⟨oc,a1,I.freeC x c t⟩ f,by simpa using I.len⟩ ⟨c,f,.inr t⟩
  ·exact(f.2 b (Nat.ne_of_lt (Nat.lt_of_lt_of_le (bB e) (I.ok.cab x c R t)))).trans (I.base.keep b o e n S B)
  ·obtain⟨sl,l⟩:=I.base.slot b o e n S B;exact⟨sl,(f.2 b (Nat.ne_of_lt (Nat.lt_of_lt_of_le (bB e) (I.ok.cab x c R t)))).trans l⟩
  ·obtain⟨o',l⟩:=I.base.there b o e B;exact⟨o',(f.2 b (Nat.ne_of_lt (Nat.lt_of_lt_of_le (bB e) (I.ok.cab x c R t)))).trans l⟩
  ·by_cases L:j=i
   ·subst L;rw[T] at l;cases l;rw[List.getElem?_set_self Z] at D;cases D;exact⟨u,r,.inr ⟨.inl G,c,t,a0⟩⟩
   ·rw[List.getElem?_set_ne (Ne.symm L)] at D;obtain⟨u',r',q⟩:=hl j y v' l D e3;refine⟨u',r',?_⟩;rcases q with q | ⟨k,c',e,z'⟩
    ·exact .inl q
    ·refine .inr ⟨k,c',e,z'.sameBut f ?_⟩;rintro rfl;exact L (ue hN l (I.ok.inj _ _ _ e t▸T))
  ·by_cases a3:c' = c
   ·subst a3;exact⟨_,a0⟩
   ·obtain⟨w2,z2⟩:=I.cell y c' e;exact⟨w2,z2.sameBut f a3⟩
  ·obtain⟨e,n,ne,nf,d⟩:=I.pin p hp;refine⟨(f.2 p.1 ?_).trans e,n,ne,nf,d⟩;intro q;rw[q,a1] at e;have q':oc=p.2:=Option.some.inj e;exact d w' (by rw[<-q'];exact a2)
theorem uf{M:Model}{A:Around}{E:Value->Shared->Prop}{i:Nat}{x:Str}{v:V}{u:Value}{Q:Unit->Shared->Prop}(I:Inv X O Y H s)(b:X.N.Nodup)(c:X.N[i]? = some x)(f:gO X.env.scope x)(r:bd v u)
  (h:∀a,Inv X O (Y.set i (some v)) H a->Q () a) (d:X.fn x=true\/X.env.scope.names.lookup x=some .local:=by first | exact .inl rfl | exact .inr rfl | assumption):wpAny M A (storeName X.env x u) Q E s:=
 yk I b c f r (fun a e _=>h a e) d
theorem Inv.call'{a:Shared}{ch:List Addr}(I:Inv X O Y H s)(k:a.os=s.os)(u:Un (bN X.stack) ch H J s.heap a.heap)(f:bJ X.prog X.w J a.heap)(g:AllBare a.gens)
  (d:∀b∈ch,(b∈X.ex\/X.s₀.heap.objs.size<=b)/\b≠X.env.locals/\(∀x c,X.env.cells.lookup x=some c->c≠b)/\∀p∈X.pn++O,p.1≠b):Inv X O Y J a:=by
 obtain⟨h',h,i,t',j⟩:=a;have e:j = s.os:=k;subst e;exact I.call (g':=h) (t':=t') (d':=i) u f g d
end
abbrev XK:=Value->Option Addr->Hp->Prop
noncomputable abbrev St:=List (Option V)
abbrev VK:=V->Hp->Prop
abbrev TE:=St->Hp->VK->Prop
abbrev TT:=St->Hp->(Bool->Hp->Prop)->Prop
abbrev TA:=St->Hp->(List V->Hp->Prop)->Prop
structure eO where
 nx:St->Hp->Prop
 rt:VK
 bk:St->Hp->Prop:=fun _ _=>False
 ct:St->Hp->Prop:=fun _ _=>False
abbrev TS:=eO->St->Hp->Prop
def EP(X:Cx)(a:List (Addr×Obj))(Y:St)(Q:VK)(u:Value)(c:Shared):Prop:=∃v b,Inv X a Y b c/\bd v u/\Q v b
def TP(X:Cx)(a:List (Addr×Obj))(Y:St)(Q:Bool->Hp->Prop)(b:Bool)(d:Shared):Prop:=∃c,Inv X a Y c d/\Q b c
def AP(X:Cx)(a:List (Addr×Obj))(Y:St)(Q:List V->Hp->Prop)(d:List Value)(e:Shared):Prop:=∃b c,Inv X a Y c e/\be b d/\Q b c
def SP(X:Cx)(a:List (Addr×Obj))(D:eO)(f:Flow)(d:Shared):Prop:=
 match f with
 | .next=>∃c b,Inv X a c b d/\D.nx c b
 | .brk=>∃c b,Inv X a c b d/\D.bk c b
 | .cont=>∃c b,Inv X a c b d/\D.ct c b
 | .ret u=>∃v c b,Inv X a c b d/\bd v u/\D.rt v b
def PE(X:Cx)(e:Expr)(t:TE):Prop:=
 ∀(a:List (Addr×Obj)) (s:Shared) (Y:St) (H:Hp) (Q:VK),Inv X a Y H s->t Y H Q->wpAny (model X.prog X.w) X.A (eval e X.env) (EP X a Y Q) X.xe s
def PT(X:Cx)(e:Expr)(t:TT):Prop:=
 ∀(a:List (Addr×Obj)) (s:Shared) (Y:St) (H:Hp) (Q:Bool->Hp->Prop),Inv X a Y H s->t Y H Q->wpAny (model X.prog X.w) X.A (isTrue e X.env (eval e X.env)) (TP X a Y Q) X.xe s
def PW(X:Cx)(e:Expr)(t:TT):Prop:=
 ∀(whole:Sem Value) (a:List (Addr×Obj)) (s:Shared) (Y:St) (H:Hp) (Q:Bool->Hp->Prop),Inv X a Y H s->t Y H Q->wpAny (model X.prog X.w) X.A (isTrue e X.env whole) (TP X a Y Q) X.xe s
theorem PW.pt{X:Cx}{e:Expr}{t:TT}(h:PW X e t):PT X e t:=h _
def PA(X:Cx)(b:List Expr)(t:TA):Prop:=
 ∀(pos:Pos) (a:List (Addr×Obj)) (s:Shared) (Y:St) (H:Hp) (Q:List V->Hp->Prop),Inv X a Y H s->t Y H Q->wpAny (model X.prog X.w) X.A (spliced (backTo pos (starEach b X.env))) (AP X a Y Q) X.xe s
def PS(X:Cx)(st:Stmt)(t:TS):Prop:=
 ∀(a:List (Addr×Obj)) (s:Shared) (Y:St) (H:Hp) (D:eO),Inv X a Y H s->t D Y H->wpAny (model X.prog X.w) X.A (exec st X.env) (SP X a D) X.xe s
def PSs(X:Cx)(st:List Stmt)(t:TS):Prop:=
 ∀(a:List (Addr×Obj)) (s:Shared) (Y:St) (H:Hp) (D:eO),Inv X a Y H s->t D Y H->wpAny (model X.prog X.w) X.A (execs st X.env) (SP X a D) X.xe s
theorem aT{α:Type}{t:Sem α}{Q b:α->Shared->Prop}{M:Model}{A:Around}{E:Value->Shared->Prop}{s:Shared}(h:wpAny M A t Q E s)(c:∀a s,Q a s->b a s):wpAny M A t b E s:=wpAny_mono h c fun _ _ x=>x
section
variable{X:Cx}
noncomputable def bU(i:Nat):TE:=fun Y H Q=>∃v,Y[i]? = some (some v)/\Q v H
noncomputable def tC(v:V):TE:=fun _ H Q=>Q v H
theorem EG{i:Nat}{x:Str}{pos:Pos}(j:X.N[i]? = some x)(p:pR X.env.scope x)(hd:(x==("__debug__":Str))=false:=by decide)(f:(x==("__classdict__":Str))=false:=by decide):PE X (.Name x pos) (bU i):=by
 intro d s Y H Q I h;obtain⟨v,e,h⟩:=h;obtain⟨m,k,n⟩:=I.loc;obtain⟨u,r,l⟩:=n i x v j e p;have fin:EP X d Y Q u s:=⟨v,H,I,r,h⟩
 rcases l with⟨b,o⟩ | ⟨b,c,g,a⟩
 ·exact wpAny_Name (wpAny_loadName_local I.ok.kind b k o fin) hd
 ·rcases b with b | b
  ·exact wpAny_Name (wpAny_loadName_cell I.ok.kind b g a fin) hd
  ·exact wpAny_Name (wpAny_loadName_free I.ok.kind b g a fin f) hd
theorem ug{i j pos}:PE X (.Constant (.int i) j pos) (tC (.int i)):=fun _ _ _ H _ I h=>wpAny_Constant_int ⟨.int i,H,I.tok _,⟨_,rfl⟩,h⟩
theorem EH{b j pos}:PE X (.Constant (.bool b) j pos) (tC (.bl b)):=fun _ _ _ H _ I h=>Constant_bool ⟨.bl b,H,I,rfl,h⟩
theorem uh{j pos}:PE X (.Constant .none j pos) (tC .non):=fun _ _ _ H _ I h=>Constant_none ⟨.non,H,I,rfl,h⟩
theorem lZ{x j pos}:PE X (.Constant (.str x) j pos) (tC (.str x)):=fun _ _ _ H _ I h=>Calls.Constant_str ⟨.str x,H,I.tok _,⟨_,rfl⟩,h⟩
def Gl(X:Cx)(x:Str):Prop:=X.env.kindOf x=some .globalImplicit
theorem me{E:Value->Shared->Prop}{a:List (Addr×Obj)}{s:Shared}{Y:St}{H:Hp}{x:Str}{u:Value}{pos:Pos}{Q:Value->Shared->Prop}(I:Inv X a Y H s)(b:Gl X x)(c:X.mg x=some u)(h:Q u s)
  (hd:(x==("__debug__":Str))=false:=by decide):wpAny (model X.prog X.w) X.A (eval (.Name x pos) X.env) Q E s:=
 Calls.Name_function_global I.ok.kind b (Calls.loadGlobal_global (by rw[I.ok.glob];exact I.mod.glob.keeps I.bk) c h) hd
theorem jM{E:Value->Shared->Prop}{a:List (Addr×Obj)}{s:Shared}{Y:St}{H:Hp}{x:Str}{u:Value}{pos:Pos}{Q:Value->Shared->Prop}(I:Inv X a Y H s)(b:Gl X x)(c:X.mg x=none)(e:bootBuiltins x=some u)(h:Q u s)
  (d:x≠"__name__":=by decide) (hd:(x==("__debug__":Str))=false:=by decide):wpAny (model X.prog X.w) X.A (eval (.Name x pos) X.env) Q E s:=by
 obtain⟨f,h1,h2⟩:=I.mod.blt;exact Calls.Name_function_global I.ok.kind b (Calls.loadGlobal_builtin (by rw[I.ok.glob];exact I.mod.glob.keeps I.bk) c (by rw[I.ok.blt];exact h1.keeps I.bk) ((h2 x d).trans e) h) hd
theorem yl{x:Str}{v:V}{u:Value}{pos:Pos}(a:Gl X x)(b:X.mg x=some u)(r:bd v u)(hd:(x==("__debug__":Str))=false:=by decide):PE X (.Name x pos) (tC v):=
 fun _ _ _ H _ I h=>me I a b ⟨v,H,I,r,h⟩ hd
theorem iB{x:Str}{v:V}{u:Value}{pos:Pos}(a:Gl X x)(b:X.mg x=none)(d:bootBuiltins x=some u)(r:bd v u)(c:x≠"__name__":=by decide)(hd:(x==("__debug__":Str))=false:=by decide):PE X (.Name x pos) (tC v):=
 fun _ _ _ H _ I h=>jM I a b d ⟨v,H,I,r,h⟩ c hd
variable{a b:Expr}{M L:TE}{pos:Pos}
noncomputable def tB(t:TE):TT:=fun Y H Q=>t Y H fun x d=>∃c,x=.bl c/\Q c d
theorem EI{e:Expr}{t:TE}(h:PE X e t)(f:∀whole,isTrue e X.env whole=(do let v <-whole;standAt e.pos;holding [v] (truthy v)):=by intro _;rfl):PT X e (tB t):=by intro c s Y H Q I g;refine isTrue_plain (aT (h c s Y H _ I g) fun v l ⟨x,i,I1,j,k⟩=>?_) (f _);obtain⟨d,rfl,q⟩:=k;cases j;exact wpAny_truthy_bool ⟨i,I1,q⟩
variable{G D:TT}{rest:List Expr}
noncomputable def EJ(t u:TT):TT:=fun Y H Q=>t Y H fun c d=>if c=true then u Y d Q else Q false d
noncomputable def EK(t u:TT):TT:=fun Y H Q=>t Y H fun c d=>if c=true then Q true d else u Y d Q
noncomputable def EL(t:TT):TT:=fun Y H Q=>t Y H fun c d=>Q (!c) d
theorem EM(f:PT X a G):PW X (.BoolOp .And [a] pos) G:=by
 intro g d s Y H Q I h;refine isTrue_and (aT (f d s Y H Q I h) fun c i e=>?_);cases c with
 | true=>exact isTrue_and_nil e
 | false=>exact e
theorem EN(f:PT X a G):PW X (.BoolOp .Or [a] pos) G:=by
 intro g d s Y H Q I h;refine isTrue_or (aT (f d s Y H Q I h) fun c i e=>?_);cases c with
 | false=>exact isTrue_or_nil e
 | true=>exact e
theorem EO(g:PT X a G)(k:PW X (.BoolOp .And (b::rest) pos) D):PW X (.BoolOp .And (a::b::rest) pos) (EJ G D):=by
 intro i d s Y H Q I h;refine isTrue_and (aT (g d s Y H _ I h) fun c j ⟨e,I1,f⟩=>?_);cases c with
 | true=>exact k i d j Y e Q I1 f
 | false=>exact⟨e,I1,f⟩
theorem EQ(g:PT X a G)(k:PW X (.BoolOp .Or (b::rest) pos) D):PW X (.BoolOp .Or (a::b::rest) pos) (EK G D):=by
 intro i d s Y H Q I h;refine isTrue_or (aT (g d s Y H _ I h) fun c j ⟨e,I1,f⟩=>?_);cases c with
 | true=>exact⟨e,I1,f⟩
 | false=>exact k i d j Y e Q I1 f
theorem ER(e:PT X a G):PT X (.UnaryOp .Not a pos) (EL G):=by intro d s Y H Q I h;exact isTrue_not (e d s Y H (fun c f=>Q (!c) f) I h)
noncomputable def ES(M L:TE):TE:=fun Y H Q=>M Y H fun x d=>∃c,x=.bl c/\if c=true then L Y d Q else Q (.bl false) d
noncomputable def ET(M L:TE):TE:=fun Y H Q=>M Y H fun x d=>∃c,x=.bl c/\if c=true then Q (.bl true) d else L Y d Q
noncomputable def EU(M:TE):TE:=fun Y H Q=>M Y H fun x d=>∃c,x=.bl c/\Q (.bl (!c)) d
theorem EV{op}{t:TE}(h:PE X a t):PE X (.BoolOp op [a] pos) t:=fun c s Y H Q I d=>BoolOp_one (h c s Y H Q I d)
theorem EW(g:PE X a M)(k:PE X (.BoolOp .And (b::rest) pos) L):PE X (.BoolOp .And (a::b::rest) pos) (ES M L):=by
 intro d s Y H Q I h;refine BoolOp_and (aT (g d s Y H _ I h) fun v i ⟨x,f,I1,j,e⟩=>?_);obtain⟨c,rfl,e⟩:=e;cases j;refine wpAny_truthy_bool ?_;cases c with
 | true=>exact k d i Y f Q I1 e
 | false=>exact⟨.bl false,f,I1,rfl,e⟩
theorem EY(g:PE X a M)(k:PE X (.BoolOp .Or (b::rest) pos) L):PE X (.BoolOp .Or (a::b::rest) pos) (ET M L):=by
 intro d s Y H Q I h;refine BoolOp_or (aT (g d s Y H _ I h) fun v i ⟨x,f,I1,j,e⟩=>?_);obtain⟨c,rfl,e⟩:=e;cases j;refine wpAny_truthy_bool ?_;cases c with
 | false=>exact k d i Y f Q I1 e
 | true=>exact⟨.bl true,f,I1,rfl,e⟩
theorem EZ(f:PE X a M):PE X (.UnaryOp .Not a pos) (EU M):=by intro d s Y H Q I h;refine UnaryOp_ (aT (f d s Y H _ I h) fun v j ⟨x,g,I1,i,e⟩=>?_);obtain⟨c,rfl,e⟩:=e;cases i;exact not_of (wpAny_truthy_bool ⟨.bl (!c),g,I1,rfl,e⟩)
noncomputable def Fa(t:TT)(M L:TE):TE:=fun Y H Q=>t Y H fun c d=>if c=true then M Y d Q else L Y d Q
theorem Fb{c:Expr}(j:PT X c G)(k:PE X a M)(l:PE X b L):PE X (.IfExp c a b pos) (Fa G M L):=by
 intro e s Y H Q I h;refine wpAny_IfExp (aT (j e s Y H _ I h) fun d f ⟨g,I1,i⟩=>?_);cases d with
 | true=>exact k e f Y g Q I1 i
 | false=>exact l e f Y g Q I1 i
end
def cN(K:Frag)(H:Hp)(a:Addr)(c:List V):Prop:=
 Rd H a (.lst c)\/
  ∃(o:Obj) (b:Array Value) (n:Nat),K.lookup a=some o/\o.cls=.type "list"/\o.dict=none/\o.data=.seq b n/\b.size<=sizeLine/\be c b.toList
def eP(K:Frag)(H:Hp)(a:Addr)(c:List V):Prop:=
 Rd H a (.tup c)\/
  ∃(o:Obj) (b:Array Value) (n:Nat),K.lookup a=some o/\o.cls=.type "tuple"/\o.data=.seq b n/\b.size<=sizeLine/\be c b.toList
noncomputable def Fc:Value->Option V
 | .none=>some .non
 | .bool b=>some (.bl b)
 | .int i _=>some (.int i)
 | .str x _=>some (.str x)
 | .bytes b _=>some (.byt b)
 | .float b _=>some (.flt b)
 | .ref a=>some (.ref a)
 | .type n=>some (.ty n)
 | _=>none
theorem bd.abs{x:V}{u:Value}(r:bd x u):Fc u=some x:=by
 cases x with
 | non=>cases r;rfl
 | bl _=>cases r;rfl
 | int _=>obtain⟨t,rfl⟩:=r;rfl
 | str _=>obtain⟨t,rfl⟩:=r;rfl
 | byt _=>obtain⟨t,rfl⟩:=r;rfl
 | flt _=>obtain⟨t,rfl⟩:=r;rfl
 | ref _=>cases r;rfl
 | ty _=>cases r;rfl
theorem bd.inj{x y:V}{u:Value}(r:bd x u)(q:bd y u):x=y:=Option.some.inj (r.abs.symm.trans q.abs)
theorem be.inj:∀{a b:List V}{c:List Value},be a c->be b c->a=b
 | _,_,_,.nil,.nil=>rfl
 | _,_,_,.cons r t,.cons d t'=>by rw[r.inj d,be.inj t t']
section
variable{X:Cx}{Q:List (Addr×Obj)}{Y:St}{H:Hp}{s:Shared}{a:Addr}{N E:List V}
theorem cN.of{K:Frag}(h:H a=some (.lst N)):cN K H a N:=.inl (.inl h)
theorem Inv.list(I:Inv X Q Y H s)(h:cN X.K H a N):∃b:List Value,be N b/\PlainL s.heap a b.toArray/\N.length<=sizeLine:=by
 rcases h with h | ⟨o,b,n,c,d,hd,hs,f,r⟩
 ·obtain⟨z,b,n,r,e⟩:=h.ok I.hok;exact⟨b,r,⟨_,n,e,rfl,rfl,rfl⟩,z⟩
 ·refine⟨b.toList,r,⟨o,n,I.kIn a o c,d,hd,by simpa using hs⟩,?_⟩;have e:=r.length;simp only[Array.length_toList] at e;omega
theorem Inv.tuple(I:Inv X Q Y H s)(h:eP X.K H a N):∃b:List Value,be N b/\IsTup s.heap a b.toArray/\N.length<=sizeLine:=by
 rcases h with h | ⟨o,b,n,c,d,hs,f,r⟩
 ·obtain⟨z,b,r,p⟩:=h.ok I.hok;exact⟨b,r,p,z⟩
 ·refine⟨b.toList,r,⟨o,I.kIn a o c,d,n,by simpa using hs⟩,?_⟩;have e:=r.length;simp only[Array.length_toList] at e;omega
theorem Inv.list_inj(I:Inv X Q Y H s)(h:cN X.K H a N)(i:cN X.K H a E):N=E:=by
 obtain⟨c,r,⟨o,n,e,_,_,d⟩,_⟩:=I.list h;obtain⟨b,j,⟨l,m,f,_,_,g⟩,_⟩:=I.list i;rw[e] at f;cases f;rw[d] at g;injection g with k _
 have:c=b:=by simpa using congrArg Array.toList k
 subst this;exact r.inj j
theorem Inv.tuple_inj(I:Inv X Q Y H s)(h:eP X.K H a N)(i:eP X.K H a E):N=E:=by
 obtain⟨c,r,⟨o,e,_,n,d⟩,_⟩:=I.tuple h;obtain⟨b,j,⟨l,f,_,m,g⟩,_⟩:=I.tuple i;rw[e] at f;cases f;rw[d] at g;injection g with k _
 have:c=b:=by simpa using congrArg Array.toList k
 subst this;exact r.inj j
end
section
variable{X:Cx}{st:Stmt}{rest:List Stmt}{t u:TS}{e:Expr}{C:TE}{pos:Pos}
noncomputable def Fd:TS:=fun D Y H=>D.nx Y H
noncomputable def Fe(t u:TS):TS:=fun D Y H=>t { D with nx:=u D } Y H
theorem Ff:PSs X [] Fd:=fun _ _ Y H _ I h=>wpAny_execs_nil ⟨Y,H,I,h⟩
theorem Fg(i:PS X st t)(j:PSs X rest u):PSs X (st::rest) (Fe t u):=by
 intro a s Y H D I h;refine wpAny_execs_cons (aT (i a s Y H { D with nx:=u D } I h) fun f b q=>?_);cases f with
 | next=>obtain⟨c,d,g,q⟩:=q;exact j a b c d D g q
 | ret v=>exact q
 | brk=>exact q
 | cont=>exact q
theorem Fh(b:PS X st t):PSs X [st] t:=by
 intro a s Y H D I h;refine wpAny_execs_cons (aT (b a s Y H D I h) fun f c q=>?_);cases f with
 | next=>exact wpAny_execs_nil q
 | ret v=>exact q
 | brk=>exact q
 | cont=>exact q
theorem Inv.quiet{a:List (Addr×Obj)}{Y:St}{H:Hp}{s:Shared}(I:Inv X a Y H s):interactive X.env=false:=by simp[interactive,I.ok.kind]
noncomputable def Fi(C:TE):TS:=fun D Y H=>C Y H fun _ a=>D.nx Y a
theorem pS(b:PE X e C)(f:swapsWith e none pos.line X.env=pure false:=by rfl):PS X (.Expr e pos) (Fi C):=by intro a s Y H D I h;exact wpAny_Expr_any (aT (b a s Y H _ I h) fun v g ⟨x,c,I1,i,d⟩=>⟨Y,c,I1,d⟩) I.quiet f
noncomputable def Fj(C:TE):TS:=fun D Y H=>C Y H D.rt
theorem ym(b:PE X e C):PS X (.Return (some e) pos) (Fj C):=by intro a s Y H D I h;exact wpAny_Return_some (aT (b a s Y H _ I h) fun v g ⟨x,c,I1,d,f⟩=>⟨x,Y,c,I1,d,f⟩)
noncomputable def Fk(c:TT)(t u:TS):TS:=fun D Y H=>c Y H fun b a=>if b=true then t D Y a else u D Y a
theorem Fm{c:Expr}{a b:List Stmt}{g:TT}(l:PT X c g)(m:PSs X a t)(n:PSs X b u):PS X (.If c a b pos) (Fk g t u):=by
 intro f s Y H D I h;refine wpAny_If (aT (l f s Y H _ I h) fun d i ⟨j,I1,k⟩=>?_);cases d with
 | true=>exact m f i Y j D I1 k
 | false=>exact n f i Y j D I1 k
end
abbrev TG:=V->St->Hp->(St->Hp->Prop)->Prop
abbrev jg:=List V->St->Hp->(St->Hp->Prop)->Prop
def PG(X:Cx)(target:Expr)(t:TG):Prop:=
 ∀(a:List (Addr×Obj)) (s:Shared) (Y:St) (H:Hp) (v:V) (u:Value) (Q:St->Hp->Prop),Inv X a Y H s->bd v u->t v Y H Q->
  wpAny (model X.prog X.w) X.A (assign target X.env u) (fun _ d=>∃b c,Inv X a b c d/\Q b c) X.xe s
def PGs(X:Cx)(f:List Expr)(t:jg):Prop:=
 ∀(a:List (Addr×Obj)) (s:Shared) (Y:St) (H:Hp) (b:List V) (c:List Value) (Q:St->Hp->Prop),Inv X a Y H s->be b c->t b Y H Q->
  wpAny (model X.prog X.w) X.A (assignInOrder ((assignEach f X.env).map (·.2)) c) (fun _ g=>∃d e,Inv X a d e g/\Q d e) X.xe s
abbrev ui:=V->V->V->Hp->(Hp->Prop)->Prop
def yn(X:Cx)(t:ui):Prop:=
 ∀(a:List (Addr×Obj)) (s:Shared) (Y:St) (H:Hp) (o i v:V) (b c u:Value) (Q:Hp->Prop),Inv X a Y H s->bd o b->bd i c->bd v u->t o i v H Q->
  wpAny (model X.prog X.w) X.A (setItem b c u) (fun _ e=>∃d,Inv X a Y d e/\Q d) X.xe s
section
variable{X:Cx}{pos:Pos}
noncomputable def pT(i:Nat):TG:=fun v Y H Q=>Q (Y.set i (some v)) H
theorem Fo{i:Nat}{x:Str}(b:X.N.Nodup)(c:X.N[i]? = some x)(f:gO X.env.scope x)(d:X.fn x=true\/X.env.scope.names.lookup x=some .local:=by first | exact .inl rfl | exact .inr rfl | assumption):PG X (.Name x pos) (pT i):=by intro a s Y H v u Q I r h;exact wpAny_assign_Name (uf I b c f r (fun g e=>⟨_,H,e,h⟩) d)
noncomputable def Fp:jg:=fun a Y H Q=>a=[]/\Q Y H
noncomputable def Fq(t:TG)(u:jg):jg:=fun a Y H Q=>∃v r,a=v::r/\t v Y H fun b c=>u r b c Q
theorem Fs:PGs X [] Fp:=by intro a s Y H b c Q I r h;obtain⟨e,h⟩:=h;subst e;cases r;exact assignInOrder_nil ⟨Y,H,I,h⟩
theorem Ft{e:Expr}{b:List Expr}{t:TG}{u:jg}(k:PG X e t)(l:PGs X b u)
  (m:(assignEach (e::b) X.env).map (·.2)=assign e X.env::(assignEach b X.env).map (·.2):=by rfl):PGs X (e::b) (Fq t u):=by
 intro a s Y H n o Q I r h;obtain⟨v,p,c,h⟩:=h;subst c;cases r with
 | cons r d=>rw[m];refine assignInOrder_cons (aT (k a s Y H _ _ _ I r h) fun _ f ⟨g,i,I1,j⟩=>?_);exact l a f g i _ _ Q I1 d j
noncomputable def Fu(K:Frag)(n:Nat)(t:jg):TG:=fun v Y H Q=>∃a b,v=.ref a/\eP K H a b/\b.length=n/\t b Y H Q
theorem Fv{d:List Expr}{k:Nat}{t:jg}{n:Nat}(j:X.calm=true)(h:PGs X d t)
  (l:(assignEach d X.env).length=n:=by rfl) (f:(assignEach d X.env).findIdx? (·.1)=none:=by rfl):PG X (.Tuple d k pos) (Fu X.K n t):=by
 intro c s Y H v u Q I r g;obtain⟨a,m,p,q,w,g⟩:=g;subst p;cases r;obtain⟨x,i,ht,A⟩:=I.tuple q;refine assign_Tuple_tuple (I.ok.hd j) ht (by simp[l,<-w,i.length]) f fun y z=>?_;have I1:Inv X c Y H { s with heap:=y }:=I.kept (t':=s.toks) fun b o e=>z b o (Nat.ne_of_lt (bB e)) e;exact h c _ Y H m _ Q I1 (by simpa using i) g
noncomputable def iC(d e:TE)(t:ui):TG:=fun v Y H Q=>d Y H fun o a=>e Y a fun i b=>t o i v b fun c=>Q Y c
theorem yo{o i:Expr}{d e:TE}{t:ui}(D:PE X o d)(f:PE X i e)(E:yn X t)
  (g:∀v,assign (.Subscript o i pos) X.env v=(do
   let b <-holding [v] (eval o X.env);let c <-holding [v,b] (eval i X.env)
   standAt pos
   holding [v,b,c] (setItem b c v)
   release [v,b,c] []):=by intro _;rfl):PG X (.Subscript o i pos) (iC d e t):=by
 intro a s Y H v u Q I r h;rw[g];refine al (wpAny_holding (aT (D a s Y H _ I h) fun b j ⟨x,k,I1,l,m⟩=>?_));refine al (wpAny_holding (aT (f a j Y k _ I1 m) fun c n ⟨y,p,q,w,z⟩=>?_));refine al (wpAny_standAt (al (wpAny_holding (aT (E a n Y p x y v b c u _ q l w r z) fun _ G ⟨A,B,C⟩=>?_))));exact wpAny_release ⟨Y,A,B,C⟩
noncomputable def uj(a:TE)(g:TG):TS:=fun D Y H=>a Y H fun x b=>g x Y b D.nx
theorem uk{b e:Expr}{c:TE}{g:TG}(d:PE X e c)(f:PG X b g)(n:swapsWithSole [b] e pos.line X.env=pure false:=by rfl)(i:swappedStores [b] e X.env=pure none:=by rfl)
  (o:(assignEach [b] X.env).map (·.2)=[assign b X.env]:=by rfl):PS X (.Assign [b] e pos) (uj c g):=by
 intro a s Y H D I h;refine wpAny_Assign_stores (aT (d a s Y H _ I h) fun v j ⟨x,k,I1,l,m⟩=>?_) n i;rw[o];exact aT (f a j Y k x v _ I1 l m) fun _ p q=>q
theorem yp{i:Nat}{x:Str}{e:Expr}{c:TE}{a:Pos}(d:X.N.Nodup)(f:X.N[i]? = some x)(o:gO X.env.scope x)(g:PE X e c)(p:swapsWith e (some (.Name x a)) pos.line X.env=pure false:=by rfl)(j:X.fn x=true\/X.env.scope.names.lookup x=some .local:=by first | exact .inl rfl | exact .inr rfl | assumption) :
  PS X (.Assign [.Name x a] e pos) (uj c (pT i)):=by
 intro b s Y H D I h;refine wpAny_Assign_Name (aT (g b s Y H _ I h) fun v q ⟨y,k,I1,l,m⟩=>?_) p;exact uf I1 d f o l (fun r n=>⟨_,k,n,m⟩) j
end
structure It where
 go:Nat->Hp->Prop
 yld:Nat->Hp->V->Hp->Prop
 stop:Nat->Hp->Prop
def gx(X:Cx)(a:List (Addr×Obj))(H:Hp)(b:Addr):Prop:=
 H b=none/\b≠X.env.locals/\b∉X.fs/\(b∈X.ex\/X.s₀.heap.objs.size<=b)/\(∀x c,X.env.cells.lookup x=some c->c≠b)/\∀p∈X.pn++a,p.1≠b
theorem Inv.fpOk{X:Cx}{a:List (Addr×Obj)}{Y:St}{H f:Hp}{s:Shared}{b:Addr}(I:Inv X a Y H s)(d:s.heap.objs.size<=b)(g:f b=none):gx X a f b:=by
 refine⟨g,Nat.ne_of_gt (Nat.lt_of_lt_of_le I.lt d),I.nofs d,.inr (Nat.le_trans I.sz d),fun x c e z=>?_,fun p h z=>?_⟩
 ·obtain⟨v,q⟩:=I.cell x c e;exact absurd (Nat.lt_of_lt_of_le q.lt (by rw[z];exact d)) (Nat.lt_irrefl _)
 ·exact absurd (Nat.lt_of_lt_of_le (bB (I.pin p h).1) (by rw[z];exact d)) (Nat.lt_irrefl _)
structure ia (P:Program) (w:World) (K:Frag) (tg:Expr) (J:It) (fp:List Addr) (it:Addr) (tn:Nat->Heap->Prop):Prop where
 mem:it∈fp
 obj:∀i h,tn i h->∀b∈fp,∃o,h.get? b=some o/\∀v,o.data≠.cell v
 keep:∀i h h',tn i h->(∀b∈fp,∀o,h.get? b=some o->h'.get? b=some o)->tn i h'
 item:∀(X:Cx),X.prog=P->X.w=w->X.K=K->X.calm=true->∀(i:Nat) (pins:List (Addr×Obj)) (s:Shared) (Y:St) (H:Hp) (E:Value->Shared->Prop),Inv X pins Y H s->(∀b∈fp,gx X pins H b)->tn i s.heap->J.go i H->
  wpAny (model P w) X.A (pyNext (.ref it)) (fun r s1=>∃u,r=some u/\
   wpAny (model P w) X.A (letOwnedTupleGo tg (.ref it) u) (fun _ s2=>∃x H',Inv X pins Y H' s2/\bd x u/\J.yld i H x H'/\tn (i+1) s2.heap/\∀b∈fp,H' b=none) E s1) E s
 done:∀(X:Cx),X.prog=P->X.w=w->X.K=K->X.calm=true->∀(i:Nat) (pins:List (Addr×Obj)) (s:Shared) (Y:St) (H:Hp) (E:Value->Shared->Prop),Inv X pins Y H s->(∀b∈fp,gx X pins H b)->tn i s.heap->J.stop i H->
  wpAny (model P w) X.A (pyNext (.ref it)) (fun r s1=>r=none/\Inv X pins Y H s1) E s
 self:∀(A:Around) (i:Nat) (s:Shared) (Q:Value->Shared->Prop) (E:Value->Shared->Prop),tn i s.heap->Q (.ref it) s->wpAny (model P w) A (pyIter (.ref it)) Q E s
abbrev TI:=St->Hp->(It->Hp->Prop)->Prop
def yq(X:Cx)(a:List (Addr×Obj))(Y:St)(h:Expr)(R:It->Hp->Prop)(c:Value)(e:Shared):Prop:=
 ∃(it:Addr) (f:List Addr) (g:Nat->Heap->Prop) (J:It) (d:Hp),c=.ref it/\Inv X a Y d e/\ia X.prog X.w X.K h J f it g/\g 0 e.heap/\(∀b∈f,gx X a d b)/\R J d
def PI(X:Cx)(b iter:Expr)(c:TI):Prop:=
 ∀(a:List (Addr×Obj)) (s:Shared) (Y:St) (H:Hp) (R:It->Hp->Prop),Inv X a Y H s->c Y H R->
  wpAny (model X.prog X.w) X.A (eval iter X.env) (fun v d=>wpAny (model X.prog X.w) X.A (pyIter v) (yq X a Y b R) X.xe d) X.xe s
theorem um{M:Model}{A:Around}{E:Value->Shared->Prop}{s:Shared}{b:Expr}{it:Addr}{u:Value}{o:Obj}{n:String}{c:Array Value}{Q:Unit->Shared->Prop}(f:s.heap.get? it=some o)(d:o.cls=.type n)(hd:o.data=.fields c)
    (e:["enumerate","zip","dict_itemiterator","dict_reverseitemiterator","odict_iterator","itertools.zip_longest","itertools.pairwise"].contains n=false) (a:Q () s):wpAny M A (letOwnedTupleGo b (.ref it) u) Q E s:=by
  unfold letOwnedTupleGo;cases b<;>first
    | exact aV a
    | (cases u<;>first
        | exact aV a
        | (refine al (wpAny_load f ?_)
           rw[d,hd];show wpAny M A (if (["enumerate","zip","dict_itemiterator","dict_reverseitemiterator","odict_iterator","itertools.zip_longest","itertools.pairwise"].contains n&&c[0]?==some (rawInt _))=true then _ else _) Q E s;rw[if_neg (by intro h;rw[e,Bool.false_and] at h;cases h)];exact aV a))
noncomputable def uo(K:Frag)(a:Addr):It:=
 ⟨fun i H=>∃b x,cN K H a b/\b[i]? = some x,fun i H x c=>c = H/\∀b,cN K H a b->b[i]? = some x,fun i H=>∃b,cN K H a b/\b.length<=i⟩
noncomputable def uq(K:Frag)(a:Addr):It:=
 ⟨fun i H=>∃b x,eP K H a b/\b[i]? = some x,fun i H x c=>c = H/\∀b,eP K H a b->b[i]? = some x,fun i H=>∃b,eP K H a b/\b.length<=i⟩
noncomputable def pU(lo:Int)(n:Nat):It:=⟨fun i _=>i<n,fun i H x a=>a = H/\x=.int (lo+i),fun i _=>n<=i⟩
theorem Fw{P:Program}{w:World}{K:Frag}{tg:Expr}(a it:Addr):ia P w K tg (uo K a) [it] it (fun i h=>h.IsListIter it a i) where
 mem:=by simp
 obj:=fun i h st b hb=>by
  have e:b=it:=by simpa using hb
  subst e;obtain⟨o,e,c,d⟩:=st;exact⟨o,e,fun v z=>by rw[d] at z;cases z⟩
 keep:=fun i h h' st k=>st.at fun o e=>k it (by simp) o e
 item:=by intro X hP hw hK hc i pins s Y H E I hf st hg;subst hP hw hK;obtain⟨xs,x,hq,hx⟩:=hg;obtain⟨its,rv,p,hz⟩:=I.list hq;obtain⟨u,hu,ru⟩:=rv.get hx;obtain⟨f0,f1,f2,f3,f4,f5⟩:=hf it (by simp);refine wpAny_pyNext_list_item st p.isList (x:=u) (by simpa using hu) fun h' st' sb=>?_;have I1:Inv X pins Y H { s with heap:=h' }:=I.turned (t':=s.toks) (fun b o hb e=>(sb.2 b hb).trans e) f0 f1 f3 f4 f5;obtain⟨o,e,c,d⟩:=id st';exact⟨u,rfl,um (s:={ s with heap:=h' }) e c d (by decide) ⟨x,H,I1,ru,⟨rfl,fun ys hy=>by rw[I.list_inj hy hq];exact hx⟩,st',fun b hb=>(hf b hb).1⟩⟩
 done:=by intro X hP hw hK hc i pins s Y H E I hf st hg;subst hP hw hK;obtain⟨xs,hq,hx⟩:=hg;obtain⟨its,rv,p,hz⟩:=I.list hq;obtain⟨f0,f1,f2,f3,f4,f5⟩:=hf it (by simp);have hl:=rv.length;exact wpAny_pyNext_list_end (I.ok.hd hc) st p.isList (by simp;omega) fun h' eb=>⟨rfl,I.turned (t':=s.toks) (fun b o hb e=>eb b o hb e) f0 f1 f3 f4 f5⟩
 self:=fun _ _ _ _ _ st h=>wpAny_pyIter_listiter st h
theorem Fy{P:Program}{w:World}{K:Frag}{tg:Expr}(a it:Addr):ia P w K tg (uq K a) [it] it (fun i h=>h.IsTupleIter it a i) where
 mem:=by simp
 obj:=fun i h st b hb=>by
  have e:b=it:=by simpa using hb
  subst e;obtain⟨o,e,c,d⟩:=st;exact⟨o,e,fun v z=>by rw[d] at z;cases z⟩
 keep:=fun i h h' st k=>st.at fun o e=>k it (by simp) o e
 item:=by intro X hP hw hK hc i pins s Y H E I hf st hg;subst hP hw hK;obtain⟨xs,x,hq,hx⟩:=hg;obtain⟨its,rv,p,hz⟩:=I.tuple hq;obtain⟨u,hu,ru⟩:=rv.get hx;obtain⟨f0,f1,f2,f3,f4,f5⟩:=hf it (by simp);refine wpAny_pyNext_tuple_item st (show s.heap.IsTuple a its.toArray from p) (x:=u) (by simpa using hu) fun h' st' sb=>?_;have I1:Inv X pins Y H { s with heap:=h' }:=I.turned (t':=s.toks) (fun b o hb e=>(sb.2 b hb).trans e) f0 f1 f3 f4 f5;obtain⟨o,e,c,d⟩:=id st';exact⟨u,rfl,um (s:={ s with heap:=h' }) e c d (by decide) ⟨x,H,I1,ru,⟨rfl,fun ys hy=>by rw[I.tuple_inj hy hq];exact hx⟩,st',fun b hb=>(hf b hb).1⟩⟩
 done:=by intro X hP hw hK hc i pins s Y H E I hf st hg;subst hP hw hK;obtain⟨xs,hq,hx⟩:=hg;obtain⟨its,rv,p,hz⟩:=I.tuple hq;obtain⟨f0,f1,f2,f3,f4,f5⟩:=hf it (by simp);have hl:=rv.length;exact wpAny_pyNext_tuple_end (I.ok.hd hc) st (show s.heap.IsTuple a its.toArray from p) (by simp;omega) fun h' eb=>⟨rfl,I.turned (t':=s.toks) (fun b o hb e=>eb b o hb e) f0 f1 f3 f4 f5⟩
 self:=fun _ _ _ _ _ st h=>wpAny_pyIter_tupleiter st h
theorem Fz{P:Program}{w:World}{K:Frag}{tg:Expr}(it:Addr)(lo:Int)(n:Nat):ia P w K tg (pU lo n) [it] it (fun i h=>IsRangeIter h it (lo+(i:Nat) * 1) ((n:Int) - (i:Nat)) 1) where
 mem:=by simp
 obj:=fun i h st b hb=>by
  have e:b=it:=by simpa using hb
  subst e;exact⟨_,st,fun v z=>by
   have z':Data.fields _=Data.cell v:=z;cases z'⟩
 keep:=fun i h h' st k=>k it (by simp) _ st
 item:=by intro X hP hw hK hc i pins s Y H E I hf st hg;subst hP hw hK;obtain⟨f0,f1,f2,f3,f4,f5⟩:=hf it (by simp);have W:=Walks.range (prog:=X.prog) (w:=X.w) (I.ok.hd hc) it lo 1 n;refine W.item i s _ _ hg st fun v h' tk hv st' kk=>?_;obtain⟨t,rfl⟩:=hv;have I1:Inv X pins Y H { s with heap:=h',toks:=tk }:=I.turned (fun b o hb e=>kk b o (by simpa using hb) e) f0 f1 f3 f4 f5;refine⟨_,rfl,um (s:={ s with heap:=h',toks:=tk }) (n:="range_iterator") st' rfl rfl (by decide) ⟨.int (lo+i),H,I1,⟨t,?_⟩,⟨rfl,rfl⟩,st',fun b hb=>(hf b hb).1⟩⟩;rw[Int.mul_one]
 done:=by intro X hP hw hK hc i pins s Y H E I hf st hg;subst hP hw hK;obtain⟨f0,f1,f2,f3,f4,f5⟩:=hf it (by simp);exact wpAny_pyNext_range_end (I.ok.hd hc) st (by have:n<=i:=hg;omega) fun h' eb=>⟨rfl,I.turned (t':=s.toks) (fun b o hb e=>eb b o hb e) f0 f1 f3 f4 f5⟩
 self:=fun _ _ _ _ _ st h=>wpAny_pyIter_rangeiter st h
section
variable{X:Cx}{B:Expr}
noncomputable def FC(K:Frag)(c:TE):TI:=fun Y H R=>c Y H fun x b=>∃a,x=.ref a/\(∃d,cN K b a d)/\R (uo K a) b
noncomputable def FF(K:Frag)(c:TE):TI:=fun Y H R=>c Y H fun x b=>∃a,x=.ref a/\(∃d,eP K b a d)/\R (uq K a) b
theorem FH{l:Expr}{f:TE}(g:PE X l f):PI X B l (FC X.K f):=by
 intro c s Y H R I h;refine aT (g c s Y H _ I h) fun v d ⟨x,i,I1,j,k⟩=>?_;obtain⟨a,e,⟨t,m⟩,q⟩:=k;subst e;cases j;obtain⟨n,u,p,w⟩:=I1.list m;refine wpAny_pyIter_list p.isList ?_;refine⟨d.heap.objs.size,[d.heap.objs.size],_,_,i,rfl,I1.kept (t':=d.toks) fun b o e=>bA _ e,Fw a _,⟨_,Heap.get?_push_size _ rfl,rfl,rfl⟩,fun b r=>?_,q⟩;have e:b=d.heap.objs.size:=by simpa using r
 subst e;exact I1.fpOk (bH _) (I1.hok.fresh (bH _))
theorem FJ{l:Expr}{g:TE}(i:PE X l g):PI X B l (FF X.K g):=by
 intro c s Y H R I h;refine aT (i c s Y H _ I h) fun v d ⟨x,j,I1,k,m⟩=>?_;obtain⟨a,e,⟨t,n⟩,q⟩:=m;subst e;cases k;obtain⟨f,u,p,w⟩:=I1.tuple n;refine wpAny_pyIter_tuple (show d.heap.IsTuple a f.toArray from p) ?_;refine⟨d.heap.objs.size,[d.heap.objs.size],_,_,j,rfl,I1.kept (t':=d.toks) fun b o e=>bA _ e,Fy a _,⟨_,Heap.get?_push_size _ rfl,rfl,rfl⟩,fun b r=>?_,q⟩;have e:b=d.heap.objs.size:=by simpa using r
 subst e;exact I1.fpOk (bH _) (I1.hok.fresh (bH _))
theorem FK{c:List (Addr×Obj)}{Y:St}{H:Hp}{s:Shared}{R:It->Hp->Prop}{E:Value->Shared->Prop}{lo a:Int}{t u v:Tok}{d:Nat}(I:Inv X c Y H s)(i:-(2 ^ 62)<=lo)(j:lo<2 ^ 62)(k:-(2 ^ 62)<=a)(f:a<2 ^ 62)
  (q:R (pU lo (a - lo).toNat) H):wpAny (model X.prog X.w) X.A (pyIter (.ref s.heap.objs.size)) (yq X c Y B R) E { s with heap:=s.heap.push { cls:=.type "range",data:=.fields #[.int lo t,.int a u,.int 1 v] },toks:=d }:=by
 refine wpAny_pyIter_range (IsRange.new ..) (small_one i j k f) ?_;have I1:Inv X c Y H { s with heap:=s.heap.push { cls:=.type "range",data:=.fields #[.int lo t,.int a u,.int 1 v] },toks:=d }:=I.kept fun b o e=>bA _ e;refine⟨(s.heap.push { cls:=.type "range",data:=.fields #[.int lo t,.int a u,.int 1 v] }).objs.size,[(s.heap.push { cls:=.type "range",data:=.fields #[.int lo t,.int a u,.int 1 v] }).objs.size],_,_,H,rfl,
  I1.kept (t':=d) fun b o e=>bA _ e,Fz _ lo (a - lo).toNat,?_,fun b l=>?_,q⟩
 ·have g:lo+((0:Nat):Int) * 1=lo:=by simp
  have h:(((a - lo).toNat:Nat):Int) - ((0:Nat):Int)=Builtin.Range.rangeSize lo a 1:=by rw[rangeSize_one];split<;>omega
  show IsRangeIter _ _ (lo+((0:Nat):Int) * 1) ((((a - lo).toNat:Nat):Int) - ((0:Nat):Int)) 1;rw[g,h];exact Heap.get?_push_size _ rfl
 ·have e:b=(s.heap.push { cls:=.type "range",data:=.fields #[.int lo t,.int a u,.int 1 v] }).objs.size:=by simpa using l
  subst e;exact I1.fpOk (bH _) (I1.hok.fresh (bH _))
noncomputable def FL(a:TA):TI:=fun Y H R=>a Y H fun b c=>∃j:Int,b=[.int j]/\-(2 ^ 62)<=j/\j<2 ^ 62/\R (pU 0 j.toNat) c
theorem FR{a:Expr}{d:TA}{p pos:Pos}(f:Gl X "range")(g:X.mg "range" = none)(i:PA X [a] d)(n:starEach [a] X.env=[(false,eval a X.env)]:=by rfl):PI X B (.Call (.Name "range" p) [a] [] pos) (FL d):=by
 intro b s Y H R I h;refine Call_ (jM I f g boot_range (PyProof.Rows.callWith_type1 (aT (i pos b s Y H _ I h) fun o u ⟨v,w,I1,k,c⟩=>?_) n rfl));obtain⟨j,e,c,l,q⟩:=c;subst e;cases k with
 | cons r m=>cases m;obtain⟨t,rfl⟩:=r;exact call_range_1 (FK I1 (by omega) (by omega) c l (by simpa using q))
noncomputable def FT(d:TI)(g:TG)(e:TS):TS:=fun D Y H=>d Y H fun J f=>∃W:Nat->Nat->St->Hp->Prop,(∃m,W 0 m Y f)/\∀i m Y H,W i m Y H->
 (J.stop i H/\D.nx Y H)\/(J.go i H/\∃N:St->Hp->Prop,(∀b a,N b a->∃c,c<m/\W (i+1) c b a)/\∀x a,J.yld i H x a->g x Y a fun h j=>e { D with nx:=N,ct:=N,bk:=D.nx } h j)
noncomputable def nF(a:List Addr)(h:Heap):List (Addr×Obj):=a.filterMap fun b=>(h.get? b).map fun o=>(b,o)
theorem pV{a:List Addr}{h:Heap}{b:Addr}{o:Obj}(c:b∈a)(e:h.get? b=some o):(b,o)∈nF a h:=List.mem_filterMap.mpr ⟨b,c,by rw[e];rfl⟩
theorem FU{a:List Addr}{h:Heap}{p:Addr×Obj}(c:p∈nF a h):p.1∈a/\h.get? p.1=some p.2:=by
 obtain⟨b,hb,e⟩:=List.mem_filterMap.mp c;cases q:h.get? b with
 | none=>rw[q] at e;cases e
 | some o=>rw[q] at e;have d:(b,o)=p:=Option.some.inj e;subst d;exact⟨hb,q⟩
theorem Inv.pinned{a:List (Addr×Obj)}{Y:St}{H:Hp}{s:Shared}{c:List Addr}(I:Inv X a Y H s)(h:∀b∈c,gx X a H b)(k:∀b∈c,∃o,s.heap.get? b=some o/\∀v,o.data≠.cell v):Inv X (a++nF c s.heap) Y H s:=
 I.pins_of fun p i=>(List.mem_append.mp i).elim (fun z=>I.pin p (bi _ z)) fun z=>by obtain⟨g,e⟩:=FU z;obtain⟨j,f1,f2,_⟩:=h p.1 g;obtain⟨o,f,d⟩:=k p.1 g;rw[e] at f;cases f;exact⟨e,j,f1,f2,d⟩
theorem Inv.unpinned{a c:List (Addr×Obj)}{Y:St}{H:Hp}{s:Shared}(I:Inv X (a++c) Y H s):Inv X a Y H s:=I.pins_of fun p b=>I.pin p (bi _ (br _ b))
theorem FV{iter:Expr}{body:List Stmt}{wi:TI}{g:TG}{tb:TS}{pos:Pos}(y:PassesOwn (model X.prog X.w) X.A X.env X.xe)(hc:X.calm=true)(hi:PI X B iter wi)(hg:PG X B g)(p:PSs X body tb)
  (hs:∀x,foldedSetIterable iter X.env x=pure x:=by intro _;rfl):PS X (.For B iter body [] pos) (FT wi g tb):=by
 intro a s Y H D I h;refine wpAny_For (aT (hi a s Y H _ I h) fun v s1 h1=>aT h1 fun a0 s2 h2=>?_) hs;obtain⟨it,z,tn,J,H2,e,I2,T,R,f2,W,⟨m0,w0⟩,C⟩:=h2;subst e;have c:∀{q:Hp},(∀b∈z,q b=none)->∀b∈z,gx X a q b:=fun hn b p=>⟨hn b p,(f2 b p).2⟩
 refine codeAny_forLoop_any (fun n s'=>∃i E q,Inv X a E q s'/\tn i s'.heap/\(∀b∈z,q b=none)/\W i n E q) ?_ m0 ⟨0,Y,H2,I2,R,fun b p=>(f2 b p).1,w0⟩;rintro n s3 ⟨i,G,Q,I3,L,M,w3⟩;rcases C i n G Q w3 with⟨stop,qn⟩ | ⟨go,N,hN,step⟩
 ·refine wpAny_passesOwn y (aT (T.done X rfl rfl rfl hc i a s3 G Q X.xe I3 (c M) L stop) fun r s4 ⟨S,I4⟩=>?_);subst S;exact wpAny_execs_nil ⟨G,Q,I4,qn⟩
 ·refine wpAny_passesOwn y (aT (T.item X rfl rfl rfl hc i a s3 G Q X.xe I3 (c M) L go) fun r s4 ⟨u,S,h4⟩=>?_);subst S;refine wpAny_passesOwn y (aT h4 fun _ s5 ⟨x,H5,I5,r5,y5,cG,U⟩=>?_);have Z:=I5.pinned (c U) (T.obj _ _ cG);refine wpAny_passesOwn y (aT (hg _ s5 G H5 x u _ Z r5 (step x H5 y5)) fun _ s6 ⟨Y6,H6,I6,q6⟩=>?_);refine wpAny_passesOwn y (aT (p _ s6 Y6 H6 _ I6 q6) fun f s7 t=>?_);have again:∀{j:St}{k:Hp},Inv X (a++nF z s5.heap) j k s7->N j k->∃m,m<n/\∃i E q,Inv X a E q s7/\tn i s7.heap/\(∀b∈z,q b=none)/\W i m E q:=fun {j k} l O=>by obtain⟨m',hm,w7⟩:=hN j k O;refine⟨m',hm,i+1,j,k,l.unpinned,T.keep _ _ _ cG fun b p o e=>(l.pin (b,o) (bi _ (bi _ (pV p e)))).1,fun b p=>?_,w7⟩;obtain⟨o,e,d⟩:=T.obj _ _ cG b p;exact(l.pin (b,o) (bi _ (bi _ (pV p e)))).2.1
  cases f with
  | next=>obtain⟨j,k,l,O⟩:=t;exact again l O
  | cont=>obtain⟨j,k,l,O⟩:=t;exact again l O
  | brk=>obtain⟨j,k,l,t⟩:=t;exact⟨j,k,l.unpinned,t⟩
  | ret v=>obtain⟨x7,j,k,l,r7,t⟩:=t;exact⟨x7,j,k,l.unpinned,r7,t⟩
end
abbrev R2:=V->V->Hp->VK->Prop
def cH(X:Cx)(f:Value->Value->Sem Value)(r:R2):Prop:=
 ∀(a:List (Addr×Obj)) (s:Shared) (Y:St) (H:Hp) (x y:V) (v u:Value) (Q:VK),Inv X a Y H s->bd x v->bd y u->r x y H Q->
  wpAny (model X.prog X.w) X.A (f v u) (EP X a Y Q) X.xe s
def ur(X:Cx)(f:Value->Sem Value)(r:V->Hp->VK->Prop):Prop:=
 ∀(a:List (Addr×Obj)) (s:Shared) (Y:St) (H:Hp) (x:V) (v:Value) (Q:VK),Inv X a Y H s->bd x v->r x H Q->
  wpAny (model X.prog X.w) X.A (f v) (EP X a Y Q) X.xe s
def ib(X:Cx)(f:Value)(r:List V->Hp->VK->Prop):Prop:=
 ∀(a:List (Addr×Obj)) (s:Shared) (Y:St) (H:Hp) (b:List V) (c:List Value) (Q:VK),Inv X a Y H s->be b c->r b H Q->
  wpAny (model X.prog X.w) X.A (call f c) (EP X a Y Q) X.xe s
noncomputable def nG(r:R2)(a b:TE):TE:=fun Y H Q=>a Y H fun x c=>b Y c fun y d=>r x y d Q
noncomputable def FY(r:V->Hp->VK->Prop)(a:TE):TE:=fun Y H Q=>a Y H fun x b=>r x b Q
noncomputable def rI(C:Int->Int->Prop)(g:Int->Int->V):R2:=fun x y H Q=>∃i j,x=.int i/\y=.int j/\C i j/\Q (g i j) H
noncomputable def iD(g:Int->Int->V):R2:=fun x y H Q=>∃i j,x=.int i/\y=.int j/\Q (g i j) H
noncomputable def rU(g:Int->V):V->Hp->VK->Prop:=fun x H Q=>∃i,x=.int i/\Q (g i) H
section
variable{X:Cx}{a b c:Expr}{z p n:TE}{pos:Pos}
theorem uu(j:PE X a z)(D:PE X b p){d:List (Addr×Obj)}{s:Shared}{Y:St}{H:Hp}{R:V->V->Hp->Prop}(I:Inv X d Y H s)
  (h:z Y H fun x i=>p Y i fun y e=>R x y e) {Q:Value->Shared->Prop}{f:Value->Value->Sem Value}
  (k:∀v u g x y e,Inv X d Y e g->bd x v->bd y u->R x y e->wpAny (model X.prog X.w) X.A (f v u) Q X.xe g) :
  wpAny (model X.prog X.w) X.A (eval a X.env) (fun v l=>wpAny (model X.prog X.w) X.A (eval b X.env) (fun u m=>wpAny (model X.prog X.w) X.A (f v u) Q X.xe m) X.xe l) X.xe s:=by
 refine aT (j d s Y H _ I h) fun v o ⟨x,i,I1,q,r⟩=>?_;refine aT (D d o Y i _ I1 r) fun u g ⟨y,e,t,B,C⟩=>?_;exact k v u g x y e t q B C
theorem yr{op:Operator}{r:R2}(l:cH X (binaryOp op) r)(e:PE X a z)(m:PE X b p):PE X (.BinOp a op b pos) (nG r z p):=by intro d s Y H Q I h;exact wpAny_BinOp (uu e m I h fun v u f x y g i j k q=>l d f Y g x y v u Q i j k q)
theorem FZ{op:UnaryOp}{r:V->Hp->VK->Prop}(k:ur X (unaryOp op) r)(e:PE X a z):PE X (.UnaryOp op a pos) (FY r z):=by intro d s Y H Q I h;exact UnaryOp_ (aT (e d s Y H _ I h) fun v f ⟨x,g,I1,i,j⟩=>k d f Y g x v Q I1 i j)
theorem uv{f:Value->Value->Sem Value}{C:Int->Int->Prop}{g:Int->Int->Int}
  (rule:∀(i j:Int) (t u:Tok) (s:Shared) (Q:Value->Shared->Prop) (E:Value->Shared->Prop),C i j->Q (.int (g i j) s.toks) { s with toks:=s.toks+1 }->wpAny (model X.prog X.w) X.A (f (.int i t) (.int j u)) Q E s) :
  cH X f (rI C fun i j=>.int (g i j)):=by
 intro d s Y H x y v u Q I e k h;obtain⟨i,j,rfl,rfl,l,q⟩:=h;obtain⟨t,rfl⟩:=e;obtain⟨t',rfl⟩:=k;exact rule i j t t' s _ _ l ⟨.int (g i j),H,I.tok _,⟨_,rfl⟩,q⟩
theorem yt{f:Value->Value->Sem Value}{g:Int->Int->Int}
  (rule:∀(i j:Int) (t u:Tok) (s:Shared) (Q:Value->Shared->Prop) (E:Value->Shared->Prop),Q (.int (g i j) s.toks) { s with toks:=s.toks+1 }->wpAny (model X.prog X.w) X.A (f (.int i t) (.int j u)) Q E s) :
  cH X f (iD fun i j=>.int (g i j)):=by
 intro d s Y H x y v u Q I e k h;obtain⟨i,j,rfl,rfl,q⟩:=h;obtain⟨t,rfl⟩:=e;obtain⟨t',rfl⟩:=k;exact rule i j t t' s _ _ ⟨.int (g i j),H,I.tok _,⟨_,rfl⟩,q⟩
theorem uw{f:Value->Value->Sem Value}{g:Int->Int->Bool}
  (rule:∀(i j:Int) (t u:Tok) (s:Shared) (Q:Value->Shared->Prop) (E:Value->Shared->Prop),Q (.bool (g i j)) s->wpAny (model X.prog X.w) X.A (f (.int i t) (.int j u)) Q E s) :
  cH X f (iD fun i j=>.bl (g i j)):=by
 intro d s Y H x y v u Q I e k h;obtain⟨i,j,rfl,rfl,q⟩:=h;obtain⟨t,rfl⟩:=e;obtain⟨t',rfl⟩:=k;exact rule i j t t' s _ _ ⟨.bl (g i j),H,I,rfl,q⟩
def ux(i j:Int):Prop:=0<j/\j<1073741824
def nH(i j:Int):Prop:=(-(2 ^ 64)<i/\i<2 ^ 64)\/(-(2 ^ 64)<j/\j<2 ^ 64)
theorem nH.ok{i j:Int}(h:nH i j):IntMulOk i j:=by
 rcases h with⟨h1,h2⟩ | ⟨h1,h2⟩
 ·exact .of_left (intBits_le_64 h1 h2)
 ·exact .of_right (intBits_le_64 h1 h2)
theorem Ga:cH X (binaryOp .Add) (iD fun i j=>.int (i+j)):=yt fun _ _ _ _ _ _ _ q=>add_int q
theorem Gb:cH X (binaryOp .Sub) (iD fun i j=>.int (i - j)):=yt fun _ _ _ _ _ _ _ q=>sub_int q
theorem Gc:cH X (binaryOp .Mult) (rI nH fun i j=>.int (i * j)):=uv fun _ _ _ _ _ _ _ d q=>mul_int q d.ok
theorem Gd:cH X (binaryOp .FloorDiv) (rI ux fun i j=>.int (i / j)):=uv fun i j _ _ _ _ _ d q=>by have h1:(0:Int)<j:=d.1;have h2:j<1073741824:=d.2;exact floordiv_int (by omega) (by rw[Int.fdiv_eq_ediv_of_nonneg i (by omega)];exact q) (.inl (PyProof.noPylong_small (by omega)))
theorem Ge:cH X (binaryOp .Mod) (rI (fun _ j=>0<j) fun i j=>.int (i % j)):=uv fun i j _ _ _ _ _ d q=>by have h1:(0:Int)<j:=d;exact mod_int' (by omega) (by rw[Int.fmod_eq_emod_of_nonneg i (by omega)];exact q)
theorem Gf{f:Value->Sem Value}{g:Int->Int}
  (rule:∀(i:Int) (t:Tok) (s:Shared) (Q:Value->Shared->Prop) (E:Value->Shared->Prop),Q (.int (g i) s.toks) { s with toks:=s.toks+1 }->wpAny (model X.prog X.w) X.A (f (.int i t)) Q E s) :
  ur X f (rU fun i=>.int (g i)):=by
 intro d s Y H x v Q I e h;obtain⟨i,rfl,q⟩:=h;obtain⟨t,rfl⟩:=e;exact rule i t s _ _ ⟨.int (g i),H,I.tok _,⟨_,rfl⟩,q⟩
theorem Gg:ur X (unaryOp .USub) (rU fun i=>.int (-i)):=Gf fun _ _ _ _ _ q=>neg_int q
end
section
variable{X:Cx}{a b c:Expr}{A m l:TE}{pos:Pos}
theorem yu{d:List (Addr×Obj)}{Y:St}{H:Hp}{s:Shared}{Q:VK}{k f:Bool}(I:Inv X d Y H s)(q:Q (.bl k) H)(e:k=f):EP X d Y Q (.bool f) s:=by subst e;exact⟨.bl k,H,I,rfl,q⟩
theorem yv:cH X (compareOp .Lt) (iD fun i j=>.bl (decide (i<j))):=uw fun _ _ _ _ _ _ _ q=>lt_int q
theorem pW:cH X (compareOp .LtE) (iD fun i j=>.bl (decide (i<=j))):=uw fun _ _ _ _ _ _ _ q=>le_int q
theorem yw:cH X (compareOp .Gt) (iD fun i j=>.bl (decide (j<i))):=uw fun _ _ _ _ _ _ _ q=>gt_int q
theorem yx:cH X (compareOp .Is) (fun x y H Q=>y=.non/\Q (.bl (decide (x=.non))) H):=by
 intro d s Y H x y v u Q I e f h;obtain⟨rfl,q⟩:=h;cases f;refine is_none_gen (yu I q ?_);cases x<;>first
  | (cases e;rfl)
  | (obtain⟨t,rfl⟩:=e;rfl)
theorem yy:cH X (compareOp .IsNot) (fun x y H Q=>y=.non/\Q (.bl (!decide (x=.non))) H):=by
 intro d s Y H x y v u Q I e f h;obtain⟨rfl,q⟩:=h;cases f;refine isnot_none_gen (yu I q ?_);cases x<;>first
  | (cases e;rfl)
  | (obtain⟨t,rfl⟩:=e;rfl)
theorem bv(b:Expr){op:CmpOp}(h:op≠.In:=by decide)(f:op≠.NotIn:=by decide):behindInMarks op b=false:=by
 have d:(op==CmpOp.In)=false:=by cases op<;>first | rfl | exact absurd rfl h
 have e:(op==CmpOp.NotIn)=false:=by cases op<;>first | rfl | exact absurd rfl f
 cases b<;>simp[behindInMarks,d,e]
theorem Gh{op:CmpOp}{r:R2}(o:cH X (compareOp op) r)(e:PE X a A)(p:PE X b m)(f:behindInMarks op b=false):PE X (.Compare a [op] [b] pos) (nG r A m):=by intro d s Y H Q I h;exact wpAny_Compare1 (uu e p I h fun v u g x y i j k n q=>o d g Y i x y v u Q j k n q) f
noncomputable def Gi(t:TE):TT:=fun Y H Q=>t Y H fun x d=>∃k,x=.bl k/\Q k d
theorem yz{op:CmpOp}{r:R2}(J:cH X (compareOp op) r)(f:PE X a A)(L:PE X b m)(g:behindInMarks op b=false):PT X (.Compare a [op] [b] pos) (Gi (nG r A m)):=by
 intro d s Y H Q I h;refine wpAny_isTrue_Compare1 (aT (f d s Y H _ I h) fun v i ⟨x,j,I1,n,o⟩=>aT (L d i Y j _ I1 o) fun u p ⟨y,q,t,w,B⟩=>
  aT (J d p Y q x y v u _ t n w B) fun c M ⟨z,C,D,E,k,e,G⟩=>?_) g
 subst e;cases E;exact wpAny_truthy_bool ⟨C,D,G⟩
noncomputable def Gj(r e:R2)(A m l:TE):TE:=fun Y H Q=>A Y H fun x f=>m Y f fun y g=>r x y g fun z d=>∃k,z=.bl k/\
 (if k=true then l Y d fun h i=>e y h i Q else Q (.bl false) d)
theorem Gk{op g:CmpOp}{r j:R2}(ho:cH X (compareOp op) r)(i:cH X (compareOp g) j)(t:PE X a A)(hb:PE X b m)(w:PE X c l)
  (B:lastMarks [op,g] [b,c]=false:=by with_unfolding_all rfl):PE X (.Compare a [op,g] [b,c] pos) (Gj r j A m l):=by
 intro f s Y H Q I h;refine Compare_chain (aT (t f s Y H _ I h) fun v C ⟨x,D,I1,E,G⟩=>chain_link (aT (hb f C Y D _ I1 G) fun u J ⟨y,L,M,n,N⟩=>
  aT (ho f J Y L x y v u _ M E n N) fun d O ⟨z,o,p,R,k,e,q⟩=>?_)) B
 subst e;cases R;refine wpAny_truthy_bool ?_;cases k with
 | false=>exact ite_ff ⟨.bl false,o,p,rfl,q⟩
 | true=>exact ite_tt (chain_last (aT (w f O Y o _ p q) fun S T ⟨z',U,Z,r4,q4⟩=>i f T Y U y z' u S Q Z n r4 q4))
theorem eB:(sizeLine:Nat)<2 ^ 63:=by rw[sizeLine_eq];decide
theorem dM{x:V}{d:List Value}(r:be [x] d):∃u,d=[u]/\bd x u:=by
 cases r with
 | cons e f=>cases f;exact⟨_,rfl,e⟩
theorem ic{x y:V}{d:List Value}(r:be [x,y] d):∃u e,d=[u,e]/\bd x u/\bd y e:=by
 cases r with
 | cons f g=>
  cases g with
  | cons h i=>cases i;exact⟨_,_,rfl,f,h⟩
theorem yA(g:X.calm=true):ib X (.builtin "max") (fun e H Q=>∃i j,e=[.int i,.int j]/\Q (.int (if j>i then j else i)) H):=by
 intro f s Y H e n Q I r h;obtain⟨i,j,rfl,q⟩:=h;obtain⟨u,o,rfl,⟨t,rfl⟩,⟨t',rfl⟩⟩:=ic r;refine max_two_ints (I.ok.hd g) fun p v k=>⟨_,H,I.kept k,?_,q⟩
 by_cases d:j>i
 ·rw[if_pos d,if_pos d];exact⟨_,rfl⟩
 ·rw[if_neg d,if_neg d];exact⟨_,rfl⟩
end
structure fH (h:Heap) (x dx C:Addr) (mA:Str->Option Value):Prop where
 obj:h.get? x=some (instObj C dx)
 ns:h.Ns1 dx mA
 ne:dx≠x
theorem Gm{h:Heap}{c:Addr}{d:Str->Option Value}(n:h.Ns1 c d):∃f,h.get? c=some f/\∀name,PySem.W.lookIn name f=some (d name):=by
 obtain⟨o,g,m,ho,hd,i,_,j⟩:=n;refine⟨o,ho,fun name=>?_⟩;have e:=j name;unfold nsFind findBy at e;rw[<-Array.find?_toList] at e;unfold PySem.W.lookIn;rw[hd];dsimp only;split
 ·rename_i y q;rw[q] at e;exact congrArg some e
 ·rename_i q;rw[q] at e;have a:g.toList.any (·.refKey)=false:=by rw[List.any_eq_false];intro y k;obtain⟨z,t,b⟩:=i y (Array.mem_toList_iff.mp k);simp[DictEntry.refKey,b]
  have l:¬ g.toList.any (·.refKey)=true:=by rw[a];exact Bool.false_ne_true
  rw[if_neg l];exact congrArg some e
theorem fH.look{h:Heap}{x b C:Addr}{c:Str->Option Value}(I:fH h x b C c):∃a,PySem.W.InstAt h x (instObj C b) C (some a)/\∀name,PySem.W.lookIn name a=some (c name):=
 let⟨a,ho,d⟩:=Gm I.ns
 ⟨a,⟨I.obj,rfl,rfl,ho⟩,d⟩
section
variable{prog:Program}{w:World}{A:Around}{E:Value->Shared->Prop}{s:Shared}{K:Frag}{x q C f:Addr}{k:Str->Option Value}{name:Str}{v:Value}
theorem Gn{expr:Bool}{Q:Value->Shared->Prop}(X:K.In s.heap)(I:fH s.heap x q C k)(b:plainGet K C name=true)(c:PySem.W.hasDictIn K C=true)
  (d:findIn K (.ref C) name=some none) (g:k name=some v) (a:PySem.W.handedIn v=true) (h:Q v { s with toks:=s.toks+1 }) :
  wpAny (model prog w) A (getAttr (.ref x) name expr) Q E s:=by
 obtain⟨i,J,e⟩:=I.look;exact PySem.W.get_value X J (PySem.W.plainGet_of b).1 (PySem.W.findObj_own c d rfl (by rw[e,g])) a h
theorem Go{e:Sem Bool}{Q:Value×List Value->Shared->Prop}(X:K.In s.heap)(I:fH s.heap x q C k)(a:plainGet K C name=true)
  (b:findIn K (.ref C) name=some (some (.ref f))) (g:PySem.W.isFn K (.ref f)=true) (i:k name=none) (h:Q (.ref f,[.ref x]) s) :
  wpAny (model prog w) A (getMethod (.ref x) name e) Q E s:=by
 obtain⟨c,J,d⟩:=I.look;exact PySem.W.method_fn X J (PySem.W.plainGet_of a).1 (PySem.W.plainGet_of a).2 b (beq_iff_eq.mp g) (by show(PySem.W.lookIn name c).map (·.isSome)=some false;rw[d,i];rfl) h
theorem Gp{m:List Str}{Q:Unit->Shared->Prop}(X:K.In s.heap)(I:fH s.heap x q C k)
  (D:findIn K (.ref C) "__setattr__" = some (some (.builtin "object.__setattr__"))) (n:PySem.W.plainOver K C=true) (G:PySem.W.takerIn K C name=some none) (o:PySem.W.hasDictIn K C=true)
  (p:PySem.Within k m) (t:m.length<=sizeLine)
  (h:∀e,fH e x q C (fun y=>if y=name then some v else k y)->Heap.SameBut q s.heap e->Q () { s with heap:=e,toks:=s.toks+2 }) :
  wpAny (model prog w) A (setAttr (.ref x) name v) Q E s:=by
 obtain⟨H,J,L⟩:=I.look;refine PySem.W.set_plain X J D (PySem.W.osa_open (s:={ s with toks:=s.toks+1 }) (r:=none) X J n G fun b=>?_);obtain⟨M,u,g⟩:=PySem.W.any_some o;have hx:s.heap.get? x=some ⟨.ref C,some q,.plain,#[]⟩:=I.obj;refine al (aV (al (al (wpAny_loadPart hx (al (PySem.W.Looks.here (s:={ s with toks:=s.toks+1 }) (PySem.W.looks_clsIn X u) ?_))))));rw[g];refine aV (a:=some q) (al (aV (al ?_)));refine wpAny_nsSet1 (s:={ s with toks:=s.toks+1 }) I.ns fun e c d=>?_;obtain⟨N,z,B,i,j,l⟩:=c.count (PySem.Within.cons name v p);refine al (wpAny_lookBehind i (by rw[j];exact pastItsLine_dict (Nat.le_trans l (by rw[List.length_cons];omega))) ?_);exact aV (h _ ⟨(d.2 _ (Ne.symm I.ne)).trans I.obj,c,I.ne⟩ d)
theorem Gq{R:Result->Shared->Prop}{a:List Value}{b:List (Str×Value)}(X:K.In s.heap)(c:PySem.W.makesIn K C=true)
  (e:findIn K (.ref C) "__init__" = some (some (.ref f))) (i:PySem.W.typeIn K (.ref f)=some (.type "function"))
  (h:codeAny (model prog w) (A.under (.builtin "type.__call__" ⟨.ref C::a,b⟩)) (.call (.ref f) ⟨.ref (s.heap.objs.size+1)::a,b⟩) (PySem.W.InitBack (s.heap.objs.size+1) R)
   { s with heap:=(s.heap.push emptyDict).push (instObj C s.heap.objs.size) }) :
  codeAny (model prog w) A (.call (.ref C) ⟨a,b⟩) R s:=by
 obtain⟨j,g,d,t,os⟩:=s;exact PySem.W.make_core (PySem.W.makes_of X c) (PySem.W.looks_findIn X e) (fun self=>PySem.W.bind_fn X self i) (.inl rfl) h
end
noncomputable def ck(f:Str)(v:V):List (Str×V)->List (Str×V)
 | []=>[(f,v)]
 | (g,x)::r=>if g=f then(g,v)::r else(g,x)::ck f v r
theorem yB(f g:Str)(v:V):∀fs:List (Str×V),(ck f v fs).lookup g=if g=f then some v else fs.lookup g
 | []=>by
  show List.lookup g [(f,v)]=_
  by_cases h:g=f
  ·have hb:(g==f)=true:=beq_iff_eq.mpr h;simp only[List.lookup,hb,if_pos h]
  ·have hb:(g==f)=false:=beq_eq_false_iff_ne.mpr h;simp only[List.lookup,hb,if_neg h]
 | (k,x)::r=>by
  have b:=yB f g v r;rw[show ck f v ((k,x)::r)=(if k=f then(k,v)::r else(k,x)::ck f v r) from rfl]
  by_cases a:k=f
  ·rw[if_pos a]
   by_cases h:g=k
   ·have hb:(g==k)=true:=beq_iff_eq.mpr h;simp only[List.lookup,hb,if_pos (h.trans a)]
   ·have hb:(g==k)=false:=beq_eq_false_iff_ne.mpr h;simp only[List.lookup,hb,if_neg (fun e:g=f=>h (e.trans a.symm))]
  ·rw[if_neg a]
   by_cases h:g=k
   ·have hb:(g==k)=true:=beq_iff_eq.mpr h;simp only[List.lookup,hb,if_neg (fun e:g=f=>a (h.symm.trans e))]
   ·have hb:(g==k)=false:=beq_eq_false_iff_ne.mpr h;simp only[List.lookup,hb];exact b
theorem uy(f:Str)(v:V):∀fs:List (Str×V),f∈(ck f v fs).map (·.1)/\∀g,g∈fs.map (·.1)->g∈(ck f v fs).map (·.1)
 | []=>⟨by simp[ck],fun g h=>by simp at h⟩
 | (k,x)::r=>by
  obtain⟨b,c⟩:=uy f v r;rw[show ck f v ((k,x)::r)=(if k=f then(k,v)::r else(k,x)::ck f v r) from rfl]
  by_cases a:k=f
  ·rw[if_pos a];subst a;exact⟨by simp,fun g h=>by simpa using h⟩
  ·rw[if_neg a];refine⟨?_,fun g h=>?_⟩
   ·rw[List.map_cons];exact bQ _ b
   ·rw[List.map_cons] at h ⊢;rcases List.mem_cons.mp h with e | e
    ·exact List.mem_cons.mpr (.inl e)
    ·exact bQ _ (c g e)
theorem yC(f:Str)(v:V):∀fs:List (Str×V),(ck f v fs).length<=fs.length+1
 | []=>by simp[ck]
 | (k,x)::r=>by
  have b:=yC f v r;rw[show ck f v ((k,x)::r)=(if k=f then(k,v)::r else(k,x)::ck f v r) from rfl]
  by_cases a:k=f
  ·rw[if_pos a,List.length_cons,List.length_cons];omega
  ·rw[if_neg a,List.length_cons,List.length_cons];omega
theorem fh.some_of{v:V}{o:Option Value}(r:fh (some v) o):∃u,o=some u/\bd v u:=by
 cases o with
 | none=>exact(show False from r).elim
 | some u=>exact⟨u,rfl,r⟩
theorem fh.none_of{o:Option Value}(r:fh none o):o=none:=by
 cases o with
 | none=>rfl
 | some u=>exact(show False from r).elim
theorem Gr{v:V}{u:Value}(r:bd v u):PySem.W.handedIn u=true:=by
 cases v with
 | non=>cases(show u=Value.none from r);rfl
 | bl b=>cases(show u=Value.bool b from r);rfl
 | int i=>obtain⟨t,e⟩:=(show ∃t,u=Value.int i t from r);cases e;rfl
 | str x=>obtain⟨t,e⟩:=(show ∃t,u=Value.str x t from r);cases e;rfl
 | byt b=>obtain⟨t,e⟩:=(show ∃t,u=Value.bytes b t from r);cases e;rfl
 | flt b=>obtain⟨t,e⟩:=(show ∃t,u=Value.float b t from r);cases e;rfl
 | ref a=>cases(show u=Value.ref a from r);rfl
 | ty n=>cases(show u=Value.type n from r);rfl
section
variable{P:Program}{w:World}{H j:Hp}{h i:Heap}{a C I:Addr}{fs y:List (Str×V)}
theorem pX(c:bJ P w H h)(e:H a=some (.ins C I fs)):∃b,fH h a I C b/\(∀f,fh (fs.lookup f) (b f))/\PySem.Within b (fs.map (·.1))/\fs.length<=1000/\H I=some (.own a):=by
 obtain⟨d,z,ne,ob,b,n,r,q⟩:=(show cD P w H h a (.ins C I fs) from c a _ e)
 exact⟨b,⟨ob,n,ne⟩,r,q,z,d⟩
end
structure dq (K:Frag) (C:Addr):Prop where
 pg:plainGet K C Str.empty=true
 hd:PySem.W.hasDictIn K C=true
 po:PySem.W.plainOver K C=true
 sa:findIn K (.ref C) "__setattr__" = some (some (.builtin "object.__setattr__"))
theorem dq.get{K:Frag}{C:Addr}(c:dq K C)(f:Str):plainGet K C f=true:=c.pg
def cX(K:Frag)(C:Addr)(f:Str):Prop:=findIn K (.ref C) f=some none
theorem cX.taker{K:Frag}{C:Addr}{f:Str}(n:cX K C f):PySem.W.takerIn K C f=some none:=by unfold PySem.W.takerIn;rw[show findIn K (.ref C) f=some none from n];rfl
structure ie (K:Frag) (C:Addr) (m:Str) (f:Addr):Prop where
 at_:findIn K (.ref C) m=some (some (.ref f))
 fn:PySem.W.isFn K (.ref f)=true
 kp:keepIn K (.ref f)=true
section
variable{X:Cx}{d:List (Addr×Obj)}{Y:St}{H:Hp}{s:Shared}{a C dx:Addr}{fs:List (Str×V)}{f:Str}{v:V}{A:Around}{E:Value->Shared->Prop}
theorem yD{b:Bool}{Q:Value->Shared->Prop}(I:Inv X d Y H s)(e:H a=some (.ins C dx fs))(c:dq X.K C)(n:cX X.K C f)(l:fs.lookup f=some v)
  (h:∀u g,Inv X d Y H g->bd v u->Q u g):wpAny (model X.prog X.w) A (getAttr (.ref a) f b) Q E s:=by
 obtain⟨i,O,r,_,_,_⟩:=pX I.hok e;obtain⟨u,j,ru⟩:=fh.some_of (v:=v) (o:=i f) (by rw[<-l];exact r f);exact Gn I.kIn O (c.get f) c.hd n j (Gr ru) (h u _ (I.tok _) ru)
theorem yE{m:Str}{g:Addr}{j:Sem Bool}{Q:Value×List Value->Shared->Prop}(I:Inv X d Y H s)(e:H a=some (.ins C dx fs))(c:dq X.K C)(k:ie X.K C m g)(l:fs.lookup m=none)
  (h:Q (.ref g,[.ref a]) s):wpAny (model X.prog X.w) A (getMethod (.ref a) m j) Q E s:=by
 obtain⟨b,O,r,_,_,_⟩:=pX I.hok e;have i:b m=none:=fh.none_of (by rw[<-l];exact r m);exact Go I.kIn O (c.get m) k.at_ k.fn i h
theorem yF{y:V}{u:Value}{Q:Unit->Shared->Prop}(I:Inv X d Y H s)(e:H a=some (.ins C dx fs))(c:dq X.K C)(n:cX X.K C f)(M:fs.length<1000)(p:bd y u)
  (h:∀j,Inv X d Y (aN H a (.ins C dx (ck f y fs))) j->Q () j):wpAny (model X.prog X.w) A (setAttr (.ref a) f u) Q E s:=by
 obtain⟨k,O,r,l,_,m⟩:=pX I.hok e;have t:(fs.map (·.1)).length<=sizeLine:=by rw[List.length_map,sizeLine_eq];omega
 refine Gp I.kIn O c.sa c.po n.taker c.hd l t fun B i J=>h _ ?_;have hd:∃o,B.get? dx=some o:=let⟨o,_,_,D,_⟩:=i.ns;⟨o,D⟩;refine I.write (x:=a) (e:=dx) (by rw[e];exact True.intro) (.inr m) (fun b q L z=>(J.2 b L).trans z) hd ?_;refine⟨by rw[bj O.ne];exact m,?_,O.ne,i.obj,_,i.ns,fun g=>?_,fun g G=>?_⟩
 ·have:=yC f y fs;omega
 ·show fh ((ck f y fs).lookup g) (if g=f then some u else k g);rw[yB]
  by_cases q:g=f
  ·rw[if_pos q,if_pos q];exact p
  ·rw[if_neg q,if_neg q];exact r g
 ·by_cases q:g=f
  ·rw[q];exact(uy f y fs).1
  ·refine(uy f y fs).2 g (l g fun z=>G ?_);show(if g=f then some u else k g)=none;rw[if_neg q];exact z
theorem Inv.made(I:Inv X d Y H s):Inv X d Y (aN (aN H s.heap.objs.size (.own (s.heap.objs.size+1))) (s.heap.objs.size+1) (.ins C s.heap.objs.size []))
  { s with heap:=(s.heap.push emptyDict).push (instObj C s.heap.objs.size) }:=by
 have c:(s.heap.push emptyDict).get? s.heap.objs.size=some emptyDict:=Heap.get?_push_size s.heap rfl;have g:((s.heap.push emptyDict).push (instObj C s.heap.objs.size)).get? (s.heap.objs.size+1)=some (instObj C s.heap.objs.size):=by
  have:=Heap.get?_push_size (s.heap.push emptyDict) (o:=instObj C s.heap.objs.size) rfl
  rwa [Heap.size_push] at this
 have h:(s.heap.push emptyDict).Ns s.heap.objs.size (fun _=>none):=⟨emptyDict,#[],_,c,rfl,(fun e i=>absurd i (by simp)),fun _=>rfl⟩
 have I1:=I.laid (a:=s.heap.objs.size) (o:=.own (s.heap.objs.size+1)) (h':=s.heap.push emptyDict) (t':=s.toks) (fun b u q=>bA _ q) (bH _) ⟨_,c⟩;refine I1.laid (a:=s.heap.objs.size+1) (o:=.ins C s.heap.objs.size []) (t':=s.toks) (fun b u q=>bA _ q) (Nat.le_of_eq (Heap.size_push _ _)) ?_;have ne:s.heap.objs.size≠s.heap.objs.size+1:=Nat.ne_of_lt (Nat.lt_succ_self _);refine⟨by rw[bj ne,cj],Nat.zero_le _,ne,g,fun _=>none,(Heap.Ns1.of_empty h).at fun o q=>bA _ q,fun _=>True.intro,fun y j=>absurd rfl j⟩
theorem Gs{b:Program}{w:World}{c:Env}{e:Expr}{f:Str}{pos:Pos}{s:Shared}{Q:Value->Shared->Prop}(i:attributeBase e f c (eval e c)=eval e c)
  (h:wpAny (model b w) A (eval e c) (fun o g=>wpAny (model b w) A (getAttr o f true) Q E g) E s):wpAny (model b w) A (eval (.Attribute e f pos) c) Q E s:=
 Attribute_any_ h (by rw[arm_eval_Attribute,i])
end
noncomputable def Gu(K:Frag)(c:TE)(f:Str):TE:=fun Y H Q=>c Y H fun x b=>∃a C d fs v,x=.ref a/\b a=some (.ins C d fs)/\dq K C/\cX K C f/\fs.lookup f=some v/\Q v b
noncomputable def Gv(K:Frag)(d e:TE)(f:Str):TS:=fun D Y H=>e Y H fun y g=>d Y g fun x b=>∃a C c fs,x=.ref a/\b a=some (.ins C c fs)/\dq K C/\cX K C f/\fs.length<1000/\
 D.nx Y (aN b a (.ins C c (ck f y fs)))
def yG(X:Cx)(op:Operator)(rd:V->V->Hp->VK->Prop):Prop:=
 ∀(a:List (Addr×Obj)) (s:Shared) (Y:St) (H:Hp) (x y:V) (u v:Value) (Q:VK),Inv X a Y H s->bd x u->bd y v->rd x y H Q->wpAny (model X.prog X.w) X.A (inplaceOp op u v) (EP X a Y Q) X.xe s
noncomputable def Gw(K:Frag)(g h:TE)(rd:V->V->Hp->VK->Prop)(f:Str):TS:=fun D Y H=>g Y H fun x d=>∃a C i fs v,x=.ref a/\d a=some (.ins C i fs)/\dq K C/\cX K C f/\fs.lookup f=some v/\
 h Y d fun y j=>rd v y j fun z e=>∃c b,e a=some (.ins C c b)/\b.length<1000/\D.nx Y (aN e a (.ins C c (ck f z b)))
section
variable{X:Cx}{o e value:Expr}{f:Str}{pos r tpos:Pos}{g tv:TE}
theorem mf(d:PE X e g)(p:attributeBase e f X.env (eval e X.env)=eval e X.env):PE X (.Attribute e f pos) (Gu X.K g f):=by intro b s Y H Q I h;refine Gs p (aT (d b s Y H _ I h) fun u t ⟨x,i,I1,j,a,C,w,fs,v,ex,k,c,n,l,q⟩=>?_);subst ex;obtain rfl:u=Value.ref a:=j;exact yD I1 k c n l fun y z m ru=>⟨v,i,m,ru,q⟩
theorem pY(d:PE X o g)(A:PE X value tv)(B:swapsWith value (some (.Attribute o f r)) pos.line X.env=pure false):PS X (.Assign [.Attribute o f r] value pos) (Gv X.K g tv f):=by intro b s Y H D I h;refine plainObj_wpAny_Assign_Attribute (aT (A b s Y H _ I h) fun u i ⟨y,j,I1,k,q⟩=>aT (d b i Y j _ I1 q) fun m E ⟨x,G,p,t,a,C,J,fs,ex,v,c,n,l,w⟩=>?_) B;subst ex;obtain rfl:m=Value.ref a:=t;exact yF p v c n l k fun L z=>⟨Y,_,z,w⟩
theorem Gx{op:Operator}{rd:V->V->Hp->VK->Prop}(j:PE X o g)(Z:PE X value tv)(d:yG X op rd):PS X (.AugAssign (.Attribute o f tpos) op value pos) (Gw X.K g tv rd f):=by intro b s Y H D I h;refine wpAny_AugAssign_AttributeAny (aT (j b s Y H _ I h) fun k s1 ⟨x,m,I1,p,a,C,dx,fs,v,ex,t,c,n,l,q⟩=>?_);subst ex;obtain rfl:k=Value.ref a:=p;refine yD I1 t c n l fun u w A ru=>aT (Z b w Y m _ A q) fun B E ⟨y,G,J,L,M⟩=>aT (d b E Y G v y u B _ J ru L M) fun w4 s4 ⟨z,H3,N,O,Q,R,i,S,T⟩=>?_;exact yF N i c n S O fun s5 U=>⟨Y,_,U,T⟩
noncomputable def Gy:V->V->Hp->VK->Prop:=fun x y H Q=>∃i j,x=.int i/\y=.int j/\Q (.int (i+j)) H
theorem Gz:yG X .Add Gy:=by
 rintro a s Y H x y u v Q I b c ⟨i,j,rfl,rfl,q⟩;obtain⟨t,rfl⟩:=(show ∃t,u=Value.int i t from b)
 obtain⟨t',rfl⟩:=(show ∃t',v=Value.int j t' from c)
 exact PyProof.Rows.iadd_int ⟨.int (i+j),H,I.tok _,⟨_,rfl⟩,q⟩
end
section
variable{X:Cx}{pins:List (Addr×Obj)}{Y:St}{H:Hp}{s:Shared}{A:Around}{E:Value->Shared->Prop}{Q:Value->Shared->Prop}{c:Value}{b:Bool}
inductive dt (K:Frag) (H:Hp):V->Value->Prop where
 | non:dt K H .non (.type "NoneType")
 | bl (x:Bool):dt K H (.bl x) (.type "bool")
 | int (i:Int):dt K H (.int i) (.type "int")
 | str (x:Str):dt K H (.str x) (.type "str")
 | flt (x:UInt64):dt K H (.flt x) (.type "float")
 | lst {a:Addr}{xs:List V}(e:H a=some (.lst xs)):dt K H (.ref a) (.type "list")
 | frz {a:Addr}{o:Obj}{xs:List V}(e:H a=some (.frz o (.lst xs))):dt K H (.ref a) (.type "list")
 | tup {a:Addr}{xs:List V}(e:H a=some (.tup xs)):dt K H (.ref a) (.type "tuple")
 | dK {a:Addr}{kvs:List (aR×V)}(e:H a=some (.dK kvs)):dt K H (.ref a) (.type "dict")
 | dT {a:Addr}{kvs:List (List aR×V)}(e:H a=some (.dT kvs)):dt K H (.ref a) (.type "dict")
 | ins {a C dx:Addr}{fs:List (Str×V)}(e:H a=some (.ins C dx fs)) (cl:dq K C) (ha:findIn K (.ref C) "__class__" = some (some (.builtin "object.__class__")))
   (hn:PySem.W.specialIn K (.builtin "object.__class__") "__get__" = some (some (.builtin "getset_descriptor.__get__"))) (htk:PySem.W.takesIn K (.builtin "object.__class__")=some true)
   (hm:mroIn K C (.type "object")=some true):dt K H (.ref a) (.ref C)
theorem nI{x:V}{u t:Value}(I:Inv X pins Y H s)(d:bd x u)(G:dt X.K H x t)(e:kitOne X.K t c=some b)(h:∀l,Q (.bool b) { s with toks:=l }) :
  wpAny (model X.prog X.w) A (call (.builtin "isinstance") [u,c]) Q E s:=by
 cases G with
 | non=>cases(show u=Value.none from d);exact kia_one PySem.W.kitx_none I.kIn True.intro e (fun z=>nomatch z) h
 | bl y=>cases(show u=Value.bool y from d);exact kia_one PySem.W.kitx_bool I.kIn True.intro e (fun z=>nomatch z) h
 | int i=>obtain⟨t,q⟩:=(show ∃t,u=Value.int i t from d);cases q;exact kia_one PySem.W.kitx_int I.kIn True.intro e (fun z=>nomatch z) h
 | str y=>obtain⟨t,q⟩:=(show ∃t,u=Value.str y t from d);cases q;exact kia_one PySem.W.kitx_str I.kIn True.intro e (fun z=>nomatch z) h
 | flt y=>obtain⟨t,q⟩:=(show ∃t,u=Value.float y t from d);cases q;exact kia_one PySem.W.kitx_float I.kIn True.intro e (fun z=>nomatch z) h
 | @lst a j f=>
  cases(show u=Value.ref a from d);obtain⟨_,_,n,_,h1⟩:=(show cD X.prog X.w H s.heap a (.lst j) from I.hok a _ f)
  exact kia_one PySem.W.kitx_list I.kIn ⟨_,h1,rfl⟩ e (fun z=>nomatch z) h
 | @frz a ob j f=>
  cases(show u=Value.ref a from d);obtain⟨_,_,_,n,_,h1⟩:=(show cD X.prog X.w H s.heap a (.frz ob (.lst j)) from I.hok a _ f)
  exact kia_one PySem.W.kitx_list I.kIn ⟨_,h1,rfl⟩ e (fun z=>nomatch z) h
 | @tup a j f=>
  cases(show u=Value.ref a from d);obtain⟨_,_,_,p⟩:=(show cD X.prog X.w H s.heap a (.tup j) from I.hok a _ f)
  obtain⟨o,h1,h2,_⟩:=p;exact kia_one PySem.W.kitx_tuple I.kIn ⟨o,h1,h2⟩ e (fun z=>nomatch z) h
 | @dK a g f=>
  cases(show u=Value.ref a from d);obtain⟨_,_,L,_,p⟩:=(show cD X.prog X.w H s.heap a (.dK g) from I.hok a _ f)
  obtain⟨o,m,r,h1,h2,_⟩:=p;exact kia_one PySem.W.kitx_dict I.kIn ⟨o,h1,h2.1⟩ e (fun z=>nomatch z) h
 | @dT a g f=>
  cases(show u=Value.ref a from d);obtain⟨_,_,j,_,o,m,r,h1,h2,_⟩:=(show cD X.prog X.w H s.heap a (.dT g) from I.hok a _ f)
  exact kia_one PySem.W.kitx_dict I.kIn ⟨o,h1,h2.1⟩ e (fun z=>nomatch z) h
 | @ins a C M fs f cl v B k D=>cases(show u=Value.ref a from d);obtain⟨N,O,_⟩:=pX I.hok f;obtain⟨R,J,_⟩:=O.look;exact kia_one (PySem.W.kitx_own (cl.get _) cl.hd v B k D) I.kIn J e (fun z=>nomatch z) h
end
structure bx (k:Nat) (A:Around):Prop where
 hd:A.handled=none
 dp:A.depth+3 * k+5<recursionLimit
 un:A.units+16 * k+200<cLine
theorem bx.mono{j k:Nat}{A:Around}(r:bx k A)(h:j<=k):bx j A:=⟨r.hd,by have:=r.dp;omega,by have:=r.un;omega⟩
theorem bx.deeper{k:Nat}{A:Around}(r:bx (k+1) A)(a:Env):bx k (A.deeper a):=
 ⟨r.hd,by have:=r.dp;show A.depth+1+3 * k+5<_;omega,by have:=r.un;show A.units+3+16 * k+200<_;omega⟩
theorem GA{A:Around}{C:Addr}{a:List Value}{b:List (Str×Value)}:(A.under (.builtin "type.__call__" ⟨.ref C::a,b⟩)).depth=A.depth+1:=by first | rfl | simp[Around.under,Code.weight,Code.isCreation,Code.isGuard,Code.isCaller,Code.frames,Code.isFrame,guardIds]
theorem GB{A:Around}{C:Addr}{a:List Value}{b:List (Str×Value)}:(A.under (.builtin "type.__call__" ⟨.ref C::a,b⟩)).units=A.units+1:=by first | rfl | simp[Around.under,Code.cUnits,Code.frames,Code.isFrame]
theorem bx.make{k:Nat}{A:Around}(r:bx (k+1) A)(C:Addr)(a:List Value)(b:List (Str×Value)):bx k (A.under (.builtin "type.__call__" ⟨.ref C::a,b⟩)):=
 ⟨r.hd,by have:=r.dp;rw[GA];omega,by have:=r.un;rw[GB];omega⟩
theorem bx.depth{k:Nat}{A:Around}(r:bx k A):A.depth<recursionLimit:=by have:=r.dp;omega
theorem bx.units{k:Nat}{A:Around}(r:bx k A):A.units+64<cLine:=by have:=r.un;omega
noncomputable def yH:TA:=fun _ H Q=>Q [] H
noncomputable def yI(a:TE)(b:TA):TA:=fun Y H Q=>a Y H fun x c=>b Y c fun d e=>Q (x::d) e
section
variable{X:Cx}{e:Expr}{es:List Expr}{te:TE}{t:TA}{pos:Pos}
theorem eQ:PA X [] yH:=fun _ _ _ _ H Q I h=>Calls.spliced_nil ⟨[],H,I,.nil,h⟩
theorem ej(b:PE X e te)(c:PA X es t)(o:starEach (e::es) X.env=(false,eval e X.env)::starEach es X.env:=by rfl):PA X (e::es) (yI te t):=by intro pos a s Y H Q I h;rw[o];show wpAny _ _ (spliced ((false,eval e X.env)::backTo pos (starEach es X.env))) _ _ s;refine Calls.spliced_cons (aT (b a s Y H _ I h) fun u d ⟨x,f,I1,g,i⟩=>?_);exact aT (c pos a d Y f _ I1 i) fun p q ⟨j,k,l,m,n⟩=>⟨x::j,k,l,.cons g m,n⟩
noncomputable def GC(t:TA):TE:=fun Y H Q=>t Y H fun a b=>a.length<=sizeLine/\∀p,b p=none->Q (.ref p) (aN b p (.tup a))
noncomputable def GD(t:TA):TE:=fun Y H Q=>t Y H fun a b=>a.length<=sizeLine/\∀p,b p=none->Q (.ref p) (aN b p (.lst a))
theorem yJ{f}(h:PA X es t):PE X (.Tuple es f pos) (GC t):=by intro a s Y H Q I g;refine wpAny_Tuple_spliced (aT (h pos a s Y H _ I g) fun i c ⟨j,d,I1,r,z,q⟩=>⟨by rw[<-r.length];exact z,?_⟩);have k:d c.heap.objs.size=none:=I1.hok.fresh (bH _);refine⟨.ref c.heap.objs.size,aN d c.heap.objs.size (.tup j),I1.laid (t':=c.toks) (fun b u e=>bA _ e) (bH _) ?_,rfl,q _ k⟩;exact⟨z,i,r,⟨_,Heap.get?_push_size _ rfl,rfl,_,rfl⟩⟩
theorem pZ(h:PA X es t):PE X (.List es pos) (GD t):=by intro a s Y H Q I f;refine wpAny_List_spliced (aT (h pos a s Y H _ I f) fun g c ⟨i,d,I1,r,z,q⟩=>⟨by rw[<-r.length];exact z,?_⟩);have j:d c.heap.objs.size=none:=I1.hok.fresh (bH _);refine⟨.ref c.heap.objs.size,aN d c.heap.objs.size (.lst i),I1.laid (t':=c.toks) (fun b u e=>bA _ e) (bH _) ?_,rfl,q _ j⟩;exact⟨z,g,0,r,Heap.get?_push_size _ rfl⟩
end
abbrev Sp:=List V->Hp->VK->XK->Prop
abbrev fJ:=List Env->Hp->Shared->XK->Value->Shared->Prop
structure dX (P:Program) (w:World) (K:Frag) (mg:Str->Option Value) (base:Heap) (A:Around) (outer:List Env) (s:Shared) (H:Hp):Prop where
 frames:A.frames=some outer
 mod:Mod K mg base
 bs:∀b o,base.get? b=some o->s.heap.get? b=some o/\H b=none
 bsz:base.objs.size<=s.heap.objs.size
 funs:s.heap.FunFrames base outer
 frf:∀b∈bN outer,H b=none
 hok:bJ P w H s.heap
 bare:AllBare s.gens
def CE(a:List Env)(P:Program)(w:World)(H:Hp)(s:Shared)(Q:VK)(u:Value)(b:Shared):Prop:=
 ∃v c,b.os=s.os/\AllBare b.gens/\Un (bN a) [] H c s.heap b.heap/\bJ P w c b.heap/\bd v u/\Q v c
def CR(c:fJ)(a:List Env)(P:Program)(w:World)(H:Hp)(s:Shared)(Q:VK)(E:XK)(r:Result)(b:Shared):Prop:=
 match r with
 | .ok (.ret u)=>CE a P w H s Q u b
 | .ok _=>False
 | .error e=>c a H s E e b
structure aA (P:Program) (w:World) (K:Frag) (mg:Str->Option Value) (base:Heap) (CX:fJ) (k:Nat) (f:Addr) (fd:FuncData) (ps:List Str) (sp:Sp):Prop where
 len:∀vs H Q E,sp vs H Q E->vs.length=ps.length
 run:∀(A:Around) (outer:List Env) (s:Shared) (H:Hp) (args:Args) (us:List Value) (vs:List V) (Q:VK) (E:XK),bx k A->dX P w K mg base A outer s H->BindsTo s fd args (ps.zip us)->be vs us->sp vs H Q E->
  codeAny (model P w) A (.call (.ref f) args) (CR CX outer P w H s Q E) s
theorem aA.imp{P:Program}{w:World}{K:Frag}{i:Str->Option Value}{base:Heap}{d:fJ}{k:Nat}{f:Addr}{fd:FuncData}{e:List Str}{g c:Sp}(F:aA P w K i base d k f fd e g)
  (h:∀b H Q E,c b H Q E->g b H Q E):aA P w K i base d k f fd e c:=
 ⟨fun b H Q E q=>F.len b H Q E (h _ _ _ _ q),fun A a s H args j b Q E l m n o p=>F.run A a s H args j b Q E l m n o (h _ _ _ _ p)⟩
theorem dX.make{P:Program}{w:World}{K:Frag}{b:Str->Option Value}{base:Heap}{A:Around}{a:List Env}{s:Shared}{H:Hp}(e:dX P w K b base A a s H)(C:Addr)(c:List Value)(d:List (Str×Value)) :
  dX P w K b base (A.under (.builtin "type.__call__" ⟨.ref C::c,d⟩)) a s H:=⟨by first | exact e.frames | (simpa[Around.under,Code.envs,Code.isFrame,pushEnvs] using e.frames),e.mod,e.bs,e.bsz,e.funs,e.frf,e.hok,e.bare⟩
section
variable{X:Cx}{pins:List (Addr×Obj)}{Y:St}{H:Hp}{s s':Shared}
theorem Inv.env0(I:Inv X pins Y H s):dX X.prog X.w X.K X.mg X.base X.A X.stack s H:=
 ⟨I.ok.frames,I.ok.mod,I.bs,Nat.le_trans I.ok.bsz I.sz,I.stack,I.stkFree,I.hok,I.bare⟩
theorem Inv.after{Q:VK}{u:Value}(I:Inv X pins Y H s)(h:CE X.stack X.prog X.w H s Q u s'):EP X pins Y Q u s':=by obtain⟨v,c,os,bare,un,hok,r,q⟩:=h;obtain⟨e,g,d,t,a⟩:=s';obtain rfl:a = s.os:=os;exact⟨v,c,I.call (h':=e) (g':=g) (d':=d) (t':=t) (ch:=[]) un hok bare (fun b z=>absurd z (by simp)),r,q⟩
end
def gP(K:Frag)(fd:FuncData)(b:List Str)(c:List Value):Prop:=
 ∀(s:Shared) (a:List Value),K.In s.heap->(a++c).length=b.length->BindsTo s fd ⟨a,[]⟩ (b.zip (a++c))
theorem gP.all{K:Frag}{fd:FuncData}{b:List Str}(h:∀a:List Value,a.length=b.length->bindArgs fd ⟨a,[]⟩=pure (b.zip a)):gP K fd b []:=fun s a _ c=>by rw[List.append_nil] at c ⊢;exact .of_eq (h a c)
section
variable{X:Cx}{CX:fJ}{k:Nat}{f C:Addr}{fd:FuncData}{ps:List Str}{sp:Sp}{dvs:List V}{ds:List Value}{E:XK}{x m:Str}{p pos apos:Pos}{e o:Expr}{es:List Expr}{ta:TE}{t:TA}
structure Mk (K:Frag) (C f:Addr):Prop where
 makes:PySem.W.makesIn K C=true
 init:findIn K (.ref C) "__init__" = some (some (.ref f))
 fn:PySem.W.isFn K (.ref f)=true
 kp:keepIn K (.ref C)=true
end
def PK(X:Cx)(b:List Keyword)(t:TA):Prop:=
 ∀(pos:Pos) (a:List (Addr×Obj)) (s:Shared) (Y:St) (H:Hp) (Q:List V->Hp->Prop),Inv X a Y H s->t Y H Q->wpAny (model X.prog X.w) X.A (evalAll ((backToKw pos (keywordEach b X.env)).map (·.2))) (AP X a Y Q) X.xe s
section
variable{X:Cx}{CX:fJ}{k:Nat}{f C:Addr}{fd:FuncData}{ps ks:List Str}{sp:Sp}{E:XK}{x m:Str}{p pos apos kpos:Pos}{e o:Expr}{es:List Expr}{kws:List Keyword}{te ta:TE}{t tk:TA}{nm:Option Str}
theorem GG:PK X [] yH:=fun _ _ _ _ H Q I h=>wpAny_evalAll_nil ⟨[],H,I,.nil,h⟩
theorem GI(b:PE X e te)(c:PK X kws t):PK X (⟨nm,e,kpos⟩::kws) (yI te t):=by intro pos a s Y H Q I h;show wpAny _ _ (evalAll ((do let v <-eval e X.env;standAt pos;pure v)::(backToKw pos (keywordEach kws X.env)).map (·.2))) _ _ s;refine wpAny_evalAll_cons (al (aT (b a s Y H _ I h) fun u d ⟨x,g,I1,i,j⟩=>al (wpAny_standAt (aV ?_))));exact aT (c pos a d Y g _ I1 j) fun y z ⟨l,n,q,r,w⟩=>⟨x::l,n,q,.cons i r,w⟩
end
structure aa (N P:List Str) (sc:Scope):Prop where
 kind:sc.kind=.function
 co:sc.isCoroutine=false
 gen:sc.isGenerator=false
 nd:N.Nodup
 pre:N.take P.length=P
 par:∀x∈P,sc.names.lookup x=some .local\/sc.names.lookup x=some .cell
 nofree:∀y∈sc.names,y.2≠.free
theorem yK{kindOf:Str->Option NameKind}{x:Str}:∀{binds:List (Str×Value)}{m:Str->Option Value},(∀v,(x,v)∉binds)->bindL kindOf binds m x=m x
 | [],_,_=>rfl
 | (n,v)::r,m,h=>by
  unfold bindL;rw[yK fun w a=>h w (bQ _ a)];split
  ·have:x≠n:=by rintro rfl;exact h v List.mem_cons_self
   simp[this]
  ·rfl
theorem yL{kindOf:Str->Option NameKind}{x:Str}:∀{binds:List (Str×Value)}{m:Str->Option Value},(∀v,(x,v)∉binds)->bindC kindOf binds m x=m x
 | [],_,_=>rfl
 | (n,v)::r,m,h=>by
  unfold bindC;rw[yL fun w a=>h w (bQ _ a)];split
  ·rfl
  ·have:x≠n:=by rintro rfl;exact h v List.mem_cons_self
   simp[this]
theorem yM{kindOf:Str->Option NameKind}{x:Str}{v:Value}:∀{P:List Str}{a:List Value}{i:Nat}{m:Str->Option Value},P.Nodup->P[i]? = some x->a[i]? = some v->kindOf x=some .local->
  bindL kindOf (P.zip a) m x=some v
 | [],_,_,_,_,h,_,_=>by simp at h
 | _::_,[],_,_,_,_,h,_=>by simp at h
 | p::P,w::a,0,m,nd,h1,h2,b=>by simp at h1 h2;subst h1;subst h2;show bindL kindOf ((p,w)::P.zip a) m p=_;unfold bindL;rw[yK fun v c=>(List.nodup_cons.mp nd).1 (List.of_mem_zip c).1,if_pos b];simp
 | p::P,w::a,i+1,m,nd,h1,h2,b=>by show bindL kindOf ((p,w)::P.zip a) m x=_;unfold bindL;exact yM (i:=i) (List.nodup_cons.mp nd).2 (by simpa using h1) (by simpa using h2) b
theorem yN{kindOf:Str->Option NameKind}{x:Str}{v:Value}:∀{P:List Str}{a:List Value}{i:Nat}{m:Str->Option Value},P.Nodup->P[i]? = some x->a[i]? = some v->kindOf x≠some .local->
  bindC kindOf (P.zip a) m x=some v
 | [],_,_,_,_,h,_,_=>by simp at h
 | _::_,[],_,_,_,_,h,_=>by simp at h
 | p::P,w::a,0,m,nd,h1,h2,b=>by simp at h1 h2;subst h1;subst h2;show bindC kindOf ((p,w)::P.zip a) m p=_;unfold bindC;rw[yL fun v c=>(List.nodup_cons.mp nd).1 (List.of_mem_zip c).1,if_neg b];simp
 | p::P,w::a,i+1,m,nd,h1,h2,b=>by show bindC kindOf ((p,w)::P.zip a) m x=_;unfold bindC;exact yN (i:=i) (List.nodup_cons.mp nd).2 (by simpa using h1) (by simpa using h2) b
noncomputable def start(N:List Str)(a:List V):St:=a.map some++List.replicate (N.length - a.length) none
noncomputable def jh(CX:fJ)(P:Program)(w:World)(K:Frag)(mg:Str->Option Value)(base:Heap)(N:List Str)(qual:Str)(scope:Scope)(f:Addr)(cd:Value)(A:Around)(outer:List Env)(s:Shared)(H:Hp)(E:XK):Cx where
 prog:=P
 w:=w
 K:=K
 mg:=mg
 base:=base
 A:=A.deeper (envOfC qual scope s.heap.objs.size f cd)
 N:=N
 s₀:=s
 H₀:=H
 env:=envOfC qual scope s.heap.objs.size f cd
 outer:=outer
 stack:=envOfC qual scope s.heap.objs.size f cd::outer
 ex:=[]
 calm:=true
 fn:=fun _=>true
 pn:=[]
 xe:=fun e s'=>wpAny (model P w) (A.deeper (envOfC qual scope s.heap.objs.size f cd)) (leaving (envOfC qual scope s.heap.objs.size f cd) e) (fun _ s''=>CX outer H s E e s'') (fun e' s''=>CX outer H s E e' s'') s'
theorem yO{a:Scope}{n:Nat}{x:Str}(h:a.names.lookup x=some .cell):∃c,(cellsFrom n a.names []).lookup x=some c:=by have q:=PySem.W.cellsFrom_some a.names n [] (.inl h);exact Option.isSome_iff_exists.mp q
theorem yP{CX:fJ}{P:Program}{w:World}{K:Frag}{L:Str->Option Value}{base:Heap}{N m:List Str}{qual:Str}{d:Scope}{f:Addr}{cd:Value}{A:Around}{g:List Env}{s M:Shared}{H:Hp}{E:XK}{J:List Value}{o:List V}
  (S:aa N m d) (hd:A.handled=none) (l:dX P w K L base A g s H) (X:o.length=m.length) (r:be o J)
  (x:InCallC s s.heap.objs.size (bindL (envOfC qual d s.heap.objs.size f cd).kindOf (m.zip J) fun _=>none) (cellsFrom (s.heap.objs.size+1) d.names []) (bindC (envOfC qual d s.heap.objs.size f cd).kindOf (m.zip J) fun _=>none) M) :
  Inv (jh CX P w K L base N qual d f cd A g s H E) [] (start N o) H M:=by
 have R:m.length<=N.length:=by have:=congrArg List.length S.pre;rw[List.length_take] at this;omega
 obtain⟨I,Y,rfl,O⟩:=x.done;have t:∀b:Addr,b∉(jh CX P w K L base N qual d f cd A g s H E).ex:=fun b z=>absurd (show b∈([]:List Addr) from z) (by simp);refine⟨⟨l.mod,S.kind,rfl,rfl,bH _,fun y z c I j=>?_,fun y B=>?_,fun y c _ h=>?_,fun _=>hd,Around.frames_deeper l.frames,.inr ⟨rfl,rfl⟩,fun b z=>absurd z (t b),l.bs,l.bsz,fun b _ _=>t b,fun b z=>absurd z (t b),l.funs,l.frf⟩,
  rfl,l.bare,Un.kept O,⟨_,x.toInCall.ns,fun i y v I j Z=>?_⟩,fun y c h=>⟨_,x.cell y c h⟩,l.hok.fresh (bH _),fun y c h=>?_,fun p C=>absurd (show p∈([]:List (Addr×Obj)) from C) (by simp),l.hok.kept O,?_⟩
 ·exact name_of_addr x.apart (PySem.mem_of_lookup I) (PySem.mem_of_lookup j)
 ·have B:d.names.lookup y=some .cell\/d.names.lookup y=some .free:=B;rcases B with B | B
  ·exact yO B
  ·exact absurd rfl (S.nofree _ (PySem.mem_of_lookup B))
 ·exact Nat.le_of_lt (x.above y c (PySem.mem_of_lookup h))
 ·have G:i<o.length:=by
   unfold start at j
   by_cases G:i<o.length
   ·exact G
   ·rw[List.getElem?_append_right (by simpa using G)] at j;rw[List.getElem?_replicate] at j;split at j<;>cases j
  have T:o[i]? = some v:=by
   unfold start at j;rw[List.getElem?_append_left (by simpa using G),List.getElem?_map] at j;cases e:o[i]? with
   | none=>rw[e] at j;cases j
   | some a=>rw[e] at j;cases j;rfl
  obtain⟨u,Q,U⟩:=r.get T;have C:m[i]? = some y:=by rw[<-S.pre,List.getElem?_take_of_lt (by omega)];exact I
  have D:m.Nodup:=by rw[<-S.pre];exact S.nd.sublist (List.take_sublist _ _)
  refine⟨u,U,?_⟩;rcases S.par y (List.mem_of_getElem? C) with k | k
  ·exact .inl ⟨k,yM D C Q k⟩
  ·obtain⟨c,e⟩:=yO (n:=s.heap.objs.size+1) k;refine .inr ⟨.inl k,c,e,?_⟩;have q:=x.cell y c e;rw[yN D C Q (by show d.names.lookup y≠_;rw[k];decide)] at q;exact q
 ·exact l.hok.fresh (Nat.le_of_lt (x.above y c (PySem.mem_of_lookup h)))
 ·unfold start;show _=N.length;rw[List.length_append,List.length_map,List.length_replicate];omega
theorem GJ{D:fJ}{P:Program}{w:World}{K:Frag}{M:Str->Option Value}{base:Heap}{k:Nat}{f:Addr}{name d:Str}{h:Arguments}{body:List Stmt}{a:Scope}{dV kV z pm g ct oc:Value}{an od:Option Addr}
  {O:Array (Option Value)}{N G:List Str}{R:Sp}(lk:K.lookup f=some ⟨oc,od,.func (fnOf name d h body a dV kV z pm an g ct),O⟩) (T:codeIn K g d=true) (S:aa N G a)
  (len:∀i H Q E,R i H Q E->i.length=G.length)
  (l:∀(A:Around) (c:List Env) (s:Shared) (H:Hp) (i:List V) (Q:VK) (E:XK),bx k (A.deeper (envOfC d a s.heap.objs.size f g))->R i H Q E->
   ∃t,PSs (jh D P w K M base N d a f g A c s H E) body t/\t { nx:=fun _ j=>Q .non j,rt:=Q } (start N i) H) :
  aA P w K M base D (k+1) f (fnOf name d h body a dV kV z pm an g ct) G R:=by
 refine⟨len,fun A c s H args us i Q E U B hb r C=>?_⟩;have hl:=len _ _ _ _ C;have KX:K.In s.heap:=B.mod.kin.keeps fun b o e=>(B.bs b o e).1;have X:s.heap.NoLimit:=B.mod.nolimit.keeps fun b o e=>(B.bs b o e).1;have m:∀y∈G.zip us,a.names.lookup y.1=some .local\/(a.names.lookup y.1=some .cell/\((cellsFrom (s.heap.objs.size+1) a.names []).lookup y.1).isSome=true):=fun⟨n,v⟩ hy=>by
  rcases S.par n (List.of_mem_zip hy).1 with q | q
  ·exact .inl q
  ·exact .inr ⟨q,PySem.W.cellsFrom_some _ _ _ (.inl q)⟩
 refine codeAny_call_function U.depth (KX _ _ lk) rfl S.co S.gen rfl (PySem.W.codeRec_of KX T) (hb _ _ _ _ ?_);refine wpAny_newFunctionEnv_cells S.kind m fun a0 he s1 x=>?_;subst he;refine⟨X.keeps x.toInCall.keep,codeAny_func ?_⟩;obtain⟨t,ht,hq⟩:=l A c s H i Q E (U.deeper _) C;have I:Inv (jh D P w K M base N d a f g A c s H E) [] (start N i) H s1:=yP S U.hd B hl r x;refine wpAny_mono (ht [] s1 (start N i) H _ I hq) (fun fl Y p=>?_) fun e Y p=>p;have fin:∀{L:St}{j:Hp}{v:V}{u:Value},Inv (jh D P w K M base N d a f g A c s H E) [] L j Y->bd v u->Q v j->CE c P w H s Q u Y:=
  fun {L j v u} J Z q=>⟨v,j,J.os,J.bare,J.base,J.hok,Z,q⟩
 cases fl with
 | ret u=>obtain⟨v,L,j,J,Z,q⟩:=p;exact fin J Z q
 | next=>obtain⟨L,j,J,q⟩:=p;exact fin (v:=V.non) (u:=Value.none) J rfl q
 | brk=>obtain⟨_,_,_,q⟩:=p;exact False.elim q
 | cont=>obtain⟨_,_,_,q⟩:=p;exact False.elim q
section
variable{X:Cx}{x:Str}{p pos:Pos}{e:Expr}{es:List Expr}{t:TA}{id T:String}{r:List V->Hp->VK->Prop}
noncomputable def uz(r:List V->Hp->VK->Prop)(t:TA):TE:=fun Y H Q=>t Y H fun a b=>r a b Q
theorem mi(d:ib X (.builtin id) r)(f:Gl X x)(g:X.mg x=none)(v:bootBuiltins x=some (.builtin id))(i:PA X (e::es) t)(j:x≠"__name__":=by decide)(b:(x==("__debug__":Str))=false:=by decide)
  (k:starEach (e::es) X.env=(false,eval e X.env)::starEach es X.env:=by rfl) (c:(backTo pos (starEach es X.env)).any (·.1)=false:=by rfl):PE X (.Call (.Name x p) (e::es) [] pos) (uz r t):=by
 intro a s Y H Q I h;refine wpAny_Call_Name_kw (jM I f g v ?_ j b);exact PyProof.Rows.callWith_builtin1 (aT (i pos a s Y H _ I h) fun l m ⟨n,o,I1,q,u⟩=>d a m Y o n l Q I1 q u) k c
theorem yQ(d:ib X (.type T) r)(f:Gl X x)(g:X.mg x=none)(v:bootBuiltins x=some (.type T))(i:PA X (e::es) t)(j:x≠"__name__":=by decide)(b:(x==("__debug__":Str))=false:=by decide)
  (k:starEach (e::es) X.env=(false,eval e X.env)::starEach es X.env:=by rfl) (c:(backTo pos (starEach es X.env)).any (·.1)=false:=by rfl):PE X (.Call (.Name x p) (e::es) [] pos) (uz r t):=by
 intro a s Y H Q I h;refine wpAny_Call_Name_kw (jM I f g v ?_ j b);exact PyProof.Rows.callWith_type1 (aT (i pos a s Y H _ I h) fun l m ⟨n,o,I1,q,u⟩=>d a m Y o n l Q I1 q u) k c
end
end L2
namespace HT
open PySem PyProof.Rows
noncomputable def lexLt:List Int->List Int->Bool
 | [],[]=>false
 | [],_::_=>true
 | _::_,[]=>false
 | x::a,y::b=>if x=y then lexLt a b else decide (x<y)
theorem GK(x y:Int)(a b:List Int):lexLt (x::a) (y::b)=if x=y then lexLt a b else decide (x<y):=rfl
theorem GL:lexLt [] []=false:=rfl
theorem GN(y:Int)(a:List Int):lexLt [] (y::a)=true:=rfl
theorem GO(x:Int)(a:List Int):lexLt (x::a) []=false:=rfl
theorem GP(A:Around)(s:Shared)(a:Int)(t:Tok)(c:Int)(u:Tok):∃e,SeqAt.EqAt A s (.int a t) (.int c u) e/\(e=true↔a=c):=
 ⟨(a==c),SeqAt.EqAt.int_int a t c u,by simp⟩
theorem GQ(A:Around)(s:Shared)(a:Int)(t:Tok)(c:Int)(u:Tok)(b:Program)(w:World)(E:Value->Shared->Prop)(Q:Value->Shared->Prop)(h:Q (.bool (decide (a<c))) s) :
  wpAny (model b w) A (richCompare .Lt (.int a t) (.int c u)) Q E s:=
 (PyProof.Rows.lt_int h:wpAny (model b w) A (compareOp .Lt (.int a t) (.int c u)) Q E s)
section
open PySem.SeqAt
open PySem.AutoSeq1 (wpAny_loadPart')
open PySem.MeetsSeq PySem.MeetsSeq2 PySem.MeetsSeq3
theorem GR(l b:Addr)(items f:Array Value)(n X:Nat)(dd N:Option Addr)(sl pJ:Array (Option Value))(M G:List Int)(T:IntsAre items.toList M)(U:IntsAre f.toList G) :
  Meets (Builtin.«tuple.__lt__» ⟨[.ref l,.ref b],[]⟩)
   (fun _ R s=>s.heap.get? l=some { cls:=.type "tuple",dict:=dd,data:=.seq items n,slots:=sl }/\s.heap.get? b=some { cls:=.type "tuple",dict:=N,data:=.seq f X,slots:=pJ }/\
    R (.ok (.ret (.bool (lexLt M G)))) s):=
 .of_wp fun v w A R s h=>by
  obtain⟨H,g,d,I,os⟩:=s;obtain⟨Y,hb,h⟩:=h;have f2:=AutoSeq1.sub_tuple_tuple;have z1:items.size=M.length:=by rw[<-T.length];simp
  have z2:f.size=G.length:=by rw[<-U.length];simp
  wp_walk using wpAny_loadPart' Y,wpAny_loadPart' hb,wpAny_forIn_list _ (fun rest b O=>b.1=none/\O = ⟨H,g,d,I,os⟩/\∃(J L:List Value) (j k:List Int),rest=J.zip L/\
   IntsAre J j/\IntsAre L k/\j.length+f.size=k.length+items.size/\R (.ok (.ret (.bool (lexLt j k)))) ⟨H,g,d,I,os⟩) _
  case turn=>
   rintro⟨y,x⟩ rest b O ⟨z,rfl,J,L,j,k,m,B,o,i,p⟩;cases B with
   | nil=>rw[List.zip_nil_left] at m;cases m
   | cons a t D=>
    cases o with
    | nil=>rw[List.zip_nil_right] at m;cases m
    | cons c u E=>
     rw[List.zip_cons_cons] at m;injection m with Q C
     injection Q with Z hx
     subst Z hx;rw[GK] at p;simp only[List.length_cons] at i;obtain⟨e,he,r⟩:=GP A.in1 ⟨H,g,d,I,os⟩ a t c u;refine al (he v w _ _ ?_);cases e with
     | true=>
      rw[if_pos (r.mp rfl)] at p
      wp_walk
      exact⟨rfl,rfl,_,_,_,_,C,D,E,by omega,p⟩
     | false=>
      rw[if_neg (fun q=>absurd (r.mpr q) Bool.false_ne_true)] at p;have S:=GQ A.in1 ⟨H,g,d,I,os⟩ a t c u v w
      wp_walk using S
      exact⟨_,rfl,by simpa using p⟩
  case fin=>
   rintro⟨b1,b2⟩ O ⟨z,rfl,J,L,j,k,m,B,o,i,p⟩;simp only at z;subst z;have hv:lexLt j k = decide (items.size<f.size):=by
    cases B with
    | nil=>
     cases o with
     | nil=>simp only[List.length_nil] at i;rw[GL];exact(decide_eq_false (by omega)).symm
     | cons c u hw=>simp only[List.length_nil,List.length_cons] at i;rw[GN];exact(decide_eq_true (by omega)).symm
    | cons a t hv=>
     cases o with
     | nil=>simp only[List.length_nil,List.length_cons] at i;rw[GO];exact(decide_eq_false (by omega)).symm
     | cons c u hw=>rw[List.zip_cons_cons] at m;cases m
   rw[hv] at p
   wp_walk
   exact⟨_,rfl,by simpa[Builtin.Tuple.tupleCompareSizes] using p⟩
  case h=>exact⟨rfl,rfl,items.toList,f.toList,M,G,rfl,T,U,by omega,h⟩
end
section
variable{prog:Program}{w:World}{A:Around}{E:Value->Shared->Prop}{s:Shared}
theorem lt_tupInts{l b:Addr}{items a:Array Value}{g c:List Int}{Q:Value->Shared->Prop}(m:IsTup s.heap l items)(t:IsTup s.heap b a)(o:IntsAre items.toList g)(p:IntsAre a.toList c)
  (q:A.units<cLine) (h:Q (.bool (lexLt g c)) s):wpAny (model prog w) A (compareOp .Lt (.ref l) (.ref b)) Q E s:=by
 obtain⟨⟨cls,dd,data,sl⟩,ho,j,n,hd⟩:=id m;obtain⟨⟨k,i,data2,pJ⟩,d,e,r,f⟩:=id t;simp only at j hd e f;subst j hd e f;exact richCompare_meets_room (op:=.Lt) ⟨_,ho,rfl⟩ ⟨_,d,rfl⟩ PySem.F.slot_tuple_lt PySem.F.entry_tuple_lt (PySem.F.args_tuple_lt_2 _ _) (GR l b items a n r dd i sl pJ g c o p)
  ⟨ho,d,show Value.bool (lexLt g c)≠Value.notImplemented/\Q (.bool (lexLt g c)) s from⟨(fun x=>nomatch x),h⟩⟩ q
noncomputable def sIx(n d:Nat):Option Int->Nat
 | none=>d
 | some v=>if v<0 then(v+(n:Int)).toNat else min v.toNat n
theorem sIx_none(n d:Nat):sIx n d none=d:=rfl
theorem sIx_nat(n d k:Nat):sIx n d (some (k:Int))=min k n:=by show(if (k:Int)<0 then((k:Int)+(n:Int)).toNat else min (k:Int).toNat n)=min k n;rw[if_neg (by omega),Int.toNat_natCast]
theorem GS(n d:Nat)(hd:d<=n)(o:Option Int):sIx n d o<=n:=by
 cases o with
 | none=>exact hd
 | some v=>
  show(if v<0 then(v+(n:Int)).toNat else min v.toNat n)<=n
  by_cases hv:v<0
  ·rw[if_pos hv];omega
  ·rw[if_neg hv];exact Nat.min_le_right _ _
theorem yR(v:Int)(n d:Nat):(if v<0 then max (v+(n:Int)) 0 else min v (n:Int))=((sIx n d (some v):Nat):Int):=by
 show(if v<0 then max (v+(n:Int)) 0 else min v (n:Int))=(((if v<0 then(v+(n:Int)).toNat else min v.toNat n):Nat):Int)
 by_cases hv:v<0
 ·simp only[if_pos hv];omega
 ·simp only[if_neg hv];omega
theorem GU(lo a:Option Int)(n:Nat):Builtin.Slice.sliceAdjust lo a 1 (n:Int)=(((sIx n 0 lo:Nat):Int),((sIx n n a:Nat):Int)):=by
 have h1:¬ ((1:Int)<0):=by omega
 unfold Builtin.Slice.sliceAdjust;simp only[h1,if_false];refine Prod.ext ?_ ?_
 ·cases lo with
  | none=>rfl
  | some v=>exact yR v n 0
 ·cases a with
  | none=>rfl
  | some v=>exact yR v n n
theorem GV(i j:Nat):Builtin.Slice.slicePlaces (i:Int) (j:Int) 1=j - i:=by
 unfold Builtin.Slice.slicePlaces;have h1:(1:Int)>0:=by omega
 simp only[h1,if_true,Int.ediv_one];split<;>omega
theorem yS{v:Value}{o:Option Int}{Q:Option Int->Shared->Prop}(p:IsPart v o)(h:Q o s):wpAny (model prog w) A (Builtin.Slice.slicePartIndex v) Q E s:=by
 cases p with
 | none=>exact slicePart_none h
 | int i t=>exact slicePart_int h
theorem yT{f:Addr}{d e:Value}{lo a:Option Int}{n:Nat}{Q:Int×Int×Nat->Shared->Prop}(j:s.heap.IsSliceOf f d e .none)(k:IsPart d lo)(g:IsPart e a)
  (h:Q (((sIx n 0 lo:Nat):Int),1,sIx n n a - sIx n 0 lo) s):wpAny (model prog w) A (Builtin.Slice.sliceApplied (.ref f) (pure (n:Int))) Q E s:=by
 obtain⟨os,b,i,c⟩:=id j;unfold Builtin.Slice.sliceApplied Builtin.Slice.sliceFields;refine al (al (wpAny_field b c (x:=d) rfl (al (wpAny_field b c (x:=e) rfl (al (wpAny_field b c (x:=.none) rfl (aV ?_)))))));refine al (slicePart_none ?_);show wpAny _ _ (if ((1:Int)==0)=true then _ else _) _ _ s;rw[if_neg (by decide)];refine al (yS k (al (yS g (al (aV ?_)))));show wpAny _ _ (match Builtin.Slice.sliceAdjust lo a 1 (n:Int) with | (lo,a)=>pure (lo,(1:Int),Builtin.Slice.slicePlaces lo a 1)) _ _ s;rw[GU lo a n];show wpAny _ _ (pure (((sIx n 0 lo:Nat):Int),(1:Int),Builtin.Slice.slicePlaces ((sIx n 0 lo:Nat):Int) ((sIx n n a:Nat):Int) 1)) _ _ s;rw[GV];exact aV h
theorem GW(a:Array Value)(i k:Nat):((List.range k).filterMap fun(m:Nat)=>a[((i:Int)+(m:Int) * 1).toNat]?).toArray=((a.toList.drop i).take k).toArray:=by
 have e:(fun(m:Nat)=>a[((i:Int)+(m:Int) * 1).toNat]?)=fun m=>a[i+m]?:=by
  funext m;have:((i:Int)+(m:Int) * 1).toNat=i+m:=by omega
  rw[this]
 rw[e];have:=pick_run a i k;rw[List.filterMap_map] at this;have b:((fun x=>a[x]?)∘fun x=>i+x)=fun m=>a[i+m]?:=rfl;rw[b] at this;rw[this]
theorem getItem_tuple_cut{t i:Addr}{items:Array Value}{j k:Value}{lo b:Option Int}{Q:Value->Shared->Prop}(c:IsTup s.heap t items)(l:s.heap.IsSliceOf i j k .none)(u:IsPart j lo)(n:IsPart k b)
  (o:¬ (sIx items.size 0 lo=0/\sIx items.size items.size b=items.size))
  (h:Q (.ref s.heap.objs.size) { s with heap:=s.heap.push { cls:=.type "tuple",data:=.seq ((items.toList.drop (sIx items.size 0 lo)).take (sIx items.size items.size b - sIx items.size 0 lo)).toArray } })
  (p:items.size<=sizeLine):wpAny (model prog w) A (getItem (.ref t) (.ref i)) Q E s:=by
 have a:sizeOk (.seq ((items.toList.drop (sIx items.size 0 lo)).take (sIx items.size items.size b - sIx items.size 0 lo)).toArray):=by show((items.toList.drop (sIx items.size 0 lo)).take (sIx items.size items.size b - sIx items.size 0 lo)).toArray.size<=sizeLine;rw[List.size_toArray,List.length_take,List.length_drop,Array.length_toList];omega
 have v:sIx items.size items.size b<=items.size:=GS _ _ (bH _) b;obtain⟨os,d,e,r⟩:=id l;have f:s.TypeIs (.ref i) "slice":=⟨os,d,e⟩
 unfold getItem
 try with_reducible refine wpAny_holding ?_
 first | refine al (aV ?_) | skip
 refine al (wpAny_sequenceKey c.typeIs (by decide) ?_);refine al (wpAny_callSpecial?_slot (name:=Str.ofString "__getitem__") c.typeIs PyProof.Rows.slot_tuple_getitem
  (wpAny_call_entry PyProof.Rows.slot_tuple_getitem c.typeIs entry_tuple_getitem ?_ (args_tuple_getitem _ _)))
 show wpAny _ _ (Builtin.Tuple.tupleItemsOf (.ref t) >>= _) _ _ s;refine al (tupleItemsOf_ c ?_);refine al (wpAny_typeOf f ?_);rw[if_pos (by decide)];refine al (yT l u n ?_);have g:¬ ((((sIx items.size 0 lo:Nat):Int)==0&&(1:Int)==1&&(sIx items.size items.size b - sIx items.size 0 lo)==items.size)=true):=by intro q;rw[Bool.and_eq_true,Bool.and_eq_true] at q;have x:((sIx items.size 0 lo:Nat):Int)=0:=eq_of_beq q.1.1;have y:sIx items.size items.size b - sIx items.size 0 lo=items.size:=eq_of_beq q.2;exact o ⟨by omega,by omega⟩
 show wpAny _ _ (if (((sIx items.size 0 lo:Nat):Int)==0&&(1:Int)==1&&(sIx items.size items.size b - sIx items.size 0 lo)==items.size)=true then _ else _) _ _ s;rw[if_neg g,GW]
 first
  | exact al (m:=Builtin.Tuple.tupleExact _) (wpAny_newObj_type (aV ⟨_,rfl,aV h⟩) a)
  | exact al (m:=Builtin.Tuple.tupleExact _) (wpAny_newObj_type (al (aV (aV ⟨_,rfl,aV h⟩))) a)
  | exact al (al (m:=Builtin.Tuple.tupleExact _) (wpAny_newObj_type (aV (aV ⟨_,rfl,aV h⟩)) a))
  | exact al (al (m:=Builtin.Tuple.tupleExact _) (wpAny_newObj_type (aV ⟨_,rfl,aV h⟩) a))
end
end HT
namespace L2
open PySem PySem.Spec PyProof.Rows
abbrev TO:=St->Hp->(Option Int->Hp->Prop)->Prop
def PO(X:Cx)(e:Option Expr)(t:TO):Prop:=
 ∀(a:List (Addr×Obj)) (s:Shared) (Y:St) (H:Hp) (Q:Option Int->Hp->Prop),Inv X a Y H s->t Y H Q->
  wpAny (model X.prog X.w) X.A (evalPart e X.env) (fun u c=>∃o b,Inv X a Y b c/\IsPart u o/\Q o b) X.xe s
noncomputable def GX:TO:=fun _ H Q=>Q none H
noncomputable def GY(t:TE):TO:=fun Y H Q=>t Y H fun x a=>∃i,x=.int i/\Q (some i) a
section
variable{X:Cx}{e:Expr}{te:TE}{lo hi:Option Expr}{tl th:TO}{pos p2:Pos}
theorem yU:PO X none GX:=by intro a s Y H Q I h;rw[evalPart_none];exact aV ⟨none,H,I,.none,h⟩
theorem yV(h:PE X e te):PO X (some e) (GY te):=by intro a s Y H Q I b;rw[evalPart_some];refine aT (h a s Y H _ I b) fun u g ⟨x,c,I1,d,f⟩=>?_;obtain⟨i,rfl,q⟩:=f;obtain⟨t,rfl⟩:=d;exact⟨some i,c,I1,.int i t,q⟩
def iF(X:Cx)(r:V->Option Int->Option Int->Hp->VK->Prop):Prop:=
 ∀(a:List (Addr×Obj)) (s:Shared) (Y:St) (H:Hp) (x:V) (v b c:Value) (lo hi:Option Int) (d:Addr) (Q:VK),Inv X a Y H s->bd x v->s.heap.IsSliceOf d b c .none->IsPart b lo->IsPart c hi->r x lo hi H Q->
  ∃T id,typeLookup (.type T) "__getitem__" = pure (some (.builtin id))/\s.TypeIs v T/\wpAny (model X.prog X.w) X.A (getItem v (.ref d)) (EP X a Y Q) X.xe s
theorem iF.or{r b:V->Option Int->Option Int->Hp->VK->Prop}(h:iF X r)(l:iF X b):iF X (fun x lo hi H Q=>r x lo hi H Q\/b x lo hi H Q):=by
 intro a s Y H x v c d lo hi i Q I f j k g q;rcases q with q | q
 ·exact h a s Y H x v c d lo hi i Q I f j k g q
 ·exact l a s Y H x v c d lo hi i Q I f j k g q
noncomputable def GZ(r:V->Option Int->Option Int->Hp->VK->Prop)(te:TE)(tl th:TO):TE:=fun Y H Q=>te Y H fun x a=>tl Y a fun l b=>th Y b fun u c=>r x l u c Q
theorem yW{r:V->Option Int->Option Int->Hp->VK->Prop}(i:iF X r)(j:PE X e te)(k:PO X lo tl)(m:PO X hi th):PE X (.Subscript e (.Slice lo hi none p2) pos) (GZ r te tl th):=by intro a s Y H Q I h;refine Subscript_ (aT (j a s Y H _ I h) fun v n ⟨x,o,I1,p,t⟩=>?_);refine wpAny_Slice (aT (k a n Y o _ I1 t) fun d y ⟨l,z,B,pl,C⟩=>aT (m a y Y z _ B C) fun f c ⟨u,g,D,E,G⟩=>?_);rw[evalPart_none];refine aV ?_;have J:Inv X a Y g { c with heap:=c.heap.push { cls:=.type "slice",data:=.fields #[d,f,.none] } }:=D.kept (t':=c.toks) fun b N q=>bA _ q;obtain⟨T,id,L,ht,M⟩:=i a { c with heap:=c.heap.push { cls:=.type "slice",data:=.fields #[d,f,.none] } } Y g x v d f l u c.heap.objs.size Q J p (Heap.IsSliceOf.new ..) pl E G;show wpAny (model X.prog X.w) X.A (subscriptTail e (.Slice lo hi none p2) v (.ref c.heap.objs.size)) (EP X a Y Q) X.xe { c with heap:=c.heap.push { cls:=.type "slice",data:=.fields #[d,f,.none] } };exact tail_any (ops:=[.ref c.heap.objs.size,v]) ht L M (by with_unfolding_all rfl)
noncomputable def iG(a:List V)(lo hi:Option Int):List V:=(a.drop (HT.sIx a.length 0 lo)).take (HT.sIx a.length a.length hi - HT.sIx a.length 0 lo)
theorem yX(a:List V)(lo hi:Option Int):(iG a lo hi).length<=a.length:=by unfold iG;rw[List.length_take,List.length_drop];omega
noncomputable def Ha(K:Frag):V->Option Int->Option Int->Hp->VK->Prop:=fun x lo hi H Q=>∃a b,x=.ref a/\eP K H a b/\
 ¬ (HT.sIx b.length 0 lo=0/\HT.sIx b.length b.length hi=b.length)/\∀p,H p=none->Q (.ref p) (aN H p (.tup (iG b lo hi)))
theorem Hb:iF X (Ha X.K):=by
 intro g s Y H x v p t lo hi u Q I j m n k h;obtain⟨a,d,rfl,hx,l,q⟩:=h;cases j;obtain⟨f,r,ht,i⟩:=I.tuple hx;have c:f.toArray.size=d.length:=by rw[List.size_toArray];exact r.length.symm
 refine⟨"tuple",_,PyProof.Rows.slot_tuple_getitem.lookup,ht.typeIs,?_⟩;refine HT.getItem_tuple_cut ht m n k (by rw[c];exact l) ?_ (by rw[c];exact i);rw[c];refine⟨.ref s.heap.objs.size,_,I.laid (t':=s.toks) (o:=.tup (iG d lo hi)) (fun b w q=>bA _ q) (bH _) ?_,rfl,q _ (I.hok.fresh (bH _))⟩;exact⟨Nat.le_trans (yX d lo hi) i,_,(r.drop (HT.sIx d.length 0 lo)).take (HT.sIx d.length d.length hi - HT.sIx d.length 0 lo),IsTup.new _ _⟩
end
noncomputable def cp(n:Nat)(i:Int):Option Nat:=if 0<=i then(if i<n then some i.toNat else none) else if -(n:Int)<=i then some (i+n).toNat else none
noncomputable def bE{α:Type}(a:List α)(i:Int):Option α:=(cp a.length i).bind fun j=>a[j]?
theorem yY{n:Nat}{i:Int}{j:Nat}(h:cp n i=some j):seqIndex? i n=some j/\j<n/\-(n:Int)<=i/\i<n:=by
 unfold cp at h
 by_cases a:0<=i
 ·rw[if_pos a] at h
  by_cases h1:i<n
  ·rw[if_pos h1] at h;have e:i.toNat=j:=Option.some.inj h;exact⟨by rw[seqIndex_of a h1,e],by omega,by omega,h1⟩
  ·rw[if_neg h1] at h;cases h
 ·rw[if_neg a] at h
  by_cases h1:-(n:Int)<=i
  ·rw[if_pos h1] at h;have e:(i+n).toNat=j:=Option.some.inj h;exact⟨by rw[seqIndex_neg (by omega) h1,e],by omega,h1,by omega⟩
  ·rw[if_neg h1] at h;cases h
theorem yZ{α:Type}{a:List α}{i:Int}{v:α}(h:bE a i=some v):∃j,seqIndex? i a.length=some j/\a[j]? = some v/\j<a.length/\-(a.length:Int)<=i/\i<a.length:=by
 unfold bE at h;cases e:cp a.length i with
 | none=>rw[e] at h;cases h
 | some j=>rw[e] at h;obtain⟨c,h2,h3,b⟩:=yY e;exact⟨j,c,h,h2,h3,b⟩
def mj(b:Expr):Prop:=∀o i,subscripted b false o i=operate [o,i] (getItem o i)
def ji(X:Cx)(r:R2):Prop:=
 ∀(value slice:Expr) (a:List (Addr×Obj)) (s:Shared) (Y:St) (H:Hp) (x y:V) (v u:Value) (Q:VK),Inv X a Y H s->bd x v->bd y u->r x y H Q->
  subscripted slice false v u=operate [v,u] (getItem v u)->wpAny (model X.prog X.w) X.A (subscriptTail value slice v u) (EP X a Y Q) X.xe s
def qa(X:Cx)(id:String)(r:V->List V->Hp->VK->Prop):Prop:=
 ∀(a:List (Addr×Obj)) (s:Shared) (Y:St) (H:Hp) (x:V) (b:List V) (v:Value) (c:List Value) (Q:VK),Inv X a Y H s->bd x v->be b c->r x b H Q->
  wpAny (model X.prog X.w) X.A (call (.builtin id) (v::c)) (EP X a Y Q) X.xe s
section
variable{X:Cx}{a b:Expr}{ta tb:TE}{pos:Pos}
theorem ji.or{r d:R2}(h:ji X r)(i:ji X d):ji X (fun x y H Q=>r x y H Q\/d x y H Q):=by
 intro value slice c s Y H x y v u Q I e f q g;rcases q with q | q
 ·exact h value slice c s Y H x y v u Q I e f q g
 ·exact i value slice c s Y H x y v u Q I e f q g
theorem qb{r:R2}(d:ji X r)(e:PE X a ta)(l:PE X b tb)(m:mj b):PE X (.Subscript a b pos) (nG r ta tb):=by intro c s Y H Q I h;exact Subscript_ (uu e l I h fun v u f x y g i j k q=>d a b c f Y g x y v u Q i j k q (m _ _))
noncomputable def uA(K:Frag):R2:=fun x y H Q=>∃p c i v,x=.ref p/\y=.int i/\cN K H p c/\bE c i=some v/\Q v H
noncomputable def uB(K:Frag):R2:=fun x y H Q=>∃p c i v,x=.ref p/\y=.int i/\eP K H p c/\bE c i=some v/\Q v H
theorem qc:ji X (uA X.K):=by
 intro value slice c s Y H x y v u Q I m n h l;obtain⟨p,G,i,z,rfl,rfl,o,A,q⟩:=h;cases m;obtain⟨t,rfl⟩:=n;obtain⟨d,r,pl,J⟩:=I.list o;obtain⟨j,h1,h2,h3,B,C⟩:=yZ A;obtain⟨w,g,e⟩:=r.get h2;have D:=r.length;have L:=eB;have fin:EP X c Y Q w s:=⟨z,H,I,e,q⟩
 by_cases k:0<=i
 ·have f:i.toNat=j:=by rw[seqIndex_of k C] at h1;exact Option.some.inj h1
  exact item_listR pl.isList k (by omega) (by rw[f];simpa using g) fin l
 ·have f:(i+(d.toArray.size:Int)).toNat=j:=by rw[seqIndex_neg (by omega) B] at h1;rw[List.size_toArray,<-D];exact Option.some.inj h1
  exact subscriptTail_builtinR (x:=w) pl.isList.typeIs slot_list_getitem.lookup
   (wpAny_getItem_list_neg (Q:=fun r E=>r=w/\EP X c Y Q r E) pl.isList (by omega) (by rw[List.size_toArray]<;>omega) (by omega) (by rw[f];simpa using g) ⟨rfl,fin⟩) l
theorem Hc:ji X (uB X.K):=by
 intro value slice c s Y H x y v u Q I e f h A;obtain⟨p,B,i,z,rfl,rfl,g,k,q⟩:=h;cases e;obtain⟨t,rfl⟩:=f;obtain⟨l,r,pl,C⟩:=I.tuple g;obtain⟨j,h1,h2,h3,D,E⟩:=yZ k;obtain⟨w,m,d⟩:=r.get h2;have n:=r.length;have G:=eB;have fin:EP X c Y Q w s:=⟨z,H,I,d,q⟩
 exact subscriptTail_builtinR (x:=w) pl.typeIs slot_tuple_getitem.lookup
  (getItem_tuple (j:=j) (Q:=fun r o=>r=w/\EP X c Y Q r o) pl (by omega) (by omega) (by rw[List.size_toArray,<-n];exact h1) (by simpa using m) ⟨rfl,fin⟩) A
theorem Hd(c:List Value)(n j:Nat)(u:Value):Obj.mapSeq (·.setIfInBounds j u) { cls:=.type "list",data:=.seq c.toArray n } = { cls:=.type "list",data:=.seq (c.set j u).toArray n }:=by simp[Obj.mapSeq]
theorem Inv.lst{d:List (Addr×Obj)}{Y:St}{H:Hp}{s:Shared}{p:Addr}{f:List V}(I:Inv X d Y H s)(h:H p=some (.lst f)) :
  ∃(c:List Value) (n:Nat),be f c/\s.heap.get? p=some { cls:=.type "list",data:=.seq c.toArray n }/\f.length<=sizeLine:=by
 obtain⟨z,c,n,r,e⟩:=I.hok p _ h;exact⟨c,n,r,e,z⟩
theorem Inv.lstUpd{d:List (Addr×Obj)}{Y:St}{H:Hp}{s:Shared}{p:Addr}{l i:List V}{g c:List Value}{n j:Nat}{f:Obj->Obj}(I:Inv X d Y H s)(h:H p=some (.lst l))
  (o:s.heap.get? p=some { cls:=.type "list",data:=.seq g.toArray n }) (k:f { cls:=.type "list",data:=.seq g.toArray n } = { cls:=.type "list",data:=.seq c.toArray j }) (r:be i c) (m:i.length<=sizeLine) (t:Nat) :
  Inv X d Y (aN H p (.lst i)) { s with heap:=s.heap.update p f,toks:=t }:=by
 have e:(s.heap.update p f).get? p=some { cls:=.type "list",data:=.seq c.toArray j }:=by rw[Heap.get?_update_self f o (by rw[k]<;>rfl),k]
 refine I.write (x:=p) (e:=p) (by rw[h];trivial) (.inl rfl) (fun b u v q=>(Heap.get?_update_other _ _ (Ne.symm v)).trans q) ⟨_,e⟩ ?_;exact⟨m,c,j,r,e⟩
noncomputable def He:V->V->V->Hp->(Hp->Prop)->Prop:=fun o i v H Q=>∃p c k j,o=.ref p/\i=.int k/\H p=some (.lst c)/\cp c.length k=some j/\Q (aN H p (.lst (c.set j v)))
theorem za:yn X He:=by
 intro c s Y H o i v E G u Q I y z A h;obtain⟨p,B,k,j,rfl,rfl,l,C,q⟩:=h;cases y;obtain⟨t,rfl⟩:=z;obtain⟨d,n,r,ho,D⟩:=I.lst l;obtain⟨e,h2,h3,m⟩:=yY C;have f:=r.length;have J:=eB;have w:Inv X c Y (aN H p (.lst (B.set j v))) { s with heap:=s.heap.update p (Obj.mapSeq (·.setIfInBounds j u)) }:=
  I.lstUpd l ho (Hd d n j u) (r.set A j) (by rw[List.length_set];exact D) s.toks
 by_cases x:0<=k
 ·have g:k.toNat=j:=by rw[seqIndex_of x m] at e;exact Option.some.inj e
  exact PySem.W.ki_setAt ho x (by omega) (by rw[List.size_toArray,<-f];exact m) (by rw[g];exact⟨_,w,q⟩)
 ·have g:(k+(d.toArray.size:Int)).toNat=j:=by rw[seqIndex_neg (by omega) h3] at e;rw[List.size_toArray,<-f];exact Option.some.inj e
  exact PySem.W.ki_setBack ho (by omega) (by rw[List.size_toArray,<-f];exact h3) (by omega) (by rw[g];exact⟨_,w,q⟩)
theorem Hf(lo c:Option Int)(n:Nat):(sliceBounds lo c none n).1=((HT.sIx n 0 lo:Nat):Int)/\(sliceBounds lo c none n).2.1=((HT.sIx n n c:Nat):Int)/\(sliceBounds lo c none n).2.2=1:=by
 refine⟨?_,?_,rfl⟩
 ·cases lo with
  | none=>simp[sliceBounds,HT.sIx]
  | some i=>
   simp only[sliceBounds,HT.sIx,Option.getD_none,show(1:Int)>0 by decide,if_true]
   by_cases h:i<0
   ·simp only[h,if_true]<;>omega
   ·simp only[h,if_false]<;>omega
 ·cases c with
  | none=>simp[sliceBounds,HT.sIx]
  | some i=>
   simp only[sliceBounds,HT.sIx,Option.getD_none,show(1:Int)>0 by decide,if_true]
   by_cases h:i<0
   ·simp only[h,if_true]<;>omega
   ·simp only[h,if_false]<;>omega
theorem Hg(c:List Value)(lo d:Option Int):slicePick c.toArray lo d none=((c.drop (HT.sIx c.length 0 lo)).take (HT.sIx c.length c.length d - HT.sIx c.length 0 lo)).toArray:=by obtain⟨e,h2,h3⟩:=Hf lo d c.toArray.size;unfold slicePick;rw[e,h2,h3];simp only[sliceRange_one,pick_run,List.size_toArray]<;>rfl
noncomputable def Hh(K:Frag):V->Option Int->Option Int->Hp->VK->Prop:=fun x lo d H Q=>∃a c,x=.ref a/\cN K H a c/\∀p,H p=none->Q (.ref p) (aN H p (.lst (iG c lo d)))
theorem zb:iF X (Hh X.K):=by intro f s Y H x v n p lo e t Q I g l m i h;obtain⟨a,c,rfl,hx,q⟩:=h;cases g;obtain⟨j,r,ht,k⟩:=I.list hx;have d:=r.length;refine⟨"list",_,slot_list_getitem.lookup,ht.isList.typeIs,?_⟩;refine wpAny_getItem_list_slice ht.isList l m i .none (by simp) ?_ (by rw[List.size_toArray]<;>omega);rw[Hg,<-d];refine⟨.ref s.heap.objs.size,_,I.laid (t':=s.toks) (o:=.lst (iG c lo e)) (fun b u q=>bA _ q) (bH _) ?_,rfl,q _ (I.hok.fresh (bH _))⟩;exact⟨Nat.le_trans (yX c lo e) k,_,0,(r.drop (HT.sIx c.length 0 lo)).take (HT.sIx c.length c.length e - HT.sIx c.length 0 lo),Heap.get?_push_size _ rfl⟩
noncomputable def eR:V->Bool
 | .non=>true
 | .bl _=>true
 | .int _=>true
 | .str _=>true
 | _=>false
noncomputable def dg:V->V->Bool
 | .non,.non=>true
 | .bl a,.bl b=>a==b
 | .bl a,.int b=>(if a then 1 else 0)==b
 | .int a,.bl b=>a==(if b then 1 else 0)
 | .int a,.int b=>a==b
 | .str a,.str b=>a==b
 | _,_=>false
theorem zc{A:Around}{s:Shared}{y x:V}{u v:Value}(d:bd y u)(c:bd x v)(f:eR y=true)(e:eR x=true):SeqAt.EqAt A s u v (dg y x):=by
 cases y with
 | non=>
  cases d;cases x with
  | non=>cases c;exact SeqAt.EqAt.same _
  | bl b=>cases c;exact SeqAt.EqAt.none_bool b
  | int b=>obtain⟨t,rfl⟩:=c;exact SeqAt.EqAt.none_int b t
  | str b=>obtain⟨t,rfl⟩:=c;exact SeqAt.EqAt.none_str b t
  | _=>exact absurd (show false=true from e) Bool.false_ne_true
 | bl a=>
  cases d;cases x with
  | non=>cases c;exact SeqAt.EqAt.bool_none a
  | bl b=>cases c;exact SeqAt.EqAt.bool_bool a b
  | int b=>obtain⟨t,rfl⟩:=c;exact SeqAt.EqAt.bool_int a b t
  | str b=>obtain⟨t,rfl⟩:=c;exact SeqAt.EqAt.bool_str a b t
  | _=>exact absurd (show false=true from e) Bool.false_ne_true
 | int a=>
  obtain⟨t',rfl⟩:=d;cases x with
  | non=>cases c;exact SeqAt.EqAt.int_none a t'
  | bl b=>cases c;exact SeqAt.EqAt.int_bool a t' b
  | int b=>obtain⟨t,rfl⟩:=c;exact SeqAt.EqAt.int_int a t' b t
  | str b=>obtain⟨t,rfl⟩:=c;exact SeqAt.EqAt.int_str a t' b t
  | _=>exact absurd (show false=true from e) Bool.false_ne_true
 | str a=>
  obtain⟨t',rfl⟩:=d;cases x with
  | non=>cases c;exact SeqAt.EqAt.str_none a t'
  | bl b=>cases c;exact SeqAt.EqAt.str_bool a t' b
  | int b=>obtain⟨t,rfl⟩:=c;exact SeqAt.EqAt.str_int a t' b t
  | str b=>obtain⟨t,rfl⟩:=c;exact SeqAt.EqAt.str_str a t' b t
  | _=>exact absurd (show false=true from e) Bool.false_ne_true
 | _=>exact absurd (show false=true from f) Bool.false_ne_true
noncomputable def fK(x:V)(u:Value):Bool:=match u with
 | .none=>dg .non x
 | .bool b=>dg (.bl b) x
 | .int i _=>dg (.int i) x
 | .str z _=>dg (.str z) x
 | _=>false
theorem zd{x y:V}{u:Value}(r:bd y u)(f:eR y=true):fK x u=dg y x:=by
 cases y with
 | non=>cases r;rfl
 | bl b=>cases r;rfl
 | int i=>obtain⟨t,rfl⟩:=r;rfl
 | str z=>obtain⟨t,rfl⟩:=r;rfl
 | _=>exact absurd (show false=true from f) Bool.false_ne_true
theorem nJ{x:V}:∀{c:List V}{d:List Value},be c d->c.all eR=true->d.any (fK x)=c.any fun y=>dg y x
 | _,_,.nil,_=>rfl
 | y::c,u::d,.cons r t,f=>by rw[List.all_cons,Bool.and_eq_true] at f;rw[List.any_cons,List.any_cons,zd r f.1,nJ t f.2]
theorem nK{A:Around}{s:Shared}{x:V}{v:Value}(g:bd x v)(h:eR x=true):∀{d:List V}{e:List Value},be d e->d.all eR=true->∀u∈e,SeqAt.EqAt A s u v (fK x u)
 | _,_,.nil,_=>fun u c=>by cases c
 | y::d,u::e,.cons r t,f=>fun i c=>by
  rw[List.all_cons,Bool.and_eq_true] at f;rcases List.mem_cons.mp c with rfl | c
  ·rw[zd r f.1];exact zc r g f.1 h
  ·exact nK g h t f.2 i c
noncomputable def ml(x:V)(c:List V):Bool:=c.any fun y=>dg y x
noncomputable def qd(K:Frag)(neg:Bool):R2:=fun x y H Q=>∃p c,y=.ref p/\(cN K H p c\/eP K H p c)/\eR x=true/\c.all eR=true/\Q (.bl (if neg then !ml x c else ml x c)) H
theorem Hi:cH X (compareOp .In) (qd X.K false):=by
 intro f s Y H x y v u Q I g j h;obtain⟨p,l,rfl,d,i,fs,q⟩:=h;cases j;rcases d with d | d
 ·obtain⟨c,r,pl,k⟩:=I.list d;refine SeqAt.in_listAt (fK x) pl.isList (fun w e=>nK g i r fs w (by simpa using e)) ⟨.bl _,H,I,rfl,?_⟩;rw[show c.toArray.any (fK x)=c.any (fK x) by simp,nJ r fs];exact q
 ·obtain⟨c,r,pl,k⟩:=I.tuple d;refine SeqAt.in_tupleAt (fK x) pl (fun w e=>nK g i r fs w (by simpa using e)) ⟨.bl _,H,I,rfl,?_⟩;rw[show c.toArray.any (fK x)=c.any (fK x) by simp,nJ r fs];exact q
theorem Hj:cH X (compareOp .NotIn) (qd X.K true):=by
 intro f s Y H x y v u Q I g j h;obtain⟨p,l,rfl,d,i,fs,q⟩:=h;cases j;rcases d with d | d
 ·obtain⟨c,r,pl,k⟩:=I.list d;refine SeqAt.notIn_listAt (fK x) pl.isList (fun w e=>nK g i r fs w (by simpa using e)) ⟨.bl _,H,I,rfl,?_⟩;rw[show c.toArray.any (fK x)=c.any (fK x) by simp,nJ r fs];exact q
 ·obtain⟨c,r,pl,k⟩:=I.tuple d;refine SeqAt.notIn_tupleAt (fK x) pl (fun w e=>nK g i r fs w (by simpa using e)) ⟨.bl _,H,I,rfl,?_⟩;rw[show c.toArray.any (fK x)=c.any (fK x) by simp,nJ r fs];exact q
theorem ig:ib X (.builtin "len") (fun i H Q=>∃p d,i=[.ref p]/\(cN X.K H p d\/eP X.K H p d)/\Q (.int d.length) H):=by
 intro j s Y H i m Q I r h;obtain⟨p,d,rfl,e,q⟩:=h;obtain⟨u,rfl,k⟩:=dM r;cases k;have n:=eB;rcases e with e | e
 ·obtain⟨f,g,pl,l⟩:=I.list e;have c:=g.length;exact Calls.call_len_list pl.isList (by simp only[List.size_toArray]<;>omega) ⟨.int d.length,H,I.tok _,⟨s.toks+1,by rw[List.size_toArray,c]⟩,q⟩
 ·obtain⟨f,g,pl,l⟩:=I.tuple e;have c:=g.length;exact len_tuple pl (by simp only[List.size_toArray]<;>omega) ⟨.int d.length,H,I.tok _,⟨s.toks+1,by rw[List.size_toArray,c]⟩,q⟩
theorem Hk:ib X (.type "list") (fun y H Q=>∃p f,y=[.ref p]/\(cN X.K H p f\/eP X.K H p f)/\∀l,H l=none->Q (.ref l) (aN H l (.lst f))):=by
 intro j s Y H y B Q I r h;obtain⟨p,f,rfl,k,q⟩:=h;obtain⟨u,rfl,A⟩:=dM r;cases A;have fin:∀(c:List Value),be f c->f.length<=sizeLine->∀(d:Heap) (g:Nat),(∀b z,s.heap.get? b=some z->d.get? b=some z)->
   d.get? s.heap.objs.size=some { cls:=.type "list",dict:=none,data:=.seq c.toArray g,slots:=#[] }->EP X j Y Q (.ref s.heap.objs.size) { s with heap:=d }:=fun c i m d g v e=>
  ⟨.ref s.heap.objs.size,_,I.laid (t':=s.toks) v (bH _) (show cD X.prog X.w _ d _ (.lst f) from⟨m,c,g,i,e⟩),rfl,q _ (I.hok.fresh (bH _))⟩
 rcases k with k | k
 ·obtain⟨c,i,pl,m⟩:=I.list k;have t:=i.length;obtain⟨o,ho,x,n,hd⟩:=pl.isList;exact call_list_seq p (.inl rfl) ho x hd (fun d g v e=>fin c i m d g v e) (by simp only[List.size_toArray]<;>omega)
 ·obtain⟨c,i,pl,m⟩:=I.tuple k;have t:=i.length;obtain⟨o,ho,x,n,hd⟩:=pl;exact call_list_seq p (.inr rfl) ho x hd (fun d g v e=>fin c i m d g v e) (by simp only[List.size_toArray]<;>omega)
theorem ze:ib X (.type "tuple") (fun k H Q=>∃p f,k=[.ref p]/\((cN X.K H p f/\∀l,H l=none->Q (.ref l) (aN H l (.tup f)))\/(eP X.K H p f/\Q (.ref p) H))):=by
 intro c s Y H k y Q I r h;obtain⟨p,f,rfl,h⟩:=h;obtain⟨u,rfl,t⟩:=dM r;cases t;rcases h with⟨i,q⟩ | ⟨i,q⟩
 ·obtain⟨d,j,pl,m⟩:=I.list i;have n:=j.length;refine call_tuple_list pl.isList (fun g x=>?_) (by simp only[List.size_toArray]<;>omega);have I1:Inv X c Y H { s with heap:=g }:=I.kept (t':=s.toks) x;have v:Inv X c Y (aN H g.objs.size (.tup f)) { s with heap:=g.push { cls:=.type "tuple",data:=.seq d.toArray } }:=
   I1.laid (t':=s.toks) (fun b o e=>bA _ e) (bH _) (show cD X.prog X.w _ _ _ (.tup f) from⟨m,d,j,IsTup.new _ _⟩)
  exact⟨.ref g.objs.size,_,v,rfl,q _ (I1.hok.fresh (bH _))⟩
 ·obtain⟨d,j,pl,m⟩:=I.tuple i;exact call_tuple_same pl ⟨.ref p,H,I,rfl,q⟩
def zf(K:Frag)(T:String)(x:V)(H:Hp):Prop:=match x with
 | .str _=>T="str"
 | .int _=>T="int"
 | .ref p=>(T="list"/\∃d,cN K H p d)\/(T="tuple"/\∃o,K.lookup p=some o/\o.cls=.type "tuple"/\o.dict=none)\/
   (T="dict"/\((∃c,H p=some (.dK c))\/∃c,H p=some (.dT c)))\/(T="set"/\∃S n,H p=some (.set S n))
 | _=>False
theorem Hm{f:List (Addr×Obj)}{Y:St}{H:Hp}{s:Shared}{T:String}{x:V}{v:Value}(I:Inv X f Y H s)(r:bd x v)(g:zf X.K T x H) :
  s.TypeIs v T/\∀a,v=.ref a->∃k,s.heap.get? a=some k/\k.dict=none:=by
 cases x with
 | str z=>obtain⟨t,rfl⟩:=r;cases(show T="str" from g);exact⟨typeIs_str s z t,fun _ e=>nomatch e⟩
 | int i=>obtain⟨t,rfl⟩:=r;cases(show T="int" from g);exact⟨typeIs_int s i t,fun _ e=>nomatch e⟩
 | ref p=>
  cases r;rcases g with⟨rfl,u,l⟩ | ⟨rfl,o,d,m,hd⟩ | ⟨rfl,d⟩ | ⟨rfl,S,n,d⟩
  ·obtain⟨q,_,pl,_⟩:=I.list l;refine⟨pl.isList.typeIs,fun a e=>?_⟩;cases e;obtain⟨o,n,e,c,hd,_⟩:=pl;exact⟨o,e,hd⟩
  ·refine⟨⟨o,I.kIn p o d,m⟩,fun a e=>?_⟩;cases e;exact⟨o,I.kIn _ o d,hd⟩
  ·have z:∃o,s.heap.get? p=some o/\o.ExactDict:=by
    rcases d with⟨h,d⟩ | ⟨h,d⟩
    ·obtain⟨_,_,_,_,o,_,_,e,ex,_⟩:=I.hok p _ d;exact⟨o,e,ex⟩
    ·obtain⟨_,_,_,_,o,_,_,e,ex,_⟩:=I.hok p _ d;exact⟨o,e,ex⟩
   obtain⟨o,e,ex⟩:=z;refine⟨⟨o,e,ex.1⟩,fun a j=>?_⟩;cases j;exact⟨o,e,ex.2.1⟩
  ·obtain⟨o,_,_,_,e,ex,_⟩:=I.hok p _ d;refine⟨⟨o,e,ex.1⟩,fun a j=>?_⟩;cases j;exact⟨o,e,ex.2.1⟩
 | _=>exact False.elim g
noncomputable def Hn(K:Frag)(T:String)(r:V->List V->Hp->VK->Prop)(f:TE)(t:TA):TE:=fun Y H Q=>f Y H fun x c=>zf K T x c/\t Y c fun d e=>r x d e Q
variable{o e:Expr}{es:List Expr}{to:TE}{t:TA}{name:Str}{apos cpos:Pos}{T id:String}{r:V->List V->Hp->VK->Prop}
theorem qe(E:PlainAttrs T)(slot:Slot T name id)(j:typeOf (.builtin id)=pure (.type "method_descriptor"))(m:qa X id r)(G:PE X o to)(n:PA X (e::es) t)
  (f:attributeBase o name X.env (eval o X.env)=eval o X.env:=by rfl)
  (i:((backTo cpos (starEach (e::es) X.env)).all (fun x=>!x.1)&&(backToKw cpos (keywordEach [] X.env)).all (fun x=>x.1.isSome)
   && decide ((e::es).length+([]:List Keyword).length+(if ([]:List Keyword).isEmpty then 0 else 1)<30))=true:=by rfl)
  (g:(apos.endLine==cpos.line)=true:=by rfl) (J:starEach (e::es) X.env=(false,eval e X.env)::starEach es X.env:=by rfl) (d:(backTo cpos (starEach es X.env)).any (·.1)=false:=by rfl) :
  PE X (.Call (.Attribute o name apos) (e::es) [] cpos) (Hn X.K T r to t):=by
 intro c s Y H Q I h;refine wpAny_Call_method_late f i g rfl (aT (G c s Y H _ I h) fun v p ⟨x,q,I1,k,ty,u⟩=>?_);obtain⟨L,h2⟩:=Hm I1 k ty;refine⟨T,id,E,slot,j,L,h2,?_⟩;have l:=n cpos c p Y q _ I1 u;rw[J] at l ⊢;refine Calls.callWith_builtin (by show(false||(backTo cpos (starEach es X.env)).any (·.1))=false;rw[d]<;>rfl) (Calls.evalArgs_plain ?_);exact aT l fun w y ⟨z,A,B,C,D⟩=>m c y Y A x z v w Q B k C D
end
def zg(X:Cx)(id:String)(r:V->List V->Hp->VK->Prop):Prop:=
 ∀(a:List (Addr×Obj)) (s:Shared) (Y:St) (H:Hp) (x:V) (b:List V) (v:Value) (c:List Value) (Q:VK),Inv X a Y H s->bd x v->be b c->r x b H Q->
  wpAny (model X.prog X.w) X.A (call (.builtin id) (v::c)) (EP X a Y Q) X.xe s
theorem be.one:∀{x:V}{a:List Value},be [x] a->∃u,a=[u]/\bd x u
 | _,_,.cons r .nil=>⟨_,rfl,r⟩
theorem be.rep{a:List V}{b:List Value}(h:be a b):∀k:Nat,be (List.replicate k a).flatten (List.replicate k b).flatten
 | 0=>.nil
 | k+1=>by rw[List.replicate_succ,List.replicate_succ,List.flatten_cons,List.flatten_cons];exact be.append h (be.rep h k)
theorem zh(a:List Value):∀(k:Nat) (b:List Value),
  List.foldl (fun c d=>c++d) b.toArray (List.replicate k a.toArray)=(b++(List.replicate k a).flatten).toArray
 | 0,b=>by simp
 | k+1,b=>by
  have e:b.toArray++a.toArray=(b++a).toArray:=by simp
  have f:(b++a)++(List.replicate k a).flatten=b++(List.replicate (k+1) a).flatten:=by rw[List.replicate_succ,List.flatten_cons,List.append_assoc]
  rw[<-f,<-zh a k (b++a),<-e,List.replicate_succ,List.foldl_cons]
section
variable{X:Cx}{pins:List (Addr×Obj)}{Y:St}{H:Hp}{s:Shared}{l b:Addr}{xs ys zs:List V}
theorem Inv.lset{a its':List Value}{n:Nat}{f:Array Value->Array Value}{t':Nat}(I:Inv X pins Y H s)(c:H l=some (.lst xs))
  (e:s.heap.get? l=some { cls:=.type "list",data:=.seq a.toArray n }) (d:f a.toArray=its'.toArray) (i:be ys its') (g:ys.length<=sizeLine) :
  Inv X pins Y (aN H l (.lst ys)) { s with heap:=s.heap.update l (Obj.mapSeq f),toks:=t' }:=by
 have q:=PySem.IsL.update e f;rw[d] at q;refine I.write (x:=l) (e:=l) (by rw[c];exact trivial) (.inl rfl) (fun k u j h=>(Heap.get?_update_other s.heap (Obj.mapSeq f) (Ne.symm j)).trans h) ⟨_,q⟩ ?_;exact⟨g,its',_,i,q⟩
theorem Inv.lnew{a:List Value}{t':Nat}(I:Inv X pins Y H s)(d:be ys a)(c:ys.length<=sizeLine) :
  Inv X pins Y (aN H s.heap.objs.size (.lst ys)) { s with heap:=s.heap.push { cls:=.type "list",data:=.seq a.toArray },toks:=t' }:=
 I.laid (fun _ _ q=>bA _ q) (bH _) ⟨c,a,0,d,Heap.get?_push_size _ rfl⟩
theorem Inv.fresh(I:Inv X pins Y H s):H s.heap.objs.size=none:=I.hok.fresh (bH _)
theorem Inv.lstM(I:Inv X pins Y H s)(c:H l=some (.lst xs)):xs.length<=sizeLine/\∃(a:List Value) (n:Nat),be xs a/\xs.length=a.length/\s.heap.get? l=some { cls:=.type "list",data:=.seq a.toArray n }:=by obtain⟨z,a,n,r,e⟩:=I.hok l _ c;exact⟨z,a,n,r,r.length,e⟩
theorem zi{n:Nat}(h:n<=sizeLine):Builtin.List.listTooLong n=false:=by unfold Builtin.List.listTooLong;exact decide_eq_false (by omega)
end
section
variable{X:Cx}
noncomputable def Ho:V->List V->Hp->VK->Prop:=fun x b H Q=>∃l a y,x=.ref l/\b=[y]/\H l=some (.lst a)/\a.length<sizeLine/\Q .non (aN H l (.lst (a++[y])))
theorem zj:zg X "list.append" Ho:=by intro b s Y H x g v i Q I d f h;obtain⟨l,j,y,rfl,rfl,c,k,q⟩:=h;cases d;obtain⟨u,rfl,ru⟩:=f.one;obtain⟨z,a,n,r,m,e⟩:=I.lstM c;refine call_meets F.slot_list_append ⟨_,e,rfl⟩ F.entry_list_append (F.args_list_append_2 _ _) (PySem.list_append l a.toArray n u (by rw[List.size_toArray];omega)) ⟨e,?_⟩;refine⟨.non,_,I.lset (its':=a++[u]) c e (by simp) (r.append (.cons ru .nil)) ?_,rfl,q⟩;rw[List.length_append,List.length_singleton];omega
noncomputable def Hq:V->List V->Hp->VK->Prop:=fun x d H Q=>∃l b a c,x=.ref l/\d=[.ref b]/\H l=some (.lst a)/\H b=some (.lst c)/\a.length+c.length<=sizeLine/\Q .non (aN H l (.lst (a++c)))
theorem Hr:zg X "list.extend" Hq:=by
 intro g s Y H x w v y Q I j k h;obtain⟨l,b,A,B,rfl,rfl,i,hB,C,q⟩:=h;cases j;obtain⟨u,rfl,ru⟩:=k.one;cases ru;obtain⟨z,c,n,r,D,e⟩:=I.lstM i;obtain⟨E,a,m,o,p,t⟩:=I.lstM hB;have f:c.toArray.size+a.toArray.size<=sizeLine:=by rw[List.size_toArray,List.size_toArray];omega
 have d:¬ (!c.toArray.isEmpty&&Builtin.List.listTooLong (c.toArray.size+a.toArray.size))=true:=by rw[zi f,Bool.and_false];exact Bool.false_ne_true
 refine call_meets F.slot_list_extend ⟨_,e,rfl⟩ F.entry_list_extend (F.args_list_extend_2 _ _)
  (AutoSeq1.list_extend_list_list_0 l c.toArray n b a.toArray m d (by rw[List.size_toArray];omega) (by omega)) ⟨e,t,?_⟩
 refine⟨.non,_,I.lset (its':=c++a) i e (by simp) (r.append o) ?_,rfl,q⟩;rw[List.length_append];omega
noncomputable def zk:R2:=fun x y H Q=>∃l b a c,x=.ref l/\y=.ref b/\H l=some (.lst a)/\H b=some (.lst c)/\a.length+c.length<=sizeLine/\∀p,H p=none->Q (.ref p) (aN H p (.lst (a++c)))
theorem Hs:cH X (binaryOp .Add) zk:=by
 intro d s Y H x y v u Q I f g h;obtain⟨l,b,p,t,rfl,rfl,i,hB,w,q⟩:=h;cases f;cases g;obtain⟨z,c,n,r,A,e⟩:=I.lstM i;obtain⟨B,a,C,j,k,m⟩:=I.lstM hB;refine PySem.P.add_list e m ?_ (by rw[List.size_toArray,List.size_toArray];omega);have o:c.toArray++a.toArray=(c++a).toArray:=by simp
 rw[o];exact⟨.ref _,_,I.lnew (t':=s.toks) (r.append j) (by rw[List.length_append];omega),rfl,q _ I.fresh⟩
noncomputable def zl:R2:=fun x y H Q=>∃l k a,x=.ref l/\y=.int k/\H l=some (.lst a)/\-(2 ^ 63)<=k/\k<2 ^ 63/\a.length * k.toNat<=sizeLine/\
 ∀p,H p=none->Q (.ref p) (aN H p (.lst (List.replicate k.toNat a).flatten))
theorem Ht{α:Type}(a:List α)(k:Nat):(List.replicate k a).flatten.length=k * a.length:=by
 induction k with
 | zero=>simp
 | succ k b=>rw[List.replicate_succ,List.flatten_cons,List.length_append,b,Nat.succ_mul,Nat.add_comm]
theorem zm:cH X (binaryOp .Mult) zl:=by
 intro p s Y H x y v u Q I A B h;obtain⟨l,k,J,rfl,rfl,C,h1,h2,w,q⟩:=h;cases A;obtain⟨t,rfl⟩:=B;obtain⟨z,b,n,r,D,e⟩:=I.lstM C;have d:b.toArray.size * k.toNat<=sizeLine:=by rw[List.size_toArray,<-D];exact w
 have f:¬ b.toArray.size * k.toNat>(2 ^ 63 - 1) / 8:=by
  have:(sizeLine:Nat)<=(2 ^ 63 - 1) / 8:=by decide
  omega
 have g:¬ (!Builtin.List.listFitsIndex k)=true:=by rw[fitsIndex_both h1 h2];exact Bool.false_ne_true
 have c:¬ Builtin.List.listTooLong (b.toArray.size * k.toNat)=true:=by rw[zi d];exact Bool.false_ne_true
 have i:List.foldl (fun j o=>j++o) #[] (List.replicate (if b.toArray.isEmpty=true then 0 else k.toNat) b.toArray)=(List.replicate k.toNat b).flatten.toArray:=by
  have E:∀m:Nat,List.foldl (fun j o=>j++o) #[] (List.replicate m b.toArray)=(List.replicate m b).flatten.toArray:=fun m=>by have:=zh b m [];rw[List.nil_append] at this;exact this
  rw[E];cases b with
  | nil=>simp
  | cons a L=>rw[if_neg (by simp)]
 refine wpAny_binaryOp_repeat_ref (T:="list") (U:="int") (by decide) ⟨_,e,rfl⟩ (fun G=>typeIs_int G k t) noFill_list_mul F.fills_int_mul F.slot_int_rmul repeat_list F.slot_int_index.lookup
  (call_meets F.slot_int_rmul (typeIs_int s k t) F.entry_int_rmul (F.args_int_rmul_2 _ _) (int___rmul___int_list k t l b.toArray n)
   ⟨e,rfl,⟨_,e,rfl⟩,call_meets F.slot_list_mul ⟨_,e,rfl⟩ F.entry_list_mul (F.args_list_mul_2 _ _) (AutoListH.list___mul___list_int_3 l b.toArray n k t g f c) ⟨e,?_⟩⟩)
 rw[i];exact⟨.ref _,_,I.lnew (t':=s.toks) (r.rep k.toNat) (by rw[Ht,Nat.mul_comm];exact w),rfl,q _ I.fresh⟩
end
end L2
namespace Att
open PySem PySem.W PySem.Calls PyProof.Rows
theorem Hu{P:Params}{h:Heap}:∀(c:List Int) (d:List Value),WellAll P h d (c.map WData.int)->IntsAre d c:=by
 intro c
 induction c with
 | nil=>intro d w;rw[List.map_nil] at w;cases w;exact .nil
 | cons n c e=>
  intro d w;rw[List.map_cons] at w;cases w with
  | cons a b=>cases a;exact .cons _ _ (e _ b)
theorem Hv{l:OpenLaw}{n:Nat}(s:l.most=some n){P:Params}{h:Heap}{args:List WData}{c:List Value}
  (e:l.row.toRowW.claim.pre args=true) (k:WellAll P h c args) :
  ∃a o b,c=[Value.ref a]/\args=[WData.list (b.map WData.int)]/\h.get? a=some { cls:=.type "list",data:=.seq o.toArray }/\IntsAre o b/\b.length<=n:=by
 have m:WShape.hasAll [] args [.list .int]=true:=(pre_splitW e).1;have p:l.pre.holds [] { args:=args }=true:=(pre_splitW e).2;obtain⟨d,r,rfl,h1,h2⟩:=hasAllW_cons m;obtain rfl:=hasAllW_nil h2;obtain⟨u,rfl,h3⟩:=hasW_list h1;obtain⟨b,rfl⟩:=items_int h3;have f:b.length<=n:=by
  unfold OpenLaw.pre at p;have i:(WTm.not (.lt (.lit (.int (n:Int))) (.len (.arg 0)))).holds [] { args:=[.list (b.map .int)] }=true:=by have i:=(holds_andW p).1;rw[s] at i;exact i
  have j:=condW_of i (w_not (w_lt w_lit (w_len_list (w_arg rfl))));rw[List.length_map] at j;refine Nat.le_of_not_lt fun q=>?_;have t:(n:Int)<((b.length:Nat):Int):=by omega
  first
   | (rw[decide_eq_true t] at j;exact absurd j (by decide))
   | (simp at j;omega)
 cases k with
 | cons w1 w2=>
  cases w2;cases w1 with
  | list ho g=>exact⟨_,_,b,rfl,rfl,ho,Hu b _ g,f⟩
theorem Hw(l:OpenLaw)(args:List WData):l.row.toRowW.claim.post args (.bool true) args=true:=
 postW_of (r:=l.row.toRowW) (X:=(true==true))
  (show WShape.has [] (.bool true) .bool=true by first | rfl | decide | simp[WShape.has,WShape.arms,WShape.armsAll])
  (show(WTm.eq .res (.lit (.bool true))).value [] { args:=args,res:=some (.bool true),after:=args }=some (.bool (true==true)) from w_eq_bool (w_res rfl) w_lit) rfl
theorem attach_call{l:OpenLaw}{n:Nat}{q:Program}{b:List Str}{C:(Str->Option Value)->Heap->Prop}{D:World->Heap->Prop}{d:DefRec}
  (J:l.most=some n) (v:d.params.defaults=[])
  (call:∀(w:World) (B c:Shared) (t x:Str->Option Value) (i:Addr) (o:Obj) (pm p e:Value) (a:Addr) (h:List Value) (u:List Int),
   Ground q b [] C w B t x c.heap->D w c.heap->
   c.heap.get? i=some o->o.data=.func (docDef d.name d.params d.body d.scope pm p e)->c.heap.CodeRec p d.name->t d.name=some (.ref i)->
   c.heap.get? a=some { cls:=.type "list",data:=.seq h.toArray }->IntsAre h u->u.length<=n->c.gens = #[]->
   codeAny (model l.prog w) callerA (.call (.ref i) ⟨[.ref a],[]⟩) (fun r s=>r=.ok (.ret (.bool true))/\OldK c.heap s.heap/\s.os=c.os/\AllBare s.gens) c) :
  WalkO q b C D l.row.toRowW d [] (fun f h=>PySem.call f h):=by
 intro w B c t x G L i o pm p e dV kV Y hd y E z M args H as j I N A O;obtain rfl:dV=.none:=Dflts.none E v;obtain rfl:kV=.none:=Dflts.noKw E;obtain⟨a,h,u,rfl,rfl,k,g,m⟩:=Hv J j A;refine enter_call (codeAny_mono (call w B c t x i o pm p e a h u G L Y (fd_plain hd) y z k g m M) fun r s Q=>?_);obtain⟨rfl,h2,h3,T⟩:=Q;exact⟨.inl ⟨.bool true,.bool true,[],rfl,fun _=>rfl,.bool true,Hw l _,fun _=>⟨List.Pairwise.nil,fun _ U=>(nomatch U)⟩⟩,h2,h3,T⟩
end Att
namespace L2
open PySem PySem.Spec PyProof.Rows
theorem zn:∀{a:List Value}{b:List Int},IntsAre a b->be (b.map V.int) a
 | _,_,.nil=>.nil
 | _,_,.cons n t h=>.cons ⟨t,rfl⟩ (zn h)
def uC(H:Hp):Prop:=∀b,H b=none\/∃o a,H b=some (.frz o (.lst a))
theorem Hx{P:Program}{w:World}{K:Frag}{G M:Str->Option Value}{U:fJ}{k:Nat}{N a:Addr}{fd:FuncData}{x:Str}{X:Sp}{c:Shared}{l:List Value}{I:List Int}
  (Y:K.In c.heap) (t:c.heap.Ns mainGlobals G) (g:c.heap.Ns builtinsNs M) (O:∀x:Str,x≠"__name__"->M x=bootBuiltins x) (y:c.heap.NoLimit) (hg:c.gens = #[])
  (L:c.heap.get? a=some { cls:=.type "list",data:=.seq l.toArray }) (Z:IntsAre l I) (hl:I.length<=sizeLine) (hr:bx k callerA)
  (F:∀base:Heap,K.In base->base.Ns mainGlobals G->aA P w K G base U k N fd [x] X) (p:∀(s:Shared) (u:Value),BindsTo s fd ⟨[u],[]⟩ [(x,u)])
  (hsp:∀H:Hp,uC H->cN K H a (I.map V.int)->X [.ref a] H (fun v _=>v=.bl true) fun _ _ _=>False)
  (Q:∀H e i,U [] H c (fun _ _ _=>False) e i->False) :
  codeAny (model P w) callerA (.call (.ref N) ⟨[.ref a],[]⟩) (fun r i=>r=.ok (.ret (.bool true))/\OldK c.heap i.heap/\i.os=c.os/\AllBare i.gens) c:=by
 have rv:=zn Z;have A:=Z.length;have core:∀H:Hp,uC H->cN K H a (I.map V.int)->bJ P w H c.heap->(∀b,H b≠none->b=a)->(H a≠none->K.lookup a=none)->
   codeAny (model P w) callerA (.call (.ref N) ⟨[.ref a],[]⟩) (fun r i=>r=.ok (.ret (.bool true))/\OldK c.heap i.heap/\i.os=c.os/\AllBare i.gens) c:=by
  intro H hO hS J hA hK;have f:∀{b:Addr}{o:Obj},c.heap.get? b=some o->H b=none->(jf c.heap H).get? b=some o:=fun e n=>ED e n;have R:∀{b:Addr}{o:Obj}{B:Array DictEntry}{C:Nat},c.heap.get? b=some o->o.data=.dict B C->H b=none:=fun {b o B C} e d=>by
   cases q:H b with
   | none=>rfl
   | some u=>have S:b=a:=hA b (by rw[q];simp);subst S;rw[L] at e;cases e;have d':Data.seq l.toArray _=Data.dict B C:=d;cases d'
  have j:∀{b:Addr}{m:Str->Option Value},c.heap.Ns b m->(jf c.heap H).Ns b m:=fun {b m} ⟨o,B,C,e,d,r⟩=>⟨o,B,C,f e (R e d),d,r⟩
  have D:K.In (jf c.heap H):=fun b o e=>f (Y b o e) (by
   cases q:H b with
   | none=>rfl
   | some u=>
    have S:b=a:=hA b (by rw[q];simp);subst S;rw[hK (by rw[q];simp)] at e;cases e)
  have hM:Mod K G (jf c.heap H):=⟨D,j t,⟨M,j g,O⟩,let⟨mc,h1,h2⟩:=y;⟨mc,j h1,h2⟩⟩
  have e0:dX P w K G (jf c.heap H) callerA [] c H:=⟨rfl,hM,fun b o e=>EE e,Nat.le_of_eq (EB _ _),trivial,fun b g=>absurd (show b∈([]:List Addr) from g) (by simp),J,.of_eq hg⟩
  refine codeAny_mono ((F _ D (j t)).run callerA [] c H ⟨[.ref a],[]⟩ [.ref a] [.ref a] _ _ hr e0 (p c (.ref a)) (.cons rfl .nil) (hsp H hO hS)) fun r i h=>?_;cases r with
  | error e=>exact(Q H e i h).elim
  | ok fl=>
   cases fl with
   | next=>exact False.elim h
   | brk=>exact False.elim h
   | cont=>exact False.elim h
   | ret u=>
    obtain⟨v,H',os,bare,un,E,r',q⟩:=h;have q':v=.bl true:=q;subst q';obtain rfl:u=Value.bool true:=r';refine⟨rfl,OldK.of_keep fun b o e=>?_,os,bare⟩;cases q:H b with
    | none=>exact un.keep b o e q (by intro z;exact absurd (show b∈([]:List Addr) from z) (by simp)) (by simp)
    | some u=>
     rcases hO b with z | ⟨ob,xs,z⟩
     ·rw[q] at z;cases z
     ·have z2:=un.frzs b ob _ z;obtain⟨e1,_⟩:=J b _ z;obtain⟨e2,_⟩:=E b _ z2;rw[e] at e1;cases e1;exact e2
 cases T:K.lookup a with
 | some o=>have e:=Y a o T;rw[L] at e;cases e;refine core (fun _=>none) (fun _=>.inl rfl) (.inr ⟨_,l.toArray,_,T,rfl,rfl,rfl,by rw[List.size_toArray,A];exact hl,by simpa using rv⟩) (fun b u z=>by have z':(none:Option HO)=some u:=z;cases z') (fun b z=>absurd rfl z) fun z=>absurd rfl z
 | none=>
  refine core (fun b=>if b=a then some (.frz { cls:=.type "list",data:=.seq l.toArray } (.lst (I.map V.int))) else none) (fun b=>?_) (.inl (.inr ⟨{ cls:=.type "list",data:=.seq l.toArray },if_pos rfl⟩)) (fun b u z=>?_) (fun b z=>?_) fun _=>T
  ·by_cases g:b=a
   ·exact .inr ⟨_,_,if_pos g⟩
   ·exact .inl (if_neg g)
  ·by_cases g:b=a
   ·have z':=(if_pos g).symm.trans z;cases z';subst g;exact⟨L,by rw[List.length_map];exact hl,l,_,rv,L⟩
   ·have z':=(if_neg g).symm.trans z;cases z'
  ·by_cases g:b=a
   ·exact g
   ·exact absurd (if_neg g) z
theorem walk_of{l:PySem.W.OpenLaw}{n k:Nat}{q:Program}{i:List Str}{J:(Str->Option Value)->Heap->Prop}{D:World->Heap->Prop}{d:DefRec}{K:Params->Frag}{CX:World->fJ}{sp:World->Sp}{x:Str}
  (L:l.most=some n) (y:n<=sizeLine) (z:d.params.defaults=[]) (M:bx k callerA)
  (N:∀(w:World) (h:Heap),D w h->(K w.params).In h)
  (F:∀(w:World) (m:Str->Option Value) (r:Addr) (h:Heap),(K w.params).In h->h.Ns mainGlobals m->m d.name=some (.ref r)->
   ∃fd:FuncData,(∀(s:Shared) (u:Value),BindsTo s fd ⟨[u],[]⟩ [(x,u)])/\
    ∀base:Heap,(K w.params).In base->base.Ns mainGlobals m->aA l.prog w (K w.params) m base (CX w) k r fd [x] (sp w))
  (hsp:∀(w:World) (H:Hp) (a:Addr) (t:List Int),t.length<=n->uC H->cN (K w.params) H a (t.map V.int)->sp w [.ref a] H (fun v _=>v=.bl true) fun _ _ _=>False)
  (A:∀(w:World) (H:Hp) (s:Shared) (e:Value) (B:Shared),CX w [] H s (fun _ _ _=>False) e B->False) :
  PySem.W.WalkO q i J D l.row.toRowW d [] (fun f E=>PySem.call f E):=by
 refine Att.attach_call L z fun w s₀ O m mb r o pm cd Q a E t G R ho hd S C p j c U=>?_;have I:=N w _ R;obtain⟨fd,hb,X⟩:=F w m r _ I G.T.g C;exact Hx I G.T.g G.T.b G.T.builtins G.T.nolimit U p j (Nat.le_trans c y) M X hb (fun H Y Z=>hsp w H a t c Y Z) fun H e B=>A w H O e B
noncomputable def fL(s:Stmt)(j:Nat):Stmt:=match s with
 | .ClassDef _ _ _ body _ _ _ _ _ _ _=>body.getD j (.Pass ⟨0,0,0,0⟩)
 | _=>.Pass ⟨0,0,0,0⟩
noncomputable def jj(s:Stmt):Arguments:=match s with
 | .FunctionDef _ a _ _ _ _ _ _ _ _=>a
 | _=>{ posonlyargs:=[],args:=[],vararg:=none,kwonlyargs:=[],kw_defaults:=[],kwarg:=none,defaults:=[] }
noncomputable def ij(s:Stmt):List Stmt:=match s with
 | .FunctionDef _ _ b _ _ _ _ _ _ _=>b
 | _=>[]
noncomputable def bh(s:Stmt):Scope:=match s with
 | .FunctionDef _ _ _ _ _ _ a _ _ _=>a
 | _=>{ kind:=.function,names:=[],isGenerator:=false,isCoroutine:=false }
structure kU (K:Frag) (x qual:Str) (st:Stmt) (f:Addr) (fd:FuncData):Prop where
 ex:∃(oc:Value) (od:Option Addr) (kV doc pm:Value) (an:Option Addr) (cdv ct:Value) (osl:Array (Option Value)),
  fd=fnOf x qual (jj st) (ij st) (bh st) .none kV doc pm an cdv ct/\K.lookup f=some ⟨oc,od,.func fd,osl⟩/\codeIn K cdv qual=true
 kp:keepIn K (.ref f)=true
section
variable{P:Program}{w:World}{K:Frag}{mg:Str->Option Value}{base:Heap}
theorem kU.binds{x a:Str}{st:Stmt}{f:Addr}{fd:FuncData}{d:List Str}(F:kU K x a st f fd)
  (h:∀(kV b pm:Value) (e:Option Addr) (c i:Value) (g:List Value),g.length=d.length->bindArgs (fnOf x a (jj st) (ij st) (bh st) .none kV b pm e c i) ⟨g,[]⟩=pure (d.zip g)):gP K fd d []:=by
 obtain⟨l,m,kV,b,pm,e,c,i,j,rfl,lk,k⟩:=F.ex;exact .all (h kV b pm e c i)
theorem nL{x a:Str}{st:Stmt}{f:Addr}{i:Value}{j g:Option Addr}{e:Array (Option Value)}{kV d pm b h:Value}(l:K.lookup f=some ⟨i,j,.func (fnOf x a (jj st) (ij st) (bh st) .none kV d pm g b h),e⟩)
  (c:codeIn K b a=true) (k:keepIn K (.ref f)=true):kU K x a st f (fnOf x a (jj st) (ij st) (bh st) .none kV d pm g b h):=⟨⟨i,j,kV,d,pm,g,b,h,e,rfl,l,c⟩,k⟩
end
theorem gQ{A:Around}{k:Nat}(a:bx k A):A.units+1<cLine:=Nat.lt_of_le_of_lt (Nat.add_le_add_left (by decide:1<=64) _) a.units
section
variable{X:Cx}
theorem pv(i:Nat){x:Str}{pos:Pos}(b:X.N[i]? = some x:=by rfl)(c:pR X.env.scope x:=by first | exact Or.inl rfl | exact Or.inr (Or.inl rfl) | exact Or.inr (Or.inr rfl))(hd:(x==("__debug__":Str))=false:=by decide)
  (a:(x==("__classdict__":Str))=false:=by decide):PE X (.Name x pos) (bU i):=EG b c hd a
end
theorem fi{A B:Prop}(h:B):if false=true then A else B:=by rw[if_neg Bool.false_ne_true];exact h
theorem fj{A B:Prop}(h:A):if true=true then A else B:=by rw[if_pos rfl];exact h
def bR(H a:Hp):Prop:=∀b o,H b=some o->a b=some o
theorem bR.refl(H:Hp):bR H H:=fun _ _ h=>h
theorem bR.seq{K:Frag}{H b:Hp}{a:Addr}{c:List V}(e:bR H b)(h:cN K H a c):cN K b a c:=by
 rcases h with(h | ⟨o,h⟩) | h
 ·exact .inl (.inl (e _ _ h))
 ·exact .inl (.inr ⟨o,e _ _ h⟩)
 ·exact .inr h
end L2
set_option maxHeartbeats 4000000
namespace L2
open PySem PySem.Spec PyProof.Rows
section
variable{κ:Type}[DecidableEq κ]
noncomputable def eS(a:List (κ×V))(k:κ):Option V:=(a.find? fun b=>decide (b.1=k)).map (·.2)
noncomputable def dN(a:List (κ×V))(k:κ)(v:V):List (κ×V):=
 if (a.any fun b=>decide (b.1=k))=true then a.map (fun b=>if b.1=k then(b.1,v) else b) else a++[(k,v)]
theorem nM{p:κ×V}{r:List (κ×V)}{k:κ}(e:p.1=k):eS (p::r) k=some p.2:=by simp[eS,List.find?_cons,e]
theorem nN{p:κ×V}{r:List (κ×V)}{k:κ}(e:¬ p.1=k):eS (p::r) k=eS r k:=by simp[eS,List.find?_cons,e]
theorem qf(k:κ):∀a:List (κ×V),(a.any fun b=>decide (b.1=k))=(eS a k).isSome
 | []=>rfl
 | p::r=>by
  rw[List.any_cons]
  by_cases e:p.1=k
  ·simp only[nM e,decide_eq_true e,Bool.true_or,Option.isSome_some]
  ·rw[nN e,decide_eq_false e,Bool.false_or];exact qf k r
theorem uD(a:List (κ×V))(k:κ)(v:V):(dN a k v).length<=a.length+1:=by
 unfold dN;split
 ·rw[List.length_map];omega
 ·rw[List.length_append,List.length_cons,List.length_nil];omega
theorem zo{a:List (κ×V)}{k:κ}(v:V)(h:eS a k=none):dN a k v=a++[(k,v)]:=by unfold dN;rw[qf,h];exact if_neg (by decide)
theorem fh.isSome_eq{o:Option V}{u:Option Value}(r:fh o u):o.isSome=u.isSome:=by
 cases o with
 | none=>cases u with
  | none=>rfl
  | some _=>exact(show False from r).elim
 | some _=>cases u with
  | none=>exact(show False from r).elim
  | some _=>rfl
theorem KV.val{a:List (κ×V)}{f:List (κ×Value)}(r:KV a f)(k:κ):fh (eS a k) (valueAt f k):=by
 unfold KV at r
 induction r with
 | nil=>exact True.intro
 | @cons p q j c h t i=>
  obtain⟨g,h2⟩:=h
  by_cases e:p.1=k
  ·have d:q.1=k:=g.symm.trans e;have b:valueAt (q::c) k=some q.2:=by simp[valueAt,List.find?_cons,d]
   rw[nM e,b];exact h2
  ·have d:¬ q.1=k:=fun z=>e (g.trans z);have b:valueAt (q::c) k=valueAt c k:=by simp[valueAt,List.find?_cons,d]
   rw[nN e,b];exact i
theorem KV.any{a:List (κ×V)}{c:List (κ×Value)}(r:KV a c)(k:κ):(a.any fun b=>decide (b.1=k))=c.any fun b=>decide (b.1=k):=by
 unfold KV at r
 induction r with
 | nil=>rfl
 | cons h t d=>rw[List.any_cons,List.any_cons,d,h.1]
theorem KV.repl{b:List (κ×V)}{d:List (κ×Value)}(r:KV b d)(k:κ){y:V}{u:Value}(f:bd y u) :
  KV (b.map fun a=>if a.1=k then(a.1,y) else a) (d.map fun a=>if a.1=k then(a.1,u) else a):=by
 unfold KV at r ⊢
 induction r with
 | nil=>exact .nil
 | @cons p q i j h t g=>
  rw[List.map_cons,List.map_cons];refine .cons ?_ g;obtain⟨c,h2⟩:=h
  by_cases e:p.1=k
  ·rw[if_pos e,if_pos (c.symm.trans e)];exact⟨c,f⟩
  ·rw[if_neg e,if_neg (fun z=>e (c.trans z))];exact⟨c,h2⟩
theorem KV.put{a:List (κ×V)}{b:List (κ×Value)}(r:KV a b)(k:κ){y:V}{u:Value}(c:bd y u):KV (dN a k y) (stored b k u):=by
 unfold dN stored;rw[r.any k]
 by_cases e:(b.any fun d=>decide (d.1=k))=true
 ·rw[if_pos e,if_pos e];exact r.repl k c
 ·rw[if_neg e,if_neg e];exact Paired.snoc r ⟨rfl,c⟩
theorem KV.length{a:List (κ×V)}{b:List (κ×Value)}(r:KV a b):a.length=b.length:=Paired.length r
end
theorem qg{P:Program}{w:World}{k:aR}{u:Value}(r:bd (kV k) u):(eN P w).is k u=true:=by
 cases k with
 | inl i=>obtain⟨t,e⟩:=(show ∃t,u=Value.int i t from r);subst e;exact Ey P w i t
 | inr x=>obtain⟨t,e⟩:=(show ∃t,u=Value.str x t from r);subst e;exact Ez P w x t
theorem zp{P:Program}{w:World}:∀{a:List aR}{b:List Value},be (a.map kV) b->ItemsAre (eN P w) a b
 | [],_,r=>by rw[List.map_nil] at r;cases r;exact .nil
 | k::a,_,r=>by
  rw[List.map_cons] at r;cases r with
  | cons h t=>exact .cons (qg h) (zp t)
noncomputable abbrev KT(H:Hp):List (List aR×V)->List (List aR×Addr×Value)->Prop:=Paired fun p q=>p.1=q.1/\H q.2.1=some (.tup (p.1.map kV))/\bd p.2 q.2.2
theorem KT.val{H:Hp}{a:List (List aR×V)}{f:List (List aR×Addr×Value)}(r:KT H a f)(k:List aR):fh (eS a k) ((atKey f k).map (·.2)):=by
 induction r with
 | nil=>exact True.intro
 | @cons p q j c h t i=>
  obtain⟨g,_,h2⟩:=h
  by_cases e:p.1=k
  ·have d:q.1=k:=g.symm.trans e;have b:atKey (q::c) k=some q.2:=by simp[atKey,List.find?_cons,d]
   rw[nM e,b];exact h2
  ·have d:¬ q.1=k:=fun z=>e (g.trans z);have b:atKey (q::c) k=atKey c k:=by simp[atKey,List.find?_cons,d]
   rw[nN e,b];exact i
theorem KT.repl{H:Hp}{a:List (List aR×V)}{d:List (List aR×Addr×Value)}(r:KT H a d)(k:List aR){y:V}{u:Value}(f:bd y u) :
  KT H (a.map fun c=>if c.1=k then(c.1,y) else c) (d.map (putAt k u)):=by
 induction r with
 | nil=>exact .nil
 | @cons p q i j h t g=>
  rw[List.map_cons,List.map_cons];refine .cons ?_ g;obtain⟨b,h2,h3⟩:=h;unfold putAt
  by_cases e:p.1=k
  ·rw[if_pos e,if_pos (b.symm.trans e)];exact⟨b,h2,f⟩
  ·rw[if_neg e,if_neg (fun z=>e (b.trans z))];exact⟨b,h2,h3⟩
theorem KT.put{H:Hp}{a:List (List aR×V)}{c:List (List aR×Addr×Value)}(r:KT H a c)(k:List aR){b:Addr}{y:V}{u:Value}(g:H b=some (.tup (k.map kV)))(d:bd y u) :
  KT H (dN a k y) (storedH c k b u):=by
 have e:(a.any fun f=>decide (f.1=k))=(atKey c k).isSome:=by rw[qf,(r.val k).isSome_eq,Option.isSome_map]
 unfold dN storedH;rw[e]
 by_cases q:(atKey c k).isSome=true
 ·rw[if_pos q,if_pos q];exact r.repl k d
 ·rw[if_neg q,if_neg q];exact Paired.snoc r ⟨rfl,g,d⟩
theorem KT.keeps{H c:Hp}{a:List (List aR×V)}{d:List (List aR×Addr×Value)}(r:KT H a d)(f:∀b e,H b=some (.tup e)->c b=some (.tup e)):KT c a d:=
 Paired.mapP r fun _ _ z=>⟨z.1,f _ _ z.2.1,z.2.2⟩
section
variable{P:Program}{w:World}{H:Hp}{h:Heap}{a:Addr}
theorem zq{u:HO}(ok:bJ P w H h)(e:Rd H a u):cD P w H h a u:=e.ok ok
theorem uE{b:List (aR×V)}(ok:bJ P w H h)(e:Rd H a (.dK b)):b.length<=sizeLine/\(a==sysModules)=false/\∃c,KV b c/\h.DictOf (eN P w) a c:=
 show cD P w H h a (.dK b) from zq ok e
theorem Hy{b:List (aR×V)}(ok:bJ P w H h)(e:H a=some (.dK b)):b.length<=sizeLine/\(a==sysModules)=false/\∃c,KV b c/\h.DictOf (eN P w) a c:=uE ok (.inl e)
theorem uF{b:List aR}(ok:bJ P w H h)(e:H a=some (.tup (b.map kV))):(tupleKind (eN P w)).is h b a:=by
 obtain⟨_,c,r,o,h1,h2,n,h3⟩:=(show cD P w H h a (.tup (b.map kV)) from ok a _ e)
 exact⟨o,c.toArray,n,h1,h2,h3,by simpa using zp r⟩
theorem uG{b:List (List aR×V)}(ok:bJ P w H h)(e:Rd H a (.dT b)):b.length<=sizeLine/\(a==sysModules)=false/\
  ∃d,KT H b d/\h.DictOfH (tupleKind (eN P w)) a d:=by
 obtain⟨z,y,d,r,o,g,i,h1,h2,h3,j,k⟩:=(show cD P w H h a (.dT b) from zq ok e)
 refine⟨z,y,d,r,o,g,i,h1,h2,h3,j,fun x c=>?_,k⟩;have all:∀{l:List (List aR×V)}{m:List (List aR×Addr×Value)},KT H l m->∀x∈m,(tupleKind (eN P w)).is h x.1 x.2.1:=by
  intro l m q
  induction q with
  | nil=>intro x c;exact nomatch c
  | @cons p q s u f t n=>
   intro x c;rcases List.mem_cons.mp c with e | c
   ·subst e;exact uF ok (by rw[<-f.1];exact f.2.1)
   ·exact n x c
 exact all r x c
theorem Hz{b:List (List aR×V)}(ok:bJ P w H h)(e:H a=some (.dT b)):b.length<=sizeLine/\(a==sysModules)=false/\
  ∃c,KT H b c/\h.DictOfH (tupleKind (eN P w)) a c:=uG ok (.inl e)
end
def mm(H:Hp)(a:Addr)(y:V)(r:Option V):Prop:=
 (∃c k,Rd H a (.dK c)/\y=kV k/\r=eS c k)\/∃c k b,Rd H a (.dT c)/\y=.ref b/\H b=some (.tup (k.map kV))/\r=eS c k
def jN(H:Hp)(a:Addr)(y v:V)(d:Hp):Prop:=
 (∃c k,H a=some (.dK c)/\y=kV k/\c.length<sizeLine/\d = aN H a (.dK (dN c k v)))\/
 ∃c k b,H a=some (.dT c)/\y=.ref b/\H b=some (.tup (k.map kV))/\c.length<sizeLine/\d = aN H a (.dT (dN c k v))
theorem mm.k{H:Hp}{a:Addr}{b:List (aR×V)}{k:aR}(e:H a=some (.dK b)):mm H a (kV k) (eS b k):=.inl ⟨b,k,.inl e,rfl,rfl⟩
theorem jN.k{H:Hp}{a:Addr}{b:List (aR×V)}{k:aR}{v:V}(e:H a=some (.dK b))(c:b.length<sizeLine):jN H a (kV k) v (aN H a (.dK (dN b k v))):=.inl ⟨b,k,e,rfl,c,rfl⟩
theorem jN.t{H:Hp}{a b:Addr}{c:List (List aR×V)}{k:List aR}{v:V}(e:H a=some (.dT c))(d:H b=some (.tup (k.map kV)))(f:c.length<sizeLine) :
  jN H a (.ref b) v (aN H a (.dT (dN c k v))):=.inr ⟨c,k,b,e,rfl,d,f,rfl⟩
section
variable{X:Cx}{pins:List (Addr×Obj)}{Y:St}{H:Hp}{s:Shared}{a:Addr}{y v:V}{u r:Value}{o:Option V}{A:Around}{E:Value->Shared->Prop}
theorem Inv.big(I:Inv X pins Y H s):sysModules<s.heap.objs.size:=by have h:mainGlobals<s.heap.objs.size:=(I.mod.glob.keeps I.bk).lt;exact Nat.lt_trans (by decide) h
theorem HA{Q:Value->Shared->Prop}(t:A.units+1<cLine)(I:Inv X pins Y H s)(g:mm H a y (some v))(n:bd y u)(h:∀d q,Inv X pins Y H q->bd v d->Q d q) :
  wpAny (model X.prog X.w) A (getItem (.ref a) u) Q E s:=by
 rcases g with⟨f,k,e,i,l⟩ | ⟨f,k,b,e,i,x,l⟩
 ·subst i;obtain⟨z,hd,B,rel,dd⟩:=uE I.hok e;obtain⟨d,j,c⟩:=fh.some_of (v:=v) (o:=valueAt B k) (by rw[l];exact rel.val k);exact wpAny_getItem_of (qg n) dd.mapOf j (h d _ (I.tok _) c)
 ·subst i;cases(show u=Value.ref b from n);obtain⟨z,hd,C,rel,dd⟩:=uG I.hok e;obtain⟨d,j,c⟩:=fh.some_of (v:=v) (o:=(atKey C k).map (·.2)) (by rw[l];exact rel.val k);obtain⟨p,D,m⟩:=Option.map_eq_some_iff.mp j;refine wpAny_getItem_heap (tupleKind_room_in1 t) (uF I.hok x) dd D ?_;rw[m];exact h d _ (I.tok _) c
theorem zr{c:Heap}{t':Nat}{d:HO}(I:Inv X pins Y H s)(f:nE (H a))(h:Heap.SameBut a s.heap c)(g:∃q,c.get? a=some q)(new:cD X.prog X.w (aN H a d) c a d) :
  Inv X pins Y (aN H a d) { s with heap:=c,toks:=t' }:=
 I.write (x:=a) (e:=a) f (.inl rfl) (fun b q i z=>(h.2 b i).trans z) g new
theorem zt{P:Program}{w:World}{e:Hp}{d:Heap}{b:List (aR×V)}{c:List (aR×Value)}(z:b.length<=sizeLine)(hd:(a==sysModules)=false)(rel:KV b c)(f:d.DictOf (eN P w) a c) :
  cD P w e d a (.dK b):=⟨z,hd,c,rel,f⟩
theorem HB{x:Hp}{Q:Unit->Shared->Prop}(M:A.units+1<cLine)(I:Inv X pins Y H s)(g:jN H a y v x)(B:bd y u)(C:bd v r)(h:∀D,Inv X pins Y x D->Q () D) :
  wpAny (model X.prog X.w) A (setItem (.ref a) u r) Q E s:=by
 rcases g with⟨d,k,e,j,l,m⟩ | ⟨d,k,b,e,j,G,l,m⟩
 ·subst j m;obtain⟨z,hd,N,rel,dd⟩:=Hy I.hok e;have n:N.length<=sizeLine:=by rw[<-rel.length];exact z
  have p:(dN d k v).length<=sizeLine:=by have:=uD d k v;omega
  refine wpAny_setItem_pairs (hsz:=n) (qg B) dd fun J f t=>h _ ?_;have O:∃q,J.get? a=some q:=let⟨q,_,_,i,_⟩:=f;⟨q,i⟩;exact zr I (by rw[e];exact True.intro) t O (zt p hd (rel.put k C) f)
 ·subst j m;cases(show u=Value.ref b from B);obtain⟨z,hd,R,rel,dd⟩:=Hz I.hok e;have n:R.length<=sizeLine:=by rw[<-Paired.length rel];exact z
  have p:(dN d k v).length<=sizeLine:=by have:=uD d k v;omega
  refine wpAny_setItem_heap (hsz:=n) (tupleKind_room_in1 M) (uF I.hok G) dd fun J f t=>h _ ?_;obtain⟨q,S,T,i,h2,h3,U,_,Z⟩:=f;refine zr I (by rw[e];exact True.intro) t ⟨q,i⟩ ⟨p,hd,_,(rel.put k G C).keeps fun c ys L=>?_,q,S,T,i,h2,h3,U,Z⟩;rw[bj (EA L e (fun z=>nomatch z))];exact L
end
def zu(i:Expr):Prop:=∀a b,subscripted i false a b=operate [a,b] (getItem a b)
theorem HD{a:Program}{w:World}{A:Around}{E:Value->Shared->Prop}{s:Shared}{b:Env}{value slice:Expr}{pos:Pos}{T id:String}{Q:Value->Shared->Prop}
  (j:typeLookup (.type T) "__getitem__" = pure (some (.builtin id))) (m:zu slice)
  (h:wpAny (model a w) A (eval value b) (fun o e=>wpAny (model a w) A (eval slice b) (fun i c=>c.TypeIs o T/\wpAny (model a w) A (getItem o i) Q E c) E e) E s) :
  wpAny (model a w) A (eval (.Subscript value slice pos) b) Q E s:=by
 refine Subscript_ (wpAny_mono h (fun o e k=>wpAny_mono k (fun i c d=>?_) fun _ _ x=>x) fun _ _ x=>x);obtain⟨f,d⟩:=d;unfold subscriptTail;refine al ?_;rw[getitemInPython_of_ne f.not_modules];refine al (wpAny_specialOf f j ?_);have fin:wpAny (model a w) A (subscripted slice false o i) (fun r g=>wpAny (model a w) A (letTemporaryGo value o r >>= fun _=>pure r) Q E g) E c:=by rw[m o i];exact wpAny_operating (wpAny_mono d (fun r g l=>al (wpAny_letTemporaryGo (aV l))) fun _ _ x=>x)
 first
  | exact aV (al fin)
  | exact al (aV (al fin))
  | exact al fin
theorem HE{X:Cx}{c:List (Addr×Obj)}{Y:St}{H:Hp}{s:Shared}{a:Addr}{y:V}{o:Option V}(I:Inv X c Y H s)(g:mm H a y o):s.TypeIs (.ref a) "dict":=by
 rcases g with⟨d,k,e,_,_⟩ | ⟨d,k,b,e,_,_,_⟩
 ·obtain⟨_,_,f,_,dd⟩:=uE I.hok e;exact dd.typeIs
 ·obtain⟨_,_,h,_,dd⟩:=uG I.hok e;exact dd.typeIs
noncomputable def HF(c e:TE):TE:=fun Y H Q=>c Y H fun x d=>e Y d fun y b=>∃a v,x=.ref a/\mm b a y (some v)/\Q v b
noncomputable def HG(c h d:TE):TS:=fun D Y H=>d Y H fun v e=>c Y e fun x f=>h Y f fun y g=>∃a b,x=.ref a/\jN g a y v b/\D.nx Y b
section
variable{X:Cx}{o i e value:Expr}{pos pos' tpos:Pos}{td ty tv:TE}
theorem HH(f:X.A.units+1<cLine)(w:PE X o td)(j:PE X i ty)(z:zu i):PE X (.Subscript o i pos) (HF td ty):=by intro b s Y H Q I h;refine HD PySem.F.slot_dict_getitem.lookup z (aT (w b s Y H _ I h) fun u k ⟨x,l,I1,m,n⟩=>aT (j b k Y l _ I1 n) fun B C ⟨y,p,d,q,a,v,ex,g,r⟩=>?_);subst ex;obtain rfl:u=Value.ref a:=m;exact⟨HE d g,HA f d g q fun D E t c=>⟨v,p,t,c,r⟩⟩
theorem zv(c:X.A.units+1<cLine)(G:PE X o td)(d:PE X i ty)(J:PE X value tv)(L:swapsWith value (some (.Subscript o i pos')) pos.line X.env=pure false) :
  PS X (.Assign [.Subscript o i pos'] value pos) (HG td ty tv):=by
 intro b s Y H D I h;refine wpAny_Assign_Subscript (aT (J b s Y H _ I h) fun r f ⟨v,j,I1,k,l⟩=>aT (G b f Y j _ I1 l) fun u m ⟨x,n,p,q,t⟩=>aT (d b m Y n _ p t) fun M N ⟨y,O,w,z,a,B,ex,g,C⟩=>?_) L;subst ex;obtain rfl:u=Value.ref a:=q;exact HB c w g z k fun Q E=>⟨Y,B,E,C⟩
end
theorem HI{P:Program}{w:World}{H:Hp}(h:Heap)(a:sysModules<h.objs.size):cD P w H (h.push { cls:=.type "dict",data:=.dict #[] }) h.objs.size (.dT []):=
 ⟨Nat.zero_le _,beq_eq_false_iff_ne.mpr (Ne.symm (Nat.ne_of_lt a)),[],.nil,_,#[],0,Heap.get?_push_size _ rfl,⟨rfl,rfl,rfl⟩,rfl,rfl,List.nodup_nil⟩
noncomputable def HJ:TE:=fun _ H Q=>∀p,H p=none->Q (.ref p) (aN H p (.dT []))
section
variable{X:Cx}{pos:Pos}
theorem HK:PE X (.Dict [] [] pos) HJ:=fun b s Y H Q I h=>wpAny_Dict_empty ⟨.ref s.heap.objs.size,_,I.laid (a:=s.heap.objs.size) (o:=.dT []) (t':=s.toks) (fun _ _ q=>bA _ q) (bH _) (HI s.heap I.big),rfl,h _ (I.hok.fresh (bH _))⟩
end
noncomputable def nO:List (TE×TE)->St->Hp->(List (V×V)->Hp->Prop)->Prop
 | [],_,H,Q=>Q [] H
 | (a,b)::r,Y,H,Q=>a Y H fun x c=>b Y c fun y d=>nO r Y d fun e f=>Q ((x,y)::e) f
noncomputable abbrev VV:List (V×V)->List (Value×Value)->Prop:=Paired fun p q=>bd p.1 q.1/\bd p.2 q.2
def mq(X:Cx)(pos:Pos)(keys:List (Option Expr))(values:List Expr)(b:List (TE×TE)):Prop:=
 ∀(a:List (Addr×Obj)) (s:Shared) (Y:St) (H:Hp) (Q:List (V×V)->Hp->Prop),Inv X a Y H s->nO b Y H Q->
  wpAny (model X.prog X.w) X.A (evalPairs (pairTrees keys values X.env pos)) (fun e f=>∃c d,Inv X a Y d f/\VV c e/\Q c d) X.xe s
theorem HL{X:Cx}{pos:Pos}:mq X pos [] [] []:=fun a s Y H Q I h=>pairTrees_nil_walk ⟨[],H,I,.nil,h⟩
theorem zw{X:Cx}{pos:Pos}{k v:Expr}{c:List (Option Expr)}{d:List Expr}{e f:TE}{b:List (TE×TE)}(g:PE X k e)(C:PE X v f)(i:mq X pos c d b) :
  mq X pos (some k::c) (v::d) ((e,f)::b):=fun a s Y H Q I h=>
 pairTrees_cons_walk (aT (g a s Y H _ I h) fun u j ⟨x,l,I1,m,n⟩=>aT (C a j Y l _ I1 n) fun G o ⟨y,p,q,r,t⟩=>
  aT (i a o Y p _ q t) fun D E ⟨w,z,A,rel,B⟩=>⟨(x,y)::w,z,A,.cons ⟨m,r⟩ rel,B⟩)
noncomputable def jO(a more:List (aR×V)):List (aR×V):=more.foldl (fun b c=>dN b c.1 c.2) a
theorem KV.merge:∀{more:List (aR×V)}{c:List (aR×Value)}{a:List (aR×V)}{b:List (aR×Value)},KV more c->KV a b->KV (jO a more) (merged b c):=by
 intro more c a b r;unfold KV at r
 induction r generalizing a b with
 | nil=>intro q;exact q
 | @cons p q g i h t d=>
  intro f;have e:KV (dN a p.1 p.2) (stored b q.1 q.2):=by have:=f.put p.1 h.2;rw[<-h.1];exact this
  exact d e
theorem zx:∀(more a:List (aR×V)),(jO a more).length<=a.length+more.length
 | [],a=>by show a.length<=a.length+0;omega
 | p::r,a=>by have h1:=zx r (dN a p.1 p.2);have h2:=uD a p.1 p.2;show(jO (dN a p.1 p.2) r).length<=_;rw[List.length_cons];omega
theorem zy{P:Program}{w:World}:∀{d:List (aR×V)}{f:List (Value×Value)},VV (d.map fun g=>(kV g.1,g.2)) f->∃e,Carries (eN P w) f e/\KV d e
 | [],_,r=>by rw[List.map_nil] at r;cases r;exact⟨[],True.intro,.nil⟩
 | p::d,_,r=>by
  rw[List.map_cons] at r;cases r with
  | @cons a b as bs h t=>obtain⟨e,c,q⟩:=zy (P:=P) (w:=w) t;obtain⟨j,i⟩:=b;exact⟨(p.1,i)::e,⟨qg h.1,rfl,c⟩,.cons ⟨rfl,h.2⟩ q⟩
noncomputable def dO(b:Env):List (Str×NameKind)->List (Str×Addr)->List (Str×Addr)
 | [],a=>a
 | (n,k)::r,a=>if k==.free then dO b r ((n,(b.cells.lookup n).getD 0)::a) else dO b r a
theorem zz(b:Env):∀(names:List (Str×NameKind)) (d:List (Str×Addr)),(∀y∈names,y.2=.free->(b.cells.lookup y.1).isSome=true)->
  (forIn names d fun(x:Str×NameKind) (f:List (Str×Addr))=>if (x.2==NameKind.free)=true then(do let c <-cellOf b x.1;pure (ForInStep.yield ((x.1,c)::f))) else(pure (ForInStep.yield f):Sem (ForInStep (List (Str×Addr)))))=pure (dO b names d)
 | [],d,_=>rfl
 | (n,k)::r,d,h=>by
  have g:=fun a=>zz b r a fun y j=>h y (bQ _ j);rw[List.forIn_cons];unfold dO
  by_cases e:(k==NameKind.free)=true
  ·obtain⟨c,i⟩:=Option.isSome_iff_exists.mp (h (n,k) List.mem_cons_self (by simpa using e));simp only[e,if_true];have:cellOf b n=pure c:=by unfold cellOf;rw[i]
   rw[this,i];exact g _
  ·simp only[e];exact g _
theorem zG{a:Scope}{b:Env}(h:∀y∈a.names,y.2=.free->(b.cells.lookup y.1).isSome=true):closureFor a b=pure (dO b a.names []):=by have e:=zz b a.names [] h;unfold closureFor;exact congrArg (fun m=>m >>= pure) e
theorem uH{a:Env}{x:Str}:∀{names:List (Str×NameKind)}{b:List (Str×Addr)}{c:Addr},(∀y∈names,y.2=.free->(a.cells.lookup y.1).isSome=true)->
  (∀c,b.lookup x=some c->a.cells.lookup x=some c)->(dO a names b).lookup x=some c->a.cells.lookup x=some c
 | [],_,_,_,f,h=>f _ h
 | (n,k)::r,b,c,g,f,h=>by
  unfold dO at h
  by_cases i:(k==NameKind.free)=true
  ·rw[if_pos i] at h;refine uH (fun y j=>g y (bQ _ j)) (fun l e=>?_) h;rw[List.lookup_cons] at e;cases hx:x==n with
   | true=>
    rw[hx] at e;have:x=n:=by simpa using hx
    subst this;obtain⟨d,hd⟩:=Option.isSome_iff_exists.mp (g (x,k) List.mem_cons_self (by simpa using i));rw[hd] at e ⊢;exact e
   | false=>rw[hx] at e;exact f _ e
  ·rw[if_neg i] at h;exact uH (fun y j=>g y (bQ _ j)) f h
theorem qh{env:Env}{x:Str}:∀{names:List (Str×NameKind)}{acc:List (Str×Addr)},((x,NameKind.free)∈names\/(acc.lookup x).isSome=true)->((dO env names acc).lookup x).isSome=true
 | [],_,h=>by rcases h with h | h;cases h;exact h
 | (n,k)::r,acc,h=>by
  unfold dO
  by_cases a:(k==NameKind.free)=true
  ·rw[if_pos a];refine qh ?_;rw[List.lookup_cons];cases hx:x==n with
   | true=>exact .inr rfl
   | false=>
    rcases h with h | h
    ·rcases List.mem_cons.mp h with e | h
     ·cases e;simp at hx
     ·exact .inl h
    ·exact .inr h
  ·rw[if_neg a];refine qh ?_;rcases h with h | h
   ·rcases List.mem_cons.mp h with e | h
    ·cases e;simp at a
    ·exact .inl h
   ·exact .inr h
noncomputable abbrev fM(a:Env):Str×NameKind->Str×NameKind:=fun(n,k)=>if (k==NameKind.free&&a.scope.kind==.function&&a.kindOf n==some .cell) then(n,NameKind.cell) else(n,k)
theorem uI{env:Env}:∀{names:List (Str×NameKind)}{x:Str}{k:NameKind},names.lookup x=some k->
  (names.map (fM env)).lookup x=some k\/(k=.free/\(names.map (fM env)).lookup x=some .cell)
 | [],_,_,h=>by simp at h
 | (n,k)::r,x,c,h=>by
  have d:=@uI env r x c;rw[List.map_cons];have e:fM env (n,k)=(n,k)\/(k=.free/\fM env (n,k)=(n,.cell)):=by
   by_cases a:(k==NameKind.free&&env.scope.kind==.function&&env.kindOf n==some .cell)=true
   ·refine .inr ⟨?_,if_pos a⟩;cases k<;>first | rfl | (simp at a)
   ·exact .inl (if_neg a)
  cases hx:x==n with
  | true=>
   simp only[List.lookup_cons,hx] at h;cases h;rcases e with e | ⟨b,e⟩
   ·rw[e];exact .inl (by simp only[List.lookup_cons,hx])
   ·rw[e];exact .inr ⟨b,by simp only[List.lookup_cons,hx]⟩
  | false=>simp only[List.lookup_cons,hx] at h;rcases e with e | ⟨b,e⟩<;>(rw[e];simp only[List.lookup_cons,hx];exact d h)
theorem zH{env:Env}:∀{names:List (Str×NameKind)}{x:Str},names.lookup x=none->(names.map (fM env)).lookup x=none
 | [],_,_=>rfl
 | (n,k)::r,x,h=>by
  have b:=@zH env r x;rw[List.map_cons];have e:fM env (n,k)=(n,k)\/fM env (n,k)=(n,.cell):=by
   by_cases a:(k==NameKind.free&&env.scope.kind==.function&&env.kindOf n==some .cell)=true
   ·exact .inr (if_pos a)
   ·exact .inl (if_neg a)
  cases hx:x==n with
  | true=>simp only[List.lookup_cons,hx] at h;cases h
  | false=>simp only[List.lookup_cons,hx] at h;rcases e with e | e<;>(rw[e];simp only[List.lookup_cons,hx];exact b h)
section
variable{prog:Program}{w:World}{A:Around}{E:Value->Shared->Prop}{R:Result->Shared->Prop}{s:Shared}
theorem HM{e target iter:Expr}{f:List Expr}{d:Scope}{pos:Pos}{it g:Value}{a:Env}(I:Nat->Shared->Prop)
  (turn:∀n s,I n s->wpAny (model prog w) A (pyNext it) (fun r j=>match r with
   | none=>R (.ok .next) j
   | some v=>wpAny (model prog w) A (letOwnedTupleGo target it v) (fun _ i=>wpAny (model prog w) A (assign target a v) (fun _ o=>
     wpAny (model prog w) A (forIn f true fun c r=>if r=true then do let ok <-isTrue c a (eval c a);pure (ForInStep.yield ok) else pure (ForInStep.yield r)) (fun ok k=>
      if ok=true then wpAny (model prog w) A (eval e a) (fun x p=>
       wpAny (model prog w) A (call (.builtin "list.append") [g,x]) (fun _ q=>∃m,m<n/\I m q) (fun _ _=>False) p) (fun _ _=>False) k
      else ∃m,m<n/\I m k) (fun _ _=>False) o) (fun _ _=>False) i) (fun _ _=>False) j) (fun _ _=>False) s)
  (n:Nat) (h:I n s) :
  codeAny (model prog w) A (.compLoop (.ListComp e [⟨target,iter,f,0⟩] d pos) 0 it g a) R s:=by
 refine codeAny_loop rfl I (fun n s y=>?_) n h;show wpAny _ A ((compTurn (.ListComp e [⟨target,iter,f,0⟩] d pos) 0 it g a).onRaise (fun x=>do noteFrame x a;theTreesLotGoes x)) _ _ s;refine wpAny_noted (wpAny_noRaise ?_);rw[compTurn_list];refine al (wpAny_standAt (al (wpAny_mono (turn n s y) (fun r j t=>?_) fun _ _ b=>b)));cases r with
 | none=>exact aV t
 | some v=>
  refine al (wpAny_mono t (fun _ i l=>?_) fun _ _ b=>b);refine al (wpAny_mono l (fun _ o z=>al (wpAny_mono z (fun ok k u=>?_) fun _ _ b=>b)) fun _ _ b=>b);cases ok with
  | false=>exact aV ⟨rfl,u⟩
  | true=>exact al (al (wpAny_mono u (fun x p B=>al (wpAny_mono B (fun _ q C=>aV (aV ⟨rfl,C⟩)) fun _ _ b=>b)) fun _ _ b=>b))
end
theorem qi{x:Str}:∀(names:List (Str×NameKind)) (n:Nat) (a:List (Str×Addr)),((x,NameKind.cell)∉names)->(cellsFrom n names a).lookup x=a.lookup x
 | [],_,_,_=>rfl
 | (y,k)::r,n,a,h=>by
  unfold cellsFrom;have b:(x,NameKind.cell)∉r:=fun z=>h (bQ _ z);split
  ·rename_i c;rw[qi r _ _ b,List.lookup_cons];have:(x==y)=false:=by
    cases e:x==y with
    | false=>rfl
    | true=>exact absurd (by rw[eq_of_beq e,<-eq_of_beq c];exact List.mem_cons_self) h
   rw[this]
  ·exact qi r _ _ b
theorem uJ{x:Str}{c:Addr}:∀(names:List (Str×NameKind)) (h:Heap) (a:List (Str×Addr)),(cellsFrom h.objs.size names a).lookup x=some c->a.lookup x=some c\/(h.objs.size<=c/\(x,NameKind.cell)∈names/\(pushCells h names).IsCell c none)
 | [],_,_,e=>.inl e
 | (y,k)::r,h,a,e=>by
  unfold cellsFrom at e;unfold pushCells;split at e
  ·rename_i b;rw[if_pos b];have sz:(h.push { cls:=.type "cell",data:=.cell none }).objs.size=h.objs.size+1:=Heap.size_push ..;rw[<-sz] at e;rcases uJ r _ _ e with z | ⟨d,f,g⟩
   ·rw[List.lookup_cons] at z;split at z
    ·rename_i hx;cases z;refine .inr ⟨bH _,?_,⟨_,pushCells_keeps r _ _ _ (Heap.get?_push_size _ rfl),rfl⟩⟩;rw[eq_of_beq hx,<-eq_of_beq b];exact List.mem_cons_self
    ·exact .inl z
   ·exact .inr ⟨by rw[sz] at d;omega,bQ _ f,g⟩
  ·rename_i b;rw[if_neg b];rcases uJ r _ _ e with z | ⟨d,f,g⟩
   ·exact .inl z
   ·exact .inr ⟨d,bQ _ f,g⟩
theorem uK{x:Str}{c:Addr}:∀(names:List (Str×NameKind)) (n:Nat) (a:List (Str×Addr)),(x,NameKind.cell)∈names->(cellsFrom n names a).lookup x=some c->n<=c
 | (y,k)::r,n,a,d,e=>by
  unfold cellsFrom at e
  by_cases b:(x,NameKind.cell)∈r
  ·split at e
   ·have:=uK r _ _ b e;omega
   ·exact uK r _ _ b e
  ·rcases List.mem_cons.mp d with z | z
   ·cases z;rw[if_pos (by rfl),qi r _ _ b,List.lookup_cons,beq_self_eq_true] at e;cases e;exact bH _
   ·exact absurd z b
theorem uL{x:Str}:∀(names:List (Str×NameKind)) (n:Nat) (a:List (Str×Addr)),((x,NameKind.cell)∈names\/(a.lookup x).isSome=true)->((cellsFrom n names a).lookup x).isSome=true
 | [],_,_,h=>by rcases h with h | h;cases h;exact h
 | (y,k)::r,n,a,h=>by
  unfold cellsFrom;split
  ·rename_i b;refine uL r _ _ ?_;rcases h with h | h
   ·rcases List.mem_cons.mp h with z | z
    ·cases z;right;rw[List.lookup_cons,beq_self_eq_true];rfl
    ·exact .inl z
   ·right;rw[List.lookup_cons];split
    ·rfl
    ·exact h
  ·rename_i b;refine uL r _ _ ?_;rcases h with h | h
   ·rcases List.mem_cons.mp h with z | z
    ·cases z;exact absurd rfl b
    ·exact .inl z
   ·exact .inr h
theorem uM{x y:Str}{c:Addr}{lo:Nat}:∀(names:List (Str×NameKind)) (n:Nat) (d:List (Str×Addr)),(∀x y c,lo<=c->d.lookup x=some c->d.lookup y=some c->x=y)->(∀x c,d.lookup x=some c->c<n)->lo<=c->(cellsFrom n names d).lookup x=some c->(cellsFrom n names d).lookup y=some c->x=y
 | [],_,_,h,_,l,g,f=>h _ _ _ l g f
 | (z,k)::r,n,d,h,hb,l,g,f=>by
  unfold cellsFrom at g f;split at g
  ·rename_i i;rw[if_pos i] at f;refine uM r (n+1) ((z,n)::d) (fun x y c l g f=>?_) (fun x c e=>?_) l g f
   ·rw[List.lookup_cons] at g f;split at g<;>split at f
    ·rename_i a _ b;rw[eq_of_beq a,eq_of_beq b]
    ·cases g;exact absurd (hb _ _ f) (Nat.lt_irrefl _)
    ·cases f;exact absurd (hb _ _ g) (Nat.lt_irrefl _)
    ·exact h _ _ _ l g f
   ·rw[List.lookup_cons] at e;split at e
    ·cases e;exact Nat.lt_succ_self _
    ·exact Nat.lt_succ_of_lt (hb _ _ e)
  ·rename_i i;rw[if_neg i] at f;exact uM r n d h hb l g f
theorem HN{M:Model}{A:Around}{E:Value->Shared->Prop}{s:Shared}{scope:Scope}{globals:Addr}{cl:List (Str×Addr)}{qual:Str}{a:Env}{Q:Env->Shared->Prop}
  (h:Q { scope,locals:=s.heap.objs.size,globals,cells:=cellsFrom (s.heap.objs.size+1) scope.names cl,qual,func:=none,code:=a.code,frame:=a.frame,builtins:=a.builtins } { s with heap:=pushCells (s.heap.push { cls:=.type "dict",data:=.dict #[] }) scope.names }) :
  wpAny M A (newFunctionEnv scope globals cl [] qual none .none (some a)) Q E s:=by
 simp only[newFunctionEnv,Option.isSome_some,if_true];refine al (wpAny_alloc ?_);refine al (wpAny_layCells _ (fun name kind cells=>by cases b:kind==NameKind.cell<;>simp[b]) _ _ _ _ ?_);rw[show({ s with heap:=s.heap.push { cls:=.type "dict",data:=.dict #[] } }:Shared).heap.objs.size=s.heap.objs.size+1 from Heap.size_push ..];exact al (aV (aV h))
noncomputable abbrev cq(X:Cx)(scope:Scope)(N':List Str)(C:Addr)(fp:List Addr)(s₂:Shared)(H₂:Hp)(pl:List (Addr×Obj)):Cx where
 prog:=X.prog
 w:=X.w
 K:=X.K
 mg:=X.mg
 base:=X.base
 A:=X.A
 N:=N'
 s₀:=s₂
 H₀:=H₂
 env:=compEnvC scope (cellsFrom (C+1) scope.names (dO X.env scope.names [])) C X.env
 outer:=X.stack
 stack:=X.stack
 ex:=fp
 fn:=fun y=>scope.names.lookup y==some .cell
 calm:=X.calm
 pn:=X.pn++pl
 xe:=fun _ _=>False
structure az (X:Cx) (scope:Scope) (own capN:List Str) (caps:List Nat):Prop where
 kind:scope.kind=.function
 one:∀y∈scope.names,scope.names.lookup y.1=some y.2
 free:∀y∈scope.names,y.2=.free->X.env.kindOf y.1=some .cell\/X.env.kindOf y.1=some .free
 loc:∀y∈scope.names,y.2=.local->scope.names.lookup y.1=some .local
 caps:caps.map (fun j=>X.N[j]?)=capN.map some
 capf:∀x∈capN,scope.names.lookup x=some .free
noncomputable def fY(own:List Str)(a:List Nat)(Y:St):St:=own.map (fun _=>none)++a.map (fun j=>(Y[j]?).getD none)
section
variable{X:Cx}{scope:Scope}{own capN:List Str}{caps:List Nat}
theorem az.cells(S:az X scope own capN caps)(ok:X.Ok):∀y∈scope.names,y.2=.free->(X.env.cells.lookup y.1).isSome=true:=fun y a b=>by obtain⟨c,d⟩:=ok.has y.1 (S.free y a b);rw[d];rfl
theorem az.cl(S:az X scope own capN caps)(ok:X.Ok){x:Str}{c:Addr}(h:(dO X.env scope.names []).lookup x=some c):X.env.cells.lookup x=some c:=
 uH (S.cells ok) (fun _ e=>by simp at e) h
theorem HP{f:List (Addr×Obj)}{Y:St}{H₂:Hp}{B:Shared}{L:Heap}{C:Addr}{fp:List Addr}{tk:Nat}{m:Str->Option Value}(S:az X scope own capN caps)(I:Inv X f Y H₂ B)
  (hf:∀b∈fp,gx X f H₂ b) (M:∀b∈fp,b<B.heap.objs.size) (t:B.heap.objs.size<=C) (O:∀b o,B.heap.get? b=some o->L.get? b=some o) (hn:L.Ns C m) (Q:∀x c,(cellsFrom (C+1) scope.names (dO X.env scope.names [])).lookup x=some c->(dO X.env scope.names []).lookup x=some c\/(C+1<=c/\L.IsCell c none)) :
  Inv (cq X scope (own++capN) C fp B H₂ f) [] (fY own caps Y) H₂ { B with heap:=L,toks:=tk }:=by
 have cl:=fun {x:Str}{c:Addr}=>S.cl (x:=x) (c:=c) I.ok;have lt:∀{x:Str}{c:Addr},X.env.cells.lookup x=some c->c<B.heap.objs.size:=fun e=>by obtain⟨v,q⟩:=I.cell _ _ e;exact q.lt
 have D:∀{x:Str}{c:Addr},X.env.cells.lookup x=some c->C+1<=c->False:=fun e z=>absurd (Nat.lt_of_lt_of_le (lt e) (Nat.le_trans t (Nat.le_of_succ_le z))) (Nat.lt_irrefl _);have a:∀{x:Str}{c:Addr},(cellsFrom (C+1) scope.names (dO X.env scope.names [])).lookup x=some c->X.env.cells.lookup x=some c\/(C+1<=c/\L.IsCell c none):=fun {x c} e=>(Q x c e).imp (fun z=>cl z) fun z=>z;have r:∀x,((relabel scope X.env).names.lookup x=some .cell\/(relabel scope X.env).names.lookup x=some .free)->scope.names.lookup x=some .free\/scope.names.lookup x=some .cell:=fun x H=>by
  cases e:scope.names.lookup x with
  | none=>have z:(relabel scope X.env).names.lookup x=none:=zH (env:=X.env) e;rw[z] at H;rcases H with q | q<;>cases q
  | some k=>
   rcases uI (env:=X.env) e with z | ⟨z,_⟩
   ·have z':(relabel scope X.env).names.lookup x=some k:=z;rw[z'] at H;rcases H with q | q
    ·cases q;exact .inr rfl
    ·cases q;exact .inl rfl
   ·rw[z];exact .inl rfl
 have stk:∀b,b≠X.env.locals->b∉X.fs->b∉bN X.stack:=fun b J g z=>(List.mem_cons.mp (I.stkSub b z)).elim J g;refine⟨⟨I.ok.mod,S.kind,I.ok.glob,I.ok.blt,t,fun x y c J g=>?inj,fun x H=>?_,fun x c h e=>?cab,I.ok.hd,I.ok.frames,.inl rfl,fun b A=>⟨?_,fun x c h=>?exf⟩,
   I.bs,Nat.le_trans I.ok.bsz I.sz,fun b o e A=>?_,fun b A=>stk b (hf b A).2.1 (hf b A).2.2.1,I.stack,I.stkFree⟩,
  rfl,I.bare,Un.kept O,⟨m,hn,fun i x v J g h3=>?_⟩,fun x c h=>?_,I.hok.fresh t,fun x c h=>?frc,fun p hp=>?_,I.hok.kept O,?_⟩
 case inj=>
  rcases a J with R | ⟨R,_⟩<;>rcases a g with z2 | ⟨z2,_⟩
  ·exact I.ok.inj x y c R z2
  ·exact(D R z2).elim
  ·exact(D z2 R).elim
  ·exact uM (lo:=C+1) scope.names (C+1) (dO X.env scope.names []) (fun x y c l e _=>(D (cl e) l).elim) (fun x c e=>Nat.lt_succ_of_le (Nat.le_trans (Nat.le_of_lt (lt (cl e))) t)) R J g
 case cab=>have e1:=eq_of_beq (show(scope.names.lookup x==some NameKind.cell)=true from h);have:=uK scope.names (C+1) (dO X.env scope.names []) (PySem.mem_of_lookup e1) e;exact Nat.le_trans t (Nat.le_of_succ_le this)
 case exf=>
  rcases a h with z | ⟨z,_⟩
  ·exact(hf b A).2.2.2.2.1 x c z
  ·exact Ne.symm (Nat.ne_of_lt (Nat.lt_of_lt_of_le (M b A) (Nat.le_trans t (Nat.le_of_succ_le z))))
 case frc=>
  rcases a h with z | ⟨z,_⟩
  ·exact I.freeC x c z
  ·exact I.hok.fresh (Nat.le_trans t (Nat.le_of_succ_le z))
 ·refine Option.isSome_iff_exists.mp (uL scope.names (C+1) (dO X.env scope.names []) ?_);rcases r x H with q | q
  ·exact .inr (qh (env:=X.env) (.inl (PySem.mem_of_lookup q)))
  ·exact .inl (PySem.mem_of_lookup q)
 ·exact Nat.ne_of_lt (Nat.lt_of_lt_of_le (M b A) t)
 ·rcases(hf b A).2.2.2.1 with z | z
  ·exact I.ok.noex b o e z
  ·exact absurd (Nat.lt_of_lt_of_le (bB (I.ok.bs b o e).1) z) (Nat.lt_irrefl _)
 ·
  have hi:own.length<=i:=by
   refine Nat.le_of_not_lt fun a1=>?_;unfold fY at g;rw[List.getElem?_append_left (by simpa using a1),List.getElem?_map] at g;cases q:own[i]? with
   | none=>rw[q] at g;cases g
   | some y=>rw[q] at g;cases g
  have T:capN[i - own.length]? = some x:=by
   have:(own++capN)[i]? = some x:=J
   rwa [List.getElem?_append_right hi] at this
  have U:(caps.map (fun j=>(Y[j]?).getD none))[i - own.length]? = some (some v):=by
   unfold fY at g
   rwa [List.getElem?_append_right (by simpa using hi),List.length_map] at g
  rw[List.getElem?_map] at U;obtain⟨j,hj,s⟩:=Option.map_eq_some_iff.mp U;have hX:X.N[j]? = some x:=by have q:=congrArg (fun l=>l[i - own.length]?) S.caps;simp only[List.getElem?_map,hj,T,Option.map_some] at q;exact Option.some.inj q
  have hY:Y[j]? = some (some v):=by
   cases q:Y[j]? with
   | none=>rw[q] at s;cases s
   | some z=>rw[q] at s;simp at s;rw[s]
  have E:=S.capf x (List.mem_of_getElem? T);have w:(x,NameKind.free)∈scope.names:=PySem.mem_of_lookup E;have Z:=S.free _ w rfl;obtain⟨m',a3,hl⟩:=I.loc;obtain⟨u,ru,l⟩:=hl j x v hX hY (Z.elim (fun q=>.inr (.inl q)) fun q=>.inr (.inr q));refine⟨u,ru,.inr ⟨?_,?_⟩⟩
  ·rcases uI (env:=X.env) E with z | ⟨_,z⟩
   ·exact .inr z
   ·exact .inl z
  ·rcases l with⟨l,_⟩ | ⟨_,c,hc,G⟩
   ·have l':X.env.kindOf x=some .local:=l;rcases Z with q | q<;>(rw[l'] at q;cases q)
   ·obtain⟨c',a0⟩:=Option.isSome_iff_exists.mp (qh (env:=X.env) (acc:=[]) (.inl w));have:=cl a0;rw[hc] at this;cases this;obtain⟨o,ho,hd⟩:=G;have nc:(x,NameKind.cell)∉scope.names:=fun z=>by have:=S.one _ z;rw[E] at this;cases this
    exact⟨c,(qi scope.names (C+1) (dO X.env scope.names []) nc).trans a0,o,O c o ho,hd⟩
 ·rcases a h with z | ⟨_,z⟩
  ·obtain⟨v,o,ho,hd⟩:=I.cell x c z;exact⟨v,o,O c o ho,hd⟩
  ·exact⟨_,z⟩
 ·have a2:p∈X.pn++f:=by simpa using hp
  obtain⟨e,n,ne,nf,d⟩:=I.pin p a2;exact⟨O _ _ e,n,Nat.ne_of_lt (Nat.lt_of_lt_of_le (bB e) t),stk p.1 ne nf,d⟩
 ·unfold fY;have hl:=congrArg List.length S.caps;simp only[List.length_map] at hl;show(own.map (fun _=>(none:Option V))++caps.map (fun j=>(Y[j]?).getD none)).length=(own++capN).length;rw[List.length_append,List.length_append,List.length_map,List.length_map,hl]
end
def mr(X:Cx)(b:List Expr)(t:TT):Prop:=
 ∀(a:List (Addr×Obj)) (s:Shared) (Y:St) (H:Hp) (Q:Bool->Hp->Prop),Inv X a Y H s->t Y H Q->
  wpAny (model X.prog X.w) X.A (forIn b true fun c r=>if r=true then do let ok <-isTrue c X.env (eval c X.env);pure (ForInStep.yield ok) else pure (ForInStep.yield r)) (TP X a Y Q) X.xe s
noncomputable def HQ:TT:=fun _ H Q=>Q true H
theorem HR{X:Cx}:mr X [] HQ:=fun _ _ _ H _ I h=>wpAny_tests_nil ⟨H,I,h⟩
theorem HS{X:Cx}{c:Expr}{t:TT}(h:PT X c t):mr X [c] t:=fun a s Y H Q I q=>wpAny_tests_one (h a s Y H Q I q)
noncomputable def ms(own:List Str)(d:List Nat)(k:TI)(g:TG)(l:TT)(n:TE):TE:=fun Y H Q=>k Y H fun J o=>∃W:Nat->Nat->List V->St->Hp->Prop,(∃m,W 0 m [] (fY own d Y) o)/\∀i m a f H,W i m a f H->
 (J.stop i H/\a.length<=sizeLine/\∀p,H p=none->Q (.ref p) (aN H p (.lst a)))\/
 (J.go i H/\∀x h,J.yld i H x h->g x f h fun e q=>l e q fun b j=>if b=true then n e j fun y r=>a.length<sizeLine/\∃c,c<m/\W (i+1) c (a++[y]) e r else ∃c,c<m/\W (i+1) c a e j)
section
variable{X:Cx}{scope:Scope}{own capN:List Str}{caps:List Nat}{tg iter elt:Expr}{ifs:List Expr}{wi:TI}{g:TG}{tc:TT}{te:TE}{pos:Pos}
theorem zI{f:List (Addr×Obj)}{Y:St}{H:Hp}{s:Shared}{Q:VK}{RR:Value->Addr->Result->Shared->Prop}(S:az X scope own capN caps)(hc:X.calm=true)(hi:PI X tg iter wi)
  (b8:∀C E s₂ H₂ pl,PG (cq X scope (own++capN) C E s₂ H₂ pl) tg g/\mr (cq X scope (own++capN) C E s₂ H₂ pl) ifs tc/\PE (cq X scope (own++capN) C E s₂ H₂ pl) elt te)
  (I:Inv X f Y H s) (h:ms own caps wi g tc te Y H Q)
  (b9:∀(D C:Addr) (s':Shared) (M:Hp) (m:Str->Option Value),Inv X f Y M s'->gx X f M C->s'.heap.Ns C m->Q (.ref D) M->RR (.ref D) C (.ok .next) s') :
  wpAny (model X.prog X.w) X.A (eval iter X.env) (fun x s₁=>wpAny (model X.prog X.w) X.A (pyIter x) (fun it s₂=>wpAny (model X.prog X.w) X.A (newList []) (fun b3 s₃=>
   wpAny (model X.prog X.w) X.A (newFunctionEnv scope X.env.globals (dO X.env scope.names []) [] X.env.qual none .none (some X.env)) (fun a8 s₄=>
    codeAny (model X.prog X.w) X.A (.compStart (.ListComp elt [⟨tg,iter,ifs,0⟩] scope pos) 0 it b3 { a8 with scope:=relabel scope X.env }) (RR b3 a8.locals) s₄) X.xe s₃) X.xe s₂) X.xe s₁) X.xe s:=by
 refine aT (hi f s Y H _ I h) fun v s1 h1=>aT h1 fun c6 B h2=>?_;obtain⟨it,E,tn,J,Z,e,I2,T,b1,f2,W,⟨m0,w0⟩,b4⟩:=h2;subst e;have a0:∀b∈E,b<B.heap.objs.size:=fun b t=>by obtain⟨o,e,_⟩:=T.obj _ _ b1 b t;exact bB e
 refine wpAny_newObj_type (HN ?_);dsimp only;generalize a4:B.heap.push { cls:=.type "list",dict:=none,data:=.seq ([]:List Value).toArray }=G;have hC:G.objs.size=B.heap.objs.size+1:=by rw[<-a4,Heap.size_push]
 have l:B.heap.objs.size<=G.objs.size:=by rw[hC];exact Nat.le_succ _
 have a5:B.heap.objs.size≠G.objs.size:=by rw[hC];exact Nat.ne_of_lt (Nat.lt_succ_self _)
 have below:∀b,b<B.heap.objs.size->b≠G.objs.size:=fun b t=>by rw[hC];exact Nat.ne_of_lt (Nat.lt_succ_of_lt t)
 have b5:(G.push { cls:=.type "dict",data:=.dict #[] }).objs.size=G.objs.size+1:=Heap.size_push ..;have L:∀x c,(cellsFrom (G.objs.size+1) scope.names (dO X.env scope.names [])).lookup x=some c->(dO X.env scope.names []).lookup x=some c\/(G.objs.size+1<=c/\(pushCells (G.push { cls:=.type "dict",data:=.dict #[] }) scope.names).IsCell c none):=fun x c e=>by rw[<-b5] at e ⊢;exact(uJ scope.names _ _ e).imp (fun z=>z) fun⟨z1,_,z2⟩=>⟨z1,z2⟩
 have a1:(pushCells (G.push { cls:=.type "dict",data:=.dict #[] }) scope.names).Ns G.objs.size (fun _=>none):=(Heap.Ns.new G (.type "dict")).keeps (pushCells_keeps _ _);have old:∀b o,B.heap.get? b=some o->(pushCells (G.push { cls:=.type "dict",data:=.dict #[] }) scope.names).get? b=some o:=fun b o e=>pushCells_keeps _ _ b o (bA _ (a4▸bA _ e));have a2:(pushCells (G.push { cls:=.type "dict",data:=.dict #[] }) scope.names).get? B.heap.objs.size=some { cls:=.type "list",dict:=none,data:=.seq ([]:List Value).toArray }:=pushCells_keeps _ _ _ _ (bA _ (a4▸Heap.get?_push_size _ rfl));generalize pushCells (G.push { cls:=.type "dict",data:=.dict #[] }) scope.names=h₁ at L a1 old a2 ⊢;generalize c0:G.objs.size=C at a1 a5 l below L ⊢;generalize j:B.heap.objs.size=D at a2 a5 ⊢;clear a4 hC c0 b5 G;obtain⟨hg,ht,he⟩:=b8 C E B Z f;have Ic:Inv (cq X scope (own++capN) C E B Z f) [] (fY own caps Y) Z { B with heap:=h₁,toks:=B.toks }:=HP S I2 f2 a0 (by rw[j];rw[j] at l;exact l) old a1 L;have a6:∀x c,(cellsFrom (C+1) scope.names (dO X.env scope.names [])).lookup x=some c->c≠D:=fun x c e z=>by
  rcases L x c e with e | ⟨e,_⟩
  ·obtain⟨v,q⟩:=I2.cell x c (S.cl I2.ok e);exact absurd q.lt (by rw[z,j];exact Nat.lt_irrefl _)
  ·rw[j] at l;exact absurd (Nat.lt_of_le_of_lt l (Nat.lt_of_lt_of_le (Nat.lt_succ_self C) e)) (by rw[z];exact Nat.lt_irrefl _)
 have a7:D∉bN X.stack:=fun z=>by
  rcases List.mem_cons.mp (I2.stkSub D z) with q | q
  ·exact absurd I2.lt (by rw[<-q,j];exact Nat.lt_irrefl _)
  ·exact I2.nofs (by rw[j];exact bH _) q
 have a3:∀p∈X.pn++f,p.1≠D:=fun p N z=>absurd (bB (I2.pin p N).1) (by rw[z,j];exact Nat.lt_irrefl _);have a9:∀{Y':St}{M:Hp}{s':Shared}{O:List Value}{k:Nat},Inv (cq X scope (own++capN) C E B Z f) [] Y' M s'->s'.heap.get? D=some { cls:=.type "list",data:=.seq O.toArray k }->M D=none->
   Inv (cq X scope (own++capN) C E B Z f) [(D,{ cls:=.type "list",data:=.seq O.toArray k })] Y' M s':=fun J e n=>J.pins_of fun p N=>by
  obtain rfl:=List.mem_singleton.mp N;exact⟨e,n,a5,a7,fun v z=>by cases z⟩
 have b2:∀{M:Hp}{o:Obj},(∀b∈E,M b=none)->∀b∈E,gx (cq X scope (own++capN) C E B Z f) [(D,o)] M b:=fun hn b t=>by
  obtain⟨f0,f1,c1,f3,f4,f5⟩:=f2 b t;refine⟨hn b t,Nat.ne_of_lt (Nat.lt_of_lt_of_le (a0 b t) (by rw[j];rw[j] at l;exact l)),fun z=>(List.mem_cons.mp (I2.stkSub b z)).elim f1 c1,.inl t,fun x c e=>?cl,fun p N=>?_⟩
  case cl=>
   rcases L x c e with e | ⟨e,_⟩
   ·exact f4 x c (S.cl I2.ok e)
   ·exact Ne.symm (Nat.ne_of_lt (Nat.lt_of_lt_of_le (a0 b t) (Nat.le_trans (by rw[j];rw[j] at l;exact l) (Nat.le_of_succ_le e))))
  rcases List.mem_append.mp N with N | N
  ·exact f5 p N
  ·obtain rfl:=List.mem_singleton.mp N;intro z;have z':D=b:=z;exact absurd (a0 b t) (by rw[<-z',j];exact Nat.lt_irrefl _)
 have b0:codeAny (model X.prog X.w) X.A (.compLoop (.ListComp elt [⟨tg,iter,ifs,0⟩] scope pos) 0 (.ref it) (.ref D) (compEnvC scope (cellsFrom (C+1) scope.names (dO X.env scope.names [])) C X.env)) (RR (.ref D) C) { B with heap:=h₁,toks:=B.toks }:=by
  refine HM (fun n s'=>∃i ys O k Y' M,Inv (cq X scope (own++capN) C E B Z f) [(D,{ cls:=.type "list",data:=.seq O.toArray k })] Y' M s'/\tn i s'.heap/\(∀b∈E,M b=none)/\be ys O/\W i n ys Y' M) ?_ m0
   ⟨0,[],[],0,_,Z,a9 Ic a2 (I2.hok.fresh (by rw[j];exact bH _)),T.keep _ _ _ b1 fun b _ o e=>old b o e,fun b t=>(f2 b t).1,.nil,w0⟩
  rintro n s3 ⟨i,ys,O,k,Y3,H3,I3,b6,b7,r3,w3⟩;rcases b4 i n ys Y3 H3 w3 with⟨stop,hz,qn⟩ | ⟨go,step⟩
  ·refine aT (T.done (cq X scope (own++capN) C E B Z f) rfl rfl rfl hc i _ s3 Y3 H3 _ I3 (b2 b7) b6 stop) fun r s4 ⟨hr,R⟩=>?_;subst hr;obtain⟨eD,nD,_⟩:=R.pin (D,_) (bi _ (List.mem_singleton.mpr rfl));have U:H3 D=none:=nD;have I5:Inv X f Y (aN H3 D (.lst ys)) s4:=by
    refine I2.call' (ch:=E) R.os ⟨R.base.keep,R.base.slot,fun b o e n hx=>?_,R.base.there,fun b xs e=>?_,fun b o u e=>?_,fun b ps e=>?_⟩ (fun b u e=>?_) R.bare fun b t=>⟨(f2 b t).2.2.2.1,(f2 b t).2.1,(f2 b t).2.2.2.2.1,(f2 b t).2.2.2.2.2⟩
    ·rw[bj (by intro z;exact absurd (bB e) (by rw[z,j];exact Nat.lt_irrefl _))];exact R.base.free b o e n hx
    ·have q:=R.base.tups b xs e;rw[bj (hZ q U)];exact q
    ·have q:=R.base.frzs b o u e;rw[bj (hZ q U)];exact q
    ·obtain⟨more,q⟩:=R.base.tbls b ps e;exact⟨more,by rw[bj (hZ q U)];exact q⟩
    ·by_cases t:b=D
     ·subst t;rw[cj] at e;cases e;exact⟨hz,O,k,r3,eD⟩
     ·rw[bj t] at e;exact(R.hok b u e).stay (fun _ _ _ q=>q) (fun c q=>by rw[bj (hZ q U)];exact q) fun c xs q=>by rw[bj (hZ q U)];exact q
   obtain⟨m,hm,_⟩:=R.loc;exact b9 D C s4 _ m I5 (I2.fpOk (by rw[j];rw[j] at l;exact l) (by rw[bj (Ne.symm a5)];exact R.free)) hm (qn D U)
  ·refine aT (T.item (cq X scope (own++capN) C E B Z f) rfl rfl rfl hc i _ s3 Y3 H3 _ I3 (b2 b7) b6 go) fun r s4 ⟨u,hr,h4⟩=>?_;subst hr;refine aT h4 fun _ s5 ⟨x,H5,I5,r5,y5,cG,c2⟩=>?_;have c3:=I5.pinned (b2 c2) (T.obj _ _ cG);refine aT (hg _ s5 Y3 H5 x u _ c3 r5 (step x H5 y5)) fun _ s6 ⟨Y6,H6,I6,q6⟩=>?_;refine aT (ht _ s6 Y6 H6 _ I6 q6) fun ok s7 ⟨H7,I7,q7⟩=>?_;have eE:∀{Y8:St}{H8:Hp}{s8:Shared},Inv (cq X scope (own++capN) C E B Z f) ([(D,{ cls:=.type "list",data:=.seq O.toArray k })]++nF E s5.heap) Y8 H8 s8->tn (i+1) s8.heap/\(∀b∈E,H8 b=none):=fun {Y8 H8 s8} I8=>by refine⟨T.keep _ _ _ cG fun b t o e=>(I8.pin (b,o) (bi _ (bi _ (pV t e)))).1,fun b t=>?_⟩;obtain⟨o,e,d⟩:=T.obj _ _ cG b t;exact(I8.pin (b,o) (bi _ (bi _ (pV t e)))).2.1
   cases ok with
   | false=>obtain⟨m',hm,w7⟩:=q7;obtain⟨t7,n7⟩:=eE I7;exact⟨m',hm,i+1,ys,O,k,Y6,H7,I7.unpinned,t7,n7,r3,w7⟩
   | true=>
    refine aT (he _ s7 Y6 H7 _ I7 q7) fun u8 s8 ⟨y,H8,I8,r8,hz,m',hm,w8⟩=>?_;obtain⟨t8,n8⟩:=eE I8;have I9:=I8.unpinned;obtain⟨eD,nD,c4,c7,_⟩:=I9.pin (D,_) (bi _ (List.mem_singleton.mpr rfl));have hl:=r3.length;refine call_meets F.slot_list_append ⟨_,eD,rfl⟩ F.entry_list_append (F.args_list_append_2 _ _) (PySem.list_append D O.toArray k u8 (by rw[List.size_toArray];omega)) ⟨eD,?_⟩;have q:=PySem.IsL.update eD (fun a=>a.push u8);have e2:O.toArray.push u8=(O++[u8]).toArray:=by simp
    rw[e2] at q;have keep:∀b o,b≠D->s8.heap.get? b=some o->(s8.heap.update D (Obj.mapSeq fun a=>a.push u8)).get? b=some o:=fun b o t e=>(Heap.get?_update_other s8.heap _ (Ne.symm t)).trans e;have c5:Inv (cq X scope (own++capN) C E B Z f) [] Y6 H8 { s8 with heap:=s8.heap.update D (Obj.mapSeq fun a=>a.push u8) }:=by refine(I9.pins_of (pins':=[]) fun p N=>absurd N (by simp)).turned (t':=s8.toks) (it:=D) keep nD c4 (.inr (by rw[j];exact bH _)) a6 fun p N=>?_;exact a3 p (by simpa using N)
    exact⟨m',hm,i+1,ys++[y],O++[u8],_,Y6,H8,a9 c5 q nD,T.keep _ _ _ t8 fun b t o e=>keep b o (by intro z;exact absurd (a0 b t) (by rw[z,j];exact Nat.lt_irrefl _)) e,n8,r3.append (.cons r8 .nil),w8⟩
 exact codeAny_compStart_list b0 (wpAny_noRaise (T.self _ 0 _ _ _ (T.keep _ _ _ b1 fun b _ o e=>old b o e) b0))
theorem zJ(S:az X scope own capN caps)(n:X.calm=true)(p:PI X tg iter wi)
  (a:∀C c d i k,PG (cq X scope (own++capN) C c d i k) tg g/\mr (cq X scope (own++capN) C c d i k) ifs tc/\PE (cq X scope (own++capN) C c d i k) elt te)
  (w:∀x,foldedSetIterable iter X.env x=pure x:=by intro _;rfl):PE X (.ListComp elt [⟨tg,iter,ifs,0⟩] scope pos) (ms own caps wi g tc te):=by
 intro l s Y H Q I h;rw[eval_ListComp];refine wpAny_comprehension_free (use:=none) rfl w (zG (S.cells I.ok)) S.kind S.loc ?_;refine zI S n p a I h fun D C r t m u f v q=>⟨m,v,fun z j=>?_⟩
 exact⟨.ref D,t,u.turned (t':=r.toks) (it:=C) (fun b o y e=>(j.2 b y).trans e) f.1 f.2.1 f.2.2.2.1 f.2.2.2.2.1 f.2.2.2.2.2,rfl,q⟩
theorem HU{i:Nat}{y:Str}{py c:Pos}(B:X.N.Nodup)(j:X.N[i]? = some y)(hx:gO X.env.scope y)(S:az X scope own capN caps)(E:X.calm=true)(G:PI X tg iter wi)
  (k:∀C l n p w,PG (cq X scope (own++capN) C l n p w) tg g/\mr (cq X scope (own++capN) C l n p w) ifs tc/\PE (cq X scope (own++capN) C l n p w) elt te)
  (r:swapsWith (.ListComp elt [⟨tg,iter,ifs,0⟩] scope pos) (some (.Name y py)) c.line X.env=pure true:=by rfl)
  (hs:∀x,foldedSetIterable iter X.env x=pure x:=by intro _;rfl) (J:X.fn y=true\/X.env.scope.names.lookup y=some .local:=by first | exact .inl rfl | exact .inr rfl | assumption) :
  PS X (.Assign [.Name y py] (.ListComp elt [⟨tg,iter,ifs,0⟩] scope pos) c) (uj (ms own caps wi g tc te) (pT i)):=by
 intro d s Y H D I h;rw[exec_Assign_Name_used _ _ _ _ r];refine al (wpAny_standAt (al ?_));show wpAny _ X.A (do let _ <-comprehension (.ListComp elt [⟨tg,iter,ifs,0⟩] scope pos) scope X.env _ (newList []) false (eval iter X.env) (some (assign (.Name y py) X.env))) _ _ s;refine al (wpAny_mono (wpAny_comprehension_free (use:=some (assign (.Name y py) X.env)) (Q:=fun _ t=>SP X d D .next t) rfl hs (zG (S.cells I.ok)) S.kind S.loc ?_) (fun _ t L=>aV (aV L)) fun _ _ e=>e);refine zI S E G k I h fun Da C t M m O f R q=>?_;show wpAny _ X.A (assign (.Name y py) X.env (.ref Da)) _ _ _;refine wpAny_assign_Name (yk O B j hx (v:=.ref Da) rfl (fun T U ⟨a,sb,Z⟩=>⟨m,?_,fun h' u=>?_⟩) J)
 ·refine R.sameBut sb ?_;rcases Z with z | z
  ·rw[z];exact f.2.1
  ·exact Ne.symm (f.2.2.2.2.1 y a z)
 ·exact⟨_,M,U.turned (t':=T.toks) (it:=C) (fun b o hb e=>(u.2 b hb).trans e) f.1 f.2.1 f.2.2.2.1 f.2.2.2.2.1 f.2.2.2.2.2,q⟩
end
end L2
namespace L2
open PySem
theorem HV{M:Model}{A:Around}{E:Value->Shared->Prop}{s:Shared}{a:Addr}{Q:Option Obj->Shared->Prop}(h:Q (s.heap.get? a) s):wpAny M A (loadIfAlive a) Q E s:=by intro Γ p b;unfold loadIfAlive;rw[Sem.wp_loadIfAlive];exact aV h Γ p b
abbrev fk(h:Heap)(z TI TO:Addr)(a f1:Value):Prop:=
 h.get? z=some { cls:=.type "zip",dict:=none,data:=.fields #[a,f1,.bool false,.ref TI,.ref TO],slots:=#[] }
abbrev dP(h:Heap)(T:Addr)(a b c:Value):Prop:=h.get? T=some { cls:=.type "tuple",data:=.seq #[a,b,c] }
section
variable{prog:Program}{w:World}{A:Around}{E:Value->Shared->Prop}{s:Shared}
theorem uN{T:Addr}{a b c x:Value}{k:Nat}{Q:Unit->Shared->Prop}(e:dP s.heap T a b c)
  (h:∀d,d.get? T=some { cls:=.type "tuple",data:=.seq ((#[a,b,c]:Array Value).setIfInBounds k x) }->Heap.SameBut T s.heap d->Q () { s with heap:=d }) :
  wpAny (model prog w) A (updateSeq T (·.setIfInBounds k x)) Q E s:=by
 refine wpAny_updateSeq e rfl (h _ ?_ (Heap.SameBut.update ..));rw[Heap.get?_update_self _ e rfl];simp[Obj.mapSeq]
theorem HW{z TI TO n r B l1 l2 l3:Addr}{k:Nat}{xs ys zs:Array Value}{x y v a b c:Value}{Q:Value->Shared->Prop}
  (nd:[z,TI,TO,n,r,B].Nodup) (hl:∀l∈[l1,l2,l3],∀j∈[z,TI,TO,n,r,B],l≠j)
  (hz:fk s.heap z TI TO .none (.bool false)) (a6:dP s.heap TI (.ref n) (.ref r) (.ref B)) (a7:dP s.heap TO a b c)
  (h1:s.heap.IsListIter n l1 k) (h2:s.heap.IsListIter r l2 k) (h3:s.heap.IsListIter B l3 k) (a8:s.heap.IsList l1 xs) (a9:s.heap.IsList l2 ys) (b0:s.heap.IsList l3 zs)
  (hx:xs[k]? = some x) (hy:ys[k]? = some y) (hv:zs[k]? = some v)
  (hQ:∀H,fk H z TI TO (rawInt s.heap.objs.size) (.bool false)->dP H TO x y v->H.IsListIter n l1 (k+1)->H.IsListIter r l2 (k+1)->H.IsListIter B l3 (k+1)->dP H s.heap.objs.size x y v->H.objs.size=s.heap.objs.size+1->
   (∀c o,c∉[z,TO,n,r,B]->s.heap.get? c=some o->H.get? c=some o)->Q (.ref s.heap.objs.size) { s with heap:=H }) :
  wpAny (model prog w) A (Builtin.«zip.__next__» ⟨[.ref z],[]⟩) (fun fin s'=>∃v,fin=.done (.ret v)/\Q v s') E s:=by
 simp only[List.nodup_cons,List.mem_cons,List.not_mem_nil,or_false,not_or,not_false_eq_true,and_true,List.nodup_nil] at nd;obtain⟨⟨c0,C,z1,z2,z3⟩,⟨b9,c6,c7,c8⟩,⟨I,J,L⟩,⟨a0,a1⟩,a2⟩:=nd;have n1:∀j∈[z,TI,TO,n,r,B],l1≠j:=hl l1 (by simp);have n2:∀j∈[z,TI,TO,n,r,B],l2≠j:=hl l2 (by simp);have n3:∀j∈[z,TI,TO,n,r,B],l3≠j:=hl l3 (by simp);show wpAny _ _ (field (.ref z) 2 >>= _) _ _ _;refine al (wpAny_field hz rfl (x:=.bool false) rfl ?_);show wpAny _ _ (field (.ref z) 3 >>= _) _ _ _;refine al (wpAny_field hz rfl (x:=.ref TI) rfl ?_);refine al (wpAny_seqItems a6 rfl ?_);show wpAny _ _ (Builtin.SmallTypes.ownedTupleIsFree (.ref z) >>= _) _ _ _;refine al ?_;unfold Builtin.SmallTypes.ownedTupleIsFree;refine al (wpAny_field hz rfl (x:=.none) rfl (aV ?_));simp only[if_true];refine al (wpAny_rule ?_);refine al (wpAny_field hz rfl (x:=.ref TO) rfl ?_);refine al (wpAny_setField_rec hz (by simp) fun h₁ U d=>?_)
 replace U:fk h₁ z TI TO .ellipsis (.bool false):=U
 refine al ?_;simp only[List.zipIdx_cons,List.zipIdx_nil,List.forIn_cons,List.forIn_nil];refine al (al (wpAny_onRaise ?_));show wpAny _ _ (Builtin.SmallTypes.nextOf (.ref n) >>= _) _ _ _;refine al (wpAny_nextOf_list_item (h1.extBut d.extBut (Ne.symm z1)) (a8.extBut d.extBut (n1 z (by simp))) hx fun h₂ b1 f=>aV ?_);have N:dP h₂ TO a b c:=f.extBut _ _ I (d.extBut _ _ (Ne.symm C) a7);refine al (wpAny_seqItems N rfl ?_);refine al (uN N fun h₃ D g=>?_)
 replace D:dP h₃ TO x b c:=D
 refine al (wpAny_letGo (aV ?_));refine al (al (wpAny_onRaise ?_));show wpAny _ _ (Builtin.SmallTypes.nextOf (.ref r) >>= _) _ _ _;refine al (wpAny_nextOf_list_item (((h2.extBut d.extBut (Ne.symm z2)).extBut f.extBut (Ne.symm a0)).extBut g.extBut (Ne.symm J))
  (((a9.extBut d.extBut (n2 z (by simp))).extBut f.extBut (n2 n (by simp))).extBut g.extBut (n2 TO (by simp))) hy fun h₄ b2 i=>aV ?_)
 have O:dP h₄ TO x b c:=i.extBut _ _ J D;refine al (wpAny_seqItems O rfl ?_);refine al (uN O fun h₅ G m=>?_)
 replace G:dP h₅ TO x y c:=G
 refine al (wpAny_letGo (aV ?_));refine al (al (wpAny_onRaise ?_));show wpAny _ _ (Builtin.SmallTypes.nextOf (.ref B) >>= _) _ _ _;refine al (wpAny_nextOf_list_item (((((h3.extBut d.extBut (Ne.symm z3)).extBut f.extBut (Ne.symm a1)).extBut g.extBut (Ne.symm L)).extBut i.extBut (Ne.symm a2)).extBut m.extBut (Ne.symm L))
  (((((b0.extBut d.extBut (n3 z (by simp))).extBut f.extBut (n3 n (by simp))).extBut g.extBut (n3 TO (by simp))).extBut i.extBut (n3 r (by simp))).extBut m.extBut (n3 TO (by simp))) hv fun h₆ b3 t=>aV ?_)
 have R:dP h₆ TO x y c:=t.extBut _ _ L G;refine al (wpAny_seqItems R rfl ?_);refine al (uN R fun h p u=>?_)
 replace p:dP h TO x y v:=p
 refine al (wpAny_letGo (aV (aV ?_)));refine al (wpAny_seqItems p rfl ?_);refine al (wpAny_newTuple ?_);have b4:∀c o,c∉[z,TO,n,r,B]->s.heap.get? c=some o->h.get? c=some o:=fun c o hc e=>by simp only[List.mem_cons,List.not_mem_nil,or_false,not_or] at hc;obtain⟨c1,c2,c3,c4,c5⟩:=hc;exact u.extBut _ _ c2 (t.extBut _ _ c5 (m.extBut _ _ c2 (i.extBut _ _ c4 (g.extBut _ _ c2 (f.extBut _ _ c3 (d.extBut _ _ c1 e))))))
 have a3:h.objs.size=s.heap.objs.size:=by rw[u.1,t.1,m.1,i.1,g.1,f.1,d.1]
 have a4:fk h z TI TO .ellipsis (.bool false):=u.extBut _ _ C (t.extBut _ _ z3 (m.extBut _ _ C (i.extBut _ _ z2 (g.extBut _ _ C (f.extBut _ _ z1 U)))));have b5:h.IsListIter n l1 (k+1):=((((b1.extBut g.extBut (Ne.symm I)).extBut i.extBut a0).extBut m.extBut (Ne.symm I)).extBut t.extBut a1).extBut u.extBut (Ne.symm I);have b6:h.IsListIter r l2 (k+1):=((b2.extBut m.extBut (Ne.symm J)).extBut t.extBut a2).extBut u.extBut (Ne.symm J);have b7:h.IsListIter B l3 (k+1):=b3.extBut u.extBut (Ne.symm L);have S:z<h.objs.size:=bB a4;show wpAny _ _ (Builtin.SmallTypes.ownedTupleHandOut (.ref z) (.ref h.objs.size) >>= _) _ _ _;refine al ?_;unfold Builtin.SmallTypes.ownedTupleHandOut;have b8:fk (h.push { cls:=.type "tuple",data:=.seq #[x,y,v] }) z TI TO .ellipsis (.bool false):=bA _ a4;refine al (wpAny_setField_rec b8 (by simp) fun h₉ X Y=>?_)
 replace X:fk h₉ z TI TO (rawInt h.objs.size) (.bool false):=X
 refine wpAny_setField_rec X (by simp) fun hA M Z=>?_
 replace M:fk hA z TI TO (rawInt h.objs.size) (.bool false):=M
 have up:∀c o,c≠z->h.get? c=some o->hA.get? c=some o:=fun c o c1 e=>Z.extBut _ _ c1 (Y.extBut _ _ c1 (bA _ e));have a5:dP hA h.objs.size x y v:=Z.extBut _ _ (Nat.ne_of_gt S) (Y.extBut _ _ (Nat.ne_of_gt S) (Heap.get?_push_size _ rfl));have T:hA.objs.size=h.objs.size+1:=by rw[Z.1,Y.1,Heap.size_push]
 rw[a3] at M a5 T;refine aV ⟨_,rfl,?_⟩;show Q (.ref h.objs.size) _;rw[a3];exact hQ hA M (up _ _ (Ne.symm C) p) (b5.at fun o e=>up _ o (Ne.symm z1) e) (b6.at fun o e=>up _ o (Ne.symm z2) e) (b7.at fun o e=>up _ o (Ne.symm z3) e) a5 T fun c o hc e=>up c o (fun q=>hc (by simp[q])) (b4 c o hc e)
theorem zK{z TI TO T:Addr}{f1:Value}{g:Obj}{Q:Bool->Shared->Prop}(b:f1=.bool false\/f1=.bool true)(a:fk s.heap z TI TO (rawInt T) f1)(h:s.heap.get? T=some g)
  (f:∀c,fk c z TI TO (rawInt T) (.bool true)->Heap.SameBut z s.heap c->Q false { s with heap:=c }):wpAny (model prog w) A (Builtin.SmallTypes.ownedTupleIsFree (.ref z)) Q E s:=by
 unfold Builtin.SmallTypes.ownedTupleIsFree;refine al (wpAny_field a rfl (x:=rawInt T) rfl ?_);show wpAny _ _ (loadIfAlive (Int.toNat T) >>= _) _ _ _;refine al (HV ?_);rw[Int.toNat_natCast,h];show wpAny _ _ (field (.ref z) 1 >>= _) _ _ _;refine al (wpAny_field a rfl (x:=f1) rfl ?_);rcases b with rfl | rfl
 ·show wpAny _ _ (setField (.ref z) 1 (.bool true) >>= _) _ _ _;exact al (wpAny_setField_rec a (by simp) fun i d e=>aV (f i d e))
 ·exact aV (f s.heap a (Heap.SameBut.refl ..))
theorem HX{z TI TO d g h p q r T:Addr}{k:Nat}{f1:Value}{oT:Obj}{Y Z zs:Array Value}{x y v:Value}{Q:Value->Shared->Prop}
  (nd:[z,TI,TO,d,g,h].Nodup) (G:∀l∈[p,q,r],∀j∈[z,TI,TO,d,g,h],l≠j) (H:f1=.bool false\/f1=.bool true)
  (I:fk s.heap z TI TO (rawInt T) f1) (hT:s.heap.get? T=some oT) (J:dP s.heap TI (.ref d) (.ref g) (.ref h))
  (h1:s.heap.IsListIter d p k) (h2:s.heap.IsListIter g q k) (h3:s.heap.IsListIter h r k) (L:s.heap.IsList p Y) (M:s.heap.IsList q Z) (N:s.heap.IsList r zs)
  (hx:Y[k]? = some x) (hy:Z[k]? = some y) (hv:zs[k]? = some v)
  (hQ:∀m,fk m z TI TO (rawInt T) (.bool true)->m.IsListIter d p (k+1)->m.IsListIter g q (k+1)->m.IsListIter h r (k+1)->dP m s.heap.objs.size x y v->m.objs.size=s.heap.objs.size+1->
   (∀c o,c∉[z,d,g,h]->s.heap.get? c=some o->m.get? c=some o)->Q (.ref s.heap.objs.size) { s with heap:=m }) :
  wpAny (model prog w) A (Builtin.«zip.__next__» ⟨[.ref z],[]⟩) (fun fin s'=>∃v,fin=.done (.ret v)/\Q v s') E s:=by
 simp only[List.nodup_cons,List.mem_cons,List.not_mem_nil,or_false,not_or,not_false_eq_true,and_true,List.nodup_nil] at nd;obtain⟨⟨a1,a2,z1,z2,z3⟩,⟨a0,a3,a4,a5⟩,⟨a6,a7,a8⟩,⟨t,u⟩,B⟩:=nd;have n1:∀j∈[z,TI,TO,d,g,h],p≠j:=G p (by simp);have n2:∀j∈[z,TI,TO,d,g,h],q≠j:=G q (by simp);have O:∀j∈[z,TI,TO,d,g,h],r≠j:=G r (by simp);show wpAny _ _ (field (.ref z) 2 >>= _) _ _ _;refine al (wpAny_field I rfl (x:=.bool false) rfl ?_);show wpAny _ _ (field (.ref z) 3 >>= _) _ _ _;refine al (wpAny_field I rfl (x:=.ref TI) rfl ?_);refine al (wpAny_seqItems J rfl ?_);show wpAny _ _ (Builtin.SmallTypes.ownedTupleIsFree (.ref z) >>= _) _ _ _;refine al (zK H I hT fun h₁ R a=>?_);simp only[Bool.false_eq_true,if_false];refine al ?_;simp only[List.forIn_toArray,List.forIn_cons,List.forIn_nil];refine al (al (wpAny_holding ?_));show wpAny _ _ (Builtin.SmallTypes.nextOf (.ref d) >>= _) _ _ _;refine al (wpAny_nextOf_list_item (h1.extBut a.extBut (Ne.symm z1)) (L.extBut a.extBut (n1 z (by simp))) hx fun h₂ S b=>aV (aV ?_));refine al (al (wpAny_holding ?_));show wpAny _ _ (Builtin.SmallTypes.nextOf (.ref g) >>= _) _ _ _;refine al (wpAny_nextOf_list_item ((h2.extBut a.extBut (Ne.symm z2)).extBut b.extBut (Ne.symm t)) ((M.extBut a.extBut (n2 z (by simp))).extBut b.extBut (n2 d (by simp))) hy fun h₃ U f=>aV (aV ?_));refine al (al (wpAny_holding ?_));show wpAny _ _ (Builtin.SmallTypes.nextOf (.ref h) >>= _) _ _ _;refine al (wpAny_nextOf_list_item (((h3.extBut a.extBut (Ne.symm z3)).extBut b.extBut (Ne.symm u)).extBut f.extBut (Ne.symm B)) (((N.extBut a.extBut (O z (by simp))).extBut b.extBut (O d (by simp))).extBut f.extBut (O g (by simp))) hv fun C X i=>aV (aV (aV ?_)));show wpAny _ _ (newTuple [x,y,v] >>= _) _ _ _;refine al (wpAny_newTuple ?_);refine aV ⟨_,rfl,?_⟩;have n:C.objs.size=s.heap.objs.size:=by rw[i.1,f.1,b.1,a.1]
 show Q (.ref C.objs.size) { s with heap:=C.push { cls:=.type "tuple",data:=.seq #[x,y,v] } };have up:∀c o,c∉[z,d,g,h]->s.heap.get? c=some o->C.get? c=some o:=fun c o D e=>by simp only[List.mem_cons,List.not_mem_nil,or_false,not_or] at D;obtain⟨c1,c2,c3,c4⟩:=D;exact i.extBut _ _ c4 (f.extBut _ _ c3 (b.extBut _ _ c2 (a.extBut _ _ c1 e)))
 rw[n];refine hQ _ (bA _ (i.extBut _ _ z3 (f.extBut _ _ z2 (b.extBut _ _ z1 R)))) (((S.extBut f.extBut t).extBut i.extBut u).at fun o e=>bA _ e) ((U.extBut i.extBut B).at fun o e=>bA _ e)
  (X.at fun o e=>bA _ e) ?_ (by rw[Heap.size_push,n]) fun c o D e=>bA _ (up c o D e)
 rw[<-n];exact Heap.get?_push_size _ rfl
theorem HY{z TI TO a f g d l2 l3 T:Addr}{k:Nat}{f1:Value}{y:Obj}{t:Array Value}{Q:Fin->Shared->Prop}(B:A.handled=none)
  (v:[z,TI,TO,a,f,g].Nodup) (C:∀l∈[d,l2,l3],∀j∈[z,TI,TO,a,f,g],l≠j) (h:f1=.bool false\/f1=.bool true)
  (i:fk s.heap z TI TO (rawInt T) f1) (D:s.heap.get? T=some y) (m:dP s.heap TI (.ref a) (.ref f) (.ref g))
  (h1:s.heap.IsListIter a d k) (n:s.heap.IsList d t) (hx:t[k]? = none)
  (G:∀p e,(∀c o,c∉[z,a]->s.heap.get? c=some o->p.get? c=some o)->(∃o,p.get? e=some o/\o.cls=.type "StopIteration")->E (.ref e) { s with heap:=p }) :
  wpAny (model prog w) A (Builtin.«zip.__next__» ⟨[.ref z],[]⟩) Q E s:=by
 simp only[List.nodup_cons,List.mem_cons,List.not_mem_nil,or_false,not_or,not_false_eq_true,and_true,List.nodup_nil] at v;obtain⟨⟨H,I,J,z2,z3⟩,⟨u,L,M,N⟩,⟨O,R,S⟩,⟨U,X⟩,Y⟩:=v;have Z:∀j∈[z,TI,TO,a,f,g],d≠j:=C d (by simp);show wpAny _ _ (field (.ref z) 2 >>= _) _ _ _;refine al (wpAny_field i rfl (x:=.bool false) rfl ?_);show wpAny _ _ (field (.ref z) 3 >>= _) _ _ _;refine al (wpAny_field i rfl (x:=.ref TI) rfl ?_);refine al (wpAny_seqItems m rfl ?_);show wpAny _ _ (Builtin.SmallTypes.ownedTupleIsFree (.ref z) >>= _) _ _ _;refine al (zK h i D fun h₁ a0 b=>?_);simp only[Bool.false_eq_true,if_false];refine al ?_;simp only[List.forIn_toArray,List.forIn_cons,List.forIn_nil];refine al (al (wpAny_holding ?_));show wpAny _ _ (Builtin.SmallTypes.nextOf (.ref a) >>= _) _ _ _;refine al (wpAny_nextOf_list_end B (h1.extBut b.extBut (Ne.symm J)) (n.extBut b.extBut (Z z (by simp))) hx fun h₂ e q he=>?_);refine G h₂ e (fun c o r x=>?_) he;simp only[List.mem_cons,List.not_mem_nil,or_false,not_or] at r;exact q _ _ r.2 (b.extBut _ _ r.1 x)
end
structure Z3 (h:Heap) (z TI TO i1 i2 i3 l1 l2 l3:Addr) (xs ys zs:Array Value) (S:Addr) (i:Nat):Prop where
 zrec:∃(f0 f1:Value),fk h z TI TO f0 f1/\(f1=.bool false\/f1=.bool true)/\((i=0/\f0=.none/\f1=.bool false)\/(0<i/\∃(T:Addr) (oT:Obj),f0=rawInt T/\h.get? T=some oT/\T∉[S,z,TO,i1,i2,i3]))
 ti:dP h TI (.ref i1) (.ref i2) (.ref i3)
 to:∃a b c,dP h TO a b c
 h1:h.IsListIter i1 l1 i
 h2:h.IsListIter i2 l2 i
 h3:h.IsListIter i3 l3 i
 l1:h.IsList l1 xs
 l2:h.IsList l2 ys
 l3:h.IsList l3 zs
def qj(h:Heap)(n:Addr)(b c d:Array Value)(a:List Value):Prop:=
 ∀(j:Nat) (v:Value),a[j]? = some v->∃(T:Addr) (x y u:Value),v=Value.ref T/\n<=T/\dP h T x y u/\b[j]? = some x/\c[j]? = some y/\d[j]? = some u
section
variable{prog:Program}{w:World}{A:Around}{E:Value->Shared->Prop}{s:Shared}
theorem HZ{z TI TO f g h u B C S:Addr}{i:Nat}{R U X:Array Value}{x y v:Value}{Q:Option Value->Shared->Prop}
  (D:[z,TI,TO,f,g,h].Nodup) (Y:∀l∈[u,B,C],∀j∈[z,TI,TO,f,g,h],l≠j) (st:Z3 s.heap z TI TO f g h u B C R U X S i) (hS:S<s.heap.objs.size)
  (hx:R[i]? = some x) (hy:U[i]? = some y) (hv:X[i]? = some v)
  (hQ:∀k,Z3 k z TI TO f g h u B C R U X S (i+1)->dP k s.heap.objs.size x y v->k.objs.size=s.heap.objs.size+1->(∀c o,c∉[z,TO,f,g,h]->s.heap.get? c=some o->k.get? c=some o)->Q (some (.ref s.heap.objs.size)) { s with heap:=k }) :
  wpAny (model prog w) A (pyNext (.ref z)) Q E s:=by
 obtain⟨⟨f0,f1,N,Z,hf⟩,ti,⟨a,b,c,to⟩,h1,h2,h3,m,n,p⟩:=st;have hT:s.TypeIs (.ref z) "zip":=⟨_,N,rfl⟩
 have lt:∀{c o},s.heap.get? c=some o->s.heap.objs.size≠c:=fun e=>Nat.ne_of_gt (bB e);have new:s.heap.objs.size∉[S,z,TO,f,g,h]:=by simp only[List.mem_cons,List.not_mem_nil,or_false,not_or];exact⟨Nat.ne_of_gt hS,lt N,lt to,(by obtain⟨_,e,_⟩:=h1;exact lt e),(by obtain⟨_,e,_⟩:=h2;exact lt e),(by obtain⟨_,e,_⟩:=h3;exact lt e)⟩
 have sub:∀l∈[u,B,C],l∉[z,TO,f,g,h]:=fun l hm z'=>by simp only[List.mem_cons,List.not_mem_nil,or_false] at z';rcases z' with q | q | q | q | q<;>exact Y l hm _ (by simp) q
 have G:TI∉[z,TO,f,g,h]:=by simp only[List.nodup_cons,List.mem_cons,List.not_mem_nil,or_false,not_or,not_false_eq_true,and_true,List.nodup_nil] at D;obtain⟨⟨H,I,z1,z2,z3⟩,⟨r,J,L,M⟩,_⟩:=D;simp only[List.mem_cons,List.not_mem_nil,or_false,not_or];exact⟨Ne.symm H,r,J,L,M⟩
 unfold pyNext;refine al (wpAny_attempt (wpAny_callSpecial?_slot (name:=Str.ofString "__next__") hT F.slot_zip_next (wpAny_call_entry F.slot_zip_next hT F.entry_zip_next ?_ (F.args_zip_next_1 _))));rcases hf with⟨hi,rfl,rfl⟩ | ⟨hi,T,oT,rfl,eT,nT⟩
 ·refine HW D Y N ti to h1 h2 h3 m n p hx hy hv fun k a1 a2 a3 a4 a5 O a7 t=>aV ?_;exact hQ k ⟨⟨_,_,a1,.inl rfl,.inr ⟨Nat.succ_pos _,_,_,rfl,O,new⟩⟩,t _ _ G ti,⟨_,_,_,a2⟩,a3,a4,a5,m.at fun o e=>t _ o (sub u (by simp)) e,n.at fun o e=>t _ o (sub B (by simp)) e,p.at fun o e=>t _ o (sub C (by simp)) e⟩ O a7 t
 ·refine HX D Y Z N eT ti h1 h2 h3 m n p hx hy hv fun k a1 a3 a4 a5 O a7 t=>aV ?_;have d:∀c o,c∉[z,TO,f,g,h]->s.heap.get? c=some o->k.get? c=some o:=fun c o hc e=>t c o (fun q=>hc (by simp only[List.mem_cons,List.not_mem_nil,or_false] at q ⊢;rcases q with q | q | q | q<;>simp[q])) e;have a0:TO∉[z,f,g,h]:=by simp only[List.nodup_cons,List.mem_cons,List.not_mem_nil,or_false,not_or,not_false_eq_true,and_true,List.nodup_nil] at D;obtain⟨⟨H,I,z1,z2,z3⟩,⟨r,J,L,M⟩,⟨a9,b0,b1⟩,_⟩:=D;simp only[List.mem_cons,List.not_mem_nil,or_false,not_or];exact⟨Ne.symm I,a9,b0,b1⟩
  refine hQ k ⟨⟨_,_,a1,.inr rfl,.inr ⟨Nat.succ_pos _,_,_,rfl,d T oT (fun q=>nT (bQ _ q)) eT,nT⟩⟩,d _ _ G ti,⟨a,b,c,t _ _ a0 to⟩,a3,a4,a5,m.at fun o e=>d _ o (sub u (by simp)) e,n.at fun o e=>d _ o (sub B (by simp)) e,p.at fun o e=>d _ o (sub C (by simp)) e⟩ O a7 d
theorem Ia{z TI TO d f g r t u S:Addr}{i:Nat}{n v x:Array Value}{Q:Option Value->Shared->Prop}(y:A.handled=none)
  (O:[z,TI,TO,d,f,g].Nodup) (B:∀l∈[r,t,u],∀j∈[z,TI,TO,d,f,g],l≠j) (st:Z3 s.heap z TI TO d f g r t u n v x S i) (U:0<i) (R:n[i]? = none)
  (C:∀h,(∀c o,c∉[z,d]->s.heap.get? c=some o->h.get? c=some o)->Q none { s with heap:=h }) :
  wpAny (model prog w) A (pyNext (.ref z)) Q E s:=by
 obtain⟨⟨X,f1,p,k,D⟩,ti,⟨a,b,c,to⟩,h1,h2,h3,m,G,H⟩:=st;have q:s.TypeIs (.ref z) "zip":=⟨_,p,rfl⟩
 rcases D with⟨I,_⟩ | ⟨_,T,Y,rfl,J,Z⟩
 ·omega
 ·unfold pyNext;refine al (wpAny_attempt (wpAny_callSpecial?_slot (name:=Str.ofString "__next__") q F.slot_zip_next
   (wpAny_call_entry F.slot_zip_next q F.entry_zip_next (HY y O B k p J ti h1 m R fun h e L M=>?_) (F.args_zip_next_1 _))))
  obtain⟨o,ho,N⟩:=M;refine al (wpAny_isInstance (T:="StopIteration") (b:=true) ⟨o,ho,N⟩ isSubtype_stop ?_);exact aV (C _ L)
end
section
variable{prog:Program}{w:World}{A:Around}{R:Result->Shared->Prop}
theorem Z3.keep{h u:Heap}{z TI TO d f g r s t S:Addr}{v x y:Array Value}{i:Nat}(st:Z3 h z TI TO d f g r s t v x y S i)(B:S∉[z,TI,TO,d,f,g,r,s,t])(k:∀b o,b≠S->h.get? b=some o->u.get? b=some o) :
  Z3 u z TI TO d f g r s t v x y S i:=by
 simp only[List.mem_cons,List.not_mem_nil,or_false,not_or] at B;obtain⟨D,E,G,H,I,J,L,M,N⟩:=B;obtain⟨⟨O,f1,Q,j,l⟩,ti,⟨a,b,c,to⟩,h1,h2,h3,m,n,p⟩:=st;refine⟨⟨O,f1,k _ _ (Ne.symm D) Q,j,?_⟩,k _ _ (Ne.symm E) ti,⟨a,b,c,k _ _ (Ne.symm G) to⟩,h1.at fun o e=>k _ o (Ne.symm H) e,h2.at fun o e=>k _ o (Ne.symm I) e,h3.at fun o e=>k _ o (Ne.symm J) e,m.at fun o e=>k _ o (Ne.symm L) e,n.at fun o e=>k _ o (Ne.symm M) e,p.at fun o e=>k _ o (Ne.symm N) e⟩;rcases l with l | ⟨U,T,X,e,Y,C⟩
 ·exact .inl l
 ·exact .inr ⟨U,T,X,e,k _ _ (fun q=>C (by simp[q])) Y,C⟩
noncomputable abbrev cm(a:Array Value)(v:Value)(c:Nat):Nat:=if (a.push v).size==a.size then c else c+1
theorem Ib{z TI TO p D E l1 l2 l3 S n₀:Addr}{h L M:Array Value}(hh:A.handled=none)
  (nd:[z,TI,TO,p,D,E].Nodup) (hl:∀l∈[l1,l2,l3],∀j∈[z,TI,TO,p,D,E],l≠j) (hS:S∉[z,TI,TO,p,D,E,l1,l2,l3]) (J:∀j∈[S,z,TI,TO,p,D,E],j<n₀)
  (e2:L.size=h.size) (e3:M.size=h.size) (a6:0<h.size) (hn:h.size<=sizeLine) (res:Value) :
  ∀(k i:Nat) (s:Shared) (a:List Value) (c:Nat),h.size - i=k->i<=h.size->Z3 s.heap z TI TO p D E l1 l2 l3 h L M S i->n₀<=s.heap.objs.size->s.heap.get? S=some { cls:=.type "list",dict:=none,data:=.seq a.toArray c,slots:=#[] }->a.length=i->qj s.heap n₀ h L M a->
  (∀n d c',(∀b o,b∉[S,z,TO,p,D,E]->s.heap.get? b=some o->n.get? b=some o)->n.get? S=some { cls:=.type "list",dict:=none,data:=.seq d.toArray c',slots:=#[] }->d.length=h.size->qj n n₀ h L M d->R (.ok (.ret res)) { s with heap:=n })->
  codeAny (model prog w) A (.builtin "list.extend.loop" ⟨[.ref S,.ref z,res],[]⟩) R s:=by
 intro k
 induction k with
 | zero=>
  intro i s a c hk hi st r B f tr hR;have N:i=h.size:=by omega
  refine codeAny_builtin F.entry_extend_loop ?_;rw[Around.under_plainId F.plain_extend_loop _];show wpAny _ A.in1 (pyNext (.ref z) >>= _) _ _ s;have nS:S∉[z,p]:=fun q=>hS (by simp only[List.mem_cons,List.not_mem_nil,or_false] at q ⊢;rcases q with q | q<;>simp[q]);refine al (Ia hh nd hl st (by omega) (by rw[N];exact Array.getElem?_eq_none (bH _)) fun n g=>?_);refine aV (hR n a c (fun b o J e=>g b o (fun q=>J (by simp only[List.mem_cons,List.not_mem_nil,or_false] at q ⊢;rcases q with q | q<;>simp[q])) e) (g S _ nS B) (f.trans N) fun j v H=>?_);obtain⟨T,x,y,u,e,G,t,q⟩:=tr j v H;refine⟨T,x,y,u,e,G,g T _ (fun m=>?_) t,q⟩;simp only[List.mem_cons,List.not_mem_nil,or_false] at m;rcases m with m | m
  ·exact absurd (J z (by simp)) (by rw[<-m];exact Nat.not_lt.mpr G)
  ·exact absurd (J p (by simp)) (by rw[<-m];exact Nat.not_lt.mpr G)
 | succ k ih=>
  intro i s a c hk hi st r B f tr hR;have O:i<h.size:=by omega
  refine codeAny_builtin F.entry_extend_loop ?_;rw[Around.under_plainId F.plain_extend_loop _];show wpAny _ A.in1 (pyNext (.ref z) >>= _) _ _ s;refine al (HZ nd hl st (bB B) (x:=h[i]) (y:=L[i]) (v:=M[i]) (Array.getElem?_eq_getElem O) (Array.getElem?_eq_getElem (by omega)) (Array.getElem?_eq_getElem (by omega)) fun n a0 a1 Q g=>?_);have nS:S∉[z,TO,p,D,E]:=fun q=>hS (by simp only[List.mem_cons,List.not_mem_nil,or_false] at q ⊢;rcases q with q | q | q | q | q<;>simp[q]);have U:=g S _ nS B;have ha:a.toArray.size=i:=by rw[List.size_toArray];exact f
  show wpAny _ A.in1 (updateSeq S (·.push (.ref s.heap.objs.size)) >>= _) _ _ _;refine al ?_;have old:∀b o,b≠S->n.get? b=some o->(n.update S (Obj.mapSeq (·.push (.ref s.heap.objs.size)))).get? b=some o:=fun b o J e=>(Heap.get?_update_other _ _ (Ne.symm J)).trans e;have big:∀T,n₀<=T->T∉[S,z,TO,p,D,E]:=fun T G m=>by simp only[List.mem_cons,List.not_mem_nil,or_false] at m;rcases m with m | m | m | m | m | m<;>exact absurd (J T (by rw[m];simp)) (Nat.not_lt.mpr G)
  refine wpAny_updateSeq U rfl (aV ⟨plainId_quiet F.plain_extend_loop _,ih (i+1) _ (a++[.ref s.heap.objs.size]) (cm a.toArray (.ref s.heap.objs.size) c) (by omega) O (a0.keep hS old) ?_ ?_ (by rw[List.length_append,f];rfl) ?_ fun a2 d c' X Y a3 Z=>?_⟩)
   (by rw[ha];omega) (by show(a.toArray.push _).size<=sizeLine+1;rw[Array.size_push,ha];omega)
  ·show n₀<=(n.update S (Obj.mapSeq (·.push (.ref s.heap.objs.size)))).objs.size;rw[show(n.update S (Obj.mapSeq (·.push (Value.ref s.heap.objs.size)))).objs.size=n.objs.size from(Heap.SameBut.update ..).1,Q];exact Nat.le_succ_of_le r
  ·have q:=Heap.get?_update_self (Obj.mapSeq (·.push (Value.ref s.heap.objs.size))) U rfl;have e:a.toArray.push (Value.ref s.heap.objs.size)=(a++[Value.ref s.heap.objs.size]).toArray:=by simp
   have q':(n.update S (Obj.mapSeq (·.push (Value.ref s.heap.objs.size)))).get? S=some { cls:=.type "list",dict:=none,data:=.seq (a.toArray.push (Value.ref s.heap.objs.size)) (cm a.toArray (Value.ref s.heap.objs.size) c),slots:=#[] }:=q;rw[e] at q';exact q'
  ·intro j v H
   by_cases a4:j<a.length
   ·rw[List.getElem?_append_left a4] at H;obtain⟨T,x,y,u,e,G,t,q⟩:=tr j v H;have nb:=big T G;exact⟨T,x,y,u,e,G,old T _ (fun C=>nb (by simp[C])) (g T _ (fun C=>nb (bQ _ C)) t),q⟩
   ·have a5:j=a.length:=by have:=(List.getElem?_eq_some_iff.mp H).1;rw[List.length_append,List.length_singleton] at this;omega
    subst a5;rw[List.getElem?_append_right (bH _),Nat.sub_self] at H;cases H;have nb:=big s.heap.objs.size r;refine⟨s.heap.objs.size,h[i],L[i],M[i],rfl,r,old _ _ (fun C=>nb (by simp[C])) a1,?_,?_,?_⟩<;>(rw[f];exact Array.getElem?_eq_getElem (by omega))
  ·refine hR a2 d c' (fun b o I e=>X b o I (old b o (fun C=>I (by simp[C])) (g b o (fun C=>I (bQ _ C)) e))) Y a3 Z
end
namespace F3
theorem zip_no_len:typeLookup (.type "zip") "__len__" = pure none:=by rw[typeLookup_type,builtinLookup_eq_fast];kernel_rfl
theorem zip_no_hint:typeLookup (.type "zip") "__length_hint__" = pure none:=by rw[typeLookup_type,builtinLookup_eq_fast];kernel_rfl
theorem typeCall_zip_3(a b c:Value):checkTypeCall "zip" ⟨[a,b,c],[]⟩=pure ():=by kernel_rfl
theorem newCall_zip_3(a b c:Value):checkBuiltinCall "zip.__new__" ⟨[.type "zip",a,b,c],[]⟩=pure ():=by kernel_rfl
theorem args_object_init_4(a b c d:Value):argsOk "object.__init__" ⟨[a,b,c,d],[]⟩:=by unfold argsOk;rw[signature?_of (id:="object.__init__") (n:=['_','_','t','i','n','i','_','_']) (o:=['t','c','e','j','b','o']) (by kernel_rfl) F.owner_object];kernel_rfl
end F3
noncomputable abbrev zA(h:Heap)(a:Addr):Heap:=h.push { cls:=.type "list_iterator",data:=.fields #[.ref a,.int 0 0] }
noncomputable abbrev zB(h:Heap)(a b:Addr):Heap:=(zA h a).push { cls:=.type "list_iterator",data:=.fields #[.ref b,.int 0 0] }
noncomputable abbrev zC(h:Heap)(a b c:Addr):Heap:=(zB h a b).push { cls:=.type "list_iterator",data:=.fields #[.ref c,.int 0 0] }
noncomputable abbrev zD(h:Heap)(a b c:Addr):Heap:=(zC h a b c).push { cls:=.type "tuple",data:=.seq #[.ref h.objs.size,.ref (zA h a).objs.size,.ref (zB h a b).objs.size] }
noncomputable abbrev zE(h:Heap)(a b c:Addr):Heap:=(zD h a b c).push { cls:=.type "tuple",data:=.seq #[.none,.none,.none] }
noncomputable abbrev zF(h:Heap)(a b c:Addr):Heap:=(zE h a b c).push { cls:=.type "zip",data:=.fields #[.none,.bool false,.bool false,.ref (zC h a b c).objs.size,.ref (zD h a b c).objs.size] }
theorem Ie(a b c:Addr)(o p q:Array Value) :
  Meets (Builtin.«zip.__new__» ⟨[.type "zip",.ref a,.ref b,.ref c],[]⟩) (fun _ R s=>s.heap.IsList a o/\s.heap.IsList b p/\s.heap.IsList c q/\
   R (.ok (.ret (.ref (zE s.heap a b c).objs.size))) { s with heap:=zF s.heap a b c }):=
 .of_wp fun t w A R s h=>by
  obtain⟨e,g,d,f,os⟩:=s;obtain⟨i,j,k,h⟩:=h;have r:=sub_zip;have l:Heap.IsList (Shared.heap ⟨e,g,d,f,os⟩) a o:=i;have m:Heap.IsList (Shared.heap ⟨e.push { cls:=.type "list_iterator",data:=.fields #[.ref a,.int 0 0] },g,d,f,os⟩) b p:=Heap.IsList.push j _;have n:Heap.IsList (Shared.heap ⟨(e.push { cls:=.type "list_iterator",data:=.fields #[.ref a,.int 0 0] }).push { cls:=.type "list_iterator",data:=.fields #[.ref b,.int 0 0] },g,d,f,os⟩) c q:=Heap.IsList.push (Heap.IsList.push k _) _
  wp_walk using wpAny_pyIter_list l,wpAny_pyIter_list m,wpAny_pyIter_list n
  exact⟨_,rfl,h⟩
section
variable{prog:Program}{w:World}{A:Around}{E:Value->Shared->Prop}{s:Shared}
theorem Ig{a b d:Addr}{q r t:Array Value}{Q:Value->Shared->Prop}(f:s.heap.IsList a q)(g:s.heap.IsList b r)(i:s.heap.IsList d t)
  (h:∀e,fk e (s.heap.objs.size+5) (s.heap.objs.size+3) (s.heap.objs.size+4) .none (.bool false)->dP e (s.heap.objs.size+3) (.ref s.heap.objs.size) (.ref (s.heap.objs.size+1)) (.ref (s.heap.objs.size+2))->
   dP e (s.heap.objs.size+4) .none .none .none->e.IsListIter s.heap.objs.size a 0->e.IsListIter (s.heap.objs.size+1) b 0->e.IsListIter (s.heap.objs.size+2) d 0->e.objs.size=s.heap.objs.size+6->
   (∀c o,s.heap.get? c=some o->e.get? c=some o)->Q (.ref (s.heap.objs.size+5)) { s with heap:=e }) :
  wpAny (model prog w) A (call (.type "zip") [.ref a,.ref b,.ref d]) Q E s:=by
 refine callType_new F.called_zip (by decide) (F3.typeCall_zip_3 _ _ _) (F3.newCall_zip_3 _ _ _) (fun obj=>F3.args_object_init_4 obj _ _ _) F.entry_zip_new
  (Ie a b d q r t) ⟨f,g,i,?_⟩
 have j:(zA s.heap a).objs.size=s.heap.objs.size+1:=Heap.size_push ..;have k:(zB s.heap a b).objs.size=s.heap.objs.size+2:=by rw[Heap.size_push,j]
 have l:(zC s.heap a b d).objs.size=s.heap.objs.size+3:=by rw[Heap.size_push,k]
 have m:(zD s.heap a b d).objs.size=s.heap.objs.size+4:=by rw[Heap.size_push,l]
 have n:(zE s.heap a b d).objs.size=s.heap.objs.size+5:=by rw[Heap.size_push,m]
 have y:(zF s.heap a b d).objs.size=s.heap.objs.size+6:=by rw[Heap.size_push,n]
 have p:(zF s.heap a b d).get? (zE s.heap a b d).objs.size=some _:=Heap.get?_push_size _ rfl;have u:(zF s.heap a b d).get? (zD s.heap a b d).objs.size=some _:=bA _ (Heap.get?_push_size _ rfl);have v:(zF s.heap a b d).get? (zC s.heap a b d).objs.size=some _:=bA _ (bA _ (Heap.get?_push_size _ rfl));have g3:(zF s.heap a b d).get? (zB s.heap a b).objs.size=some _:=bA _ (bA _ (bA _ (Heap.get?_push_size _ rfl)));have g2:(zF s.heap a b d).get? (zA s.heap a).objs.size=some _:=bA _ (bA _ (bA _ (bA _ (Heap.get?_push_size _ rfl))));have g1:(zF s.heap a b d).get? s.heap.objs.size=some _:=bA _ (bA _ (bA _ (bA _ (bA _ (Heap.get?_push_size _ rfl)))));show _/\_;rw[l,m,n] at p;rw[j,k,l] at v;rw[m] at u;rw[k] at g3;rw[j] at g2;rw[n];exact⟨⟨_,p,rfl⟩,h _ p v u ⟨_,g1,rfl,rfl⟩ ⟨_,g2,rfl,rfl⟩ ⟨_,g3,rfl,rfl⟩ y fun c o x=>
  bA _ (bA _ (bA _ (bA _ (bA _ (bA _ x)))))⟩
theorem Ih{z TI TO k n p L M N:Addr}{g S T:Array Value}{Q:Value->Shared->Prop}(hh:A.handled=none)
  (nd:[z,TI,TO,k,n,p].Nodup) (hl:∀l∈[L,M,N],∀j∈[z,TI,TO,k,n,p],l≠j) (x:∀j∈[z,TI,TO,k,n,p,L,M,N],j<s.heap.objs.size)
  (y:fk s.heap z TI TO .none (.bool false)) (ti:dP s.heap TI (.ref k) (.ref n) (.ref p)) (to:dP s.heap TO .none .none .none)
  (h1:s.heap.IsListIter k L 0) (h2:s.heap.IsListIter n M 0) (h3:s.heap.IsListIter p N 0) (U:s.heap.IsList L g) (X:s.heap.IsList M S) (Y:s.heap.IsList N T)
  (e2:S.size=g.size) (e3:T.size=g.size) (B:0<g.size) (hn:g.size<=sizeLine)
  (hQ:∀f r c,(∀b o,b∉[z,TO,k,n,p]->s.heap.get? b=some o->f.get? b=some o)->f.get? s.heap.objs.size=some { cls:=.type "list",dict:=none,data:=.seq r.toArray c,slots:=#[] }->r.length=g.size->qj f (s.heap.objs.size+1) g S T r->
   Q (.ref s.heap.objs.size) { s with heap:=f }):wpAny (model prog w) A (call (.type "list") [.ref z]) Q E s:=by
 have C:s.heap.objs.size∉[z,TI,TO,k,n,p,L,M,N]:=fun hm=>Nat.lt_irrefl _ (x _ hm);have Z:s.heap.objs.size≠z:=fun e=>C (by simp[e]);refine callType_codes (Q₁:=fun obj s₁=>obj=.ref s.heap.objs.size/\s₁ = { s with heap:=s.heap.push { cls:=.type "list",data:=.seq #[] } }) F.called_list (F.typeCall_list_1 _) F.entry_list_init
  (code_list_new _ ⟨rfl,rfl⟩) fun obj s₁ h₁=>?_
 obtain⟨rfl,rfl⟩:=h₁;have O:(s.heap.push { cls:=.type "list",data:=.seq #[] }).get? s.heap.objs.size=some { cls:=.type "list",data:=.seq #[] }:=Heap.get?_push_size _ rfl;have t:∀f,fk f z TI TO .none (.bool false)->Shared.TypeIs { s with heap:=f } (.ref z) "zip":=fun f q=>⟨_,q,rfl⟩
 refine⟨⟨_,O,rfl⟩,F.args_list_init_2 _ _,?_⟩;have pu:∀b o,s.heap.get? b=some o->(s.heap.push { cls:=.type "list",data:=.seq #[] }).get? b=some o:=fun b o e=>bA _ e;show wpAny _ A.in1.in1 (do let old <-Builtin.List.listItems (.ref s.heap.objs.size);Builtin.List.listUpdate (.ref s.heap.objs.size) (fun _=>#[]);letGo old.toList.reverse;Builtin.List.listExtendWith (.ref s.heap.objs.size) (.ref z) .none) _ _ _;refine al ?_;unfold Builtin.List.listItems;refine al (wpAny_seqItems O rfl (aV ?_));show wpAny _ _ (updateSeq s.heap.objs.size (fun _=>#[]) >>= fun _=>letGo (#[]:Array Value).toList.reverse >>= fun _=>Builtin.List.listExtendWith (.ref s.heap.objs.size) (.ref z) .none) _ _ _;refine al (wpAny_updateSeq O rfl ?_);have u:=Heap.get?_update_self (Obj.mapSeq (fun _=>(#[]:Array Value))) O rfl;refine al (wpAny_letGo ?_);generalize D:(s.heap.push { cls:=.type "list",data:=.seq #[] }).update s.heap.objs.size (Obj.mapSeq (fun _=>(#[]:Array Value)))=i at u ⊢;have d:∀b o,s.heap.get? b=some o->i.get? b=some o:=fun b o e=>by rw[<-D];exact(Heap.get?_update_other _ _ (Nat.ne_of_gt (bB e))).trans (pu b o e)
 have CM:i.objs.size=s.heap.objs.size+1:=by rw[<-D,show((s.heap.push { cls:=.type "list",data:=.seq #[] }).update s.heap.objs.size (Obj.mapSeq (fun _=>(#[]:Array Value)))).objs.size=(s.heap.push { cls:=.type "list",data:=.seq #[] }).objs.size from(Heap.SameBut.update ..).1,Heap.size_push]
 unfold Builtin.List.listExtendWith;refine al (wpAny_typeOf (t _ (d _ _ y)) ?_);have g1:Builtin.List.listSameRef (.ref s.heap.objs.size) (.ref z)=false:=by simp[Builtin.List.listSameRef,Z]
 have g2:(Value.type "zip"==Value.type "list")=false:=by decide
 have g3:(Value.type "zip"==Value.type "tuple")=false:=by decide
 simp only[g1,g2,g3,Bool.or_false,Bool.false_eq_true,if_false];refine al (wpAny_pyIter_zip (s:={ s with heap:=i }) (d _ _ y) ?_);refine al (wpAny_holding ?_);unfold Builtin.List.listLengthHint;refine al (wpAny_specialOf (t _ (d _ _ y)) F3.zip_no_len ?_);show wpAny _ _ (specialOf (Value.ref z) (Str.ofString "__length_hint__") >>= _) _ _ _;refine al (wpAny_specialOf (t _ (d _ _ y)) F3.zip_no_hint ?_);refine aV ?_;show wpAny _ _ (rule "list.extend.makes-room" >>= fun _=>Builtin.List.listTouch (.ref s.heap.objs.size) >>= fun _=>
  again (.builtin "list.extend.loop" ⟨[.ref s.heap.objs.size,.ref z,.none],[]⟩)) _ _ _
 refine al (wpAny_rule ?_);refine al ?_;show wpAny _ _ (updateSeq s.heap.objs.size (·.push .none) >>= fun _=>updateSeq s.heap.objs.size (·.pop)) _ _ _;refine al (wpAny_updateSeq u rfl ?_);have G:=Heap.get?_update_self (Obj.mapSeq (·.push Value.none)) u rfl;refine wpAny_updateSeq (hz:=by seq_fits) G rfl ?_;have H:=Heap.get?_update_self (Obj.mapSeq (·.pop)) G rfl;generalize I:(i.update s.heap.objs.size (Obj.mapSeq (·.push Value.none))).update s.heap.objs.size (Obj.mapSeq (·.pop))=H2 at H ⊢;have a:∀b o,s.heap.get? b=some o->H2.get? b=some o:=fun b o e=>by rw[<-I];exact(Heap.get?_update_other _ _ (Nat.ne_of_gt (bB e))).trans ((Heap.get?_update_other _ _ (Nat.ne_of_gt (bB e))).trans (d b o e))
 have CN:H2.objs.size=s.heap.objs.size+1:=by
  rw[<-I,show((i.update s.heap.objs.size (Obj.mapSeq (·.push Value.none))).update s.heap.objs.size (Obj.mapSeq (·.pop))).objs.size=(i.update s.heap.objs.size (Obj.mapSeq (·.push Value.none))).objs.size from(Heap.SameBut.update ..).1,
   show(i.update s.heap.objs.size (Obj.mapSeq (·.push Value.none))).objs.size=i.objs.size from(Heap.SameBut.update ..).1,CM]
 refine aV ⟨plainId_quiet F.plain_extend_loop _,Ib (A:=A.in1) (n₀:=s.heap.objs.size+1) (show A.in1.handled=none from hh) nd hl C (fun j R=>?_) e2 e3 B hn _ g.size 0 _ [] _ rfl (Nat.zero_le _)
  ⟨⟨_,_,a _ _ y,.inl rfl,.inl ⟨rfl,rfl,rfl⟩⟩,a _ _ ti,⟨_,_,_,a _ _ to⟩,h1.at fun o e=>a _ o e,h2.at fun o e=>a _ o e,h3.at fun o e=>a _ o e,U.at fun o e=>a _ o e,X.at fun o e=>a _ o e,Y.at fun o e=>a _ o e⟩
  (Nat.le_of_eq CN.symm) H rfl (fun j v h=>by simp at h) fun f J c' a0 a1 a2 a3=>?_⟩
 ·rcases List.mem_cons.mp R with rfl | R
  ·exact Nat.lt_succ_self _
  ·refine Nat.lt_succ_of_lt (x j ?_);simp only[List.mem_cons,List.not_mem_nil,or_false] at R ⊢;rcases R with q | q | q | q | q | q<;>simp[q]
 ·refine⟨rfl,hQ f J c' (fun b o hb e=>a0 b o (fun m=>?_) (a b o e)) a1 a2 a3⟩;rcases List.mem_cons.mp m with q | q
  ·exact absurd (bB e) (by rw[q];exact Nat.lt_irrefl _)
  ·exact hb q
end
end L2
namespace L2
open PySem PySem.Spec PyProof.Rows
noncomputable def cO:List PyData->Bool
 | []=>true
 | .tuple _::_=>true
 | _::ds=>!ds.isEmpty&&cO ds
def mu(H:Hp)(a:Addr)(b:List V)(c:List PyData):Prop:=H a=some (.tup b)\/(∃o,H a=some (.frz o (.tup b)))/\cO c=true
theorem mu.mono{H b:Hp}{a:Addr}{c:List V}{d:List PyData}(s:bR H b)(h:mu H a c d):mu b a c d:=h.imp (fun e=>s _ _ e) fun⟨⟨o,e⟩,k⟩=>⟨⟨o,s _ _ e⟩,k⟩
theorem mu.rd{H:Hp}{a:Addr}{b:List V}{c:List PyData}(h:mu H a b c):Rd H a (.tup b):=h.imp id fun z=>z.1
mutual
inductive DV (H:Hp):V->PyData->Prop where
 | non:DV H .non .none
 | bl (b:Bool):DV H (.bl b) (.bool b)
 | int (i:Int):DV H (.int i) (.int i)
 | str (x:Str):DV H (.str x) (.str x)
 | lst {a:Addr}{xs:List V}{ds:List PyData}:H a=some (.lst xs)->aK H xs ds->DV H (.ref a) (.list ds)
 | tup {a:Addr}{xs:List V}{ds:List PyData}:mu H a xs ds->aK H xs ds->DV H (.ref a) (.tuple ds)
inductive aK (H:Hp):List V->List PyData->Prop where
 | nil:aK H [] []
 | cons {x:V}{xs:List V}{d:PyData}{ds:List PyData}:DV H x d->aK H xs ds->aK H (x::xs) (d::ds)
end
section
variable{H H':Hp}
mutual
theorem DV.mono(s:bR H H'):∀{v:V}{d:PyData},DV H v d->DV H' v d
 | _,_,.non=>.non
 | _,_,.bl b=>.bl b
 | _,_,.int i=>.int i
 | _,_,.str x=>.str x
 | _,_,.lst h r=>.lst (s _ _ h) (aK.mono s r)
 | _,_,.tup h r=>.tup (h.mono s) (aK.mono s r)
theorem aK.mono(s:bR H H'):∀{vs:List V}{ds:List PyData},aK H vs ds->aK H' vs ds
 | _,_,.nil=>.nil
 | _,_,.cons h r=>.cons (DV.mono s h) (aK.mono s r)
end
theorem aK.length:∀{a:List V}{b:List PyData},aK H a b->a.length=b.length
 | _,_,.nil=>rfl
 | _,_,.cons _ r=>congrArg (·+1) r.length
theorem aK.append:∀{a b:List V}{d c:List PyData},aK H a d->aK H b c->aK H (a++b) (d++c)
 | _,_,_,_,.nil,s=>s
 | _,_,_,_,.cons h r,s=>.cons h (r.append s)
theorem aK.get:∀{a:List V}{b:List PyData}{i:Nat}{d:PyData},aK H a b->b[i]? = some d->∃v,a[i]? = some v/\DV H v d
 | _,_,_,_,.nil,e=>by simp at e
 | _,_,0,_,.cons h _,e=>by simp at e;subst e;exact⟨_,rfl,h⟩
 | _,_,i+1,d,.cons _ r,e=>by obtain⟨v,h1,h2⟩:=r.get (i:=i) (d:=d) (by simpa using e);exact⟨v,by simpa using h1,h2⟩
theorem aK.get':∀{a:List V}{b:List PyData}{i:Nat}{v:V},aK H a b->a[i]? = some v->∃d,b[i]? = some d/\DV H v d
 | _,_,_,_,.nil,e=>by simp at e
 | _,_,0,_,.cons h _,e=>by simp at e;subst e;exact⟨_,rfl,h⟩
 | _,_,i+1,d,.cons _ r,e=>by obtain⟨v,h1,h2⟩:=r.get' (i:=i) (v:=d) (by simpa using e);exact⟨v,by simpa using h1,h2⟩
theorem aK.drop:∀{a:List V}{b:List PyData}(n:Nat),aK H a b->aK H (a.drop n) (b.drop n)
 | _,_,0,r=>r
 | _,_,_+1,.nil=>.nil
 | _,_,n+1,.cons _ r=>r.drop n
theorem bX{a:Addr}{o:HO}(h:H a=none):bR H (aN H a o):=fun b u e=>by rw[bj (hZ e h)];exact e
theorem DV.tup_inv{v:V}{c:List PyData}(h:DV H v (.tuple c)):∃a b,v=.ref a/\Rd H a (.tup b)/\aK H b c:=by cases h with | tup h r=>exact⟨_,_,rfl,h.rd,r⟩
theorem DV.tup_invK{v:V}{b:List PyData}(h:DV H v (.tuple b))(d:cO b=false):∃a c,v=.ref a/\H a=some (.tup c)/\aK H c b:=by cases h with | tup h r=>exact⟨_,_,rfl,h.elim id (fun z=>by rw[d] at z;cases z.2),r⟩
theorem DV.lst_inv{v:V}{c:List PyData}(h:DV H v (.list c)):∃a b,v=.ref a/\H a=some (.lst b)/\aK H b c:=by cases h with | lst h r=>exact⟨_,_,rfl,h,r⟩
theorem DV.int_inv{v:V}{i:Int}(h:DV H v (.int i)):v=.int i:=by cases h;rfl
theorem DV.str_inv{v:V}{x:Str}(h:DV H v (.str x)):v=.str x:=by cases h;rfl
theorem DV.bl_inv{v:V}{b:Bool}(h:DV H v (.bool b)):v=.bl b:=by cases h;rfl
theorem DV.non_inv{v:V}(h:DV H v .none):v=.non:=by cases h;rfl
end
section
variable{X:Cx}{pins:List (Addr×Obj)}{Y:St}{H:Hp}{s:Shared}
mutual
theorem Inv.reads(I:Inv X pins Y H s):∀{v:V}{d:PyData}{u:Value},DV H v d->bd v u->∃as,Reads s.heap u d as
 | _,_,_,.non,r=>by cases r;exact⟨_,.none⟩
 | _,_,_,.bl b,r=>by cases r;exact⟨_,.bool b⟩
 | _,_,_,.int i,r=>by obtain⟨t,rfl⟩:=r;exact⟨_,.int i t⟩
 | _,_,_,.str x,r=>by obtain⟨t,rfl⟩:=r;exact⟨_,.str x t⟩
 | _,_,_,.lst h q,r=>by cases r;obtain⟨_,its,n,rv,e⟩:=I.hok _ _ h;obtain⟨as,z⟩:=I.readsAll q rv;exact⟨_,reads_list_at e rfl rfl (by simpa using z)⟩
 | _,_,_,.tup h q,r=>by cases r;obtain⟨_,its,rv,o,e,c,n,d⟩:=h.rd.ok I.hok;obtain⟨as,z⟩:=I.readsAll q rv;exact⟨_,reads_tuple_at e c d (by simpa using z)⟩
theorem Inv.readsAll(I:Inv X pins Y H s):∀{vs:List V}{ds:List PyData}{us:List Value},aK H vs ds->be vs us->∃as,ReadsAll s.heap us ds as
 | _,_,_,.nil,.nil=>⟨_,.nil⟩
 | _,_,_,.cons h q,.cons r rr=>by obtain⟨as,z⟩:=I.reads h r;obtain⟨bs,z'⟩:=I.readsAll q rr;exact⟨_,.cons z z'⟩
end
end
section
variable{X:Cx}
noncomputable def uO(neg:Bool):R2:=fun x y H Q=>∃d e,DV H x d/\DV H y e/\SeqAt.shaped d=true/\SeqAt.shaped e=true/\Q (.bl (PyData.eqv d e != neg)) H
theorem zL(b:X.A.units+64<cLine):cH X (compareOp .Eq) (uO false):=by intro a s Y H x y v u Q I c f h;obtain⟨d,e,h1,h2,h3,g,q⟩:=h;obtain⟨as,i⟩:=I.reads h1 c;obtain⟨bs,j⟩:=I.reads h2 f;exact eq_dataH i j h3 g b ⟨_,H,I,by show Value.bool (PyData.eqv d e)=Value.bool (PyData.eqv d e != false);rw[Bool.bne_false],q⟩
theorem zM(b:X.A.units+64<cLine):cH X (compareOp .NotEq) (uO true):=by intro a s Y H x y v u Q I c f h;obtain⟨d,e,h1,h2,h3,g,q⟩:=h;obtain⟨as,i⟩:=I.reads h1 c;obtain⟨bs,j⟩:=I.reads h2 f;exact ne_dataH i j h3 g b ⟨_,H,I,by show Value.bool (!PyData.eqv d e)=Value.bool (PyData.eqv d e != true);rw[Bool.bne_true],q⟩
@[simp] noncomputable def uP:PyData->String
 | .none=>"NoneType"
 | .bool _=>"bool"
 | .int _=>"int"
 | .str _=>"str"
 | .list _=>"list"
 | .tuple _=>"tuple"
 | .dict _=>"dict"
noncomputable def Ii:List V->Hp->VK->Prop:=fun a H Q=>∃x d n b,a=[x,.ty n]/\DV H x d/\(∀K:Frag,kitOne K (.type (uP d)) (.type n)=some b)/\Q (.bl b) H
theorem Ij:ib X (.builtin "isinstance") Ii:=by
 intro g s Y H k m Q I r h;obtain⟨x,d,n,b,rfl,hd,e,q⟩:=h;obtain⟨u,w,rfl,f,l⟩:=ic r;cases l;have fin:∀j,EP X g Y Q (.bool b) { s with toks:=j }:=fun j=>⟨.bl b,H,I.tok j,rfl,q⟩
 cases hd with
 | non=>exact nI I f .non (e _) fin
 | bl c=>exact nI I f (.bl c) (e _) fin
 | int i=>exact nI I f (.int i) (e _) fin
 | str z=>exact nI I f (.str z) (e _) fin
 | lst h r=>exact nI I f (.lst h) (e _) fin
 | @tup a k ds h r=>cases(show u=Value.ref a from f);obtain⟨_,_,_,p⟩:=h.rd.ok I.hok;obtain⟨o,h1,h2,_⟩:=p;exact kia_one PySem.W.kitx_tuple I.kIn ⟨o,h1,h2⟩ (e _) (fun z=>nomatch z) fin
end
section
variable{X:Cx}{pins:List (Addr×Obj)}{Y:St}{H:Hp}{s:Shared}{h':Heap}
theorem Inv.turnedNew{ch:List Addr}{a:Addr}{o:HO}{t':Nat}(I:Inv X pins Y H s)(f:∀b∈ch,gx X pins H b)(k:∀b d,b∉ch->s.heap.get? b=some d->h'.get? b=some d)(p:s.heap.objs.size<=a)
  (there:∀b∈ch,∀d,s.heap.get? b=some d->∃l,h'.get? b=some l) (new:cD X.prog X.w (aN H a o) h' a o):Inv X pins Y (aN H a o) { s with heap:=h',toks:=t' }:=by
 have i:=I.hok.fresh p;have j:∀b u,H b=some u->b∉ch:=fun b u e z=>by rw[(f b z).1] at e;cases e
 refine I.step (g':=s.gens) (d':=s.drawn) (ch:=ch) (fun b h=>⟨(f b h).2.2.2.1,(f b h).2.1,(f b h).2.2.2.2.1,(f b h).2.2.2.2.2⟩) (fun b d _ _ g e _=>k b d g e) (fun b d _ _ g e _=>⟨d.slots,k b d g e⟩)
  (fun b d _ e n=>by rw[bj (Nat.ne_of_lt (Nat.lt_of_lt_of_le (bB e) p))];exact n) (fun b d g e=>⟨d,k b d g e⟩) (fun b x e=>bX i b _ e) (fun b d u e=>bX i b _ e) (fun b C e=>⟨#[],by rw[bX i b _ e];simp⟩) (fun m y=>?_) (fun b u e=>?_) I.bare
 ·obtain⟨t,A,B,ho,r⟩:=y;exact⟨t,A,B,k _ t (fun z=>(f _ z).2.1 rfl) ho,r⟩
 ·by_cases h:b=a
  ·subst h;rw[cj] at e;cases e;exact new
  ·rw[bj h] at e;refine(I.hok b u e).stay (fun c v g q=>k c v ?_ q) (fun c q=>bX i c _ q) fun c x q=>bX i c _ q;rcases g with z | z
   ·rw[z];exact j b u e
   ·exact j c _ z
end
noncomputable def zN(K:Frag)(a:Addr):It:=
 ⟨fun i H=>∃b x,cN K H a b/\b[i]? = some x,fun i H v c=>∃T x,v=.ref T/\H T=none/\c = aN H T (.tup [.int i,x])/\∀b,cN K H a b->b[i]? = some x,fun i H=>∃b,cN K H a b/\b.length<=i⟩
theorem Ik{P:Program}{w:World}{K:Frag}{elts:List Expr}{kk:Nat}{tpos:Pos}(a e it:Addr)(hne:e≠it):ia P w K (.Tuple elts kk tpos) (zN K a) [e,it] e (fun i h=>(∃old,IsEnum h e it i old)/\h.IsListIter it a i) where
 mem:=by simp
 obj:=fun i h st b hb=>by
  obtain⟨⟨old,he⟩,o,e1,c,d⟩:=st;rcases List.mem_cons.mp hb with rfl | hb
  ·exact⟨_,he,fun v z=>by cases z⟩
  ·obtain rfl:=List.mem_singleton.mp hb;exact⟨o,e1,fun v z=>by rw[d] at z;cases z⟩
 keep:=fun i h h' st k=>⟨st.1.elim fun old he=>⟨old,k e (by simp) _ he⟩,st.2.at fun o e'=>k it (by simp) o e'⟩
 item:=by
  intro X hP hw hK hc i pins s Y H E I hf st hg;subst hP hw hK;obtain⟨⟨old,he⟩,hit⟩:=st;obtain⟨xs,x,hq,hx⟩:=hg;obtain⟨its,rv,p,hz⟩:=I.list hq;obtain⟨u,hu,ru⟩:=rv.get hx;refine wpAny_pyNext_enum_item he hit p.isList (x:=u) (by simpa using hu) hne fun h' ho hi' hT hsz hk=>⟨_,rfl,?_⟩
  refine wpAny_letOwnedTupleGo_enum (s:={ s with heap:=h',toks:=s.toks+1 }) ho fun h2 he2 hs2=>?_;have hel:s.heap.objs.size≠e:=Nat.ne_of_gt (bB he);have k2:∀b ob,b∉[e,it]->s.heap.get? b=some ob->h2.get? b=some ob:=fun b ob hb q=>by simp only[List.mem_cons,List.not_mem_nil,or_false,not_or] at hb;exact(hs2.2 b hb.1).trans (hk b ob hb.1 hb.2 q)
  have I1:Inv X pins Y (aN H s.heap.objs.size (.tup [.int i,x])) { s with heap:=h2,toks:=s.toks+1 }:=by
   refine I.turnedNew (ch:=[e,it]) hf k2 (bH _) (fun b hb ob q=>?_) ?_
   ·rcases List.mem_cons.mp hb with rfl | hb
    ·exact⟨_,he2⟩
    ·obtain rfl:=List.mem_singleton.mp hb;obtain⟨o,e1,_⟩:=hi';exact⟨o,(hs2.2 b (Ne.symm hne)).trans e1⟩
   ·exact⟨by show 2<=sizeLine;decide,[.int i s.toks,u],.cons ⟨_,rfl⟩ (.cons ru .nil),⟨_,(hs2.2 _ hel).trans hT,rfl,_,rfl⟩⟩
  refine⟨.ref s.heap.objs.size,_,I1,rfl,⟨_,x,rfl,I.hok.fresh (bH _),rfl,fun ys hy=>by rw[I.list_inj hy hq];exact hx⟩,⟨⟨_,by simpa using he2⟩,hi'.at fun o e1=>(hs2.2 it (Ne.symm hne)).trans e1⟩,fun b hb=>?_⟩;have hb':b<s.heap.objs.size:=by
   rcases List.mem_cons.mp hb with rfl | hb
   ·exact bB he
   ·obtain rfl:=List.mem_singleton.mp hb;obtain⟨o,e1,_⟩:=hit;exact bB e1
  rw[bj (Nat.ne_of_lt hb')];exact(hf b hb).1
 done:=by intro X hP hw hK hc i pins s Y H E I hf st hg;subst hP hw hK;obtain⟨⟨old,he⟩,hit⟩:=st;obtain⟨xs,hq,hx⟩:=hg;obtain⟨its,rv,p,hz⟩:=I.list hq;obtain⟨f0,f1,f2,f3,f4,f5⟩:=hf it (by simp);have hl:=rv.length;exact wpAny_pyNext_enum_end (I.ok.hd hc) he hit p.isList (by simp;omega) fun h' eb=>⟨rfl,I.turned (t':=s.toks) (fun b o hb e=>eb b o hb e) f0 f1 f3 f4 f5⟩
 self:=fun _ _ _ _ _ st h=>st.1.elim fun _ he=>wpAny_pyIter_enum he h
section
variable{X:Cx}{elts:List Expr}{kk:Nat}{tpos:Pos}
noncomputable def Il(K:Frag)(c:TA):TI:=fun Y H R=>c Y H fun d b=>∃a e,d=[.ref a]/\cN K b a e/\R (zN K a) b
theorem Im{a:Expr}{g:TA}{p pos:Pos}(j:Gl X "enumerate")(k:X.mg "enumerate" = none)(m:PA X [a] g)(A:starEach [a] X.env=[(false,eval a X.env)]:=by rfl):PI X (.Tuple elts kk tpos) (.Call (.Name "enumerate" p) [a] [] pos) (Il X.K g):=by
 intro d s Y H R I h;refine Call_ (jM I j k (show bootBuiltins "enumerate" = some (.type "enumerate") by decide +kernel) (PyProof.Rows.callWith_type1 (aT (m pos d s Y H _ I h) fun B c ⟨C,n,I1,o,r⟩=>?_) A rfl));obtain⟨l,D,rfl,t,q⟩:=r;obtain⟨u,rfl,ru⟩:=dM o;cases ru;obtain⟨v,E,p,G⟩:=I1.list t;refine call_enumerate_list p.isList fun w i x y z=>?_;refine wpAny_pyIter_enum (s:={ c with heap:=w }) i ?_;refine⟨c.heap.objs.size+1,[c.heap.objs.size+1,c.heap.objs.size],_,_,n,rfl,I1.kept (t':=c.toks) z,Ik l _ _ (Nat.succ_ne_self _),⟨⟨_,i⟩,x⟩,fun b f=>?_,q⟩;have e:c.heap.objs.size<=b:=by
  rcases List.mem_cons.mp f with rfl | f
  ·exact Nat.le_succ _
  ·obtain rfl:=List.mem_singleton.mp f;exact bH _
 exact I1.fpOk e (I1.hok.fresh e)
end
end L2
namespace L2.L3
open PySem PySem.Spec PyProof.Rows
noncomputable def aw(O:List Addr)(H:Hp):Hp:=fun b=>if b∈O then none else H b
section
variable{O O':List Addr}{H H' H1 H2:Hp}
theorem iH{b:Addr}{o:HO}(h:H b=some o)(n:b∉O):aw O H b=some o:=by unfold aw;rw[if_neg n];exact h
theorem cY{b:Addr}{o:HO}(h:aw O H b=some o):H b=some o/\b∉O:=by
 unfold aw at h
 by_cases e:b∈O
 ·rw[if_pos e] at h;cases h
 ·rw[if_neg e] at h;exact⟨h,e⟩
theorem gR{a:Addr}{u:HO}(h:Rd (aw O H) a u):Rd H a u/\a∉O:=by
 rcases h with h | ⟨o,h⟩
 ·obtain⟨e,n⟩:=cY h;exact⟨.inl e,n⟩
 ·obtain⟨e,n⟩:=cY h;exact⟨.inr ⟨o,e⟩,n⟩
theorem qk:bR (aw O H) H:=fun b o h=>(cY h).1
structure aP (O:List Addr) (H:Hp) (O':List Addr) (H':Hp):Prop where
 keep:∀b o,b∉O->H b=some o->H' b=some o
 new:∀a∈O',a∈O\/H a=none
theorem aP.refl:aP O H O H:=⟨fun _ _ _ h=>h,fun _ h=>.inl h⟩
theorem aP.trans{f g i:List Addr}{j:Hp}(a:aP f H1 g H2)(b:aP g H2 i j):aP f H1 i j:=by
 have k:∀c o,c∉f->H1 c=some o->c∉g:=fun c o d e z=>(a.new c z).elim d fun n=>by rw[n] at e;cases e
 refine⟨fun c o d e=>b.keep c o (k c o d e) (a.keep c o d e),fun c h=>?_⟩
 by_cases d:c∈f
 ·exact .inl d
 ·refine .inr ?_;cases e:H1 c with
  | none=>rfl
  | some o=>
   rcases b.new c h with z | z
   ·exact absurd z (k c o d e)
   ·rw[a.keep c o d e] at z;cases z
theorem aP.same(s:bR H H'):aP O H O H':=⟨fun b o _ e=>s b o e,fun _ h=>.inl h⟩
theorem aP.hid(s:aP O H O' H'):bR (aw O H) (aw O' H'):=fun b o e=>by
 obtain⟨a,n⟩:=cY e;refine iH (s.keep b o n a) fun z=>?_;rcases s.new b z with q | q
 ·exact n q
 ·rw[q] at a;cases a
theorem jl(s:bR H H'):bR (aw O H) (aw O H'):=(aP.same s).hid
theorem uQ(s:∀a∈O',a∈O):bR (aw O H) (aw O' H):=fun b o e=>by obtain⟨c,n⟩:=cY e;exact iH c fun z=>n (s b z)
end
inductive Fl where
 | d (x:PyData) | l (ds:List PyData) | m (tk:Bool) (kvs:List (PyData×PyData))
inductive Bx where
 | l (ds:List PyData) | m (tk:Bool) (kvs:List (PyData×PyData)) | o (C:Addr) (fs:List (Str×Fl)) | sd (fs:List (Str×Fl)) | ll (xs:List (List PyData)) | pr (C:Addr) (fs:List (Str×Fl)) (d:PyData)
inductive ag where
 | dat (d:PyData)
 | own (io:Bool) (b:Bx)
 | scr (ns:List Int)
 | exc (c:Str)
 | vw (b:Bx)
noncomputable abbrev ai:=List (Option ag)
structure Fx where
 H₀:Hp
 A₀:List Addr
 O₀:List Addr
 I₀:Nat->Addr
def iI(K:Frag)(H:Hp)(a:Addr)(c:List Int):Prop:=c.length<=63/\((∃o,H a=some (.frz o (.lst (c.map V.int))))\/
 ∃(o:Obj) (b:Array Value) (n:Nat),K.lookup a=some o/\o.cls=.type "list"/\o.dict=none/\o.data=.seq b n/\b.size<=sizeLine/\be (c.map V.int) b.toList)
theorem iI.sq{K:Frag}{H:Hp}{a:Addr}{b:List Int}(h:iI K H a b):cN K H a (b.map V.int):=h.2.elim (fun⟨o,e⟩=>.inl (.inr ⟨o,e⟩)) .inr
theorem iI.mono{K:Frag}{H b:Hp}{a:Addr}{c:List Int}(h:iI K H a c)(k:∀o u,H a=some (.frz o u)->b a=some (.frz o u)):iI K b a c:=⟨h.1,h.2.imp (fun⟨o,e⟩=>⟨o,k _ _ e⟩) id⟩
def Io(K:Frag)(a:Addr)(c:Str)(h:Heap):Prop:=∃C o,nsIn K mainGlobals c=some (some (.ref C))/\h.get? a=some o/\o.cls=.ref C
noncomputable def ik:aR->PyData
 | .inl i=>.int i
 | .inr x=>.str x
noncomputable def ql(a:List aR):PyData:=.tuple (a.map ik)
noncomputable def jm(G H:Hp)(a:Addr):Bool->List (PyData×PyData)->Prop
 | false,b=>∃c:List (aR×V),H a=some (.dK c)/\Paired (fun(p:aR×V) (q:PyData×PyData)=>ik p.1=q.1/\DV G p.2 q.2) c b
 | true,b=>∃c:List (List aR×V),H a=some (.dT c)/\Paired (fun(p:List aR×V) (q:PyData×PyData)=>ql p.1=q.1/\DV G p.2 q.2) c b
noncomputable def fm(G H:Hp)(v:V):Fl->List Addr->Prop
 | .d x,b=>b=[]/\DV G v x
 | .l ds,b=>∃a e,v=.ref a/\b=[a]/\H a=some (.lst e)/\aK G e ds
 | .m f c,b=>∃a,v=.ref a/\b=[a]/\jm G H a f c
inductive bb (G H:Hp):List (Str×V)->List (Str×Fl)->List (List Addr)->Prop where
 | nil:bb G H [] [] []
 | cons {n:Str}{v:V}{f:Fl}{fp:List Addr}{gs:List (Str×V)}{fs:List (Str×Fl)}{fps:List (List Addr)}:fm G H v f fp->bb G H gs fs fps->bb G H ((n,v)::gs) ((n,f)::fs) (fp::fps)
def qm(G H:Hp)(b:Addr)(c:List PyData):Prop:=∃a,H b=some (.lst a)/\aK G a c
noncomputable def fZ(G H:Hp)(a:Addr):Bx->List Addr->Prop
 | .l ds,c=>c=[a]/\∃g,H a=some (.lst g)/\aK G g ds
 | .m j i,c=>c=[a]/\jm G H a j i
 | .o C fs,c=>∃f e b,c=a::f::b.flatten/\H a=some (.ins C f e)/\H f=some (.own a)/\bb G H e fs b
 | .sd fs,c=>∃e b,c=a::b.flatten/\H a=some (.dK (e.map fun p=>(Sum.inr p.1,p.2)))/\bb G H e fs b
 | .ll g,c=>∃bs:List Addr,c=a::bs/\H a=some (.lst (bs.map V.ref))/\Paired (qm G H) bs g
 | .pr C fs d,c=>∃h v f e b,G a=some (.tup [.ref h,v])/\c=h::f::b.flatten/\H h=some (.ins C f e)/\H f=some (.own h)/\bb G H e fs b/\DV G v d
noncomputable def Mv:HO->Prop
 | .lst _=>True
 | .dK _=>True
 | .dT _=>True
 | .ins _ _ _=>True
 | .own _=>True
 | _=>False
noncomputable def ek(K:Frag)(H:Hp)(O:List Addr)(v:V):ag->List Addr->Prop
 | .dat d,_=>DV (aw O H) v d
 | .own _ b,e=>∃a,v=.ref a/\fZ (aw O H) H a b e
 | .scr ns,_=>∃a,v=.ref a/\iI K H a ns
 | .exc c,_=>∃a φ,v=.ref a/\aw O H a=some (.ext φ)/\∀h,φ h->Io K a c h
 | .vw b,_=>∃a e,v=.ref a/\fZ (aw O H) (aw O H) a b e
section
variable{G G' H H':Hp}{a:Addr}{v:V}{fp:List Addr}
theorem jm.keep{c:Bool}{b:List (PyData×PyData)}(h:jm G H a c b)(k:H' a=H a)(g:bR G G'):jm G' H' a c b:=by
 cases c with
 | false=>obtain⟨d,e,p⟩:=h;exact⟨d,k.trans e,Paired.mapP p fun _ _ z=>⟨z.1,DV.mono g z.2⟩⟩
 | true=>obtain⟨d,e,p⟩:=h;exact⟨d,k.trans e,Paired.mapP p fun _ _ z=>⟨z.1,DV.mono g z.2⟩⟩
theorem jm.live{c:Bool}{b:List (PyData×PyData)}(h:jm G H a c b):∃o,H a=some o/\Mv o:=by
 cases c with
 | false=>obtain⟨d,e,p⟩:=h;exact⟨_,e,trivial⟩
 | true=>obtain⟨d,e,p⟩:=h;exact⟨_,e,trivial⟩
theorem fm.keep{f:Fl}(h:fm G H v f fp)(k:∀c∈fp,H' c=H c)(g:bR G G'):fm G' H' v f fp:=by
 cases f with
 | d x=>exact⟨h.1,DV.mono g h.2⟩
 | l ds=>obtain⟨a,j,e,b,i,n⟩:=h;exact⟨a,j,e,b,(k a (by simp[b])).trans i,aK.mono g n⟩
 | m p o=>obtain⟨a,e,b,i⟩:=h;exact⟨a,e,b,i.keep (k a (by simp[b])) g⟩
theorem fm.live{f:Fl}(h:fm G H v f fp):∀c∈fp,∃o,H c=some o/\Mv o:=by
 cases f with
 | d x=>obtain⟨rfl,_⟩:=h;intro c b;cases b
 | l ds=>obtain⟨a,j,g,rfl,e,k⟩:=h;intro c b;obtain rfl:=List.mem_singleton.mp b;exact⟨_,e,trivial⟩
 | m n i=>obtain⟨a,g,rfl,e⟩:=h;intro c b;obtain rfl:=List.mem_singleton.mp b;exact e.live
theorem bb.keep{f:List (Str×V)}{fs:List (Str×Fl)}{d:List (List Addr)}(h:bb G H f fs d)(k:∀c∈d.flatten,H' c=H c)(g:bR G G'):bb G' H' f fs d:=by
 induction h with
 | nil=>exact .nil
 | cons a b i=>exact .cons (a.keep (fun c e=>k c (by simp[e])) g) (i fun c e=>k c (by rw[List.flatten_cons];exact bi _ e))
theorem bb.live{f:List (Str×V)}{fs:List (Str×Fl)}{e:List (List Addr)}(h:bb G H f fs e):∀c∈e.flatten,∃o,H c=some o/\Mv o:=by
 induction h with
 | nil=>intro c d;cases d
 | cons a b g=>
  intro c d;rw[List.flatten_cons] at d;rcases List.mem_append.mp d with d | d
  ·exact a.live c d
  ·exact g c d
theorem Lls.keep{bs:List Addr}{f:List (List PyData)}(h:Paired (qm G H) bs f)(k:∀c∈bs,H' c=H c)(g:bR G G'):Paired (qm G' H') bs f:=by
 induction h with
 | nil=>exact .nil
 | cons a b i=>obtain⟨j,e,d⟩:=a;exact .cons ⟨j,(k _ List.mem_cons_self).trans e,aK.mono g d⟩ (i fun c l=>k c (bQ _ l))
theorem Lls.live{bs:List Addr}{g:List (List PyData)}(h:Paired (qm G H) bs g):∀c∈bs,∃o,H c=some o/\Mv o:=by
 induction h with
 | nil=>intro c f;cases f
 | cons a b i=>
  intro c f;obtain⟨j,e,d⟩:=a;rcases List.mem_cons.mp f with rfl | f
  ·exact⟨_,e,trivial⟩
  ·exact i c f
theorem fZ.keep{b:Bx}(h:fZ G H a b fp)(k:∀c∈fp,H' c=H c)(g:bR G G'):fZ G' H' a b fp:=by
 cases b with
 | l ds=>obtain⟨rfl,s,e,d⟩:=h;exact⟨rfl,s,(k a (by simp)).trans e,aK.mono g d⟩
 | m y u=>obtain⟨rfl,d⟩:=h;exact⟨rfl,d.keep (k a (by simp)) g⟩
 | o C fs=>obtain⟨p,q,i,rfl,j,r,f⟩:=h;exact⟨p,q,i,rfl,(k a (by simp)).trans j,(k p (by simp)).trans r,f.keep (fun c n=>k c (by simp[n])) g⟩
 | sd fs=>obtain⟨q,i,rfl,j,f⟩:=h;exact⟨q,i,rfl,(k a (by simp)).trans j,f.keep (fun c n=>k c (by simp[n])) g⟩
 | ll s=>obtain⟨bs,rfl,j,f⟩:=h;exact⟨bs,rfl,(k a (by simp)).trans j,Lls.keep f (fun c n=>k c (by simp[n])) g⟩
 | pr C fs d=>obtain⟨t,v,p,q,i,w,rfl,j,r,f,x⟩:=h;exact⟨t,v,p,q,i,g _ _ w,rfl,(k t (by simp)).trans j,(k p (by simp)).trans r,f.keep (fun c n=>k c (by simp[n])) g,DV.mono g x⟩
theorem fZ.live{b:Bx}(h:fZ G H a b fp):∀c∈fp,∃o,H c=some o/\Mv o:=by
 cases b with
 | l ds=>obtain⟨rfl,p,e,d⟩:=h;intro c g;obtain rfl:=List.mem_singleton.mp g;exact⟨_,e,trivial⟩
 | m s q=>obtain⟨rfl,d⟩:=h;intro c g;obtain rfl:=List.mem_singleton.mp g;exact d.live
 | o C fs=>
  obtain⟨r,n,j,rfl,i,k,f⟩:=h;intro c g;rcases List.mem_cons.mp g with rfl | g
  ·exact⟨_,i,trivial⟩
  ·rcases List.mem_cons.mp g with rfl | g
   ·exact⟨_,k,trivial⟩
   ·exact f.live c g
 | sd fs=>
  obtain⟨n,j,rfl,i,f⟩:=h;intro c g;rcases List.mem_cons.mp g with rfl | g
  ·exact⟨_,i,trivial⟩
  ·exact f.live c g
 | ll p=>
  obtain⟨bs,rfl,i,f⟩:=h;intro c g;rcases List.mem_cons.mp g with rfl | g
  ·exact⟨_,i,trivial⟩
  ·exact Lls.live f c g
 | pr C fs d=>
  obtain⟨t,v,r,n,j,u,rfl,i,k,f,w⟩:=h;intro c g;rcases List.mem_cons.mp g with rfl | g
  ·exact⟨_,i,trivial⟩
  ·rcases List.mem_cons.mp g with rfl | g
   ·exact⟨_,k,trivial⟩
   ·exact f.live c g
end
theorem ek.keep{K:Frag}{H H':Hp}{O j:List Addr}{v:V}{c:ag}{fp:List Addr}(h:ek K H O v c fp)(s:aP O H j H')(k:∀b∈fp,H' b=H b)(z:∀b o u,H b=some (.frz o u)->H' b=some (.frz o u)):ek K H' j v c fp:=by
 cases c with
 | dat d=>exact DV.mono s.hid h
 | own io b=>obtain⟨a,e,q⟩:=h;exact⟨a,e,q.keep k s.hid⟩
 | scr ns=>obtain⟨a,f,q⟩:=h;exact⟨a,f,q.mono fun o u w=>z _ _ _ w⟩
 | exc c=>obtain⟨a,φ,f,g,q⟩:=h;exact⟨a,φ,f,s.hid _ _ g,q⟩
 | vw b=>obtain⟨a,i,f,q⟩:=h;exact⟨a,i,f,q.keep (fun c l=>by obtain⟨o,g,_⟩:=q.live c l;rw[g];exact s.hid _ _ g) s.hid⟩
structure bT (K:Frag) (F:Fx) (H:Hp) (Y:St) (U:ai) (W:List (List Addr)):Prop where
 at_:∀(i:Nat) (c:ag),U[i]? = some (some c)->∃v fp,Y[i]? = some (some v)/\W[i]? = some fp/\ek K H (W.flatten++F.O₀) v c fp
 nd:(W.flatten++F.O₀).Nodup
 kept:∀b o,b∉F.A₀->F.H₀ b=some o->H b=some o
 new:∀a∈W.flatten,a∈F.A₀\/F.H₀ a=none
 live:∀a∈W.flatten++F.O₀,∃o,H a=some o/\Mv o
 len:U.length=Y.length
 lw:W.length=U.length
 io:∀(i:Nat) (b:Bx),U[i]? = some (some (.own true b))->Y[i]? = some (some (.ref (F.I₀ i)))
def aC(K:Frag)(F:Fx)(H:Hp)(Y:St)(U:ai)(O:List Addr):Prop:=∃W,bT K F H Y U W/\O=W.flatten++F.O₀
theorem gS{α:Type}{l:List α}{i j:Nat}{x y:α}(e:(l.set i x)[j]? = some y):(j=i/\y=x/\i<l.length)\/(j≠i/\l[j]? = some y):=by
 by_cases b:j=i
 ·subst b;have a:j<l.length:=by
   have:=(List.getElem?_eq_some_iff.mp e).1
   rwa [List.length_set] at this
  rw[List.getElem?_set_self a] at e;exact .inl ⟨rfl,(Option.some.inj e).symm,a⟩
 ·rw[List.getElem?_set_ne (Ne.symm b)] at e;exact .inr ⟨b,e⟩
theorem fN{α:Type}{W:List (List α)}{i:Nat}{c:List α}{a:α}(h:a∈(W.set i c).flatten):a∈c\/∃j l,j≠i/\W[j]? = some l/\a∈l:=by
 obtain⟨l,f,d⟩:=List.mem_flatten.mp h;obtain⟨j,g⟩:=List.getElem?_of_mem f;rcases gS g with⟨_,rfl,_⟩ | ⟨b,e⟩
 ·exact .inl d
 ·exact .inr ⟨j,l,b,e,d⟩
theorem ca{α:Type}{W:List (List α)}{j:Nat}{l:List α}{a:α}(h:W[j]? = some l)(b:a∈l):a∈W.flatten:=List.mem_flatten.mpr ⟨l,List.mem_of_getElem? h,b⟩
theorem Ip{α:Type}{W:List (List α)}{i j:Nat}{b l:List α}{a:α}(c:j≠i)(h:W[j]? = some l)(d:a∈l):a∈(W.set i b).flatten:=ca (j:=j) (by rw[List.getElem?_set_ne (Ne.symm c)];exact h) d
theorem zO{α:Type}{W:List (List α)}{i:Nat}{b:List α}{a:α}(c:i<W.length)(d:a∈b):a∈(W.set i b).flatten:=ca (j:=i) (List.getElem?_set_self c) d
theorem kW{α:Type}:∀{W:List (List α)}{i j:Nat}{l m:List α}{a:α},W.flatten.Nodup->W[i]? = some l->W[j]? = some m->i≠j->a∈l->a∉m
 | [],_,_,_,_,_,_,h,_,_,_=>by simp at h
 | w::W,0,0,_,_,_,_,_,_,d,_=>absurd rfl d
 | w::W,0,j+1,l,m,a,nd,h1,h2,_,b=>fun c=>by
  have e:w=l:=by simpa using h1
  subst e;rw[List.flatten_cons] at nd;exact(List.nodup_append.mp nd).2.2 a b a (ca (j:=j) (by simpa using h2) c) rfl
 | w::W,i+1,0,l,m,a,nd,h1,h2,_,b=>fun c=>by
  have e:w=m:=by simpa using h2
  subst e;rw[List.flatten_cons] at nd;exact(List.nodup_append.mp nd).2.2 a c a (ca (j:=i) (by simpa using h1) b) rfl
 | w::W,i+1,j+1,l,m,a,nd,h1,h2,d,b=>kW (W:=W) (i:=i) (j:=j) (by rw[List.flatten_cons] at nd;exact(List.nodup_append.mp nd).2.1) (by simpa using h1) (by simpa using h2) (by omega) b
theorem nP{α:Type}[DecidableEq α]:∀{W:List (List α)}{i:Nat}{fp O:List α},(W.flatten++O).Nodup->fp.Nodup->(∀a∈fp,(∀j l,j≠i->W[j]? = some l->a∉l)/\a∉O)->((W.set i fp).flatten++O).Nodup
 | [],i,fp,O,h,_,_=>by simpa using h
 | w::W,0,fp,O,h,f,hd=>by
  rw[List.set_cons_zero,List.flatten_cons,List.append_assoc];rw[List.flatten_cons,List.append_assoc] at h;refine List.nodup_append.mpr ⟨f,(List.nodup_append.mp h).2.1,fun a d b c e=>?_⟩;subst e;rcases List.mem_append.mp c with c | c
  ·obtain⟨l,g,k⟩:=List.mem_flatten.mp c;obtain⟨j,m⟩:=List.getElem?_of_mem g;exact(hd a d).1 (j+1) l (by omega) (by simpa using m) k
  ·exact(hd a d).2 c
 | w::W,i+1,fp,O,h,f,hd=>by
  rw[List.set_cons_succ,List.flatten_cons,List.append_assoc];rw[List.flatten_cons,List.append_assoc] at h;obtain⟨o,h2,h3⟩:=List.nodup_append.mp h;have n:=nP (W:=W) (i:=i) (fp:=fp) (O:=O) h2 f fun a d=>⟨fun j l m e=>(hd a d).1 (j+1) l (by omega) (by simpa using e),(hd a d).2⟩
  refine List.nodup_append.mpr ⟨o,n,fun a d b c e=>?_⟩;subst e;rcases List.mem_append.mp c with c | c
  ·rcases fN c with c | ⟨j,l,m,e,g⟩
   ·exact(hd a c).1 0 w (by omega) (by simp) d
   ·exact h3 a d a (br _ (ca e g)) rfl
  ·exact h3 a d a (bi _ c) rfl
section
variable{K:Frag}{F:Fx}{H H':Hp}{Y:St}{U:ai}{O O':List Addr}{W:List (List Addr)}
theorem bT.nofrz(st:bT K F H Y U W){b:Addr}(h:b∈W.flatten++F.O₀){o:Obj}{u:HO}:H b≠some (.frz o u):=fun z=>by obtain⟨a,e,m⟩:=st.live b h;rw[z] at e;cases e;exact m
theorem bT.put(st:bT K F H Y U W){i:Nat}{v:V}{c:ag}{fp:List Addr}(r:i<U.length)
  (keep:∀j l b,j≠i->W[j]? = some l->b∈l->H' b=H b) (f:∀b∈F.O₀,H' b=H b) (frz:∀b o,b∉W.flatten++F.O₀->H b=some o->H' b=some o)
  (C:fp.Nodup) (ap:∀a∈fp,(∀j l,j≠i->W[j]? = some l->a∉l)/\a∉F.O₀) (new:∀a∈fp,a∈W.flatten\/H a=none) (s:∀a∈fp,∃o,H' a=some o/\Mv o)
  (A:aP (W.flatten++F.O₀) H ((W.set i fp).flatten++F.O₀) H'->ek K H' ((W.set i fp).flatten++F.O₀) v c fp) (t:∀b,c=.own true b->v=.ref (F.I₀ i)) :
  bT K F H' (Y.set i (some v)) (U.set i (some c)) (W.set i fp)/\aP (W.flatten++F.O₀) H ((W.set i fp).flatten++F.O₀) H':=by
 have k:aP (W.flatten++F.O₀) H ((W.set i fp).flatten++F.O₀) H':=⟨frz,fun a h=>by
  rcases List.mem_append.mp h with h | h
  ·rcases fN h with h | ⟨j,l,_,e,n⟩
   ·exact(new a h).imp (br _) id
   ·exact .inl (br _ (ca e n))
  ·exact .inl (bi _ h)⟩
 have B:∀b o u,H b=some (.frz o u)->H' b=some (.frz o u):=fun b o u e=>frz b _ (fun z=>st.nofrz z e) e;have x:i<W.length:=by rw[st.lw];exact r
 refine⟨⟨fun j d e=>?_,nP st.nd C ap,fun b o p e=>?_,fun a h=>?_,fun a h=>?_,by rw[List.length_set,List.length_set,st.len],by rw[List.length_set,List.length_set,st.lw],fun j b e=>?_⟩,k⟩
 ·rcases gS e with⟨rfl,g,_⟩ | ⟨m,g⟩
  ·cases g;exact⟨v,fp,List.getElem?_set_self (by rw[<-st.len];exact r),List.getElem?_set_self x,A k⟩
  ·obtain⟨w,l,h1,h2,h3⟩:=st.at_ j d g;exact⟨w,l,by rw[List.getElem?_set_ne (Ne.symm m)];exact h1,by rw[List.getElem?_set_ne (Ne.symm m)];exact h2,h3.keep k (fun b D=>keep j l b m h2 D) B⟩
 ·have g:=st.kept b o p e
  by_cases y:b∈F.O₀
  ·rw[f b y];exact g
  ·refine frz b o (fun z=>?_) g;rcases List.mem_append.mp z with z | z
   ·rcases st.new b z with q | q
    ·exact p q
    ·rw[q] at e;cases e
   ·exact y z
 ·rcases fN h with h | ⟨j,l,_,e,n⟩
  ·rcases new a h with q | q
   ·exact st.new a q
   ·by_cases p:a∈F.A₀
    ·exact .inl p
    ·refine .inr ?_;cases e:F.H₀ a with
     | none=>rfl
     | some o=>rw[st.kept a o p e] at q;cases q
  ·exact st.new a (ca e n)
 ·rcases List.mem_append.mp h with h | h
  ·rcases fN h with h | ⟨j,l,m,e,n⟩
   ·exact s a h
   ·obtain⟨o,h1,h2⟩:=st.live a (br _ (ca e n));exact⟨o,by rw[keep j l a m e n];exact h1,h2⟩
  ·obtain⟨o,h1,h2⟩:=st.live a (bi _ h);exact⟨o,by rw[f a h];exact h1,h2⟩
 ·rcases gS e with⟨rfl,g,_⟩ | ⟨m,g⟩
  ·rw[List.getElem?_set_self (by rw[<-st.len];exact r),t b (Option.some.inj g).symm]
  ·rw[List.getElem?_set_ne (Ne.symm m)];exact st.io j b g
theorem bT.grow(st:bT K F H Y U W)(s:bR H H'):bT K F H' Y U W where
 at_:=fun i c e=>let⟨v,fp,h1,h2,h3⟩:=st.at_ i c e;⟨v,fp,h1,h2,h3.keep (.same s) (fun b hb=>by
  obtain⟨o,e1,_⟩:=st.live b (br _ (ca h2 hb));rw[e1];exact s _ _ e1) fun b o u e=>s _ _ e⟩
 nd:=st.nd
 kept:=fun b o n e=>s b o (st.kept b o n e)
 new:=st.new
 live:=fun a h=>let⟨o,e,m⟩:=st.live a h;⟨o,s _ _ e,m⟩
 len:=st.len
 lw:=st.lw
 io:=st.io
theorem aC.grow(st:aC K F H Y U O)(s:bR H H'):aC K F H' Y U O:=let⟨W,h,e⟩:=st;⟨W,h.grow s,e⟩
theorem aC.nofree(st:aC K F H Y U O):∀p,H p=none->p∉O:=fun p a z=>by obtain⟨W,h,rfl⟩:=st;obtain⟨o,e,_⟩:=h.live p z;rw[a] at e;cases e
theorem aC.lenE(st:aC K F H Y U O):U.length=Y.length:=let⟨_,h,_⟩:=st;h.len
theorem aC.dat(st:aC K F H Y U O){i:Nat}{d:PyData}(e:U[i]? = some (some (.dat d))):∃v,Y[i]? = some (some v)/\DV (aw O H) v d:=by obtain⟨W,h,rfl⟩:=st;obtain⟨v,a,h1,h2,h3⟩:=h.at_ i _ e;exact⟨v,h1,h3⟩
theorem aC.scr(st:aC K F H Y U O){i:Nat}{b:List Int}(e:U[i]? = some (some (.scr b))):∃a,Y[i]? = some (some (.ref a))/\iI K H a b:=by obtain⟨W,h,rfl⟩:=st;obtain⟨v,c,h1,h2,a,rfl,h3⟩:=h.at_ i _ e;exact⟨a,h1,h3⟩
theorem aC.set(st:aC K F H Y U O){i:Nat}{v:V}{d:PyData}(h:DV (aw O H) v d):aC K F H (Y.set i (some v)) (U.set i (some (.dat d))) O:=by
 obtain⟨W,st,rfl⟩:=st;refine⟨W,⟨fun j c e=>?_,st.nd,st.kept,st.new,st.live,by rw[List.length_set,List.length_set,st.len],by rw[List.length_set,st.lw],fun j b e=>?_⟩,rfl⟩
 rotate_left
 ·rcases gS e with⟨rfl,a,_⟩ | ⟨g,a⟩
  ·cases a
  ·rw[List.getElem?_set_ne (Ne.symm g)];exact st.io j b a
 rcases gS e with⟨rfl,a,f⟩ | ⟨g,a⟩
 ·cases a;obtain⟨k,m⟩:∃k,W[j]? = some k:=⟨W[j]'(by rw[st.lw];exact f),List.getElem?_eq_getElem _⟩
  exact⟨v,k,List.getElem?_set_self (by rw[<-st.len];exact f),m,h⟩
 ·obtain⟨w,l,h1,h2,h3⟩:=st.at_ j c a;exact⟨w,l,by rw[List.getElem?_set_ne (Ne.symm g)];exact h1,h2,h3⟩
theorem aC.box(st:aC K F H Y U O){i:Nat}{io:Bool}{b:Bx}(e:U[i]? = some (some (.own io b))):∃a m,Y[i]? = some (some (.ref a))/\fZ (aw O H) H a b m/\(∀c∈m,c∈O)/\
  ∀(H':Hp) (t:Bx) (f:List Addr),(∀c o,c∉m->H c=some o->H' c=some o)->f.Nodup->(∀c∈f,c∈m\/H c=none)->(∀G,(∀O',aP O H O' H'->G=aw O' H'->(∀c∈f,c∈O')->bR (aw O H) G/\fZ G H' a t f))->
   ∃O',aC K F H' Y (U.set i (some (.own io t))) O'/\aP O H O' H'/\(∀c∈O',c∈f\/c∈O):=by
 obtain⟨W,st,rfl⟩:=st;obtain⟨v,m,h1,h2,a,rfl,h3⟩:=st.at_ i _ e;have A:i<U.length:=(List.getElem?_eq_some_iff.mp e).1;have u:i<W.length:=by rw[st.lw];exact A
 refine⟨a,m,h1,h3,fun c d=>br _ (ca h2 d),fun H' t f keep M w N=>?_⟩;have p:W.flatten.Nodup:=(List.nodup_append.mp st.nd).1;have B:∀c∈m,c∉F.O₀:=fun c d z=>(List.nodup_append.mp st.nd).2.2 c (ca h2 d) c z rfl;have D:∀j l c,j≠i->W[j]? = some l->c∈l->H' c=H c:=fun j l c n k d=>by obtain⟨o,g,_⟩:=st.live c (br _ (ca k d));rw[g];exact keep c o (fun z=>kW p k h2 n d z) g
 have E:∀c∈F.O₀,H' c=H c:=fun c d=>by obtain⟨o,g,_⟩:=st.live c (bi _ d);rw[g];exact keep c o (fun z=>B c z d) g
 have ap:∀c∈f,(∀j l,j≠i->W[j]? = some l->c∉l)/\c∉F.O₀:=fun c d=>by
  rcases w c d with q | q
  ·exact⟨fun j l n k z=>kW p h2 k (Ne.symm n) q z,B c q⟩
  ·refine⟨fun j l _ k z=>?_,fun z=>?_⟩
   ·obtain⟨o,g,_⟩:=st.live c (br _ (ca k z));rw[q] at g;cases g
   ·obtain⟨o,g,_⟩:=st.live c (bi _ z);rw[q] at g;cases g
 have frz:∀c o,c∉W.flatten++F.O₀->H c=some o->H' c=some o:=fun c o d I=>keep c o (fun z=>d (br _ (ca h2 z))) I;have x:aP (W.flatten++F.O₀) H ((W.set i f).flatten++F.O₀) H':=⟨frz,fun c h=>by
  rcases List.mem_append.mp h with h | h
  ·rcases fN h with h | ⟨j,l,_,k,y⟩
   ·exact(w c h).imp (fun z=>br _ (ca h2 z)) id
   ·exact .inl (br _ (ca k y))
  ·exact .inl (bi _ h)⟩
 have r:∀c∈f,c∈(W.set i f).flatten++F.O₀:=fun c d=>br _ (zO u d);have s:=(N _ _ x rfl r).2;obtain⟨C,J⟩:=st.put (H':=H') (i:=i) (v:=.ref a) (c:=.own io t) (fp:=f) A D E frz M ap (fun c d=>(w c d).imp (fun z=>ca h2 z) id) (fun c d=>s.live c d) (fun _=>⟨a,rfl,s⟩) (fun Q z=>by cases z;have:=st.io i b e;rw[h1] at this;exact(Option.some.inj (Option.some.inj this)));have L:Y.set i (some (.ref a))=Y:=by
  apply List.ext_getElem?;intro j
  by_cases n:j=i
  ·subst n;rw[List.getElem?_set_self (List.getElem?_eq_some_iff.mp h1).1,h1]
  ·rw[List.getElem?_set_ne (Ne.symm n)]
 rw[L] at C;refine⟨_,⟨_,C,rfl⟩,J,fun c d=>?_⟩;rcases List.mem_append.mp d with d | d
 ·rcases fN d with d | ⟨j,l,_,k,y⟩
  ·exact .inl d
  ·exact .inr (br _ (ca k y))
 ·exact .inr (bi _ d)
theorem aC.freeze(st:aC K F H Y U O){i:Nat}{b:List PyData}(e:U[i]? = some (some (.own false (.l b)))) :
  ∃v O',Y[i]? = some (some v)/\aC K F H Y (U.set i (some (.dat (.list b)))) O'/\aP O H O' H/\DV (aw O' H) v (.list b):=by
 obtain⟨W,st,rfl⟩:=st;obtain⟨v,u,h1,h2,a,rfl,rfl,w,h3,o⟩:=st.at_ i _ e;have p:i<U.length:=(List.getElem?_eq_some_iff.mp e).1;have f:W.flatten.Nodup:=(List.nodup_append.mp st.nd).1;have g:a∉(W.set i []).flatten++F.O₀:=fun z=>by
  rcases List.mem_append.mp z with z | z
  ·rcases fN z with z | ⟨j,l,d,q,r⟩
   ·cases z
   ·exact kW f h2 q (Ne.symm d) List.mem_cons_self r
  ·exact(List.nodup_append.mp st.nd).2.2 a (ca h2 List.mem_cons_self) a z rfl
 have k:aP (W.flatten++F.O₀) H ((W.set i []).flatten++F.O₀) H->DV (aw ((W.set i []).flatten++F.O₀) H) (.ref a) (.list b):=fun s=>.lst (iH h3 g) (aK.mono s.hid o);obtain⟨m,n⟩:=st.put (H':=H) (i:=i) (v:=.ref a) (c:=.dat (.list b)) (fp:=[]) p (fun _ _ _ _ _ _=>rfl) (fun _ _=>rfl) (fun _ _ _ e=>e) List.nodup_nil (fun a h=>by cases h) (fun a h=>by cases h) (fun a h=>by cases h) (fun s=>k s) (fun _ z=>by cases z);have t:Y.set i (some (.ref a))=Y:=by
  apply List.ext_getElem?;intro j
  by_cases d:j=i
  ·subst d;rw[List.getElem?_set_self (List.getElem?_eq_some_iff.mp h1).1,h1]
  ·rw[List.getElem?_set_ne (Ne.symm d)]
 rw[t] at m;exact⟨_,_,h1,⟨_,m,rfl⟩,n,k n⟩
end
abbrev DT:=ai->(PyData->ai->Prop)->Prop
def Mn(t:DT):Prop:=∀U Q a,(∀d b,Q d b->a d b)->t U Q->t U a
noncomputable def iJ(K:Frag)(F:Fx)(t:DT):TE:=fun Y H Q=>∃U O,aC K F H Y U O/\t U fun d c=>∀v a b,aC K F a Y c b->aP O H b a->DV (aw b a) v d->Q v a
structure DE (X:Cx) (F:Fx) (e:Expr) (t:DT):Prop where
 mn:Mn t
 pe:PE X e (iJ X.K F t)
theorem _root_.L2.PE.imp{X:Cx}{e:Expr}{t t':TE}(h:PE X e t)(k:∀Y H Q,t' Y H Q->t Y H Q):PE X e t':=fun a s Y H Q I q=>h a s Y H Q I (k Y H Q q)
theorem _root_.L2.PT.imp{X:Cx}{e:Expr}{t t':TT}(h:PT X e t)(k:∀Y H Q,t' Y H Q->t Y H Q):PT X e t':=fun a s Y H Q I q=>h a s Y H Q I (k Y H Q q)
theorem _root_.L2.PS.imp{X:Cx}{e:Stmt}{t t':TS}(h:PS X e t)(k:∀D Y H,t' D Y H->t D Y H):PS X e t':=fun a s Y H D I q=>h a s Y H D I (k D Y H q)
theorem _root_.L2.PSs.imp{X:Cx}{e:List Stmt}{t t':TS}(h:PSs X e t)(k:∀D Y H,t' D Y H->t D Y H):PSs X e t':=fun a s Y H D I q=>h a s Y H D I (k D Y H q)
section
variable{X:Cx}{F:Fx}{a b e:Expr}{ta tb:DT}{pos:Pos}
noncomputable def dC(d:PyData):DT:=fun U Q=>Q d U
noncomputable def dV(i:Nat):DT:=fun U Q=>(∃d,U[i]? = some (some (.dat d))/\Q d U)\/∃c,U[i]? = some (some (.own false (.l c)))/\Q (.list c) (U.set i (some (.dat (.list c))))
theorem Iq{d:PyData}:Mn (dC d):=fun _ _ _ h q=>h _ _ q
theorem nQ{d:PyData}{v:V}(h:PE X e (tC v))(hd:∀H,DV H v d):DE X F e (dC d):=
 ⟨Iq,h.imp fun Y H Q ⟨U,O,st,q⟩=>q v H O st .refl (hd _)⟩
theorem aq{i j}:DE X F (.Constant (.int i) j pos) (dC (.int i)):=nQ ug fun _=>.int i
theorem eI{i j}:DE X F (.Constant (.bool i) j pos) (dC (.bool i)):=nQ EH fun _=>.bl i
theorem dS{j}:DE X F (.Constant .none j pos) (dC .none):=nQ uh fun _=>.non
theorem bS{x j}:DE X F (.Constant (.str x) j pos) (dC (.str x)):=nQ lZ fun _=>.str x
theorem Ir(i:Nat){x:Str}(h:PE X (.Name x pos) (bU i)):DE X F (.Name x pos) (dV i):=
 ⟨fun _ _ _ k q=>q.imp (fun⟨d,e,q⟩=>⟨d,e,k _ _ q⟩) fun⟨d,e,q⟩=>⟨d,e,k _ _ q⟩,h.imp fun Y H Q ⟨U,O,st,q⟩=>by
  rcases q with⟨d,e,q⟩ | ⟨ds,e,q⟩
  ·obtain⟨v,h1,h2⟩:=st.dat e;exact⟨v,h1,q v H O st .refl h2⟩
  ·obtain⟨v,c,h1,h2,h3,f⟩:=st.freeze e;exact⟨v,h1,q v H c h2 h3 f⟩⟩
abbrev D2:=PyData->PyData->(PyData->Prop)->Prop
noncomputable def cI(f:D2)(ta tb:DT):DT:=fun U Q=>ta U fun x c=>tb c fun y g=>f x y fun d=>Q d g
structure eJ (r:R2) (f:D2):Prop where
 mn:∀x y Q Q',(∀d,Q d->Q' d)->f x y Q->f x y Q'
 ok:∀(O:List Addr) (H:Hp) (u v:V) (x y:PyData) (Q:VK),(∀p,H p=none->p∉O)->DV (aw O H) u x->DV (aw O H) v y->f x y (fun d=>∀w H',bR H H'->DV (aw O H') w d->Q w H')->r u v H Q
theorem qo{r:R2}{f:D2}{ta tb:DT}(o:eJ r f)(k:Mn ta)(D:Mn tb){K:Frag}:∀Y H Q,iJ K F (cI f ta tb) Y H Q->nG r (iJ K F ta) (iJ K F tb) Y H Q:=fun Y H Q ⟨U,O,st,q⟩=>by refine⟨U,O,st,k _ _ _ (fun x l m v1 E n g p s=>?_) q⟩;refine⟨l,n,g,D _ _ _ (fun y G t u v h c i z=>?_) m⟩;refine o.ok h v v1 u x y Q c.nofree (DV.mono i.hid s) z (o.mn _ _ _ _ (fun d A w B j C=>?_) t);exact A w B h (c.grow j) (p.trans (i.trans (.same j))) C
theorem nR{r:R2}{f:D2}(o:eJ r f)(c:Mn ta)(i:Mn tb):Mn (cI f ta tb):=fun _ _ _ k q=>c _ _ _ (fun _ _ d=>i _ _ _ (fun _ _ g=>o.mn _ _ _ _ (fun _ h=>k _ _ h) g) d) q
theorem kX{op:Operator}{r:R2}{f:D2}(g:cH X (binaryOp op) r)(o:eJ r f)(c:DE X F a ta)(d:DE X F b tb):DE X F (.BinOp a op b pos) (cI f ta tb):=
 ⟨nR o c.mn d.mn,(yr g c.pe d.pe).imp (qo o c.mn d.mn)⟩
theorem jP{op:CmpOp}{r:R2}{f:D2}(h:cH X (compareOp op) r)(o:eJ r f)(c:DE X F a ta)(d:DE X F b tb)(g:behindInMarks op b=false):DE X F (.Compare a [op] [b] pos) (cI f ta tb):=
 ⟨nR o c.mn d.mn,(Gh h c.pe d.pe g).imp (qo o c.mn d.mn)⟩
theorem Iu{r:R2}{f:D2}(g:ji X r)(o:eJ r f)(c:DE X F a ta)(d:DE X F b tb)(h:mj b):DE X F (.Subscript a b pos) (cI f ta tb):=
 ⟨nR o c.mn d.mn,(qb g c.pe d.pe h).imp (qo o c.mn d.mn)⟩
noncomputable def fI(C:Int->Int->Prop)(g:Int->Int->PyData):D2:=fun x y Q=>∃i j,x=.int i/\y=.int j/\C i j/\Q (g i j)
theorem uR{C:Int->Int->Prop}{g:Int->Int->V}{g':Int->Int->PyData}(hg:∀i j H,DV H (g i j) (g' i j)):eJ (rI C g) (fI C g') where
 mn:=fun _ _ _ _ k ⟨i,j,e1,e2,c,q⟩=>⟨i,j,e1,e2,c,k _ q⟩
 ok:=fun O H u v x y Q hO h1 h2 ⟨i,j,e1,e2,c,q⟩=>by subst e1 e2;exact⟨i,j,h1.int_inv,h2.int_inv,c,q _ H (fun _ _ h=>h) (hg i j _)⟩
theorem jQ{g:Int->Int->V}{g':Int->Int->PyData}(hg:∀i j H,DV H (g i j) (g' i j)):eJ (iD g) (fI (fun _ _=>True) g') where
 mn:=fun _ _ _ _ k ⟨i,j,e1,e2,c,q⟩=>⟨i,j,e1,e2,c,k _ q⟩
 ok:=fun O H u v x y Q hO h1 h2 ⟨i,j,e1,e2,_,q⟩=>by subst e1 e2;exact⟨i,j,h1.int_inv,h2.int_inv,q _ H (fun _ _ h=>h) (hg i j _)⟩
noncomputable def mw(neg:Bool):D2:=fun x y Q=>SeqAt.shaped x=true/\SeqAt.shaped y=true/\Q (.bool (PyData.eqv x y != neg))
theorem qp{neg:Bool}:eJ (uO neg) (mw neg) where
 mn:=fun _ _ _ _ k ⟨e1,e2,q⟩=>⟨e1,e2,k _ q⟩
 ok:=fun O H u v x y Q hO h1 h2 ⟨e1,e2,q⟩=>⟨x,y,DV.mono qk h1,DV.mono qk h2,e1,e2,q _ H (fun _ _ h=>h) (.bl _)⟩
@[simp] noncomputable def isNone:PyData->Bool
 | .none=>true
 | _=>false
noncomputable def qr:D2:=fun x y Q=>y=.none/\Q (.bool (isNone x))
noncomputable def uS:D2:=fun x y Q=>y=.none/\Q (.bool (!isNone x))
theorem zP{H:Hp}{v:V}{d:PyData}(h:DV H v d):decide (v=.non)=isNone d:=by cases h<;>first | rfl | (exact decide_eq_false (fun z=>by cases z))
theorem zQ:eJ (fun x y H Q=>y=.non/\Q (.bl (decide (x=.non))) H) qr where
 mn:=fun _ _ _ _ k ⟨e,q⟩=>⟨e,k _ q⟩
 ok:=fun O H u v x y Q hO h1 h2 ⟨e,q⟩=>by subst e;exact⟨h2.non_inv,by rw[zP h1];exact q _ H (fun _ _ h=>h) (.bl _)⟩
theorem zR:eJ (fun x y H Q=>y=.non/\Q (.bl (!decide (x=.non))) H) uS where
 mn:=fun _ _ _ _ k ⟨e,q⟩=>⟨e,k _ q⟩
 ok:=fun O H u v x y Q hO h1 h2 ⟨e,q⟩=>by subst e;exact⟨h2.non_inv,by rw[zP h1];exact q _ H (fun _ _ h=>h) (.bl _)⟩
noncomputable def zS:D2:=fun x y Q=>∃c i d,x=.tuple c/\y=.int i/\bE c i=some d/\Q d
noncomputable def zT:D2:=fun x y Q=>∃c i d,x=.list c/\y=.int i/\bE c i=some d/\Q d
theorem zU{H:Hp}{f:List V}{c:List PyData}{i:Int}{d:PyData}(h:aK H f c)(e:bE c i=some d):∃v,bE f i=some v/\DV H v d:=by
 unfold bE at e ⊢;rw[h.length];cases q:cp c.length i with
 | none=>rw[q] at e;cases e
 | some j=>rw[q] at e;exact h.get e
theorem zV{K:Frag}:eJ (uB K) zS where
 mn:=fun _ _ _ _ k ⟨ds,i,d,e1,e2,e3,q⟩=>⟨ds,i,d,e1,e2,e3,k _ q⟩
 ok:=fun O H u v x y Q hO h1 h2 ⟨ds,i,d,e1,e2,e3,q⟩=>by subst e1 e2;obtain⟨a,xs,rfl,ha,hd⟩:=h1.tup_inv;obtain⟨w,ew,hw⟩:=zU hd e3;exact⟨a,xs,i,w,rfl,h2.int_inv,.inl (gR ha).1,ew,q w H (fun _ _ h=>h) hw⟩
theorem zW{K:Frag}:eJ (uA K) zT where
 mn:=fun _ _ _ _ k ⟨ds,i,d,e1,e2,e3,q⟩=>⟨ds,i,d,e1,e2,e3,k _ q⟩
 ok:=fun O H u v x y Q hO h1 h2 ⟨ds,i,d,e1,e2,e3,q⟩=>by subst e1 e2;obtain⟨a,xs,rfl,ha,hd⟩:=h1.lst_inv;obtain⟨w,ew,hw⟩:=zU hd e3;exact⟨a,xs,i,w,rfl,h2.int_inv,.of (cY ha).1,ew,q w H (fun _ _ h=>h) hw⟩
theorem kY{O:List Addr}{H:Hp}{p:Addr}{c:List V}{d:List PyData}(f:H p=none)(g:p∉O)(h:aK (aw O H) c d):DV (aw O (aN H p (.lst c))) (.ref p) (.list d):=
 .lst (iH cj g) (aK.mono (jl (bX f)) h)
theorem nU{O:List Addr}{H:Hp}{p:Addr}{c:List V}{d:List PyData}(f:H p=none)(g:p∉O)(h:aK (aw O H) c d):DV (aw O (aN H p (.tup c))) (.ref p) (.tuple d):=
 .tup (.inl (iH cj g)) (aK.mono (jl (bX f)) h)
noncomputable def uT:D2:=fun x y Q=>∃d c,x=.list d/\y=.list c/\d.length+c.length<=sizeLine/\Q (.list (d++c))
theorem Iw:eJ zk uT where
 mn:=fun _ _ _ _ k ⟨ds,es,e1,e2,e3,q⟩=>⟨ds,es,e1,e2,e3,k _ q⟩
 ok:=fun O H u v x y Q hO h1 h2 ⟨ds,es,e1,e2,e3,q⟩=>by subst e1 e2;obtain⟨a,xs,rfl,ha,hd⟩:=h1.lst_inv;obtain⟨b,ys,rfl,hb,he⟩:=h2.lst_inv;refine⟨a,b,xs,ys,rfl,rfl,(cY ha).1,(cY hb).1,by rw[hd.length,he.length];exact e3,fun p hp=>q _ _ (bX hp) (kY hp (hO p hp) (hd.append he))⟩
end
theorem jR{A B:Prop}(h:if true=true then A else B):A:=by rw[if_pos rfl] at h;exact h
theorem jS{A B:Prop}(h:if false=true then A else B):B:=by rw[if_neg Bool.false_ne_true] at h;exact h
abbrev dY:=ai->(List PyData->ai->Prop)->Prop
def qt(t:dY):Prop:=∀U Q a,(∀d b,Q d b->a d b)->t U Q->t U a
noncomputable def zX(K:Frag)(F:Fx)(t:dY):TA:=fun Y H Q=>∃U O,aC K F H Y U O/\t U fun e d=>∀c a b,aC K F a Y d b->aP O H b a->aK (aw b a) c e->Q c a
structure DA (X:Cx) (F:Fx) (es:List Expr) (t:dY):Prop where
 mn:qt t
 pa:PA X es (zX X.K F t)
theorem _root_.L2.PA.imp{X:Cx}{e:List Expr}{t t':TA}(h:PA X e t)(k:∀Y H Q,t' Y H Q->t Y H Q):PA X e t':=fun pos a s Y H Q I q=>h pos a s Y H Q I (k Y H Q q)
section
variable{X:Cx}{F:Fx}{a b e c:Expr}{es:List Expr}{ta tb tc:DT}{tA:dY}{pos:Pos}
noncomputable def Ix:dY:=fun U Q=>Q [] U
noncomputable def Iy(ta:DT)(f:dY):dY:=fun U Q=>ta U fun d g=>f g fun i h=>Q (d::i) h
theorem Iz:DA X F [] Ix:=⟨fun _ _ _ k q=>k _ _ q,eQ.imp fun Y H Q ⟨U,O,st,q⟩=>q [] H O st .refl .nil⟩
theorem IA(f:DE X F e ta)(g:DA X F es tA)(x:starEach (e::es) X.env=(false,eval e X.env)::starEach es X.env:=by rfl):DA X F (e::es) (Iy ta tA):=
 ⟨fun _ _ _ k q=>f.mn _ _ _ (fun _ _ h=>g.mn _ _ _ (fun _ _ i=>k _ _ i) h) q,(ej f.pe g.pa x).imp fun Y H Q ⟨U,O,st,q⟩=>
  ⟨U,O,st,f.mn _ _ _ (fun d n h v y o j p r=>⟨n,o,j,g.mn _ _ _ (fun A z i s t u l m w=>i (v::s) t u l (p.trans m) (.cons (DV.mono m.hid r) w)) h⟩) q⟩⟩
noncomputable def IB(t:dY):DT:=fun U Q=>t U fun d f=>d.length<=sizeLine/\Q (.tuple d) f
noncomputable def IC(t:dY):DT:=fun U Q=>t U fun d f=>d.length<=sizeLine/\Q (.list d) f
theorem ID{j}(h:DA X F es tA):DE X F (.Tuple es j pos) (IB tA):=
 ⟨fun _ _ _ k q=>h.mn _ _ _ (fun _ _ d=>⟨d.1,k _ _ d.2⟩) q,(yJ h.pa).imp fun Y H Q ⟨U,O,st,q⟩=>
  ⟨U,O,st,h.mn _ _ _ (fun s n d o r l f m i=>⟨by rw[i.length];exact d.1,fun p g=>d.2 _ _ l (f.grow (bX g)) (m.trans (.same (bX g))) (nU g (f.nofree p g) i)⟩) q⟩⟩
theorem IE(h:DA X F es tA):DE X F (.List es pos) (IC tA):=
 ⟨fun _ _ _ k q=>h.mn _ _ _ (fun _ _ d=>⟨d.1,k _ _ d.2⟩) q,(pZ h.pa).imp fun Y H Q ⟨U,O,st,q⟩=>
  ⟨U,O,st,h.mn _ _ _ (fun r m d n o j f l i=>⟨by rw[i.length];exact d.1,fun p g=>d.2 _ _ j (f.grow (bX g)) (l.trans (.same (bX g))) (kY g (f.nofree p g) i)⟩) q⟩⟩
noncomputable def IF(ta:DT):DT:=fun U Q=>ta U fun d f=>∃i,d=.int i/\Q (.int (-i)) f
theorem IG(f:DE X F a ta):DE X F (.UnaryOp .USub a pos) (IF ta):=
 ⟨fun _ _ _ k q=>f.mn _ _ _ (fun _ _ ⟨i,e,q⟩=>⟨i,e,k _ _ q⟩) q,(FZ Gg f.pe).imp fun Y H Q ⟨U,O,st,q⟩=>
  ⟨U,O,st,f.mn _ _ _ (fun d o ⟨i,e,h⟩ v j l g m n=>by subst e;exact⟨i,n.int_inv,h _ j l g m (.int _)⟩) q⟩⟩
noncomputable def IH(ta:DT):DT:=fun U Q=>ta U fun d f=>∃b,d=.bool b/\Q (.bool (!b)) f
theorem II(f:DE X F a ta):DE X F (.UnaryOp .Not a pos) (IH ta):=
 ⟨fun _ _ _ k q=>f.mn _ _ _ (fun _ _ ⟨i,e,q⟩=>⟨i,e,k _ _ q⟩) q,(EZ f.pe).imp fun Y H Q ⟨U,O,st,q⟩=>
  ⟨U,O,st,f.mn _ _ _ (fun d o ⟨i,e,h⟩ v j l g m n=>by subst e;exact⟨i,n.bl_inv,h _ j l g m (.bl _)⟩) q⟩⟩
noncomputable def IJ(ta tb:DT):DT:=fun U Q=>ta U fun d f=>∃b,d=.bool b/\if b=true then tb f Q else Q (.bool false) f
noncomputable def IK(ta tb:DT):DT:=fun U Q=>ta U fun d f=>∃b,d=.bool b/\if b=true then Q (.bool true) f else tb f Q
theorem IL{op}(h:DE X F a ta):DE X F (.BoolOp op [a] pos) ta:=⟨h.mn,EV h.pe⟩
theorem IM{rest:List Expr}(g:DE X F a ta)(j:DE X F (.BoolOp .And (b::rest) pos) tb):DE X F (.BoolOp .And (a::b::rest) pos) (IJ ta tb):=
 ⟨fun _ _ _ k q=>g.mn _ _ _ (fun _ _ ⟨i,e,q⟩=>⟨i,e,by cases i<;>first | exact k _ _ q | exact j.mn _ _ _ k q⟩) q,(EW g.pe j.pe).imp fun Y H Q ⟨U,O,st,q⟩=>
  ⟨U,O,st,g.mn _ _ _ (fun d o ⟨i,e,l⟩ v p m f n r=>by
   subst e;refine⟨i,r.bl_inv,?_⟩;cases i with
   | true=>exact fj ⟨o,m,f,j.mn _ _ _ (fun d z s w t u h x y=>s w t u h (n.trans x) y) (jR l)⟩
   | false=>exact fi (jS l _ p m f n (.bl _))) q⟩⟩
theorem IP{rest:List Expr}(g:DE X F a ta)(j:DE X F (.BoolOp .Or (b::rest) pos) tb):DE X F (.BoolOp .Or (a::b::rest) pos) (IK ta tb):=
 ⟨fun _ _ _ k q=>g.mn _ _ _ (fun _ _ ⟨i,e,q⟩=>⟨i,e,by cases i<;>first | exact k _ _ q | exact j.mn _ _ _ k q⟩) q,(EY g.pe j.pe).imp fun Y H Q ⟨U,O,st,q⟩=>
  ⟨U,O,st,g.mn _ _ _ (fun d o ⟨i,e,l⟩ v p m f n r=>by
   subst e;refine⟨i,r.bl_inv,?_⟩;cases i with
   | false=>exact fi ⟨o,m,f,j.mn _ _ _ (fun d z s w t u h x y=>s w t u h (n.trans x) y) (jS l)⟩
   | true=>exact fj (jR l _ p m f n (.bl _))) q⟩⟩
noncomputable def uU(p f:Int->Int->Bool)(ta tb tc:DT):DT:=fun U Q=>ta U fun x g=>tb g fun y d=>∃i j,x=.int i/\y=.int j/\if p i j=true then tc d (fun z h=>∃k,z=.int k/\Q (.bool (f j k)) h) else Q (.bool false) d
theorem IQ{op f:CmpOp}{p G:Int->Int->Bool}(ho:cH X (compareOp op) (iD fun i j=>.bl (p i j)))(m:cH X (compareOp f) (iD fun i j=>.bl (G i j)))(n:DE X F a ta)(E:DE X F b tb)(o:DE X F c tc)
  (N:lastMarks [op,f] [b,c]=false:=by with_unfolding_all rfl):DE X F (.Compare a [op,f] [b,c] pos) (uU p G ta tb tc):=
 ⟨fun _ _ _ k q=>n.mn _ _ _ (fun _ _ r=>E.mn _ _ _ (fun _ _ ⟨i,j,s,t,d⟩=>⟨i,j,s,t,by
   by_cases h:p i j=true
   ·rw[if_pos h] at d ⊢;exact o.mn _ _ _ (fun _ _ ⟨l,e,A⟩=>⟨l,e,k _ _ A⟩) d
   ·rw[if_neg h] at d ⊢;exact k _ _ d⟩) r) q,
  (Gk ho m n.pe E.pe o.pe N).imp fun Y H Q ⟨U,O,st,q⟩=>
  ⟨U,O,st,n.mn _ _ _ (fun x R r v H1 S B I T=>⟨R,S,B,E.mn _ _ _ (fun y Z ⟨i,j,s,t,d⟩ w H2 J g C L=>by
   subst s t;refine⟨i,j,(DV.mono C.hid T).int_inv,L.int_inv,p i j,rfl,?_⟩
   by_cases h:p i j=true
   ·rw[if_pos h] at d ⊢;exact⟨Z,J,g,o.mn _ _ _ (fun z U3 ⟨l,e,A⟩ u H3 O3 D M d3=>by subst e;exact⟨j,l,(DV.mono M.hid L).int_inv,d3.int_inv,A _ H3 O3 D (I.trans (C.trans M)) (.bl _)⟩) d⟩
   ·rw[if_neg h] at d ⊢;exact d _ H2 J g (I.trans C) (.bl _)) r⟩) q⟩⟩
end
abbrev dh:=ai->(Bool->ai->Prop)->Prop
def jT(t:dh):Prop:=∀U Q a,(∀d b,Q d b->a d b)->t U Q->t U a
noncomputable def kZ(K:Frag)(F:Fx)(t:dh):TT:=fun Y H Q=>∃U O,aC K F H Y U O/\t U fun b d=>∀a c,aC K F a Y d c->aP O H c a->Q b a
structure DB (X:Cx) (F:Fx) (e:Expr) (t:dh):Prop where
 mn:jT t
 pt:PT X e (kZ X.K F t)
section
variable{X:Cx}{F:Fx}{a b e c:Expr}{ta tb tc:DT}{tA tB:dh}{pos:Pos}
noncomputable def fO(ta:DT):dh:=fun U Q=>ta U fun d f=>∃b,d=.bool b/\Q b f
theorem zY(h:Mn ta):jT (fO ta):=fun _ _ _ k q=>h _ _ _ (fun _ _ ⟨b,e,d⟩=>⟨b,e,k _ _ d⟩) q
theorem zZ{K:Frag}(h:Mn ta):∀Y H Q,kZ K F (fO ta) Y H Q->iJ K F ta Y H fun x g=>∃k,x=.bl k/\Q k g:=fun Y H Q ⟨U,O,st,q⟩=>⟨U,O,st,h _ _ _ (fun d o ⟨b,e,i⟩ v j l f m n=>by subst e;exact⟨b,n.bl_inv,i j l f m⟩) q⟩
theorem cP(h:DE X F e ta)(d:∀whole,isTrue e X.env whole=(do let v <-whole;standAt e.pos;holding [v] (truthy v)):=by intro _;rfl):DB X F e (fO ta):=⟨zY h.mn,(EI h.pe d).imp (zZ h.mn)⟩
theorem jU{op:CmpOp}{r:R2}{f:D2}(i:cH X (compareOp op) r)(o:eJ r f)(d:DE X F a ta)(g:DE X F b tb)(h:behindInMarks op b=false):DB X F (.Compare a [op] [b] pos) (fO (cI f ta tb)):=
 ⟨zY (nR o d.mn g.mn),(yz i d.pe g.pe h).imp fun Y H Q q=>qo o d.mn g.mn Y H _ (zZ (nR o d.mn g.mn) Y H Q q)⟩
noncomputable def IR(t:dh):dh:=fun U Q=>t U fun b d=>Q (!b) d
theorem IS(h:DB X F a tA):DB X F (.UnaryOp .Not a pos) (IR tA):=⟨fun _ _ _ k q=>h.mn _ _ _ (fun _ _ q=>k _ _ q) q,(ER h.pt).imp fun Y H Q ⟨U,O,st,q⟩=>⟨U,O,st,h.mn _ _ _ (fun b l f g i d j=>f g i d j) q⟩⟩
structure DW (X:Cx) (F:Fx) (e:Expr) (t:dh):Prop where
 mn:jT t
 pw:PW X e (kZ X.K F t)
theorem _root_.L2.PW.imp{X:Cx}{e:Expr}{t t':TT}(h:PW X e t)(k:∀Y H Q,t' Y H Q->t Y H Q):PW X e t':=fun f d s Y H Q I q=>h f d s Y H Q I (k Y H Q q)
theorem DW.db{t:dh}(h:DW X F e t):DB X F e t:=⟨h.mn,h.pw.pt⟩
noncomputable def IT(t u:dh):dh:=fun U Q=>t U fun b d=>if b=true then u d Q else Q false d
noncomputable def IU(t u:dh):dh:=fun U Q=>t U fun b d=>if b=true then Q true d else u d Q
theorem IV(h:DB X F a tA):DW X F (.BoolOp .And [a] pos) tA:=⟨h.mn,EM h.pt⟩
theorem IW(h:DB X F a tA):DW X F (.BoolOp .Or [a] pos) tA:=⟨h.mn,EN h.pt⟩
theorem IX{rest:List Expr}(f:DB X F a tA)(h:DW X F (.BoolOp .And (b::rest) pos) tB):DW X F (.BoolOp .And (a::b::rest) pos) (IT tA tB):=
 ⟨fun _ _ _ k q=>f.mn _ _ _ (fun b _ q=>by cases b<;>first | exact k _ _ q | exact h.mn _ _ _ k q) q,(EO f.pt h.pw).imp fun Y H Q ⟨U,O,st,q⟩=>
  ⟨U,O,st,f.mn _ _ _ (fun b m i n j d l=>by
   cases b with
   | true=>exact fj ⟨m,j,d,h.mn _ _ _ (fun b t o p r g s=>o p r g (l.trans s)) (jR i)⟩
   | false=>exact fi (jS i n j d l)) q⟩⟩
theorem IY{rest:List Expr}(f:DB X F a tA)(h:DW X F (.BoolOp .Or (b::rest) pos) tB):DW X F (.BoolOp .Or (a::b::rest) pos) (IU tA tB):=
 ⟨fun _ _ _ k q=>f.mn _ _ _ (fun b _ q=>by cases b<;>first | exact k _ _ q | exact h.mn _ _ _ k q) q,(EQ f.pt h.pw).imp fun Y H Q ⟨U,O,st,q⟩=>
  ⟨U,O,st,f.mn _ _ _ (fun b m i n j d l=>by
   cases b with
   | false=>exact fi ⟨m,j,d,h.mn _ _ _ (fun b t o p r g s=>o p r g (l.trans s)) (jS i)⟩
   | true=>exact fj (jR i n j d l)) q⟩⟩
noncomputable def IZ(t:dh)(ta tb:DT):DT:=fun U Q=>t U fun b d=>if b=true then ta d Q else tb d Q
theorem Ja(h:DB X F c tA)(i:DE X F a ta)(p:DE X F b tb):DE X F (.IfExp c a b pos) (IZ tA ta tb):=
 ⟨fun _ _ _ k q=>h.mn _ _ _ (fun b _ q=>by cases b<;>first | exact i.mn _ _ _ k q | exact p.mn _ _ _ k q) q,(Fb h.pt i.pe p.pe).imp fun Y H Q ⟨U,O,st,q⟩=>
  ⟨U,O,st,h.mn _ _ _ (fun b r s x t g u=>by
   cases b with
   | true=>exact fj ⟨r,t,g,i.mn _ _ _ (fun d w j v l m f n o=>j v l m f (u.trans n) o) (jR s)⟩
   | false=>exact fi ⟨r,t,g,p.mn _ _ _ (fun d w j v l m f n o=>j v l m f (u.trans n) o) (jS s)⟩) q⟩⟩
end
abbrev DN:=List PyData->(PyData->Prop)->Prop
structure jV (r:List V->Hp->VK->Prop) (f:DN):Prop where
 mn:∀xs Q Q',(∀d,Q d->Q' d)->f xs Q->f xs Q'
 ok:∀(O:List Addr) (H:Hp) (vs:List V) (xs:List PyData) (Q:VK),(∀p,H p=none->p∉O)->aK (aw O H) vs xs->f xs (fun d=>∀w H',bR H H'->DV (aw O H') w d->Q w H')->r vs H Q
noncomputable def nV(f:DN)(t:dY):DT:=fun U Q=>t U fun b a=>f b fun d=>Q d a
section
variable{X:Cx}{F:Fx}{e:Expr}{es:List Expr}{tA:dY}{pos p:Pos}{x:Str}{id T:String}{r:List V->Hp->VK->Prop}{f:DN}
theorem Aa{K:Frag}(o:jV r f)(h:qt tA):∀Y H Q,iJ K F (nV f tA) Y H Q->uz r (zX K F tA) Y H Q:=fun Y H Q ⟨U,O,st,q⟩=>⟨U,O,st,h _ _ _ (fun t u g i j b a k l=>o.ok b j i t Q a.nofree l (o.mn _ _ _ (fun d m w n c s=>m w n b (a.grow c) (k.trans (.same c)) s) g)) q⟩
theorem Ab(o:jV r f)(h:qt tA):Mn (nV f tA):=fun _ _ _ k q=>h _ _ _ (fun _ _ a=>o.mn _ _ _ (fun _ b=>k _ _ b) a) q
theorem gT(d:ib X (.builtin id) r)(o:jV r f)(g:Gl X x)(h:X.mg x=none)(k:bootBuiltins x=some (.builtin id))(a:DA X F (e::es) tA)(i:x≠"__name__":=by decide)(b:(x==("__debug__":Str))=false:=by decide)
  (j:starEach (e::es) X.env=(false,eval e X.env)::starEach es X.env:=by rfl) (c:(backTo pos (starEach es X.env)).any (·.1)=false:=by rfl):DE X F (.Call (.Name x p) (e::es) [] pos) (nV f tA):=
 ⟨Ab o a.mn,(mi d g h k a.pa i b j c).imp (Aa o a.mn)⟩
theorem Ac(d:ib X (.type T) r)(o:jV r f)(g:Gl X x)(h:X.mg x=none)(k:bootBuiltins x=some (.type T))(a:DA X F (e::es) tA)(i:x≠"__name__":=by decide)(b:(x==("__debug__":Str))=false:=by decide)
  (j:starEach (e::es) X.env=(false,eval e X.env)::starEach es X.env:=by rfl) (c:(backTo pos (starEach es X.env)).any (·.1)=false:=by rfl):DE X F (.Call (.Name x p) (e::es) [] pos) (nV f tA):=
 ⟨Ab o a.mn,(yQ d g h k a.pa i b j c).imp (Aa o a.mn)⟩
end
noncomputable def Ad(n:String)(a:DT):DT:=fun U Q=>a U fun d c=>∃b,(∀K:Frag,kitOne K (.type (uP d)) (.type n)=some b)/\Q (.bool b) c
section
variable{X:Cx}{F:Fx}{e:Expr}{ta:DT}{pos p p2:Pos}{T:String}{x:Str}
theorem jn(i:Gl X "isinstance")(j:X.mg "isinstance" = none)(h:DE X F e ta)(s:PE X (.Name x p2) (tC (.ty T)))
  (g:starEach [e,.Name x p2] X.env=(false,eval e X.env)::starEach [.Name x p2] X.env:=by rfl) (a:starEach [.Name x p2] X.env=(false,eval (.Name x p2) X.env)::starEach [] X.env:=by rfl) (c:(backTo pos (starEach [.Name x p2] X.env)).any (·.1)=false:=by rfl) :
  DE X F (.Call (.Name "isinstance" p) [e,.Name x p2] [] pos) (Ad T ta):=
 ⟨fun _ _ _ k q=>h.mn _ _ _ (fun _ _ ⟨b,e,q⟩=>⟨b,e,k _ _ q⟩) q,
  (mi Ij i j (show bootBuiltins "isinstance" = some (.builtin "isinstance") by decide +kernel) (ej h.pe (ej s eQ a) g) (by decide) (by decide) g c).imp fun Y H Q ⟨U,O,st,q⟩=>
  ⟨U,O,st,h.mn _ _ _ (fun d t ⟨b,e,l⟩ v m n f o r=>⟨v,d,T,b,rfl,DV.mono qk r,e,l _ m n f o (.bl b)⟩) q⟩⟩
end
structure eU (g:Heap) (H:Hp) (h:Heap) (a:Addr) (C:Value) (fl:Option Value):Prop where
 gh:∀b o,g.get? b=some o->∃o',h.get? b=some o'
 lo:g.get? a=none
 un:H a=none
 ob:∃oe vs a0,h.get? a=some oe/\oe.cls=C/\oe.data=.fields vs/\vs[0]? = some a0/\
  ((fl=none/\vs[1]? = some .none)\/∃T oT ts f,fl=some f/\vs[1]? = some (.ref T)/\g.get? T=none/\H T=none/\T≠a/\h.get? T=some oT/\oT.data=.fields ts/\ts[3]? = some f)
structure Ch (g:Heap) (H:Hp) (fs:List Addr) (h h':Heap):Prop where
 keep:∀b o,h.get? b=some o->((∃o',g.get? b=some o')\/H b≠none)->b∉fs->h'.get? b=some o
 slot:∀b o,b∈fs->h.get? b=some o->∃sl,h'.get? b=some { o with slots:=sl }
 there:∀b o,h.get? b=some o->∃o',h'.get? b=some o'
theorem Ch.refl{g:Heap}{H:Hp}{fs:List Addr}{h:Heap}:Ch g H fs h h:=⟨fun _ _ e _ _=>e,fun b o _ e=>⟨o.slots,e⟩,fun b o e=>⟨o,e⟩⟩
theorem Ch.trans{g:Heap}{H:Hp}{fs:List Addr}{h h1 h2:Heap}(x:Ch g H fs h h1)(y:Ch g H fs h1 h2):Ch g H fs h h2 where
 keep:=fun b o e q n=>y.keep b o (x.keep b o e q n) q n
 slot:=fun b o m e=>let⟨_,e1⟩:=x.slot b o m e;let⟨sl,e2⟩:=y.slot b _ m e1;⟨sl,e2⟩
 there:=fun b o e=>let⟨o1,e1⟩:=x.there b o e;y.there b o1 e1
theorem bJ.some_of{P:Program}{w:World}{H:Hp}{h:Heap}(k:bJ P w H h){b:Addr}(e:h.get? b=none):H b=none:=by
 cases q:H b with
 | none=>rfl
 | some u=>
  exfalso;have x:=k b u q;have:∀(u:HO),cD P w H h b u->∃o,h.get? b=some o:=by
   intro u
   induction u with
   | lst d=>exact fun⟨_,_,_,_,e⟩=>⟨_,e⟩
   | tup d=>exact fun⟨_,_,_,o,e,_⟩=>⟨_,e⟩
   | dK a=>exact fun⟨_,_,_,_,o,_,_,e,_⟩=>⟨_,e⟩
   | dT a=>exact fun⟨_,_,_,_,o,_,_,e,_⟩=>⟨_,e⟩
   | set S n=>exact fun⟨o,_,_,_,e,_⟩=>⟨_,e⟩
   | ins C g fs=>exact fun⟨_,_,_,e,_⟩=>⟨_,e⟩
   | own y=>exact fun⟨_,e⟩=>⟨_,e⟩
   | xd fs=>exact fun⟨_,⟨_,_,_,e,_⟩,_⟩=>⟨_,e⟩
   | rng lo i=>exact fun⟨_,_,_,e⟩=>⟨_,e⟩
   | frz ob u _=>exact fun⟨e,_⟩=>⟨_,e⟩
   | tbl j=>exact fun e=>⟨_,e⟩
   | met f y=>exact fun e=>⟨_,e⟩
   | ext φ=>exact fun⟨_,⟨_,e⟩,_⟩=>⟨_,e⟩
  obtain⟨o,c⟩:=this u x;rw[e] at c;cases c
theorem Ae{h base a:Heap}:∀{l:List Env},(∀b∈bN l,a.get? b=none)->h.FunFrames base l->h.FunFrames a l
 | [],_,_=>trivial
 | c::r,hb,⟨f,⟨L,o,d,_,ho,hd⟩,g⟩=>by
  have e:bN (c::r)=L::bN r:=by unfold bN;rw[List.filterMap_cons,d]
  exact⟨f,⟨L,o,d,hb L (by rw[e];exact List.mem_cons_self),ho,hd⟩,Ae (fun b h=>hb b (by rw[e];exact bQ _ h)) g⟩
section
variable{P:Program}{w:World}{M:Model}{A:Around}{E:Value->Shared->Prop}{s:Shared}{g base:Heap}{H:Hp}{env:Env}{outer:List Env}{L a:Addr}{C fv:Value}{fl:Option Value}
theorem Af{t:Obj}{u:Array Value}{head O:Value}{d:Bool}{Q:Unit->Shared->Prop}(v:A.frames=some (env::outer))(y:s.heap.FunFrames base (env::outer))(hf:env.frame=some L)(hk:∀b,s.heap.get? b=none->H b=none)
  (gh:∀b o,g.get? b=some o->∃i,s.heap.get? b=some i) (lo:g.get? a=none) (un:H a=none) (he:s.heap.get? a=some t) (hc:t.cls=C) (hd:t.data=.fields u) (B:1<u.size) (h0:u[0]? = some O)
  (h:∀f,Ch g H (bN (env::outer)) s.heap f->eU g H f a C (some (rawInt L))->Q () { s with heap:=f }) :
  wpAny M A (do let x <-frameOf env;let pl <-entryPlaceOf L d;let b <-EntryCells.newEntry head x .none (rawInt L) .none pl;setField (.ref a) 1 b) Q E s:=by
 refine wpAny_entryW (base:=PySem.W.hideAll s.heap (a::bN (env::outer))) v (Ae (fun b l=>PySem.W.hideAll_none _ (bQ _ l)) y) hf he (fun b o e=>PySem.W.of_hideAll _ e) (PySem.W.hideAll_none _ List.mem_cons_self) hd B h0 fun f ⟨k1,k2,k3,k4⟩=>?_;obtain⟨D,G,T,oT,R,S,⟨e2,I⟩,e3,e4,U,X,Y,Z,e9⟩:=k3;have m:∀b o,b∈bN (env::outer)->s.heap.get? b=some o->∃m,f.get? b=some { o with slots:=m }:=fun b o l e=>by obtain⟨_,i,c,J⟩:=y.mem l;rw[e] at c;cases c;exact k4 b o e J
 have kp:∀b o,s.heap.get? b=some o->b≠a->b∉bN (env::outer)->f.get? b=some o:=fun b o e p r=>k1 b o (PySem.W.hideAll_get _ e fun z=>(List.mem_cons.mp z).elim p r);have hT:g.get? T=none/\H T=none:=by
  cases q:s.heap.get? T with
  | some o=>
   exfalso
   by_cases j:T∈bN (env::outer)
   ·obtain⟨_,i,c,J⟩:=y.mem j;rw[q] at c;cases c;obtain⟨N,k⟩:=m T o j q;rw[Y] at k;cases k;exact J R Z
   ·rw[PySem.W.hideAll_get _ q (fun z=>(List.mem_cons.mp z).elim X j)] at U;cases U
  | none=>
   refine⟨?_,hk T q⟩;cases q2:g.get? T with
   | none=>rfl
   | some o=>obtain⟨i,c⟩:=gh T o q2;rw[q] at c;cases c
 have ch:Ch g H (bN (env::outer)) s.heap f:=⟨fun b o e q n=>kp b o e (fun z=>?_) n,fun b o l e=>m b o l e,fun b o e=>?_⟩
 ·refine h f ch ⟨fun b o e=>?_,lo,un,D,G,O,S,e2.trans hc,e3,I,.inr ⟨T,oT,R,_,rfl,e4,hT.1,hT.2,X,Y,Z,e9⟩⟩;obtain⟨i,c⟩:=gh b o e;exact ch.there b i c
 ·subst z;rcases q with⟨i,q⟩ | q
  ·rw[lo] at q;cases q
  ·exact q un
 ·by_cases r:b∈bN (env::outer)
  ·obtain⟨N,c⟩:=m b o r e;exact⟨_,c⟩
  ·by_cases p:b=a
   ·subst p;exact⟨_,S⟩
   ·exact⟨o,kp b o e p r⟩
theorem Jb{h:Heap}{l:List Env}{T:Addr}{d:Obj}{e:Array Value}{f:Obj->Obj}(i:h.FunFrames base l)(j:h.get? T=some d)(hd:d.data=.fields e):(h.update T f).FunFrames base l:=
 i.of_keeps fun b o c k=>⟨o,by rw[Heap.get?_update_other _ _ (fun z=>k e (by subst z;rw[j] at c;cases c;exact hd))];exact c,rfl⟩
theorem Ag{h:Heap}{fs:List Addr}{T:Addr}{c:Obj}{i:Array Value}{f:Array Value->Array Value}(j:h.get? T=some c)(hd:c.data=.fields i)(k:g.get? T=none)(l:H T=none)(d:T∉fs):Ch g H fs h (h.update T (Obj.mapFields f)):=by
 have self:(h.update T (Obj.mapFields f)).get? T=some (c.mapFields f):=Heap.get?_update_self _ j (Obj.isFreed_of_fields (Obj.data_mapFields hd f));refine⟨fun b o e q n=>?_,fun b o m e=>⟨o.slots,?_⟩,fun b o e=>?_⟩
 ·rw[Heap.get?_update_other _ _ (fun z=>?_)]
  ·exact e
  ·subst z;rcases q with⟨p,q⟩ | q
   ·rw[k] at q;cases q
   ·exact q l
 ·rw[Heap.get?_update_other _ _ (fun z=>d (by rw[z];exact m))];exact e
 ·by_cases z:b=T
  ·subst z;exact⟨_,self⟩
  ·exact⟨o,by rw[Heap.get?_update_other _ _ (Ne.symm z)];exact e⟩
theorem Ah{Q:Unit->Shared->Prop}(k:A.frames=some (env::outer))(t:s.heap.FunFrames base (env::outer))(u:env.frame=some L)(J:∀b,s.heap.get? b=none->H b=none)(x:eU g H s.heap a C fl)
  (h:∀l,Ch g H (bN (env::outer)) s.heap l->eU g H l a C (some (rawInt L))->Q () { s with heap:=l }):wpAny M A (noteFrame (.ref a) env) Q E s:=by
 obtain⟨I,lo,un,N,R,S,m,v,hd,y,hx⟩:=x;unfold noteFrame;simp only[u];rcases hx with⟨_,h1⟩ | ⟨T,U,O,f,_,h1,n,p,r,j,c,h3⟩
 ·refine al (wpAny_field m hd h1 ?_);rw[if_neg (by decide)];exact Af k t u J I lo un m v hd (Array.getElem?_eq_some_iff.mp h1).1 y h
 ·refine al (wpAny_field m hd h1 ?_);rw[if_pos (show(Value.ref T != Value.none)=true from by simp)];refine al (wpAny_field j c h3 ?_)
  by_cases d:(f==rawInt L)=true
  ·rw[if_pos d];have e:f=rawInt L:=by simpa using d
   subst e;exact aV (h s.heap .refl ⟨I,lo,un,N,R,S,m,v,hd,y,.inr ⟨T,U,O,_,rfl,h1,n,p,r,j,c,h3⟩⟩)
  ·rw[if_neg d];refine al (wpAny_setField j c (Array.getElem?_eq_some_iff.mp h3).1 ?_);have B:T∉bN (env::outer):=fun z=>by obtain⟨_,D,i,X⟩:=t.mem z;rw[j] at i;cases i;exact X O c
   have G:=Ag (g:=g) (H:=H) (f:=(·.setIfInBounds 3 Value.none)) j c n p B;refine Af (s:={ s with heap:=s.heap.update T (Obj.mapFields (·.setIfInBounds 3 Value.none)) }) k (Jb t j c) u (fun b e=>?_) (fun b o e=>?_) lo un ?_ v hd (Array.getElem?_eq_some_iff.mp h1).1 y fun l ch Y=>h l (G.trans ch) Y
   ·refine J b ?_;cases q:s.heap.get? b with
    | none=>rfl
    | some o=>obtain⟨D,i⟩:=G.there b o q;rw[show({ s with heap:=s.heap.update T (Obj.mapFields (·.setIfInBounds 3 Value.none)) }:Shared).heap=s.heap.update T (Obj.mapFields (·.setIfInBounds 3 Value.none)) from rfl] at e;rw[e] at i;cases i
   ·obtain⟨D,i⟩:=I b o e;exact G.there b D i
   ·show(s.heap.update T _).get? a=some N;rw[Heap.get?_update_other _ _ r];exact m
theorem uV{Q:Unit->Shared->Prop}{fs:List Addr}(m:Option Addr)(n:∀b∈fs,∃o,s.heap.get? b=some o/\∀p,o.data≠.fields p)(x:eU g H s.heap a C (some fv))
  (h:∀q,Ch g H fs s.heap q->eU g H q a C (some (m.elim Value.none fun f=>rawInt f))->Q () { s with heap:=q }):wpAny M A (setFlight (.ref a) m) Q E s:=by
 obtain⟨R,lo,un,y,p,B,t,D,hd,G,hx⟩:=x;rcases hx with⟨z,_⟩ | ⟨T,S,I,f,_,h1,d,i,j,l,c,h3⟩
 ·cases z
 ·unfold setFlight;refine al (wpAny_field t hd h1 ?_);rw[if_pos (show(Value.ref T != Value.none)=true from by simp)];have r:T∉fs:=fun z=>by obtain⟨o,u,J⟩:=n T z;rw[l] at u;cases u;exact J I c
  have k:=(Array.getElem?_eq_some_iff.mp h3).1;have v:=Ag (g:=g) (H:=H) (f:=(·.setIfInBounds 3 (m.elim Value.none fun f=>rawInt f))) l c d i r;refine wpAny_setField l c k (h _ v ⟨fun b o e=>?_,lo,un,y,p,B,?_,D,hd,G,.inr ⟨T,_,_,_,rfl,h1,d,i,j,Heap.get?_update_self _ l (Obj.isFreed_of_fields (Obj.data_mapFields c _)),Obj.data_mapFields c _,?_⟩⟩)
  ·obtain⟨N,O⟩:=R b o e;exact v.there b N O
  ·rw[Heap.get?_update_other _ _ j];exact t
  ·simp[k]
theorem uW{h:Heap}{l:List Env}(c:h.FunFrames base l):∀b∈bN l,∃o,h.get? b=some o/\∀d,o.data≠.fields d:=fun b f=>let⟨_,o,e,n⟩:=c.mem f;⟨o,e,n⟩
theorem Ch.frames{fs:List Addr}{h d:Heap}{l:List Env}(c:Ch g H fs h d)(i:∀b∈bN l,b∈fs)(j:h.FunFrames base l):d.FunFrames base l:=by
 induction l with
 | nil=>trivial
 | cons env r k=>
  obtain⟨m,⟨L,o,f,n,ho,hd⟩,p⟩:=j;have e:bN (env::r)=L::bN r:=by unfold bN;rw[List.filterMap_cons,f]
  obtain⟨u,q⟩:=c.slot L o (i L (by rw[e];exact List.mem_cons_self)) ho;exact⟨m,⟨L,_,f,n,q,hd⟩,k (fun b t=>i b (by rw[e];exact bQ _ t)) p⟩
theorem Ai{Q:Unit->Shared->Prop}(c:A.frames=some (env::outer))(e:s.heap.FunFrames base (env::outer))(i:env.frame=some L)(j:∀b,s.heap.get? b=none->H b=none)(x:eU g H s.heap a C fl)
  (h:∀d,Ch g H (bN (env::outer)) s.heap d->eU g H d a C (some .none)->Q () { s with heap:=d }):wpAny M A (leaving env (.ref a)) Q E s:=by
 unfold leaving;refine al (Ah c e i j x fun n f k=>?_);refine uV (s:={ s with heap:=n }) (fs:=bN (env::outer)) none (uW (f.frames (fun _ h=>h) e)) k fun o l m=>h o (f.trans l) m
end
structure jW (X:Cx) (pins:List (Addr×Obj)) (g:Heap):Prop where
 s0:∀b o,X.s₀.heap.get? b=some o->b∉X.ex->∃o',g.get? b=some o'
 loc:∃o,g.get? X.env.locals=some o
 cell:∀x c,X.env.cells.lookup x=some c->∃o,g.get? c=some o
 pin:∀p∈X.pn++pins,∃o,g.get? p.1=some o
section
variable{X:Cx}{pins:List (Addr×Obj)}{Y:St}{H:Hp}{s:Shared}{g h':Heap}
theorem _root_.L2.Inv.cov(I:Inv X pins Y H s):jW X pins s.heap:=by
 refine⟨fun b o e n=>I.base.there b o e n,?_,fun x c e=>?_,fun p a=>⟨_,(I.pin p a).1⟩⟩
 ·obtain⟨m,⟨o,d,f,ho,_⟩,_⟩:=I.loc;exact⟨o,ho⟩
 ·obtain⟨v,o,ho,_⟩:=I.cell x c e;exact⟨o,ho⟩
theorem _root_.L2.Inv.stkIn(I:Inv X pins Y H s){b:Addr}(h:b∉bN X.stack):b∉X.fs:=by
 rcases I.ok.stk with e | ⟨e,a⟩
 ·rw[e] at h;exact h
 ·rw[e] at h;unfold bN at h;rw[List.filterMap_cons,a] at h;exact fun z=>h (bQ _ z)
theorem _root_.L2.Inv.stkOut(I:Inv X pins Y H s){b:Addr}(h:b∉X.fs)(a:b≠X.env.locals):b∉bN X.stack:=fun z=>(List.mem_cons.mp (I.stkSub b z)).elim a h
theorem Jc{h h':Heap}{a:Addr}{m:Str->Option Value}(k:∀o,h.get? a=some o->∃b,h'.get? a=some { o with slots:=b })(c:h.Ns a m):h'.Ns a m:=by obtain⟨o,d,e,ho,hd,r⟩:=c;obtain⟨b,hs⟩:=k o ho;exact⟨_,d,e,hs,hd,r⟩
theorem _root_.L2.Inv.ch(I:Inv X pins Y H s)(B:jW X pins g)(c:Ch g H (bN X.stack) s.heap h'):Inv X pins Y H { s with heap:=h' }:=by
 have ht:∀b o,s.heap.get? b=some o->H b≠none->h'.get? b=some o:=fun b o e n=>c.keep b o e (.inr n) fun z=>n (I.stkFree b z);have E:∀x a,X.env.cells.lookup x=some a->∀o,s.heap.get? a=some o->∃y,h'.get? a=some y/\y.data=o.data:=fun x a e o h=>by
  by_cases hs:a∈bN X.stack
  ·obtain⟨R,w⟩:=c.slot a o hs h;exact⟨_,w,rfl⟩
  ·exact⟨o,c.keep a o h (.inl (B.cell x a e)) hs,rfl⟩
 refine⟨I.ok,I.os,I.bare,⟨fun b o e n A t=>?_,fun b o e n A t=>?_,fun b o e n t=>I.base.free b o e n t,fun b o e t=>?_,I.base.tups,I.base.frzs,I.base.tbls⟩,?_,fun x a e=>?_,I.free,I.freeC,fun p G=>?_,fun b u e=>?_,I.len⟩
 ·have w:=I.base.keep b o e n A t;refine c.keep b o w (.inl (B.s0 b o e t)) (I.stkOut A fun z=>?_);have j:=I.ok.above;have f:b<X.s₀.heap.objs.size:=bB e;rw[z] at f;exact Nat.lt_irrefl _ (Nat.lt_of_lt_of_le f j)
 ·obtain⟨R,w⟩:=I.base.slot b o e n A t
  by_cases hs:b∈bN X.stack
  ·obtain⟨D,L⟩:=c.slot b _ hs w;exact⟨D,L⟩
  ·exact absurd A (I.stkIn hs)
 ·obtain⟨M,w⟩:=I.base.there b o e t;exact c.there b M w
 ·obtain⟨m,N,O⟩:=I.loc;refine⟨m,Jc (fun o h=>?_) N,fun i x v j f C=>?_⟩
  ·by_cases hs:X.env.locals∈bN X.stack
   ·exact c.slot _ o hs h
   ·exact⟨o.slots,c.keep _ o h (.inl B.loc) hs⟩
  ·obtain⟨u,r,l⟩:=O i x v j f C;refine⟨u,r,?_⟩;rcases l with l | ⟨k,a,e,o,h,hd⟩
   ·exact .inl l
   ·obtain⟨y,j,f⟩:=E x a e o h;exact .inr ⟨k,a,e,y,j,f.trans hd⟩
 ·obtain⟨v,o,h,hd⟩:=I.cell x a e;obtain⟨y,j,f⟩:=E x a e o h;exact⟨v,y,j,f.trans hd⟩
 ·obtain⟨j,f,C,J,Q⟩:=I.pin p G;exact⟨c.keep _ _ j (.inl (B.pin p G)) (I.stkOut J C),f,C,J,Q⟩
 ·refine(I.hok b u e).stay (fun d v hd q=>ht d v q ?_) (fun _ q=>q) fun _ _ q=>q;rcases hd with rfl | hd
  ·rw[e];exact fun z=>by cases z
  ·rw[hd];exact fun z=>by cases z
noncomputable def ba(P:Program)(w:World):fJ:=fun b H s E e c=>∃a C d,e=.ref a/\c.os=s.os/\AllBare c.gens/\Un (bN b) [] H d s.heap c.heap/\bJ P w d c.heap/\eU s.heap d c.heap a C (some .none)/\E C none d
structure Jd (X:Cx) (pins:List (Addr×Obj)) (Y:St) (H:Hp) (s:Shared) (e:Value) (c:Str):Prop where
 inv:Inv X pins Y H s
 ex:∃a C g fl,e=.ref a/\jW X pins g/\eU g H s.heap a C fl/\X.mg c=some C
noncomputable def glob(x:Str):Option PyData:=if x="ANY_ZONE" then some (.tuple [.int 0,.tuple []]) else if x="NO_DEEDS" then some (.tuple []) else none
noncomputable def gc:HO->Bool
 | .tup _=>true
 | .frz _ (.tup _)=>true
 | _=>false
theorem Je{u:HO}(h:gc u=true):¬ Mv u:=fun m=>by
 cases u with
 | tup _=>exact m
 | frz _ _=>exact m
 | _=>cases h
noncomputable def nW(H:Hp):Hp:=fun b=>match H b with
 | some u=>if gc u=true then some u else none
 | none=>none
theorem Jf{H:Hp}{b:Addr}{o:HO}(h:nW H b=some o):gc o=true/\H b=some o:=by
 unfold nW at h;split at h
 ·rename_i u e;split at h
  ·rename_i t;cases h;exact⟨t,e⟩
  ·cases h
 ·cases h
theorem Jg{H:Hp}{b:Addr}{u:HO}(t:gc u=true)(h:H b=some u):nW H b=some u:=by unfold nW;rw[h];exact if_pos t
def GH(a:Str->Option Value)(H:Hp):Prop:=∀x d u,glob x=some d->a x=some u->∃v,bd v u/\DV (nW H) v d
def GF(a:Str->Option Value)(F:Fx):Prop:=GH a fun b=>if b∈F.A₀ then none else F.H₀ b
theorem GH.mono{c:Str->Option Value}{H a:Hp}(g:GH c H)(k:∀b u,gc u=true->H b=some u->a b=some u):GH c a:=fun x d u i j=>by obtain⟨v,r,f⟩:=g x d u i j;exact⟨v,r,DV.mono (fun b o e=>by obtain⟨t,h⟩:=Jf e;exact Jg t (k b o t h)) f⟩
theorem GF.at{a:Str->Option Value}{K:Frag}{F:Fx}{H:Hp}{Y:St}{U:ai}{O:List Addr}(g:GF a F)(st:aC K F H Y U O):GH a H:=GH.mono g fun b d t e=>by
 obtain⟨W,st,rfl⟩:=st;split at e
 ·cases e
 ·rename_i c;exact st.kept b _ c e
theorem GH.frame{d:Str->Option Value}{H:Hp}{A O:List Addr}{io:Nat->Addr}(g:GH d H)(h:∀a∈A,∃o,H a=some o/\Mv o):GF d ⟨H,A,O,io⟩:=GH.mono g fun b f t e=>by show(if b∈A then none else H b)=_;rw[if_neg,e];intro z;obtain⟨o,c,m⟩:=h b z;rw[e] at c;cases c;exact Je t m
theorem GF.into{b:Str->Option Value}{K:Frag}{F:Fx}{H:Hp}{Y:St}{U:ai}{O c:List Addr}{io:Nat->Addr}(g:GF b F)(st:aC K F H Y U O):GF b ⟨H,[],c,io⟩:=(g.at st).frame fun a h=>by cases h
def eV(X:Cx)(F:Fx)(E:Str->ai->Prop):Prop:=GF X.mg F/\∀(pins:List (Addr×Obj)) (Y:St) (H:Hp) (s:Shared) (e:Value) (c:Str) (U:ai) (O:List Addr),Jd X pins Y H s e c->aC X.K F H Y U O->E c U->X.xe e s
theorem eU.weak{g c:Heap}{H:Hp}{h:Heap}{a:Addr}{C:Value}{j:Option Value}(x:eU g H h a C j)(k:∀b o,c.get? b=some o->∃d,g.get? b=some d):eU c H h a C j:=by
 have l:∀b,g.get? b=none->c.get? b=none:=fun b e=>by
  cases q:c.get? b with
  | none=>rfl
  | some o=>obtain⟨d,i⟩:=k b o q;rw[e] at i;cases i
 obtain⟨z,lo,un,m,n,p,r,t,hd,u,hx⟩:=x;refine⟨fun b o e=>let⟨d,i⟩:=k b o e;z b d i,l a lo,un,m,n,p,r,t,hd,u,hx.imp id ?_⟩;rintro⟨T,v,w,f,h1,h2,h3,y⟩;exact⟨T,v,w,f,h1,h2,l T h3,y⟩
theorem _root_.L2.Inv.flies{E:XK}{e:Value}{f:Shared}(I:Inv X pins Y H s)(h:ba X.prog X.w X.stack H s E e f):∃a C c,e=.ref a/\Inv X pins Y c f/\jW X pins s.heap/\eU s.heap c f.heap a C (some .none)/\E C none c:=by obtain⟨a,C,c,j,os,bare,un,hok,ex,q⟩:=h;obtain⟨k,g,d,t,i⟩:=f;obtain rfl:i = s.os:=os;exact⟨a,C,c,j,I.call (h':=k) (g':=g) (d':=d) (t':=t) (ch:=[]) un hok bare (fun b z=>absurd z (by simp)),I.cov,ex,q⟩
end
theorem Jh{P:Program}{w:World}{K:Frag}{m:Str->Option Value}{base:Heap}{N:List Str}{i:Str}{d:Scope}{f:Addr}{j:Value}{A:Around}{h:List Env}{s:Shared}{H:Hp}{E:XK}{F:Fx}{n:Str->ai->Prop}
  (v:GF m F) (x:∀c C p y r B,m c=some C->aC K F r y p B->n c p->E C none r):eV (jh (ba P w) P w K m base N i d f j A h s H E) F n:=by
 refine⟨v,?_⟩;intro t Y k D e c U O ⟨I,a,C,g,R,G,u,ex,L⟩ st q;subst G;have M:(A.deeper (envOfC i d s.heap.objs.size f j)).frames=some (envOfC i d s.heap.objs.size f j::h):=I.ok.frames;have hb:∀b,D.heap.get? b=none->k b=none:=fun b z=>bJ.some_of I.hok z;have stk:bN (envOfC i d s.heap.objs.size f j::h)=s.heap.objs.size::bN h:=rfl;refine Ai (base:=base) M I.stack rfl hb ex fun S ch l=>?_;have J:=I.ch u ch;refine⟨a,C,k,rfl,J.os,J.bare,J.base,J.hok,l.weak fun b o Q=>u.s0 b o Q (by intro z;cases z),x c C U Y k O L st q⟩
noncomputable def Fx.plus(F:Fx)(a:List Addr):Fx:={ F with O₀:=a++F.O₀ }
theorem Fx.plus_plus{F:Fx}{l m:List Addr}:(F.plus l).plus m=F.plus (m++l):=by unfold Fx.plus;simp
section
variable{K:Frag}{F:Fx}{H H':Hp}{Y:St}{U:ai}{O O':List Addr}{W:List (List Addr)}{fp:List Addr}{v:V}{c:ag}
structure gy (K:Frag) (F:Fx) (H:Hp) (Y:St) (U:ai) (O:List Addr) (v:V) (c:ag) (fp:List Addr):Prop where
 st:aC K (F.plus fp) H Y U O
 at_:ek K H O v c fp
 new:∀a∈fp,a∈F.A₀\/F.H₀ a=none
theorem gd(h:∀a∈O',a∈O):aP O H O' H:=⟨fun _ _ _ e=>e,fun a z=>.inl (h a z)⟩
theorem bT.less{b:Fx}(st:bT K F H Y U W)(d:b.H₀=F.H₀)(f:b.A₀=F.A₀)(g:b.I₀=F.I₀)(m:b.O₀.Sublist F.O₀):bT K b H Y U W:=by have sub:(W.flatten++b.O₀).Sublist (W.flatten++F.O₀):=List.Sublist.append (List.Sublist.refl _) m;have mem:∀a∈W.flatten++b.O₀,a∈W.flatten++F.O₀:=fun a h=>sub.subset h;refine⟨fun i c e=>?_,st.nd.sublist sub,by rw[d,f];exact st.kept,by rw[d,f];exact st.new,fun a h=>st.live a (mem a h),st.len,st.lw,by rw[g];exact st.io⟩;obtain⟨v,fp,j,k,l⟩:=st.at_ i c e;exact⟨v,fp,j,k,l.keep (gd mem) (fun _ _=>rfl) (fun _ _ _ e=>e)⟩
theorem aC.unplus(st:aC K (F.plus fp) H Y U O):∃O',aC K F H Y U O'/\aP O H O' H/\(∀a∈fp,a∉O'):=by
 obtain⟨W,st,rfl⟩:=st;have b:bT K F H Y U W:=st.less rfl rfl rfl (List.sublist_append_right _ _);refine⟨_,⟨W,b,rfl⟩,gd fun a h=>?_,fun a d z=>?_⟩
 ·rcases List.mem_append.mp h with h | h
  ·exact br _ h
  ·exact bi _ (bi _ h)
 ·have nd:(W.flatten++(fp++F.O₀)).Nodup:=st.nd;obtain⟨_,e,f⟩:=List.nodup_append.mp nd;rcases List.mem_append.mp z with z | z
  ·exact f a z a (br _ d) rfl
  ·exact(List.nodup_append.mp e).2.2 a d a z rfl
theorem gy.drop(r:gy K F H Y U O v c fp):∃O',aC K F H Y U O'/\aP O H O' H:=let⟨O',h1,h2,_⟩:=r.st.unplus;⟨O',h1,h2⟩
@[simp] noncomputable def frz:ag->Option PyData
 | .dat d=>some d
 | .own _ (.l ds)=>some (.list ds)
 | _=>none
theorem gy.frz{d:PyData}(r:gy K F H Y U O v c fp)(e:frz c=some d):∃O',aC K F H Y U O'/\aP O H O' H/\DV (aw O' H) v d:=by
 obtain⟨O',h1,h2,h3⟩:=r.st.unplus;refine⟨O',h1,h2,?_⟩;have f:=r.at_;cases c with
 | dat x=>cases e;exact DV.mono h2.hid f
 | scr ns=>cases e
 | exc c=>cases e
 | vw c=>cases e
 | own io b=>
  cases b with
  | l ds=>cases e;obtain⟨a,rfl,rfl,i,g,h⟩:=f;exact .lst (iH g (h3 a (by simp))) (aK.mono h2.hid h)
  | m _ _=>cases e
  | o _ _=>cases e
  | sd _=>cases e
  | ll _=>cases e
  | pr _ _ _=>cases e
theorem Ji(st:aC K F H Y U O){d:PyData}(h:DV (aw O H) v d):gy K F H Y U O v (.dat d) []:=⟨st,h,fun a h=>by cases h⟩
theorem aC.put1{io:Bool}(st:aC K (F.plus fp) H Y U O)(s:ek K H O v c fp)(new:∀a∈fp,a∈F.A₀\/F.H₀ a=none){i:Nat}(n:i<U.length)(o:∀b,c=.own true b->v=.ref (F.I₀ i)) :
  ∃O',aC K F H (Y.set i (some v)) (U.set i (some c)) O'/\aP O H O' H:=by
 obtain⟨W,st,rfl⟩:=st;have nd:(W.flatten++(fp++F.O₀)).Nodup:=st.nd;obtain⟨t,u,r⟩:=List.nodup_append.mp nd;obtain⟨x,y,A⟩:=List.nodup_append.mp u;have p:i<W.length:=by rw[st.lw];exact n
 have sub:∀a∈(W.set i fp).flatten++F.O₀,a∈W.flatten++(fp++F.O₀):=fun a h=>by
  rcases List.mem_append.mp h with h | h
  ·rcases fN h with h | ⟨j,l,_,e,q⟩
   ·exact bi _ (br _ h)
   ·exact br _ (ca e q)
  ·exact bi _ (bi _ h)
 have f:=gd (H:=H) sub;refine⟨_,⟨W.set i fp,⟨fun j d e=>?_,nP (List.nodup_append.mpr ⟨t,y,fun a k b B=>r a k b (bi _ B)⟩) x fun a k=>⟨fun j l _ e z=>r a (ca e z) a (br _ k) rfl,fun z=>A a k a z rfl⟩,st.kept,fun a h=>?_,fun a h=>st.live a (sub a h),by rw[List.length_set,List.length_set,st.len],by rw[List.length_set,List.length_set,st.lw],fun j b e=>?_⟩,rfl⟩,f⟩
 ·rcases gS e with⟨rfl,g,_⟩ | ⟨m,g⟩
  ·cases g;exact⟨v,fp,List.getElem?_set_self (by rw[<-st.len];exact n),List.getElem?_set_self p,s.keep f (fun _ _=>rfl) (fun _ _ _ e=>e)⟩
  ·obtain⟨w,l,h1,h2,h3⟩:=st.at_ j d g;exact⟨w,l,by rw[List.getElem?_set_ne (Ne.symm m)];exact h1,by rw[List.getElem?_set_ne (Ne.symm m)];exact h2,h3.keep f (fun _ _=>rfl) (fun _ _ _ e=>e)⟩
 ·rcases fN h with h | ⟨j,l,_,e,q⟩
  ·exact new a h
  ·exact st.new a (ca e q)
 ·rcases gS e with⟨rfl,g,_⟩ | ⟨m,g⟩
  ·rw[List.getElem?_set_self (by rw[<-st.len];exact n),o b (Option.some.inj g).symm]
  ·rw[List.getElem?_set_ne (Ne.symm m)];exact st.io j b g
theorem aC.take(st:aC K F H Y U O){i:Nat}{io:Bool}{b:Bx}(e:U[i]? = some (some (.own io b))):∃a fp O',Y[i]? = some (some (.ref a))/\aC K (F.plus fp) H Y (U.set i none) O'/\fZ (aw O' H) H a b fp/\aP O H O' H/\aP O' H O H/\(∀a∈fp,a∈F.A₀\/F.H₀ a=none)/\(io=true->a=F.I₀ i):=by
 obtain⟨W,st,rfl⟩:=st;obtain⟨v,fp,h1,h2,a,rfl,h3⟩:=st.at_ i _ e;have G:i<U.length:=(List.getElem?_eq_some_iff.mp e).1;have I:i<W.length:=by rw[st.lw];exact G
 obtain⟨D,J,L⟩:=List.nodup_append.mp st.nd;have E:∀x∈(W.set i []).flatten++(fp++F.O₀),x∈W.flatten++F.O₀:=fun x h=>by
  rcases List.mem_append.mp h with h | h
  ·rcases fN h with h | ⟨j,l,_,g,m⟩
   ·cases h
   ·exact br _ (ca g m)
  ·rcases List.mem_append.mp h with h | h
   ·exact br _ (ca h2 h)
   ·exact bi _ h
 have M:∀x∈W.flatten++F.O₀,x∈(W.set i []).flatten++(fp++F.O₀):=fun x h=>by
  rcases List.mem_append.mp h with h | h
  ·obtain⟨l,m,f⟩:=List.mem_flatten.mp h;obtain⟨j,n⟩:=List.getElem?_of_mem m
   by_cases s:j=i
   ·subst s;rw[h2] at n;cases n;exact bi _ (br _ f)
   ·exact br _ (Ip s n f)
  ·exact bi _ (bi _ h)
 have t:fp.Nodup:=by
  have:∀{W:List (List Addr)}{i:Nat}{l:List Addr},W.flatten.Nodup->W[i]? = some l->l.Nodup:=fun {W i l} R m=>R.sublist (by
   have:=List.mem_of_getElem? m;exact List.sublist_flatten_of_mem this)
  exact this D h2
 have u:((W.set i []).flatten++(fp++F.O₀)).Nodup:=by
  have q:((W.set i []).flatten++([]++F.O₀)).Nodup:=nP (fp:=[]) (O:=F.O₀) st.nd List.nodup_nil (fun a h=>by cases h);obtain⟨A,_,B⟩:=List.nodup_append.mp q;refine List.nodup_append.mpr ⟨A,List.nodup_append.mpr ⟨t,J,fun x f y o z=>L x (ca h2 f) y o z⟩,fun x f y o z=>?_⟩;subst z;rcases List.mem_append.mp o with o | o
  ·rcases fN f with f | ⟨j,l,n,g,m⟩
   ·cases f
   ·exact kW D h2 g (Ne.symm n) o m
  ·exact B x f x o rfl
 have p:=gd (H:=H) E;have k:=gd (H:=H) M;refine⟨a,fp,_,h1,⟨W.set i [],⟨fun j d g=>?_,u,st.kept,fun x h=>?_,fun x h=>st.live x (E x h),by rw[List.length_set,st.len],by rw[List.length_set,List.length_set,st.lw],fun j N g=>?_⟩,rfl⟩,h3.keep (fun _ _=>rfl) p.hid,p,k,fun x f=>st.new x (ca h2 f),fun C=>?_⟩
 ·rcases gS g with⟨rfl,r,_⟩ | ⟨n,r⟩
  ·cases r
  ·obtain⟨w,l,A,Q,B⟩:=st.at_ j d r;exact⟨w,l,A,by rw[List.getElem?_set_ne (Ne.symm n)];exact Q,B.keep p (fun _ _=>rfl) (fun _ _ _ e=>e)⟩
 ·rcases fN h with h | ⟨j,l,_,g,m⟩
  ·cases h
  ·exact st.new x (ca g m)
 ·rcases gS g with⟨rfl,r,_⟩ | ⟨n,r⟩
  ·cases r
  ·exact st.io j N r
 ·subst C;have:=st.io i b e;rw[h1] at this;cases this;rfl
theorem aC.swap{L L':List Addr}(st:aC K (F.plus L) H Y U O)(keep:∀b o,b∉L->H b=some o->H' b=some o)(D:L'.Nodup)(new:∀a∈L',a∈L\/H a=none)(t:∀a∈L,a∈F.A₀\/F.H₀ a=none)(l:∀a∈L',∃o,H' a=some o/\Mv o) :
  ∃O',aC K (F.plus L') H' Y U O'/\aP O H O' H'/\(∀a∈L',a∈O')/\(∀a∈O',a∈L'\/a∈O/\a∉L)/\∀a∈O,a∉L->a∈O':=by
 obtain⟨W,st,rfl⟩:=st;have m:(W.flatten++(L++F.O₀)).Nodup:=st.nd;obtain⟨w,x,p⟩:=List.nodup_append.mp m;obtain⟨E,y,A⟩:=List.nodup_append.mp x;have wl:∀a∈W.flatten,a∉L:=fun a h z=>p a h a (br _ z) rfl;have ol:∀a∈F.O₀,a∉L:=fun a h z=>A a z a h rfl;have j:∀a∈W.flatten++F.O₀,∃o,H a=some o/\Mv o:=fun a h=>st.live a (by
  rcases List.mem_append.mp h with h | h
  ·exact br _ h
  ·exact bi _ (bi _ h))
 have kp:∀a∈W.flatten++F.O₀,H' a=H a:=fun a h=>by obtain⟨o,e,_⟩:=j a h;rw[e];exact keep a o ((List.mem_append.mp h).elim (wl a) (ol a)) e
 have ap:∀a∈L',a∉W.flatten++F.O₀:=fun a h z=>by
  rcases new a h with q | q
  ·rcases List.mem_append.mp z with z | z
   ·exact wl a z q
   ·exact ol a z q
  ·obtain⟨o,e,_⟩:=j a z;rw[q] at e;cases e
 have f:aP (W.flatten++(L++F.O₀)) H (W.flatten++(L'++F.O₀)) H':=⟨fun b o d e=>keep b o (fun z=>d (bi _ (br _ z))) e,fun a h=>by
  rcases List.mem_append.mp h with h | h
  ·exact .inl (br _ h)
  ·rcases List.mem_append.mp h with h | h
   ·exact(new a h).imp (fun z=>bi _ (br _ z)) id
   ·exact .inl (bi _ (bi _ h))⟩
 have B:∀b o u,H b=some (.frz o u)->H' b=some (.frz o u):=fun b o u e=>keep b _ (fun z=>st.nofrz (bi _ (br _ z)) e) e;refine⟨_,⟨W,⟨fun i c e=>?_,?_,fun b o d e=>?_,st.new,fun a h=>?_,st.len,st.lw,st.io⟩,rfl⟩,f,fun a h=>bi _ (br _ h),fun a h=>?_,fun a h C=>?_⟩
 ·obtain⟨v,fp,h1,h2,h3⟩:=st.at_ i c e;exact⟨v,fp,h1,h2,h3.keep f (fun b d=>kp b (br _ (ca h2 d))) B⟩
 ·refine List.nodup_append.mpr ⟨w,List.nodup_append.mpr ⟨D,y,fun a k b d z=>?_⟩,fun a k b d z=>?_⟩
  ·subst z;exact ap a k (bi _ d)
  ·subst z;rcases List.mem_append.mp d with d | d
   ·exact ap a d (br _ k)
   ·exact p a k a (bi _ d) rfl
 ·have g:=st.kept b o d e
  by_cases r:b∈L
  ·rcases t b r with q | q
   ·exact absurd q d
   ·have s:F.H₀ b=some o:=e;rw[q] at s;cases s
  ·exact keep b o r g
 ·rcases List.mem_append.mp h with h | h
  ·obtain⟨o,g,n⟩:=j a (br _ h);exact⟨o,by rw[kp a (br _ h)];exact g,n⟩
  ·rcases List.mem_append.mp h with h | h
   ·exact l a h
   ·obtain⟨o,g,n⟩:=j a (bi _ h);exact⟨o,by rw[kp a (bi _ h)];exact g,n⟩
 ·rcases List.mem_append.mp h with h | h
  ·exact .inr ⟨br _ h,wl a h⟩
  ·rcases List.mem_append.mp h with h | h
   ·exact .inl h
   ·exact .inr ⟨bi _ (bi _ h),ol a h⟩
 ·rcases List.mem_append.mp h with h | h
  ·exact br _ h
  ·rcases List.mem_append.mp h with h | h
   ·exact absurd h C
   ·exact bi _ (bi _ h)
end
abbrev gU:=ai->(ag->ai->Prop)->Prop
def Aj(t:gU):Prop:=∀U Q a,(∀c b,Q c b->a c b)->t U Q->t U a
noncomputable def Jj(K:Frag)(F:Fx)(t:gU):TE:=fun Y H Q=>∃U O,aC K F H Y U O/\t U fun c d=>∀v a b e,gy K F a Y d b v c e->aP O H b a->Q v a
structure DO (X:Cx) (F:Fx) (e:Expr) (t:gU):Prop where
 mn:Aj t
 pe:PE X e (Jj X.K F t)
section
variable{X:Cx}{F:Fx}{e:Expr}{te:DT}{to:gU}
noncomputable def Jk(t:gU):DT:=fun U Q=>t U fun c a=>∃d,frz c=some d/\Q d a
theorem DO.de(h:DO X F e to):DE X F e (Jk to):=
 ⟨fun _ _ _ k q=>h.mn _ _ _ (fun _ _ ⟨d,e,q⟩=>⟨d,e,k _ _ q⟩) q,h.pe.imp fun Y H Q ⟨U,O,st,q⟩=>⟨U,O,st,h.mn _ _ _ (fun c j ⟨d,e,q⟩ v b l m r s=>by
  obtain⟨f,a,g,i⟩:=r.frz e;exact q v b f a (s.trans g) i) q⟩⟩
end
abbrev fP:=PyData->ai->(ai->Prop)->Prop
noncomputable def qu(K:Frag)(F:Fx)(t:fP):TG:=fun v Y H Q=>∃U O d,aC K F H Y U O/\DV (aw O H) v d/\t d U fun e=>∀b a c,aC K F a b e c->aP O H c a->Q b a
structure DG (X:Cx) (F:Fx) (tg:Expr) (t:fP):Prop where
 mn:∀d U Q Q',(∀U',Q U'->Q' U')->t d U Q->t d U Q'
 pg:PG X tg (qu X.K F t)
abbrev jX:=List PyData->ai->(ai->Prop)->Prop
noncomputable def Jl(K:Frag)(F:Fx)(t:jX):jg:=fun e Y H Q=>∃U O d,aC K F H Y U O/\aK (aw O H) e d/\t d U fun f=>∀b a c,aC K F a b f c->aP O H c a->Q b a
structure nX (X:Cx) (F:Fx) (tg:List Expr) (t:jX):Prop where
 mn:∀d U Q Q',(∀U',Q U'->Q' U')->t d U Q->t d U Q'
 pg:PGs X tg (Jl X.K F t)
theorem _root_.L2.PG.imp{X:Cx}{e:Expr}{t t':TG}(h:PG X e t)(k:∀v Y H Q,t' v Y H Q->t v Y H Q):PG X e t':=fun a s Y H v u Q I r q=>h a s Y H v u Q I r (k v Y H Q q)
theorem _root_.L2.PGs.imp{X:Cx}{e:List Expr}{t t':jg}(h:PGs X e t)(k:∀v Y H Q,t' v Y H Q->t v Y H Q):PGs X e t':=fun a s Y H v u Q I r q=>h a s Y H v u Q I r (k v Y H Q q)
section
variable{X:Cx}{F:Fx}{e:Expr}{es:List Expr}{pos:Pos}{x:Str}{t:fP}{ts:jX}
noncomputable def gN(i:Nat):fP:=fun d U Q=>Q (U.set i (some (.dat d)))
theorem Jm{i:Nat}(h:PG X (.Name x pos) (pT i)):DG X F (.Name x pos) (gN i):=⟨fun _ _ _ _ k q=>k _ q,h.imp fun v Y H Q ⟨U,O,d,st,hd,q⟩=>q _ H O (st.set hd) .refl⟩
noncomputable def Jn:jX:=fun a U Q=>a=[]/\Q U
noncomputable def Jo(t:fP)(u:jX):jX:=fun b U Q=>∃d r,b=d::r/\t d U fun a=>u r a Q
theorem Jp:nX X F [] Jn:=⟨fun _ _ _ _ k q=>⟨q.1,k _ q.2⟩,Fs.imp fun a Y H Q ⟨U,O,ds,st,hd,e,q⟩=>by
 subst e;cases hd;exact⟨rfl,q _ H O st .refl⟩⟩
theorem Jq(f:DG X F e t)(g:nX X F es ts)(u:(assignEach (e::es) X.env).map (·.2)=assign e X.env::(assignEach es X.env).map (·.2):=by rfl):nX X F (e::es) (Jo t ts):=
 ⟨fun _ _ _ _ k ⟨d,r,e,q⟩=>⟨d,r,e,f.mn _ _ _ _ (fun _ a=>g.mn _ _ _ _ k a) q⟩,(Ft f.pg g.pg u).imp fun v Y H Q ⟨U,O,ds,st,hd,d,r,e,q⟩=>by
  subst e;cases hd with
  | cons hd i=>
   exact⟨_,_,rfl,U,O,d,st,hd,f.mn _ _ _ _ (fun j a w y l b h=>⟨j,l,r,b,aK.mono h.hid i,g.mn _ _ _ _ (fun z m n o p c s=>m n o p c (h.trans s)) a⟩) q⟩⟩
noncomputable def Jr(n:Nat)(t:jX):fP:=fun d U Q=>∃a,d=.tuple a/\a.length=n/\t a U Q
theorem Js{k n:Nat}(f:X.calm=true)(h:nX X F es ts)(g:(assignEach es X.env).length=n:=by rfl)(b:(assignEach es X.env).findIdx? (·.1)=none:=by rfl):DG X F (.Tuple es k pos) (Jr n ts):=
 ⟨fun _ _ _ _ k ⟨c,e,l,q⟩=>⟨c,e,l,h.mn _ _ _ _ k q⟩,(Fv f h.pg g b).imp fun v Y H Q ⟨U,O,d,st,hd,c,e,l,q⟩=>by
  subst e;obtain⟨a,i,rfl,j,hx⟩:=hd.tup_inv;exact⟨a,i,rfl,.inl (gR j).1,by rw[hx.length];exact l,U,O,c,st,hx,q⟩⟩
end
structure el where
 nx:ai->Prop
 rt:ag->ai->Prop
 bk:ai->Prop:=fun _=>False
 ct:ai->Prop:=fun _=>False
abbrev em:=el->ai->Prop
structure fQ (K:Frag) (F:Fx) (O:List Addr) (H:Hp) (D:eO) (DD:el):Prop where
 nx:∀Y' H' U' O',aC K F H' Y' U' O'->aP O H O' H'->DD.nx U'->D.nx Y' H'
 rt:∀v Y' H' c U' O' fp,gy K F H' Y' U' O' v c fp->aP O H O' H'->DD.rt c U'->D.rt v H'
 bk:∀Y' H' U' O',aC K F H' Y' U' O'->aP O H O' H'->DD.bk U'->D.bk Y' H'
 ct:∀Y' H' U' O',aC K F H' Y' U' O'->aP O H O' H'->DD.ct U'->D.ct Y' H'
theorem fQ.later{K:Frag}{F:Fx}{O b:List Addr}{H d:Hp}{D:eO}{e:el}(f:fQ K F O H D e)(s:aP O H b d):fQ K F b d D e:=
 ⟨fun Y H U O st a q=>f.nx Y H U O st (s.trans a) q,fun v Y H c U O g r a q=>f.rt v Y H c U O g r (s.trans a) q,fun Y H U O st a q=>f.bk Y H U O st (s.trans a) q,fun Y H U O st a q=>f.ct Y H U O st (s.trans a) q⟩
noncomputable def Ak(K:Frag)(F:Fx)(t:em):TS:=fun D Y H=>∃U O a,aC K F H Y U O/\t a U/\fQ K F O H D a
def DS(X:Cx)(F:Fx)(s:Stmt)(t:em):Prop:=PS X s (Ak X.K F t)
def gz(X:Cx)(F:Fx)(s:List Stmt)(t:em):Prop:=PSs X s (Ak X.K F t)
section
variable{X:Cx}{F:Fx}{e:Expr}{es:List Expr}{st:Stmt}{rest:List Stmt}{t u:em}{te:DT}{to:gU}{tA:dY}{tc:dh}{tg:fP}{pos:Pos}{x:Str}
noncomputable def Jt:em:=fun D U=>D.nx U
noncomputable def Ju(t u:em):em:=fun D U=>t { D with nx:=fun a=>u D a } U
theorem Jv:gz X F [] Jt:=Ff.imp fun D Y H ⟨U,O,a,st,q,f⟩=>f.nx Y H U O st .refl q
theorem Jw(i:DS X F st t)(j:gz X F rest u):gz X F (st::rest) (Ju t u):=
 (Fg i j).imp fun D Y H ⟨U,O,b,s,q,f⟩=>⟨U,O,_,s,q,⟨fun k l c d a g h=>⟨c,d,b,a,h,f.later g⟩,f.rt,f.bk,f.ct⟩⟩
theorem Jx(h:DS X F st t):gz X F [st] t:=Fh h
noncomputable def qv(te:DT)(tg:fP):em:=fun D U=>te U fun d a=>tg d a D.nx
theorem Jy{a:Expr}(g:DE X F e te)(h:DG X F a tg)(z:swapsWithSole [a] e pos.line X.env=pure false:=by rfl)(i:swappedStores [a] e X.env=pure none:=by rfl)
  (A:(assignEach [a] X.env).map (·.2)=[assign a X.env]:=by rfl):DS X F (.Assign [a] e pos) (qv te tg):=
 (uk g.pe h.pg z i A).imp fun D Y H ⟨U,O,B,st,q,f⟩=>⟨U,O,st,g.mn _ _ _ (fun d j k v C l b m n=>⟨j,l,d,b,n,h.mn _ _ _ _ (fun o p r s w c y=>f.nx r s o w c (m.trans y) p) k⟩) q⟩
theorem Jz{i:Nat}{a:Pos}(g:X.N.Nodup)(h:X.N[i]? = some x)(p:gO X.env.scope x)(c:DE X F e te)(r:swapsWith e (some (.Name x a)) pos.line X.env=pure false:=by rfl)
  (j:X.fn x=true\/X.env.scope.names.lookup x=some .local:=by first | exact .inl rfl | exact .inr rfl | assumption):DS X F (.Assign [.Name x a] e pos) (qv te (gN i)):=
 (yp g h p c.pe r j).imp fun D Y H ⟨U,O,s,st,q,f⟩=>⟨U,O,st,c.mn _ _ _ (fun d w k v l m b n o=>f.nx _ l _ m (b.set o) n k) q⟩
noncomputable def JA(te:DT):em:=fun D U=>te U fun d a=>D.rt (.dat d) a
theorem JB(b:DE X F e te):DS X F (.Return (some e) pos) (JA te):=
 (ym b.pe).imp fun D Y H ⟨U,O,l,st,q,f⟩=>⟨U,O,st,b.mn _ _ _ (fun d c g v h i a j k=>f.rt v Y h (.dat d) c i [] (Ji a k) j g) q⟩
noncomputable def JC(to:gU):em:=fun D U=>to U fun c a=>D.rt c a
theorem JD(a:DO X F e to):DS X F (.Return (some e) pos) (JC to):=
 (ym a.pe).imp fun D Y H ⟨U,O,k,st,q,f⟩=>⟨U,O,st,a.mn _ _ _ (fun c b d v g h i r j=>f.rt v Y g c b h i r j d) q⟩
noncomputable def JE(i:Nat)(to:gU):em:=fun D U=>to U fun c a=>i<a.length/\(∀b,c≠.own true b)/\D.nx (a.set i (some c))
theorem JF{i:Nat}{a:Pos}(h:X.N.Nodup)(j:X.N[i]? = some x)(y:gO X.env.scope x)(g:DO X F e to)(A:swapsWith e (some (.Name x a)) pos.line X.env=pure false:=by rfl)
  (k:X.fn x=true\/X.env.scope.names.lookup x=some .local:=by first | exact .inl rfl | exact .inr rfl | assumption):DS X F (.Assign [.Name x a] e pos) (JE i to):=
 (yp h j y g.pe A k).imp fun D Y H ⟨U,O,B,st,q,f⟩=>⟨U,O,st,g.mn _ _ _ (fun c C ⟨l,m,n⟩ v o E G r p=>by
  obtain⟨s,d,w⟩:=aC.put1 (io:=true) r.st r.at_ r.new l (fun b z=>absurd z (m b));exact f.nx _ o _ s d (p.trans w) n) q⟩
noncomputable def JG(to:gU):em:=fun D U=>to U fun _ a=>D.nx a
theorem JH(b:DO X F e to)(i:swapsWith e none pos.line X.env=pure false:=by rfl):DS X F (.Expr e pos) (JG to):=
 (pS b.pe i).imp fun D Y H ⟨U,O,j,st,q,f⟩=>⟨U,O,st,b.mn _ _ _ (fun c k d v l m n r g=>by
  obtain⟨o,a,h⟩:=r.drop;exact f.nx _ _ _ _ a (g.trans h) d) q⟩
noncomputable def JI(tc:dh)(t u:em):em:=fun D U=>tc U fun b a=>if b=true then t D a else u D a
theorem JJ{c:Expr}{a b:List Stmt}(g:DB X F c tc)(m:gz X F a t)(n:gz X F b u):DS X F (.If c a b pos) (JI tc t u):=
 (Fm g.pt m n).imp fun D Y H ⟨U,O,h,st,q,f⟩=>⟨U,O,st,g.mn _ _ _ (fun b i j o k d l=>by
  cases b with
  | true=>exact fj ⟨i,k,h,d,jR j,f.later l⟩
  | false=>exact fi ⟨i,k,h,d,jS j,f.later l⟩) q⟩
end
inductive uX where
 | rt (c:ag) (outs:List Bx) | ex (c:Str) (outs:List Bx) | bad
noncomputable abbrev FM:=List ag->uX
inductive aX (K:Frag) (H:Hp) (O:List Addr):List V->List ag->List (List Addr)->Prop where
 | nil:aX K H O [] [] []
 | dat {v:V}{d:PyData}{vs:List V}{cs:List ag}{fps:List (List Addr)}:DV (aw O H) v d->aX K H O vs cs fps->aX K H O (v::vs) (.dat d::cs) ([]::fps)
 | oth {v:V}{c:ag}{vs:List V}{cs:List ag}{fps:List (List Addr)}:(∀d,c≠.dat d)->(∀io b,c≠.own io b)->ek K H O v c []->aX K H O vs cs fps->aX K H O (v::vs) (c::cs) ([]::fps)
 | own {a:Addr}{b:Bx}{fp:List Addr}{vs:List V}{cs:List ag}{fps:List (List Addr)}:fZ (aw O H) H a b fp->aX K H O vs cs fps->aX K H O (.ref a::vs) (.own true b::cs) (fp::fps)
inductive aU (H:Hp) (O:List Addr):List V->List ag->List Bx->List (List Addr)->Prop where
 | nil:aU H O [] [] [] []
 | skip {v:V}{c:ag}{vs:List V}{cs:List ag}{bs:List Bx}{fps:List (List Addr)}:(∀io b,c≠.own io b)->aU H O vs cs bs fps->aU H O (v::vs) (c::cs) bs fps
 | own {a:Addr}{io:Bool}{b b':Bx}{fp:List Addr}{vs:List V}{cs:List ag}{bs:List Bx}{fps:List (List Addr)}:fZ (aw O H) H a b' fp->aU H O vs cs bs fps->aU H O (.ref a::vs) (.own io b::cs) (b'::bs) (fp::fps)
structure gf (H H':Hp) (L L' O₀:List Addr):Prop where
 nd:(L'++O₀).Nodup
 live:∀a∈L',∃o,H' a=some o/\Mv o
 keep:∀b o,b∉L->H b=some o->H' b=some o
 new:∀a∈L',a∈L\/H a=none
noncomputable def bf(K:Frag)(l:Str->Option Value)(f:FM):Sp:=fun k H Q E=>GH l H/\∃(i:List ag) (d:List (List Addr)) (h:List Addr),aX K H (d.flatten++h) k i d/\(d.flatten++h).Nodup/\(∀a∈d.flatten++h,∃o,H a=some o/\Mv o)/\
 match f i with
 | .rt c e=>∀v g j b,ek K g (b.flatten++j++h) v c j->aU g (b.flatten++j++h) k i e b->gf H g d.flatten (b.flatten++j) h->Q v g
 | .ex c e=>∀C g b,l c=some C->aU g (b.flatten++h) k i e b->gf H g d.flatten b.flatten h->E C none g
 | .bad=>False
theorem aX.len{K:Frag}{H:Hp}{O:List Addr}{d:List V}{c:List ag}{b:List (List Addr)}(h:aX K H O d c b):d.length=c.length/\b.length=c.length:=by
 induction h with
 | nil=>exact⟨rfl,rfl⟩
 | dat _ _ a=>exact⟨congrArg Nat.succ a.1,congrArg Nat.succ a.2⟩
 | oth _ _ _ _ a=>exact⟨congrArg Nat.succ a.1,congrArg Nat.succ a.2⟩
 | own _ _ a=>exact⟨congrArg Nat.succ a.1,congrArg Nat.succ a.2⟩
theorem aX.get{K:Frag}{H:Hp}{O:List Addr}{d:List V}{f:List ag}{a:List (List Addr)}(h:aX K H O d f a):∀(i:Nat) (c:ag),f[i]? = some c->∃v g,d[i]? = some v/\a[i]? = some g/\ek K H O v c g:=by
 induction h with
 | nil=>intro i c e;simp at e
 | dat h _ b=>
  intro i c e;cases i with
  | zero=>simp at e;subst e;exact⟨_,_,rfl,rfl,h⟩
  | succ i=>exact b i c (by simpa using e)
 | oth _ _ h _ b=>
  intro i c e;cases i with
  | zero=>simp at e;subst e;exact⟨_,_,rfl,rfl,h⟩
  | succ i=>exact b i c (by simpa using e)
 | own h _ b=>
  intro i c e;cases i with
  | zero=>simp at e;subst e;exact⟨_,_,rfl,rfl,⟨_,rfl,h⟩⟩
  | succ i=>exact b i c (by simpa using e)
theorem aX.mono{K:Frag}{H:Hp}{O c:List Addr}{d:List V}{f:List ag}{a:List (List Addr)}(h:aX K H O d f a)(s:aP O H c H):aX K H c d f a:=by
 induction h with
 | nil=>exact .nil
 | dat h _ b=>exact .dat (DV.mono s.hid h) b
 | oth h1 h2 h _ b=>exact .oth h1 h2 (h.keep s (fun _ _=>rfl) (fun _ _ _ e=>e)) b
 | own h _ b=>exact .own (h.keep (fun _ _=>rfl) s.hid) b
theorem aU.mono{H:Hp}{O c:List Addr}{d:List V}{e:List ag}{bs:List Bx}{a:List (List Addr)}(h:aU H O d e bs a)(s:aP O H c H):aU H c d e bs a:=by
 induction h with
 | nil=>exact .nil
 | skip h1 _ b=>exact .skip h1 b
 | own h _ b=>exact .own (h.keep (fun _ _=>rfl) s.hid) b
inductive eW where
 | nx (U:ai) | rt (c:ag) (U:ai) | bk (U:ai) | ct (U:ai) | ex (c:Str) (U:ai) | bad
noncomputable abbrev SM:=ai->eW
noncomputable def cg(E:Str->ai->Prop)(m:SM):em:=fun D U=>match m U with
 | .nx a=>D.nx a
 | .rt c a=>D.rt c a
 | .bk a=>D.bk a
 | .ct a=>D.ct a
 | .ex c a=>E c a
 | .bad=>False
@[simp] noncomputable def cy:List ag->ai->Option (List Bx)
 | [],_=>some []
 | .own _ _::a,some (.own true b)::U=>(cy a U).map (b::·)
 | .own _ _::_,_=>none
 | _::a,_::U=>cy a U
 | _::_,[]=>none
@[simp] noncomputable def bp(n N:Nat)(m:SM):FM:=fun a=>if a.length=n then(match m (a.map some++List.replicate (N - n) none) with
 | .nx U=>(match cy a U with | some o=>.rt (.dat .none) o | none=>.bad)
 | .rt c U=>(match cy a U with | some o=>.rt c o | none=>.bad)
 | .ex c U=>(match cy a U with | some o=>.ex c o | none=>.bad)
 | _=>.bad) else .bad
section
variable{K:Frag}{F:Fx}{H:Hp}{Y:St}{U:ai}{W:List (List Addr)}
theorem uY{α:Type}{l:List α}{k:Nat}{x:α}{r:List α}(h:l.drop k=x::r):l[k]? = some x/\l.drop (k+1)=r:=by
 constructor
 ·rw[<-List.head?_drop,h];rfl
 ·rw[<-List.drop_drop,h];rfl
theorem qw(st:bT K F H Y U W):∀(l:List ag) (m:List V) (k:Nat) (g:List Bx),m.length=l.length->(∀(i:Nat) io b,l[i]? = some (.own io b)->m[i]? = some (.ref (F.I₀ (k+i))))->cy l (U.drop k)=some g->
  ∃j,aU H (W.flatten++F.O₀) m l g j/\j.flatten.Sublist (W.drop k).flatten
 | [],[],k,g,_,_,e=>by cases e;exact⟨[],.nil,by simp⟩
 | [],_::_,_,_,p,_,_=>by cases p
 | _::_,[],_,_,p,_,_=>by cases p
 | c::l,v::m,k,g,p,G,e=>by
  have t:m.length=l.length:=Nat.succ.inj p;have y:∀(i:Nat) io b,l[i]? = some (.own io b)->m[i]? = some (.ref (F.I₀ (k+1+i))):=fun i io b h=>by have:=G (i+1) io b (by simpa using h);rw[show k+1+i=k+(i+1) by omega];simpa using this
  have A:(W.drop (k+1)).flatten.Sublist (W.drop k).flatten:=by
   cases B:W.drop k with
   | nil=>rw[show W.drop (k+1)=[] from by rw[<-List.drop_drop,B];rfl];exact List.Sublist.refl _
   | cons w r=>rw[(uY B).2,List.flatten_cons];exact List.sublist_append_right _ _
  cases hd:U.drop k with
  | nil=>
   rw[hd] at e;cases c with
   | own io b=>cases e
   | dat d=>cases e
   | scr n=>cases e
   | exc n=>cases e
   | vw n=>cases e
  | cons x r=>
   obtain⟨J,h2⟩:=uY hd;rw[hd] at e;have f:(∀io b,c≠.own io b)->cy l r=some g->∃j,aU H (W.flatten++F.O₀) (v::m) (c::l) g j/\j.flatten.Sublist (W.drop k).flatten:=fun M N=>by obtain⟨j,o,s⟩:=qw st l m (k+1) g t y (by rw[h2];exact N);exact⟨j,.skip M o,s.trans A⟩
   cases c with
   | dat d=>exact f (fun _ _ z=>by cases z) e
   | scr n=>exact f (fun _ _ z=>by cases z) e
   | exc n=>exact f (fun _ _ z=>by cases z) e
   | vw n=>exact f (fun _ _ z=>by cases z) e
   | own io b=>
    cases x with
    | none=>cases e
    | some x=>
     cases x with
     | dat d=>cases e
     | scr n=>cases e
     | exc n=>cases e
     | vw n=>cases e
     | own C O=>
      cases C with
      | false=>cases e
      | true=>
       cases q:cy l r with
       | none=>simp[cy,q] at e
       | some Q=>
        simp[cy,q] at e;subst e;obtain⟨j,o,s⟩:=qw st l m (k+1) Q t y (by rw[h2];exact q);obtain⟨u,R,S,D,a,rfl,T⟩:=st.at_ k _ J;have I:=st.io k O J;rw[S] at I;have X:a=F.I₀ k:=by cases I;rfl
        have hv:=G 0 io b rfl;have E:v=.ref a:=by rw[X];simpa using hv
        subst E;refine⟨R::j,.own T o,?_⟩;cases B:W.drop k with
        | nil=>rw[<-List.head?_drop,B] at D;cases D
        | cons w Z=>obtain⟨L,w2⟩:=uY B;rw[D] at L;cases L;rw[List.flatten_cons,List.flatten_cons];rw[w2] at s;exact List.Sublist.append (List.Sublist.refl _) s
end
theorem nY{α:Type}(n:Nat):(List.replicate n ([]:List α)).flatten=[]:=by induction n with | zero=>rfl | succ n a=>rw[List.replicate_succ,List.flatten_cons,a];rfl
noncomputable def gA(N n:Nat)(a:List ag):ai:=a.map some++List.replicate (N - n) none
section
variable{P:Program}{w:World}{K:Frag}{mg:Str->Option Value}{base:Heap}{x qual:Str}{st:Stmt}{f:Addr}{fd:FuncData}{N ps:List Str}{k:Nat}{m:SM}
noncomputable def lb(b:List V)(i:Nat):Addr:=match b[i]? with
 | some (.ref a)=>a
 | _=>0
theorem Al{H:Hp}{l:List V}{j:List ag}{g:List (List Addr)}{p:List Addr}(q:aX K H (g.flatten++p) l j g)(s:(g.flatten++p).Nodup)(live:∀a∈g.flatten++p,∃o,H a=some o/\Mv o)(u:j.length<=N.length) :
  bT K ⟨H,g.flatten,p,lb l⟩ H (start N l) (gA N.length j.length j) (g++List.replicate (N.length - j.length) []):=by
 have n:(g++List.replicate (N.length - j.length) ([]:List Addr)).flatten=g.flatten:=by rw[List.flatten_append,nY,List.append_nil]
 obtain⟨t,l2⟩:=q.len;have get:∀(i:Nat) c,(gA N.length j.length j)[i]? = some (some c)->j[i]? = some c:=fun i c e=>by
  unfold gA at e
  by_cases h:i<j.length
  ·rw[List.getElem?_append_left (by simpa using h),List.getElem?_map] at e;obtain⟨d,h1,h2⟩:=Option.map_eq_some_iff.mp e;cases h2;exact h1
  ·rw[List.getElem?_append_right (by simpa using Nat.le_of_not_lt h),List.getElem?_replicate] at e;split at e<;>cases e
 have put:∀(i:Nat) v,l[i]? = some v->(start N l)[i]? = some (some v):=fun i v e=>by unfold start;rw[List.getElem?_append_left (by simpa using(List.getElem?_eq_some_iff.mp e).1),List.getElem?_map,e];rfl
 refine⟨fun i c e=>?_,by rw[n];exact s,fun _ _ _ h=>h,fun a h=>.inl (by rw[n] at h;exact h),by rw[n];exact live,?_,?_,fun i b e=>?_⟩
 ·obtain⟨v,r,h1,h2,h3⟩:=q.get i c (get i c e);exact⟨v,r,put i v h1,by rw[List.getElem?_append_left (List.getElem?_eq_some_iff.mp h2).1];exact h2,by rw[n];exact h3⟩
 ·unfold gA start;rw[List.length_append,List.length_append,List.length_map,List.length_map,List.length_replicate,List.length_replicate,t]
 ·unfold gA;rw[List.length_append,List.length_append,List.length_map,List.length_replicate,List.length_replicate,l2]
 ·obtain⟨v,r,h1,h2,a,rfl,h3⟩:=q.get i _ (get i _ e);rw[put i _ h1];show _=some (some (V.ref (lb l i)));unfold lb;rw[h1]
theorem aX.ios{H:Hp}{O:List Addr}{c:List V}{g:List ag}{d:List (List Addr)}(h:aX K H O c g d):∀(i:Nat) io b,g[i]? = some (.own io b)->c[i]? = some (.ref (lb c (0+i))):=fun i io b e=>by obtain⟨v,j,h1,_,a,rfl,_⟩:=h.get i _ e;rw[Nat.zero_add];unfold lb;rw[h1]
theorem bF(Fn:kU K x qual st f fd)(S:aa N ps (bh st))(hN:ps.length<=N.length)
  (Z:∀(y:Value) (A:Around) (t:List Env) (s:Shared) (H:Hp) (E:XK) (F:Fx) (Y:Str->ai->Prop),bx k (A.deeper (envOfC qual (bh st) s.heap.objs.size f y))->eV (jh (ba P w) P w K mg base N qual (bh st) f y A t s H E) F Y->
   gz (jh (ba P w) P w K mg base N qual (bh st) f y A t s H E) F (ij st) (cg Y m)):aA P w K mg base (ba P w) (k+1) f fd ps (bf K mg (bp ps.length N.length m)):=by
 obtain⟨oc,od,kV,a3,pm,an,y,ct,a4,rfl,lk,a0⟩:=Fn.ex;have G:∀B H Q E,bf K mg (bp ps.length N.length m) B H Q E->B.length=ps.length:=fun B H Q E ⟨_,l,u,O₀,L,_,_,q⟩=>by
  rw[L.len.1];unfold bp at q
  by_cases h:l.length=ps.length
  ·exact h
  ·rw[if_neg h] at q;exact q.elim
 refine GJ lk a0 S G fun A t s H B Q E hr M=>?_;have a5:=G B H Q E M;obtain⟨gh,l,u,O₀,L,nd,live,q⟩:=M;obtain⟨l1,l2⟩:=L.len;have O:l.length=ps.length:=by omega
 let F:Fx:=⟨H,u.flatten,O₀,lb B⟩
 have R:=Al (N:=N) L nd live (by omega);have fin:∀{T:St}{j:Hp}{n:ai}{J:List Addr}{fp:List Addr}{g:List Bx},aC K (F.plus fp) j T n J->(∀a∈fp,a∈F.A₀\/F.H₀ a=none)->cy l n = some g->∃d,aU j (d.flatten++fp++O₀) B l g d/\gf H j u.flatten (d.flatten++fp) O₀/\aP J j (d.flatten++fp++O₀) j:=by
  rintro T j n J fp g ⟨W,p,rfl⟩ a1 ho;obtain⟨d,o,sb⟩:=qw p l B 0 g l1 (fun i io b e=>L.ios i io b e) ho;have X:d.flatten.Sublist W.flatten:=sb;have sub:(d.flatten++fp++O₀).Sublist (W.flatten++(fp++O₀)):=by rw[List.append_assoc];exact List.Sublist.append X (List.Sublist.refl _)
  have D:aP (W.flatten++(fp++O₀)) j (d.flatten++fp++O₀) j:=gd fun a h=>sub.subset h;refine⟨d,o.mono D,⟨p.nd.sublist sub,fun a h=>p.live a (sub.subset (br _ h)),fun b o hb e=>p.kept b o hb e,fun a h=>?_⟩,D⟩;rcases List.mem_append.mp h with h | h
  ·exact p.new a (X.subset h)
  ·exact a1 a h
 have a2:bp ps.length N.length m l=(match m (gA N.length ps.length l) with
  | .nx U=>(match cy l U with | some o=>.rt (.dat .none) o | none=>.bad)
  | .rt c U=>(match cy l U with | some o=>.rt c o | none=>.bad)
  | .ex c U=>(match cy l U with | some o=>.ex c o | none=>.bad)
  | _=>.bad):=by unfold bp gA;rw[if_pos O]
 rw[a2] at q;rw[O] at R;let Y:Str->ai->Prop:=fun c n=>∃g,cy l n = some g/\∀C j d,mg c=some C->aU j (d.flatten++O₀) B l g d->gf H j u.flatten d.flatten O₀->E C none j;refine⟨_,Z y A t s H E F Y hr (Jh (gh.frame fun a h=>live a (br _ h)) fun c C n T j J I p ⟨g,ho,k⟩=>?_),?_⟩
 ·obtain⟨d,o,b,_⟩:=fin (fp:=[]) p (fun a h=>by cases h) ho;rw[List.append_nil] at o b;exact k C j d I o b
 ·refine⟨gA N.length ps.length l,_,⟨fun n=>∃g,cy l n = some g/\∀j d,aU j (d.flatten++[]++O₀) B l g d->gf H j u.flatten (d.flatten++[]) O₀->Q .non j,fun c n=>∃g,cy l n = some g/\∀v j fp d,ek K j (d.flatten++fp++O₀) v c fp->aU j (d.flatten++fp++O₀) B l g d->gf H j u.flatten (d.flatten++fp) O₀->Q v j,fun _=>False,fun _=>False⟩,⟨_,R,rfl⟩,?_,?_⟩
  ·unfold cg;cases I:m (gA N.length ps.length l) with
   | nx n=>
    rw[I] at q;cases ho:cy l n with
    | none=>simp[ho] at q
    | some g=>simp only[ho] at q;exact⟨g,ho,fun j d o b=>q .non j [] d .non o b⟩
   | rt c n=>
    rw[I] at q;cases ho:cy l n with
    | none=>simp[ho] at q
    | some g=>simp only[ho] at q;exact⟨g,ho,q⟩
   | ex c n=>
    rw[I] at q;cases ho:cy l n with
    | none=>simp[ho] at q
    | some g=>simp only[ho] at q;exact⟨g,ho,q⟩
   | bk n=>rw[I] at q;exact q
   | ct n=>rw[I] at q;exact q
   | bad=>rw[I] at q;exact q
  ·refine⟨fun T j n J p s' ⟨g,ho,k⟩=>?_,fun v T j c n J fp r s' ⟨g,ho,k⟩=>?_,fun _ _ _ _ _ _ z=>z.elim,fun _ _ _ _ _ _ z=>z.elim⟩
   ·obtain⟨d,o,b,_⟩:=fin (fp:=[]) p (fun a h=>by cases h) ho;exact k j d o b
   ·obtain⟨d,o,b,D⟩:=fin r.st r.new ho;exact k v j fp d (r.at_.keep D (fun _ _=>rfl) (fun _ _ _ e=>e)) o b
end
inductive AX where
 | d (x:PyData) | s (j:Nat)
inductive cQ (Y:St) (G:Hp):List V->List AX->Prop where
 | nil:cQ Y G [] []
 | d {v:V}{x:PyData}{vs:List V}{as:List AX}:DV G v x->cQ Y G vs as->cQ Y G (v::vs) (.d x::as)
 | s {v:V}{j:Nat}{vs:List V}{as:List AX}:Y[j]? = some (some v)->cQ Y G vs as->cQ Y G (v::vs) (.s j::as)
abbrev gB:=ai->(List AX->ai->Prop)->Prop
def Am(t:gB):Prop:=∀U Q a,(∀d b,Q d b->a d b)->t U Q->t U a
noncomputable def JK(K:Frag)(F:Fx)(t:gB):TA:=fun Y H Q=>∃U O,aC K F H Y U O/\t U fun as d=>∀c a b,aC K F a Y d b->aP O H b a->cQ Y (aw b a) c as->Q c a
structure DX (X:Cx) (F:Fx) (es:List Expr) (t:gB):Prop where
 mn:Am t
 pa:PA X es (JK X.K F t)
section
variable{X:Cx}{F:Fx}{e:Expr}{es:List Expr}{te:DT}{tX:gB}{x:Str}{p:Pos}{j:Nat}
noncomputable def JL:gB:=fun U Q=>Q [] U
noncomputable def JM(te:DT)(t:gB):gB:=fun U Q=>te U fun d a=>t a fun as b=>Q (.d d::as) b
noncomputable def JN(j:Nat)(t:gB):gB:=fun U Q=>(∃c,U[j]? = some (some c))/\t U fun as a=>Q (.s j::as) a
theorem JO:DX X F [] JL:=⟨fun _ _ _ k q=>k _ _ q,eQ.imp fun Y H Q ⟨U,O,st,q⟩=>q [] H O st .refl .nil⟩
theorem JP(a:DE X F e te)(b:DX X F es tX)(w:starEach (e::es) X.env=(false,eval e X.env)::starEach es X.env:=by rfl):DX X F (e::es) (JM te tX):=
 ⟨fun _ _ _ k q=>a.mn _ _ _ (fun _ _ c=>b.mn _ _ _ (fun _ _ f=>k _ _ f) c) q,(ej a.pe b.pa w).imp fun Y H Q ⟨U,O,st,q⟩=>
  ⟨U,O,st,a.mn _ _ _ (fun d l c v y m g n o=>⟨l,m,g,b.mn _ _ _ (fun as z f r s t h i u=>f (v::r) s t h (n.trans i) (.d (DV.mono i.hid o) u)) c⟩) q⟩⟩
theorem JQ(o:PE X (.Name x p) (bU j))(a:DX X F es tX)(r:starEach (.Name x p::es) X.env=(false,eval (.Name x p) X.env)::starEach es X.env:=by rfl):DX X F (.Name x p::es) (JN j tX):=
 ⟨fun _ _ _ k ⟨h,q⟩=>⟨h,a.mn _ _ _ (fun _ _ b=>k _ _ b) q⟩,(ej o a.pa r).imp fun Y H Q ⟨U,O,st,⟨c,f⟩,q⟩=>by
  obtain⟨W,h,rfl⟩:=id st;obtain⟨v,t,h1,h2,h3⟩:=h.at_ j c f;exact⟨v,h1,U,_,st,a.mn _ _ _ (fun as u b g i l d m n=>b (v::g) i l d m (.s h1 n)) q⟩⟩
end
@[simp] noncomputable def gC(U:ai):List AX->Option (List ag×List (Nat×Bool))
 | []=>some ([],[])
 | .d x::as=>(match gC U as with | some (e,a)=>some (.dat x::e,a) | none=>none)
 | .s j::as=>(match gC U as with
  | some (e,a)=>(match U[j]? with
   | some (some (.own io b))=>if a.any (fun p=>p.1==j) then none else some (.own true b::e,(j,io)::a)
   | some (some c)=>some (c::e,a)
   | _=>none)
  | none=>none)
@[simp] noncomputable def eX:List (Nat×Bool)->ai->ai
 | [],U=>U
 | (j,_)::r,U=>(eX r U).set j none
@[simp] noncomputable def eE:List (Nat×Bool)->List Bx->ai->ai
 | (j,io)::r,b::bs,U=>eE r bs (U.set j (some (.own io b)))
 | _,_,U=>U
theorem qx{a:List (Nat×Bool)}{U:ai}:(eX a U).length=U.length:=by
 induction a with
 | nil=>rfl
 | cons p r b=>obtain⟨j,io⟩:=p;rw[eX,List.length_set,b]
theorem JR{a:List (Nat×Bool)}{U:ai}{i:Nat}(h:∀p∈a,p.1≠i):(eX a U)[i]? = U[i]?:=by
 induction a with
 | nil=>rfl
 | cons p r b=>obtain⟨j,io⟩:=p;rw[eX,List.getElem?_set_ne (h (j,io) List.mem_cons_self),b fun q c=>h q (bQ _ c)]
inductive eY (Y:St) (F:Fx) (n:Nat):List V->List ag->List (Nat×Bool)->Prop where
 | nil:eY Y F n [] [] []
 | skip {v:V}{c:ag}{vs:List V}{cs:List ag}{js:List (Nat×Bool)}:(∀io b,c≠.own io b)->eY Y F n vs cs js->eY Y F n (v::vs) (c::cs) js
 | own {a:Addr}{io:Bool}{b:Bx}{j:Nat}{vs:List V}{cs:List ag}{js:List (Nat×Bool)}:Y[j]? = some (some (.ref a))->(io=true->a=F.I₀ j)->j<n->eY Y F n vs cs js->eY Y F n (.ref a::vs) (.own true b::cs) ((j,io)::js)
section
variable{K:Frag}{F:Fx}{H H':Hp}{Y:St}{U:ai}{O O':List Addr}
theorem qy(st:aC K F H Y U O):∀(as:List AX) (l:List V) (t:List ag) (u:List (Nat×Bool)),gC U as=some (t,u)->cQ Y (aw O H) l as->
  ∃f O',aC K (F.plus f.flatten) H Y (eX u U) O'/\aX K H O' l t f/\aP O H O' H/\aP O' H O H/\(∀a∈f.flatten,a∈F.A₀\/F.H₀ a=none)/\eY Y F U.length l t u
 | [],l,t,u,e,h=>by cases e;cases h;refine⟨[],O,st,.nil,.refl,.refl,?_,.nil⟩;intro a h;cases h
 | .d x::as,l,t,u,e,h=>by
  cases h with
  | d hv E=>
   unfold gC at e;cases q:gC U as with
   | none=>rw[q] at e;cases e
   | some p=>obtain⟨k,g⟩:=p;rw[q] at e;simp only[Option.some.injEq,Prod.mk.injEq] at e;obtain⟨T,X⟩:=e;obtain⟨f,O',m,r,o,A,B,C⟩:=qy st as _ k g q E;subst T X;exact⟨[]::f,O',m,.dat (DV.mono o.hid hv) r,o,A,B,.skip (fun _ _ z=>by cases z) C⟩
 | .s j::as,l,t,u,e,h=>by
  cases h with
  | @s v _ l _ hv E=>
   unfold gC at e;cases q:gC U as with
   | none=>rw[q] at e;cases e
   | some p=>
    obtain⟨k,g⟩:=p;rw[q] at e;obtain⟨f,O',m,r,o,A,B,C⟩:=qy st as _ k g q E;cases w:U[j]? with
    | none=>rw[w] at e;cases e
    | some Z=>
     cases Z with
     | none=>rw[w] at e;cases e
     | some c=>
      rw[w] at e;obtain⟨W,G,I⟩:=id st;obtain⟨D,a0,h1,h2,h3⟩:=G.at_ j c w;rw[hv] at h1;have J:D = v:=by cases h1;rfl
      subst J;rw[<-I] at h3;have other:(∀io b,c≠.own io b)->∃f O',aC K (F.plus f.flatten) H Y (eX g U) O'/\aX K H O' (D::l) (c::k) f/\aP O H O' H/\aP O' H O H/\(∀a∈f.flatten,a∈F.A₀\/F.H₀ a=none)/\eY Y F U.length (D::l) (c::k) g:=fun N=>by
       refine⟨[]::f,O',m,?_,o,A,B,.skip N C⟩;cases c with
       | dat d=>exact .dat (DV.mono o.hid h3) r
       | own io b=>exact absurd rfl (N io b)
       | scr ns=>exact .oth (fun _ z=>by cases z) (fun _ _ z=>by cases z) (ek.keep (c:=.scr ns) (fp:=[]) h3 o (fun _ _=>rfl) (fun _ _ _ e=>e)) r
       | exc n=>exact .oth (fun _ z=>by cases z) (fun _ _ z=>by cases z) (ek.keep (c:=.exc n) (fp:=[]) h3 o (fun _ _=>rfl) (fun _ _ _ e=>e)) r
       | vw n=>exact .oth (fun _ z=>by cases z) (fun _ _ z=>by cases z) (ek.keep (c:=.vw n) (fp:=[]) h3 o (fun _ _=>rfl) (fun _ _ _ e=>e)) r
      cases c with
      | dat d=>simp only[Option.some.injEq,Prod.mk.injEq] at e;rw[<-e.1,<-e.2];exact other (fun _ _ z=>by cases z)
      | scr ns=>simp only[Option.some.injEq,Prod.mk.injEq] at e;rw[<-e.1,<-e.2];exact other (fun _ _ z=>by cases z)
      | exc n=>simp only[Option.some.injEq,Prod.mk.injEq] at e;rw[<-e.1,<-e.2];exact other (fun _ _ z=>by cases z)
      | vw n=>simp only[Option.some.injEq,Prod.mk.injEq] at e;rw[<-e.1,<-e.2];exact other (fun _ _ z=>by cases z)
      | own io b=>
       by_cases L:g.any (fun p=>p.1==j)=true
       ·simp only[if_pos L] at e;cases e
       ·simp only[if_neg L,Option.some.injEq,Prod.mk.injEq] at e;rw[<-e.1,<-e.2];have M:∀p∈g,p.1≠j:=fun p hp z=>L (List.any_eq_true.mpr ⟨p,hp,by simp[z]⟩);obtain⟨a,fp,O2,Q,R,t3,S,t5,t6,t7⟩:=m.take (i:=j) (io:=io) (b:=b) (by rw[JR M];exact w);rw[hv] at Q;have J:D = .ref a:=by cases Q;rfl
        subst J;rw[Fx.plus_plus] at R;refine⟨fp::f,O2,R,.own t3 (r.mono S),o.trans S,t5.trans A,fun x y=>?_,.own hv t7 (List.getElem?_eq_some_iff.mp w).1 C⟩;rcases List.mem_append.mp y with y | y
        ·exact t6 x y
        ·exact B x y
theorem qz{fp:List Addr}{n:Nat}{m:List V}{o:List ag}{p:List (Nat×Bool)}(u:eY Y F n m o p):∀{d:List Bx}{e:List (List Addr)}{U:ai}{O:List Addr},U.length=n->aC K (F.plus (e.flatten++fp)) H Y U O->aU H O m o d e->(∀a∈e.flatten,a∈F.A₀\/F.H₀ a=none)->
  ∃O',aC K (F.plus fp) H Y (eE p d U) O'/\aP O H O' H:=by
 induction u with
 | nil=>intro d e U O h st f k;cases f;exact⟨O,st,.refl⟩
 | skip g _ q=>
  intro d e U O h st f k;cases f with
  | skip _ f=>exact q h st f k
  | own _ _=>exact absurd rfl (g _ _)
 | @own a io b j m o p h1 h2 h3 u q=>
  intro d e U O h st f k;cases f with
  | skip g _=>exact absurd rfl (g _ _)
  | @own _ _ _ A f1 _ _ bs B hb f=>
   have r:aC K ((F.plus (B.flatten++fp)).plus f1) H Y U O:=by rw[Fx.plus_plus,<-List.append_assoc];exact st
   obtain⟨G,l,w⟩:=aC.put1 (io:=true) (c:=.own io A) (v:=.ref a) (i:=j) r ⟨a,rfl,hb⟩ (fun x t=>k x (by rw[List.flatten_cons];exact br _ t)) (by rw[h];exact h3) (fun b z=>by cases z;rw[h2 rfl];rfl);have C:Y.set j (some (.ref a))=Y:=by
    apply List.ext_getElem?;intro i
    by_cases y:i=j
    ·subst y;rw[List.getElem?_set_self (List.getElem?_eq_some_iff.mp h1).1,h1]
    ·rw[List.getElem?_set_ne (Ne.symm y)]
   rw[C] at l;obtain⟨D,s,E⟩:=q (by rw[List.length_set];exact h) l (f.mono w) (fun x t=>k x (by rw[List.flatten_cons];exact bi _ t));exact⟨D,s,w.trans E⟩
end
def gi(f:FM)(E:Str->ai->Prop)(Q:ag->ai->Prop)(as:List AX)(U:ai):Prop:=match gC U as with
 | some (d,b)=>(match f d with
  | .rt c a=>Q c (eE b a (eX b U))
  | .ex c a=>E c (eE b a (eX b U))
  | .bad=>False)
 | none=>False
noncomputable def uZ(f:FM)(E:Str->ai->Prop)(t:gB):gU:=fun U Q=>t U fun as a=>gi f E Q as a
section
variable{X:Cx}{F:Fx}{e:Expr}{es:List Expr}{tX:gB}{E:Str->ai->Prop}{pos p:Pos}{x:Str}{f:FM}{k:Nat}{g:Addr}{fd:FuncData}{ps:List Str}
theorem An{Q b:ag->ai->Prop}{as:List AX}{U:ai}(h:∀c d,Q c d->b c d)(q:gi f E Q as U):gi f E b as U:=by
 unfold gi at q ⊢;split
 ·rename_i i j e;rw[e] at q;simp only at q;split
  ·rename_i a;rw[a] at q;exact h _ _ q
  ·rename_i a;rw[a] at q;exact q
  ·rename_i a;rw[a] at q;exact q
 ·rename_i e;rw[e] at q;exact q
theorem va{m:List (Addr×Obj)}{Y:St}{H:Hp}{s:Shared}{Q:VK}{us:List Value}{vs:List V}{as:List AX}{U:ai}{O:List Addr}{QC:ag->ai->Prop}(hx:eV X F E)(G:aA X.prog X.w X.K X.mg X.base (ba X.prog X.w) k g fd ps (bf X.K X.mg f))(hr:bx k X.A)(hb:gP X.K fd ps [])
  (I:Inv X m Y H s) (r:be vs us) (st:aC X.K F H Y U O) (ax:cQ Y (aw O H) vs as) (q:gi f E QC as U) (hQ:∀c L,QC c L->∀v b S M,gy X.K F b Y L S v c M->aP O H S b->Q v b) :
  wpAny (model X.prog X.w) X.A (call (.ref g) us) (EP X m Y Q) X.xe s:=by
 unfold gi at q;cases hc:gC U as with
 | none=>rw[hc] at q;exact q.elim
 | some p=>
  obtain⟨cs,js⟩:=p;rw[hc] at q;simp only at q;obtain⟨i,O2,T,ar,s1,a6,nw,ja⟩:=qy st as vs cs js hc ax;obtain⟨W,y,Z⟩:=id T;have a2:(W.flatten++(i.flatten++F.O₀)).Nodup:=y.nd;have l:∀a,a∈O2↔a∈i.flatten++(W.flatten++F.O₀):=fun a=>by
   rw[Z];show a∈W.flatten++(i.flatten++F.O₀)↔_;simp only[List.mem_append];constructor
   ·rintro(h | h | h)<;>simp[h]
   ·rintro(h | h | h)<;>simp[h]
  have perm:(i.flatten++(W.flatten++F.O₀)).Perm (W.flatten++(i.flatten++F.O₀)):=by rw[<-List.append_assoc,<-List.append_assoc];exact List.Perm.append_right _ List.perm_append_comm
  have a0:(i.flatten++(W.flatten++F.O₀)).Nodup:=perm.nodup_iff.mpr a2;have a3:aP O2 H (i.flatten++(W.flatten++F.O₀)) H:=gd fun a h=>(l a).mpr h;have N:∀(b:Hp) (n:List Addr) (a:Addr),(a∈n++(W.flatten++F.O₀))->a∈n\/(a∈O2/\a∉i.flatten):=fun b n a h=>by
   rcases List.mem_append.mp h with h | h
   ·exact .inl h
   ·refine .inr ⟨(l a).mpr (bi _ h),fun z=>?_⟩;exact(List.nodup_append.mp a0).2.2 a z a h rfl
  have j:∀(b:Hp) (n:List Addr),gf H b i.flatten n (W.flatten++F.O₀)->∃B,aC X.K (F.plus n) b Y (eX js U) B/\aP O2 H B b/\∀a,a∈B↔a∈n++(W.flatten++F.O₀):=fun b n t=>by
   obtain⟨B,t1,t2,t3,t4,t5⟩:=T.swap (H':=b) (L':=n) t.keep (List.nodup_append.mp t.nd).1 t.new nw t.live;refine⟨B,t1,t2,fun a=>⟨fun h=>?_,fun h=>?_⟩⟩
   ·rcases t4 a h with z | ⟨z1,z2⟩
    ·exact br _ z
    ·rcases List.mem_append.mp ((l a).mp z1) with z | z
     ·exact absurd z z2
     ·exact bi _ z
   ·rcases N b n a h with z | ⟨z1,z2⟩
    ·exact t3 a z
    ·exact t5 a z1 z2
  have r2:be (vs++[]) (us++[]):=by rw[List.append_nil,List.append_nil];exact r
  let EX:XK:=fun C _ b=>∃c L S,X.mg c=some C/\aC X.K F b Y L S/\E c L;have sp:bf X.K X.mg f vs H Q EX:=by
   refine⟨hx.1.at st,cs,i,W.flatten++F.O₀,ar.mono a3,a0,fun a h=>?_,?_⟩
   ·exact y.live a (by have:=(l a).mpr h;rw[Z] at this;exact this)
   ·cases hf:f cs with
    | bad=>rw[hf] at q;exact q
    | rt c a1=>
     rw[hf] at q;simp only at q ⊢;intro v b M d a4 R t;obtain⟨B,t1,t2,t3⟩:=j b (d.flatten++M) t;have D:aP (d.flatten++M++(W.flatten++F.O₀)) b B b:=gd fun a h=>(t3 a).mp h;have J:∀a∈d.flatten++M,a∈F.A₀\/F.H₀ a=none:=fun a h=>by
      rcases t.new a h with z | z
      ·exact nw a z
      ·by_cases hA:a∈F.A₀
       ·exact .inl hA
       ·refine .inr ?_;cases e:F.H₀ a with
        | none=>rfl
        | some o=>have:=y.kept a o hA e;rw[z] at this;cases this
     have lj:(eX js U).length=U.length:=qx;obtain⟨O4,u1,u2⟩:=qz (fp:=M) ja lj t1 (R.mono D) fun a h=>J a (br _ h);exact hQ c _ q v b O4 M ⟨u1,a4.keep (D.trans u2) (fun _ _=>rfl) (fun _ _ _ e=>e),fun a h=>J a (bi _ h)⟩ (s1.trans (t2.trans u2))
    | ex c a1=>
     rw[hf] at q;simp only at q ⊢;intro C b d hm R t;obtain⟨B,t1,t2,t3⟩:=j b d.flatten t;have D:aP (d.flatten++(W.flatten++F.O₀)) b B b:=gd fun a h=>(t3 a).mp h;have J:∀a∈d.flatten,a∈F.A₀\/F.H₀ a=none:=fun a h=>by
      rcases t.new a h with z | z
      ·exact nw a z
      ·by_cases hA:a∈F.A₀
       ·exact .inl hA
       ·refine .inr ?_;cases e:F.H₀ a with
        | none=>rfl
        | some o=>have:=y.kept a o hA e;rw[z] at this;cases this
     have lj:(eX js U).length=U.length:=qx;obtain⟨O4,u1,u2⟩:=qz (fp:=[]) ja lj (by rw[List.append_nil];exact t1) (R.mono D) J;exact⟨c,_,O4,hm,u1,q⟩
  have hl:(us++[]).length=ps.length:=by rw[List.append_nil,<-r.length];exact G.len _ _ _ _ sp
  refine wpAny_call (codeAny_mono (G.run X.A X.stack s H ⟨us,[]⟩ us vs Q EX hr I.env0 (by have:=hb s us I.kIn hl;rw[List.append_nil] at this;exact this) r sp) fun r s' hq=>?_);cases r with
  | error e=>obtain⟨a,C,b,e1,I',cv,ex,c,L,S,hm,a5,hE⟩:=I.flies hq;exact hx.2 m Y b s' e c L S ⟨I',a,C,s.heap,_,e1,cv,ex,hm⟩ a5 hE
  | ok fl=>
   cases fl with
   | ret u=>exact I.after hq
   | next=>exact False.elim hq
   | brk=>exact False.elim hq
   | cont=>exact False.elim hq
theorem JS(Z:eV X F E)(G:aA X.prog X.w X.K X.mg X.base (ba X.prog X.w) k g fd ps (bf X.K X.mg f))(L:bx k X.A)(M:Gl X x)(N:X.mg x=some (.ref g))(R:keepIn X.K (.ref g)=true)(hb:gP X.K fd ps [])
  (o:DX X F (e::es) tX) (t:(x==("__debug__":Str))=false:=by decide) (S:starEach (e::es) X.env=(false,eval e X.env)::starEach es X.env:=by rfl) (u:(backTo pos (starEach es X.env)).any (·.1)=false:=by rfl) :
  DO X F (.Call (.Name x p) (e::es) [] pos) (uZ f E tX):=by
 refine⟨fun U Q Q' k q=>o.mn _ _ _ (fun as b i=>An k i) q,fun j s Y H Q I ⟨U,O,st,q⟩=>?_⟩;refine wpAny_Call_Name_kw (me I M N ?_ t);refine PySem.W.callWith_K (h₀:=X.base) I.ok.mod.kin R (aT (o.pa pos j s Y H (fun y l=>∃as b d,aC X.K F l Y b d/\aP O H d l/\cQ Y (aw d l) y as/\gi f E (fun c D=>∀v m n z,gy X.K F m Y D n v c z->aP O H n m->Q v m) as b) I ⟨U,O,st,o.mn _ _ _ (fun as b i y l d a J B=>⟨as,b,d,a,J,B,i⟩) q⟩) fun us J ⟨y,l,I1,r,as,b,d,a,C,B,i⟩=>⟨I1.kIn,?_⟩) S u;exact va Z G L hb I1 r a B i fun c D h v m n z res T=>h v m n z res (C.trans T)
end
def mx(H:Hp)(O:List Addr):Prop:=∀a∈O,∃o,H a=some o/\Mv o
theorem mx.nofree{H:Hp}{O:List Addr}(h:mx H O):∀p,H p=none->p∉O:=fun p a z=>by obtain⟨o,e,_⟩:=h p z;rw[a] at e;cases e
theorem aC.live{K:Frag}{F:Fx}{H:Hp}{Y:St}{U:ai}{O:List Addr}(st:aC K F H Y U O):mx H O:=by obtain⟨W,h,rfl⟩:=st;exact h.live
abbrev gj:=ai->(List PyData->ai->Prop)->Prop
def Wk(O:List Addr)(H:Hp)(J:It)(c:List PyData):Prop:=∀e b,aP O H e b->mx b e->
 (∀i d,c[i]? = some d->J.go i b/\∀x a,J.yld i b x a->bR b a/\DV (aw e a) x d)/\J.stop c.length b
noncomputable def qA(K:Frag)(F:Fx)(s:gj):TI:=fun Y H R=>∃U O,aC K F H Y U O/\s U fun b d=>∀J a c,aC K F a Y d c->aP O H c a->Wk c a J b->R J a
structure DI (X:Cx) (F:Fx) (tg iter:Expr) (s:gj):Prop where
 mn:∀U Q Q',(∀d U',Q d U'->Q' d U')->s U Q->s U Q'
 pi:PI X tg iter (qA X.K F s)
theorem _root_.L2.PI.imp{X:Cx}{b e:Expr}{t t':TI}(h:PI X b e t)(k:∀Y H Q,t' Y H Q->t Y H Q):PI X b e t':=fun a s Y H Q I q=>h a s Y H Q I (k Y H Q q)
section
variable{X:Cx}{F:Fx}{tg e a b:Expr}{te:DT}{tA:dY}{pos p:Pos}
noncomputable def iL(te:DT):gj:=fun U Q=>te U fun d f=>∃c,d=.list c/\Q c f
noncomputable def iT(te:DT):gj:=fun U Q=>te U fun d f=>∃c,d=.tuple c/\Q c f
theorem JT{K:Frag}{O:List Addr}{H:Hp}{a:Addr}{c:List V}{g:List PyData}(j:aw O H a=some (.lst c))(hd:aK (aw O H) c g):Wk O H (uo K a) g:=fun r t s ok=>by obtain⟨q,k⟩:=cY j;have h2:=s.keep a _ k q;have f:=aK.mono s.hid hd;refine⟨fun i d e=>?_,⟨c,.of h2,by rw[hd.length];exact bH _⟩⟩;obtain⟨v,hv,l⟩:=f.get e;refine⟨⟨c,v,.of h2,hv⟩,fun x m ⟨n,o⟩=>?_⟩;subst n;have:=o c (.of h2);rw[hv] at this;cases this;exact⟨fun _ _ h=>h,l⟩
theorem JU{K:Frag}{O:List Addr}{H:Hp}{a:Addr}{c:List V}{j:List PyData}(k:Rd (aw O H) a (.tup c))(hd:aK (aw O H) c j):Wk O H (uq K a) j:=fun u l s ok=>by
 obtain⟨t,g⟩:=gR k;have h2:Rd l a (.tup c):=t.imp (fun e=>s.keep a _ g e) fun⟨o,e⟩=>⟨o,s.keep a _ g e⟩
 have f:=aK.mono s.hid hd;refine⟨fun i d e=>?_,⟨c,.inl h2,by rw[hd.length];exact bH _⟩⟩;obtain⟨v,hv,m⟩:=f.get e;refine⟨⟨c,v,.inl h2,hv⟩,fun x n ⟨q,r⟩=>?_⟩;subst q;have:=r c (.inl h2);rw[hv] at this;cases this;exact⟨fun _ _ h=>h,m⟩
theorem JV(h:DE X F e te):DI X F tg e (iL te):=
 ⟨fun _ _ _ k q=>h.mn _ _ _ (fun _ _ ⟨g,e,q⟩=>⟨g,e,k _ _ q⟩) q,(FH h.pe).imp fun Y H R ⟨U,O,st,q⟩=>
  ⟨U,O,st,h.mn _ _ _ (fun d r ⟨g,e,i⟩ v j l c m n=>by
   subst e;obtain⟨a,o,rfl,f,hd⟩:=n.lst_inv;exact⟨a,rfl,⟨o,.of (cY f).1⟩,i _ j l c m (JT f hd)⟩) q⟩⟩
theorem JW(h:DE X F e te):DI X F tg e (iT te):=
 ⟨fun _ _ _ k q=>h.mn _ _ _ (fun _ _ ⟨g,e,q⟩=>⟨g,e,k _ _ q⟩) q,(FJ h.pe).imp fun Y H R ⟨U,O,st,q⟩=>
  ⟨U,O,st,h.mn _ _ _ (fun d r ⟨g,e,i⟩ v j l c m n=>by
   subst e;obtain⟨a,o,rfl,f,hd⟩:=n.tup_inv;exact⟨a,rfl,⟨o,.inl (gR f).1⟩,i _ j l c m (JU f hd)⟩) q⟩⟩
noncomputable def intsFrom(lo:Int)(n:Nat):List PyData:=(List.range n).map fun(i:Nat)=>PyData.int (lo+i)
theorem qC(lo:Int)(n:Nat):(intsFrom lo n).length=n:=by unfold intsFrom;rw[List.length_map,List.length_range]
theorem JX{O:List Addr}{H:Hp}{lo:Int}{n:Nat}:Wk O H (pU lo n) (intsFrom lo n):=fun q r s ok=>by refine⟨fun i d e=>?_,by show n<=(intsFrom lo n).length;rw[qC];exact bH _⟩;unfold intsFrom at e;rw[List.getElem?_map] at e;obtain⟨j,g,k⟩:=Option.map_eq_some_iff.mp e;obtain⟨c,f⟩:=List.getElem?_eq_some_iff.mp g;rw[List.length_range] at c;rw[List.getElem_range] at f;subst f k;exact⟨c,fun x l ⟨m,o⟩=>by subst m o;exact⟨fun _ _ h=>h,.int _⟩⟩
noncomputable def Ao(t:dY):gj:=fun U Q=>t U fun d c=>∃j:Int,d=[.int j]/\-(2 ^ 62)<=j/\j<2 ^ 62/\Q (intsFrom 0 j.toNat) c
theorem qD(g:Gl X "range")(h:X.mg "range" = none)(c:DA X F [a] tA)(s:starEach [a] X.env=[(false,eval a X.env)]:=by rfl):DI X F tg (.Call (.Name "range" p) [a] [] pos) (Ao tA):=
 ⟨fun _ _ _ k q=>c.mn _ _ _ (fun _ _ ⟨j,e,h1,h2,q⟩=>⟨j,e,h1,h2,k _ _ q⟩) q,(FR g h c.pa s).imp fun Y H R ⟨U,O,st,q⟩=>
  ⟨U,O,st,c.mn _ _ _ (fun v t ⟨j,e,h1,h2,i⟩ u l m f n o=>by
   subst e;cases o with
   | cons d r=>
    cases r;obtain rfl:=d.int_inv;exact⟨j,rfl,h1,h2,i _ l m f n JX⟩) q⟩⟩
noncomputable def numbered(c:List PyData):List PyData:=c.mapIdx fun i d=>PyData.tuple [.int i,d]
noncomputable def iE(t:dY):gj:=fun U Q=>t U fun f d=>∃c,f=[.list c]/\Q (numbered c) d
theorem JY{c:List Expr}{w:Nat}{f:Pos}(z:Gl X "enumerate")(A:X.mg "enumerate" = none)(l:DA X F [a] tA)(Q:starEach [a] X.env=[(false,eval a X.env)]:=by rfl):DI X F (.Tuple c w f) (.Call (.Name "enumerate" p) [a] [] pos) (iE tA):=
 ⟨fun _ _ _ k q=>l.mn _ _ _ (fun _ _ ⟨j,e,q⟩=>⟨j,e,k _ _ q⟩) q,(Im z A l.pa Q).imp fun Y H R ⟨U,O,st,q⟩=>
  ⟨U,O,st,l.mn _ _ _ (fun ds S ⟨Z,e,m⟩ vs B C n D E=>by
   subst e;cases E with
   | cons d r=>
    cases r;obtain⟨a,h,rfl,hx,hd⟩:=d.lst_inv;obtain⟨g,o⟩:=cY hx;refine⟨a,h,rfl,.of g,m _ B C n D fun O' H' s ok=>?_⟩;have h2:=s.keep a _ o g;have t:=aK.mono s.hid hd;refine⟨fun i d e=>?_,⟨h,.of h2,by unfold numbered;rw[List.length_mapIdx,hd.length];exact bH _⟩⟩;unfold numbered at e;rw[List.getElem?_mapIdx] at e;obtain⟨d0,G,I⟩:=Option.map_eq_some_iff.mp e;subst I;obtain⟨v,hv,J⟩:=t.get G;refine⟨⟨h,v,.of h2,hv⟩,fun x L ⟨T,y,m,u,M,N⟩=>?_⟩;subst m M;have:=N h (.of h2);rw[hv] at this;cases this;exact⟨bX u,nU u (ok.nofree T u) (.cons (.int _) (.cons J .nil))⟩) q⟩⟩
end
noncomputable def JZ(s:gj)(g:fP)(c:em):em:=fun D U=>s U fun a e=>∃b:Nat->ai->Prop,b 0 e/\(∀i d U,a[i]? = some d->b i U->g d U fun f=>c { D with nx:=b (i+1),ct:=b (i+1),bk:=D.nx } f)/\∀U,b a.length U->D.nx U
section
variable{X:Cx}{F:Fx}{tg iter:Expr}{body:List Stmt}{s:gj}{g:fP}{tb:em}{pos:Pos}
theorem Ka(hp:PassesOwn (model X.prog X.w) X.A X.env X.xe)(hc:X.calm=true)(hi:DI X F tg iter s)(hg:DG X F tg g)(hb:gz X F body tb)(hs:∀x,foldedSetIterable iter X.env x=pure x:=by intro _;rfl):DS X F (.For tg iter body [] pos) (JZ s g tb):=
 (FV hp hc hi.pi hg.pg hb hs).imp fun D Y H ⟨U,O,DD,st,q,f⟩=>by
  refine⟨U,O,st,hi.mn _ _ _ (fun a U1 ⟨I,i0,step,fin⟩ J L y M N wk=>?_) q⟩;refine⟨fun i m Q z=>∃l u,aC X.K F z Q l u/\aP y L u z/\I i l/\i<=a.length/\m=a.length - i,⟨a.length,U1,y,M,.refl,i0,Nat.zero_le _,rfl⟩,?_⟩;rintro i m Q z ⟨l,u,n,R,iv,a2,rfl⟩;obtain⟨w1,w2⟩:=wk u z R n.live
  by_cases o:i<a.length
  ·obtain⟨go,yld⟩:=w1 i a[i] (List.getElem?_eq_getElem o);refine .inr ⟨go,fun Y2 B=>∃c p,aC X.K F B Y2 c p/\aP y L p B/\I (i+1) c,fun Y2 B ⟨c,p,S,s2,T⟩=>⟨a.length - (i+1),by omega,c,p,S,s2,T,o,rfl⟩,fun x B hy=>?_⟩;obtain⟨sm,dv⟩:=yld x B hy;refine⟨l,u,a[i],n.grow sm,dv,hg.mn _ _ _ _ (fun c q2 Y3 H3 Z a0 s3=>?_) (step i a[i] l (List.getElem?_eq_getElem o) iv)⟩;have r:aP y L Z H3:=R.trans ((aP.same sm).trans s3);have C:∀t h j k,aC X.K F h t j k->aP Z H3 k h->I (i+1) j->∃c p,aC X.K F h t c p/\aP y L p h/\I (i+1) c:=fun t h j k b E G=>⟨j,k,b,r.trans E,G⟩
   exact⟨c,Z,_,a0,q2,⟨C,fun v t h d j k a1 b E G=>f.rt v t h d j k a1 b (N.trans (r.trans E)) G,fun t h j k b E G=>f.nx t h j k b (N.trans (r.trans E)) G,C⟩⟩
  ·have e:i=a.length:=by omega
   subst e;exact .inl ⟨w2,f.nx Q z l u n (N.trans R) (fin l iv)⟩
end
@[simp] noncomputable def Ap:Option (Option ag)->Option ag
 | some (some (.dat d))=>some (.dat d)
 | some (some (.scr ns))=>some (.scr ns)
 | some (some (.vw b))=>some (.vw b)
 | _=>none
noncomputable def dZ(own:List Str)(a:List Nat)(U:ai):ai:=own.map (fun _=>none)++a.map fun j=>Ap U[j]?
noncomputable def nZ(own:List Str)(f:List Nat)(s:gj)(g:fP)(l:dh)(m:DT):DT:=fun U Q=>s U fun c j=>∃e:Nat->List PyData->ai->Prop,e 0 [] (dZ own f j)/\
 (∀i d a h,c[i]? = some d->e i a h->g d h fun n=>l n fun b k=>if b=true then m k fun y o=>a.length<sizeLine/\e (i+1) (a++[y]) o else e (i+1) a k)/\
 ∀a h,e c.length a h->a.length<=sizeLine/\Q (.list a) j
def vb(s:gj):Prop:=∀U Q a,(∀d b,Q d b->a d b)->s U Q->s U a
section
variable{K:Frag}{F:Fx}{own:List Str}{caps:List Nat}{s:gj}{g:fP}{tc:dh}{te:DT}
theorem vc(e:vb s):Mn (nZ own caps s g tc te):=fun _ _ _ k q=>e _ _ _ (fun _ _ ⟨c,d,h1,h2⟩=>⟨c,d,h1,fun a b h=>⟨(h2 a b h).1,k _ _ (h2 a b h).2⟩⟩) q
theorem Aq{N:Fx->Prop}(Z:∀r Y w k O2,aC K F r Y w k->N ⟨r,[],O2,fun _=>0⟩)(hs:vb s)(hg:∀d U Q Q',(∀t,Q t->Q' t)->g d U Q->g d U Q')(ht:jT tc)(he:Mn te):∀Y H Q,iJ K F (nZ own caps s g tc te) Y H Q->
  ms own caps (qA K F s) (fun v Y H Q=>∃A,N A/\qu K A g v Y H Q) (fun Y H Q=>∃A,N A/\kZ K A tc Y H Q) (fun Y H Q=>∃A,N A/\iJ K A te Y H Q) Y H Q:=fun Y H Q ⟨U,O,st,q⟩=>by
 refine⟨U,O,st,hs _ _ _ (fun f w ⟨Iv,i0,step,fin⟩ J r k l s1 wk=>?_) q⟩;refine⟨fun i m ys Y' G=>∃t D C,aC K ⟨r,[],k,fun _=>0⟩ G Y' t D/\Iv i C t/\aK (aw D G) ys C/\i<=f.length/\m=f.length - i,⟨f.length,dZ own caps w,k,[],?_,i0,.nil,Nat.zero_le _,rfl⟩,?_⟩
 ·have cell:∀(i:Nat) (c:ag),(dZ own caps w)[i]? = some (some c)->(∀io b,c≠.own io b)/\∃v,(fY own caps Y)[i]? = some (some v)/\ek K r k v c []:=fun i c e=>by
   unfold dZ at e;unfold fY
   by_cases R:i<own.length
   ·rw[List.getElem?_append_left (by simpa using R),List.getElem?_map] at e;cases h:own[i]? with
    | none=>rw[h] at e;cases e
    | some y=>rw[h] at e;cases e
   ·rw[List.getElem?_append_right (by simpa using Nat.le_of_not_lt R),List.length_map,List.getElem?_map] at e;rw[List.getElem?_append_right (by simpa using Nat.le_of_not_lt R),List.length_map,List.getElem?_map];obtain⟨j,h1,h2⟩:=Option.map_eq_some_iff.mp e;rw[h1];show _/\∃v,some ((Y[j]?).getD none)=some (some v)/\_;cases h3:w[j]? with
    | none=>rw[h3] at h2;cases h2
    | some o=>
     cases o with
     | none=>rw[h3] at h2;cases h2
     | some c'=>
      rw[h3] at h2;obtain⟨W,E,rfl⟩:=id l;obtain⟨v,fp,e1,_,I⟩:=E.at_ j c' h3;rw[e1];cases c' with
      | dat d=>cases h2;exact⟨(fun _ _ z=>by cases z),v,rfl,I⟩
      | scr ns=>cases h2;exact⟨(fun _ _ z=>by cases z),v,rfl,I⟩
      | own _ _=>cases h2
      | exc _=>cases h2
      | vw b=>cases h2;exact⟨(fun _ _ z=>by cases z),v,rfl,I⟩
  obtain⟨W,E,a0⟩:=id l;have ln:(dZ own caps w).length=(fY own caps Y).length:=by unfold dZ fY;simp
  have S:(List.replicate (dZ own caps w).length ([]:List Addr)).flatten++k=k:=by rw[nY];rfl
  refine⟨List.replicate (dZ own caps w).length [],⟨fun i c e=>?_,by show(_++k).Nodup;rw[S,a0];exact E.nd,fun _ _ _ h=>h,fun a h=>?_,by show mx r (_++k);rw[S];exact l.live,ln,by simp,fun i b e=>absurd rfl ((cell i _ e).1 true b)⟩,S.symm⟩
  ·obtain⟨_,v,e1,I⟩:=cell i c e;refine⟨v,[],e1,?_,by show ek K r (_++k) v c [];rw[S];exact I⟩;rw[List.getElem?_replicate,if_pos (List.getElem?_eq_some_iff.mp e).1]
  ·rw[nY] at h;cases h
 ·rintro i m ys Y' G ⟨t,D,C,n,iv,dv,R,rfl⟩;have sm:bR r G:=fun b o e=>by obtain⟨W',T,_⟩:=id n;exact T.kept b o (by simp) e
  have a1:aP k r D G:=⟨fun b o _ e=>sm b o e,fun a h=>by
   obtain⟨W',T,rfl⟩:=id n;rcases List.mem_append.mp h with h | h
   ·exact(T.new a h).elim (fun z=>absurd z (by simp)) .inr
   ·exact .inl h⟩
  have B:∀a∈k,a∈D:=fun a h=>by obtain⟨W',T,rfl⟩:=id n;exact bi _ h
  obtain⟨w1,w2⟩:=wk D G a1 n.live
  by_cases u:i<f.length
  ·obtain⟨go,yld⟩:=w1 i f[i] (List.getElem?_eq_getElem u);refine .inr ⟨go,fun x H2 hy=>?_⟩;obtain⟨L,dx⟩:=yld x H2 hy;refine⟨⟨r,[],k,fun _=>0⟩,Z _ _ _ _ _ l,t,D,f[i],n.grow L,dx,hg _ _ _ _ (fun U2 q2 Y3 H3 O3 a2 s3=>?_) (step i f[i] C t (List.getElem?_eq_getElem u) iv)⟩;refine⟨⟨r,[],k,fun _=>0⟩,Z _ _ _ _ _ l,U2,O3,a2,ht _ _ _ (fun b U3 q3 H4 O4 M s4=>?_) q2⟩;have d4:aK (aw O4 H4) ys C:=aK.mono s4.hid (aK.mono s3.hid (aK.mono (jl L) dv));cases b with
   | false=>exact fi ⟨f.length - (i+1),by omega,U3,O4,C,M,jS q3,d4,u,rfl⟩
   | true=>refine fj ⟨⟨r,[],k,fun _=>0⟩,Z _ _ _ _ _ l,U3,O4,M,he _ _ _ (fun y U4 q4 v H5 O5 cG s5 dy=>?_) (jR q3)⟩;refine⟨by rw[d4.length];exact q4.1,f.length - (i+1),by omega,U4,O5,C++[y],cG,q4.2,(aK.mono s5.hid d4).append (.cons dy .nil),u,rfl⟩
  ·have e:i=f.length:=by omega
   subst e;obtain⟨hz,q⟩:=fin C t iv;refine .inl ⟨w2,by rw[dv.length];exact hz,fun p X=>?_⟩;have a3:=n.nofree p X;exact q _ _ k (l.grow fun b o e=>bX X _ _ (sm b o e)) (s1.trans (.same fun b o e=>bX X _ _ (sm b o e))) (kY X (fun z=>a3 (B p z)) (aK.mono (uQ B) dv))
end
def oa(X:Cx)(F:Fx)(a:List Expr)(t:dh):Prop:=jT t/\mr X a (kZ X.K F t)
noncomputable def Kb:dh:=fun U Q=>Q true U
theorem Kc{X:Cx}{F:Fx}:oa X F [] Kb:=⟨fun _ _ _ k q=>k _ _ q,fun a s Y H Q I ⟨U,O,st,q⟩=>HR a s Y H Q I (q H O st .refl)⟩
theorem Kd{X:Cx}{F:Fx}{c:Expr}{t:dh}(h:DB X F c t):oa X F [c] t:=⟨h.mn,HS h.pt⟩
section
variable{X:Cx}{F:Fx}{scope:Scope}{own capN:List Str}{caps:List Nat}{tg iter elt:Expr}{ifs:List Expr}{s:gj}{g:fP}{tc:dh}{te:DT}{pos:Pos}
theorem Ke(k:GF X.mg F)(S:az X scope own capN caps)(l:X.calm=true)(j:DI X F tg iter s)
  (c:∀C d e f h b,GF X.mg b->DG (cq X scope (own++capN) C d e f h) b tg g/\oa (cq X scope (own++capN) C d e f h) b ifs tc/\DE (cq X scope (own++capN) C d e f h) b elt te)
  (o:∀x,foldedSetIterable iter X.env x=pure x:=by intro _;rfl):DE X F (.ListComp elt [⟨tg,iter,ifs,0⟩] scope pos) (nZ own caps s g tc te):=by
 have p:Fx:=F;obtain⟨m,ht,n⟩:=c 0 [] (PySem.start X.prog).1 (fun _=>none) [] F k;refine⟨vc j.mn,(zJ S l j.pi (fun C d e f h=>⟨fun a s Y H v u Q I r ⟨b,i,q⟩=>(c C d e f h b i).1.pg a s Y H v u Q I r q,fun a s Y H Q I ⟨b,i,q⟩=>(c C d e f h b i).2.1.2 a s Y H Q I q,fun a s Y H Q I ⟨b,i,q⟩=>(c C d e f h b i).2.2.pe a s Y H Q I q⟩) o).imp (Aq (fun _ _ _ _ _ st=>k.into st) j.mn m.mn ht.1 n.mn)⟩
theorem Kf{i:Nat}{y:Str}{py e:Pos}(z:X.N.Nodup)(n:X.N[i]? = some y)(Z:gO X.env.scope y)(w:GF X.mg F)(S:az X scope own capN caps)(A:X.calm=true)(o:DI X F tg iter s)
  (c:∀C h j k l b,GF X.mg b->DG (cq X scope (own++capN) C h j k l) b tg g/\oa (cq X scope (own++capN) C h j k l) b ifs tc/\DE (cq X scope (own++capN) C h j k l) b elt te)
  (p:swapsWith (.ListComp elt [⟨tg,iter,ifs,0⟩] scope pos) (some (.Name y py)) e.line X.env=pure true:=by rfl)
  (hs:∀x,foldedSetIterable iter X.env x=pure x:=by intro _;rfl) (B:X.fn y=true\/X.env.scope.names.lookup y=some .local:=by first | exact .inl rfl | exact .inr rfl | assumption) :
  DS X F (.Assign [.Name y py] (.ListComp elt [⟨tg,iter,ifs,0⟩] scope pos) e) (qv (nZ own caps s g tc te) (gN i)):=by
 obtain⟨E,ht,G⟩:=c 0 [] (PySem.start X.prog).1 (fun _=>none) [] F w;refine(HU z n Z S A o.pi (fun C h j k l=>⟨fun a s Y H v u Q I r ⟨b,m,q⟩=>(c C h j k l b m).1.pg a s Y H v u Q I r q,fun a s Y H Q I ⟨b,m,q⟩=>(c C h j k l b m).2.1.2 a s Y H Q I q,fun a s Y H Q I ⟨b,m,q⟩=>(c C h j k l b m).2.2.pe a s Y H Q I q⟩) p hs B).imp
  fun D Y H ⟨U,O,DD,st,q,f⟩=>Aq (fun _ _ _ _ _ st=>w.into st) o.mn E.mn ht.1 G.mn Y H _ ⟨U,O,st,vc o.mn _ _ _ (fun d U1 J v L M t R T=>f.nx _ L _ M (t.set T) R J) q⟩
end
end L2.L3
namespace L2
open PySem PySem.Spec PyProof.Rows
section
variable{X:Cx}{pins:List (Addr×Obj)}{Y:St}{H:Hp}{s:Shared}
theorem Inv.track{a:Addr}{o:HO}(I:Inv X pins Y H s)(f:gx X pins H a)(new:cD X.prog X.w (aN H a o) s.heap a o):Inv X pins Y (aN H a o) s:=by
 have g:=f.1;refine I.step (h':=s.heap) (g':=s.gens) (d':=s.drawn) (t':=s.toks) (ch:=[a]) (fun b h=>by obtain rfl:=List.mem_singleton.mp h;exact⟨f.2.2.2.1,f.2.1,f.2.2.2.2.1,f.2.2.2.2.2⟩) (fun b d _ _ _ e _=>e) (fun b d _ _ _ e _=>⟨d.slots,e⟩)
  (fun b d i _ n=>by rw[bj (fun z=>i (by simp[z]))];exact n) (fun b d _ e=>⟨d,e⟩) (fun b j e=>bX g b _ e) (fun b d u e=>bX g b _ e) (fun b l e=>⟨#[],by rw[bX g b _ e];simp⟩) (fun m k=>k) (fun b u e=>?_) I.bare
 by_cases h:b=a
 ·subst h;rw[cj] at e;cases e;exact new
 ·rw[bj h] at e;exact(I.hok b u e).stay (fun _ _ _ q=>q) (fun c q=>bX g c _ q) fun c j q=>bX g c _ q
end
theorem og{x y z:V}{a:List Value}(r:be [x,y,z] a):∃u v w,a=[u,v,w]/\bd x u/\bd y v/\bd z w:=by
 cases r with
 | cons b r=>cases r with
  | cons c r=>cases r with
   | cons d r=>cases r;exact⟨_,_,_,rfl,b,c,d⟩
section
variable{X:Cx}{a b c:Expr}{t:TA}{pos p1 p2 pos2:Pos}
noncomputable def Kg(t:TA):TE:=fun Y H Q=>t Y H fun n d=>∃k l m e g h,n=[.ref k,.ref l,.ref m]/\d k=some (.lst e)/\d l=some (.lst g)/\d m=some (.lst h)/\g.length=e.length/\h.length=e.length/\0<e.length/\
 ∀p f (j:List Addr),bR d f->d p=none->f p=some (.lst (j.map V.ref))->j.length=e.length->(∀(i:Nat) (q:Addr),j[i]? = some q->∃x y z,e[i]? = some x/\g[i]? = some y/\h[i]? = some z/\d q=none/\f q=some (.tup [x,y,z]))->Q (.ref p) f
theorem Ar:∀{acc:List Value},(∀(j:Nat) (w:Value),acc[j]? = some w->∃T,w=Value.ref T)->∃d:List Addr,acc=d.map Value.ref
 | [],_=>⟨[],rfl⟩
 | v::r,h=>by obtain⟨T,e⟩:=h 0 v rfl;obtain⟨d,f⟩:=Ar (acc:=r) fun j w e=>h (j+1) w (by simpa using e);exact⟨T::d,by rw[f,e];rfl⟩
theorem Kh{h:Heap}{n:Addr}{f g i:Array Value}{d:List Value}(t:qj h n f g i d):∃k:List Addr,d=k.map Value.ref:=
 Ar fun j w e=>by obtain⟨T,_,_,_,e,_⟩:=t j w e;exact⟨T,e⟩
theorem Ki(hc:X.calm=true)(c1:Gl X "list")(c2:X.mg "list" = none)(c3:Gl X "zip")(c4:X.mg "zip" = none)(ha:PA X [a,b,c] t)
  (he:starEach [.Call (.Name "zip" p2) [a,b,c] [] pos2] X.env=[(false,eval (.Call (.Name "zip" p2) [a,b,c] [] pos2) X.env)]:=by rfl)
  (hs:starEach [a,b,c] X.env=(false,eval a X.env)::starEach [b,c] X.env:=by rfl) (c5:(backTo pos2 (starEach [b,c] X.env)).any (·.1)=false:=by rfl) :
  PE X (.Call (.Name "list" p1) [.Call (.Name "zip" p2) [a,b,c] [] pos2] [] pos) (Kg t):=by
 intro g s Y H Q I h;refine wpAny_Call_Name_kw (jM I c1 c2 (show bootBuiltins "list" = some (.type "list") by decide +kernel) ?_ (by decide) (by decide));refine PyProof.Rows.callWith_type1 ?_ (by rw[he];rfl) rfl;rw[he];show wpAny _ _ (spliced [(false,eval (.Call (.Name "zip" p2) [a,b,c] [] pos2) X.env)]) _ _ s;refine Calls.spliced_cons ?_;refine wpAny_Call_Name_kw (jM I c3 c4 boot_zip ?_ (by decide) (by decide));refine PyProof.Rows.callWith_type1 (aT (ha pos2 g s Y H _ I h) fun us d ⟨vs,B,I1,r1,q1⟩=>?_) hs c5;obtain⟨l1,l2,l3,A,R,S,rfl,h1,N,h3,e2,e3,e5,q⟩:=q1;obtain⟨u1,u2,u3,rfl,c6,c7,c8⟩:=og r1;cases c6;cases c7;cases c8;obtain⟨z1,U,n1,Z,g1⟩:=I1.hok _ _ h1;obtain⟨z2,a0,n2,a6,g2⟩:=I1.hok _ _ N;obtain⟨z3,a7,n3,a8,g3⟩:=I1.hok _ _ h3;have L1:d.heap.IsList l1 U.toArray:=⟨_,g1,rfl,_,rfl⟩
 have a9:d.heap.IsList l2 a0.toArray:=⟨_,g2,rfl,_,rfl⟩
 have b0:d.heap.IsList l3 a7.toArray:=⟨_,g3,rfl,_,rfl⟩
 have b1:=Z.length;have e6:=a6.length;have e7:=a8.length;refine Ig L1 a9 b0 fun v hz c9 d0 vv d1 d2 d3 hk=>?_;refine Calls.spliced_nil ?_;have b2:l1<d.heap.objs.size:=bB g1;have b3:l2<d.heap.objs.size:=bB g2;have b4:l3<d.heap.objs.size:=bB g3;have nd:[d.heap.objs.size+5,d.heap.objs.size+3,d.heap.objs.size+4,d.heap.objs.size,d.heap.objs.size+1,d.heap.objs.size+2].Nodup:=by generalize d.heap.objs.size=n;simp only[List.nodup_cons,List.mem_cons,List.not_mem_nil,or_false,not_or,not_false_eq_true,and_true,List.nodup_nil];refine⟨⟨?_,?_,?_,?_,?_⟩,⟨?_,?_,?_,?_⟩,⟨?_,?_,?_⟩,⟨?_,?_⟩,?_⟩<;>exact(by intro e;exact absurd (show(_:Nat)=_ from e) (by omega))
 have ge:∀j∈[d.heap.objs.size+5,d.heap.objs.size+3,d.heap.objs.size+4,d.heap.objs.size,d.heap.objs.size+1,d.heap.objs.size+2],d.heap.objs.size<=j:=fun j w=>by
  simp only[List.mem_cons,List.not_mem_nil,or_false] at w;rcases w with rfl | rfl | rfl | rfl | rfl | rfl
  ·exact Nat.le_add_right _ _
  ·exact Nat.le_add_right _ _
  ·exact Nat.le_add_right _ _
  ·exact bH _
  ·exact Nat.le_add_right _ _
  ·exact Nat.le_add_right _ _
 have I2:Inv X g Y B { d with heap:=v }:=I1.kept (t':=d.toks) hk;refine Ih (s:={ d with heap:=v }) (I1.ok.hd hc) nd (fun l hl j w=>?_) (fun j w=>?_) hz c9 d0 vv d1 d2 (L1.at fun o e=>hk _ _ e) (a9.at fun o e=>hk _ _ e) (b0.at fun o e=>hk _ _ e)
  (by simp only[List.size_toArray];omega) (by simp only[List.size_toArray];omega) (by simp only[List.size_toArray];omega) (by simp only[List.size_toArray];omega) fun N e8 cc vA hS hl tr=>?_
 ·simp only[List.mem_cons,List.not_mem_nil,or_false] at hl;rcases hl with rfl | rfl | rfl
  ·exact Nat.ne_of_lt (Nat.lt_of_lt_of_le b2 (ge j w))
  ·exact Nat.ne_of_lt (Nat.lt_of_lt_of_le b3 (ge j w))
  ·exact Nat.ne_of_lt (Nat.lt_of_lt_of_le b4 (ge j w))
 ·show j<v.objs.size;rw[d3];simp only[List.mem_cons,List.not_mem_nil,or_false] at w;generalize d.heap.objs.size=n at *;rcases w with rfl | rfl | rfl | rfl | rfl | rfl | rfl | rfl | rfl
  ·exact Nat.lt_succ_self _
  ·exact Nat.add_lt_add_left (show(3:Nat)<6 by decide) _
  ·exact Nat.add_lt_add_left (show(4:Nat)<6 by decide) _
  ·exact Nat.lt_add_of_pos_right (by decide)
  ·exact Nat.add_lt_add_left (show(1:Nat)<6 by decide) _
  ·exact Nat.add_lt_add_left (show(2:Nat)<6 by decide) _
  ·exact Nat.lt_of_lt_of_le b2 (Nat.le_add_right _ _)
  ·exact Nat.lt_of_lt_of_le b3 (Nat.le_add_right _ _)
  ·exact Nat.lt_of_lt_of_le b4 (Nat.le_add_right _ _)
 ·
  have kp:∀b ob,d.heap.get? b=some ob->N.get? b=some ob:=fun b ob e=>vA b ob (fun z=>absurd (ge b (by
   simp only[List.mem_cons,List.not_mem_nil,or_false] at z ⊢;rcases z with z | z | z | z | z<;>simp[z])) (Nat.not_le.mpr (bB e))) (hk b ob e)
  have I3:Inv X g Y B { d with heap:=N }:=I1.kept (t':=d.toks) kp;obtain⟨f,C⟩:=Kh tr;have big:∀b,v.objs.size<=b->gx X g B b:=fun b O=>I2.fpOk O (I2.hok.fresh O);have D:f.length=A.length:=by have:=congrArg List.length C;rw[List.length_map] at this;rw[<-this,hl,List.size_toArray];exact b1.symm
  have vq:∀f:List Addr,be (f.map V.ref) (f.map Value.ref):=fun f=>by
   induction f with
   | nil=>exact .nil
   | cons q r ih=>exact .cons rfl ih
  have I4:Inv X g Y (aN B v.objs.size (.lst (f.map V.ref))) { d with heap:=N }:=I3.track (big _ (bH _)) ⟨by rw[List.length_map,D];exact z1,_,_,vq f,by rw[<-C];exact hS⟩;have all:∀k,k<=f.length->∃u,bR B u/\Inv X g Y u { d with heap:=N }/\u v.objs.size=some (.lst (f.map V.ref))/\(∀b,v.objs.size<b->u b=none\/∃row,u b=some (.tup row))/\
    ∀(i:Nat) (q:Addr),i<k->f[i]? = some q->∃x y z,A[i]? = some x/\R[i]? = some y/\S[i]? = some z/\B q=none/\u q=some (.tup [x,y,z]):=fun k=>by
   induction k with
   | zero=>exact fun _=>⟨_,bX (big _ (bH _)).1,I4,cj,fun b O=>.inl (by rw[bj (Nat.ne_of_gt O)];exact(big b (Nat.le_of_lt O)).1),fun i q h=>absurd h (Nat.not_lt_zero _)⟩
   | succ k ih=>
    intro b5;obtain⟨u,sm,J,hp,E,m⟩:=ih (Nat.le_of_succ_le b5);have b6:k<f.length:=b5;have G:f[k]? = some f[k]:=List.getElem?_eq_getElem b6;obtain⟨T,x',y',u',eT,hT,b7,ex,ey,eu⟩:=tr k (.ref f[k]) (by rw[C,List.getElem?_map,G];rfl);cases eT;have p:v.objs.size<f[k]:=hT;have kx:k<A.length:=by rw[<-D];exact b6
    have vx:A[k]? = some A[k]:=List.getElem?_eq_getElem kx;have vy:R[k]? = some (R[k]'(by omega)):=List.getElem?_eq_getElem (by omega);have vz:S[k]? = some (S[k]'(by omega)):=List.getElem?_eq_getElem (by omega);obtain⟨w1,d4,d5⟩:=Z.get vx;obtain⟨w2,d6,d7⟩:=a6.get vy;obtain⟨w3,d8,d9⟩:=a8.get vz;have e1:x' = w1:=by simp only[List.getElem?_toArray] at ex;rw[d4] at ex;exact(Option.some.inj ex).symm
    have e0:y' = w2:=by simp only[List.getElem?_toArray] at ey;rw[d6] at ey;exact(Option.some.inj ey).symm
    have e4:u' = w3:=by simp only[List.getElem?_toArray] at eu;rw[d8] at eu;exact(Option.some.inj eu).symm
    subst e1 e0 e4;have rel:be [A[k],R[k]'(by omega),S[k]'(by omega)] [x',y',u']:=.cons d5 (.cons d7 (.cons d9 .nil));have b8:B f[k]=none:=(big _ (Nat.le_of_lt p)).1;rcases E f[k] p with hn | ⟨row,hr⟩
    ·refine⟨aN u f[k] (.tup [A[k],R[k]'(by omega),S[k]'(by omega)]),fun b o e=>bX hn _ _ (sm b o e),J.track ⟨hn,(big _ (Nat.le_of_lt p)).2⟩ ⟨by show 3<=sizeLine;decide,_,rel,⟨_,b7,rfl,_,rfl⟩⟩,
      by rw[bj (Nat.ne_of_lt p)];exact hp,fun b O=>?_,fun i q L M=>?_⟩
     ·by_cases e:b=f[k]
      ·subst e;exact .inr ⟨_,cj⟩
      ·rw[bj e];exact E b O
     ·rcases Nat.lt_succ_iff_lt_or_eq.mp L with L | rfl
      ·obtain⟨x,y,z,a1,a2,a3,a4,a5⟩:=m i q L M;exact⟨x,y,z,a1,a2,a3,a4,bX hn _ _ a5⟩
      ·rw[G] at M;cases M;exact⟨_,_,_,vx,vy,vz,b8,cj⟩
    ·have same:row=[A[k],R[k]'(by omega),S[k]'(by omega)]:=by
      obtain⟨_,b9,rv,o,eo,co,n,dn⟩:=J.hok _ _ hr;have c0:N.get? f[k]=some o:=eo;rw[b7] at c0;cases c0;have d':(#[x',y',u']:Array Value)=b9.toArray:=by injection dn
      have:b9=[x',y',u']:=by have:=congrArg Array.toList d';simpa using this.symm
      subst this;exact rv.inj rel
     refine⟨u,sm,J,hp,E,fun i q L M=>?_⟩;rcases Nat.lt_succ_iff_lt_or_eq.mp L with L | rfl
     ·exact m i q L M
     ·rw[G] at M;cases M;exact⟨_,_,_,vx,vy,vz,b8,by rw[hr,same]⟩
  obtain⟨u,sm,J,hp,_,m⟩:=all f.length (bH _);exact⟨.ref v.objs.size,u,J,rfl,q v.objs.size u f sm (big _ (bH _)).1 hp D fun i qq e=>m i qq (List.getElem?_eq_some_iff.mp e).1 e⟩
theorem Kj(E:X.calm=true):ib X (.builtin "all") (fun p H Q=>∃(l:Addr) (bs:List Bool),p=[.ref l]/\H l=some (.lst (bs.map V.bl))/\Q (.bl (bs.all id)) H):=by
 intro y s Y H p U Q I r h;obtain⟨l,bs,rfl,G,q⟩:=h;obtain⟨u,rfl,ru⟩:=dM r;cases ru;obtain⟨z,d,n,B,e⟩:=I.hok _ _ G;have L:s.heap.IsList l d.toArray:=⟨_,e,rfl,_,rfl⟩
 have f:l<s.heap.objs.size:=bB e;have len:=B.length;rw[List.length_map] at len;refine call_all_walk (wpAny_pyIter_list L ?_);refine⟨s.heap.objs.size,_,_,_,_,_,fun i=>bs.getD i true,rfl,Walks.list (A:=X.A.in1) (show X.A.in1.handled=none from I.ok.hd E) s.heap.objs.size l (Nat.ne_of_lt f) d.toArray,⟨⟨_,Heap.get?_push_size _ rfl,rfl,rfl⟩,L.push _⟩,?_,fun Z tk J=>?_⟩
 ·intro i v M N E' S k;have g:d[i]? = some v:=by simpa using S
  have f:i<bs.length:=by rw[len];exact(List.getElem?_eq_some_iff.mp g).1
  obtain⟨w,C,m⟩:=B.get (i:=i) (x:=.bl bs[i]) (by rw[List.getElem?_map,List.getElem?_eq_getElem f];rfl);rw[g] at C;cases C;cases m;refine wpAny_truthy_bool ?_;have:bs.getD i true=bs[i]:=by simp[List.getD,f]
  have k:N (bs.getD i true) M:=k;rw[this] at k;exact k
 ·have O:(List.range d.toArray.size).all (fun i=>bs.getD i true)=bs.all id:=by
   rw[List.size_toArray,<-len];rw[Bool.eq_iff_iff,List.all_eq_true,List.all_eq_true];constructor
   ·intro h b T;obtain⟨i,g,rfl⟩:=List.getElem_of_mem T;have:=h i (List.mem_range.mpr g);simpa[List.getD,g] using this
   ·intro h i g;have j:=List.mem_range.mp g;have:=h bs[i] (List.getElem_mem j);simpa[List.getD,j] using this
  rw[O];exact⟨.bl (bs.all id),H,I.kept fun b o D=>J b o (fun R=>absurd (bB D) (by rw[List.mem_singleton.mp R];exact Nat.lt_irrefl _)) (bA _ D),rfl,q⟩
end
end L2
namespace L2.L3
open PySem PySem.Spec PyProof.Rows
noncomputable def As:DN:=fun b Q=>∃a,(b=[.list a]\/b=[.tuple a])/\Q (.int a.length)
theorem jo{K:Frag}:jV (fun xs H Q=>∃p ys,xs=[.ref p]/\(cN K H p ys\/eP K H p ys)/\Q (.int ys.length) H) As where
 mn:=fun _ _ _ k ⟨ds,e,q⟩=>⟨ds,e,k _ q⟩
 ok:=fun O H vs xs Q hO hd ⟨ds,e,q⟩=>by
  rcases e with rfl | rfl
  ·cases hd with
   | cons d r=>cases r;obtain⟨a,ys,rfl,ha,hy⟩:=d.lst_inv;exact⟨a,ys,rfl,.inl (.of (cY ha).1),by rw[hy.length];exact q _ H (fun _ _ h=>h) (.int _)⟩
  ·cases hd with
   | cons d r=>cases r;obtain⟨a,ys,rfl,ha,hy⟩:=d.tup_inv;exact⟨a,ys,rfl,.inr (.inl (gR ha).1),by rw[hy.length];exact q _ H (fun _ _ h=>h) (.int _)⟩
theorem vd{H:Hp}{c:List V}{a b:PyData}(h:aK H c [a,b]):∃x y,c=[x,y]/\DV H x a/\DV H y b:=by cases h with | cons d r=>cases r with | cons e r=>cases r;exact⟨_,_,rfl,d,e⟩
theorem lc{H:Hp}{b:List V}{a:PyData}(h:aK H b [a]):∃x,b=[x]/\DV H x a:=by cases h with | cons d r=>cases r;exact⟨_,rfl,d⟩
theorem ve{H:Hp}{f:List V}{a b c:PyData}(h:aK H f [a,b,c]):∃x y z,f=[x,y,z]/\DV H x a/\DV H y b/\DV H z c:=by cases h with | cons d r=>cases r with | cons g r=>cases r with | cons e r=>cases r;exact⟨_,_,_,rfl,d,g,e⟩
noncomputable def At:DN:=fun a Q=>∃i j:Int,a=[.int i,.int j]/\Q (.int (max i j))
theorem Au:jV (fun xs H Q=>∃i j,xs=[.int i,.int j]/\Q (.int (if j>i then j else i)) H) At where
 mn:=fun _ _ _ k ⟨i,j,e,q⟩=>⟨i,j,e,k _ q⟩
 ok:=fun O H vs xs Q hO hd ⟨i,j,e,q⟩=>by
  subst e;obtain⟨x,y,rfl,h1,h2⟩:=vd hd;have e:(if j>i then j else i)=max i j:=by split<;>omega
  exact⟨i,j,by rw[h1.int_inv,h2.int_inv],by rw[e];exact q _ H (fun _ _ h=>h) (.int _)⟩
noncomputable def Av:DN:=fun b Q=>(∃a,b=[.list a]/\Q (.tuple a))\/∃a,b=[.tuple a]/\Q (.tuple a)
theorem Aw{K:Frag}:jV (fun xs H Q=>∃p ys,xs=[.ref p]/\((cN K H p ys/\∀l,H l=none->Q (.ref l) (aN H l (.tup ys)))\/(eP K H p ys/\Q (.ref p) H))) Av where
 mn:=fun _ _ _ k q=>q.imp (fun⟨i,e,q⟩=>⟨i,e,k _ q⟩) fun⟨i,e,q⟩=>⟨i,e,k _ q⟩
 ok:=fun O H vs xs Q hO hd q=>by
  rcases q with⟨ds,e,q⟩ | ⟨ds,e,q⟩
  ·subst e;obtain⟨x,rfl,h1⟩:=lc hd;obtain⟨a,ys,rfl,ha,hy⟩:=h1.lst_inv;exact⟨a,ys,rfl,.inl ⟨.of (cY ha).1,fun p hp=>q _ _ (bX hp) (nU hp (hO p hp) hy)⟩⟩
  ·subst e;obtain⟨x,rfl,h1⟩:=lc hd;obtain⟨a,ys,e,ha,hy⟩:=h1.tup_inv;subst e;exact⟨a,ys,rfl,.inr ⟨.inl (gR ha).1,q _ H (fun _ _ h=>h) h1⟩⟩
noncomputable def Ax:DN:=fun a Q=>∃bs:List Bool,a=[.list (bs.map .bool)]/\Q (.bool (bs.all id))
theorem Ay{H:Hp}:∀{bs:List Bool}{a:List V},aK H a (bs.map PyData.bool)->a=bs.map V.bl
 | [],_,h=>by cases h;rfl
 | b::r,_,h=>by
  cases h with
  | cons d q=>rw[d.bl_inv,Ay q];rfl
theorem Kk:jV (fun xs H Q=>∃(l:Addr) (bs:List Bool),xs=[.ref l]/\H l=some (.lst (bs.map V.bl))/\Q (.bl (bs.all id)) H) Ax where
 mn:=fun _ _ _ k ⟨bs,e,q⟩=>⟨bs,e,k _ q⟩
 ok:=fun O H vs xs Q hO hd ⟨bs,e,q⟩=>by subst e;obtain⟨x,rfl,h1⟩:=lc hd;obtain⟨a,ys,rfl,ha,hy⟩:=h1.lst_inv;exact⟨a,bs,rfl,by rw[(cY ha).1,Ay hy],q _ H (fun _ _ h=>h) (.bl _)⟩
noncomputable def oh(as bs a:List PyData):List PyData:=(as.zip (bs.zip a)).map fun q=>PyData.tuple [q.1,q.2.1,q.2.2]
noncomputable def Az(t:dY):DT:=fun U Q=>t U fun c b=>∃as bs a,c=[.list as,.list bs,.list a]/\bs.length=as.length/\a.length=as.length/\0<as.length/\Q (.list (oh as bs a)) b
theorem AA:∀{H:Hp}{a:List V}{b:List PyData},a.length=b.length->(∀(i:Nat) v d,a[i]? = some v->b[i]? = some d->DV H v d)->aK H a b
 | _,[],[],_,_=>.nil
 | _,[],_::_,e,_=>by cases e
 | _,_::_,[],e,_=>by cases e
 | H,v::a,d::b,e,h=>.cons (h 0 v d rfl rfl) (AA (by simpa using e) fun i c f g j=>h (i+1) c f (by simpa using g) (by simpa using j))
section
variable{X:Cx}{F:Fx}{a b c e:Expr}{te:DT}{tA:dY}{pos p1 p2 pos2:Pos}
theorem Kl(T:X.calm=true)(n:Gl X "list")(o:X.mg "list" = none)(r:Gl X "zip")(s:X.mg "zip" = none)(t:DA X F [a,b,c] tA)
  (Z:starEach [.Call (.Name "zip" p2) [a,b,c] [] pos2] X.env=[(false,eval (.Call (.Name "zip" p2) [a,b,c] [] pos2) X.env)]:=by rfl)
  (hs:starEach [a,b,c] X.env=(false,eval a X.env)::starEach [b,c] X.env:=by rfl) (u:(backTo pos2 (starEach [b,c] X.env)).any (·.1)=false:=by rfl) :
  DE X F (.Call (.Name "list" p1) [.Call (.Name "zip" p2) [a,b,c] [] pos2] [] pos) (Az tA):=
 ⟨fun _ _ _ k q=>t.mn _ _ _ (fun _ _ ⟨x,y,z,e,h1,h2,h3,q⟩=>⟨x,y,z,e,h1,h2,h3,k _ _ q⟩) q,(Ki T n o r s t.pa Z hs u).imp fun Y H Q ⟨U,O,st,q⟩=>
  ⟨U,O,st,t.mn _ _ _ (fun ds U1 ⟨as,bs,cs,e,l1,l2,l3,q1⟩ vs H1 w g s1 A=>by
   subst e;obtain⟨x,y,z,rfl,h1,h2,h3⟩:=ve A;obtain⟨a1,xs,rfl,B,hx⟩:=h1.lst_inv;obtain⟨a2,ys,rfl,C,L⟩:=h2.lst_inv;obtain⟨a3,zs,rfl,D,M⟩:=h3.lst_inv;refine⟨a1,a2,a3,xs,ys,zs,rfl,(cY B).1,(cY C).1,(cY D).1,by rw[hx.length,L.length];exact l1,by rw[hx.length,M.length];exact l2,by rw[hx.length];exact l3,fun p H2 qs E hp G hl h=>?_⟩;have N:∀b,H1 b=none->b∉w:=g.nofree;refine q1 _ H2 w (g.grow E) (s1.trans (.same E)) (.lst (iH G (N p hp)) (AA ?_ fun i v d R I=>?_))
   ·unfold oh;rw[List.length_map,List.length_map,List.length_zip,List.length_zip,hl,hx.length];omega
   ·rw[List.getElem?_map] at R;obtain⟨S,e3,e4⟩:=Option.map_eq_some_iff.mp R;subst e4;obtain⟨x,y,z,g1,g2,g3,g4,g5⟩:=h i S e3;unfold oh at I;rw[List.getElem?_map] at I;obtain⟨⟨d0,A,d2⟩,e5,e6⟩:=Option.map_eq_some_iff.mp I;subst e6;obtain⟨e7,e8⟩:=List.getElem?_zip_eq_some.mp e5;obtain⟨e9,J⟩:=List.getElem?_zip_eq_some.mp e8;obtain⟨dx,k1,k2⟩:=hx.get' g1;obtain⟨dy,k3,k4⟩:=L.get' g2;obtain⟨dz,k5,k6⟩:=M.get' g3;have j:as[i]? = some d0:=e7;have l:bs[i]? = some A:=e9;have f:cs[i]? = some d2:=J;rw[k1] at j;rw[k3] at l;rw[k5] at f;cases j;cases l;cases f;have m:=jl (O:=w) E;exact .tup (.inl (iH g5 (N S g4))) (.cons (DV.mono m k2) (.cons (DV.mono m k4) (.cons (DV.mono m k6) .nil)))) q⟩⟩
noncomputable def AB(te:DT)(k:Nat):DT:=fun U Q=>te U fun d g=>∃f,d=.list f/\Q (.list (f.drop k)) g
theorem Km{k j:Nat}{w n:Pos}(l:DE X F e te):DE X F (.Subscript e (.Slice (some (.Constant (.int (k:Int)) j w)) none none n) pos) (AB te k):=
 ⟨fun _ _ _ k q=>l.mn _ _ _ (fun _ _ ⟨m,e,q⟩=>⟨m,e,k _ _ q⟩) q,(yW zb l.pe (yV ug) yU).imp fun Y H Q ⟨U,O,st,q⟩=>
  ⟨U,O,st,l.mn _ _ _ (fun d x ⟨m,e,o⟩ v y r f s t=>by
   subst e;obtain⟨a,g,rfl,u,hx⟩:=t.lst_inv;refine⟨(k:Int),rfl,a,g,rfl,.of (cY u).1,fun p i=>o _ _ r (f.grow (bX i)) (s.trans (.same (bX i))) (kY i (f.nofree p i) ?_)⟩;have:iG g (some (k:Int)) none=g.drop k:=by
    unfold iG;rw[HT.sIx_none,HT.sIx_nat]
    by_cases h:k<=g.length
    ·rw[Nat.min_eq_left h,List.take_of_length_le (by rw[List.length_drop];exact bH _)]
    ·rw[Nat.min_eq_right (by omega),List.drop_of_length_le (bH _),List.drop_of_length_le (by omega)];simp
   rw[this];exact hx.drop k) q⟩⟩
end
section
variable{X:Cx}{F:Fx}{a b c e:Expr}{te:DT}{tA:dY}{pos p p1 p2 pos2:Pos}{x:Str}{i:Nat}
noncomputable def AC(i:Nat):DT:=fun U Q=>∃d,U[i]? = some (some (.scr d))/\(d.length<=63->Q (.int d.length) U)
theorem AD(j:Gl X "len")(l:X.mg "len" = none)(h:PE X (.Name x p1) (bU i))(g:starEach [.Name x p1] X.env=(false,eval (.Name x p1) X.env)::starEach [] X.env:=by rfl)(d:(backTo pos (starEach [] X.env)).any (·.1)=false:=by rfl) :
  DE X F (.Call (.Name "len" p) [.Name x p1] [] pos) (AC i):=
 ⟨fun _ _ _ k ⟨f,e,q⟩=>⟨f,e,fun h=>k _ _ (q h)⟩,(mi ig j l PySem.boot_len (ej h eQ g) (by decide) (by decide) g d).imp fun Y H Q ⟨U,O,st,f,e,q⟩=>by
  obtain⟨m,hv,hs⟩:=st.scr e;refine⟨_,hv,m,f.map V.int,rfl,.inl hs.sq,?_⟩;rw[List.length_map];exact q hs.1 _ H O st .refl (.int _)⟩
noncomputable def AE(i:Nat)(te:DT):DT:=fun U Q=>∃f,U[i]? = some (some (.scr f))/\te U fun d g=>∃k n,d=.int k/\bE f k=some n/\Q (.int n) g
theorem Kn{α β:Type}{g:α->β}{l:List α}{k:Int}{n:α}(h:bE l k=some n):bE (l.map g) k=some (g n):=by
 unfold bE at h ⊢;rw[List.length_map];cases q:cp l.length k with
 | none=>rw[q] at h;cases h
 | some j=>rw[q] at h;show(l.map g)[j]? = some (g n);rw[List.getElem?_map];have h:l[j]? = some n:=h;rw[h];rfl
theorem AF(h:PE X (.Name x p1) (bU i))(g:DE X F e te)(t:mj e):DE X F (.Subscript (.Name x p1) e pos) (AE i te):=
 ⟨fun _ _ _ k ⟨f,e,q⟩=>⟨f,e,g.mn _ _ _ (fun _ _ ⟨B,n,j,l,q⟩=>⟨B,n,j,l,k _ _ q⟩) q⟩,(qb qc h g.pe t).imp fun Y H Q ⟨U,O,st,f,e,q⟩=>by
  obtain⟨A,hv,t⟩:=st.scr e;refine⟨_,hv,U,O,st,g.mn _ _ _ (fun d G ⟨k,n,j,l,C⟩ w v D r y E=>?_) q⟩;subst j;have s:iI X.K v A f:=t.mono fun o u q=>y.keep _ _ (fun z=>by obtain⟨I,e,m⟩:=st.live _ z;rw[q] at e;cases e;exact m) q;exact⟨A,f.map V.int,k,.int n,rfl,E.int_inv,s.sq,Kn l,C _ v D r y (.int _)⟩⟩
noncomputable def Ko(K:Frag):R2:=fun x y H Q=>∃a b d,x=.ref a/\y=.ref b/\cN K H a (d.map V.int)/\H b=some (.lst [])/\Q (.bl (decide (d=[]))) H
theorem AG{h:Heap}:∀{d:List Int}{f:List Value},be (d.map V.int) f->∃as,ReadsAll h f (d.map PyData.int) as
 | [],_,r=>by cases r;exact⟨_,.nil⟩
 | n::d,_,r=>by
  cases r with
  | cons g r=>obtain⟨t,rfl⟩:=g;obtain⟨as,q⟩:=AG r;exact⟨_,.cons (.int n t) q⟩
theorem Kp(l:X.A.units+64<cLine):cH X (compareOp .Eq) (Ko X.K):=by
 intro g s Y H x y v u Q I m t h;obtain⟨a,b,d,rfl,rfl,h1,h2,q⟩:=h;cases m;cases t;obtain⟨w,z,⟨o,n,e,B,_,C⟩,L⟩:=I.list h1;obtain⟨_,j,M,f,D⟩:=I.hok _ _ h2;cases f;obtain⟨as,E⟩:=AG (h:=s.heap) z;have G:PyData.eqv (.list (d.map .int)) (.list [])=decide (d=[]):=by cases d<;>rfl
 refine eq_dataH (reads_list_at e B C (by simpa using E)) (reads_list_at (xs:=[]) D rfl rfl .nil) ?_ (by decide) l (by rw[G];exact⟨.bl _,H,I,rfl,q⟩);unfold SeqAt.shaped;have J:PyData.canLay0 (.list (d.map .int))=true:=by
  have:∀d:List Int,PyData.canLayAll0 (d.map .int)=true:=fun d=>by
   induction d with
   | nil=>rfl
   | cons n r k=>rw[List.map_cons];simp only[PyData.canLayAll0,PyData.canLay0,k,Bool.and_self]
  simp only[PyData.canLay0,this]
 have dp:PyData.depth (.list (d.map .int))<=64:=by
  have:∀d:List Int,PyData.depthAll (d.map .int)<=1:=fun d=>by
   induction d with
   | nil=>simp[PyData.depthAll]
   | cons n r k=>rw[List.map_cons];simp only[PyData.depthAll,PyData.depth];omega
  have:=this d;simp only[PyData.depth];omega
 rw[J,Bool.true_and];exact decide_eq_true dp
noncomputable def AH(i:Nat):dh:=fun U Q=>∃d,U[i]? = some (some (.scr d))/\Q (decide (d=[])) U
theorem Kq{g:Pos}(j:X.A.units+64<cLine)(h:PE X (.Name x p1) (bU i)):DB X F (.Compare (.Name x p1) [.Eq] [.List [] g] pos) (AH i):=
 ⟨fun _ _ _ k ⟨f,e,q⟩=>⟨f,e,k _ _ q⟩,(yz (Kp j) h (pZ eQ) (bv _)).imp fun Y H Q ⟨U,O,st,f,e,q⟩=>by
  obtain⟨l,hv,hs⟩:=st.scr e;refine⟨_,hv,Nat.zero_le _,fun p d=>⟨l,p,f,rfl,rfl,(bX d).seq hs.sq,cj,_,rfl,q _ O (st.grow (bX d)) (.same (bX d))⟩⟩⟩
end
structure FD (K:Frag) (mg:Str->Option Value) (x:Str) (st:Stmt) (ps:List Str) (g:Addr) (fd:FuncData):Prop where
 fn:kU K x x st g fd
 mgf:mg x=some (.ref g)
 b:gP K fd ps []
section
variable{X:Cx}{scope:Scope}{own capN:List Str}{caps:List Nat}
theorem az.of(h1:scope.kind=.function:=by rfl)(h2:(scope.names.all fun y=>scope.names.lookup y.1==some y.2)=true:=by rfl)
  (h3:(scope.names.all fun y=>y.2 != .free||(X.env.kindOf y.1==some .cell||X.env.kindOf y.1==some .free))=true:=by rfl)
  (h4:(scope.names.all fun y=>y.2 != .local||scope.names.lookup y.1==some .local)=true:=by rfl) (h5:caps.map (fun j=>X.N[j]?)=capN.map some:=by rfl)
  (h6:(capN.all fun x=>scope.names.lookup x==some .free)=true:=by rfl):az X scope own capN caps where
 kind:=h1
 one:=fun y hy=>eq_of_beq (List.all_eq_true.mp h2 y hy)
 free:=fun y hy e=>by
  have:=List.all_eq_true.mp h3 y hy;rw[e] at this;rw[Bool.or_eq_true] at this;rcases this with z | z
  ·exact absurd z (by decide)
  ·rw[Bool.or_eq_true] at z;exact z.imp (fun z=>eq_of_beq z) fun z=>eq_of_beq z
 loc:=fun y hy e=>by
  have:=List.all_eq_true.mp h4 y hy;rw[e] at this;rw[Bool.or_eq_true] at this;rcases this with z | z
  ·exact absurd z (by decide)
  ·exact eq_of_beq z
 caps:=h5
 capf:=fun x hx=>eq_of_beq (List.all_eq_true.mp h6 x hx)
end
section
variable{X:Cx}{F:Fx}{a b c e:Expr}{ta tb tc:DT}{pos:Pos}
noncomputable abbrev qI(g:Int->Int->Int):D2:=fI (fun _ _=>True) fun i j=>.int (g i j)
noncomputable abbrev qB(g:Int->Int->Bool):D2:=fI (fun _ _=>True) fun i j=>.bool (g i j)
theorem Kr(d:DE X F a ta)(f:DE X F b tb):DE X F (.BinOp a .Add b pos) (cI (qI fun i j=>i+j) ta tb):=kX Ga (jQ fun _ _ _=>.int _) d f
theorem Ks(d:DE X F a ta)(f:DE X F b tb):DE X F (.BinOp a .Sub b pos) (cI (qI fun i j=>i - j) ta tb):=kX Gb (jQ fun _ _ _=>.int _) d f
theorem Kt(d:DE X F a ta)(f:DE X F b tb):DE X F (.BinOp a .Mult b pos) (cI (fI nH fun i j=>.int (i * j)) ta tb):=kX Gc (uR fun _ _ _=>.int _) d f
theorem Ku(d:DE X F a ta)(f:DE X F b tb):DE X F (.BinOp a .FloorDiv b pos) (cI (fI ux fun i j=>.int (i / j)) ta tb):=kX Gd (uR fun _ _ _=>.int _) d f
theorem Kv(d:DE X F a ta)(f:DE X F b tb):DE X F (.BinOp a .Mod b pos) (cI (fI (fun _ j=>0<j) fun i j=>.int (i % j)) ta tb):=kX Ge (uR fun _ _ _=>.int _) d f
theorem Kw(d:DE X F a ta)(f:DE X F b tb):DE X F (.BinOp a .Add b pos) (cI uT ta tb):=kX Hs Iw d f
theorem Kx(d:DE X F a ta)(f:DE X F b tb):DE X F (.Compare a [.Lt] [b] pos) (cI (qB fun i j=>decide (i<j)) ta tb):=jP yv (jQ fun _ _ _=>.bl _) d f (bv _)
theorem Ky(d:DE X F a ta)(f:DE X F b tb):DE X F (.Compare a [.LtE] [b] pos) (cI (qB fun i j=>decide (i<=j)) ta tb):=jP pW (jQ fun _ _ _=>.bl _) d f (bv _)
theorem Kz(d:DE X F a ta)(f:DE X F b tb):DE X F (.Compare a [.Gt] [b] pos) (cI (qB fun i j=>decide (j<i)) ta tb):=jP yw (jQ fun _ _ _=>.bl _) d f (bv _)
theorem KA(d:DE X F a ta)(f:DE X F b tb):DB X F (.Compare a [.Lt] [b] pos) (fO (cI (qB fun i j=>decide (i<j)) ta tb)):=jU yv (jQ fun _ _ _=>.bl _) d f (bv _)
theorem KB(d:DE X F a ta)(f:DE X F b tb):DB X F (.Compare a [.LtE] [b] pos) (fO (cI (qB fun i j=>decide (i<=j)) ta tb)):=jU pW (jQ fun _ _ _=>.bl _) d f (bv _)
theorem KC(d:DE X F a ta)(f:DE X F b tb):DB X F (.Compare a [.Gt] [b] pos) (fO (cI (qB fun i j=>decide (j<i)) ta tb)):=jU yw (jQ fun _ _ _=>.bl _) d f (bv _)
theorem KD(d:X.A.units+64<cLine)(f:DE X F a ta)(g:DE X F b tb):DE X F (.Compare a [.Eq] [b] pos) (cI (mw false) ta tb):=jP (zL d) qp f g (bv _)
theorem KE(d:X.A.units+64<cLine)(f:DE X F a ta)(g:DE X F b tb):DE X F (.Compare a [.NotEq] [b] pos) (cI (mw true) ta tb):=jP (zM d) qp f g (bv _)
theorem KG(d:X.A.units+64<cLine)(f:DE X F a ta)(g:DE X F b tb):DB X F (.Compare a [.Eq] [b] pos) (fO (cI (mw false) ta tb)):=jU (zL d) qp f g (bv _)
theorem KH(d:X.A.units+64<cLine)(f:DE X F a ta)(g:DE X F b tb):DB X F (.Compare a [.NotEq] [b] pos) (fO (cI (mw true) ta tb)):=jU (zM d) qp f g (bv _)
theorem KJ(d:DE X F a ta)(f:DE X F b tb):DE X F (.Compare a [.Is] [b] pos) (cI qr ta tb):=jP yx zQ d f (bv _)
theorem KL(d:DE X F a ta)(f:DE X F b tb):DB X F (.Compare a [.Is] [b] pos) (fO (cI qr ta tb)):=jU yx zQ d f (bv _)
theorem KM(d:DE X F a ta)(f:DE X F b tb):DB X F (.Compare a [.IsNot] [b] pos) (fO (cI uS ta tb)):=jU yy zR d f (bv _)
theorem KN(d:DE X F a ta)(h:DE X F b tb)(f:DE X F c tc)(g:lastMarks [.LtE,.LtE] [b,c]=false:=by with_unfolding_all rfl):DE X F (.Compare a [.LtE,.LtE] [b,c] pos) (uU (fun i j=>decide (i<=j)) (fun i j=>decide (i<=j)) ta tb tc):=IQ pW pW d h f g
theorem ea{x:Str}{i:Int}{t:Tok}(d:Gl X x)(f:X.mg x=some (.int i t))(hd:(x==("__debug__":Str))=false:=by decide):DE X F (.Name x pos) (dC (.int i)):=nQ (v:=.int i) (yl d f ⟨t,rfl⟩ hd) fun _=>.int i
mutual
theorem AI:∀(d:PyData),d.canLay0=true->PyData.eqv d d=true
 | .none,_=>rfl
 | .bool b,_=>by simp[PyData.eqv]
 | .int i,_=>by simp[PyData.eqv]
 | .str s,_=>by simp[PyData.eqv]
 | .list xs,h=>by rw[PyData.eqv];exact vf xs (by simpa[PyData.canLay0] using h)
 | .tuple xs,h=>by rw[PyData.eqv];exact vf xs (by simpa[PyData.canLay0] using h)
 | .dict kvs,h=>by simp[PyData.canLay0] at h
theorem vf:∀(ds:List PyData),PyData.canLayAll0 ds=true->PyData.eqvAll ds ds=true
 | [],_=>rfl
 | x::xs,h=>by simp only[PyData.canLayAll0,Bool.and_eq_true] at h;rw[PyData.eqvAll,AI x h.1,vf xs h.2];rfl
end
theorem AJ{d:PyData}(h:SeqAt.shaped d=true):PyData.eqv d d=true:=AI d (SeqAt.canLay_of_shaped h)
end
section
variable{X:Cx}{F:Fx}{a b:Expr}{ta tb:DT}{pos:Pos}{q:PyData->Prop}
noncomputable def vg:D2:=fun x y Q=>∃c k,x=.list c/\y=.int k/\(-(2 ^ 63)<=k/\k<2 ^ 63/\c.length * k.toNat<=sizeLine)/\Q (.list (List.replicate k.toNat c).flatten)
theorem AK{H:Hp}{c:List V}{d:List PyData}(r:aK H c d):∀k:Nat,aK H (List.replicate k c).flatten (List.replicate k d).flatten
 | 0=>.nil
 | k+1=>by rw[List.replicate_succ,List.replicate_succ,List.flatten_cons,List.flatten_cons];exact r.append (AK r k)
theorem KO:eJ zl vg where
 mn:=fun _ _ _ _ k ⟨ds,n,e1,e2,e3,q⟩=>⟨ds,n,e1,e2,e3,k _ q⟩
 ok:=fun O H u v x y Q hO h1 h2 ⟨ds,k,e1,e2,⟨e3,e4,e5⟩,q⟩=>by subst e1 e2;obtain⟨a,xs,rfl,ha,hd⟩:=h1.lst_inv;refine⟨a,k,xs,rfl,h2.int_inv,(cY ha).1,e3,e4,by rw[hd.length];exact e5,fun p hp=>q _ _ (bX hp) (kY hp (hO p hp) (AK hd _))⟩
theorem KP(c:DE X F a ta)(d:DE X F b tb):DE X F (.BinOp a .Mult b pos) (cI vg ta tb):=kX zm KO c d
end
inductive gk (α:Type) where
 | ok (a:α) (U:ai) | ex (c:Str) (U:ai) | bad
@[simp] noncomputable def gk.bind{α β:Type}(o:gk α)(k:α->ai->gk β):gk β:=match o with
 | .ok a U=>k a U
 | .ex c U=>.ex c U
 | .bad=>.bad
@[simp] noncomputable def lift{α:Type}(o:Option α)(U:ai):gk α:=match o with
 | some a=>.ok a U
 | none=>.bad
noncomputable abbrev XM(α:Type):=ai->gk α
noncomputable def wp{α:Type}(E:Str->ai->Prop)(m:XM α):ai->(α->ai->Prop)->Prop:=fun U Q=>match m U with
 | .ok a b=>Q a b
 | .ex c b=>E c b
 | .bad=>False
section
variable{α β:Type}{E:Str->ai->Prop}
theorem aH{m:XM α}:∀U (Q e:α->ai->Prop),(∀d b,Q d b->e d b)->wp E m U Q->wp E m U e:=fun U Q e k q=>by
 unfold wp at q ⊢;generalize m U=o at q ⊢;cases o with
 | ok a b=>exact k _ _ q
 | ex c b=>exact q
 | bad=>exact q
theorem bO{m:XM α}{k:α->XM β}{U:ai}{Q:β->ai->Prop}(h:wp E (fun U=>(m U).bind k) U Q):wp E m U fun a b=>wp E (k a) b Q:=by
 unfold wp at h ⊢;unfold gk.bind at h;simp only at h;generalize m U=o at h ⊢;cases o with
 | ok a b=>exact h
 | ex c b=>exact h
 | bad=>exact h
theorem cZ{o:Option α}{U:ai}{Q:α->ai->Prop}(h:wp E (lift o) U Q):∃a,o=some a/\Q a U:=by
 unfold wp lift at h;cases o with
 | some a=>exact⟨a,rfl,h⟩
 | none=>exact h.elim
end
section
variable{X:Cx}{F:Fx}{E:Str->ai->Prop}{e a b c:Expr}{es:List Expr}{pos:Pos}
theorem DE.imp{t t':DT}(h:DE X F e t)(d:Mn t')(k:∀U Q,t' U Q->t U Q):DE X F e t':=⟨d,h.pe.imp fun Y H Q ⟨U,O,st,q⟩=>⟨U,O,st,k U _ q⟩⟩
theorem DO.imp{t t':gU}(h:DO X F e t)(d:Aj t')(k:∀U Q,t' U Q->t U Q):DO X F e t':=⟨d,h.pe.imp fun Y H Q ⟨U,O,st,q⟩=>⟨U,O,st,k U _ q⟩⟩
theorem DA.imp{t t':dY}(h:DA X F es t)(d:qt t')(k:∀U Q,t' U Q->t U Q):DA X F es t':=⟨d,h.pa.imp fun Y H Q ⟨U,O,st,q⟩=>⟨U,O,st,k U _ q⟩⟩
theorem DX.imp{t t':gB}(h:DX X F es t)(d:Am t')(k:∀U Q,t' U Q->t U Q):DX X F es t':=⟨d,h.pa.imp fun Y H Q ⟨U,O,st,q⟩=>⟨U,O,st,k U _ q⟩⟩
theorem DB.imp{t t':dh}(h:DB X F e t)(d:jT t')(k:∀U Q,t' U Q->t U Q):DB X F e t':=⟨d,h.pt.imp fun Y H Q ⟨U,O,st,q⟩=>⟨U,O,st,k U _ q⟩⟩
theorem DW.imp{t t':dh}(h:DW X F e t)(d:jT t')(k:∀U Q,t' U Q->t U Q):DW X F e t':=⟨d,h.pw.imp fun Y H Q ⟨U,O,st,q⟩=>⟨U,O,st,k U _ q⟩⟩
theorem gz.imp{d:List Stmt}{t t':em}(h:gz X F d t)(k:∀D U,t' D U->t D U):gz X F d t':=PSs.imp h fun D Y H ⟨U,O,g,st,q,f⟩=>⟨U,O,g,st,k g U q,f⟩
theorem DS.imp{s:Stmt}{t t':em}(h:DS X F s t)(k:∀D U,t' D U->t D U):DS X F s t':=PS.imp h fun D Y H ⟨U,O,d,st,q,f⟩=>⟨U,O,d,st,k d U q,f⟩
abbrev FE(X:Cx)(F:Fx)(E:Str->ai->Prop)(e:Expr)(m:XM PyData):Prop:=DE X F e (wp E m)
abbrev FO(X:Cx)(F:Fx)(E:Str->ai->Prop)(e:Expr)(m:XM ag):Prop:=DO X F e (wp E m)
abbrev FB(X:Cx)(F:Fx)(E:Str->ai->Prop)(e:Expr)(m:XM Bool):Prop:=DB X F e (wp E m)
abbrev FW(X:Cx)(F:Fx)(E:Str->ai->Prop)(e:Expr)(m:XM Bool):Prop:=DW X F e (wp E m)
abbrev FA(X:Cx)(F:Fx)(E:Str->ai->Prop)(es:List Expr)(m:XM (List PyData)):Prop:=DA X F es (wp E m)
abbrev FX(X:Cx)(F:Fx)(E:Str->ai->Prop)(es:List Expr)(m:XM (List AX)):Prop:=DX X F es (wp E m)
abbrev FI(X:Cx)(F:Fx)(E:Str->ai->Prop)(d iter:Expr)(m:XM (List PyData)):Prop:=DI X F d iter (wp E m)
noncomputable abbrev GM:=PyData->ai->Option ai
noncomputable def fR(g:GM):fP:=fun d U Q=>match g d U with
 | some f=>Q f
 | none=>False
abbrev FG(X:Cx)(F:Fx)(d:Expr)(g:GM):Prop:=DG X F d (fR g)
abbrev FS(X:Cx)(F:Fx)(E:Str->ai->Prop)(s:Stmt)(m:SM):Prop:=DS X F s (cg E m)
abbrev jq(X:Cx)(F:Fx)(E:Str->ai->Prop)(s:List Stmt)(m:SM):Prop:=gz X F s (cg E m)
@[simp] noncomputable def xC(d:PyData):XM PyData:=fun U=>.ok d U
@[simp] noncomputable def xV(i:Nat):XM PyData:=fun U=>match U[i]? with
 | some (some (.dat d))=>.ok d U
 | some (some (.own false (.l ds)))=>.ok (.list ds) (U.set i (some (.dat (.list ds))))
 | _=>.bad
theorem ae{d:PyData}(h:DE X F e (dC d)):FE X F E e (xC d):=h.imp aH fun _ _ q=>q
theorem KQ{i:Nat}(h:DE X F e (dV i)):FE X F E e (xV i):=h.imp aH fun U Q q=>by
 unfold wp xV at q;unfold dV;cases h:U[i]? with
 | none=>rw[h] at q;exact q.elim
 | some o=>
  rw[h] at q;cases o with
  | none=>exact q.elim
  | some c=>
   cases c with
   | dat d=>exact .inl ⟨d,rfl,q⟩
   | scr n=>exact q.elim
   | exc n=>exact q.elim
   | vw n=>exact q.elim
   | own io f=>
    cases io with
    | true=>exact q.elim
    | false=>
     cases f with
     | l ds=>exact .inr ⟨ds,rfl,q⟩
     | m _ _=>exact q.elim
     | o _ _=>exact q.elim
     | sd _=>exact q.elim
     | ll _=>exact q.elim
     | pr _ _ _=>exact q.elim
@[simp] noncomputable def af(g:PyData->PyData->Option PyData)(a b:XM PyData):XM PyData:=fun U=>(a U).bind fun x d=>(b d).bind fun y=>lift (g x y)
def F2(f:D2)(g:PyData->PyData->Option PyData):Prop:=∀x y d Q,g x y=some d->Q d->f x y Q
theorem fo{f:D2}{g:PyData->PyData->Option PyData}{i j:XM PyData}(k:F2 f g)(h:DE X F e (cI f (wp E i) (wp E j))):FE X F E e (af g i j):=h.imp aH fun U Q q=>by refine aH _ _ _ (fun x p l=>?_) (bO q);refine aH _ _ _ (fun y r m=>?_) (bO l);obtain⟨d,n,o⟩:=cZ m;exact k x y d _ n o
@[simp] noncomputable def aJ(m:XM PyData):XM Bool:=fun U=>(m U).bind fun d=>lift (match d with | .bool b=>some b | _=>none)
theorem AL{U:ai}{Q:Bool->ai->Prop}{m:XM PyData}(q:wp E (aJ m) U Q):fO (wp E m) U Q:=aH _ _ _ (fun d i g=>by
 obtain⟨b,f,h⟩:=cZ g;cases d with
 | bool j=>cases f;exact⟨_,rfl,h⟩
 | _=>cases f) (bO q)
theorem jY{f:D2}{g:PyData->PyData->Option PyData}{i j:XM PyData}(k:F2 f g)(h:DB X F e (fO (cI f (wp E i) (wp E j)))):FB X F E e (aJ (af g i j)):=h.imp aH fun U Q q=>by have l:=AL q;refine aH _ _ _ (fun x r m=>?_) (bO l);refine aH _ _ _ (fun y s n=>?_) (bO m);obtain⟨d,o,p⟩:=cZ n;exact k x y d _ o p
theorem cR{m:XM PyData}(h:DB X F e (fO (wp E m))):FB X F E e (aJ m):=h.imp aH fun U Q q=>AL q
@[simp] noncomputable def gI(g:Int->Int->PyData):PyData->PyData->Option PyData:=fun x y=>match x,y with
 | .int i,.int j=>some (g i j)
 | _,_=>none
@[simp] noncomputable def oi(C:Int->Int->Bool)(g:Int->Int->PyData):PyData->PyData->Option PyData:=fun x y=>match x,y with
 | .int i,.int j=>if C i j=true then some (g i j) else none
 | _,_=>none
theorem jZ{g:Int->Int->PyData}:F2 (fI (fun _ _=>True) g) (gI g):=fun x y d Q e q=>by
 unfold gI at e;split at e
 ·cases e;exact⟨_,_,rfl,rfl,trivial,q⟩
 ·cases e
theorem vh{C:Int->Int->Bool}{P:Int->Int->Prop}{g:Int->Int->PyData}(h:∀i j,C i j=true->P i j):F2 (fI P g) (oi C g):=fun x y d Q e q=>by
 unfold oi at e;split at e
 ·split at e
  ·rename_i f;cases e;exact⟨_,_,rfl,rfl,h _ _ f,q⟩
  ·cases e
 ·cases e
noncomputable def ka(i j:Int):Bool:=(decide (-(2 ^ 64)<i)&&decide (i<2 ^ 64))||(decide (-(2 ^ 64)<j)&&decide (j<2 ^ 64))
noncomputable def qE(_ j:Int):Bool:=decide (0<j)&&decide (j<1073741824)
noncomputable def my(_ j:Int):Bool:=decide (0<j)
theorem KR(i j:Int)(h:ka i j=true):nH i j:=by unfold ka at h;simp only[Bool.or_eq_true,Bool.and_eq_true,decide_eq_true_eq] at h;exact h
theorem KS(i j:Int)(h:qE i j=true):ux i j:=by unfold qE at h;simp only[Bool.and_eq_true,decide_eq_true_eq] at h;exact h
theorem KU(i j:Int)(h:my i j=true):0<j:=by unfold my at h;simpa using h
noncomputable def aE(neg:Bool):PyData->PyData->Option PyData:=fun x y=>if (SeqAt.shaped x&&SeqAt.shaped y)=true then some (.bool (PyData.eqv x y != neg)) else none
theorem qF{neg:Bool}:F2 (mw neg) (aE neg):=fun x y d Q e q=>by
 unfold aE at e;split at e
 ·rename_i h;cases e;exact⟨(Bool.and_eq_true_iff.mp h).1,(Bool.and_eq_true_iff.mp h).2,q⟩
 ·cases e
@[simp] noncomputable def jr:PyData->PyData->Option PyData:=fun x y=>match y with | .none=>some (.bool (isNone x)) | _=>none
@[simp] noncomputable def fq:PyData->PyData->Option PyData:=fun x y=>match y with | .none=>some (.bool (!isNone x)) | _=>none
theorem AM:F2 qr jr:=fun x y d Q e q=>by
 unfold jr at e;split at e
 ·cases e;exact⟨rfl,q⟩
 ·cases e
theorem AN:F2 uS fq:=fun x y d Q e q=>by
 unfold fq at e;split at e
 ·cases e;exact⟨rfl,q⟩
 ·cases e
@[simp] noncomputable def mz:PyData->PyData->Option PyData:=fun x y=>match x,y with
 | .list ds,.list es=>if ds.length+es.length<=sizeLine then some (.list (ds++es)) else none
 | _,_=>none
theorem KW:F2 uT mz:=fun x y d Q e q=>by
 unfold mz at e;split at e
 ·split at e
  ·rename_i h;cases e;exact⟨_,_,rfl,rfl,h,q⟩
  ·cases e
 ·cases e
@[simp] noncomputable def kb:PyData->PyData->Option PyData:=fun x y=>match x,y with
 | .list ds,.int k=>if (decide (-(2 ^ 63)<=k)&&decide (k<2 ^ 63)&&decide (ds.length * k.toNat<=sizeLine))=true then some (.list (List.replicate k.toNat ds).flatten) else none
 | _,_=>none
theorem KY:F2 vg kb:=fun x y d Q e q=>by
 unfold kb at e;split at e
 ·split at e
  ·rename_i h;cases e;simp only[Bool.and_eq_true,decide_eq_true_eq] at h;exact⟨_,_,rfl,rfl,⟨h.1.1,h.1.2,h.2⟩,q⟩
  ·cases e
 ·cases e
@[simp] noncomputable def gV(a:XM PyData):XM PyData:=fun U=>(a U).bind fun d=>lift (match d with | .int i=>some (.int (-i)) | _=>none)
theorem oj{f:XM PyData}(h:FE X F E a f):FE X F E (.UnaryOp .USub a pos) (gV f):=(IG h).imp aH fun U Q q=>aH _ _ _ (fun d l j=>by
 obtain⟨y,g,k⟩:=cZ j;cases d with
 | int i=>cases g;exact⟨i,rfl,k⟩
 | _=>cases g) (bO q)
@[simp] noncomputable def AO(a:XM PyData):XM PyData:=fun U=>(a U).bind fun d=>lift (match d with | .bool b=>some (.bool (!b)) | _=>none)
theorem KZ{f:XM PyData}(h:FE X F E a f):FE X F E (.UnaryOp .Not a pos) (AO f):=(II h).imp aH fun U Q q=>aH _ _ _ (fun d k i=>by
 obtain⟨y,g,j⟩:=cZ i;cases d with
 | bool b=>cases g;exact⟨b,rfl,j⟩
 | _=>cases g) (bO q)
@[simp] noncomputable def AQ(b:XM PyData)(d:PyData):XM PyData:=fun f=>match d with
 | .bool true=>b f
 | .bool false=>.ok (.bool false) f
 | _=>.bad
@[simp] noncomputable def AR(b:XM PyData)(d:PyData):XM PyData:=fun f=>match d with
 | .bool true=>.ok (.bool true) f
 | .bool false=>b f
 | _=>.bad
@[simp] noncomputable def ed(a b:XM PyData):XM PyData:=fun U=>(a U).bind (AQ b)
@[simp] noncomputable def vi(a b:XM PyData):XM PyData:=fun U=>(a U).bind (AR b)
theorem eK{rest:List Expr}{h f:XM PyData}(i:FE X F E a h)(j:FE X F E (.BoolOp .And (b::rest) pos) f):FE X F E (.BoolOp .And (a::b::rest) pos) (ed h f):=(IM i j).imp aH fun U Q q=>aH _ _ _ (fun d l g=>by
 cases d with
 | bool b=>cases b with
  | true=>exact⟨true,rfl,fj g⟩
  | false=>exact⟨false,rfl,fi g⟩
 | _=>exact g.elim) (bO (k:=AQ f) q)
theorem AS{rest:List Expr}{h f:XM PyData}(i:FE X F E a h)(j:FE X F E (.BoolOp .Or (b::rest) pos) f):FE X F E (.BoolOp .Or (a::b::rest) pos) (vi h f):=(IP i j).imp aH fun U Q q=>aH _ _ _ (fun d l g=>by
 cases d with
 | bool b=>cases b with
  | true=>exact⟨true,rfl,fj g⟩
  | false=>exact⟨false,rfl,fi g⟩
 | _=>exact g.elim) (bO (k:=AR f) q)
theorem fS{op}{d:XM PyData}(h:FE X F E a d):FE X F E (.BoolOp op [a] pos) d:=IL h
@[simp] noncomputable def vj(p f:Int->Int->Bool)(a b c:XM PyData):XM PyData:=fun U=>(a U).bind fun x g=>(b g).bind fun y d=>match x,y with
 | .int i,.int j=>if p i j=true then(c d).bind (fun z=>lift (match z with | .int k=>some (.bool (f j k)) | _=>none)) else .ok (.bool false) d
 | _,_=>.bad
theorem La{p l:Int->Int->Bool}{o r n:XM PyData}(h:DE X F e (uU p l (wp E o) (wp E r) (wp E n))):FE X F E e (vj p l o r n):=h.imp aH fun U Q q=>by
 refine aH _ _ _ (fun x w t=>?_) (bO q);refine aH _ _ _ (fun y A f=>?_) (bO t);unfold wp at f;cases x with
 | int i=>cases y with
  | int j=>
   refine⟨i,j,rfl,rfl,?_⟩
   by_cases g:p i j=true
   ·simp only[if_pos g] at f;rw[if_pos g];refine aH _ _ _ (fun z B u=>?_) (bO (m:=n) (k:=fun z=>lift (match z with | .int k=>some (PyData.bool (l j k)) | _=>none)) f);obtain⟨d,s,v⟩:=cZ u;cases z with
    | int k=>cases s;exact⟨k,rfl,v⟩
    | _=>cases s
   ·simp only[if_neg g] at f;rw[if_neg g];exact f
  | _=>exact f.elim
 | _=>exact f.elim
@[simp] noncomputable def da(a:XM Bool):XM Bool:=fun U=>(a U).bind fun b d=>.ok (!b) d
theorem ee{f:XM Bool}(h:FB X F E a f):FB X F E (.UnaryOp .Not a pos) (da f):=(IS h).imp aH fun U Q q=>aH _ _ _ (fun d g i=>i) (bO (k:=fun b g=>.ok (!b) g) q)
@[simp] noncomputable def kc(a b:XM Bool):XM Bool:=fun U=>(a U).bind fun x d=>if x=true then b d else .ok false d
@[simp] noncomputable def dA(a b:XM Bool):XM Bool:=fun U=>(a U).bind fun x d=>if x=true then .ok true d else b d
theorem qG{d:XM Bool}(h:FB X F E a d):FW X F E (.BoolOp .And [a] pos) d:=IV h
theorem gW{d:XM Bool}(h:FB X F E a d):FW X F E (.BoolOp .Or [a] pos) d:=IW h
theorem qH{rest:List Expr}{h f:XM Bool}(j:FB X F E a h)(l:FW X F E (.BoolOp .And (b::rest) pos) f):FW X F E (.BoolOp .And (a::b::rest) pos) (kc h f):=(IX j l).imp aH fun U Q q=>aH _ _ _ (fun d g i=>by
 cases d with
 | true=>exact fj i
 | false=>exact fi i) (bO (k:=fun x g=>if x=true then f g else .ok false g) q)
theorem gl{rest:List Expr}{h f:XM Bool}(j:FB X F E a h)(l:FW X F E (.BoolOp .Or (b::rest) pos) f):FW X F E (.BoolOp .Or (a::b::rest) pos) (dA h f):=(IY j l).imp aH fun U Q q=>aH _ _ _ (fun d g i=>by
 cases d with
 | true=>exact fj i
 | false=>exact fi i) (bO (k:=fun x g=>if x=true then .ok true g else f g) q)
theorem fr{d:XM Bool}(h:FW X F E e d):FB X F E e d:=h.db
@[simp] noncomputable def qJ{α:Type}(t:XM Bool)(a b:XM α):XM α:=fun U=>(t U).bind fun x d=>if x=true then a d else b d
theorem vk{mt:XM Bool}{f g:XM PyData}(j:FB X F E c mt)(l:FE X F E a f)(m:FE X F E b g):FE X F E (.IfExp c a b pos) (qJ mt f g):=(Ja j l m).imp aH fun U Q q=>aH _ _ _ (fun d h i=>by
 cases d with
 | true=>exact fj i
 | false=>exact fi i) (bO (k:=fun x h=>if x=true then f h else g h) q)
@[simp] noncomputable def aL:XM (List PyData):=fun U=>.ok [] U
@[simp] noncomputable def aj(a:XM PyData)(r:XM (List PyData)):XM (List PyData):=fun U=>(a U).bind fun d f=>(r f).bind fun h g=>.ok (d::h) g
theorem bn:FA X F E [] aL:=Iz.imp aH fun _ _ q=>q
theorem Lb{i:XM PyData}{h:XM (List PyData)}(l:FE X F E e i)(m:FA X F E es h)(p:starEach (e::es) X.env=(false,eval e X.env)::starEach es X.env:=by rfl):FA X F E (e::es) (aj i h):=(IA l m p).imp aH fun U Q q=>aH _ _ _ (fun d j n=>aH _ _ _ (fun g f o=>o) (bO (k:=fun g f=>.ok (d::g) f) n)) (bO (k:=fun d j=>(h j).bind fun g f=>.ok (d::g) f) q)
@[simp] noncomputable def bY(a:XM (List PyData)):XM PyData:=fun U=>(a U).bind fun d=>lift (if d.length<=sizeLine then some (.tuple d) else none)
@[simp] noncomputable def ef(a:XM (List PyData)):XM PyData:=fun U=>(a U).bind fun d=>lift (if d.length<=sizeLine then some (.list d) else none)
theorem cS{i}{g:XM (List PyData)}(h:FA X F E es g):FE X F E (.Tuple es i pos) (bY g):=(ID h).imp aH fun U Q q=>aH _ _ _ (fun m l j=>by
 obtain⟨d,f,k⟩:=cZ j;split at f
 ·rename_i h;cases f;exact⟨h,k⟩
 ·cases f) (bO q)
theorem ft{g:XM (List PyData)}(h:FA X F E es g):FE X F E (.List es pos) (ef g):=(IE h).imp aH fun U Q q=>aH _ _ _ (fun l k i=>by
 obtain⟨d,f,j⟩:=cZ i;split at f
 ·rename_i h;cases f;exact⟨h,j⟩
 ·cases f) (bO q)
@[simp] noncomputable def cT(g:List PyData->Option PyData)(a:XM (List PyData)):XM PyData:=fun U=>(a U).bind fun d=>lift (g d)
def FN(f:DN)(g:List PyData->Option PyData):Prop:=∀h d Q,g h=some d->Q d->f h Q
theorem gm{f:DN}{g:List PyData->Option PyData}{i:XM (List PyData)}(j:FN f g)(h:DE X F e (nV f (wp E i))):FE X F E e (cT g i):=h.imp aH fun U Q q=>aH _ _ _ (fun n o k=>by
 obtain⟨d,l,m⟩:=cZ k;exact j n d _ l m) (bO q)
end
section
variable{X:Cx}{F:Fx}{E:Str->ai->Prop}{e a b c:Expr}{es:List Expr}{st:Stmt}{rest:List Stmt}{pos:Pos}{x:Str}
@[simp] noncomputable def dI:List PyData->Option PyData:=fun d=>match d with
 | [.list ds]=>some (.int ds.length)
 | [.tuple ds]=>some (.int ds.length)
 | _=>none
theorem jt:FN As dI:=fun f d Q e q=>by
 unfold dI at e;split at e
 ·cases e;exact⟨_,.inl rfl,q⟩
 ·cases e;exact⟨_,.inr rfl,q⟩
 ·cases e
@[simp] noncomputable def qK:List PyData->Option PyData:=fun d=>match d with
 | [.int i,.int j]=>some (.int (max i j))
 | _=>none
theorem AU:FN At qK:=fun f d Q e q=>by
 unfold qK at e;split at e
 ·cases e;exact⟨_,_,rfl,q⟩
 ·cases e
@[simp] noncomputable def qL:List PyData->Option PyData:=fun d=>match d with
 | [.list ds]=>some (.tuple ds)
 | [.tuple ds]=>some (.tuple ds)
 | _=>none
theorem AV:FN Av qL:=fun f d Q e q=>by
 unfold qL at e;split at e
 ·cases e;exact .inl ⟨_,rfl,q⟩
 ·cases e;exact .inr ⟨_,rfl,q⟩
 ·cases e
noncomputable def bools?:List PyData->Option (List Bool)
 | []=>some []
 | .bool i::r=>(bools? r).map (i::·)
 | _::_=>none
theorem AW:∀{g:List PyData}{f:List Bool},bools? g=some f->g=f.map .bool
 | [],_,e=>by cases e;rfl
 | d::r,f,e=>by
  cases d with
  | bool i=>
   cases q:bools? r with
   | none=>simp[bools?,q] at e
   | some l=>simp[bools?,q] at e;subst e;rw[AW q];rfl
  | _=>cases e
noncomputable def mB:List PyData->Option PyData:=fun d=>match d with
 | [.list ds]=>(bools? ds).map fun bs=>.bool (bs.all id)
 | _=>none
theorem Lc:FN Ax mB:=fun h d Q e q=>by
 unfold mB at e;split at e
 ·obtain⟨bs,f,g⟩:=Option.map_eq_some_iff.mp e;rw[AW f];subst g;exact⟨bs,rfl,q⟩
 ·cases e
@[simp] noncomputable def qM(i:Nat):XM PyData:=fun U=>match U[i]? with
 | some (some (.scr ns))=>if ns.length<=63 then .ok (.int ns.length) U else .bad
 | _=>.bad
@[simp] noncomputable def qN(i:Nat)(a:XM PyData):XM PyData:=fun U=>match U[i]? with
 | some (some (.scr ns))=>(a U).bind fun d=>lift (match d with | .int k=>(bE ns k).map .int | _=>none)
 | _=>.bad
@[simp] noncomputable def vl(i:Nat):XM Bool:=fun U=>match U[i]? with
 | some (some (.scr ns))=>.ok (decide (ns=[])) U
 | _=>.bad
theorem AY{i:Nat}(h:DE X F e (AC i)):FE X F E e (qM i):=h.imp aH fun U Q q=>by
 unfold wp qM at q;cases h:U[i]? with
 | none=>rw[h] at q;exact q.elim
 | some o=>
  rw[h] at q;cases o with
  | none=>exact q.elim
  | some c=>
   cases c with
   | scr ns=>
    simp only at q
    by_cases d:ns.length<=63
    ·rw[if_pos d] at q;exact⟨ns,h,fun _=>q⟩
    ·rw[if_neg d] at q;exact q.elim
   | _=>exact q.elim
theorem AZ{i:Nat}{f:XM PyData}(h:DE X F e (AE i (wp E f))):FE X F E e (qN i f):=h.imp aH fun U Q q=>by
 unfold wp qN at q;cases h:U[i]? with
 | none=>rw[h] at q;exact q.elim
 | some o=>
  rw[h] at q;cases o with
  | none=>exact q.elim
  | some c=>
   cases c with
   | scr ns=>
    refine⟨ns,h,aH _ _ _ (fun d s j=>?_) (bO (m:=f) (k:=fun d=>lift (match d with | .int k=>(bE ns k).map PyData.int | _=>none)) q)⟩;obtain⟨y,g,l⟩:=cZ j;cases d with
    | int k=>obtain⟨n,p,r⟩:=Option.map_eq_some_iff.mp g;subst r;exact⟨k,n,rfl,p,l⟩
    | _=>cases g
   | _=>exact q.elim
theorem Ld{i:Nat}(h:DB X F e (AH i)):FB X F E e (vl i):=h.imp aH fun U Q q=>by
 unfold wp vl at q;cases h:U[i]? with
 | none=>rw[h] at q;exact q.elim
 | some o=>
  rw[h] at q;cases o with
  | none=>exact q.elim
  | some c=>
   cases c with
   | scr ns=>exact⟨ns,h,q⟩
   | _=>exact q.elim
@[simp] noncomputable def aI(i:Nat):GM:=fun d U=>some (U.set i (some (.dat d)))
theorem Le{i:Nat}(h:DG X F e (gN i)):FG X F e (aI i):=⟨fun d U Q f k q=>k _ q,h.pg.imp fun v Y H Q ⟨U,O,d,st,hd,q⟩=>⟨U,O,d,st,hd,q⟩⟩
noncomputable abbrev ju:=List PyData->ai->Option ai
noncomputable def mC(g:ju):jX:=fun d U Q=>match g d U with
 | some f=>Q f
 | none=>False
abbrev qO(X:Cx)(F:Fx)(d:List Expr)(g:ju):Prop:=nX X F d (mC g)
@[simp] noncomputable def gX:ju:=fun d U=>match d with | []=>some U | _=>none
@[simp] noncomputable def cz(t:GM)(u:ju):ju:=fun g U=>match g with | d::r=>(t d U).bind fun f=>u r f | []=>none
theorem Lf{g:GM}:∀d U (Q f:ai->Prop),(∀h,Q h->f h)->fR g d U Q->fR g d U f:=fun d U Q f k q=>by
 unfold fR at q ⊢;generalize g d U=o at q ⊢;cases o with
 | some h=>exact k _ q
 | none=>exact q
theorem Ba{g:ju}:∀d U (Q f:ai->Prop),(∀h,Q h->f h)->mC g d U Q->mC g d U f:=fun d U Q f k q=>by
 unfold mC at q ⊢;generalize g d U=o at q ⊢;cases o with
 | some h=>exact k _ q
 | none=>exact q
theorem om:qO X F [] gX:=⟨Ba,Jp.pg.imp fun v Y H Q ⟨U,O,d,st,hd,q⟩=>⟨U,O,d,st,hd,by
 unfold mC gX at q;cases d with
 | nil=>exact⟨rfl,q⟩
 | cons _ _=>exact q.elim⟩⟩
theorem fT{g:GM}{f:ju}(i:FG X F e g)(j:qO X F es f)(k:(assignEach (e::es) X.env).map (·.2)=assign e X.env::(assignEach es X.env).map (·.2):=by rfl):qO X F (e::es) (cz g f):=⟨Ba,(Jq i j k).pg.imp fun v Y H Q ⟨U,O,d,st,hd,q⟩=>⟨U,O,d,st,hd,by
 unfold mC cz at q;cases d with
 | nil=>exact q.elim
 | cons d r=>
  refine⟨d,r,rfl,?_⟩;unfold fR;simp only at q;cases h:g d U with
  | none=>rw[h] at q;exact q
  | some l=>rw[h] at q;exact q⟩⟩
@[simp] noncomputable def gY(n:Nat)(t:ju):GM:=fun d U=>match d with | .tuple ds=>if ds.length=n then t ds U else none | _=>none
theorem on{k n:Nat}{i:ju}(j:X.calm=true)(h:qO X F es i)(l:(assignEach es X.env).length=n:=by rfl)(f:(assignEach es X.env).findIdx? (·.1)=none:=by rfl):FG X F (.Tuple es k pos) (gY n i):=⟨Lf,(Js j h l f).pg.imp fun v Y H Q ⟨U,O,d,st,hd,q⟩=>⟨U,O,d,st,hd,by
 unfold fR gY at q;cases d with
 | tuple ds=>
  simp only at q
  by_cases g:ds.length=n
  ·rw[if_pos g] at q;exact⟨ds,rfl,g,q⟩
  ·rw[if_neg g] at q;exact q.elim
 | _=>exact q.elim⟩⟩
@[simp] noncomputable def aF:XM (List AX):=fun U=>.ok [] U
@[simp] noncomputable def ao(a:XM PyData)(r:XM (List AX)):XM (List AX):=fun U=>(a U).bind fun d f=>(r f).bind fun as g=>.ok (.d d::as) g
@[simp] noncomputable def aS(j:Nat)(r:XM (List AX)):XM (List AX):=fun U=>match U[j]? with
 | some (some _)=>(r U).bind fun as d=>.ok (.s j::as) d
 | _=>.bad
theorem aM:FX X F E [] aF:=JO.imp aH fun _ _ q=>q
theorem Lg{g:XM PyData}{h:XM (List AX)}(j:FE X F E e g)(l:FX X F E es h)(p:starEach (e::es) X.env=(false,eval e X.env)::starEach es X.env:=by rfl):FX X F E (e::es) (ao g h):=(JP j l p).imp aH fun U Q q=>aH _ _ _ (fun d i n=>aH _ _ _ (fun r f o=>o) (bO (k:=fun as f=>gk.ok (AX.d d::as) f) n)) (bO (m:=g) (k:=fun d i=>(h i).bind fun as f=>gk.ok (AX.d d::as) f) q)
theorem Lh{p:Pos}{j:Nat}{d:XM (List AX)}(l:PE X (.Name x p) (bU j))(g:FX X F E es d)(n:starEach (.Name x p::es) X.env=(false,eval (.Name x p) X.env)::starEach es X.env:=by rfl):FX X F E (.Name x p::es) (aS j d):=(JQ l g n).imp aH fun U Q q=>by
 unfold wp aS at q;cases h:U[j]? with
 | none=>rw[h] at q;exact q.elim
 | some o=>
  rw[h] at q;cases o with
  | none=>exact q.elim
  | some c=>exact⟨⟨c,h⟩,aH _ _ _ (fun as f i=>i) (bO (m:=d) (k:=fun as f=>gk.ok (AX.s j::as) f) (show wp E (fun U=>(d U).bind fun as f=>gk.ok (AX.s j::as) f) U Q from q))⟩
@[simp] noncomputable def lg(f:FM)(as:List AX):XM ag:=fun U=>match gC U as with
 | some (h,g)=>(match f h with
  | .rt c d=>.ok c (eE g d (eX g U))
  | .ex c d=>.ex c (eE g d (eX g U))
  | .bad=>.bad)
 | none=>.bad
@[simp] noncomputable def aO(f:FM)(a:XM (List AX)):XM ag:=fun U=>(a U).bind (lg f)
theorem Bb{g:FM}{j:XM (List AX)}(h:DO X F e (uZ g E (wp E j))):FO X F E e (aO g j):=h.imp aH fun U Q q=>aH _ _ _ (fun as m d=>by
 unfold wp lg at d;unfold gi;cases l:gC m as with
 | none=>rw[l] at d;exact d
 | some p=>
  obtain⟨n,o⟩:=p;rw[l] at d;simp only at d ⊢;cases i:g n with
  | rt c f=>rw[i] at d;exact d
  | ex c f=>rw[i] at d;exact d
  | bad=>rw[i] at d;exact d) (bO (k:=lg g) q)
@[simp] noncomputable def aQ(a:XM ag):XM PyData:=fun U=>(a U).bind fun c=>lift (frz c)
theorem aZ{d:XM ag}(h:FO X F E e d):FE X F E e (aQ d):=h.de.imp aH fun U Q q=>aH _ _ _ (fun c g f=>cZ f) (bO q)
@[simp] noncomputable def bt:SM:=fun U=>.nx U
@[simp] noncomputable def av(m k:SM):SM:=fun U=>match m U with
 | .nx d=>k d
 | o=>o
theorem bL:jq X F E [] bt:=Jv.imp fun _ _ q=>q
theorem aD{m k:SM}(d:FS X F E st m)(f:jq X F E rest k):jq X F E (st::rest) (av m k):=(Jw d f).imp fun D U q=>by
 show cg E m _ U;unfold cg av at q;unfold cg;generalize m U=o at q ⊢;cases o with
 | nx g=>exact q
 | _=>exact q
theorem aG{m:SM}(h:FS X F E st m):jq X F E [st] m:=Jx h
@[simp] noncomputable def en{α:Type}(o:gk α)(k:α->ai->eW):eW:=match o with
 | .ok a U=>k a U
 | .ex c U=>.ex c U
 | .bad=>.bad
theorem fU{α:Type}{m:XM α}{k:α->SM}{D:el}{U:ai}(q:cg E (fun U=>en (m U) k) D U):wp E m U fun a d=>cg E (k a) D d:=by
 unfold cg en at q;unfold wp;simp only at q;generalize m U=o at q ⊢;cases o with
 | ok a d=>exact q
 | ex c d=>exact q
 | bad=>exact q
@[simp] noncomputable def vm(o:Option ai):eW:=match o with
 | some U=>.nx U
 | none=>.bad
@[simp] noncomputable def bw(m:XM PyData)(g:GM):SM:=fun U=>en (m U) fun d f=>vm (g d f)
theorem vn{m:XM PyData}{g:GM}{D:el}{U:ai}(q:cg E (bw m g) D U):qv (wp E m) (fR g) D U:=aH _ _ _ (fun d h f=>by
 unfold cg vm at f;unfold fR;simp only at f;generalize g d h=o at f ⊢;cases o with
 | some i=>exact f
 | none=>exact f) (fU (k:=fun d h=>vm (g d h)) q)
theorem Bc{d:Expr}{m:XM PyData}{g:GM}(f:FE X F E e m)(h:FG X F d g)(j:swapsWithSole [d] e pos.line X.env=pure false:=by rfl)(i:swappedStores [d] e X.env=pure none:=by rfl)
  (k:(assignEach [d] X.env).map (·.2)=[assign d X.env]:=by rfl):FS X F E (.Assign [d] e pos) (bw m g):=(Jy f h j i k).imp fun D U q=>vn q
theorem bW{i:Nat}{d:Pos}{m:XM PyData}(f:X.N.Nodup)(g:X.N[i]? = some x)(k:gO X.env.scope x)(h:FE X F E e m)(l:swapsWith e (some (.Name x d)) pos.line X.env=pure false:=by rfl)
  (j:X.fn x=true\/X.env.scope.names.lookup x=some .local:=by first | exact .inl rfl | exact .inr rfl | assumption):FS X F E (.Assign [.Name x d] e pos) (bw m (aI i)):=(Jz f g k h l j).imp fun D U q=>vn q
@[simp] noncomputable def qP(i:Nat)(c:ag):SM:=fun d=>if i<d.length then(match c with | .own true _=>.bad | c=>.nx (d.set i (some c))) else .bad
@[simp] noncomputable def gZ(i:Nat)(m:XM ag):SM:=fun U=>en (m U) (qP i)
theorem lh{i:Nat}{g:Pos}{m:XM ag}(j:X.N.Nodup)(l:X.N[i]? = some x)(r:gO X.env.scope x)(n:FO X F E e m)(s:swapsWith e (some (.Name x g)) pos.line X.env=pure false:=by rfl)
  (o:X.fn x=true\/X.env.scope.names.lookup x=some .local:=by first | exact .inl rfl | exact .inr rfl | assumption):FS X F E (.Assign [.Name x g] e pos) (gZ i m):=(JF j l r n s o).imp fun D U q=>aH _ _ _ (fun c p f=>by
 unfold cg qP at f
 by_cases h:i<p.length
 ·simp only[if_pos h] at f;cases c with
  | own io b=>cases io with
   | true=>exact f.elim
   | false=>exact⟨h,(fun _ z=>by cases z),f⟩
  | dat d=>exact⟨h,(fun _ z=>by cases z),f⟩
  | scr d=>exact⟨h,(fun _ z=>by cases z),f⟩
  | exc d=>exact⟨h,(fun _ z=>by cases z),f⟩
  | vw d=>exact⟨h,(fun _ z=>by cases z),f⟩
 ·simp only[if_neg h] at f) (fU (k:=qP i) q)
@[simp] noncomputable def bc(m:XM PyData):SM:=fun U=>en (m U) fun d f=>.rt (.dat d) f
@[simp] noncomputable def ep(m:XM ag):SM:=fun U=>en (m U) fun c d=>.rt c d
@[simp] noncomputable def gn(m:XM ag):SM:=fun U=>en (m U) fun _ d=>.nx d
theorem bz{m:XM PyData}(g:FE X F E e m):FS X F E (.Return (some e) pos) (bc m):=(JB g).imp fun D U q=>aH _ _ _ (fun c f h=>h) (fU (k:=fun d f=>.rt (.dat d) f) q)
theorem eF{m:XM ag}(g:FO X F E e m):FS X F E (.Return (some e) pos) (ep m):=(JD g).imp fun D U q=>aH _ _ _ (fun c f h=>h) (fU (k:=fun d f=>.rt d f) q)
theorem gD{m:XM ag}(f:FO X F E e m)(h:swapsWith e none pos.line X.env=pure false:=by rfl):FS X F E (.Expr e pos) (gn m):=(JH f h).imp fun D U q=>aH _ _ _ (fun c d g=>g) (fU (k:=fun _ d=>.nx d) q)
@[simp] noncomputable def bq(t:XM Bool)(a b:SM):SM:=fun U=>en (t U) fun x d=>if x=true then a d else b d
theorem bI{d:Expr}{j l:List Stmt}{mt:XM Bool}{f g:SM}(m:FB X F E d mt)(n:jq X F E j f)(o:jq X F E l g):FS X F E (.If d j l pos) (bq mt f g):=(JJ m n o).imp fun D U q=>aH _ _ _ (fun x h i=>by
 cases x with
 | true=>exact fj i
 | false=>exact fi i) (fU (k:=fun x h=>if x=true then f h else g h) q)
end
noncomputable def cu(d n:String):Option Bool:=if d=n then some true else
 if d="bool"/\n="int" then some true else
 if (d="int"\/d="bool"\/d="str"\/d="list"\/d="tuple"\/d="NoneType")/\(n="int"\/n="bool"\/n="str"\/n="list"\/n="tuple") then some false else none
theorem Li{d n:String}{b:Bool}(h:cu d n=some b)(K:Frag):kitOne K (.type d) (.type n)=some b:=by
 unfold cu at h;split at h
 ·rename_i e;cases h;subst e;unfold kitOne;rw[if_pos (by simp)]
 ·split at h
  ·rename_i e;cases h;obtain⟨rfl,rfl⟩:=e;rfl
  ·rename_i a c;split at h
   ·rename_i e;cases h;obtain⟨f,g⟩:=e;rcases f with rfl | rfl | rfl | rfl | rfl | rfl<;>rcases g with rfl | rfl | rfl | rfl | rfl<;>first | rfl | (exact absurd rfl a) | (exact absurd ⟨rfl,rfl⟩ c)
   ·cases h
@[simp] noncomputable def il(n:String)(a:XM PyData):XM PyData:=fun U=>(a U).bind fun d=>lift ((cu (uP d) n).map .bool)
section
variable{X:Cx}{F:Fx}{E:Str->ai->Prop}{e a b c:Expr}{es:List Expr}{st:Stmt}{rest:List Stmt}{pos:Pos}{x:Str}
theorem jv{n:String}{f:XM PyData}(h:DE X F e (Ad n (wp E f))):FE X F E e (il n f):=h.imp aH fun U Q q=>aH _ _ _ (fun d m g=>by
 obtain⟨y,i,j⟩:=cZ g;obtain⟨b,k,l⟩:=Option.map_eq_some_iff.mp i;subst l;exact⟨b,Li k,j⟩) (bO q)
noncomputable def di(g:GM)(b:SM):List PyData->SM
 | [],U=>.nx U
 | d::r,U=>(match g d U with
  | some h=>(match b h with
   | .nx f=>di g b r f
   | .ct f=>di g b r f
   | .bk f=>.nx f
   | o=>o)
  | none=>.bad)
@[simp] noncomputable def iK(s:XM (List PyData))(g:GM)(b:SM):SM:=fun U=>en (s U) (di g b)
theorem mD{n iter:Expr}{body:List Stmt}{s:XM (List PyData)}{g:GM}{l:SM}(t:PassesOwn (model X.prog X.w) X.A X.env X.xe)(u:X.calm=true)(f:FI X F E n iter s)(v:FG X F n g)(C:jq X F E body l)(G:∀x,foldedSetIterable iter X.env x=pure x:=by intro _;rfl):FS X F E (.For n iter body [] pos) (iK s g l):=
 (Ka t u f v C G).imp fun D U q=>aH _ _ _ (fun j p y=>by
  refine⟨fun i U=>cg E (di g l (j.drop i)) D U,y,fun i d U hd f=>?_,fun U h=>?_⟩
  ·have e:j.drop i=d::j.drop (i+1):=by obtain⟨r,z⟩:=List.getElem?_eq_some_iff.mp hd;rw[<-z];exact List.drop_eq_getElem_cons r
   simp only[e] at f;unfold cg di at f;unfold fR;generalize g d U=o at f ⊢;cases o with
   | none=>exact f
   | some p=>
    show cg E l _ p;simp only at f;unfold cg;generalize l p=B at f ⊢;cases B with
    | nx m=>exact f
    | ct m=>exact f
    | bk m=>exact f
    | rt c m=>exact f
    | ex c m=>exact f
    | bad=>exact f
  ·simp only[List.drop_length] at h;exact h) (fU (k:=di g l) q)
@[simp] noncomputable def Be(a:XM PyData):XM (List PyData):=fun U=>(a U).bind fun d=>lift (match d with | .list ds=>some ds | _=>none)
@[simp] noncomputable def li(a:XM PyData):XM (List PyData):=fun U=>(a U).bind fun d=>lift (match d with | .tuple ds=>some ds | _=>none)
theorem DI.imp{f iter:Expr}{t t':gj}(h:DI X F f iter t)(j:∀U Q g,(∀d i,Q d i->g d i)->t' U Q->t' U g)(k:∀U Q,t' U Q->t U Q):DI X F f iter t':=⟨j,h.pi.imp fun Y H Q ⟨U,O,st,q⟩=>⟨U,O,st,k U _ q⟩⟩
theorem Lj{i:Expr}{f:XM PyData}(h:FE X F E e f):FI X F E i e (Be f):=(JV h).imp aH fun U Q q=>aH _ _ _ (fun d l j=>by
 obtain⟨y,g,k⟩:=cZ j;cases d with
 | list ds=>cases g;exact⟨_,rfl,k⟩
 | _=>cases g) (bO q)
theorem mE{i:Expr}{f:XM PyData}(h:FE X F E e f):FI X F E i e (li f):=(JW h).imp aH fun U Q q=>aH _ _ _ (fun d l j=>by
 obtain⟨y,g,k⟩:=cZ j;cases d with
 | tuple ds=>cases g;exact⟨_,rfl,k⟩
 | _=>cases g) (bO q)
@[simp] noncomputable def hD(g:List PyData->Option (List PyData))(a:XM (List PyData)):XM (List PyData):=fun U=>(a U).bind fun d=>lift (g d)
@[simp] noncomputable def dB:List PyData->Option (List PyData):=fun d=>match d with
 | [.int j]=>if (decide (-(2 ^ 62)<=j)&&decide (j<2 ^ 62))=true then some (intsFrom 0 j.toNat) else none
 | _=>none
theorem qQ{f:Expr}{g:XM (List PyData)}(h:DI X F f e (Ao (wp E g))):FI X F E f e (hD dB g):=h.imp aH fun U Q q=>aH _ _ _ (fun l k i=>by
 obtain⟨y,d,j⟩:=cZ i;unfold dB at d;split at d
 ·split at d
  ·rename_i h;cases d;simp only[Bool.and_eq_true,decide_eq_true_eq] at h;exact⟨_,rfl,h.1,h.2,j⟩
  ·cases d
 ·cases d) (bO q)
@[simp] noncomputable def lm:List PyData->Option (List PyData):=fun d=>match d with
 | [.list ds]=>some (numbered ds)
 | _=>none
theorem Lk{f:Expr}{g:XM (List PyData)}(h:DI X F f e (iE (wp E g))):FI X F E f e (hD lm g):=h.imp aH fun U Q q=>aH _ _ _ (fun l k i=>by
 obtain⟨y,d,j⟩:=cZ i;unfold lm at d;split at d
 ·cases d;exact⟨_,rfl,j⟩
 ·cases d) (bO q)
noncomputable def dD(g:GM)(t:XM Bool)(m:XM PyData):List PyData->List PyData->ai->Option (List PyData)
 | [],f,_=>some f
 | d::r,f,U=>(match g d U with
  | some i=>(match t i with
   | .ok true h=>(match m h with
    | .ok y j=>if f.length<sizeLine then dD g t m r (f++[y]) j else none
    | _=>none)
   | .ok false h=>dD g t m r f h
   | _=>none)
  | none=>none)
@[simp] noncomputable def jw(own:Nat)(d:List Nat)(U:ai):ai:=List.replicate own none++d.map fun j=>Ap U[j]?
@[simp] noncomputable def Bf(own:Nat)(d:List Nat)(g:GM)(t:XM Bool)(m:XM PyData)(f:List PyData):XM PyData:=fun h=>lift ((dD g t m f [] (jw own d h)).bind fun i=>if i.length<=sizeLine then some (.list i) else none) h
@[simp] noncomputable def kd(own:Nat)(d:List Nat)(s:XM (List PyData))(g:GM)(t:XM Bool)(m:XM PyData):XM PyData:=fun U=>(s U).bind (Bf own d g t m)
noncomputable abbrev gp:Str->ai->Prop:=fun _ _=>False
theorem Bg{own:List Str}{j:List Nat}{s:XM (List PyData)}{g:GM}{t:XM Bool}{m:XM PyData}{U:ai}{Q:PyData->ai->Prop}(q:wp E (kd own.length j s g t m) U Q):nZ own j (wp E s) (fR g) (wp gp t) (wp gp m) U Q:=aH _ _ _ (fun l r D=>by
 obtain⟨y,G,z⟩:=cZ (o:=(dD g t m l [] (jw own.length j r)).bind fun p=>if p.length<=sizeLine then some (PyData.list p) else none) (U:=r) (E:=E) (Q:=Q) D;obtain⟨n,H,u⟩:=Option.bind_eq_some_iff.mp G;have A:n.length<=sizeLine/\y=.list n:=by
  split at u
  ·rename_i h;cases u;exact⟨h,rfl⟩
  ·cases u
 have I:dZ own j r=jw own.length j r:=by unfold dZ jw;rw[List.map_const']
 refine⟨fun i p U=>dD g t m (l.drop i) p U=some n,by rw[I];exact H,fun i d p U hd f=>?_,fun p U h=>?_⟩
 ·have e:l.drop i=d::l.drop (i+1):=by obtain⟨v,J⟩:=List.getElem?_eq_some_iff.mp hd;rw[<-J];exact List.drop_eq_getElem_cons v
  simp only[e] at f;unfold dD at f;unfold fR;cases B:g d U with
  | none=>rw[B] at f;cases f
  | some L=>
   rw[B] at f;simp only at f ⊢;unfold wp;cases ht:t L with
   | ex c C=>rw[ht] at f;cases f
   | bad=>rw[ht] at f;cases f
   | ok b C=>
    rw[ht] at f;cases b with
    | false=>exact fi f
    | true=>
     refine fj ?_;simp only at f ⊢;cases w:m C with
     | ex c M=>rw[w] at f;cases f
     | bad=>rw[w] at f;cases f
     | ok N M=>
      rw[w] at f;simp only at f ⊢;split at f
      ·rename_i h;exact⟨h,f⟩
      ·cases f
 ·simp only[List.drop_length] at h;have:p=n:=by unfold dD at h;exact Option.some.inj h
  subst this;rw[A.2] at z;exact⟨A.1,z⟩) (bO (k:=Bf own.length j g t m) q)
abbrev oo(X:Cx)(F:Fx)(E:Str->ai->Prop)(d:List Expr)(m:XM Bool):Prop:=oa X F d (wp E m)
noncomputable def hF:XM Bool:=fun U=>.ok true U
theorem oq:oo X F E [] hF:=⟨aH,fun d s Y H Q I ⟨U,O,st,q⟩=>Kc.2 d s Y H Q I ⟨U,O,st,q⟩⟩
theorem Ll{d:XM Bool}(h:FB X F E c d):oo X F E [c] d:=Kd h
theorem vo{d:Scope}{own f:List Str}{h:List Nat}{l iter i:Expr}{j:List Expr}{s:XM (List PyData)}{g:GM}{t:XM Bool}{m:XM PyData}{n:Nat}(w:GF X.mg F)(S:az X d own f h)(y:X.calm=true)(z:own.length=n)(A:FI X F E l iter s)
  (o:∀C p r u v k,GF X.mg k->FG (cq X d (own++f) C p r u v) k l g/\oo (cq X d (own++f) C p r u v) k gp j t/\FE (cq X d (own++f) C p r u v) k gp i m)
  (B:∀x,foldedSetIterable iter X.env x=pure x:=by intro _;rfl):FE X F E (.ListComp i [⟨l,iter,j,0⟩] d pos) (kd n h s g t m):=by
 subst z;exact(Ke w S y A o B).imp aH fun U Q q=>Bg q
theorem Bh{f:Scope}{own capN:List Str}{caps:List Nat}{o iter k:Expr}{l:List Expr}{s:XM (List PyData)}{g:GM}{t:XM Bool}{m:XM PyData}{n i:Nat}{y:Str}{py j:Pos}(H:X.N.Nodup)(r:X.N[i]? = some y)(T:gO X.env.scope y)(I:GF X.mg F)(S:az X f own capN caps)(J:X.calm=true)(L:own.length=n)(M:FI X F E o iter s)
  (u:∀C v w z B p,GF X.mg p->FG (cq X f (own++capN) C v w z B) p o g/\oo (cq X f (own++capN) C v w z B) p gp l t/\FE (cq X f (own++capN) C v w z B) p gp k m)
  (A:swapsWith (.ListComp k [⟨o,iter,l,0⟩] f pos) (some (.Name y py)) j.line X.env=pure true:=by rfl)
  (Y:∀x,foldedSetIterable iter X.env x=pure x:=by intro _;rfl) (O:X.fn y=true\/X.env.scope.names.lookup y=some .local:=by first | exact .inl rfl | exact .inr rfl | assumption) :
  FS X F E (.Assign [.Name y py] (.ListComp k [⟨o,iter,l,0⟩] f pos) j) (bw (kd n caps s g t m) (aI i)):=by
 subst L;exact(Kf H r T I S J M u A Y O).imp fun D U q=>by have R:=vn q;exact vc (s:=wp E s) aH U _ _ (fun d G h=>h) (Bg (Q:=fun d G=>fR (aI i) d G D.nx) R)
end
section
variable{K:Frag}{F:Fx}{H H':Hp}{Y:St}{U:ai}{O O':List Addr}
theorem aC.fresh(st:aC K F H Y U O){p:Addr}{o:HO}(c:H p=none)(d:Mv o):∃O',aC K (F.plus [p]) (aN H p o) Y U O'/\aP O H O' (aN H p o):=by obtain⟨O',h1,h2,_⟩:=aC.swap (L:=[]) (L':=[p]) (H':=aN H p o) (F:=F) st (fun b u _ e=>bX c b u e) (by simp) (fun a h=>.inr (by obtain rfl:=List.mem_singleton.mp h;exact c)) (fun a h=>by cases h) (fun a h=>by obtain rfl:=List.mem_singleton.mp h;exact⟨o,cj,d⟩);exact⟨O',h1,h2⟩
theorem aC.new1(st:aC K F H Y U O){p:Addr}(c:H p=none):∀a∈[p],a∈F.A₀\/F.H₀ a=none:=fun a h=>by
 obtain rfl:=List.mem_singleton.mp h
 by_cases b:a∈F.A₀
 ·exact .inl b
 ·refine .inr ?_;cases e:F.H₀ a with
  | none=>rfl
  | some o=>obtain⟨W,h,_⟩:=st;have:=h.kept a o b e;rw[c] at this;cases this
end
section
variable{X:Cx}{F:Fx}{E:Str->ai->Prop}{e a b c:Expr}{es:List Expr}{st:Stmt}{rest:List Stmt}{pos:Pos}{x:Str}
noncomputable def Lm(t:dY):gU:=fun U Q=>t U fun d f=>d.length<=sizeLine/\Q (.own false (.l d)) f
theorem Ln{i:dY}(h:DA X F es i):DO X F (.List es pos) (Lm i):=
 ⟨fun _ _ _ k q=>h.mn _ _ _ (fun _ _ d=>⟨d.1,k _ _ d.2⟩) q,(pZ h.pa).imp fun Y H Q ⟨U,O,st,q⟩=>
  ⟨U,O,st,h.mn _ _ _ (fun w t d j u v f r l=>⟨by rw[l.length];exact d.1,fun p m=>by
   obtain⟨s,g,n⟩:=f.fresh (o:=.lst j) m trivial;exact d.2 _ _ s [p] ⟨g,⟨p,rfl,rfl,j,cj,aK.mono n.hid l⟩,f.new1 m⟩ (r.trans n)⟩) q⟩⟩
@[simp] noncomputable def ke(a:XM (List PyData)):XM ag:=fun U=>(a U).bind fun d=>lift (if d.length<=sizeLine then some (.own false (.l d)) else none)
theorem ot{g:XM (List PyData)}(h:FA X F E es g):FO X F E (.List es pos) (ke g):=(Ln h).imp aH fun U Q q=>aH _ _ _ (fun l k i=>by
 obtain⟨d,f,j⟩:=cZ i;split at f
 ·rename_i h;cases f;exact⟨h,j⟩
 ·cases f) (bO q)
@[simp] noncomputable def vp(i:Nat)(d:PyData):SM:=fun f=>match f[i]? with
 | some (some (.own io (.l ds)))=>if ds.length<sizeLine then .nx (f.set i (some (.own io (.l (ds++[d]))))) else .bad
 | _=>.bad
@[simp] noncomputable def mF(i:Nat)(m:XM PyData):SM:=fun U=>match U[i]? with
 | some (some (.own _ (.l _)))=>en (m U) (vp i)
 | _=>.bad
theorem qR{i:Nat}{m:XM PyData}{r apos g:Pos}(hv:PE X (.Name x r) (bU i))(N:FE X F E e m)(y:swapsWith (.Call (.Attribute (.Name x r) "append" apos) [e] [] g) none pos.line X.env=pure false:=by rfl)
  (n:attributeBase (.Name x r) "append" X.env (eval (.Name x r) X.env)=eval (.Name x r) X.env:=by rfl)
  (t:((backTo g (starEach [e] X.env)).all (fun x=>!x.1)&&(backToKw g (keywordEach [] X.env)).all (fun x=>x.1.isSome)&&decide (([e]:List Expr).length+([]:List Keyword).length+(if ([]:List Keyword).isEmpty then 0 else 1)<30))=true:=by rfl)
  (p:(apos.endLine==g.line)=true:=by rfl) (M:starEach [e] X.env=(false,eval e X.env)::starEach [] X.env:=by rfl) (j:(backTo g (starEach [] X.env)).any (·.1)=false:=by rfl) :
  FS X F E (.Expr (.Call (.Attribute (.Name x r) "append" apos) [e] [] g) pos) (mF i m):=
 (pS (qe PySem.F.plainAttrs_list PySem.F.slot_list_append PySem.F.type_list_append zj hv (ej N.pe eQ M) n t p M j) y).imp fun D Y H ⟨U,O,DD,st,q,f⟩=>by
  unfold cg mF at q;cases z:U[i]? with
  | none=>rw[z] at q;exact q.elim
  | some o=>
   rw[z] at q;cases o with
   | none=>exact q.elim
   | some Q=>
    cases Q with
    | dat d=>exact q.elim
    | scr d=>exact q.elim
    | exc d=>exact q.elim
    | vw d=>exact q.elim
    | own R S=>
     cases S with
     | m _ _=>exact q.elim
     | o _ _=>exact q.elim
     | sd _=>exact q.elim
     | ll _=>exact q.elim
     | pr _ _ _=>exact q.elim
     | l T=>
      obtain⟨a,fp,u,⟨_,Z,hH,_⟩,_,_⟩:=st.box z;refine⟨_,u,.inl ⟨rfl,Z,.of hH⟩,U,O,st,aH _ _ _ (fun d U1 h w H1 O1 A s1 d1=>?_) (fU (m:=m) (k:=vp i) q)⟩;unfold cg vp at h;cases h1:U1[i]? with
      | none=>rw[h1] at h;exact h.elim
      | some o=>
       rw[h1] at h;cases o with
       | none=>exact h.elim
       | some c1=>
        cases c1 with
        | dat d=>exact h.elim
        | scr d=>exact h.elim
        | exc d=>exact h.elim
        | vw d=>exact h.elim
        | own a0 b1=>
         cases b1 with
         | m _ _=>exact h.elim
         | o _ _=>exact h.elim
         | sd _=>exact h.elim
         | ll _=>exact h.elim
         | pr _ _ _=>exact h.elim
         | l ds=>
          simp only at h;obtain⟨a1,a2,v,⟨e1,B,C,hd⟩,hO,up⟩:=A.box h1;rw[u] at v;cases v;subst e1
          by_cases I:ds.length<sizeLine
          ·rw[if_pos I] at h;refine⟨a,B,w,rfl,rfl,C,by rw[hd.length];exact I,?_⟩;obtain⟨O2,J,s2,_⟩:=up (aN H1 a (.lst (B++[w]))) (.l (ds++[d])) [a] (fun c o L e=>by rw[bj (by simpa using L)];exact e) (by simp) (fun c L=>.inl L) (fun G O' s hG _=>by
            subst hG;exact⟨s.hid,rfl,B++[w],cj,(aK.mono s.hid hd).append (.cons (DV.mono s.hid d1) .nil)⟩)
           exact f.nx _ _ _ _ J (s1.trans s2) h
          ·rw[if_neg I] at h;exact h.elim
@[simp] noncomputable def Lo:ag->Option PyData
 | .dat (.list ds)=>some (.int ds.length)
 | .dat (.tuple ds)=>some (.int ds.length)
 | .own _ (.l ds)=>some (.int ds.length)
 | _=>none
@[simp] noncomputable def vr(i:Nat):XM PyData:=fun U=>match U[i]? with
 | some (some c)=>lift (Lo c) U
 | _=>.bad
theorem Lp{i:Nat}{p g:Pos}(r:Gl X "len")(s:X.mg "len" = none)(h:PE X (.Name x g) (bU i))(n:starEach [.Name x g] X.env=(false,eval (.Name x g) X.env)::starEach [] X.env:=by rfl)(k:(backTo pos (starEach [] X.env)).any (·.1)=false:=by rfl) :
  FE X F E (.Call (.Name "len" p) [.Name x g] [] pos) (vr i):=
 ⟨aH,(mi ig r s PySem.boot_len (ej h eQ n) (by decide) (by decide) n k).imp fun Y H Q ⟨U,O,st,q⟩=>by
  unfold wp vr at q;cases j:U[i]? with
  | none=>rw[j] at q;exact q.elim
  | some o=>
   rw[j] at q;cases o with
   | none=>exact q.elim
   | some t=>
    unfold lift at q;cases t with
    | scr d=>exact q.elim
    | exc d=>exact q.elim
    | vw d=>exact q.elim
    | dat d=>
     obtain⟨v,hv,hd⟩:=st.dat j;cases d with
     | list ds=>obtain⟨a,f,rfl,m,hx⟩:=hd.lst_inv;exact⟨_,hv,a,f,rfl,.inl (.of (cY m).1),by rw[hx.length];exact q _ H O st .refl (.int _)⟩
     | tuple ds=>obtain⟨a,f,rfl,m,hx⟩:=hd.tup_inv;exact⟨_,hv,a,f,rfl,.inr (.inl (gR m).1),by rw[hx.length];exact q _ H O st .refl (.int _)⟩
     | _=>exact q.elim
    | own io b=>
     cases b with
     | l ds=>obtain⟨a,w,hv,⟨_,f,u,hx⟩,_,_⟩:=st.box j;exact⟨_,hv,a,f,rfl,.inl (.of u),by rw[hx.length];exact q _ H O st .refl (.int _)⟩
     | _=>exact q.elim⟩
end
noncomputable def iM:PyData->Option aR
 | .int i=>some (.inl i)
 | .str x=>some (.inr x)
 | _=>none
noncomputable def iN:List PyData->Option (List aR)
 | []=>some []
 | d::r=>(match iM d,iN r with | some k,some l=>some (k::l) | _,_=>none)
noncomputable def im:Bool->PyData->Option (List aR)
 | false,d=>(iM d).map fun k=>[k]
 | true,.tuple ds=>iN ds
 | true,_=>none
noncomputable abbrev jx:=List (PyData×PyData)
noncomputable def kf(a:Bool):jx->List aR->Option PyData
 | [],_=>none
 | p::r,k=>if im a p.1=some k then some p.2 else kf a r k
noncomputable def lp(a:Bool)(k:List aR)(v:PyData):jx->jx
 | []=>[]
 | p::r=>(if im a p.1=some k then(p.1,v) else p)::lp a k v r
noncomputable def kg(b:Bool)(a:jx)(d:PyData)(k:List aR)(v:PyData):jx:=if (kf b a k).isSome=true then lp b k v a else a++[(d,v)]
theorem Bi{G:Hp}{v:V}{d:PyData}{k:aR}(h:DV G v d)(e:iM d=some k):v=kV k:=by
 cases d with
 | int i=>cases e;exact h.int_inv
 | str x=>cases e;exact h.str_inv
 | _=>cases e
theorem vt{k:aR}:iM (ik k)=some k:=by cases k<;>rfl
theorem Bj{d:PyData}{k:aR}(e:iM d=some k):d=ik k:=by
 cases d with
 | int i=>cases e;rfl
 | str x=>cases e;rfl
 | _=>cases e
theorem Bk:∀{a:List aR},iN (a.map ik)=some a
 | []=>rfl
 | k::r=>by show(match iM (ik k),iN (r.map ik) with | some k,some l=>some (k::l) | _,_=>none)=_;rw[vt,Bk]
theorem vu:∀{b:List PyData}{a:List aR},iN b=some a->b=a.map ik
 | [],a,e=>by cases e;rfl
 | d::r,a,e=>by
  unfold iN at e;cases h1:iM d with
  | none=>rw[h1] at e;cases e
  | some k=>
   cases h2:iN r with
   | none=>rw[h1,h2] at e;cases e
   | some l=>rw[h1,h2] at e;cases e;rw[Bj h1,vu h2];rfl
theorem Bl{G:Hp}:∀{a:List V}{b:List aR},aK G a (b.map ik)->a=b.map kV
 | [],[],_=>rfl
 | _::_,k::r,.cons h1 h2=>by rw[Bi h1 vt,Bl h2];rfl
theorem Bm{κ:Type}[DecidableEq κ]{R:κ->PyData->Prop}{G:Hp}{f:Bool}{inj:κ->List aR}(g:∀k d,R k d->im f d=some (inj k))(j:∀a b,inj a=inj b->a=b) :
  ∀{i:List (κ×V)}{c:jx}(k:κ),Paired (fun(p:κ×V) (q:PyData×PyData)=>R p.1 q.1/\DV G p.2 q.2) i c->(eS i k=none/\kf f c (inj k)=none)\/∃v d,eS i k=some v/\kf f c (inj k)=some d/\DV G v d
 | [],[],k,_=>.inl ⟨rfl,rfl⟩
 | p::r,q::s,k,.cons h t=>by
  by_cases e:p.1=k
  ·refine .inr ⟨p.2,q.2,nM e,?_,h.2⟩;unfold kf;rw[if_pos (by rw[g _ _ h.1,e])]
  ·rw[nN e];unfold kf;rw[if_neg (by rw[g _ _ h.1];exact fun z=>e (j _ _ (Option.some.inj z)))];exact Bm g j k t
theorem Bn{κ:Type}[DecidableEq κ]{R:κ->PyData->Prop}{G:Hp}{i:Bool}{inj:κ->List aR}(f:∀k d,R k d->im i d=some (inj k))(j:∀a b,inj a=inj b->a=b){v:V}{x:PyData}(m:DV G v x) :
  ∀{l:List (κ×V)}{c:jx}(k:κ),Paired (fun(p:κ×V) (q:PyData×PyData)=>R p.1 q.1/\DV G p.2 q.2) l c->Paired (fun(p:κ×V) (q:PyData×PyData)=>R p.1 q.1/\DV G p.2 q.2) (l.map fun g=>if g.1=k then(g.1,v) else g) (lp i (inj k) x c)
 | [],[],k,_=>.nil
 | p::r,q::s,k,.cons h t=>by
  refine .cons ?_ (Bn f j m k t);dsimp only
  by_cases e:p.1=k
  ·rw[if_pos e,if_pos (by rw[f _ _ h.1,e])];exact⟨h.1,m⟩
  ·rw[if_neg e,if_neg (by rw[f _ _ h.1];exact fun z=>e (j _ _ (Option.some.inj z)))];exact h
theorem Bo{α β:Type}{R:α->β->Prop}:∀{a:List α}{b:List β}{c:List α}{d:List β},Paired R a b->Paired R c d->Paired R (a++c) (b++d)
 | _,_,_,_,.nil,h=>h
 | _,_,_,_,.cons h t,r=>.cons h (Bo t r)
theorem Bp{κ:Type}[DecidableEq κ]{R:κ->PyData->Prop}{G:Hp}{g:Bool}{inj:κ->List aR}(i:∀k d,R k d->im g d=some (inj k))(j:∀a b,inj a=inj b->a=b){v:V}{x d:PyData}(m:DV G v x)
  {l:List (κ×V)}{c:jx}{k:κ}(hd:R k d) (h:Paired (fun(p:κ×V) (q:PyData×PyData)=>R p.1 q.1/\DV G p.2 q.2) l c):Paired (fun(p:κ×V) (q:PyData×PyData)=>R p.1 q.1/\DV G p.2 q.2) (dN l k v) (kg g c d (inj k) x):=by
 rcases Bm i j k h with⟨e,f⟩ | ⟨n,o,e,f,_⟩
 ·rw[zo v e];unfold kg;rw[f,if_neg (by simp)];exact Bo h (.cons ⟨hd,m⟩ .nil)
 ·unfold kg;rw[f,if_pos (by rfl)];unfold dN;rw[if_pos (by rw[qf,e];rfl)];exact Bn i j m k h
theorem Lq:∀(k:aR) (d:PyData),ik k=d->im false d=some [k]:=fun k d e=>by subst e;show(iM (ik k)).map _=_;rw[vt];rfl
theorem vv:∀(a b:aR),[a]=[b]->a=b:=fun a b e=>by cases e;rfl
theorem vA:∀(k:List aR) (d:PyData),ql k=d->im true d=some k:=fun k d e=>by subst e;exact Bk
@[simp] noncomputable def ou(a:Bool)(d:PyData):Option (List aR):=match d with
 | .tuple []=>none
 | d=>im a d
theorem Lr{a:Bool}{d:PyData}{k:List aR}(e:ou a d=some k):im a d=some k/\d≠.tuple []:=by
 unfold ou at e;split at e
 ·cases e
 ·rename_i h;exact⟨e,h⟩
theorem Bq:∀{ds:List PyData}{k:List aR},iN ds=some k->ds≠[]->cO ds=false
 | [],_,_,h=>absurd rfl h
 | [d],k,e,_=>by cases d<;>first | rfl | (simp[iN,iM] at e)
 | d::f::r,k,e,_=>by
  unfold iN at e;split at e
  ·rename_i g l a b;have c:=Bq (ds:=f::r) b (by simp);cases d<;>first | (exact(by simpa[cO] using c)) | (exfalso;simp[iM] at a)
  ·cases e
section
variable{G H:Hp}{a:Addr}{tk:Bool}{kvs:jx}
theorem Ls(h:jm G H a tk kvs)(n:bR G H){y v:V}{d x:PyData}{k:List aR}(i:DV G y d)(m:DV G v x)(e:ou tk d=some k)(j:kvs.length<sizeLine) :
  ∃o,jN H a y v (aN H a o)/\Mv o/\∀c,bR G c->jm c (aN H a o) a tk (kg tk kvs d k x):=by
 obtain⟨e,f⟩:=Lr e;cases tk with
 | false=>obtain⟨p,g,pr⟩:=h;obtain⟨r,l,q⟩:=Option.map_eq_some_iff.mp e;subst q;obtain rfl:=Bi i l;refine⟨_,.k g (by rw[Paired.length pr];exact j),trivial,fun c s=>⟨_,cj,Bp Lq vv (DV.mono s m) (Bj l).symm (Paired.mapP pr fun _ _ z=>⟨z.1,DV.mono s z.2⟩)⟩⟩
 | true=>
  obtain⟨p,g,pr⟩:=h;cases d with
  | tuple ds=>obtain⟨b,u,rfl,hb,hx⟩:=i.tup_invK (Bq e fun z=>f (by rw[z]));rw[vu e] at hx;rw[Bl hx] at hb;exact⟨_,.t g (n _ _ hb) (by rw[Paired.length pr];exact j),trivial,fun c s=>⟨_,cj,Bp (inj:=id) vA (fun _ _ z=>z) (DV.mono s m) (show ql k=_ by unfold ql;rw[<-vu e]) (Paired.mapP pr fun _ _ z=>⟨z.1,DV.mono s z.2⟩)⟩⟩
  | _=>cases e
end
section
variable{X:Cx}{F:Fx}{E:Str->ai->Prop}{e a b c:Expr}{es:List Expr}{st:Stmt}{rest:List Stmt}{pos:Pos}{x:Str}
@[simp] noncomputable def vB:List PyData->Option PyData:=fun f=>match f with
 | [.list as,.list bs,.list d]=>if bs.length=as.length/\d.length=as.length/\0<as.length then some (.list (oh as bs d)) else none
 | _=>none
theorem Lu{g:XM (List PyData)}(h:DE X F e (Az (wp E g))):FE X F E e (cT vB g):=h.imp aH fun U Q q=>aH _ _ _ (fun l k i=>by
 obtain⟨d,f,j⟩:=cZ i;unfold vB at f;split at f
 ·split at f
  ·rename_i h;cases f;exact⟨_,_,_,rfl,h.1,h.2.1,h.2.2,j⟩
  ·cases f
 ·cases f) (bO q)
@[simp] noncomputable def Br(k:Nat):PyData->Option PyData:=fun d=>match d with | .list ds=>some (.list (ds.drop k)) | _=>none
@[simp] noncomputable def xU(g:PyData->Option PyData)(a:XM PyData):XM PyData:=fun U=>(a U).bind fun d=>lift (g d)
theorem Lv{k:Nat}{f:XM PyData}(h:DE X F e (AB (wp E f) k)):FE X F E e (xU (Br k) f):=h.imp aH fun U Q q=>aH _ _ _ (fun d l i=>by
 obtain⟨y,g,j⟩:=cZ i;cases d with
 | list ds=>cases g;exact⟨_,rfl,j⟩
 | _=>cases g) (bO q)
end
noncomputable abbrev ow:List Value:=[.type "ValueError",.type "Exception",.type "BaseException",.type "object"]
def vC(h:Heap)(C:Addr):Prop:=∃c N e q bs a f sub g b n i j k l m d,h.get? C=some (excClassObj e q C N bs c a f sub g b n i j k l m "ValueError.__new__")/\h.Ns N d/\d "__init__" = none/\OwnTail h ow c
theorem vD{K:Frag}{h:Heap}{C:Addr}(X:K.In h)(e:excIn K C ow "ValueError.__new__" = true):vC h C:=by
 unfold excIn at e;split at e
 ·rename_i j k m n;split at e
  ·rename_i I o p q r s J t d a;have f:=e;simp only[Bool.and_eq_true,beq_iff_eq] at f;obtain⟨⟨⟨⟨⟨u,v⟩,g⟩,w⟩,b⟩,i⟩:=f;obtain⟨x,y,L,z,A,B,D,E,G,c,H⟩:=k;obtain⟨l⟩:=m;simp at g d a b i;subst u v g d a;exact⟨o,z,x,A,y,B,D,E,G,c,j,p,q,r,s,t,_,X _ _ n,.of_isNs (PySem.W.isNs_of_in X b),PySem.W.nsMap_none_of_in X b i,PySem.W.tail_of_in X w⟩
  ·cases e
 ·cases e
structure EC (K:Frag) (mg:Str->Option Value) (c:Str) (C:Addr):Prop where
 mg:mg c=some (.ref C)
 ns:nsIn K mainGlobals c=some (some (.ref C))
 ex:excIn K C ow "ValueError.__new__" = true
@[simp] noncomputable def ip(c:Str):SM:=fun U=>.ex c U
section
variable{X:Cx}{F:Fx}{E:Str->ai->Prop}
theorem _root_.L2.Inv.madeX{a:List (Addr×Obj)}{Y:St}{H:Hp}{s:Shared}{c:Heap}{e:Addr}{C:Value}{d:List Value}(I:Inv X a Y H s)(m:Heap.MadeExcOf s.heap c e C d):Inv X a Y H { s with heap:=c }/\jW X a s.heap/\eU s.heap H c e C none:=by have hb:∀b,s.heap.get? b=none->H b=none:=fun b z=>bJ.some_of I.hok z;obtain⟨t,h1,h2,h3⟩:=m.there;refine⟨I.ch I.cov ⟨fun b o q _ _=>m.keeps b o q,fun b o _ q=>⟨o.slots,m.keeps b o q⟩,fun b o q=>⟨o,m.keeps b o q⟩⟩,I.cov,⟨fun b o q=>⟨o,m.keeps b o q⟩,m.new,hb e m.new,_,_,_,h1,rfl,rfl,rfl,.inl ⟨rfl,rfl⟩⟩⟩
theorem iO{c g:Str}{C:Addr}{j:Nat}{np a pos h:Pos}(hx:eV X F E)(u:X.A.handled=none)(v:Gl X c)(i:EC X.K X.mg c C)(k:(c==("__debug__":Str))=false:=by decide)
  (l:starEach [.Constant (.str g) j h] X.env=(false,eval (.Constant (.str g) j h) X.env)::starEach [] X.env:=by rfl) :
  FS X F E (.Raise (some (.Call (.Name c np) [.Constant (.str g) j h] [] a)) none pos) (ip c):=fun b s Y H D I ⟨U,O,DD,st,q,f⟩=>by
 obtain⟨x,N,y,z,bs,d,B,sub,G,n,dd,J,L,M,Q,R,S,Z,hN,o,T⟩:=vD I.ok.mod.kin i.ex;refine wpAny_Raise_call_subU (C:=C) (nm:=y) (q:=z) (N:=N) (bs:=bs) (bm:=x) (hdct:=d) (sn:=B) (sub:=sub) (ab:=G) (col:=n) (dd:=dd) (k0:=J) (k1:=L) (k2:=M) (k3:=Q) (k5:=R) (mN:=S)
  PySem.F.excBase_ValueError (by decide) PySem.F.excBase_ValueError (T.hasType (by decide)) u (by rw[l];rfl) o (me I v i.mg ⟨rfl,?_⟩ k)
 have pa:PA X [.Constant (.str g) j h] _:=ej (lZ (X:=X)) eQ l;have w:=pa a b s Y H (fun p t=>p.length=1/\t=H) I (by exact⟨rfl,rfl⟩);rw[l] at w ⊢;refine Calls.evalArgs_plain (aT w fun us s2 ⟨p,t,I1,r,h1,h2⟩=>?_);subst h2;refine⟨rfl,by show us.length<=_;rw[<-r.length,h1];decide,I1.bk _ _ Z,hN.keeps I1.bk,T.keeps I1.bk,fun h' e m=>?_⟩;obtain⟨I2,cv,ex⟩:=I1.madeX m;exact hx.2 b Y _ _ _ c U O ⟨I2,e,.ref C,s2.heap,none,rfl,cv,ex,i.mg⟩ st q
end
noncomputable def qS(K:Frag)(C D:Addr):Bool:=match K.lookup C with
 | some ⟨_,_,.cls a,_⟩=>a.mro.contains (.ref D)
 | _=>false
noncomputable def ox(K:Frag)(C:Addr):Bool:=findIn K (.ref C) "__getattribute__"==some (some (.builtin "BaseException.__getattribute__"))&&findIn K (.ref C) "__class__"==some (some (.builtin "object.__class__"))&&findIn K (.ref C) "__getattr__"==some none &&
 mroIn K C (.type "BaseException")==some true&&mroIn K C (.type "object")==some true
noncomputable def Bs(K:Frag)(D:Addr)(l:List Str):Bool:=l.all fun c=>match nsIn K mainGlobals c with
 | some (some (.ref C))=>excIn K C ow "ValueError.__new__"&&qS K C D&&ox K C&&(kitOne K (.ref C) (.type "ValueError")==some true)&&l.all fun d=>match nsIn K mainGlobals d with
  | some (some (.ref a))=>kitOne K (.ref C) (.ref a)==some (c==d)
  | _=>false
 | _=>false
structure XT (K:Frag) (mg:Str->Option Value) (l:List Str) (D:Addr):Prop where
 top:EC K mg "DueError" D
 tab:Bs K D l=true
 mgs:∀c C,nsIn K mainGlobals c=some (some (.ref C))->mg c=some (.ref C)
theorem XT.at_{K:Frag}{b:Str->Option Value}{l:List Str}{D:Addr}(x:XT K b l D){c:Str}(h:c∈l):∃C,EC K b c C/\qS K C D=true/\ox K C=true/\kitOne K (.ref C) (.type "ValueError")=some true/\
  ∀d∈l,∃a,b d=some (.ref a)/\nsIn K mainGlobals d=some (some (.ref a))/\kitOne K (.ref C) (.ref a)=some (c==d):=by
 have t:=List.all_eq_true.mp x.tab c h;split at t
 ·rename_i C e;simp only[Bool.and_eq_true] at t;obtain⟨⟨⟨⟨g,i⟩,j⟩,k⟩,m⟩:=t;refine⟨C,⟨x.mgs c C e,e,g⟩,i,j,by simpa using k,fun d hd=>?_⟩;have u:=List.all_eq_true.mp m d hd;split at u
  ·rename_i a f;exact⟨a,x.mgs d a f,f,by simpa using u⟩
  ·cases u
 ·cases t
theorem Lw{K:Frag}{h:Heap}{C D N:Addr}{f q:Str}{bs d:List Value}{b:Bool}{g:List Str}{sub:List Value}{i:Bool}{c:Option Bool}{r:Option Addr}{j k l m n:Option Value}{a:String}
  (X:K.In h) (e:qS K C D=true) (p:h.get? C=some (excClassObj f q C N bs d b g sub i c r j k l m n a)):(Value.ref C::d).contains (.ref D)=true:=by
 unfold qS at e;split at e
 ·rename_i o;have:=X _ _ o;rw[p] at this;cases this;exact e
 ·cases e
theorem Lx{M:Model}{A:Around}{E:Value->Shared->Prop}{h:Heap}{g:Array GenState}{d:Drawn}{t:Nat}{os:OsState}{e C D:Addr}{n:Obj}{Q:Bool->Shared->Prop}
  (I:vC h C) (xd:vC h D) (J:∀{o q N bs k a p sub r i H s u v w x c},h.get? C=some (excClassObj o q C N bs k a p sub r i H s u v w x c)->(Value.ref C::k).contains (.ref D)=true)
  (L:h.get? e=some n) (j:n.cls=.ref C) (O:Q true ⟨h,g,d,t,os⟩):wpAny M A (excMatches (.ref e) (.ref D)) Q E ⟨h,g,d,t,os⟩:=by
 obtain⟨k,N,o,q,bs,a,p,sub,r,i,H,s,u,v,w,x,mN,y,_,_,_⟩:=I;obtain⟨l,N',R,q',S,m,T,z,U,B,Y,Z,a0,a1,a2,a3,a4,G,_,_,T'⟩:=xd;have cB:(Value.ref D::l).contains (.type "BaseException")=true:=by rw[List.contains_cons,T'.hasType (X:="BaseException") (b:=true) (by decide),Bool.or_true]
 have cC:=J y;have f:=tc_notTuple;unfold excMatches
 repeat (first | (with_reducible refine wpAny_loadPart_at L ?_;rw[j]) | with_reducible refine wpAny_loadPart_at G ?_ | (with_reducible refine wpAny_isSubtype_exc G ?_;rw[cB]) | (with_reducible refine wpAny_isSubtype_exc y ?_;rw[cC]) | wp_step)
 exact O
noncomputable abbrev lq(X:Cx)(A:Around)(b:Bool)(a:List (Addr×Obj))(c:Value->Shared->Prop):Cx:={ X with A:=A,calm:=b,pn:=a,xe:=c }
section
variable{X:Cx}{F:Fx}{E:Str->ai->Prop}{pins pins':List (Addr×Obj)}{Y:St}{H:Hp}{s:Shared}{A:Around}{b:Bool}{xe:Value->Shared->Prop}
theorem _root_.L2.Inv.re(I:Inv X pins Y H s)(A:Around)(b:Bool)(xe:Value->Shared->Prop)(a:A.frames=X.A.frames)(d:b=true->A.handled=none):Inv (lq X A b (X.pn++pins) xe) [] Y H s:=
 ⟨⟨I.ok.mod,I.ok.kind,I.ok.glob,I.ok.blt,I.ok.above,I.ok.inj,I.ok.has,I.ok.cab,d,a.trans I.ok.frames,I.ok.stk,I.ok.exf,I.ok.bs,I.ok.bsz,I.ok.noex,I.ok.exfs,I.ok.funs,I.ok.frf⟩,I.os,I.bare,I.base,I.loc,I.cell,I.free,I.freeC,fun p c=>I.pin p (by simpa using c),I.hok,I.len⟩
theorem _root_.L2.Inv.unre(ok:X.Ok)(I:Inv (lq X A b (X.pn++pins) xe) pins' Y H s):Inv X pins Y H s:=
 ⟨ok,I.os,I.bare,I.base,I.loc,I.cell,I.free,I.freeC,fun p a=>I.pin p (br _ a),I.hok,I.len⟩
theorem qT(ok:X.Ok){D:eO}{f:Flow}{d:Shared}(h:SP (lq X A b (X.pn++pins) xe) pins' D f d):SP X pins D f d:=by
 cases f with
 | next=>obtain⟨a,c,I,q⟩:=h;exact⟨a,c,I.unre ok,q⟩
 | brk=>obtain⟨a,c,I,q⟩:=h;exact⟨a,c,I.unre ok,q⟩
 | cont=>obtain⟨a,c,I,q⟩:=h;exact⟨a,c,I.unre ok,q⟩
 | ret u=>obtain⟨v,a,c,I,r,q⟩:=h;exact⟨v,a,c,I.unre ok,r,q⟩
theorem _root_.L2.Inv.caught{g:Heap}{a:Addr}{C:Value}{M:Option Value}(I:Inv X pins Y H s)(j:jW X pins g)(t:eU g H s.heap a C M):Inv X pins Y (aN H a (.ext fun h=>∃o,h.get? a=some o/\o.cls=C)) s:=by
 have l:∀b o,g.get? b=some o->b≠a:=fun b o e z=>by subst z;rw[t.lo] at e;cases e
 obtain⟨w,S,T,y,N,_⟩:=t.ob;have i:bR H (aN H a (.ext fun h=>∃o,h.get? a=some o/\o.cls=C)):=bX t.un;refine⟨I.ok,I.os,I.bare,⟨I.base.keep,I.base.slot,fun b o e n G=>?_,I.base.there,fun b B e=>i _ _ (I.base.tups b B e),fun b o u e=>i _ _ (I.base.frzs b o u e),fun b O e=>let⟨m,q⟩:=I.base.tbls b O e;⟨m,i _ _ q⟩⟩,I.loc,I.cell,?_,fun x c e=>?_,fun p D=>?_,fun b u e=>?_,I.len⟩
 ·obtain⟨r,f⟩:=j.s0 b o e G;rw[bj (l _ _ f)];exact I.base.free b o e n G
 ·obtain⟨r,f⟩:=j.loc;rw[bj (l _ _ f)];exact I.free
 ·obtain⟨r,f⟩:=j.cell x c e;rw[bj (l _ _ f)];exact I.freeC x c e
 ·obtain⟨r,f⟩:=j.pin p D;obtain⟨J,L,h3⟩:=I.pin p D;exact⟨J,by rw[bj (l _ _ f)];exact L,h3⟩
 ·by_cases z:b=a
  ·subst z;rw[cj] at e;cases e;refine⟨⟨w,y,N⟩,⟨w,y⟩,fun J L ⟨o,Q,R⟩ k=>⟨o,k o Q,R⟩⟩
  ·rw[bj z] at e;exact(I.hok b u e).stay (fun d v hd q=>q) (fun d q=>i _ _ q) fun d B q=>i _ _ q
theorem Ly{M:Model}{A:Around}{E:Value->Shared->Prop}{i:Nat}{x:Str}{pos:Pos}{Q:Unit->Shared->Prop}(I:Inv X pins Y H s)(G:X.N.Nodup)(J:X.N[i]? = some x)(a:X.env.scope.names.lookup x=some .local)
  (h:∀B,Inv X pins (Y.set i none) H B->Q () B):wpAny M A (do bindName X.env x .none;unbindBehindTheSuite X.env x pos) Q E s:=by
 obtain⟨m,C,L⟩:=id I.loc;have l:(X.env.scope.kind==.class||(X.env.scope.kind==.module&&X.env.locals != X.env.globals))=false:=by rw[I.ok.kind];rfl
 have cne:=I.cne;obtain⟨oL,_,_,O,_⟩:=id C;refine wpAny_nameGoes_keeps a C l fun h' v t f=>h _ ⟨I.ok,I.os,I.bare,⟨fun b o e n w a=>?_,fun b o e n w a=>?_,I.base.free,fun b o e a=>?_,I.base.tups,I.base.frzs,I.base.tbls⟩,⟨_,t,fun j y R g S T=>?_⟩,fun y c e=>?_,I.free,I.freeC,fun p U=>?_,fun b ob e=>?_,?_⟩
 ·exact(f.2 b (Nat.ne_of_lt (Nat.lt_of_lt_of_le (bB e) I.ok.above))).trans (I.base.keep b o e n w a)
 ·obtain⟨sl,g⟩:=I.base.slot b o e n w a;exact⟨sl,(f.2 b (Nat.ne_of_lt (Nat.lt_of_lt_of_le (bB e) I.ok.above))).trans g⟩
 ·obtain⟨Z,g⟩:=I.base.there b o e a;exact⟨Z,(f.2 b (Nat.ne_of_lt (Nat.lt_of_lt_of_le (bB e) I.ok.above))).trans g⟩
 ·rcases gS S with⟨_,z,_⟩ | ⟨hj,u⟩
  ·cases z
  ·obtain⟨u',r',q⟩:=L j y R g u T;refine⟨u',r',?_⟩;rcases q with⟨k,e⟩ | ⟨k,c,e,z⟩
   ·refine .inl ⟨k,?_⟩;have:y≠x:=fun e=>hj (ue G g (e▸J));simp[this,e]
   ·exact .inr ⟨k,c,e,z.sameBut f (cne y c e)⟩
 ·obtain⟨D,z⟩:=I.cell y c e;exact⟨D,z.sameBut f (cne y c e)⟩
 ·obtain⟨e,n,ne,nf,d⟩:=I.pin p U;exact⟨(f.2 p.1 ne).trans e,n,ne,nf,d⟩
 ·refine(I.hok b ob e).stay (fun c D r q=>(f.2 c ?_).trans q) (fun _ q=>q) fun _ _ q=>q;rintro rfl;rcases r with rfl | r
  ·rw[I.free] at e;cases e
  ·rw[I.free] at r;cases r
 ·rw[List.length_set];exact I.len
end
section
variable{K:Frag}{F:Fx}{H H':Hp}{Y Y':St}{U U':ai}{O O':List Addr}{W:List (List Addr)}
noncomputable def Fx.here(F:Fx)(H:Hp)(L:List Addr):Fx:=⟨H,L,F.O₀,F.I₀⟩
theorem bT.here(st:bT K F H Y U W):bT K (F.here H W.flatten) H Y U W:=⟨st.at_,st.nd,fun _ _ _ e=>e,fun _ h=>.inl h,st.live,st.len,st.lw,st.io⟩
theorem vE(st:bT K F H Y U W){a:Addr}(h:a∈W.flatten\/H a=none):a∈F.A₀\/F.H₀ a=none:=by
 rcases h with h | h
 ·exact st.new a h
 ·by_cases b:a∈F.A₀
  ·exact .inl b
  ·refine .inr ?_;cases e:F.H₀ a with
   | none=>rfl
   | some o=>have:=st.kept a o b e;rw[h] at this;cases this
theorem dQ{fp:List Addr}(st:bT K F H Y U W)(c:aC K ((F.here H W.flatten).plus fp) H' Y' U' O'):aC K (F.plus fp) H' Y' U' O':=by
 obtain⟨f,h,e⟩:=c;refine⟨f,⟨h.at_,h.nd,fun b o d e=>h.kept b o (fun z=>?_) (st.kept b o d e),fun a g=>vE st (h.new a g),h.live,h.len,h.lw,h.io⟩,e⟩;rcases st.new b z with q | q
 ·exact d q
 ·rw[show F.H₀ b=some o from e] at q;cases q
theorem Lz(c:aC K (F.here H W.flatten) H' Y' U' O'):aP (W.flatten++F.O₀) H O' H':=by
 obtain⟨g,h,rfl⟩:=c;refine⟨fun b o f e=>h.kept b o (fun z=>f (br _ z)) e,fun a d=>?_⟩;rcases List.mem_append.mp d with z | z
 ·exact(h.new a z).imp (br _) id
 ·exact .inl (bi _ z)
theorem fQ.here{D:eO}{e:el}(st:bT K F H Y U W)(f:fQ K F O H D e):fQ K (F.here H W.flatten) O H D e:=
 ⟨fun Y' H' U' O' d b q=>f.nx Y' H' U' O' (dQ (fp:=[]) st d) b q,fun v Y' H' c U' O' g r b q=>f.rt v Y' H' c U' O' g ⟨dQ st r.st,r.at_,fun a h=>vE st (r.new a h)⟩ b q,
  fun Y' H' U' O' d b q=>f.bk Y' H' U' O' (dQ (fp:=[]) st d) b q,fun Y' H' U' O' d b q=>f.ct Y' H' U' O' (dQ (fp:=[]) st d) b q⟩
theorem aC.clear(st:aC K F H Y U O)(i:Nat):∃O',aC K F H Y (U.set i none) O'/\aP O H O' H:=by
 obtain⟨W,h,rfl⟩:=st;have sub:∀a∈(W.set i []).flatten,a∈W.flatten:=fun a d=>by
  rcases fN d with z | ⟨j,l,_,e,m⟩
  ·cases z
  ·exact ca e m
 have f:aP (W.flatten++F.O₀) H ((W.set i []).flatten++F.O₀) H:=gd fun a d=>by
  rcases List.mem_append.mp d with z | z
  ·exact br _ (sub a z)
  ·exact bi _ z
 refine⟨_,⟨W.set i [],⟨fun j c e=>?_,nP h.nd List.nodup_nil (fun a d=>by cases d),h.kept,fun a d=>h.new a (sub a d),fun a d=>h.live a ?_,by rw[List.length_set];exact h.len,by rw[List.length_set,List.length_set];exact h.lw,fun j b e=>?_⟩,rfl⟩,f⟩
 ·rcases gS e with⟨_,z,_⟩ | ⟨k,g⟩
  ·cases z
  ·obtain⟨v,n,h1,h2,h3⟩:=h.at_ j c g;exact⟨v,n,h1,by rw[List.getElem?_set_ne (Ne.symm k)];exact h2,h3.keep f (fun _ _=>rfl) fun _ _ _ e=>e⟩
 ·rcases List.mem_append.mp d with z | z
  ·exact br _ (sub a z)
  ·exact bi _ z
 ·rcases gS e with⟨_,z,_⟩ | ⟨k,g⟩
  ·cases z
  ·exact h.io j b g
end
noncomputable def iP(l:List Str)(i:Nat)(b e:SM):SM:=fun U=>match b U with
 | .ex c f=>if c∈l then(match e (f.set i (some (.exc c))) with | .rt d a=>.rt d (a.set i none) | _=>.bad) else .bad
 | o=>o
section
variable{X:Cx}{F:Fx}{E:Str->ai->Prop}
theorem LA{l:List Str}{D a:Addr}{c:Str}{C:Value}{g:Heap}{O:Option Value}{np e:Pos}{p:Option Str}{G:Stmt}{i:List Stmt}{d:List (Addr×Obj)}{Y:St}{H:Hp}{s:Shared}{Q:Flow->Shared->Prop}{k:Value->Shared->Prop}
  (t:XT X.K X.mg l D) (R:Gl X "DueError") (j:X.stack=X.env::X.outer) (u:X.env.frame=some X.env.locals) (S:c∈l) (J:Inv X d Y H s) (T:jW X d g) (ex:eU g H s.heap a C O) (U:X.mg c=some C)
  (h:∀v,Inv X d Y H v->eU g H v.heap a C (some .none)->codeAny (model X.prog X.w) (X.A.mark (some (.ref a))) (.handlers (.ref a) [.ExceptHandler none p (G::i) e] X.env) (fun r m=>match r with
     | .ok f=>(match p with
      | none=>Q f m
      | some n=>wpAny (model X.prog X.w) X.A (do bindName X.env n .none;unbindBehindTheSuite X.env n e) (fun _ y=>Q f y) k m)
     | .error x=>cameBackBy (model X.prog X.w) X.A X.env k x m) v) :
  wpAny (model X.prog X.w) X.A (noteFrame (.ref a) X.env) (fun _ m=>wpAny (model X.prog X.w) X.A (setFlight (.ref a) none) (fun _ y=>wpAny (model X.prog X.w) X.A (handleBy (.ref a) X.env [.ExceptHandler (some (.Name "DueError" np)) p (G::i) e]) Q k y) k m) k s:=by
 have Z:X.A.frames=some (X.env::X.outer):=by rw[J.ok.frames,j]
 have stk:s.heap.FunFrames X.base (X.env::X.outer):=by have:=J.stack;rw[j] at this;exact this
 have hb:∀b,s.heap.get? b=none->H b=none:=fun b z=>bJ.some_of J.hok z;refine Ah (base:=X.base) Z stk u hb ex fun h1 I x1=>?_;refine uV (s:={ s with heap:=h1 }) (fs:=bN (X.env::X.outer)) none (uW (I.frames (fun _ h=>h) stk)) x1 fun h2 c2 L=>?_;have o:Inv X d Y H { s with heap:=h2 }:=J.ch T (by rw[j];exact I.trans c2);refine wpAny_handleBy_cons (codeAny_handlers_test ?_) (by intro q;cases q);have J3:=o.re (X.A.mark (some (.ref a))) false X.xe rfl (fun z=>by cases z);refine me (X:=lq X (X.A.mark (some (.ref a))) false (X.pn++d) X.xe) J3 R t.top.mg ?_ (by decide);obtain⟨M,N,hu,_⟩:=t.at_ S;have eC:C=.ref M:=Option.some.inj (U.symm.trans N.mg);obtain⟨oe,vs,a0,he,B,_⟩:=L.ob;refine Lx (C:=M) (vD o.kIn N.ex) (vD o.kIn t.top.ex) (fun hC=>Lw o.kIn hu hC) he (B.trans eC) ?_;exact h _ o L
theorem LB{l:List Str}{D:Addr}{i:Nat}{n:Str}{np M pos:Pos}{body k:List Stmt}{b₀:Stmt}{mb mh:SM}(xt:XT X.K X.mg l D)(hg:Gl X "DueError")(y:X.stack=X.env::X.outer)(a0:X.env.frame=some X.env.locals)(hN:X.N.Nodup)(hi:X.N[i]? = some n)(hn:X.env.scope.names.lookup n=some .local)
  (hG:GF X.mg F) (hb:∀Q pn Z R,eV (lq X X.A X.calm pn Z) Q R->PassesOwn (model X.prog X.w) X.A X.env Z->jq (lq X X.A X.calm pn Z) Q R body mb)
  (hs:∀Q e pn Z,GF X.mg Q->jq (lq X (X.A.mark (some e)) false pn Z) Q gp (b₀::k) mh) :
  FS X F E (.Try body [.ExceptHandler (some (.Name "DueError" np)) (some n) (b₀::k) M] [] [] pos) (iP l i mb mh):=fun b s Y H D' I ⟨U,O,DD,st,q,f⟩=>by
 obtain⟨W,m,rfl⟩:=id st;have S:GF X.mg (F.here H W.flatten):=(hG.at st).frame fun a h=>m.live a (br _ h);let R:Str->ai->Prop:=fun c T=>c∈l/\∃d j,mh (T.set i (some (.exc c)))=.rt d j/\DD.rt d (j.set i none);have q1:cg R mb DD U:=by
  unfold cg iP at q;unfold cg;generalize mb U=o at q ⊢;cases o with
  | ex c T=>
   simp only at q
   by_cases G:c∈l
   ·rw[if_pos G] at q;refine⟨G,?_⟩;generalize mh (T.set i (some (.exc c)))=o2 at q ⊢;cases o2 with
    | rt d j=>exact⟨d,j,rfl,q⟩
    | _=>exact q.elim
   ·rw[if_neg G] at q;exact q.elim
  | _=>exact q
 refine wpAny_Try_except ?_;refine aT (hb (F.here H W.flatten) (X.pn++b) _ R ?_ PassesOwn.looking [] s Y H D' (I.re X.A X.calm _ rfl I.ok.hd) ⟨U,_,DD,⟨W,m.here,rfl⟩,q1,f.here m⟩) fun fw s1 h=>?_
 ·refine⟨S,?_⟩;intro a1 Y' H' s' e c T O' ⟨J1,a,C,g,fl,e1,cv,ex,hm⟩ t ⟨G,d,j,a2,hd⟩;subst e1;have J:Inv X b Y' H' s':=J1.unre I.ok;have B:jW X b g:=⟨cv.s0,cv.loc,cv.cell,fun p hp=>cv.pin p (br _ hp)⟩
  have a3:i<T.length:=by rw[t.lenE,J.len];exact(List.getElem?_eq_some_iff.mp hi).1
  refine LA xt hg y a0 G J B ex hm fun L J3 x3=>codeAny_handlers_suite_as ?_;have stk:L.heap.FunFrames X.base (X.env::X.outer):=by have:=J3.stack;rw[y] at this;exact this
  refine uV (s:=L) (fs:=bN (X.env::X.outer)) none (uW stk) x3 fun h4 c4 x4=>?_;have J4:Inv X b Y' H' { L with heap:=h4 }:=J3.ch B (by rw[y];exact c4);have J5:=J4.caught B x4;obtain⟨C',ec,_⟩:=xt.at_ G;have eC:C=.ref C':=Option.some.inj (hm.symm.trans ec.mg);refine uf J5 hN hi (.inl hn) (v:=.ref a) rfl (fun s5 J6=>?_) (.inr hn);have sm:=bX (o:=.ext fun h=>∃o,h.get? a=some o/\o.cls=C) ex.un;have na:a∉O':=t.nofree a ex.un;have cell:ek X.K (aN H' a (.ext fun h=>∃o,h.get? a=some o/\o.cls=C)) O' (.ref a) (.exc c) []:=⟨a,_,rfl,iH cj na,fun h ⟨o,z1,z2⟩=>⟨C',o,ec.ns,z1,z2.trans eC⟩⟩
  obtain⟨O6,a4,s6⟩:=aC.put1 (io:=false) (F:=F.here H W.flatten) (fp:=[]) (i:=i) (t.grow sm) cell (fun _ z=>by cases z) a3 (fun _ z=>by cases z);have step:aP (W.flatten++F.O₀) H O6 _:=(Lz t).trans ((aP.same sm).trans s6);refine aT (hs (F.here H W.flatten) (.ref a) (X.pn++b) _ S [] s5 _ _ ⟨fun _ _=>False,D'.rt,fun _ _=>False,fun _ _=>False⟩ (J6.re (X.A.mark (some (.ref a))) false _ rfl (fun z=>by cases z)) ⟨_,O6,⟨fun _=>False,fun d j=>DD.rt d (j.set i none),fun _=>False,fun _=>False⟩,a4,?_,?_⟩) fun fw s6 h6=>?_
  ·unfold cg;rw[a2];exact hd
  ·refine⟨fun _ _ _ _ _ _ z=>z.elim,fun v Y2 H2 c2 U2 O2 fp r s2 qq=>?_,fun _ _ _ _ _ _ z=>z.elim,fun _ _ _ _ _ _ z=>z.elim⟩;have r2:aC X.K (F.plus fp) H2 Y2 U2 O2:=dQ m r.st;obtain⟨O3,r3,L⟩:=r2.clear i;exact f.rt v Y2 H2 c2 _ O3 fp ⟨r3,r.at_.keep L (fun _ _=>rfl) (fun _ _ _ e=>e),fun x hx=>vE m (r.new x hx)⟩ (step.trans (s2.trans L)) qq
  ·cases fw with
   | next=>obtain⟨_,_,_,z⟩:=h6;exact z.elim
   | brk=>obtain⟨_,_,_,z⟩:=h6;exact z.elim
   | cont=>obtain⟨_,_,_,z⟩:=h6;exact z.elim
   | ret u=>obtain⟨v,Y7,H7,J8,r8,q8⟩:=h6;exact Ly (J8.unre I.ok) hN hi hn fun s9 J9=>⟨v,_,H7,J9,r8,q8⟩
 ·cases fw with
  | next=>exact wpAny_execs_nil (qT I.ok h)
  | brk=>exact qT I.ok h
  | cont=>exact qT I.ok h
  | ret u=>exact qT I.ok h
end
structure cA (k:Nat) (A:Around):Prop where
 dp:A.depth+3 * k+5<recursionLimit
 un:A.units+16 * k+200<cLine
theorem bx.h{k:Nat}{A:Around}(r:bx k A)(v:Option Value):cA k (A.mark v):=⟨r.dp,r.un⟩
theorem cA.deeper{k:Nat}{A:Around}(r:cA (k+1) A)(a:Env):cA k (A.deeper a):=
 ⟨by have:=r.dp;show A.depth+1+3 * k+5<_;omega,by have:=r.un;show A.units+3+16 * k+200<_;omega⟩
structure eZ (P:Program) (w:World) (K:Frag) (mg:Str->Option Value) (base:Heap) (CX:fJ) (k:Nat) (f:Addr) (fd:FuncData) (ps:List Str) (sp:Sp):Prop where
 len:∀vs H Q E,sp vs H Q E->vs.length=ps.length
 run:∀(A:Around) (outer:List Env) (s:Shared) (H:Hp) (args:Args) (us:List Value) (vs:List V) (Q:VK) (E:XK),cA k A->dX P w K mg base A outer s H->BindsTo s fd args (ps.zip us)->be vs us->sp vs H Q E->
  codeAny (model P w) A (.call (.ref f) args) (CR CX outer P w H s Q E) s
noncomputable abbrev lr(d:fJ)(P:Program)(w:World)(K:Frag)(g:Str->Option Value)(base:Heap)(N:List Str)(c:Str)(a:Scope)(f:Addr)(e:Value)(A:Around)(b:List Env)(s:Shared)(H:Hp)(E:XK):Cx:=
 { jh d P w K g base N c a f e A b s H E with calm:=false }
theorem LC{k:fJ}{P:Program}{w:World}{K:Frag}{j:Str->Option Value}{base:Heap}{N e:List Str}{c:Str}{a:Scope}{f:Addr}{g:Value}{A:Around}{b:List Env}{s l:Shared}{H:Hp}{E:XK}{h:List Value}{i:List V}
  (S:aa N e a) (d:dX P w K j base A b s H) (m:i.length=e.length) (r:be i h)
  (x:InCallC s s.heap.objs.size (bindL (envOfC c a s.heap.objs.size f g).kindOf (e.zip h) fun _=>none) (cellsFrom (s.heap.objs.size+1) a.names []) (bindC (envOfC c a s.heap.objs.size f g).kindOf (e.zip h) fun _=>none) l) :
  Inv (lr k P w K j base N c a f g A b s H E) [] (start N i) H l:=by
 have n:dX P w K j base { A with handled:=none } b s H:=⟨d.frames,d.mod,d.bs,d.bsz,d.funs,d.frf,d.hok,d.bare⟩
 have I:=yP (CX:=k) (E:=E) (qual:=c) (f:=f) (cd:=g) S rfl n m r x;exact⟨⟨I.ok.mod,I.ok.kind,I.ok.glob,I.ok.blt,I.ok.above,I.ok.inj,I.ok.has,I.ok.cab,(fun z=>by cases z),I.ok.frames,I.ok.stk,I.ok.exf,I.ok.bs,I.ok.bsz,I.ok.noex,I.ok.exfs,I.ok.funs,I.ok.frf⟩,I.os,I.bare,I.base,I.loc,I.cell,I.free,I.freeC,I.pin,I.hok,I.len⟩
theorem LD{D:fJ}{P:Program}{w:World}{K:Frag}{M:Str->Option Value}{base:Heap}{k:Nat}{f:Addr}{name d:Str}{h:Arguments}{body:List Stmt}{a:Scope}{dV kV z pm g ct oc:Value}{Z od:Option Addr}
  {O:Array (Option Value)}{N G:List Str}{R:Sp}(lk:K.lookup f=some ⟨oc,od,.func (fnOf name d h body a dV kV z pm Z g ct),O⟩) (T:codeIn K g d=true) (S:aa N G a)
  (len:∀i H Q E,R i H Q E->i.length=G.length)
  (l:∀(A:Around) (c:List Env) (s:Shared) (H:Hp) (i:List V) (Q:VK) (E:XK),cA k (A.deeper (envOfC d a s.heap.objs.size f g))->R i H Q E->
   ∃t,PSs (lr D P w K M base N d a f g A c s H E) body t/\t { nx:=fun _ j=>Q .non j,rt:=Q } (start N i) H) :
  eZ P w K M base D (k+1) f (fnOf name d h body a dV kV z pm Z g ct) G R:=by
 refine⟨len,fun A c s H args us i Q E hr B hb r C=>?_⟩;have hl:=len _ _ _ _ C;have KX:K.In s.heap:=B.mod.kin.keeps fun b o e=>(B.bs b o e).1;have U:s.heap.NoLimit:=B.mod.nolimit.keeps fun b o e=>(B.bs b o e).1;have m:∀y∈G.zip us,a.names.lookup y.1=some .local\/(a.names.lookup y.1=some .cell/\((cellsFrom (s.heap.objs.size+1) a.names []).lookup y.1).isSome=true):=fun⟨n,v⟩ hy=>by
  rcases S.par n (List.of_mem_zip hy).1 with q | q
  ·exact .inl q
  ·exact .inr ⟨q,PySem.W.cellsFrom_some _ _ _ (.inl q)⟩
 refine codeAny_call_function (by have:=hr.dp;omega) (KX _ _ lk) rfl S.co S.gen rfl (PySem.W.codeRec_of KX T) (hb _ _ _ _ ?_);refine wpAny_newFunctionEnv_cells S.kind m fun a0 he s1 x=>?_;subst he;refine⟨U.keeps x.toInCall.keep,codeAny_func ?_⟩;obtain⟨t,ht,hq⟩:=l A c s H i Q E (hr.deeper _) C;have I:Inv (lr D P w K M base N d a f g A c s H E) [] (start N i) H s1:=LC S B hl r x;refine wpAny_mono (ht [] s1 (start N i) H _ I hq) (fun fl X p=>?_) fun e X p=>p;have fin:∀{L:St}{j:Hp}{v:V}{u:Value},Inv (lr D P w K M base N d a f g A c s H E) [] L j X->bd v u->Q v j->CE c P w H s Q u X:=
  fun {L j v u} J Y q=>⟨v,j,J.os,J.bare,J.base,J.hok,Y,q⟩
 cases fl with
 | ret u=>obtain⟨v,L,j,J,Y,q⟩:=p;exact fin J Y q
 | next=>obtain⟨L,j,J,q⟩:=p;exact fin (v:=V.non) (u:=Value.none) J rfl q
 | brk=>obtain⟨_,_,_,q⟩:=p;exact False.elim q
 | cont=>obtain⟨_,_,_,q⟩:=p;exact False.elim q
theorem LF{P:Program}{w:World}{K:Frag}{m:Str->Option Value}{base:Heap}{N:List Str}{i:Str}{d:Scope}{f:Addr}{j:Value}{A:Around}{h:List Env}{s:Shared}{H:Hp}{E:XK}{F:Fx}{n:Str->ai->Prop}
  (v:GF m F) (x:∀c C p y r B,m c=some C->aC K F r y p B->n c p->E C none r):eV (lr (ba P w) P w K m base N i d f j A h s H E) F n:=by
 refine⟨v,?_⟩;intro t Y k D e c U O ⟨I,a,C,g,R,G,u,ex,L⟩ st q;subst G;have M:(A.deeper (envOfC i d s.heap.objs.size f j)).frames=some (envOfC i d s.heap.objs.size f j::h):=I.ok.frames;have hb:∀b,D.heap.get? b=none->k b=none:=fun b z=>bJ.some_of I.hok z;have stk:bN (envOfC i d s.heap.objs.size f j::h)=s.heap.objs.size::bN h:=rfl;refine Ai (base:=base) M I.stack rfl hb ex fun S ch l=>?_;have J:=I.ch u ch;refine⟨a,C,k,rfl,J.os,J.bare,J.base,J.hok,l.weak fun b o Q=>u.s0 b o Q (by intro z;cases z),x c C U Y k O L st q⟩
section
variable{P:Program}{w:World}{K:Frag}{mg:Str->Option Value}{base:Heap}{x qual:Str}{st:Stmt}{f:Addr}{fd:FuncData}{N ps:List Str}{k:Nat}{m:SM}
theorem LG(Fn:kU K x qual st f fd)(S:aa N ps (bh st))(hN:ps.length<=N.length)
  (Z:∀(y:Value) (A:Around) (t:List Env) (s:Shared) (H:Hp) (E:XK) (F:Fx) (Y:Str->ai->Prop),cA k (A.deeper (envOfC qual (bh st) s.heap.objs.size f y))->eV (lr (ba P w) P w K mg base N qual (bh st) f y A t s H E) F Y->
   gz (lr (ba P w) P w K mg base N qual (bh st) f y A t s H E) F (ij st) (cg Y m)):eZ P w K mg base (ba P w) (k+1) f fd ps (bf K mg (bp ps.length N.length m)):=by
 obtain⟨oc,od,kV,a3,pm,an,y,ct,a4,rfl,lk,a0⟩:=Fn.ex;have G:∀B H Q E,bf K mg (bp ps.length N.length m) B H Q E->B.length=ps.length:=fun B H Q E ⟨_,l,u,O₀,L,_,_,q⟩=>by
  rw[L.len.1];unfold bp at q
  by_cases h:l.length=ps.length
  ·exact h
  ·rw[if_neg h] at q;exact q.elim
 refine LD lk a0 S G fun A t s H B Q E hr M=>?_;have a5:=G B H Q E M;obtain⟨gh,l,u,O₀,L,nd,live,q⟩:=M;obtain⟨l1,l2⟩:=L.len;have O:l.length=ps.length:=by omega
 let F:Fx:=⟨H,u.flatten,O₀,lb B⟩
 have R:=Al (N:=N) L nd live (by omega);have fin:∀{T:St}{j:Hp}{n:ai}{J:List Addr}{fp:List Addr}{g:List Bx},aC K (F.plus fp) j T n J->(∀a∈fp,a∈F.A₀\/F.H₀ a=none)->cy l n = some g->∃d,aU j (d.flatten++fp++O₀) B l g d/\gf H j u.flatten (d.flatten++fp) O₀/\aP J j (d.flatten++fp++O₀) j:=by
  rintro T j n J fp g ⟨W,p,rfl⟩ a1 ho;obtain⟨d,o,sb⟩:=qw p l B 0 g l1 (fun i io b e=>L.ios i io b e) ho;have X:d.flatten.Sublist W.flatten:=sb;have sub:(d.flatten++fp++O₀).Sublist (W.flatten++(fp++O₀)):=by rw[List.append_assoc];exact List.Sublist.append X (List.Sublist.refl _)
  have D:aP (W.flatten++(fp++O₀)) j (d.flatten++fp++O₀) j:=gd fun a h=>sub.subset h;refine⟨d,o.mono D,⟨p.nd.sublist sub,fun a h=>p.live a (sub.subset (br _ h)),fun b o hb e=>p.kept b o hb e,fun a h=>?_⟩,D⟩;rcases List.mem_append.mp h with h | h
  ·exact p.new a (X.subset h)
  ·exact a1 a h
 have a2:bp ps.length N.length m l=(match m (gA N.length ps.length l) with
  | .nx U=>(match cy l U with | some o=>.rt (.dat .none) o | none=>.bad)
  | .rt c U=>(match cy l U with | some o=>.rt c o | none=>.bad)
  | .ex c U=>(match cy l U with | some o=>.ex c o | none=>.bad)
  | _=>.bad):=by unfold bp gA;rw[if_pos O]<;>rfl
 rw[a2] at q;rw[O] at R;let Y:Str->ai->Prop:=fun c n=>∃g,cy l n = some g/\∀C j d,mg c=some C->aU j (d.flatten++O₀) B l g d->gf H j u.flatten d.flatten O₀->E C none j;refine⟨_,Z y A t s H E F Y hr (LF (gh.frame fun a h=>live a (br _ h)) fun c C n T j J I p ⟨g,ho,k⟩=>?_),?_⟩
 ·obtain⟨d,o,b,_⟩:=fin (fp:=[]) p (fun a h=>by cases h) ho;rw[List.append_nil] at o b;exact k C j d I o b
 ·refine⟨gA N.length ps.length l,_,⟨fun n=>∃g,cy l n = some g/\∀j d,aU j (d.flatten++[]++O₀) B l g d->gf H j u.flatten (d.flatten++[]) O₀->Q .non j,fun c n=>∃g,cy l n = some g/\∀v j fp d,ek K j (d.flatten++fp++O₀) v c fp->aU j (d.flatten++fp++O₀) B l g d->gf H j u.flatten (d.flatten++fp) O₀->Q v j,fun _=>False,fun _=>False⟩,⟨_,R,rfl⟩,?_,?_⟩
  ·unfold cg;cases I:m (gA N.length ps.length l) with
   | nx n=>
    rw[I] at q;cases ho:cy l n with
    | none=>simp[ho] at q
    | some g=>simp only[ho] at q;exact⟨g,ho,fun j d o b=>q .non j [] d .non o b⟩
   | rt c n=>
    rw[I] at q;cases ho:cy l n with
    | none=>simp[ho] at q
    | some g=>simp only[ho] at q;exact⟨g,ho,q⟩
   | ex c n=>
    rw[I] at q;cases ho:cy l n with
    | none=>simp[ho] at q
    | some g=>simp only[ho] at q;exact⟨g,ho,q⟩
   | bk n=>rw[I] at q;exact q
   | ct n=>rw[I] at q;exact q
   | bad=>rw[I] at q;exact q
  ·refine⟨fun T j n J p s' ⟨g,ho,k⟩=>?_,fun v T j c n J fp r s' ⟨g,ho,k⟩=>?_,fun _ _ _ _ _ _ z=>z.elim,fun _ _ _ _ _ _ z=>z.elim⟩
   ·obtain⟨d,o,b,_⟩:=fin (fp:=[]) p (fun a h=>by cases h) ho;exact k j d o b
   ·obtain⟨d,o,b,D⟩:=fin r.st r.new ho;exact k v j fp d (r.at_.keep D (fun _ _=>rfl) (fun _ _ _ e=>e)) o b
end
section
variable{X:Cx}{F:Fx}{e:Expr}{es:List Expr}{tX:gB}{E:Str->ai->Prop}{pos p:Pos}{x:Str}{f:FM}{k:Nat}{g:Addr}{fd:FuncData}{ps:List Str}
theorem LH{m:List (Addr×Obj)}{Y:St}{H:Hp}{s:Shared}{Q:VK}{L:List Value}{T:List V}{as:List AX}{U:ai}{O:List Addr}{QC:ag->ai->Prop}(hx:eV X F E)(G:eZ X.prog X.w X.K X.mg X.base (ba X.prog X.w) k g fd ps (bf X.K X.mg f))(hr:cA k X.A)(hb:gP X.K fd ps [])
  (I:Inv X m Y H s) (r:be T L) (st:aC X.K F H Y U O) (ax:cQ Y (aw O H) T as) (q:gi f E QC as U) (hQ:∀c M,QC c M->∀v b Z N,gy X.K F b Y M Z v c N->aP O H Z b->Q v b) :
  wpAny (model X.prog X.w) X.A (call (.ref g) L) (EP X m Y Q) X.xe s:=by
 unfold gi at q;cases hc:gC U as with
 | none=>rw[hc] at q;exact q.elim
 | some p=>
  obtain⟨cs,js⟩:=p;rw[hc] at q;simp only at q;obtain⟨i,O2,a0,ar,s1,a8,nw,ja⟩:=qy st as T cs js hc ax;obtain⟨W,y,a1⟩:=id a0;have a4:(W.flatten++(i.flatten++F.O₀)).Nodup:=y.nd;have l:∀a,a∈O2↔a∈i.flatten++(W.flatten++F.O₀):=fun a=>by
   rw[a1];show a∈W.flatten++(i.flatten++F.O₀)↔_;simp only[List.mem_append];constructor
   ·rintro(h | h | h)<;>simp[h]
   ·rintro(h | h | h)<;>simp[h]
  have perm:(i.flatten++(W.flatten++F.O₀)).Perm (W.flatten++(i.flatten++F.O₀)):=by rw[<-List.append_assoc,<-List.append_assoc];exact List.Perm.append_right _ List.perm_append_comm
  have a2:(i.flatten++(W.flatten++F.O₀)).Nodup:=perm.nodup_iff.mpr a4;have a5:aP O2 H (i.flatten++(W.flatten++F.O₀)) H:=gd fun a h=>(l a).mpr h;have R:∀(b:Hp) (n:List Addr) (a:Addr),(a∈n++(W.flatten++F.O₀))->a∈n\/(a∈O2/\a∉i.flatten):=fun b n a h=>by
   rcases List.mem_append.mp h with h | h
   ·exact .inl h
   ·refine .inr ⟨(l a).mpr (bi _ h),fun z=>?_⟩;exact(List.nodup_append.mp a2).2.2 a z a h rfl
  have j:∀(b:Hp) (n:List Addr),gf H b i.flatten n (W.flatten++F.O₀)->∃B,aC X.K (F.plus n) b Y (eX js U) B/\aP O2 H B b/\∀a,a∈B↔a∈n++(W.flatten++F.O₀):=fun b n t=>by
   obtain⟨B,t1,t2,t3,t4,t5⟩:=a0.swap (H':=b) (L':=n) t.keep (List.nodup_append.mp t.nd).1 t.new nw t.live;refine⟨B,t1,t2,fun a=>⟨fun h=>?_,fun h=>?_⟩⟩
   ·rcases t4 a h with z | ⟨z1,z2⟩
    ·exact br _ z
    ·rcases List.mem_append.mp ((l a).mp z1) with z | z
     ·exact absurd z z2
     ·exact bi _ z
   ·rcases R b n a h with z | ⟨z1,z2⟩
    ·exact t3 a z
    ·exact t5 a z1 z2
  have r2:be (T++[]) (L++[]):=by rw[List.append_nil,List.append_nil];exact r
  let EX:XK:=fun C _ b=>∃c M Z,X.mg c=some C/\aC X.K F b Y M Z/\E c M;have sp:bf X.K X.mg f T H Q EX:=by
   refine⟨hx.1.at st,cs,i,W.flatten++F.O₀,ar.mono a5,a2,fun a h=>?_,?_⟩
   ·exact y.live a (by have:=(l a).mpr h;rw[a1] at this;exact this)
   ·cases hf:f cs with
    | bad=>rw[hf] at q;exact q
    | rt c a3=>
     rw[hf] at q;simp only at q ⊢;intro v b N d a6 S t;obtain⟨B,t1,t2,t3⟩:=j b (d.flatten++N) t;have D:aP (d.flatten++N++(W.flatten++F.O₀)) b B b:=gd fun a h=>(t3 a).mp h;have J:∀a∈d.flatten++N,a∈F.A₀\/F.H₀ a=none:=fun a h=>by
      rcases t.new a h with z | z
      ·exact nw a z
      ·by_cases hA:a∈F.A₀
       ·exact .inl hA
       ·refine .inr ?_;cases e:F.H₀ a with
        | none=>rfl
        | some o=>have:=y.kept a o hA e;rw[z] at this;cases this
     have lj:(eX js U).length=U.length:=qx;obtain⟨O4,u1,u2⟩:=qz (fp:=N) ja lj t1 (S.mono D) fun a h=>J a (br _ h);exact hQ c _ q v b O4 N ⟨u1,a6.keep (D.trans u2) (fun _ _=>rfl) (fun _ _ _ e=>e),fun a h=>J a (bi _ h)⟩ (s1.trans (t2.trans u2))
    | ex c a3=>
     rw[hf] at q;simp only at q ⊢;intro C b d hm S t;obtain⟨B,t1,t2,t3⟩:=j b d.flatten t;have D:aP (d.flatten++(W.flatten++F.O₀)) b B b:=gd fun a h=>(t3 a).mp h;have J:∀a∈d.flatten,a∈F.A₀\/F.H₀ a=none:=fun a h=>by
      rcases t.new a h with z | z
      ·exact nw a z
      ·by_cases hA:a∈F.A₀
       ·exact .inl hA
       ·refine .inr ?_;cases e:F.H₀ a with
        | none=>rfl
        | some o=>have:=y.kept a o hA e;rw[z] at this;cases this
     have lj:(eX js U).length=U.length:=qx;obtain⟨O4,u1,u2⟩:=qz (fp:=[]) ja lj (by rw[List.append_nil];exact t1) (S.mono D) J;exact⟨c,_,O4,hm,u1,q⟩
  have hl:(L++[]).length=ps.length:=by rw[List.append_nil,<-r.length];exact G.len _ _ _ _ sp
  refine wpAny_call (codeAny_mono (G.run X.A X.stack s H ⟨L,[]⟩ L T Q EX hr I.env0 (by have:=hb s L I.kIn hl;rw[List.append_nil] at this;exact this) r sp) fun r s' hq=>?_);cases r with
  | error e=>obtain⟨a,C,b,e1,I',cv,ex,c,M,Z,hm,a7,hE⟩:=I.flies hq;exact hx.2 m Y b s' e c M Z ⟨I',a,C,s.heap,_,e1,cv,ex,hm⟩ a7 hE
  | ok fl=>
   cases fl with
   | ret u=>exact I.after hq
   | next=>exact False.elim hq
   | brk=>exact False.elim hq
   | cont=>exact False.elim hq
theorem LI(Z:eV X F E)(G:eZ X.prog X.w X.K X.mg X.base (ba X.prog X.w) k g fd ps (bf X.K X.mg f))(L:cA k X.A)(M:Gl X x)(N:X.mg x=some (.ref g))(R:keepIn X.K (.ref g)=true)(hb:gP X.K fd ps [])
  (o:DX X F (e::es) tX) (t:(x==("__debug__":Str))=false:=by decide) (S:starEach (e::es) X.env=(false,eval e X.env)::starEach es X.env:=by rfl) (u:(backTo pos (starEach es X.env)).any (·.1)=false:=by rfl) :
  DO X F (.Call (.Name x p) (e::es) [] pos) (uZ f E tX):=by
 refine⟨fun U Q Q' k q=>o.mn _ _ _ (fun as b i=>An k i) q,fun j s Y H Q I ⟨U,O,st,q⟩=>?_⟩;refine wpAny_Call_Name_kw (me I M N ?_ t);refine PySem.W.callWith_K (h₀:=X.base) I.ok.mod.kin R (aT (o.pa pos j s Y H (fun y l=>∃as b d,aC X.K F l Y b d/\aP O H d l/\cQ Y (aw d l) y as/\gi f E (fun c D=>∀v m n z,gy X.K F m Y D n v c z->aP O H n m->Q v m) as b) I ⟨U,O,st,o.mn _ _ _ (fun as b i y l d a J B=>⟨as,b,d,a,J,B,i⟩) q⟩) fun us J ⟨y,l,I1,r,as,b,d,a,C,B,i⟩=>⟨I1.kIn,?_⟩) S u;exact LH Z G L hb I1 r a B i fun c D h v m n z res T=>h v m n z res (C.trans T)
end
end L2.L3
namespace L2.L3
open PySem PySem.Spec PyProof.Rows Builtin Builtin.ObjectAttr Builtin.Getset_descriptor
section
variable{prog:Program}{w:World}{A:Around}{E:Value->Shared->Prop}{K:Frag}{h:Heap}{g:Array GenState}{d:Drawn}{t:Nat}{os:OsState}{a C:Addr}{o:Obj}
theorem LJ{Q:Option Value->Shared->Prop}(X:K.In h)(p:h.get? a=some o)(e:o.cls=.ref C)(f1:findIn K (.ref C) "__getattribute__" = some (some (.builtin "BaseException.__getattribute__")))
  (f2:findIn K (.ref C) "__class__" = some (some (.builtin "object.__class__"))) (f:findIn K (.ref C) "__getattr__" = some none) (i:mroIn K C (.type "BaseException")=some true) (j:mroIn K C (.type "object")=some true)
  (q:Q (some (.ref C)) ⟨h,g,d,t+1,os⟩):wpAny (model prog w) A (getAttr? (.ref a) "__class__") Q E ⟨h,g,d,t,os⟩:=by
 have b:PySem.W.Looks (model prog w) h (typeOf (.ref a)) (.ref C):=e▸(PySem.W.Looks.ld p).andThen .now;have k:=PySem.W.looks_findIn (M:=model prog w) X f1;have L2:=PySem.W.looks_findIn (M:=model prog w) X f;have L3:=PySem.W.looks_findIn (M:=model prog w) X f2;have l:=PySem.W.looks_mroIn (M:=model prog w) X i;have c:=PySem.W.looks_mroIn (M:=model prog w) X j;have g3:=F.attrBase_ValueError.ga.bind (.ref a);unfold getAttr? getAttrBy? getAttrBy;refine al (wpAny_mkText (al (wpAny_attempt (wpAny_holding (al (b.at (al (k.at ?_))))))));show wpAny _ _ (getAttrByItsOwn _ _ _ _ _ _) _ _ _;unfold getAttrByItsOwn
 repeat (any_goals (first | assumption | with_reducible refine b.at ?_ | with_reducible refine L2.at ?_ | wp_step))
 refine codeAny_call_builtin F.attrBase_ValueError.ga.plain F.entry_bexc_ga ?_;have m:builtinKind "BaseException.__getattribute__" = some .slot:=by decide +kernel
 have n:splitId "BaseException.__getattribute__" = some ("BaseException","__getattribute__"):=by decide +kernel
 have r:=F.args_bexc_ga (.ref a) (.str "__class__" t);simp only[checkBuiltinCall,m,n];refine al ?_;unfold isInstance
 repeat (any_goals (first | assumption | with_reducible refine b.at ?_ | with_reducible refine l.at ?_ | wp_step))
 have s:typeOf (.builtin "object.__class__")=pure (.type "getset_descriptor"):=PySem.W.KF.type_class;have u:=F.slot_gs_get.lookup;have v:=F.slot_gs_set.lookup
 repeat (any_goals (first | assumption | with_reducible refine b.at ?_ | with_reducible refine L3.at ?_ | wp_step))
 refine codeAny_call_builtin PySem.W.KF.slot_gs.plain PySem.W.KF.entry_gs (PySem.W.KF.slot_gs.check _ _ _ _ _ _ _ _ PySem.W.KF.type_class (PySem.W.KF.args_gs _ _ _) ?_);unfold Builtin.«getset_descriptor.__get__» descrGet;rw[PySem.W.dga_obj];refine al (aV ?_);unfold descrGetter descrCheckInstance descrNameAndClass isInstance;simp only[PySem.W.KF.owner_class]
 repeat (any_goals (first | assumption | with_reducible refine b.at ?_ | with_reducible refine c.at ?_ | wp_step))
 refine⟨Code.quiet_builtin _ (by decide +kernel),codeAny_builtin PySem.W.KF.entry_class ?_⟩;unfold Builtin.«object.__class__» PySem.shownTypeOf
 repeat (any_goals (first | assumption | with_reducible refine b.at ?_ | with_reducible refine c.at ?_ | wp_step))
theorem LL(f:ox K C=true)(m:(clsIn K C).isSome=true):PySem.W.KitX K (.ref a) (.ref C) (fun h=>∃o,h.get? a=some o/\o.cls=.ref C):=by
 unfold ox at f;simp only[Bool.and_eq_true,beq_iff_eq] at f;obtain⟨⟨⟨⟨f1,f2⟩,p⟩,r⟩,u⟩:=f;obtain⟨z,b⟩:=Option.isSome_iff_exists.mp m;unfold clsIn at b;split at b
 ·rename_i B D G H l;refine⟨fun M h X ⟨o,c,i⟩=>i▸(PySem.W.Looks.ld c).andThen .now,fun M h X _=>?_,fun h v R x n S X j=>?_,fun {prog w A E Q s} X ⟨o,c,i⟩ k=>?_⟩
  ·intro I J L N k q;unfold isType loadHead;exact al (wpAny_loadPart (k _ _ (X _ _ l)) (aV q))
  ·refine Bool.eq_false_iff.mpr fun q=>?_;have e:C=v:=Value.ref.inj (beq_iff_eq.mp q);subst e;have y:=(X _ _ l).symm.trans j;cases y
  ·obtain⟨O,g,d,t,os⟩:=s;exact LJ X c i f1 f2 p r u k
 ·cases b
end
end L2.L3
namespace L2.L3
open PySem PySem.Spec PyProof.Rows
noncomputable def iQ:Value->V
 | .bool b=>.bl b
 | .int i _=>.int i
 | .str x _=>.str x
 | _=>.non
theorem Bt{v:V}{z:Value}(r:bd v z)(f:eR v=true):iQ z=v:=by
 cases v with
 | non=>cases r;rfl
 | bl b=>cases r;rfl
 | int i=>obtain⟨t,rfl⟩:=r;rfl
 | str i=>obtain⟨t,rfl⟩:=r;rfl
 | _=>cases f
theorem vF{A:Around}{s:Shared}{y:V}{u:Value}(e:bd y u)(f:eR y=true):∀{c:List V}{a:List Value},be c a->c.all eR=true->(∀z∈a,SeqAt.EqAt A s z u (dg (iQ z) y))/\a.map iQ=c
 | _,_,.nil,_=>⟨(fun _ h=>nomatch h),rfl⟩
 | _,_,.cons h t,b=>by
  rw[List.all_cons,Bool.and_eq_true] at b;obtain⟨g,h2⟩:=vF (A:=A) (s:=s) e f t b.2;refine⟨fun z d=>?_,?_⟩
  ·rcases List.mem_cons.mp d with rfl | d
   ·rw[Bt h b.1];exact zc h e b.1 f
   ·exact g z d
  ·rw[List.map_cons,h2,Bt h b.1]
section
variable{X:Cx}{F:Fx}{E:Str->ai->Prop}{e a b c:Expr}{es:List Expr}{st:Stmt}{rest:List Stmt}{pos:Pos}{x:Str}
noncomputable def Bu:V->List V->Hp->VK->Prop:=fun x f H Q=>∃l d y,x=.ref l/\f=[y]/\H l=some (.lst d)/\d.all eR=true/\eR y=true/\Q (.int (d.countP fun z=>dg z y:Nat)) H
theorem LM:qa X "list.count" Bu:=by
 intro f s Y H x w v B Q I g i h;obtain⟨l,j,y,rfl,rfl,k,m,o,q⟩:=h;cases g;obtain⟨u,rfl,ru⟩:=i.one;obtain⟨z,d,n,r,C,e⟩:=I.lstM k;obtain⟨t,h2⟩:=vF (A:=X.A.in1) (s:=s) ru o r m;refine call_meets F.slot_list_count ⟨_,e,rfl⟩ F.entry_list_count (F.args_list_count_2 _ _) (SeqAt.list_countAt l d.toArray n none #[] u fun z=>dg (iQ z) y) ⟨e,fun z p=>t z (by simpa using p),?_⟩;refine⟨.int _,H,I.tok _,⟨_,rfl⟩,?_⟩;have:d.countP (fun z=>dg (iQ z) y)=j.countP fun z=>dg z y:=by rw[<-h2,List.countP_map];rfl
 rw[this];exact q
noncomputable def Bv:V->List V->Hp->VK->Prop:=fun x f H Q=>∃l d y,x=.ref l/\f=[y]/\H l=some (.lst d)/\d.all eR=true/\eR y=true/\(d.findIdx fun z=>dg z y)<d.length/\Q (.int (d.findIdx fun z=>dg z y:Nat)) H
theorem LN:qa X "list.index" Bv:=by
 intro k s Y H x J v L Q I o p h;obtain⟨l,f,y,rfl,rfl,t,B,C,g,q⟩:=h;cases o;obtain⟨u,rfl,ru⟩:=p.one;obtain⟨z,d,n,r,M,e⟩:=I.lstM t;obtain⟨G,h2⟩:=vF (A:=X.A.in1) (s:=s) ru C r B;have gt:∀m (i:m<d.length),dg (iQ d[m]) y=dg (f[m]'(by omega)) y:=fun m i=>by
  have:f[m]'(by omega)=iQ d[m]:=by subst h2;simp
  rw[this]
 have big:((f.findIdx fun z=>dg z y:Nat):Int)<2 ^ 63 - 1:=by
  have:sizeLine<2 ^ 62:=by decide
  omega
 refine call_meets F.slot_list_index ⟨_,e,rfl⟩ F.entry_list_index (F.args_list_index_2 _ _) (SeqAt.list_indexAt l d.toArray n none #[] u (fun z=>dg (iQ z) y) (f.findIdx fun z=>dg z y) (by rw[List.size_toArray];omega) big ?_ ?_) ⟨e,fun z D=>G z (by simpa using D),?_⟩
 ·show dg (iQ d[f.findIdx fun z=>dg z y]) y=true;rw[gt _ (by omega)];exact List.findIdx_getElem (w:=g)
 ·intro m i h;have j:m<d.length:=by simpa using i
  show dg (iQ d[m]) y=false;rw[gt m j];have:=List.not_of_lt_findIdx h;simpa using this
 ·exact⟨.int _,H,I.tok _,⟨_,rfl⟩,q⟩
@[simp] noncomputable def Bw:ag->Option (List PyData)
 | .dat (.list ds)=>some ds
 | .own _ (.l ds)=>some ds
 | _=>none
@[simp] noncomputable def ls(U:ai)(i:Nat):Option (List PyData):=match U[i]? with
 | some (some c)=>Bw c
 | _=>none
theorem By{K:Frag}{H:Hp}{Y:St}{U:ai}{O:List Addr}{i:Nat}{g:List PyData}(st:aC K F H Y U O)(h:ls U i=some g):∃p f,Y[i]? = some (some (.ref p))/\H p=some (.lst f)/\aK (aw O H) f g:=by
 unfold ls at h;split at h
 ·rename_i c e;unfold Bw at h;split at h
  ·cases h;obtain⟨v,hv,hd⟩:=st.dat e;obtain⟨p,d,rfl,j,hx⟩:=hd.lst_inv;exact⟨p,d,hv,(cY j).1,hx⟩
  ·cases h;obtain⟨p,l,hv,⟨_,d,k,hx⟩,_⟩:=st.box e;exact⟨p,d,hv,k,hx⟩
  ·cases h
 ·cases h
@[simp] noncomputable def jy:PyData->Option V
 | .none=>some .non
 | .bool b=>some (.bl b)
 | .int i=>some (.int i)
 | .str x=>some (.str x)
 | _=>none
@[simp] noncomputable def iR:List PyData->Option (List V)
 | []=>some []
 | d::r=>(match jy d,iR r with | some v,some l=>some (v::l) | _,_=>none)
theorem oy{G:Hp}{v w:V}{d:PyData}(h:DV G v d)(e:jy d=some w):v=w/\eR v=true:=by
 cases d with
 | none=>cases e;rw[h.non_inv];exact⟨rfl,rfl⟩
 | bool b=>cases e;rw[h.bl_inv];exact⟨rfl,rfl⟩
 | int b=>cases e;rw[h.int_inv];exact⟨rfl,rfl⟩
 | str b=>cases e;rw[h.str_inv];exact⟨rfl,rfl⟩
 | _=>cases e
theorem oz{G:Hp}:∀{f i:List V}{g:List PyData},aK G f g->iR g=some i->f=i/\f.all eR=true
 | [],_,[],.nil,e=>by cases e;exact⟨rfl,rfl⟩
 | v::f,_,d::g,.cons h t,e=>by
  unfold iR at e;cases h1:jy d with
  | none=>rw[h1] at e;cases e
  | some w=>
   cases h2:iR g with
   | none=>rw[h1,h2] at e;cases e
   | some l=>rw[h1,h2] at e;cases e;obtain⟨j,f1⟩:=oy h h1;obtain⟨k,f2⟩:=oz t h2;exact⟨by rw[j,k],by rw[List.all_cons,f1,f2];rfl⟩
@[simp] noncomputable def qU(f:List PyData)(y:PyData):Option PyData:=match iR f,jy y with
 | some d,some w=>some (.int (d.countP fun z=>dg z w:Nat))
 | _,_=>none
@[simp] noncomputable def qV(f:List PyData)(y:PyData):Option PyData:=match iR f,jy y with
 | some d,some w=>if (d.findIdx fun z=>dg z w)<d.length then some (.int (d.findIdx fun z=>dg z w:Nat)) else none
 | _,_=>none
@[simp] noncomputable def Bz(g:List PyData->PyData->Option PyData)(i:Nat)(d:PyData):XM PyData:=fun U=>lift (match ls U i with
 | some ds=>g ds d
 | none=>none) U
@[simp] noncomputable def qW(g:List PyData->PyData->Option PyData)(i:Nat)(m:XM PyData):XM PyData:=fun U=>match ls U i with
 | some _=>(m U).bind (Bz g i)
 | none=>.bad
theorem BA{i:Nat}{m:XM PyData}{s apos f:Pos}{I:Str}{id:String}{r:V->List V->Hp->VK->Prop}{g:List PyData->PyData->Option PyData}(slot:Slot "list" I id)(J:typeOf (.builtin id)=pure (.type "method_descriptor"))(hm:qa X id r)
  (hg:∀G l Z D y d z H Q,H l=some (.lst Z)->aK G Z D->DV G y d->g D d=some z->(∀u,DV G u z->Q u H)->r (.ref l) [y] H Q)
  (hv:PE X (.Name x s) (bU i)) (he:FE X F E e m)
  (j:attributeBase (.Name x s) I X.env (eval (.Name x s) X.env)=eval (.Name x s) X.env:=by rfl)
  (t:((backTo f (starEach [e] X.env)).all (fun x=>!x.1)&&(backToKw f (keywordEach [] X.env)).all (fun x=>x.1.isSome)&&decide (([e]:List Expr).length+([]:List Keyword).length+(if ([]:List Keyword).isEmpty then 0 else 1)<30))=true:=by rfl)
  (n:(apos.endLine==f.line)=true:=by rfl) (hs:starEach [e] X.env=(false,eval e X.env)::starEach [] X.env:=by rfl) (h:(backTo f (starEach [] X.env)).any (·.1)=false:=by rfl) :
  FE X F E (.Call (.Attribute (.Name x s) I apos) [e] [] f) (qW g i m):=
 ⟨aH,(qe PySem.F.plainAttrs_list slot J hm hv (ej he.pe eQ hs) j t n hs h).imp fun Y H Q ⟨U,O,st,q⟩=>by
  unfold wp qW at q;cases L:ls U i with
  | none=>rw[L] at q;exact q.elim
  | some a0=>
   rw[L] at q;obtain⟨p,M,v,N,_⟩:=By st L;refine⟨_,v,.inl ⟨rfl,M,.of N⟩,U,O,st,aH _ _ _ (fun d R q1 w H1 O1 A s1 d1=>?_) (bO (m:=m) (k:=Bz g i) q)⟩;obtain⟨z,C,q2⟩:=cZ (o:=match ls R i with | some D=>g D d | none=>none) (U:=R) (E:=E) q1;cases h1:ls R i with
   | none=>rw[h1] at C;cases C
   | some a1=>
    rw[h1] at C;obtain⟨p',a2,B,S,T⟩:=By A h1;rw[v] at B;cases B;exact hg _ _ _ _ _ _ _ _ _ S T d1 C fun u hu=>q2 u H1 O1 A s1 hu⟩
theorem LO:∀G l f g y d z H Q,H l=some (.lst f)->aK G f g->DV G y d->qU g d=some z->(∀u,DV G u z->Q u H)->Bu (.ref l) [y] H Q:=fun G l f g y d z H Q h j i e q=>by
 unfold qU at e;split at e
 ·rename_i k w h1 h2;cases e;obtain⟨rfl,f1⟩:=oz j h1;obtain⟨rfl,f2⟩:=oy i h2;exact⟨l,f,y,rfl,rfl,h,f1,f2,q _ (.int _)⟩
 ·cases e
theorem LP:∀G l f g y d z H Q,H l=some (.lst f)->aK G f g->DV G y d->qV g d=some z->(∀u,DV G u z->Q u H)->Bv (.ref l) [y] H Q:=fun G l f g y d z H Q h k i e q=>by
 unfold qV at e;split at e
 ·rename_i m w h1 h2;split at e
  ·rename_i j;cases e;obtain⟨rfl,f1⟩:=oz k h1;obtain⟨rfl,f2⟩:=oy i h2;exact⟨l,f,y,rfl,rfl,h,f1,f2,j,q _ (.int _)⟩
  ·cases e
 ·cases e
end
section
variable{X:Cx}{F:Fx}{E:Str->ai->Prop}{e a b c:Expr}{es:List Expr}{st:Stmt}{rest:List Stmt}{pos:Pos}{x:Str}
@[simp] noncomputable def jz(U:ai)(i:Nat):Option (Bool×List PyData):=match U[i]? with
 | some (some (.own io (.l ds)))=>some (io,ds)
 | _=>none
theorem vG{U:ai}{i:Nat}{io:Bool}{d:List PyData}(h:jz U i=some (io,d)):U[i]? = some (some (.own io (.l d))):=by
 unfold jz at h;split at h
 ·rename_i e;cases h;exact e
 ·cases h
@[simp] noncomputable def vH(i:Nat)(d:PyData):SM:=fun f=>match jz f i,d with
 | some (io,ds),.list g=>if ds.length+g.length<=sizeLine then .nx (f.set i (some (.own io (.l (ds++g))))) else .bad
 | _,_=>.bad
@[simp] noncomputable def qX(i:Nat)(m:XM PyData):SM:=fun U=>match jz U i with
 | some _=>en (m U) (vH i)
 | none=>.bad
theorem BB{i:Nat}{m:XM PyData}{n apos g:Pos}(hv:PE X (.Name x n) (bU i))(Z:FE X F E e m)(B:swapsWith (.Call (.Attribute (.Name x n) "extend" apos) [e] [] g) none pos.line X.env=pure false:=by rfl)
  (r:attributeBase (.Name x n) "extend" X.env (eval (.Name x n) X.env)=eval (.Name x n) X.env:=by rfl)
  (u:((backTo g (starEach [e] X.env)).all (fun x=>!x.1)&&(backToKw g (keywordEach [] X.env)).all (fun x=>x.1.isSome)&&decide (([e]:List Expr).length+([]:List Keyword).length+(if ([]:List Keyword).isEmpty then 0 else 1)<30))=true:=by rfl)
  (t:(apos.endLine==g.line)=true:=by rfl) (T:starEach [e] X.env=(false,eval e X.env)::starEach [] X.env:=by rfl) (j:(backTo g (starEach [] X.env)).any (·.1)=false:=by rfl) :
  FS X F E (.Expr (.Call (.Attribute (.Name x n) "extend" apos) [e] [] g) pos) (qX i m):=
 (pS (qe PySem.F.plainAttrs_list PySem.F.slot_list_extend PySem.F.type_list_extend Hr hv (ej Z.pe eQ T) r u t T j) B).imp fun D Y H ⟨U,O,DD,st,q,f⟩=>by
  unfold cg qX at q;cases C:jz U i with
  | none=>rw[C] at q;exact q.elim
  | some p0=>
   obtain⟨a0,a1⟩:=p0;rw[C] at q;obtain⟨p,fp,v,⟨_,xs,hH,_⟩,_,_⟩:=st.box (vG C);refine⟨_,v,.inl ⟨rfl,xs,.of hH⟩,U,O,st,aH _ _ _ (fun d U1 h w H1 O1 I s1 d1=>?_) (fU (m:=m) (k:=vH i) q)⟩;unfold cg vH at h;cases h1:jz U1 i with
   | none=>rw[h1] at h;exact h.elim
   | some n=>
    obtain⟨a2,y⟩:=n;rw[h1] at h;cases d with
    | list S=>
     simp only at h;obtain⟨p',a3,z,⟨e1,J,L,hd⟩,hO,up⟩:=I.box (vG h1);rw[v] at z;cases z;subst e1;obtain⟨b,M,rfl,hb,A⟩:=d1.lst_inv
     by_cases N:y.length+S.length<=sizeLine
     ·rw[if_pos N] at h;refine⟨p,b,J,M,rfl,rfl,L,(cY hb).1,by rw[hd.length,A.length];exact N,?_⟩;obtain⟨O2,Q,s2,_⟩:=up (aN H1 p (.lst (J++M))) (.l (y++S)) [p] (fun c o R e=>by rw[bj (by simpa using R)];exact e) (by simp) (fun c R=>.inl R) (fun G O' s hG _=>by
       subst hG;exact⟨s.hid,rfl,J++M,cj,(aK.mono s.hid hd).append (aK.mono s.hid A)⟩)
      exact f.nx _ _ _ _ Q (s1.trans s2) h
     ·rw[if_neg N] at h;exact h.elim
    | _=>exact h.elim
noncomputable def LQ(K:Frag):List V->Hp->VK->Prop:=fun d H Q=>∃a φ C w b,d=[.ref a,w]/\H a=some (.ext φ)/\(∀h,φ h->∃o,h.get? a=some o/\o.cls=.ref C)/\ox K C=true/\(clsIn K C).isSome=true/\(∀u,bd w u->kitOne K (.ref C) u=some b)/\Q (.bl b) H
theorem BC:ib X (.builtin "isinstance") (LQ X.K):=by
 intro d s Y H l m Q I r h;obtain⟨a,φ,C,w,b,rfl,f,g,at_,cl,e,q⟩:=h;obtain⟨u,n,rfl,i,j⟩:=ic r;cases i;obtain⟨p,_,_⟩:=(show cD X.prog X.w H s.heap a (.ext φ) from I.hok a _ f)
 exact kia_one (LL at_ cl) I.kIn (g _ p) (e _ j) (fun z=>nomatch z) fun k=>⟨.bl b,H,I.tok k,rfl,q⟩
theorem BD{K:Frag}{C:Addr}{l:List Value}{n:String}(h:excIn K C l n=true):(clsIn K C).isSome=true:=by
 unfold excIn at h;unfold clsIn;split at h
 ·rename_i e;rw[e];rfl
 ·cases h
@[simp] noncomputable def mG(U:ai)(i:Nat):Option Str:=match U[i]? with
 | some (some (.exc c))=>some c
 | _=>none
theorem BE{U:ai}{i:Nat}{c:Str}(h:mG U i=some c):U[i]? = some (some (.exc c)):=by
 unfold mG at h;split at h
 ·rename_i e;cases h;exact e
 ·cases h
@[simp] noncomputable def gE(i:Nat)(l:List Str)(cls:Str):XM PyData:=fun U=>match mG U i with
 | some c=>if c∈l/\cls∈l then .ok (.bool (c==cls)) U else .bad
 | none=>.bad
@[simp] noncomputable def vI(i:Nat)(l:List Str):XM PyData:=fun U=>match mG U i with
 | some c=>if c∈l then .ok (.bool true) U else .bad
 | none=>.bad
theorem BF{K:Frag}{m:Str->Option Value}{H:Hp}{Y:St}{U:ai}{O:List Addr}{i:Nat}{c:Str}{C:Addr}(st:aC K F H Y U O)(h:U[i]? = some (some (.exc c)))(f:EC K m c C):∃a φ,Y[i]? = some (some (.ref a))/\H a=some (.ext φ)/\∀h,φ h->∃o,h.get? a=some o/\o.cls=.ref C:=by obtain⟨W,g,rfl⟩:=st;obtain⟨v,n,h1,h2,a,φ,rfl,h3,j⟩:=g.at_ i _ h;refine⟨a,φ,h1,(cY h3).1,fun h p=>?_⟩;obtain⟨q,o,d,k,l⟩:=j h p;rw[f.ns] at d;cases d;exact⟨o,k,l⟩
theorem iq{l:List Str}{D:Addr}{i:Nat}{cls:Str}{p f d:Pos}(t:XT X.K X.mg l D)(h:Gl X "isinstance")(j:X.mg "isinstance" = none)(L:PE X (.Name x f) (bU i))(k:Gl X cls)(m:cls∈l)(n:(cls==("__debug__":Str))=false:=by decide)
  (w:starEach [.Name x f,.Name cls d] X.env=(false,eval (.Name x f) X.env)::starEach [.Name cls d] X.env:=by rfl) (o:starEach [.Name cls d] X.env=(false,eval (.Name cls d) X.env)::starEach [] X.env:=by rfl) (r:(backTo pos (starEach [.Name cls d] X.env)).any (·.1)=false:=by rfl) :
  FE X F E (.Call (.Name "isinstance" p) [.Name x f,.Name cls d] [] pos) (gE i l cls):=by
 obtain⟨y,z,_⟩:=t.at_ m;refine⟨aH,(mi BC h j (show bootBuiltins "isinstance" = some (.builtin "isinstance") by decide +kernel) (ej L (ej (yl (v:=.ref y) k z.mg rfl n) eQ o) w) (by decide) (by decide) w r).imp fun Y H Q ⟨U,O,st,q⟩=>?_⟩;unfold wp gE at q;cases s:mG U i with
 | none=>rw[s] at q;exact q.elim
 | some c=>
  rw[s] at q
  by_cases g:c∈l/\cls∈l
  ·simp only[if_pos g] at q;obtain⟨C,A,_,at_,_,B⟩:=t.at_ g.1;obtain⟨D2,G,M,I⟩:=B cls g.2;have J:D2=y:=by have:=z.mg.symm.trans G;cases this;rfl
   subst J;obtain⟨a,φ,h1,h2,h3⟩:=BF st (BE s) A;exact⟨_,h1,a,φ,C,.ref D2,_,rfl,h2,h3,at_,BD A.ex,fun u ru=>by cases ru;exact I,q _ H O st .refl (.bl _)⟩
  ·simp only[if_neg g] at q
theorem LR{l:List Str}{D:Addr}{i:Nat}{p f d:Pos}(w:XT X.K X.mg l D)(g:Gl X "isinstance")(h:X.mg "isinstance" = none)(z:PE X (.Name x f) (bU i))(j:Gl X "ValueError")(k:X.mg "ValueError" = none)
  (s:starEach [.Name x f,.Name "ValueError" d] X.env=(false,eval (.Name x f) X.env)::starEach [.Name "ValueError" d] X.env:=by rfl) (m:starEach [.Name "ValueError" d] X.env=(false,eval (.Name "ValueError" d) X.env)::starEach [] X.env:=by rfl) (n:(backTo pos (starEach [.Name "ValueError" d] X.env)).any (·.1)=false:=by rfl) :
  FE X F E (.Call (.Name "isinstance" p) [.Name x f,.Name "ValueError" d] [] pos) (vI i l):=by
 refine⟨aH,(mi BC g h (show bootBuiltins "isinstance" = some (.builtin "isinstance") by decide +kernel) (ej z (ej (iB (v:=.ty "ValueError") j k (show bootBuiltins "ValueError" = some (.type "ValueError") by decide +kernel) rfl) eQ m) s) (by decide) (by decide) s n).imp fun Y H Q ⟨U,O,st,q⟩=>?_⟩;unfold wp vI at q;cases o:mG U i with
 | none=>rw[o] at q;exact q.elim
 | some c=>
  rw[o] at q
  by_cases r:c∈l
  ·simp only[if_pos r] at q;obtain⟨C,t,_,at_,y,A⟩:=w.at_ r;obtain⟨a,φ,h1,h2,h3⟩:=BF st (BE o) t;exact⟨_,h1,a,φ,C,.ty "ValueError",_,rfl,h2,h3,at_,BD t.ex,fun u ru=>by cases ru;exact y,q _ H O st .refl (.bl _)⟩
  ·simp only[if_neg r] at q
end
section
variable{X:Cx}{F:Fx}{E:Str->ai->Prop}{e a b c:Expr}{es:List Expr}{st:Stmt}{rest:List Stmt}{pos:Pos}{x:Str}{ma mb mc:XM PyData}
@[simp] noncomputable def dj:=gI fun i j=>.int (i+j)
@[simp] noncomputable def iC:=gI fun i j=>.int (i - j)
@[simp] noncomputable def kh:=oi ka fun i j=>.int (i * j)
@[simp] noncomputable def BG:=oi qE fun i j=>.int (i / j)
@[simp] noncomputable def mH:=oi my fun i j=>.int (i % j)
@[simp] noncomputable def ki:=gI fun i j=>.bool (decide (i<j))
@[simp] noncomputable def qY:=gI fun i j=>.bool (decide (i<=j))
@[simp] noncomputable def fb:=gI fun i j=>.bool (decide (j<i))
theorem eh(d:FE X F E a ma)(f:FE X F E b mb):FE X F E (.BinOp a .Add b pos) (af dj ma mb):=fo jZ (Kr d f)
theorem lu(d:FE X F E a ma)(f:FE X F E b mb):FE X F E (.BinOp a .Sub b pos) (af iC ma mb):=fo jZ (Ks d f)
theorem lv(d:FE X F E a ma)(f:FE X F E b mb):FE X F E (.BinOp a .Mult b pos) (af kh ma mb):=fo (vh KR) (Kt d f)
theorem LS(d:FE X F E a ma)(f:FE X F E b mb):FE X F E (.BinOp a .FloorDiv b pos) (af BG ma mb):=fo (vh KS) (Ku d f)
theorem oA(d:FE X F E a ma)(f:FE X F E b mb):FE X F E (.BinOp a .Mod b pos) (af mH ma mb):=fo (vh KU) (Kv d f)
theorem vJ(d:FE X F E a ma)(f:FE X F E b mb):FE X F E (.BinOp a .Add b pos) (af mz ma mb):=fo KW (Kw d f)
theorem LU(d:FE X F E a ma)(f:FE X F E b mb):FE X F E (.BinOp a .Mult b pos) (af kb ma mb):=fo KY (KP d f)
theorem BH(d:FE X F E a ma)(f:FE X F E b mb):FE X F E (.Compare a [.Lt] [b] pos) (af ki ma mb):=fo jZ (Kx d f)
theorem LV(d:FE X F E a ma)(f:FE X F E b mb):FE X F E (.Compare a [.LtE] [b] pos) (af qY ma mb):=fo jZ (Ky d f)
theorem LW(d:FE X F E a ma)(f:FE X F E b mb):FE X F E (.Compare a [.Gt] [b] pos) (af fb ma mb):=fo jZ (Kz d f)
theorem qZ(d:FE X F E a ma)(f:FE X F E b mb):FB X F E (.Compare a [.Lt] [b] pos) (aJ (af ki ma mb)):=jY jZ (KA d f)
theorem LX(d:FE X F E a ma)(f:FE X F E b mb):FB X F E (.Compare a [.LtE] [b] pos) (aJ (af qY ma mb)):=jY jZ (KB d f)
theorem lx(d:FE X F E a ma)(f:FE X F E b mb):FB X F E (.Compare a [.Gt] [b] pos) (aJ (af fb ma mb)):=jY jZ (KC d f)
theorem jA(d:X.A.units+64<cLine)(f:FE X F E a ma)(g:FE X F E b mb):FE X F E (.Compare a [.Eq] [b] pos) (af (aE false) ma mb):=fo qF (KD d f g)
theorem LY(d:X.A.units+64<cLine)(f:FE X F E a ma)(g:FE X F E b mb):FE X F E (.Compare a [.NotEq] [b] pos) (af (aE true) ma mb):=fo qF (KE d f g)
theorem fu(d:X.A.units+64<cLine)(f:FE X F E a ma)(g:FE X F E b mb):FB X F E (.Compare a [.Eq] [b] pos) (aJ (af (aE false) ma mb)):=jY qF (KG d f g)
theorem kj(d:X.A.units+64<cLine)(f:FE X F E a ma)(g:FE X F E b mb):FB X F E (.Compare a [.NotEq] [b] pos) (aJ (af (aE true) ma mb)):=jY qF (KH d f g)
theorem BI(d:FE X F E a ma)(f:FE X F E b mb):FE X F E (.Compare a [.Is] [b] pos) (af jr ma mb):=fo AM (KJ d f)
theorem ra(d:FE X F E a ma)(f:FE X F E b mb):FE X F E (.Compare a [.IsNot] [b] pos) (af fq ma mb):=fo AN (jP yy zR d f (bv _))
theorem BJ(d:FE X F E a ma)(f:FE X F E b mb):FB X F E (.Compare a [.Is] [b] pos) (aJ (af jr ma mb)):=jY AM (KL d f)
theorem oB(d:FE X F E a ma)(f:FE X F E b mb):FB X F E (.Compare a [.IsNot] [b] pos) (aJ (af fq ma mb)):=jY AN (KM d f)
theorem LZ(d:FE X F E a ma)(h:FE X F E b mb)(f:FE X F E c mc)(g:lastMarks [.LtE,.LtE] [b,c]=false:=by with_unfolding_all rfl):FE X F E (.Compare a [.LtE,.LtE] [b,c] pos) (vj (fun i j=>decide (i<=j)) (fun i j=>decide (i<=j)) ma mb mc):=La (KN d h f g)
@[simp] noncomputable def aB:PyData->PyData->Option PyData:=fun x y=>match x,y with
 | .tuple ds,.int i=>bE ds i
 | .list ds,.int i=>bE ds i
 | _,_=>none
noncomputable def BK:D2:=fun x y Q=>zS x y Q\/zT x y Q
theorem Ma{K:Frag}:eJ (fun x y H Q=>uB K x y H Q\/uA K x y H Q) BK where
 mn:=fun x y Q Q' k h=>h.imp (zV (K:=K).mn x y Q Q' k) (zW (K:=K).mn x y Q Q' k)
 ok:=fun O H u v x y Q hO h1 h2 h=>h.imp (zV.ok O H u v x y Q hO h1 h2) (zW.ok O H u v x y Q hO h1 h2)
theorem Mb:F2 BK aB:=fun x y d Q e q=>by
 unfold aB at e;split at e
 ·exact .inl ⟨_,_,_,rfl,rfl,e,q⟩
 ·exact .inr ⟨_,_,_,rfl,rfl,e,q⟩
 ·cases e
theorem aY(d:FE X F E a ma)(f:FE X F E b mb)(g:mj b:=by intro _ _;rfl):FE X F E (.Subscript a b pos) (af aB ma mb):=fo Mb (Iu (ji.or Hc qc) Ma d f g)
end
noncomputable def vK:Expr->Bool
 | .Starred ..=>true
 | _=>false
theorem vL{e:Expr}{b:List Expr}{a:Env}(h:vK e=false):starEach (e::b) a=(false,eval e a)::starEach b a:=by cases e<;>first | rfl | cases h
section
variable{X:Cx}{F:Fx}{E:Str->ai->Prop}{e a b c:Expr}{es:List Expr}{pos:Pos}{x:Str}
theorem ay{d:XM PyData}{f:XM (List PyData)}(g:FE X F E e d)(h:FA X F E es f)(i:vK e=false:=by rfl):FA X F E (e::es) (aj d f):=Lb g h (vL i)
theorem au{d:XM PyData}{f:XM (List AX)}(g:FE X F E e d)(h:FX X F E es f)(i:vK e=false:=by rfl):FX X F E (e::es) (ao d f):=Lg g h (vL i)
theorem bo{p:Pos}{j:Nat}{d:XM (List AX)}(g:PE X (.Name x p) (bU j))(f:FX X F E es d):FX X F E (.Name x p::es) (aS j d):=Lh g f (vL rfl)
end
noncomputable def bG(f:Str)(v:Fl):List (Str×Fl)->List (Str×Fl)
 | []=>[(f,v)]
 | (g,x)::r=>if g=f then(g,v)::r else(g,x)::bG f v r
noncomputable def eL:Option Fl->Bool
 | none=>true
 | some (.d _)=>true
 | _=>false
noncomputable def cn(C:Addr)(U:ai)(i:Nat):Option (Bool×List (Str×Fl)):=match U[i]? with
 | some (some (.own io (.o a fs)))=>if a = C then some (io,fs) else none
 | _=>none
theorem kl{C:Addr}{U:ai}{i:Nat}{io:Bool}{fs:List (Str×Fl)}(h:cn C U i=some (io,fs)):U[i]? = some (some (.own io (.o C fs))):=by
 unfold cn at h;split at h
 ·rename_i e;split at h
  ·rename_i a;cases h;rw[e,a]
  ·cases h
 ·cases h
section
variable{G H:Hp}
theorem km{b:List (Str×V)}{fs:List (Str×Fl)}{a:List (List Addr)}(h:bb G H b fs a)(f:Str):(b.lookup f=none/\fs.lookup f=none)\/∃v x c,b.lookup f=some v/\fs.lookup f=some x/\fm G H v x c/\c∈a:=by
 induction h with
 | nil=>exact .inl ⟨rfl,rfl⟩
 | @cons n v x c b fs a h1 h2 g=>
  by_cases e:f=n
  ·subst e;exact .inr ⟨v,x,c,by simp[List.lookup],by simp[List.lookup],h1,List.mem_cons_self⟩
  ·have i:(f==n)=false:=by simpa using e
   rw[List.lookup_cons,List.lookup_cons,i];rcases g with q | ⟨j,k,d,l,m,o,p⟩
   ·exact .inl q
   ·exact .inr ⟨j,k,d,l,m,o,bQ _ p⟩
end
theorem BL{α:Type}:∀{W:List (List α)}{i:Nat}{l:List α},W.flatten.Nodup->W[i]? = some l->l.Nodup
 | w::W,0,l,nd,h=>by simp only[List.getElem?_cons_zero,Option.some.injEq] at h;subst h;rw[List.flatten_cons] at nd;exact(List.nodup_append.mp nd).1
 | w::W,i+1,l,nd,h=>by rw[List.flatten_cons] at nd;exact BL (List.nodup_append.mp nd).2.1 (by simpa using h)
theorem aC.boxN{K:Frag}{F:Fx}{H:Hp}{Y:St}{U:ai}{O:List Addr}(st:aC K F H Y U O){i:Nat}{io:Bool}{b:Bx}(e:U[i]? = some (some (.own io b))):∃a n,Y[i]? = some (some (.ref a))/\fZ (aw O H) H a b n/\(∀c∈n,c∈O)/\n.Nodup/\
  ∀(g:Hp) (w:Bx) (f:List Addr),(∀c o,c∉n->H c=some o->g c=some o)->f.Nodup->(∀c∈f,c∈n\/H c=none)->(∀G,(∀p,aP O H p g->G=aw p g->(∀c∈f,c∈p)->bR (aw O H) G/\fZ G g a w f))->
   ∃p,aC K F g Y (U.set i (some (.own io w))) p/\aP O H p g/\(∀c∈p,c∈f\/c∈O):=by
 obtain⟨W,st,rfl⟩:=st;obtain⟨v,n,h1,h2,a,rfl,h3⟩:=st.at_ i _ e;have C:i<U.length:=(List.getElem?_eq_some_iff.mp e).1;have x:i<W.length:=by rw[st.lw];exact C
 refine⟨a,n,h1,h3,fun c d=>br _ (ca h2 d),(BL (List.nodup_append.mp st.nd).1 h2),fun g w f keep Q y R=>?_⟩;have s:W.flatten.Nodup:=(List.nodup_append.mp st.nd).1;have D:∀c∈n,c∉F.O₀:=fun c d z=>(List.nodup_append.mp st.nd).2.2 c (ca h2 d) c z rfl;have I:∀j l c,j≠i->W[j]? = some l->c∈l->g c=H c:=fun j l c r m d=>by obtain⟨o,k,_⟩:=st.live c (br _ (ca m d));rw[k];exact keep c o (fun z=>kW s m h2 r d z) k
 have J:∀c∈F.O₀,g c=H c:=fun c d=>by obtain⟨o,k,_⟩:=st.live c (bi _ d);rw[k];exact keep c o (fun z=>D c z d) k
 have ap:∀c∈f,(∀j l,j≠i->W[j]? = some l->c∉l)/\c∉F.O₀:=fun c d=>by
  rcases y c d with q | q
  ·exact⟨fun j l r m z=>kW s h2 m (Ne.symm r) q z,D c q⟩
  ·refine⟨fun j l _ m z=>?_,fun z=>?_⟩
   ·obtain⟨o,k,_⟩:=st.live c (br _ (ca m z));rw[q] at k;cases k
   ·obtain⟨o,k,_⟩:=st.live c (bi _ z);rw[q] at k;cases k
 have frz:∀c o,c∉W.flatten++F.O₀->H c=some o->g c=some o:=fun c o d L=>keep c o (fun z=>d (br _ (ca h2 z))) L;have A:aP (W.flatten++F.O₀) H ((W.set i f).flatten++F.O₀) g:=⟨frz,fun c h=>by
  rcases List.mem_append.mp h with h | h
  ·rcases fN h with h | ⟨j,l,_,m,B⟩
   ·exact(y c h).imp (fun z=>br _ (ca h2 z)) id
   ·exact .inl (br _ (ca m B))
  ·exact .inl (bi _ h)⟩
 have t:∀c∈f,c∈(W.set i f).flatten++F.O₀:=fun c d=>br _ (zO x d);have u:=(R _ _ A rfl t).2;obtain⟨E,M⟩:=st.put (H':=g) (i:=i) (v:=.ref a) (c:=.own io w) (fp:=f) C I J frz Q ap (fun c d=>(y c d).imp (fun z=>ca h2 z) id) (fun c d=>u.live c d) (fun _=>⟨a,rfl,u⟩) (fun S z=>by cases z;have:=st.io i b e;rw[h1] at this;exact(Option.some.inj (Option.some.inj this)));have N:Y.set i (some (.ref a))=Y:=by
  apply List.ext_getElem?;intro j
  by_cases r:j=i
  ·subst r;rw[List.getElem?_set_self (List.getElem?_eq_some_iff.mp h1).1,h1]
  ·rw[List.getElem?_set_ne (Ne.symm r)]
 rw[N] at E;refine⟨_,⟨_,E,rfl⟩,M,fun c d=>?_⟩;rcases List.mem_append.mp d with d | d
 ·rcases fN d with d | ⟨j,l,_,m,B⟩
  ·exact .inl d
  ·exact .inr (br _ (ca m B))
 ·exact .inr (bi _ d)
theorem bb.len{G H:Hp}{b:List (Str×V)}{fs:List (Str×Fl)}{a:List (List Addr)}(h:bb G H b fs a):b.length=fs.length:=by
 induction h with
 | nil=>rfl
 | cons _ _ c=>simp[c]
theorem bb.putD{G p H H':Hp}{r:List (Str×V)}{fs:List (Str×Fl)}{a:List (List Addr)}{f:Str}{v:V}{d:PyData}(h:bb G H r fs a)(i:eL (fs.lookup f)=true)(hd:DV p v d)(g:bR G p)(k:∀c∈a.flatten,H' c=H c) :
  bb p H' (ck f v r) (bG f (.d d) fs) (if (fs.lookup f).isSome=true then a else a++[[]]):=by
 induction h with
 | nil=>exact .cons ⟨rfl,hd⟩ .nil
 | @cons n w x C r fs a h1 h2 t=>
  unfold ck bG
  by_cases e:n=f
  ·subst e;have u:List.lookup n ((n,x)::fs)=some x:=by simp[List.lookup]
   rw[u] at i ⊢;rw[if_pos rfl,if_pos rfl];have s:=h2.keep (H':=H') (fun c j=>k c (by simp only[List.flatten_cons,List.mem_append];exact .inr j)) g;cases x with
   | d y=>obtain⟨rfl,_⟩:=h1;exact .cons ⟨rfl,hd⟩ s
   | l ds=>cases i
   | m D A=>cases i
  ·have B:(f==n)=false:=by simpa using fun z=>e z.symm
   rw[List.lookup_cons,B] at i ⊢;rw[if_neg e,if_neg e];have o:=h1.keep (H':=H') (fun c j=>k c (by simp only[List.flatten_cons,List.mem_append];exact .inl j)) g;have b:=t i fun c j=>k c (by simp only[List.flatten_cons,List.mem_append];exact .inr j);simp only at b ⊢;split
   ·rename_i q;rw[if_pos q] at b;exact .cons o b
   ·rename_i q;rw[if_neg q] at b;exact .cons o b
section
variable{X:Cx}{F:Fx}{E:Str->ai->Prop}{e a b c:Expr}{es:List Expr}{st:Stmt}{pos p1:Pos}{x f:Str}{C:Addr}{i:Nat}
noncomputable def cw(C:Addr)(i:Nat)(f:Str):XM PyData:=fun U=>match cn C U i with
 | some (_,fs)=>(match fs.lookup f with
  | some (.d d)=>.ok d U
  | _=>.bad)
 | none=>.bad
theorem dk(cl:dq X.K C)(h:cX X.K C f)(w:PE X (.Name x p1) (bU i))(z:attributeBase (.Name x p1) f X.env (eval (.Name x p1) X.env)=eval (.Name x p1) X.env:=by rfl):FE X F E (.Attribute (.Name x p1) f pos) (cw C i f):=
 ⟨aH,(mf w z).imp fun Y H Q ⟨U,O,st,q⟩=>by
  unfold wp cw at q;cases ho:cn C U i with
  | none=>rw[ho] at q;exact q.elim
  | some p=>
   obtain⟨io,fs⟩:=p;rw[ho] at q;simp only at q;obtain⟨j,A,g,⟨k,n,o,B,r,D,s⟩,_,_⟩:=st.box (kl ho);rcases km s f with⟨l1,l2⟩ | ⟨v,y,t,l1,l2,l3,_⟩
   ·rw[l2] at q;exact q.elim
   ·rw[l2] at q;cases y with
    | d d=>exact⟨_,g,j,C,k,n,v,rfl,r,cl,h,l1,q v H O st (.refl ..) l3.2⟩
    | l ds=>exact q.elim
    | m G u=>exact q.elim⟩
noncomputable def fx(C:Addr)(i:Nat)(f:Str)(d:PyData):SM:=fun U=>match cn C U i with
 | some (io,fs)=>if fs.length<1000/\eL (fs.lookup f)=true then .nx (U.set i (some (.own io (.o C (bG f (.d d) fs))))) else .bad
 | none=>.bad
noncomputable def cJ(C:Addr)(i:Nat)(f:Str)(m:XM PyData):SM:=fun U=>en (m U) (fx C i f)
theorem fy{m:XM PyData}{h:Pos}(cl:dq X.K C)(L:cX X.K C f)(hv:PE X (.Name x p1) (bU i))(M:FE X F E e m)(hs:swapsWith e (some (.Attribute (.Name x p1) f h)) pos.line X.env=pure false:=by rfl):FS X F E (.Assign [.Attribute (.Name x p1) f h] e pos) (cJ C i f m):=
 (pY hv M.pe hs).imp fun D Y H ⟨U,O,DD,st,q,N⟩=>⟨U,O,st,aH _ _ _ (fun d Q g I R O1 t S T=>by
  unfold cg fx at g;cases ho:cn C Q i with
  | none=>rw[ho] at g;exact g.elim
  | some p=>
   obtain⟨io,fs⟩:=p;rw[ho] at g;simp only at g
   by_cases j:fs.length<1000/\eL (fs.lookup f)=true
   ·rw[if_pos j] at g;obtain⟨r,fp,u,⟨n,v,l,Z,e2,e3,J⟩,hO,nd,up⟩:=t.boxN (kl ho);subst Z;obtain⟨y,_⟩:n≠r/\True:=⟨fun z=>by subst z;simp at nd,trivial⟩
    refine⟨_,u,r,C,n,v,rfl,e2,cl,L,by rw[J.len];exact j.1,?_⟩;obtain⟨O3,A,s3,_⟩:=up (aN R r (.ins C n (ck f I v))) (.o C (bG f (.d d) fs)) (r::n::l.flatten) (fun c o B e=>by rw[bj (fun z=>B (by simp[z]))];exact e) nd (fun c j=>.inl j) (fun G O' s hG _=>by
     subst hG;refine⟨s.hid,n,ck f I v,if (fs.lookup f).isSome=true then l else l++[[]],?_,cj,by rw[bj y];exact e3,?_⟩
     ·split
      ·rfl
      ·simp
     ·refine J.putD j.2 (DV.mono s.hid T) s.hid fun c j=>bj (fun z=>?_);subst z;exact absurd j (by
       have:=(List.nodup_cons.mp nd).1;exact fun w=>this (bQ _ w)))
    exact N.nx _ _ _ _ A (S.trans s3) g
   ·rw[if_neg j] at g;exact g.elim) (fU (m:=m) (k:=fx C i f) q)⟩
end
section
variable{X:Cx}{F:Fx}{E:Str->ai->Prop}{e:Expr}{es:List Expr}{pos p1 apos p:Pos}{x m:Str}{C:Addr}{i:Nat}{k:Nat}{g:Addr}{fd:FuncData}{ps:List Str}{f:FM}{mX:XM (List AX)}
theorem BM{as:List AX}{d:ai}{Q:ag->ai->Prop}(a:wp E (lg f as) d Q):gi f E Q as d:=by
 unfold wp lg at a;unfold gi;cases j:gC d as with
 | none=>rw[j] at a;exact a
 | some p=>
  obtain⟨l,n⟩:=p;rw[j] at a;simp only at a ⊢;cases h:f l with
  | rt c b=>rw[h] at a;exact a
  | ex c b=>rw[h] at a;exact a
  | bad=>rw[h] at a;exact a
noncomputable def cE(f:FM)(i:Nat)(as:List AX):XM ag:=lg f (.s i::as)
noncomputable def bP(C:Addr)(i:Nat)(m:Str)(f:FM)(mX:XM (List AX)):XM ag:=fun U=>match cn C U i with
 | some (_,fs)=>if fs.lookup m=none then(mX U).bind (cE f i) else .bad
 | none=>.bad
theorem Mc{pl:Sem Bool}(hx:eV X F E)(cl:dq X.K C)(Z:ie X.K C m g)(G:aA X.prog X.w X.K X.mg X.base (ba X.prog X.w) k g fd ps (bf X.K X.mg f))(hr:bx k X.A)(hb:gP X.K fd ps [])(hv:PE X (.Name x p1) (bU i))(ha:FX X F E (e::es) mX)
  (J:starEach (e::es) X.env=(false,eval e X.env)::starEach es X.env:=by rfl) (L:(backTo pos (starEach es X.env)).any (·.1)=false:=by rfl)
  (ht:eval (.Call (.Attribute (.Name x p1) m apos) (e::es) [] pos) X.env=(do
   let ov <-eval (.Name x p1) X.env
   standAt apos.atName
   let(f,first) <-holding [ov] (getMethod ov m pl)
   callWith pos f first (backTo pos (starEach (e::es) X.env)) (backToKw pos (keywordEach [] X.env))):=by rfl) :
  FO X F E (.Call (.Attribute (.Name x p1) m apos) (e::es) [] pos) (bP C i m f mX):=by
 refine⟨aH,fun a s Y H Q I ⟨U,O,st,q⟩=>?_⟩;unfold wp bP at q;cases ho:cn C U i with
 | none=>rw[ho] at q;exact q.elim
 | some p=>
  obtain⟨io,fs⟩:=p;rw[ho] at q;simp only at q
  by_cases M:fs.lookup m=none
  ·rw[if_pos M] at q;obtain⟨b,z,l,⟨dx,gs,a1,e1,e2,e3,e4⟩,_,_⟩:=st.box (kl ho);have hg:gs.lookup m=none:=by
    rcases km e4 m with⟨l1,_⟩ | ⟨_,_,_,_,l2,_⟩
    ·exact l1
    ·rw[M] at l2;cases l2
   refine PySem.W.methodCall_KW (pl:=pl) (aT (hv a s Y H (fun v n=>v=.ref b/\n=H) I ⟨_,l,rfl,rfl⟩) fun u N ⟨v,n,I1,rx,ex,eH⟩=>?_) ht;subst ex eH;obtain rfl:u=Value.ref b:=rx;refine yE I1 e2 cl Z hg ?_;have q':=bO (E:=E) (m:=mX) (k:=cE f i) (U:=U) q;refine PySem.W.callWith_K (first:=[.ref b]) (h₀:=X.base) I.ok.mod.kin Z.kp (aT (ha.pa pos a N Y n (fun B o=>∃as t j,aC X.K F o Y t j/\aP O n j o/\cQ Y (aw j o) B as/\gi f E (fun c U'=>∀v y D z,gy X.K F y Y U' D v c z->aP O n D y->Q v y) (.s i::as) t) I1 ⟨U,O,st,ha.mn _ _ _ (fun as t R B o j d N S=>⟨as,t,j,d,N,S,BM R⟩) q'⟩) fun us s2 ⟨B,o,I2,r,as,t,j,d,T,S,R⟩=>⟨I2.kIn,?_⟩) J L;exact va hx G hr hb I2 (vs:=V.ref b::B) (us:=Value.ref b::us) (.cons (show bd (.ref b) (.ref b) from rfl) r) d (cQ.s l S) R fun c U' h v y D z res s2=>h v y D z res (T.trans s2)
  ·rw[if_neg M] at q;exact q.elim
noncomputable def dE(C:Addr)(i:Nat)(m:Str)(f:FM):XM ag:=fun U=>match cn C U i with
 | some (_,fs)=>if fs.lookup m=none then lg f [.s i] U else .bad
 | none=>.bad
theorem Md{pl:Sem Bool}(T:eV X F E)(cl:dq X.K C)(l:ie X.K C m g)(G:aA X.prog X.w X.K X.mg X.base (ba X.prog X.w) k g fd ps (bf X.K X.mg f))(t:bx k X.A)(Z:gP X.K fd ps [])(hv:PE X (.Name x p1) (bU i))
  (ht:eval (.Call (.Attribute (.Name x p1) m apos) [] [] pos) X.env=(do
   let n <-eval (.Name x p1) X.env
   standAt apos.atName
   let(f,first) <-holding [n] (getMethod n m pl)
   callWith pos f first (backTo pos (starEach [] X.env)) (backToKw pos (keywordEach [] X.env))):=by rfl) :
  FO X F E (.Call (.Attribute (.Name x p1) m apos) [] [] pos) (dE C i m f):=by
 refine⟨aH,fun b s Y H Q I ⟨U,O,st,q⟩=>?_⟩;unfold wp dE at q;cases ho:cn C U i with
 | none=>rw[ho] at q;exact q.elim
 | some p=>
  obtain⟨io,fs⟩:=p;rw[ho] at q;simp only at q
  by_cases j:fs.lookup m=none
  ·rw[if_pos j] at q;obtain⟨a,o,d,⟨dx,y,z,e1,B,e3,D⟩,_,_⟩:=st.box (kl ho);have J:y.lookup m=none:=by
    rcases km D m with⟨l1,_⟩ | ⟨_,_,_,_,l2,_⟩
    ·exact l1
    ·rw[j] at l2;cases l2
   refine PySem.W.methodCall_KW (pl:=pl) (aT (hv b s Y H (fun v r=>v=.ref a/\r=H) I ⟨_,d,rfl,rfl⟩) fun u s1 ⟨v,r,I1,L,ex,M⟩=>?_) ht;subst ex M;obtain rfl:u=Value.ref a:=L;refine yE I1 B cl l J ?_;refine PySem.W.callWith_K0 (first:=[.ref a]) I1.kIn l.kp ?_;exact va (vs:=[V.ref a]) (us:=[Value.ref a]) (as:=[.s i]) T G t Z I1 (.cons (show bd (.ref a) (.ref a) from rfl) .nil) st (cQ.s d .nil) (BM q) fun c U' h v N R o res S=>h v N R o res S
  ·rw[if_neg j] at q;exact q.elim
noncomputable def oC(C:Addr)(f:FM)(a:List PyData):XM ag:=fun U=>match f (.own true (.o C [])::a.map .dat) with
 | .rt (.dat .none) [b]=>.ok (.own false b) U
 | .ex c _=>.ex c U
 | _=>.bad
noncomputable def vM(C:Addr)(f:FM)(a:XM (List PyData)):XM ag:=fun U=>(a U).bind (oC C f)
theorem BN{K:Frag}{H:Hp}{O:List Addr}:∀{b:List V}{a:List PyData},aK (aw O H) b a->aX K H O b (a.map .dat) (a.map fun _=>[])
 | _,_,.nil=>.nil
 | _,_,.cons h t=>.dat h (BN t)
theorem BO{H:Hp}{O:List Addr}{a:Addr}{b:Bx}:∀{j:List PyData}{l:List V}{bs:List Bx}{c:List (List Addr)},aU H O l (j.map ag.dat) bs c->bs=[]/\c=[]
 | [],_,_,_,.nil=>⟨rfl,rfl⟩
 | d::j,_,_,_,.skip _ h=>BO (a:=a) (b:=b) h
theorem vN{α β:Type}:∀l:List α,(l.map fun _=>([]:List β)).flatten=[]
 | []=>rfl
 | _::r=>by simp[vN r]
theorem Me{mA:XM (List PyData)}(hx:eV X F E)(M:Mk X.K C g)(G:aA X.prog X.w X.K X.mg X.base (ba X.prog X.w) k g fd ps (bf X.K X.mg f))(hr:bx (k+1) X.A)(hg:Gl X x)(hm:X.mg x=some (.ref C))(hb:gP X.K fd ps [])(j:FA X F E (e::es) mA)
  (b3:(x==("__debug__":Str))=false:=by decide) (he:starEach (e::es) X.env=(false,eval e X.env)::starEach es X.env:=by rfl) (b4:(backTo pos (starEach es X.env)).any (·.1)=false:=by rfl) :
  FO X F E (.Call (.Name x p) (e::es) [] pos) (vM C f mA):=by
 refine⟨aH,fun T s Y H Q I ⟨U,O,st,q⟩=>?_⟩;refine wpAny_Call_Name_kw (me I hg hm ?_ b3);have q':=bO (E:=E) (m:=mA) (k:=oC C f) (U:=U) q;refine PySem.W.callWith_K (h₀:=X.base) I.ok.mod.kin M.kp (aT (j.pa pos T s Y H (fun vs t=>∃R Z n,aC X.K F t Y Z n/\aP O H n t/\aK (aw n t) vs R/\wp E (oC C f R) Z (fun c U'=>∀v l O' fp,gy X.K F l Y U' O' v c fp->aP O H O' l->Q v l)) I ⟨U,O,st,j.mn _ _ _ (fun R Z B vs t n D J dv=>⟨R,Z,n,D,J,dv,B⟩) q'⟩) fun us J ⟨vs,t,I1,r,R,Z,n,D,b5,dv,B⟩=>⟨I1.kIn,?_⟩) he b4;let EX:XK:=fun C _ l=>∃c U' O',X.mg c=some C/\aC X.K F l Y U' O'/\E c U';have h:∀x d,t x=none->t d=none->d≠x->bf X.K X.mg f (.ref x::vs) (aN (aN t d (.own x)) x (.ins C d [])) (fun v H2=>v=.non/\Q (.ref x) H2) EX:=fun x d h1 h2 a1=>by
  obtain⟨W,a2,a8⟩:=id D;have a3:∀a∈n,∃o,t a=some o/\Mv o:=fun a h=>a2.live a (by rw[<-a8];exact h);have nx:x∉n:=fun z=>by obtain⟨o,e,_⟩:=a3 x z;rw[h1] at e;cases e
  have b6:d∉n:=fun z=>by obtain⟨o,e,_⟩:=a3 d z;rw[h2] at e;cases e
  have a4:n.Nodup:=by rw[a8];exact a2.nd
  have up:∀b o,t b=some o->aN (aN t d (.own x)) x (.ins C d []) b=some o:=fun b o e=>by rw[bj (fun z=>by subst z;rw[h1] at e;cases e),bj (fun z=>by subst z;rw[h2] at e;cases e)];exact e
  have fl:(([x,d]::R.map fun _=>([]:List Addr)).flatten++n)=x::d::n:=by rw[List.flatten_cons,vN];rfl
  have hid:bR (aw n t) (aw (x::d::n) (aN (aN t d (.own x)) x (.ins C d []))):=fun b o e=>by
   obtain⟨S,n1⟩:=cY e;refine iH (up b o S) fun z=>?_;rcases List.mem_cons.mp z with z | z
   ·subst z;rw[h1] at S;cases S
   ·rcases List.mem_cons.mp z with z | z
    ·subst z;rw[h2] at S;cases S
    ·exact n1 z
  refine⟨(hx.1.at D).mono fun b u _ e=>up b u e,.own true (.o C [])::R.map .dat,[x,d]::R.map fun _=>[],n,?_,?_,?_,?_⟩
  ·rw[fl];exact .own ⟨d,[],[],rfl,cj,by rw[bj a1,cj],.nil⟩ (BN (aK.mono hid dv))
  ·rw[fl];refine List.nodup_cons.mpr ⟨fun z=>?_,List.nodup_cons.mpr ⟨b6,a4⟩⟩;rcases List.mem_cons.mp z with z | z
   ·exact a1 z.symm
   ·exact nx z
  ·rw[fl];intro a j;rcases List.mem_cons.mp j with rfl | j
   ·exact⟨.ins C d [],cj,trivial⟩
   ·rcases List.mem_cons.mp j with rfl | j
    ·exact⟨.own x,by rw[bj a1,cj],trivial⟩
    ·obtain⟨o,S,e2⟩:=a3 a j;exact⟨o,up a o S,e2⟩
  ·unfold wp oC at B;have hL:([x,d]::R.map fun _=>([]:List Addr)).flatten=[x,d]:=by rw[List.flatten_cons,vN];rfl
   have a9:aC X.K (F.plus []) t Y Z n:=D;have lift:∀(l:Hp) (L':List Addr),gf (aN (aN t d (.own x)) x (.ins C d [])) l [x,d] L' n->∃N,aC X.K (F.plus L') l Y Z N/\aP n t N l/\(∀a∈L',a∈N)/\(∀a∈N,a∈L'\/a∈n)/\∀a∈L',a∈F.A₀\/F.H₀ a=none:=fun l L' y=>by
    have new1:∀a∈L',t a=none:=fun a j=>by
     rcases y.new a j with z | z
     ·simp only[List.mem_cons,List.not_mem_nil,or_false] at z;rcases z with rfl | rfl
      ·exact h1
      ·exact h2
     ·cases e:t a with
      | none=>rfl
      | some o=>rw[up a o e] at z;cases z
    obtain⟨N,t1,t2,t3,t4,_⟩:=a9.swap (L':=L') (H':=l) (fun b o _ e=>y.keep b o (fun z=>by
     simp only[List.mem_cons,List.not_mem_nil,or_false] at z;rcases z with rfl | rfl
     ·rw[h1] at e;cases e
     ·rw[h2] at e;cases e) (up b o e)) (List.nodup_append.mp y.nd).1 (fun a j=>.inr (new1 a j)) (fun a h=>by cases h) y.live
    refine⟨N,t1,t2,t3,fun a j=>(t4 a j).imp id (·.1),fun a j=>?_⟩
    by_cases hA:a∈F.A₀
    ·exact .inl hA
    ·refine .inr ?_;cases e:F.H₀ a with
     | none=>rfl
     | some o=>have:=a2.kept a o hA e;rw[new1 a j] at this;cases this
   cases hf:f (.own true (.o C [])::R.map .dat) with
   | bad=>rw[hf] at B;exact B
   | ex c a0=>rw[hf] at B;intro C' l b0 a5 b1 y;rw[hL] at y;obtain⟨N,t1,t2,t3,t4,t5⟩:=lift l [] ⟨a4,fun a h=>(by cases h),y.keep,fun a h=>(by cases h)⟩;exact⟨c,Z,N,a5,t1,B⟩
   | rt c a0=>
    rw[hf] at B;intro v l fp b0 b7 b1 y;rw[hL] at y
    match c,a0,B with
    | .dat .none,[b'],B=>
     have hv:v=.non:=DV.non_inv b7;cases b1 with
     | skip b8 _=>exact absurd rfl (b8 _ _)
     | @own _ _ _ _ a6 _ _ _ c1 b2 a7=>
      obtain⟨_,rfl⟩:=BO (a:=0) (b:=b') a7;refine⟨hv,?_⟩;simp only[List.flatten_cons,List.flatten_nil,List.append_nil] at b2 y;have b9:gf (aN (aN t d (.own x)) x (.ins C d [])) l [x,d] a6 n:=⟨by
       have n1:=y.nd;rw[List.append_assoc] at n1;obtain⟨m1,m2,m3⟩:=List.nodup_append.mp n1;exact List.nodup_append.mpr ⟨m1,a4,fun a j b hb=>m3 a j b (bi _ hb)⟩,fun a j=>y.live a (br _ j),y.keep,fun a j=>y.new a (br _ j)⟩
      obtain⟨N,t1,t2,t3,t4,t5⟩:=lift l a6 b9;refine B (.ref x) l N a6 ⟨t1,⟨x,rfl,b2.keep (fun _ _=>rfl) (uQ fun a j=>?_)⟩,t5⟩ (b5.trans t2);rcases t4 a j with z | z
      ·exact br _ (br _ z)
      ·exact bi _ z
 have hq:=h (J.heap.objs.size+1) J.heap.objs.size (I1.hok.fresh (Nat.le_succ _)) (I1.hok.fresh (bH _)) (Nat.ne_of_lt (Nat.lt_succ_self _));have I2:=Inv.made (C:=C) I1;have r2:be (V.ref (J.heap.objs.size+1)::vs) (Value.ref (J.heap.objs.size+1)::us):=.cons rfl r;have hl:(Value.ref (J.heap.objs.size+1)::us++[]).length=ps.length:=by have e:=r2.length;rw[G.len _ _ _ _ hq] at e;rw[List.append_nil];exact e.symm
 refine wpAny_call (Gq (f:=g) I1.kIn M.makes M.init (beq_iff_eq.mp M.fn) (codeAny_mono (G.run _ X.stack _ _ ⟨Value.ref (J.heap.objs.size+1)::us,[]⟩ (Value.ref (J.heap.objs.size+1)::us) _ _ EX (hr.make C us [])
  (I2.env0.make C us []) (by have:=hb _ (Value.ref (J.heap.objs.size+1)::us) I2.kIn hl;rw[List.append_nil] at this;exact this) r2 hq) fun r s' L=>?_))
 cases r with
 | error e=>obtain⟨a,C',l,S,I',cv,ex,c,U',O',a5,c0,hE⟩:=I2.flies L;exact hx.2 T Y l s' e c U' O' ⟨I',a,C',_,_,S,cv,ex,a5⟩ c0 hE
 | ok fl=>
  cases fl with
  | ret u=>obtain⟨v,l,I3,rv,ev,q3⟩:=I2.after L;subst ev;exact⟨rv,⟨V.ref (J.heap.objs.size+1),l,I3,rfl,q3⟩⟩
  | next=>exact False.elim L
  | brk=>exact False.elim L
  | cont=>exact False.elim L
end
noncomputable def rb:Fl->Bool
 | .d _=>false
 | _=>true
theorem Mf{G H:Hp}{v:V}{x:Fl}{f:List Addr}(h:fm G H v x f)(i:rb x=true):∃b,v=.ref b/\f=[b]:=by
 cases x with
 | d _=>cases i
 | l ds=>obtain⟨a,j,c,e,_⟩:=h;exact⟨a,c,e⟩
 | m k g=>obtain⟨a,c,e,_⟩:=h;exact⟨a,c,e⟩
theorem vO{G H:Hp}{f:Str}{x:Fl}(t:rb x=true):∀{o:List (Str×V)}{fs:List (Str×Fl)}{a:List (List Addr)},bb G H o fs a->fs.lookup f=some x->a.flatten.Nodup->
  ∃b,o.lookup f=some (.ref b)/\fm G H (.ref b) x [b]/\b∈a.flatten/\∀(i j:Hp) (l:Fl),bR G i->(∀c∈a.flatten,c≠b->j c=H c)->fm i j (.ref b) l [b]->bb i j o (bG f l fs) a
 | _,_,_,.nil,m,_=>by cases m
 | (n,v)::o,(_,y)::fs,D::a,.cons h1 h2,m,nd=>by
  rw[List.flatten_cons] at nd;obtain⟨E,u,q⟩:=List.nodup_append.mp nd
  by_cases e:f=n
  ·subst e;have w:y=x:=by simpa[List.lookup] using m
   subst w;obtain⟨b,rfl,rfl⟩:=Mf h1 t;refine⟨b,by simp[List.lookup],h1,by simp,fun i j l g k d=>?_⟩;unfold bG;rw[if_pos rfl];refine .cons d (h2.keep (fun c h=>k c (by rw[List.flatten_cons];exact bi _ h) fun z=>?_) g);exact q b (by simp) c h z.symm
  ·have r:(f==n)=false:=by simpa using e
   rw[List.lookup_cons,r] at m;obtain⟨b,A,B,s,C⟩:=vO t h2 m u;refine⟨b,by rw[List.lookup_cons,r];exact A,B,by rw[List.flatten_cons];exact bi _ s,fun i j l g k d=>?_⟩;unfold bG;rw[if_neg (fun z=>e z.symm)];refine .cons (h1.keep (fun c h=>k c (by rw[List.flatten_cons];exact br _ h) fun z=>?_) g) (C i j l g (fun c h p=>k c (by rw[List.flatten_cons];exact bi _ h) p) d);exact q c h b s z
theorem aC.fldUp{K:Frag}{F:Fx}{H:Hp}{Y:St}{U:ai}{O:List Addr}{C:Addr}{i:Nat}{io:Bool}{fs:List (Str×Fl)}{f:Str}{x:Fl}(st:aC K F H Y U O)(S:cn C U i=some (io,fs))(lk:fs.lookup f=some x)(T:rb x=true) :
  ∃a d h b,Y[i]? = some (some (.ref a))/\H a=some (.ins C d h)/\h.lookup f=some (.ref b)/\fm (aw O H) H (.ref b) x [b]/\
   ∀(g:HO) (j:Fl),Mv g->(∀G,bR (aw O H) G->fm G (aN H b g) (.ref b) j [b])->∃k,aC K F (aN H b g) Y (U.set i (some (.own io (.o C (bG f j fs))))) k/\aP O H k (aN H b g):=by
 obtain⟨a,X,n,⟨d,h,l,w,v,y,A⟩,Z,nd,up⟩:=st.boxN (kl S);subst w;have m:=nd;rw[List.nodup_cons,List.nodup_cons] at m;obtain⟨B,p,D⟩:=m;obtain⟨b,E,I,q,J⟩:=vO T A lk D;have L:a≠b:=fun z=>B (by rw[z];exact bQ _ q);have M:d≠b:=fun z=>p (by rw[z];exact q);refine⟨a,d,h,b,n,v,E,I,fun g j hM N=>?_⟩;obtain⟨k,r,Q,_⟩:=up (aN H b g) (.o C (bG f j fs)) (a::d::l.flatten) (fun c o t e=>by rw[bj (fun z=>t (by rw[z];exact bQ _ (bQ _ q)))];exact e) nd (fun c t=>.inl t) (fun G k s R _=>by
  subst R;exact⟨s.hid,d,h,l,rfl,by rw[bj L];exact v,by rw[bj M];exact y,J _ _ j s.hid (fun c _ u=>bj u) (N _ s.hid)⟩)
 exact⟨k,r,Q⟩
section
variable{X:Cx}{F:Fx}{E:Str->ai->Prop}{e a b c:Expr}{es:List Expr}{st:Stmt}{pos p1 apos cpos fpos:Pos}{x f:Str}{C:Addr}{i:Nat}{m:XM PyData}
noncomputable def mI(C:Addr)(i:Nat)(f:Str)(d:PyData):SM:=fun U=>match cn C U i with
 | some (io,fs)=>(match fs.lookup f with
  | some (.l ds)=>if ds.length<sizeLine then .nx (U.set i (some (.own io (.o C (bG f (.l (ds++[d])) fs))))) else .bad
  | _=>.bad)
 | none=>.bad
noncomputable def ei(U:ai)(j:Nat):Option PyData:=match U[j]? with
 | some (some (.dat d))=>some d
 | _=>none
theorem mJ{U:ai}{j:Nat}{d:PyData}(h:ei U j=some d):U[j]? = some (some (.dat d)):=by
 unfold ei at h;split at h
 ·rename_i e;cases h;exact e
 ·cases h
noncomputable def ly(C:Addr)(i:Nat)(f:Str)(j:Nat):SM:=fun U=>match ei U j with
 | some d=>mI C i f d U
 | none=>.bad
theorem Mg{y:Str}{k:Pos}{j:Nat}(cl:dq X.K C)(R:cX X.K C f)(hv:PE X (.Name x p1) (bU i))(S:PE X (.Name y k) (bU j))(hb:attributeBase (.Name x p1) f X.env (eval (.Name x p1) X.env)=eval (.Name x p1) X.env:=by rfl)
  (A:swapsWith (.Call (.Attribute (.Attribute (.Name x p1) f fpos) "append" apos) [.Name y k] [] cpos) none pos.line X.env=pure false:=by rfl)
  (n:attributeBase (.Attribute (.Name x p1) f fpos) "append" X.env (eval (.Attribute (.Name x p1) f fpos) X.env)=eval (.Attribute (.Name x p1) f fpos) X.env:=by rfl)
  (t:((backTo cpos (starEach [.Name y k] X.env)).all (fun x=>!x.1)&&(backToKw cpos (keywordEach [] X.env)).all (fun x=>x.1.isSome)&&decide (([.Name y k]:List Expr).length+([]:List Keyword).length+(if ([]:List Keyword).isEmpty then 0 else 1)<30))=true:=by rfl)
  (o:(apos.endLine==cpos.line)=true:=by rfl) (Q:starEach [.Name y k] X.env=(false,eval (.Name y k) X.env)::starEach [] X.env:=by rfl) (h:(backTo cpos (starEach [] X.env)).any (·.1)=false:=by rfl) :
  FS X F E (.Expr (.Call (.Attribute (.Attribute (.Name x p1) f fpos) "append" apos) [.Name y k] [] cpos) pos) (ly C i f j):=
 (pS (qe PySem.F.plainAttrs_list PySem.F.slot_list_append PySem.F.type_list_append zj (mf hv hb) (ej S eQ Q) n t o Q h) A).imp fun D Y H ⟨U,O,DD,st,q,T⟩=>by
  unfold cg ly at q;cases r:ei U j with
  | none=>rw[r] at q;exact q.elim
  | some d=>
   have hd:=mJ r;rw[r] at q;simp only at q;unfold mI at q;cases ho:cn C U i with
   | none=>rw[ho] at q;exact q.elim
   | some p=>
    obtain⟨io,fs⟩:=p;rw[ho] at q;simp only at q;cases s:fs.lookup f with
    | none=>rw[s] at q;exact q.elim
    | some z=>
     rw[s] at q;cases z with
     | d _=>exact q.elim
     | m _ _=>exact q.elim
     | l ds=>
      simp only at q
      by_cases B:ds.length<sizeLine
      ·rw[if_pos B] at q;obtain⟨Z,dx,gs,I,J,e2,q1,⟨b1,v,eb,_,N,u⟩,up⟩:=st.fldUp ho s rfl;cases eb;obtain⟨w,hw,L⟩:=st.dat hd;obtain⟨O2,M,s2⟩:=up (.lst (v++[w])) (.l (ds++[d])) trivial (fun G g=>⟨I,v++[w],rfl,rfl,cj,(aK.mono g u).append (.cons (DV.mono g L) .nil)⟩);exact⟨_,J,Z,C,dx,gs,.ref I,rfl,e2,cl,R,q1,.inl ⟨rfl,v,.of N⟩,w,hw,I,v,w,rfl,rfl,N,by rw[u.length];exact B,T.nx _ _ _ _ M s2 q⟩
      ·rw[if_neg B] at q;exact q.elim
noncomputable def lz(C:Addr)(i:Nat)(f:Str)(j l:Nat)(v:PyData):SM:=fun U=>match cn C U i,ei U j,ei U l with
 | some (io,fs),some y,some z=>(match fs.lookup f,ou true (.tuple [y,z]) with
  | some (.m true d),some k=>if d.length<sizeLine then .nx (U.set i (some (.own io (.o C (bG f (.m true (kg true d (.tuple [y,z]) k v)) fs))))) else .bad
  | _,_=>.bad)
 | _,_,_=>.bad
noncomputable def mK(C:Addr)(i:Nat)(f:Str)(j l:Nat)(m:XM PyData):SM:=fun U=>en (m U) (lz C i f j l)
theorem Mh{y z:Str}{w s p4 r:Pos}{j l kx:Nat}(hu:X.A.units+1<cLine)(cl:dq X.K C)(na:cX X.K C f)(hv:PE X (.Name x p1) (bU i))(hy:PE X (.Name y w) (bU j))(hz:PE X (.Name z s) (bU l))(he:FE X F E e m)(hb:attributeBase (.Name x p1) f X.env (eval (.Name x p1) X.env)=eval (.Name x p1) X.env:=by rfl)
  (h1:starEach [.Name y w,.Name z s] X.env=(false,eval (.Name y w) X.env)::starEach [.Name z s] X.env:=by rfl) (h2:starEach [.Name z s] X.env=(false,eval (.Name z s) X.env)::starEach [] X.env:=by rfl)
  (hs:swapsWith e (some (.Subscript (.Attribute (.Name x p1) f fpos) (.Tuple [.Name y w,.Name z s] kx p4) r)) pos.line X.env=pure false:=by rfl) :
  FS X F E (.Assign [.Subscript (.Attribute (.Name x p1) f fpos) (.Tuple [.Name y w,.Name z s] kx p4) r] e pos) (mK C i f j l m):=
 (zv hu (mf hv hb) (yJ (ej hy (ej hz eQ h2) h1)) he.pe hs).imp fun D Y H ⟨U,O,DD,st,q,fD⟩=>⟨U,O,st,aH _ _ _ (fun v N h vy H1 O1 n s1 d1=>by
  unfold cg lz at h;cases ho:cn C N i with
  | none=>rw[ho] at h;exact h.elim
  | some p=>
   obtain⟨io,fs⟩:=p;cases L:ei N j with
   | none=>rw[ho,L] at h;exact h.elim
   | some y0=>
    cases Q:ei N l with
    | none=>rw[ho,L,Q] at h;exact h.elim
    | some z0=>
     rw[ho,L,Q] at h;simp only at h;cases o:fs.lookup f with
     | none=>rw[o] at h;exact h.elim
     | some t=>
      rw[o] at h;cases t with
      | d _=>exact h.elim
      | l _=>exact h.elim
      | m tk B=>
       cases tk with
       | false=>exact h.elim
       | true=>
        cases R:ou true (.tuple [y0,z0]) with
        | none=>rw[R] at h;exact h.elim
        | some k=>
         rw[R] at h;simp only at h
         by_cases u:B.length<sizeLine
         ·rw[if_pos u] at h;obtain⟨a0,dx,gs,S,I,e2,l1,_,_⟩:=n.fldUp ho o rfl;obtain⟨w1,T,Z⟩:=n.dat (mJ L);obtain⟨w2,a2,a3⟩:=n.dat (mJ Q);refine⟨_,I,a0,C,dx,gs,.ref S,rfl,e2,cl,na,l1,w1,T,w2,a2,show 2<=sizeLine by decide,fun p hp=>?_⟩;have M:bR H1 (aN H1 p (.tup [w1,w2])):=bX hp;have a4:=n.grow M;have hd:=jl (O:=O1) M;obtain⟨a1,a7,a8,b1,J,e3,l2,⟨b2,eb,_,a5⟩,up⟩:=a4.fldUp ho o rfl;rw[I] at J;cases J;rw[M _ _ e2] at e3;cases e3;rw[l1] at l2;cases l2;cases eb;obtain⟨o',g1,mv,g2⟩:=Ls a5 qk (nU hp (n.nofree p hp) (.cons Z (.cons a3 .nil))) (DV.mono hd d1) R u;obtain⟨O3,a6,s3⟩:=up o' (.m true (kg true B (.tuple [y0,z0]) k v)) mv (fun G g=>⟨S,rfl,rfl,g2 G g⟩);exact⟨S,_,rfl,g1,fD.nx _ _ _ _ a6 (s1.trans ((aP.same M).trans s3)) h⟩
         ·rw[if_neg u] at h;exact h.elim) (fU (m:=m) (k:=lz C i f j l) q)⟩
end
section
variable{X:Cx}{F:Fx}{E:Str->ai->Prop}{e a b c:Expr}{es:List Expr}{st:Stmt}{pos p1 apos cpos fpos:Pos}{x f:Str}{C:Addr}{i:Nat}{m:XM PyData}
noncomputable def oD(C:Addr)(i:Nat)(f:Str)(j:Nat):XM PyData:=fun U=>match cn C U i,ei U j with
 | some (_,fs),some (.int k)=>(match fs.lookup f with
  | some (.l ds)=>lift (bE ds k) U
  | some (.d (.list ds))=>lift (bE ds k) U
  | some (.d (.tuple ds))=>.bad
  | _=>.bad)
 | _,_=>.bad
theorem rc{G:Hp}{l:List V}{g:List PyData}{k:Int}{d:PyData}(h:aK G l g)(e:bE g k=some d):∃v,bE l k=some v/\DV G v d:=by
 unfold bE at e ⊢;rw[h.length];cases hx:cp g.length k with
 | none=>rw[hx] at e;cases e
 | some j=>rw[hx] at e;exact h.get e
theorem Mi{y:Str}{s:Pos}{j:Nat}(cl:dq X.K C)(R:cX X.K C f)(hv:PE X (.Name x p1) (bU i))(Z:PE X (.Name y s) (bU j))(hb:attributeBase (.Name x p1) f X.env (eval (.Name x p1) X.env)=eval (.Name x p1) X.env:=by rfl)(hs:mj (.Name y s):=by intro _ _;rfl) :
  FE X F E (.Subscript (.Attribute (.Name x p1) f fpos) (.Name y s) pos) (oD C i f j):=
 ⟨aH,(qb qc (mf hv hb) Z hs).imp fun Y H Q ⟨U,O,st,q⟩=>by
  unfold wp oD at q;cases ho:cn C U i with
  | none=>rw[ho] at q;exact q.elim
  | some p=>
   obtain⟨io,fs⟩:=p;cases u:ei U j with
   | none=>rw[ho,u] at q;exact q.elim
   | some y0=>
    rw[ho,u] at q;cases y0 with
    | int k=>
     simp only at q;obtain⟨w,S,dw⟩:=st.dat (mJ u);obtain rfl:=dw.int_inv;cases g:fs.lookup f with
     | none=>rw[g] at q;exact q.elim
     | some t=>
      rw[g] at q;cases t with
      | m _ _=>exact q.elim
      | l ds=>obtain⟨z,A,B,T,h,D,l1,⟨G,I,eb,_,J,n⟩,_⟩:=st.fldUp ho g rfl;cases eb;obtain⟨d,r,L⟩:=cZ (o:=bE ds k) (U:=U) (E:=E) q;obtain⟨v,M,N⟩:=rc n r;exact⟨_,h,z,C,A,B,.ref T,rfl,D,cl,R,l1,_,S,T,I,k,v,rfl,rfl,.of J,M,L v H O st .refl N⟩
      | d x0=>
       cases x0 with
       | list ds=>
        obtain⟨z,fp,h,⟨A,B,a1,r,D,e3,e4⟩,_,_⟩:=st.box (kl ho);rcases km e4 f with⟨_,l2⟩ | ⟨v,y1,a2,l1,l2,l3,_⟩
        ·rw[g] at l2;cases l2
        ·rw[g] at l2;cases l2;obtain⟨G,I,rfl,J,n⟩:=l3.2.lst_inv;obtain⟨d,r,L⟩:=cZ (o:=bE ds k) (U:=U) (E:=E) q;obtain⟨v,M,N⟩:=rc n r;exact⟨_,h,z,C,A,B,.ref G,rfl,D,cl,R,l1,_,S,G,I,k,v,rfl,rfl,.of (cY J).1,M,L v H O st .refl N⟩
       | _=>exact q.elim
    | _=>exact q.elim⟩
noncomputable def lA(C:Addr)(i:Nat)(f:Str)(j:Nat)(v:PyData):SM:=fun U=>match cn C U i,ei U j with
 | some (io,fs),some (.int k)=>(match fs.lookup f with
  | some (.l ds)=>(match cp ds.length k with
   | some n=>.nx (U.set i (some (.own io (.o C (bG f (.l (ds.set n v)) fs)))))
   | none=>.bad)
  | _=>.bad)
 | _,_=>.bad
noncomputable def mL(C:Addr)(i:Nat)(f:Str)(j:Nat)(m:XM PyData):SM:=fun U=>en (m U) (lA C i f j)
theorem vP{G:Hp}{v:V}{d:PyData}(hd:DV G v d):∀{g:List V}{j:List PyData}(n:Nat),aK G g j->aK G (g.set n v) (j.set n d)
 | _,_,_,.nil=>.nil
 | _,_,0,.cons _ t=>.cons hd t
 | _,_,n+1,.cons h t=>.cons h (vP hd n t)
theorem Mj{y:Str}{r h:Pos}{j:Nat}(cl:dq X.K C)(Z:cX X.K C f)(hv:PE X (.Name x p1) (bU i))(hy:PE X (.Name y r) (bU j))(he:FE X F E e m)(hb:attributeBase (.Name x p1) f X.env (eval (.Name x p1) X.env)=eval (.Name x p1) X.env:=by rfl)
  (hs:swapsWithSole [.Subscript (.Attribute (.Name x p1) f fpos) (.Name y r) h] e pos.line X.env=pure false:=by rfl) (hw:swappedStores [.Subscript (.Attribute (.Name x p1) f fpos) (.Name y r) h] e X.env=pure none:=by rfl)
  (h1:(assignEach [.Subscript (.Attribute (.Name x p1) f fpos) (.Name y r) h] X.env).map (·.2)=[assign (.Subscript (.Attribute (.Name x p1) f fpos) (.Name y r) h) X.env]:=by rfl)
  (hq:∀v,assign (.Subscript (.Attribute (.Name x p1) f fpos) (.Name y r) h) X.env v=(do
   let A <-holding [v] (eval (.Attribute (.Name x p1) f fpos) X.env);let B <-holding [v,A] (eval (.Name y r) X.env)
   standAt h
   holding [v,A,B] (setItem A B v)
   release [v,A,B] []):=by intro _;rfl) :
  FS X F E (.Assign [.Subscript (.Attribute (.Name x p1) f fpos) (.Name y r) h] e pos) (mL C i f j m):=
 (uk he.pe (yo (mf hv hb) hy za hq) hs hw h1).imp fun D Y H ⟨U,O,DD,st,q,fD⟩=>⟨U,O,st,aH _ _ _ (fun v S o T H1 O1 u s1 d1=>by
  unfold cg lA at o;cases ho:cn C S i with
  | none=>rw[ho] at o;exact o.elim
  | some p=>
   obtain⟨io,fs⟩:=p;cases I:ei S j with
   | none=>rw[ho,I] at o;exact o.elim
   | some y0=>
    rw[ho,I] at o;cases y0 with
    | int k=>
     simp only at o;cases s:fs.lookup f with
     | none=>rw[s] at o;exact o.elim
     | some t=>
      rw[s] at o;cases t with
      | d _=>exact o.elim
      | m _ _=>exact o.elim
      | l ds=>
       simp only at o;cases J:cp ds.length k with
       | none=>rw[J] at o;exact o.elim
       | some n=>rw[J] at o;obtain⟨w,L,dw⟩:=u.dat (mJ I);obtain rfl:=dw.int_inv;obtain⟨a0,dx,gs,M,N,e2,l1,⟨b1,Q,eb,_,hH,z⟩,up⟩:=u.fldUp ho s rfl;cases eb;obtain⟨O2,R,s2⟩:=up (.lst (Q.set n T)) (.l (ds.set n v)) trivial (fun G g=>⟨M,Q.set n T,rfl,rfl,cj,vP (DV.mono g d1) n (aK.mono g z)⟩);exact⟨_,N,a0,C,dx,gs,.ref M,rfl,e2,cl,Z,l1,_,L,M,Q,k,n,rfl,rfl,hH,by rw[z.length];exact J,fD.nx _ _ _ _ R (s1.trans s2) o⟩
    | _=>exact o.elim) (fU (m:=m) (k:=lA C i f j) q)⟩
noncomputable def rf(C:Addr)(i:Nat)(f:Str)(n:Int):SM:=fun U=>match cn C U i with
 | some (io,fs)=>(match fs.lookup f with
  | some (.d (.int v))=>if fs.length<1000 then .nx (U.set i (some (.own io (.o C (bG f (.d (.int (v+n))) fs))))) else .bad
  | _=>.bad)
 | none=>.bad
theorem Ml{n:Int}{k:Pos}(cl:dq X.K C)(R:cX X.K C f)(hv:PE X (.Name x p1) (bU i))(S:PE X e (fun Y H Q=>Q (.int n) H)):FS X F E (.AugAssign (.Attribute (.Name x p1) f k) .Add e pos) (rf C i f n):=
 (Gx hv S Gz).imp fun D Y H ⟨U,O,DD,st,q,T⟩=>by
  unfold cg rf at q;cases ho:cn C U i with
  | none=>rw[ho] at q;exact q.elim
  | some p=>
   obtain⟨io,fs⟩:=p;rw[ho] at q;simp only at q;cases g:fs.lookup f with
   | none=>rw[g] at q;exact q.elim
   | some t=>
    rw[g] at q;cases t with
    | l _=>exact q.elim
    | m _ _=>exact q.elim
    | d Z=>
     cases Z with
     | int v0=>
      simp only at q
      by_cases y:fs.length<1000
      ·rw[if_pos y] at q;obtain⟨r,fp,A,⟨j,u,h,e1,N,e3,B⟩,hO,nd,up⟩:=st.boxN (kl ho);subst e1;have I:j≠r:=fun z=>by subst z;simp at nd
       rcases km B f with⟨_,l2⟩ | ⟨v,y1,a1,l1,l2,l3,_⟩
       ·rw[g] at l2;cases l2
       ·rw[g] at l2;cases l2;obtain rfl:=l3.2.int_inv;obtain⟨O3,J,s3,_⟩:=up (aN H r (.ins C j (ck f (.int (v0+n)) u))) (.o C (bG f (.d (.int (v0+n))) fs)) (r::j::h.flatten) (fun c o L e=>by rw[bj (fun z=>L (by simp[z]))];exact e) nd (fun c M=>.inl M) (fun G O' s hG _=>by
         subst hG;refine⟨s.hid,j,ck f (.int (v0+n)) u,if (fs.lookup f).isSome=true then h else h++[[]],?_,cj,by rw[bj I];exact e3,?_⟩
         ·split
          ·rfl
          ·simp
         ·refine B.putD (by rw[g];rfl) (.int _) s.hid fun c M=>bj (fun z=>?_);subst z;exact absurd M (fun w=>(List.nodup_cons.mp nd).1 (bQ _ w)))
        exact⟨_,A,r,C,j,u,_,rfl,N,cl,R,l1,v0,n,rfl,rfl,j,u,N,by rw[B.len];exact y,T.nx _ _ _ _ J s3 q⟩
      ·rw[if_neg y] at q;exact q.elim
     | _=>exact q.elim
end
theorem BP{G b H d:Hp}{f:Str}{p:Addr}{y:Fl}:∀{i:List (Str×V)}{fs:List (Str×Fl)}{a:List (List Addr)},bb G H i fs a->fs.lookup f=none->bR G b->(∀c∈a.flatten,d c=H c)->fm b d (.ref p) y [p]->bb b d (ck f (.ref p) i) (bG f y fs) (a++[[p]])
 | _,_,_,.nil,_,_,_,h=>.cons h .nil
 | (n,v)::i,(_,z)::fs,o::a,.cons h1 h2,j,g,k,h=>by
  by_cases e:f=n
  ·subst e;simp[List.lookup] at j
  ·have m:(f==n)=false:=by simpa using e
   rw[List.lookup_cons,m] at j;unfold ck bG;rw[if_neg (fun z=>e z.symm),if_neg (fun z=>e z.symm)];exact .cons (h1.keep (fun c l=>k c (by rw[List.flatten_cons];exact br _ l)) g) (BP h2 j g (fun c l=>k c (by rw[List.flatten_cons];exact bi _ l)) h)
theorem aC.fldNew{K:Frag}{F:Fx}{H:Hp}{Y:St}{U:ai}{O:List Addr}{C:Addr}{i:Nat}{io:Bool}{fs:List (Str×Fl)}{f:Str}(st:aC K F H Y U O)(R:cn C U i=some (io,fs))(lk:fs.lookup f=none) :
  ∃a d g,Y[i]? = some (some (.ref a))/\H a=some (.ins C d g)/\g.length=fs.length/\
   ∀(p:Addr) (h:HO) (y:Fl),H p=none->Mv h->(∀G,bR (aw O H) G->fm G (aN (aN H p h) a (.ins C d (ck f (.ref p) g))) (.ref p) y [p])->aN H p h a=some (.ins C d g)/\∃l,aC K F (aN (aN H p h) a (.ins C d (ck f (.ref p) g))) Y (U.set i (some (.own io (.o C (bG f y fs))))) l/\aP O H l (aN (aN H p h) a (.ins C d (ck f (.ref p) g))):=by
 obtain⟨a,T,n,⟨d,g,j,D,q,v,w⟩,E,nd,up⟩:=st.boxN (kl R);subst D;have m:=nd;rw[List.nodup_cons,List.nodup_cons] at m;obtain⟨r,t,I⟩:=m;have ad:d≠a:=fun z=>r (by rw[z];exact List.mem_cons_self);refine⟨a,d,g,n,q,w.len,fun p h y k X J=>?_⟩;have pa:a≠p:=fun z=>by subst z;rw[q] at k;cases k
 have A:d≠p:=fun z=>by subst z;rw[v] at k;cases k
 have L:=st.live;have B:p∉j.flatten:=fun z=>by exact absurd (E p (bQ _ (bQ _ z))) (st.nofree p k)
 refine⟨by rw[bj pa];exact q,?_⟩;obtain⟨l,u,M,_⟩:=up (aN (aN H p h) a (.ins C d (ck f (.ref p) g))) (.o C (bG f y fs)) (a::d::(j++[[p]]).flatten) (fun c o b e=>by
   rw[bj (fun z=>b (by simp[z])),bj (fun z=>by subst z;rw[k] at e;cases e)];exact e) (by
   rw[List.flatten_append];simp only[List.flatten_cons,List.flatten_nil,List.append_nil];refine List.nodup_cons.mpr ⟨fun z=>?_,List.nodup_cons.mpr ⟨fun z=>?_,List.nodup_append.mpr ⟨I,by simp,fun x S y N=>?_⟩⟩⟩
   ·rcases List.mem_cons.mp z with z | z
    ·exact ad z.symm
    ·rcases List.mem_append.mp z with z | z
     ·exact r (bQ _ z)
     ·exact pa (List.mem_singleton.mp z)
   ·rcases List.mem_append.mp z with z | z
    ·exact t z
    ·exact A (List.mem_singleton.mp z)
   ·rw[List.mem_singleton.mp N];exact fun z=>B (by rw[<-z];exact S)) (fun c b=>by
   rw[List.flatten_append] at b;simp only[List.flatten_cons,List.flatten_nil,List.append_nil] at b;rcases List.mem_cons.mp b with rfl | b
   ·exact .inl List.mem_cons_self
   ·rcases List.mem_cons.mp b with rfl | b
    ·exact .inl (by simp)
    ·rcases List.mem_append.mp b with b | b
     ·exact .inl (bQ _ (bQ _ b))
     ·exact .inr (by rw[List.mem_singleton.mp b];exact k)) (fun G l s Q _=>by
  subst Q;refine⟨s.hid,d,ck f (.ref p) g,j++[[p]],rfl,cj,by rw[bj ad,bj A];exact v,BP w lk s.hid (fun c b=>?_) (J _ s.hid)⟩;rw[bj (fun z=>r (by rw[<-z];exact bQ _ b)),bj (fun z=>B (by rw[<-z];exact b))])
 exact⟨l,u,M⟩
section
variable{X:Cx}{F:Fx}{E:Str->ai->Prop}{e a b c:Expr}{es:List Expr}{st:Stmt}{pos p1 p2 apos cpos fpos pos':Pos}{x f:Str}{C:Addr}{i:Nat}{m:XM PyData}
noncomputable def lB(C:Addr)(i:Nat)(f:Str)(y:Fl):SM:=fun U=>match cn C U i with
 | some (io,fs)=>if fs.lookup f=none/\fs.length<1000 then .nx (U.set i (some (.own io (.o C (bG f y fs))))) else .bad
 | none=>.bad
theorem Mm(cl:dq X.K C)(o:cX X.K C f)(A:PE X (.Name x p1) (bU i))(B:swapsWith (.List [] p2) (some (.Attribute (.Name x p1) f pos')) pos.line X.env=pure false:=by rfl):FS X F E (.Assign [.Attribute (.Name x p1) f pos'] (.List [] p2) pos) (lB C i f (.l [])):=
 (pY A (pZ eQ) B).imp fun D Y H ⟨U,O,J,st,q,r⟩=>by
  unfold cg lB at q;cases ho:cn C U i with
  | none=>rw[ho] at q;exact q.elim
  | some p=>
   obtain⟨io,fs⟩:=p;rw[ho] at q;simp only at q
   by_cases d:fs.lookup f=none/\fs.length<1000
   ·rw[if_pos d] at q;obtain⟨n,s,t,h,u,v,w⟩:=st.fldNew ho d.1;refine⟨Nat.zero_le _,fun p j=>?_⟩;have pa:n≠p:=fun z=>by subst z;rw[u] at j;cases j
    obtain⟨I,L,k,y⟩:=w p (.lst []) (.l []) j trivial (fun G g=>⟨p,[],rfl,rfl,by rw[bj (fun z=>pa z.symm),cj],.nil⟩);exact⟨_,h,n,C,s,t,rfl,I,cl,o,by rw[v];exact d.2,r.nx _ _ _ _ k y q⟩
   ·rw[if_neg d] at q;exact q.elim
theorem Mo(cl:dq X.K C)(n:cX X.K C f)(y:PE X (.Name x p1) (bU i))(A:swapsWith (.Dict [] [] p2) (some (.Attribute (.Name x p1) f pos')) pos.line X.env=pure false:=by rfl):FS X F E (.Assign [.Attribute (.Name x p1) f pos'] (.Dict [] [] p2) pos) (lB C i f (.m true [])):=
 (pY y HK A).imp fun D Y H ⟨U,O,J,st,q,o⟩=>by
  unfold cg lB at q;cases ho:cn C U i with
  | none=>rw[ho] at q;exact q.elim
  | some p=>
   obtain⟨io,fs⟩:=p;rw[ho] at q;simp only at q
   by_cases d:fs.lookup f=none/\fs.length<1000
   ·rw[if_pos d] at q;obtain⟨l,r,s,h,t,u,v⟩:=st.fldNew ho d.1;intro p j;have B:l≠p:=fun z=>by subst z;rw[t] at j;cases j
    obtain⟨I,L,k,w⟩:=v p (.dT []) (.m true []) j trivial (fun G g=>⟨p,rfl,rfl,[],by rw[bj (fun z=>B z.symm),cj],.nil⟩);exact⟨_,h,l,C,r,s,rfl,I,cl,n,by rw[u];exact d.2,o.nx _ _ _ _ k w q⟩
   ·rw[if_neg d] at q;exact q.elim
noncomputable def rg(C:Addr)(i:Nat)(f:Str):XM PyData:=fun U=>match cn C U i with
 | some (_,fs)=>(match fs.lookup f with
  | some (.l ds)=>.ok (.list ds) U
  | _=>.bad)
 | none=>.bad
theorem Mp{s:Pos}(u:Gl X "list")(v:X.mg "list" = none)(cl:dq X.K C)(w:cX X.K C f)(J:PE X (.Name x p1) (bU i))(L:attributeBase (.Name x p1) f X.env (eval (.Name x p1) X.env)=eval (.Name x p1) X.env:=by rfl)
  (o:starEach [.Attribute (.Name x p1) f fpos] X.env=(false,eval (.Attribute (.Name x p1) f fpos) X.env)::starEach [] X.env:=by rfl) (j:(backTo pos (starEach [] X.env)).any (·.1)=false:=by rfl) :
  FE X F E (.Call (.Name "list" s) [.Attribute (.Name x p1) f fpos] [] pos) (rg C i f):=
 ⟨aH,(yQ Hk u v (show bootBuiltins "list" = some (.type "list") by decide +kernel) (ej (mf J L) eQ o) (by decide) (by decide) o j).imp fun Y H Q ⟨U,O,st,q⟩=>by
  unfold wp rg at q;cases ho:cn C U i with
  | none=>rw[ho] at q;exact q.elim
  | some p=>
   obtain⟨io,fs⟩:=p;rw[ho] at q;simp only at q;cases g:fs.lookup f with
   | none=>rw[g] at q;exact q.elim
   | some t=>
    rw[g] at q;cases t with
    | d _=>exact q.elim
    | m _ _=>exact q.elim
    | l ds=>
     obtain⟨y,z,A,r,k,B,l1,⟨M,D,G,_,I,n⟩,_⟩:=st.fldUp ho g rfl;cases G;exact⟨_,k,y,C,z,A,.ref r,rfl,B,cl,w,l1,r,D,rfl,.inl (.of I),fun p h=>q _ _ O (st.grow (bX h)) (.same (bX h)) (kY h (st.nofree p h) n)⟩⟩
end
end L2.L3
namespace L2
open PySem
section
variable{prog:Program}{w:World}{A:Around}{E:Value->Shared->Prop}{s:Shared}
theorem BQ(a d:Value):argsOk "min" ⟨[a],[("default",d)]⟩:=by unfold argsOk;kernel_rfl
theorem BR{id:String}{b:Builtin}{args:List Value}{d:List (Str×Value)}{Q:Value->Shared->Prop}(k:builtinKind id=none)(l:plainId id=true)(n:entryFor table id=some b)(m:argsOk id ⟨args,d⟩)
  (i:wpAny (model prog w) A.in1 (b ⟨args,d⟩) (fun fin a=>match fin with
   | .done f=>(match (Except.ok f:Result) with | .ok (.ret v)=>Q v a | .ok _=>False | .error e=>E e a)
   | .again j=>j.quiet=true/\codeAny (model prog w) A j (fun r a=>match r with | .ok (.ret v)=>Q v a | .ok _=>False | .error e=>E e a) a) E s):wpAny (model prog w) A (call (.builtin id) args d) Q E s:=by
 refine wpAny_call (codeAny_call_builtin l n ?_);simp only[checkBuiltinCall,k];cases c:Manifest.signature? id with
 | none=>exact aV i
 | some g=>
  have h:Bind.checkArgs id g ⟨args,d⟩=pure ():=by simpa only[argsOk,c] using m
  simp only[h];exact aV i
theorem Mq{l:Addr}{d:Value}{Q:Value->Shared->Prop}(p:A.handled=none)(k:s.heap.IsList l #[])(q:∀c,(∀b o,s.heap.get? b=some o->c.get? b=some o)->Q d { s with heap:=c }) :
  wpAny (model prog w) A (call (.builtin "min") [.ref l] [("default",d)]) Q E s:=by
 refine BR F.kind_min F.plain_min F.entry_min (BQ _ _) ?_;show wpAny _ A.in1 (Builtin.Builtins.bindParams "min" ["key","default"] 0 ⟨[],[("default",d)]⟩ >>= _) _ _ s;refine al (wpAny_of_eq (show Builtin.Builtins.bindParams "min" ["key","default"] 0 ⟨[],[("default",d)]⟩=pure [none,some d] from rfl) ?_);refine al (aV ?_);refine al (wpAny_pyIter_list k ?_);refine al (wpAny_newObj_type ?_);have a:(toString "min"++toString ".loop":String)="min.loop":=by decide
 rw[a];obtain⟨ol,f,g,nl,h⟩:=id k;generalize m:(s.heap.push { cls:=.type "list_iterator",data:=.fields #[.ref l,.int 0 0] })=h1;have r:h1.get? s.heap.objs.size=some { cls:=.type "list_iterator",data:=.fields #[.ref l,.int 0 0] }:=by rw[<-m];exact Heap.get?_push_size _ rfl
 have n:∀b o,s.heap.get? b=some o->h1.get? b=some o:=fun b o e=>by rw[<-m];exact bA _ e
 refine aV ⟨plainId_quiet F.plain_min_loop _,?_⟩;refine codeAny_builtin F.entry_min_loop ?_;rw[Around.under_plainId F.plain_min_loop _];have t:(h1.push { cls:=.type "list",data:=.seq #[] }).get? h1.objs.size=some { cls:=.type "list",data:=.seq #[] }:=Heap.get?_push_size _ rfl;show wpAny _ A.in1 (seqItems? (.ref h1.objs.size) >>= _) _ _ _;refine al (wpAny_seqItems t rfl ?_);show wpAny _ A.in1 (tryCatch (pyNext (.ref s.heap.objs.size)) _ >>= _) _ _ _;refine al (wpAny_tryCatch (wpAny_pyNext_list_end (i:=0) (l:=l) (items:=#[]) p ⟨_,bA _ r,rfl,rfl⟩ ⟨ol,bA _ (n _ _ f),g,nl,h⟩ rfl fun c j=>?_));refine al (wpAny_rule (aV ?_));exact q c fun b o e=>j b o (Nat.ne_of_lt (bB e)) (bA _ (n b o e))
end
end L2
namespace L2.L3
open PySem PySem.Spec PyProof.Rows
section
variable{K:Frag}{F:Fx}{own:List Str}{caps:List Nat}{s:gj}{g:fP}{tc:dh}{te:DT}
theorem Mr{T:Fx->Prop}(hP:∀u Y w k O2,aC K F u Y w k->T ⟨u,[],O2,fun _=>0⟩)(hs:vb s)(hg:∀d U Q Q',(∀n,Q n->Q' n)->g d U Q->g d U Q')(ht:jT tc)(he:Mn te):∀(Y:St) (H:Hp) (Q:VK),(∃U O,aC K F H Y U O/\s U fun f w=>∃G:Nat->List PyData->ai->Prop,G 0 [] (dZ own caps w)/\
   (∀i d r n,f[i]? = some d->G i r n->g d n fun U2=>tc U2 fun b L=>if b=true then te L fun y U4=>r.length<sizeLine/\G (i+1) (r++[y]) U4 else G (i+1) r L)/\
   ∀r n,G f.length r n->r.length<=sizeLine/\∀t A vs p,aC K F t Y w A->aP O H A t->aK (aw A t) vs r->t p=none->Q (.ref p) (aN t p (.lst vs)))->
  ms own caps (qA K F s) (fun v Y H Q=>∃D,T D/\qu K D g v Y H Q) (fun Y H Q=>∃D,T D/\kZ K D tc Y H Q) (fun Y H Q=>∃D,T D/\iJ K D te Y H Q) Y H Q:=fun Y H Q ⟨U,O,st,q⟩=>by
 refine⟨U,O,st,hs _ _ _ (fun f w ⟨G,i0,step,fin⟩ J u k l s1 wk=>?_) q⟩;refine⟨fun i m r Y' t=>∃n A E,aC K ⟨u,[],k,fun _=>0⟩ t Y' n A/\G i E n/\aK (aw A t) r E/\i<=f.length/\m=f.length - i,⟨f.length,dZ own caps w,k,[],?_,i0,.nil,Nat.zero_le _,rfl⟩,?_⟩
 ·have cell:∀(i:Nat) (c:ag),(dZ own caps w)[i]? = some (some c)->(∀io b,c≠.own io b)/\∃v,(fY own caps Y)[i]? = some (some v)/\ek K u k v c []:=fun i c e=>by
   unfold dZ at e;unfold fY
   by_cases X:i<own.length
   ·rw[List.getElem?_append_left (by simpa using X),List.getElem?_map] at e;cases h:own[i]? with
    | none=>rw[h] at e;cases e
    | some y=>rw[h] at e;cases e
   ·rw[List.getElem?_append_right (by simpa using Nat.le_of_not_lt X),List.length_map,List.getElem?_map] at e;rw[List.getElem?_append_right (by simpa using Nat.le_of_not_lt X),List.length_map,List.getElem?_map];obtain⟨j,h1,h2⟩:=Option.map_eq_some_iff.mp e;rw[h1];show _/\∃v,some ((Y[j]?).getD none)=some (some v)/\_;cases h3:w[j]? with
    | none=>rw[h3] at h2;cases h2
    | some o=>
     cases o with
     | none=>rw[h3] at h2;cases h2
     | some c'=>
      rw[h3] at h2;obtain⟨W,I,rfl⟩:=id l;obtain⟨v,fp,e1,_,M⟩:=I.at_ j c' h3;rw[e1];cases c' with
      | dat d=>cases h2;exact⟨(fun _ _ z=>by cases z),v,rfl,M⟩
      | scr ns=>cases h2;exact⟨(fun _ _ z=>by cases z),v,rfl,M⟩
      | own _ _=>cases h2
      | exc _=>cases h2
      | vw b=>cases h2;exact⟨(fun _ _ z=>by cases z),v,rfl,M⟩
  obtain⟨W,I,a0⟩:=id l;have ln:(dZ own caps w).length=(fY own caps Y).length:=by unfold dZ fY;simp
  have Z:(List.replicate (dZ own caps w).length ([]:List Addr)).flatten++k=k:=by rw[nY];rfl
  refine⟨List.replicate (dZ own caps w).length [],⟨fun i c e=>?_,by show(_++k).Nodup;rw[Z,a0];exact I.nd,fun _ _ _ h=>h,fun a h=>?_,by show mx u (_++k);rw[Z];exact l.live,ln,by simp,fun i b e=>absurd rfl ((cell i _ e).1 true b)⟩,Z.symm⟩
  ·obtain⟨_,v,e1,M⟩:=cell i c e;refine⟨v,[],e1,?_,by show ek K u (_++k) v c [];rw[Z];exact M⟩;rw[List.getElem?_replicate,if_pos (List.getElem?_eq_some_iff.mp e).1]
  ·rw[nY] at h;cases h
 ·rintro i m r Y' t ⟨n,A,E,B,iv,dv,X,rfl⟩;have sm:bR u t:=fun b o e=>by obtain⟨W',h',_⟩:=id B;exact h'.kept b o (by simp) e
  have a1:aP k u A t:=⟨fun b o _ e=>sm b o e,fun a h=>by
   obtain⟨W',h',rfl⟩:=id B;rcases List.mem_append.mp h with h | h
   ·exact(h'.new a h).elim (fun z=>absurd z (by simp)) .inr
   ·exact .inl h⟩
  have N:∀a∈k,a∈A:=fun a h=>by obtain⟨W',h',rfl⟩:=id B;exact bi _ h
  obtain⟨w1,w2⟩:=wk A t a1 B.live
  by_cases C:i<f.length
  ·obtain⟨go,yld⟩:=w1 i f[i] (List.getElem?_eq_getElem C);refine .inr ⟨go,fun x H2 hy=>?_⟩;obtain⟨R,dx⟩:=yld x H2 hy;refine⟨⟨u,[],k,fun _=>0⟩,hP _ _ _ _ _ l,n,A,f[i],B.grow R,dx,hg _ _ _ _ (fun U2 q2 Y3 H3 O3 a2 s3=>?_) (step i f[i] E n (List.getElem?_eq_getElem C) iv)⟩;refine⟨⟨u,[],k,fun _=>0⟩,hP _ _ _ _ _ l,U2,O3,a2,ht _ _ _ (fun b L q3 H4 O4 S s4=>?_) q2⟩;have d4:aK (aw O4 H4) r E:=aK.mono s4.hid (aK.mono s3.hid (aK.mono (jl R) dv));cases b with
   | false=>exact fi ⟨f.length - (i+1),by omega,L,O4,E,S,jS q3,d4,C,rfl⟩
   | true=>refine fj ⟨⟨u,[],k,fun _=>0⟩,hP _ _ _ _ _ l,L,O4,S,he _ _ _ (fun y U4 q4 v H5 O5 cG s5 dy=>?_) (jR q3)⟩;refine⟨by rw[d4.length];exact q4.1,f.length - (i+1),by omega,U4,O5,E++[y],cG,q4.2,(aK.mono s5.hid d4).append (.cons dy .nil),C,rfl⟩
  ·have e:i=f.length:=by omega
   subst e;obtain⟨hz,q⟩:=fin E n iv;exact .inl ⟨w2,by rw[dv.length];exact hz,fun p hp=>q t k r p (l.grow sm) (s1.trans (.same sm)) (aK.mono (uQ N) dv) hp⟩
end
section
variable{X:Cx}{F:Fx}{E:Str->ai->Prop}{pos:Pos}
theorem Ms{own:List Str}{k:List Nat}{s:XM (List PyData)}{g:GM}{t:XM Bool}{m:XM PyData}{U:ai}{P:List PyData->ai->Prop}(q:wp E s U fun f l=>∃j,dD g t m f [] (jw own.length k l)=some j/\j.length<=sizeLine/\P j l) :
  wp E s U fun f l=>∃n:Nat->List PyData->ai->Prop,n 0 [] (dZ own k l)/\
   (∀i d j r,f[i]? = some d->n i j r->fR g d r fun u=>wp gp t u fun b o=>if b=true then wp gp m o fun y v=>j.length<sizeLine/\n (i+1) (j++[y]) v else n (i+1) j o)/\
   ∀j r,n f.length j r->j.length<=sizeLine/\P j l:=aH _ _ _ (fun f l ⟨p,A,B,C⟩=>by
 have D:dZ own k l=jw own.length k l:=by unfold dZ jw;rw[List.map_const']
 refine⟨fun i j U=>dD g t m (f.drop i) j U=some p,by rw[D];exact A,fun i d j U hd a=>?_,fun j U h=>?_⟩
 ·have e:f.drop i=d::f.drop (i+1):=by obtain⟨w,G⟩:=List.getElem?_eq_some_iff.mp hd;rw[<-G];exact List.drop_eq_getElem_cons w
  simp only[e] at a;unfold dD at a;unfold fR;cases z:g d U with
  | none=>rw[z] at a;cases a
  | some u=>
   rw[z] at a;simp only at a ⊢;unfold wp;cases ht:t u with
   | ex c o=>rw[ht] at a;cases a
   | bad=>rw[ht] at a;cases a
   | ok b o=>
    rw[ht] at a;cases b with
    | false=>exact fi a
    | true=>
     refine fj ?_;simp only at a ⊢;cases x:m o with
     | ex c v=>rw[x] at a;cases a
     | bad=>rw[x] at a;cases a
     | ok H v=>
      rw[x] at a;simp only at a ⊢;split at a
      ·rename_i h;exact⟨h,a⟩
      ·cases a
 ·simp only[List.drop_length] at h;have:j=p:=by unfold dD at h;exact Option.some.inj h
  subst this;exact⟨B,C⟩) q
noncomputable def rh(C:Addr)(i:Nat)(f:Str)(own:Nat)(a:List Nat)(g:GM)(t:XM Bool)(m:XM PyData)(b:List PyData):SM:=fun U=>match dD g t m b [] (jw own a U),cn C U i with
 | some c,some (io,fs)=>if c.length<=sizeLine/\fs.lookup f=none/\fs.length<1000 then .nx (U.set i (some (.own io (.o C (bG f (.l c) fs))))) else .bad
 | _,_=>.bad
noncomputable def vQ(C:Addr)(i:Nat)(f:Str)(own:Nat)(a:List Nat)(s:XM (List PyData))(g:GM)(t:XM Bool)(m:XM PyData):SM:=fun U=>en (s U) (rh C i f own a g t m)
theorem Mt{C:Addr}{i:Nat}{f x:Str}{T w y:Pos}{a:Scope}{own capN:List Str}{caps:List Nat}{N iter h:Expr}{j:List Expr}{s:XM (List PyData)}{g:GM}{t:XM Bool}{m:XM PyData}{n:Nat}(cl:dq X.K C)(na:cX X.K C f)(hv:PE X (.Name x T) (bU i))(hG:GF X.mg F)(S:az X a own capN caps)(hc:X.calm=true)(hn:own.length=n)(hi:FI X F E N iter s)
  (o:∀C A B J M b,GF X.mg b->FG (cq X a (own++capN) C A B J M) b N g/\oo (cq X a (own++capN) C A B J M) b gp j t/\FE (cq X a (own++capN) C A B J M) b gp h m)
  (Z:swapsWith (.ListComp h [⟨N,iter,j,0⟩] a pos) (some (.Attribute (.Name x T) f w)) y.line X.env=pure false:=by rfl)
  (hs:∀x,foldedSetIterable iter X.env x=pure x:=by intro _;rfl):FS X F E (.Assign [.Attribute (.Name x T) f w] (.ListComp h [⟨N,iter,j,0⟩] a pos) y) (vQ C i f n caps s g t m):=by
 subst hn;obtain⟨hg,ht,he⟩:=o 0 [] (PySem.start X.prog).1 (fun _=>none) [] F hG;have pe:PE X (.ListComp h [⟨N,iter,j,0⟩] a pos) (ms own caps (qA X.K F (wp E s)) (fun v Y H Q=>∃b,GF X.mg b/\qu X.K b (fR g) v Y H Q) (fun Y H Q=>∃b,GF X.mg b/\kZ X.K b (wp gp t) Y H Q) (fun Y H Q=>∃b,GF X.mg b/\iJ X.K b (wp gp m) Y H Q)):=zJ S hc hi.pi (fun C A B J M=>⟨fun c s Y H v u Q I r ⟨b,R,q⟩=>(o C A B J M b R).1.pg c s Y H v u Q I r q,fun c s Y H Q I ⟨b,R,q⟩=>(o C A B J M b R).2.1.2 c s Y H Q I q,fun c s Y H Q I ⟨b,R,q⟩=>(o C A B J M b R).2.2.pe c s Y H Q I q⟩) hs;refine(pY hv pe Z).imp fun D Y H ⟨U,O,DD,st,q,fD⟩=>?_;refine Mr (fun _ _ _ _ _ st=>hG.into st) hi.mn hg.mn ht.1 he.mn Y H _ ⟨U,O,st,Ms (aH _ _ _ (fun a1 U1 e=>?_) (fU (m:=s) (k:=rh C i f own.length caps g t m) q))⟩;unfold cg rh at e;cases L:dD g t m a1 [] (jw own.length caps U1) with
 | none=>rw[L] at e;exact e.elim
 | some ys=>
  cases ho:cn C U1 i with
  | none=>rw[L,ho] at e;exact e.elim
  | some p=>
   obtain⟨io,fs⟩:=p;rw[L,ho] at e;simp only at e
   by_cases d:ys.length<=sizeLine/\fs.lookup f=none/\fs.length<1000
   ·rw[if_pos d] at e;refine⟨ys,rfl,d.1,fun H' O' vs p a2 s' dv hp=>?_⟩;obtain⟨a0,dx,gs,a3,e2,hl,nw⟩:=a2.fldNew ho d.2.1;have pa:a0≠p:=fun z=>by subst z;rw[e2] at hp;cases hp
    obtain⟨h1,O3,a4,s3⟩:=nw p (.lst vs) (.l ys) hp trivial (fun G gg=>⟨p,vs,rfl,rfl,by rw[bj (fun z=>pa z.symm),cj],aK.mono gg dv⟩);exact⟨_,a3,a0,C,dx,gs,rfl,h1,cl,na,by rw[hl];exact d.2.2,fD.nx _ _ _ _ a4 (s'.trans s3) e⟩
   ·rw[if_neg d] at e;exact e.elim
end
end L2.L3
namespace L2
open PySem PyProof.Rows
def vR(h:Heap)(a:List Value)(rows:List (List Int)):Prop:=a.length=rows.length/\∀(i:Nat) (v:Value),a[i]? = some v->∃(T:Addr) (items:Array Value) (r:List Int),v=.ref T/\IsTup h T items/\rows[i]? = some r/\IntsAre items.toList r
noncomputable abbrev hI(rows:List (List Int)):Nat->Nat->Bool:=fun i j=>HT.lexLt (rows.getD i []) (rows.getD j [])
section
variable{prog:Program}{w:World}{A:Around}{R:Result->Shared->Prop}{E:Value->Shared->Prop}{s:Shared}{h0:Heap}{I l S:Addr}{its:Array Value}{rows:List (List Int)}{d:Value}
theorem Mu{Q:Value->Shared->Prop}{i j:Nat}{u v:Value}(g:A.units<cLine)(c:vR h0 its.toList rows)(f:∀b o,h0.get? b=some o->s.heap.get? b=some o)(h:its[i]? = some u)(k:its[j]? = some v)(q:Q (.bool (hI rows i j)) s):wpAny (model prog w) A (richCompare .Lt u v) Q E s:=by
 obtain⟨T,m,r,rfl,n,p,t⟩:=c.2 i u (by simpa using h);obtain⟨a,y,z,rfl,B,C,D⟩:=c.2 j v (by simpa using k);have G:rows.getD i []=r:=by rw[List.getD_eq_getElem?_getD,p];rfl
 have H:rows.getD j []=z:=by rw[List.getD_eq_getElem?_getD,C];rfl
 unfold hI at q;rw[G,H] at q;have J:IsTup s.heap T m:=let⟨o,e,x⟩:=n;⟨o,f _ _ e,x⟩;have L:IsTup s.heap a y:=let⟨o,e,x⟩:=B;⟨o,f _ _ e,x⟩;exact(HT.lt_tupInts J L t D g q:wpAny (model prog w) A (compareOp .Lt (.ref T) (.ref a)) Q E s)
theorem Mw(T:A.handled=none)(U:A.in1.units<cLine)(ht:vR h0 its.toList rows)(L:h0.IsList l its)(X:h0.objs.size<=I)(Y:h0.objs.size<=S)(q:I≠S) :
  ∀(k j:Nat) (s:Shared) (n:Value) (c:Nat),its.size - (j+1)=k->j+1<=its.size->(∀b o,h0.get? b=some o->s.heap.get? b=some o)->s.heap.IsListIter I l (j+1)->its[argBest (hI rows) j]? = some n->
  s.heap.get? S=some { cls:=.type "list",dict:=none,data:=.seq #[n,n] c,slots:=#[] }->
  (∀v u y,its[argBest (hI rows) (its.size - 1)]? = some v->(∀b o,h0.get? b=some o->u.get? b=some o)->R (.ok (.ret v)) { s with heap:=u,toks:=y })->
  codeAny (model prog w) A (.builtin "min.loop" ⟨[.ref I,.none,.ref S],[("default",d)]⟩) R s:=by
 have a:(toString "min"++toString ".loop":String)="min.loop":=by decide
 have M:∀{b:Addr}{o:Obj},h0.get? b=some o->b≠I:=fun e z=>by subst z;exact absurd (bB e) (Nat.not_lt.mpr X)
 have N:∀{b:Addr}{o:Obj},h0.get? b=some o->S≠b:=fun e z=>by subst z;exact absurd (bB e) (Nat.not_lt.mpr Y)
 intro k
 induction k with
 | zero=>
  intro j s n c Z hj C hit G f D;have H:j+1=its.size:=by omega
  refine codeAny_builtin F.entry_min_loop ?_;rw[Around.under_plainId F.plain_min_loop _];show wpAny _ A.in1 (seqItems? (.ref S) >>= _) _ _ s;refine al (wpAny_seqItems f rfl ?_);show wpAny _ A.in1 (tryCatch (pyNext (.ref I)) _ >>= _) _ _ s;refine al (wpAny_tryCatch (wpAny_pyNext_list_end T hit (L.at fun o e=>C _ _ e) (by simp;omega) fun Q g=>?_));have h:=g S _ (Ne.symm q) f;show wpAny _ A.in1 (updateSeq S (fun _=>#[]) >>= _) _ _ _;refine al (wpAny_updateSeq h rfl (al (wpAny_letGo (aV ?_))));refine D n _ _ (by rw[<-H];exact G) fun b o e=>?_;exact(Heap.get?_update_other _ _ (N e)).trans (g _ _ (M e) (C _ _ e))
 | succ k O=>
  intro j s n c Z hj C hit G f D;have m:j+1<its.size:=by omega
  refine codeAny_builtin F.entry_min_loop ?_;rw[Around.under_plainId F.plain_min_loop _];show wpAny _ A.in1 (seqItems? (.ref S) >>= _) _ _ s;refine al (wpAny_seqItems f rfl ?_);show wpAny _ A.in1 (tryCatch (pyNext (.ref I)) _ >>= _) _ _ s;refine al (wpAny_tryCatch (wpAny_pyNext_list_item hit (L.at fun o e=>C _ _ e) (x:=its[j+1]) (by simp[m]) fun Q p g=>?_));have h:=g.extBut S _ (Ne.symm q) f;have r:∀b o,h0.get? b=some o->Q.get? b=some o:=fun b o e=>g.extBut _ _ (M e) (C _ _ e);show wpAny _ A.in1 (tryCatch (holding [its[j+1],its[j+1]] (richCompare .Lt its[j+1] n >>= _)) _ >>= _) _ _ _;refine al (wpAny_tryCatch (wpAny_holding (al (Mu (i:=j+1) (j:=argBest (hI rows) j) U ht r (by simp[m]) G ?_))));refine al (wpAny_holding (wpAny_truthy_bool ?_));refine al (wpAny_letGo (aV ?_));cases B:hI rows (j+1) (argBest (hI rows) j) with
  | true=>simp only[if_true];refine al (wpAny_updateSeq h rfl (al (wpAny_letGo ?_)));rw[a];refine aV ⟨plainId_quiet F.plain_min_loop _,O (j+1) _ its[j+1] _ (by omega) m (fun b o e=>(Heap.get?_update_other _ _ (N e)).trans (r _ _ e)) (p.at fun o e=>(Heap.get?_update_other _ _ (Ne.symm q)).trans e) (by simp only[argBest,B,if_true];simp[m]) (Heap.get?_update_self _ h rfl) fun v u y J t=>D v u y J t⟩
  | false=>simp only[Bool.false_eq_true,if_false];refine al (wpAny_letGo ?_);rw[a];exact aV ⟨plainId_quiet F.plain_min_loop _,O (j+1) _ n c (by omega) m r p (by simp only[argBest,B,Bool.false_eq_true,if_false];exact G) h fun v u y J t=>D v u y J t⟩
theorem Mx{Q:Value->Shared->Prop}(t:A.handled=none)(u:A.in1.units<cLine)(j:s.heap.IsList l its)(G:vR s.heap its.toList rows)(k:0<its.size)(y:∀v h m,its[argBest (hI rows) (its.size - 1)]? = some v->(∀b o,s.heap.get? b=some o->h.get? b=some o)->Q v { s with heap:=h,toks:=m }) :
  wpAny (model prog w) A (call (.builtin "min") [.ref l] [("default",d)]) Q E s:=by
 refine BR F.kind_min F.plain_min F.entry_min (BQ _ _) ?_;show wpAny _ A.in1 (Builtin.Builtins.bindParams "min" ["key","default"] 0 ⟨[],[("default",d)]⟩ >>= _) _ _ s;refine al (wpAny_of_eq (show Builtin.Builtins.bindParams "min" ["key","default"] 0 ⟨[],[("default",d)]⟩=pure [none,some d] from rfl) ?_);refine al (aV ?_);refine al (wpAny_pyIter_list j ?_);refine al (wpAny_newObj_type ?_);have a:(toString "min"++toString ".loop":String)="min.loop":=by decide
 rw[a];generalize n:(s.heap.push { cls:=.type "list_iterator",data:=.fields #[.ref l,.int 0 0] })=h1;have B:h1.get? s.heap.objs.size=some { cls:=.type "list_iterator",data:=.fields #[.ref l,.int 0 0] }:=by rw[<-n];exact Heap.get?_push_size _ rfl
 have C:∀b o,s.heap.get? b=some o->h1.get? b=some o:=fun b o e=>by rw[<-n];exact bA _ e
 have p:h1.objs.size=s.heap.objs.size+1:=by rw[<-n,Heap.size_push]
 refine aV ⟨plainId_quiet F.plain_min_loop _,?_⟩;refine codeAny_builtin F.entry_min_loop ?_;rw[Around.under_plainId F.plain_min_loop _];have q:(h1.push { cls:=.type "list",data:=.seq #[] }).get? h1.objs.size=some { cls:=.type "list",data:=.seq #[] }:=Heap.get?_push_size _ rfl;have r:∀b o,s.heap.get? b=some o->(h1.push { cls:=.type "list",data:=.seq #[] }).get? b=some o:=fun b o e=>bA _ (C b o e);show wpAny _ A.in1 (seqItems? (.ref h1.objs.size) >>= _) _ _ _;refine al (wpAny_seqItems q rfl ?_);show wpAny _ A.in1 (tryCatch (pyNext (.ref s.heap.objs.size)) _ >>= _) _ _ _;refine al (wpAny_tryCatch (wpAny_pyNext_list_item (i:=0) (l:=l) (items:=its) (x:=its[0]) ⟨_,bA _ B,rfl,rfl⟩ (j.at fun o e=>r _ _ e) (by simp[k]) fun H c f=>?_));have ne:s.heap.objs.size≠h1.objs.size:=by rw[p];exact Nat.ne_of_lt (Nat.lt_succ_self _)
 have g:=f.extBut _ _ (Ne.symm ne) q;have D:∀b o,s.heap.get? b=some o->H.get? b=some o:=fun b o e=>f.extBut _ _ (Nat.ne_of_lt (bB e)) (r _ _ e);show wpAny _ A.in1 (updateSeq h1.objs.size (fun _=>#[its[0],its[0]]) >>= _) _ _ _;refine al (wpAny_updateSeq g rfl ?_);rw[a];refine aV ⟨plainId_quiet F.plain_min_loop _,Mw (h0:=s.heap) (its:=its) (rows:=rows) t u G j (bH _) (by rw[p];exact Nat.le_succ _) ne _ 0 _ its[0] _ rfl k (fun b o e=>(Heap.get?_update_other _ _ (fun z=>by subst z;exact absurd (bB e) (by rw[p];exact Nat.not_lt.mpr (Nat.le_succ _)))).trans (D _ _ e)) (c.at fun o e=>(Heap.get?_update_other _ _ (Ne.symm ne)).trans e) (by simp[argBest,k]) (Heap.get?_update_self _ g rfl) fun v h m J L=>y v h m J L⟩
end
end L2
namespace L2.L3
open PySem PySem.Spec PyProof.Rows
noncomputable def lC:List PyData->Option (List Int)
 | []=>some []
 | .int i::r=>(lC r).map (i::·)
 | _=>none
noncomputable def kn:List PyData->Option (List (List Int))
 | []=>some []
 | .tuple ds::r=>(match lC ds,kn r with | some x,some y=>some (x::y) | _,_=>none)
 | _=>none
theorem BS:∀{b:List PyData}{a:List Int},lC b=some a->b=a.map PyData.int
 | [],a,h=>by cases h;rfl
 | .int i::r,a,h=>by unfold lC at h;obtain⟨m,h1,h2⟩:=Option.map_eq_some_iff.mp h;subst h2;rw[BS h1];rfl
 | .none::_,_,h=>by cases h
 | .bool _::_,_,h=>by cases h
 | .str _::_,_,h=>by cases h
 | .list _::_,_,h=>by cases h
 | .tuple _::_,_,h=>by cases h
 | .dict _::_,_,h=>by cases h
theorem BT:∀{b:List PyData}{a:List (List Int)},kn b=some a->b=a.map fun r=>PyData.tuple (r.map PyData.int)
 | [],a,h=>by cases h;rfl
 | .tuple l::r,a,h=>by
  unfold kn at h;cases h1:lC l with
  | none=>rw[h1] at h;cases h
  | some x=>
   cases h2:kn r with
   | none=>rw[h1,h2] at h;cases h
   | some y=>rw[h1,h2] at h;cases h;rw[BT h2,BS h1];rfl
 | .none::_,_,h=>by cases h
 | .bool _::_,_,h=>by cases h
 | .str _::_,_,h=>by cases h
 | .list _::_,_,h=>by cases h
 | .int _::_,_,h=>by cases h
 | .dict _::_,_,h=>by cases h
theorem BU{H:Hp}:∀{b:List V}{a:List Int},aK H b (a.map PyData.int)->b=a.map V.int
 | _,[],.nil=>rfl
 | _,n::a,.cons h t=>by rw[h.int_inv,BU t];rfl
theorem BV:∀{a:List Int}{b:List Value},be (a.map V.int) b->IntsAre b a
 | [],_,.nil=>.nil
 | n::a,_,.cons r t=>by obtain⟨c,rfl⟩:=r;exact .cons n c (BV t)
noncomputable def fV:List (List Int)->List Int->List Int
 | [],b=>b
 | r::a,b=>fV a (if HT.lexLt r b=true then r else b)
theorem BW(rows:List (List Int)):∀(k j:Nat),j+1+k=rows.length->fV (rows.drop (j+1)) (rows.getD (argBest (hI rows) j) [])=rows.getD (argBest (hI rows) (rows.length - 1)) []
 | 0,j,h=>by have e:rows.drop (j+1)=[]:=List.drop_eq_nil_of_le (by omega);rw[e,fV,show rows.length - 1=j by omega]
 | k+1,j,h=>by
  have a:j+1<rows.length:=by omega
  rw[List.drop_eq_getElem_cons a,fV,<-BW rows k (j+1) (by omega)]
  congr 1
  have b:rows.getD (j+1) []=rows[j+1]:=by rw[List.getD_eq_getElem?_getD,List.getElem?_eq_getElem a];rfl
  simp only[argBest];unfold hI;rw[b];split
  ·exact b.symm
  ·rfl
theorem My{A:Around}(a:A.units+1<cLine):A.in1.units<cLine:=by
 have:A.in1.units<=A.units+1:=by first | exact bH _ | exact Nat.le_succ _
 exact Nat.lt_of_le_of_lt this a
section
variable{X:Cx}{F:Fx}{E:Str->ai->Prop}{pos p p1 kp kpos:Pos}{x:Str}{i:Nat}
noncomputable def ko(i:Nat):XM PyData:=fun U=>match jz U i with
 | some (_,ds)=>(match kn ds with
  | some []=>.ok .none U
  | some (r::a)=>.ok (.tuple ((fV a r).map PyData.int)) U
  | none=>.bad)
 | none=>.bad
theorem Mz{N:Nat}(hu:X.A.units+1<cLine)(hc:X.calm=true)(hg:Gl X "min")(C:X.mg "min" = none)(Z:PE X (.Name x p1) (bU i))
  (a0:starEach [.Name x p1] X.env=(false,eval (.Name x p1) X.env)::starEach [] X.env:=by rfl)
  (he:backTo pos (starEach [.Name x p1] X.env)=(false,eval (.Name x p1) X.env)::backTo pos (starEach [] X.env):=by rfl)
  (f:(backTo pos (starEach [.Name x p1] X.env)).any (·.1)=false:=by rfl)
  (D:(backToKw pos (keywordEach [⟨some "default",.Constant .none N kp,kpos⟩] X.env)).all (·.1.isSome)=true:=by rfl)
  (a1:(backToKw pos (keywordEach [⟨some "default",.Constant .none N kp,kpos⟩] X.env)).any (·.1.isNone)=false:=by rfl)
  (hn:(backToKw pos (keywordEach [⟨some "default",.Constant .none N kp,kpos⟩] X.env)).filterMap (·.1)=[("default":Str)]:=by rfl) :
  FE X F E (.Call (.Name "min" p) [.Name x p1] [⟨some "default",.Constant .none N kp,kpos⟩] pos) (ko i):=by
 refine⟨aH,fun h s Y H Q I ⟨U,O,st,q⟩=>?_⟩;unfold wp ko at q;cases ho:jz U i with
 | none=>rw[ho] at q;exact q.elim
 | some pr=>
  obtain⟨io,ds⟩:=pr;rw[ho] at q;simp only at q;cases hr:kn ds with
  | none=>rw[hr] at q;exact q.elim
  | some rows=>
   rw[hr] at q;obtain⟨a,fp,a2,⟨_,xs,hH,hd⟩,_,_⟩:=st.box (vG ho);refine wpAny_Call_Name_kw (jM I hg C PyProof.Rows.boot_min ?_ (by decide) (by decide));refine PyProof.Rows.callWith_kw ?_ he f D a1;refine aT ((ej Z eQ a0) pos h s Y H (fun G R=>G=[.ref a]/\R=H) I ⟨_,a2,rfl,rfl⟩) fun us s1 ⟨G,R,I1,r1,t,y⟩=>?_;subst t y;obtain⟨u,rfl,ru⟩:=dM r1;cases ru;refine aT ((GI (nm:=some "default") (kpos:=kpos) uh GG) pos h s1 Y R (fun G m=>G=[.non]/\m=R) I1 ⟨rfl,rfl⟩) fun us s2 ⟨G,m,z,r2,t,y⟩=>?_;subst t y;obtain⟨u,rfl,ru⟩:=dM r2;cases ru;rw[hn];obtain⟨z1,g,n1,rv,g1⟩:=z.hok _ _ hH;have n:=BT hr;have L:s2.heap.IsList a g.toArray:=⟨_,g1,rfl,_,rfl⟩
   cases rows with
   | nil=>subst n;cases hd;cases rv;simp only at q;refine Mq (l:=a) (d:=.none) (z.ok.hd hc) L fun h' j=>?_;exact⟨.non,m,z.kept (t':=s2.toks) j,rfl,q _ m O st .refl .non⟩
   | cons r e=>
    simp only at q;have c:g.length=(r::e).length:=by rw[<-rv.length,hd.length,n,List.length_map]
    have item:∀(k:Nat) (v:Value),g[k]? = some v->∃(T:Addr) (o:List Int) (b:List Value) (B:V),v=.ref T/\IsTup s2.heap T b.toArray/\(r::e)[k]? = some o/\IntsAre b o/\bd B v/\DV (aw O m) B (.tuple (o.map PyData.int)):=fun k v j=>by
     have J:k<(r::e).length:=by rw[<-c];exact(List.getElem?_eq_some_iff.mp j).1
     have a3:ds[k]? = some (.tuple (((r::e)[k]).map PyData.int)):=by rw[n,List.getElem?_map,List.getElem?_eq_getElem J];rfl
     obtain⟨B,a4,M⟩:=hd.get a3;obtain⟨w,hw,a5⟩:=rv.get a4;rw[j] at hw;cases hw;obtain⟨T,ys,rfl,hT,hy⟩:=M.tup_inv;obtain⟨_,b,rj,pj⟩:=(gR hT).1.ok z.hok;rw[BU hy] at rj;cases a5;exact⟨T,_,b,.ref T,rfl,pj,List.getElem?_eq_getElem J,BV rj,rfl,M⟩
    refine Mx (l:=a) (its:=g.toArray) (rows:=r::e) (d:=.none) (z.ok.hd hc) (My hu) L ⟨c,fun k v j=>by
     obtain⟨T,o,b,B,t,y,S,e4,_,_⟩:=item k v j;exact⟨T,b.toArray,o,t,y,S,e4⟩⟩ (by simp only[List.size_toArray];rw[c];simp) fun v h' tk Z j=>?_
    simp only[List.size_toArray,List.getElem?_toArray] at Z;obtain⟨T,o,b,B,t,y,S,e4,e5,e6⟩:=item _ v Z;have C:=BW (r::e) e.length 0 (by simp;omega);have a6:(r::e).getD (argBest (hI (r::e)) 0) []=r:=by simp[argBest]
    rw[a6] at C;change fV e r=_ at C;rw[c] at S;have:o=fV e r:=by rw[C,List.getD_eq_getElem?_getD,S];rfl
    subst this;exact⟨B,m,z.kept (t':=tk) j,e5,q _ m O st .refl e6⟩
end
structure MD (K:Frag) (C:Addr) (m qual:Str) (st:Stmt) (ps:List Str) (g:Addr) (fd:FuncData):Prop where
 fn:kU K m qual st g fd
 mt:ie K C m g
 b:gP K fd ps []
theorem bC{N P:List Str}{a:Scope}(f:a.kind=.function:=by rfl)(g:a.isCoroutine=false:=by rfl)(h:a.isGenerator=false:=by rfl)(b:N.Nodup:=by decide +kernel)(c:N.take P.length=P:=by rfl)(d:∀x∈P,a.names.lookup x=some .local\/a.names.lookup x=some .cell:=by decide +kernel)(e:∀y∈a.names,y.2≠.free:=by decide +kernel):aa N P a:=⟨f,g,h,b,c,d,e⟩
section
variable{X:Cx}{F:Fx}{E:Str->ai->Prop}{e:Expr}{es:List Expr}{pos p p1 apos:Pos}{x m q:Str}{C:Addr}{i k j:Nat}{g:Addr}{fd:FuncData}{ps:List Str}{f:FM}{st:Stmt}{mX:XM (List AX)}
theorem fv(i:Nat)(b:X.N[i]? = some x:=by rfl)(c:pR X.env.scope x:=by first | exact Or.inl rfl | exact Or.inr (Or.inl rfl) | exact Or.inr (Or.inr rfl))(hd:(x==("__debug__":Str))=false:=by decide)(a:(x==("__classdict__":Str))=false:=by decide):FE X F E (.Name x pos) (xV i):=KQ (Ir i (pv i b c hd a))
theorem dJ(i:Nat)(a:X.N.Nodup)(b:X.N[i]? = some x:=by rfl)(d:gO X.env.scope x:=by first | exact Or.inl rfl | exact Or.inr rfl)(c:X.fn x=true\/X.env.scope.names.lookup x=some .local:=by first | exact .inl rfl | exact .inr rfl | assumption):FG X F (.Name x pos) (aI i):=Le (Jm (Fo a b d c))
theorem aW(r:eV X F E)(G:aA X.prog X.w X.K X.mg X.base (ba X.prog X.w) k g fd ps (bf X.K X.mg f))(D:FD X.K X.mg x st ps g fd)(d:bx j X.A)(h:FX X F E (e::es) mX)(l:k<=j:=by decide)(n:Gl X x:=by rfl)(a:(x==("__debug__":Str))=false:=by decide)
  (o:starEach (e::es) X.env=(false,eval e X.env)::starEach es X.env:=by rfl) (c:(backTo pos (starEach es X.env)).any (·.1)=false:=by rfl):FO X F E (.Call (.Name x p) (e::es) [] pos) (aO f mX):=Bb (JS r G (d.mono l) n D.mgf D.fn.kp D.b h a o c)
theorem fz{o:Sem Bool}(r:eV X F E)(cl:dq X.K C)(G:aA X.prog X.w X.K X.mg X.base (ba X.prog X.w) k g fd ps (bf X.K X.mg f))(D:MD X.K C m q st ps g fd)(h:bx j X.A)(s:PE X (.Name x p1) (bU i))(l:FX X F E (e::es) mX)(n:k<=j:=by decide)
  (a:starEach (e::es) X.env=(false,eval e X.env)::starEach es X.env:=by rfl) (c:(backTo pos (starEach es X.env)).any (·.1)=false:=by rfl)
  (t:eval (.Call (.Attribute (.Name x p1) m apos) (e::es) [] pos) X.env=(do
   let d <-eval (.Name x p1) X.env
   standAt apos.atName
   let(f,first) <-holding [d] (getMethod d m o)
   callWith pos f first (backTo pos (starEach (e::es) X.env)) (backToKw pos (keywordEach [] X.env))):=by rfl) :
  FO X F E (.Call (.Attribute (.Name x p1) m apos) (e::es) [] pos) (bP C i m f mX):=Mc r cl D.mt G (h.mono n) D.b s l a c t
theorem gF{h:Sem Bool}(l:eV X F E)(cl:dq X.K C)(G:aA X.prog X.w X.K X.mg X.base (ba X.prog X.w) k g fd ps (bf X.K X.mg f))(D:MD X.K C m q st ps g fd)(c:bx j X.A)(n:PE X (.Name x p1) (bU i))(d:k<=j:=by decide)
  (o:eval (.Call (.Attribute (.Name x p1) m apos) [] [] pos) X.env=(do
   let a <-eval (.Name x p1) X.env
   standAt apos.atName
   let(f,first) <-holding [a] (getMethod a m h)
   callWith pos f first (backTo pos (starEach [] X.env)) (backToKw pos (keywordEach [] X.env))):=by rfl) :
  FO X F E (.Call (.Attribute (.Name x p1) m apos) [] [] pos) (dE C i m f):=Md l cl D.mt G (c.mono d) D.b n o
end
end L2.L3
namespace HT
open PySem PyProof.Rows
section
variable{prog:Program}{w:World}{A:Around}{E:Value->Shared->Prop}{s:Shared}
theorem getItem_tuple_whole{t f:Addr}{items:Array Value}{g i:Value}{lo b:Option Int}{Q:Value->Shared->Prop}(a:IsTup s.heap t items)(j:s.heap.IsSliceOf f g i .none)(n:IsPart g lo)(k:IsPart i b)
  (l:sIx items.size 0 lo=0) (o:sIx items.size items.size b=items.size) (h:Q (.ref t) s):wpAny (model prog w) A (getItem (.ref t) (.ref f)) Q E s:=by
 obtain⟨os,c,d,m⟩:=id j;have e:s.TypeIs (.ref f) "slice":=⟨os,c,d⟩
 unfold getItem
 try with_reducible refine wpAny_holding ?_
 first | refine al (aV ?_) | skip
 refine al (wpAny_sequenceKey a.typeIs (by decide) ?_);refine al (wpAny_callSpecial?_slot (name:=Str.ofString "__getitem__") a.typeIs PyProof.Rows.slot_tuple_getitem (wpAny_call_entry PyProof.Rows.slot_tuple_getitem a.typeIs entry_tuple_getitem ?_ (args_tuple_getitem _ _)));show wpAny _ _ (Builtin.Tuple.tupleItemsOf (.ref t) >>= _) _ _ s;refine al (tupleItemsOf_ a ?_);refine al (wpAny_typeOf e ?_);rw[if_pos (by decide)];refine al (yT j n k ?_);show wpAny _ _ (if (((sIx items.size 0 lo:Nat):Int)==0&&(1:Int)==1&&(sIx items.size items.size b - sIx items.size 0 lo)==items.size)=true then _ else _) _ _ s;rw[if_pos (by rw[l,o];simp)];unfold Builtin.Tuple.tupleIsExact
 first
  | exact al (al (wpAny_typeOf a.typeIs (aV (by
    show wpAny _ _ (if ((Value.type "tuple"==Value.type "tuple"):Bool)=true then _ else _) _ _ s;rw[if_pos (by decide)];exact al (wpAny_rule (aV ⟨_,rfl,aV h⟩))))))
  | exact al (al (wpAny_typeOf a.typeIs (aV (by
    show wpAny _ _ (if ((Value.type "tuple"==Value.type "tuple"):Bool)=true then _ else _) _ _ s;rw[if_pos (by decide)];exact al (wpAny_rule (al (aV (aV ⟨_,rfl,aV h⟩))))))))
  | exact al (al (al (wpAny_typeOf a.typeIs (aV (by
    show wpAny _ _ (if ((Value.type "tuple"==Value.type "tuple"):Bool)=true then _ else _) _ _ s;rw[if_pos (by decide)];exact al (wpAny_rule (aV (aV ⟨_,rfl,aV h⟩))))))))
end
end HT
namespace L2
open PySem PySem.Spec PyProof.Rows
section
variable{X:Cx}
noncomputable def MA(K:Frag):V->Option Int->Option Int->Hp->VK->Prop:=fun x lo c H Q=>∃a b,x=.ref a/\eP K H a b/\HT.sIx b.length 0 lo=0/\HT.sIx b.length b.length c=b.length/\Q (.ref a) H
theorem MB:iF X (MA X.K):=by
 intro d s Y H x v l m lo n p Q I e j k f h;obtain⟨a,g,rfl,hx,i,h1,q⟩:=h;cases e;obtain⟨c,r,ht,o⟩:=I.tuple hx;have b:c.toArray.size=g.length:=by rw[List.size_toArray];exact r.length.symm
 refine⟨"tuple",_,PyProof.Rows.slot_tuple_getitem.lookup,ht.typeIs,?_⟩;exact HT.getItem_tuple_whole ht j k f (by rw[b];exact i) (by rw[b];exact h1) ⟨.ref a,H,I,rfl,q⟩
end
end L2
namespace L2.L3
open PySem PySem.Spec PyProof.Rows
noncomputable def mM(a:List PyData)(lo b:Option Int):List PyData:=(a.drop (HT.sIx a.length 0 lo)).take (HT.sIx a.length a.length b - HT.sIx a.length 0 lo)
theorem aK.drop{H:Hp}:∀{a:List V}{b:List PyData}(n:Nat),aK H a b->aK H (a.drop n) (b.drop n)
 | _,_,0,h=>h
 | _,_,_+1,.nil=>.nil
 | _,_,n+1,.cons _ t=>aK.drop n t
theorem aK.take{H:Hp}:∀{a:List V}{b:List PyData}(n:Nat),aK H a b->aK H (a.take n) (b.take n)
 | _,_,0,_=>.nil
 | _,_,_+1,.nil=>.nil
 | _,_,n+1,.cons h t=>.cons h (aK.take n t)
theorem BX{H:Hp}{a:List V}{c:List PyData}{lo b:Option Int}(h:aK H a c):aK H (iG a lo b) (mM c lo b):=by unfold iG mM;rw[h.length];exact aK.take _ (aK.drop _ h)
noncomputable def MC(K:Frag)(F:Fx)(t:ai->(Option Int->ai->Prop)->Prop):TO:=fun Y H Q=>∃U O,aC K F H Y U O/\t U fun o c=>∀a b,aC K F a Y c b->aP O H b a->Q o a
section
variable{X:Cx}{F:Fx}{E:Str->ai->Prop}{e:Expr}{pos p2:Pos}{lo hi:Option Expr}
def FP(X:Cx)(F:Fx)(E:Str->ai->Prop)(e:Option Expr)(m:XM (Option Int)):Prop:=PO X e (MC X.K F (wp E m))
@[simp] noncomputable def jB:XM (Option Int):=fun U=>.ok none U
@[simp] noncomputable def jC(m:XM PyData):XM (Option Int):=fun U=>(m U).bind fun d=>lift (match d with | .int i=>some (some i) | _=>none)
theorem PO.imp{e:Option Expr}{t t':TO}(h:PO X e t)(k:∀Y H Q,t' Y H Q->t Y H Q):PO X e t':=fun a s Y H Q I q=>h a s Y H Q I (k Y H Q q)
theorem vS:FP X F E none jB:=PO.imp yU fun Y H Q ⟨U,O,st,q⟩=>q H O st .refl
theorem vT{m:XM PyData}(h:FE X F E e m):FP X F E (some e) (jC m):=PO.imp (yV h.pe) fun Y H Q ⟨U,O,st,q⟩=>⟨U,O,st,aH _ _ _ (fun d n c v f g a j k=>by
 obtain⟨y,b,l⟩:=cZ c;cases d with
 | int i=>cases b;exact⟨i,k.int_inv,l f g a j⟩
 | _=>cases b) (bO q)⟩
noncomputable def lD(d:PyData)(l h:Option Int):Option PyData:=match d with
 | .list ds=>some (.list (mM ds l h))
 | .tuple ds=>some (.tuple (mM ds l h))
 | _=>none
@[simp] noncomputable def jD(m:XM PyData)(lo hi:XM (Option Int)):XM PyData:=fun U=>(m U).bind fun d a=>(lo a).bind fun l b=>(hi b).bind fun h=>lift (lD d l h)
theorem vU{m:XM PyData}{r j:XM (Option Int)}(D:FE X F E e m)(G:FP X F E lo r)(I:FP X F E hi j):FE X F E (.Subscript e (.Slice lo hi none p2) pos) (jD m r j):=
 ⟨aH,(yW (iF.or (iF.or Hb MB) zb) D.pe G I).imp fun Y H Q ⟨U,O,st,q⟩=>
  ⟨U,O,st,aH _ _ _ (fun d t J v H1 L u M N=>⟨t,L,u,aH _ _ _ (fun l n R H2 S w B=>⟨n,S,w,aH _ _ _ (fun h U3 T Z x b C=>by
   obtain⟨y,z,A⟩:=cZ T;have g:=DV.mono (B.trans C).hid N;have i:=M.trans (B.trans C);cases d with
   | list ds=>cases z;obtain⟨a,f,rfl,s,hx⟩:=g.lst_inv;exact .inr ⟨a,f,rfl,.of (cY s).1,fun p c=>A _ _ x (b.grow (bX c)) (i.trans (.same (bX c))) (kY c (b.nofree p c) (BX hx))⟩
   | tuple ds=>
    cases z;obtain⟨a,f,ev,s,hx⟩:=id g.tup_inv;subst ev;refine .inl ?_
    by_cases o:HT.sIx f.length 0 l=0/\HT.sIx f.length f.length h=f.length
    ·refine .inr ⟨a,f,rfl,.inl (gR s).1,o.1,o.2,A _ Z x b i ?_⟩;have:mM ds l h=ds:=by unfold mM;rw[<-hx.length,o.1,o.2];rw[List.drop_zero,Nat.sub_zero,hx.length];exact List.take_length
     rw[this];exact g
    ·exact .inl ⟨a,f,rfl,.inl (gR s).1,o,fun p c=>A _ _ x (b.grow (bX c)) (i.trans (.same (bX c))) (nU c (b.nofree p c) (BX hx))⟩
   | _=>cases z) (bO (m:=j) (k:=fun h=>lift (lD d l h)) R)⟩) (bO (m:=r) (k:=fun l n=>(j n).bind fun h=>lift (lD d l h)) J)⟩) (bO (m:=m) (k:=fun d t=>(r t).bind fun l n=>(j n).bind fun h=>lift (lD d l h)) q)⟩⟩
end
section
variable{X:Cx}{F:Fx}{a b:Expr}{ta tb:DT}{pos:Pos}
noncomputable def vV:D2:=fun x y Q=>∃d u c,y=.tuple d/\jy x=some u/\iR d=some c/\Q (.bool (ml u c))
theorem ME{K:Frag}:eJ (qd K false) vV where
 mn:=fun _ _ _ _ k ⟨ds,u,us,e1,e2,e3,q⟩=>⟨ds,u,us,e1,e2,e3,k _ q⟩
 ok:=fun O H u v x y Q hO h1 h2 ⟨ds,u',us,e1,e2,e3,q⟩=>by subst e1;obtain⟨b,ys,rfl,hb,he⟩:=h2.tup_inv;obtain⟨rfl,f2⟩:=oz he e3;obtain⟨rfl,f1⟩:=oy h1 e2;exact⟨b,_,rfl,.inr (.inl (gR hb).1),f1,f2,q _ H (fun _ _ h=>h) (.bl _)⟩
theorem MG(c:DE X F a ta)(e:DE X F b tb)(d:lastMarks [.In] [b]=false:=by with_unfolding_all rfl):DE X F (.Compare a [.In] [b] pos) (cI vV ta tb):=jP Hi ME c e d
@[simp] noncomputable def mO:PyData->PyData->Option PyData:=fun x y=>match y with
 | .tuple ds=>(match jy x,iR ds with
  | some u,some c=>some (.bool (ml u c))
  | _,_=>none)
 | _=>none
theorem MH:F2 vV mO:=fun x y d Q e q=>by
 unfold mO at e;split at e
 ·rename_i ds;split at e
  ·rename_i u c h1 h2;cases e;exact⟨ds,u,c,rfl,h1,h2,q⟩
  ·cases e
 ·cases e
end
end L2.L3
namespace L2.L3
open PySem
theorem MI{c:Str->Option Value}(e:c "ANY_ZONE" = none)(f:c "NO_DEEDS" = none)(H:Hp):GH c H:=fun x d u a b=>by
 unfold glob at a;split at a
 ·rename_i h;subst h;rw[e] at b;cases b
 ·split at a
  ·rename_i h;subst h;rw[f] at b;cases b
  ·cases a
end L2.L3
namespace L2.L3
open PySem PySem.Spec PyProof.Rows
def DF(K:Frag)(x:Str)(st:Stmt):Prop:=∃(f:Addr) (b:Value) (c d:Option Addr) (g:Array (Option Value)) (kV e pm a h:Value),nsIn K mainGlobals x=some (some (.ref f))/\
 K.lookup f=some ⟨b,c,.func (fnOf x x (jj st) (ij st) (bh st) .none kV e pm d a h),g⟩/\codeIn K a x=true/\keepIn K (.ref f)=true
def MF(K:Frag)(C:Addr)(m q:Str)(st:Stmt):Prop:=∃(f:Addr) (b:Value) (c d:Option Addr) (g:Array (Option Value)) (kV e pm a h:Value),findIn K (.ref C) m=some (some (.ref f))/\PySem.W.isFn K (.ref f)=true/\
 K.lookup f=some ⟨b,c,.func (fnOf m q (jj st) (ij st) (bh st) .none kV e pm d a h),g⟩/\codeIn K a q=true/\keepIn K (.ref f)=true
theorem dL{P:List Value->Prop}(h:∀a,P [a]):∀b:List Value,b.length=1->P b
 | [a],_=>h a
theorem hJ{P:List Value->Prop}(h:∀a b,P [a,b]):∀c:List Value,c.length=2->P c
 | [a,b],_=>h a b
theorem fA{P:List Value->Prop}(h:∀a b c,P [a,b,c]):∀d:List Value,d.length=3->P d
 | [a,b,c],_=>h a b c
theorem vW{P:List Value->Prop}(h:∀a b c d,P [a,b,c,d]):∀e:List Value,e.length=4->P e
 | [a,b,c,d],_=>h a b c d
theorem MJ{P:List Value->Prop}(h:∀a b c d e,P [a,b,c,d,e]):∀f:List Value,f.length=5->P f
 | [a,b,c,d,e],_=>h a b c d e
section
variable{K:Frag}{h:Heap}{mg:Str->Option Value}{x m q:Str}{st:Stmt}{C:Addr}{ps:List Str}
abbrev Bd(x q:Str)(st:Stmt)(ps:List Str):Prop:=∀(kV a pm:Value) (d:Option Addr) (b e:Value) (c:List Value),c.length=ps.length->bindArgs (fnOf x q (jj st) (ij st) (bh st) .none kV a pm d b e) ⟨c,[]⟩=pure (ps.zip c)
theorem DF.fd(D:DF K x st)(X:K.In h)(G:h.Ns mainGlobals mg)(b:Bd x x st ps):∃g fd,FD K mg x st ps g fd:=by obtain⟨f,_,_,_,_,_,_,_,_,_,a,l,c,k⟩:=D;exact⟨f,_,nL l c k,mg_of X G a,(nL l c k).binds b⟩
theorem MF.md(D:MF K C m q st)(b:Bd m q st ps):∃g fd,MD K C m q st ps g fd:=by obtain⟨f,_,_,_,_,_,_,_,_,_,a,i,l,c,k⟩:=D;exact⟨f,_,nL l c k,⟨a,i,k⟩,(nL l c k).binds b⟩
end
structure FQ (X:Cx) (F:Fx) (e:Expr) (g:ai->Option PyData):Prop where
 ex:∃te,PE X e te/\∀Y U H O d Q,aC X.K F H Y U O->g U=some d->(∀v H',bR H H'->DV (aw O H') v d->Q v H')->te Y H Q
section
variable{X:Cx}{F:Fx}{E:Str->ai->Prop}{e a b:Expr}{pos p1 p2:Pos}{x:Str}{i:Nat}{g ga gb:ai->Option PyData}
noncomputable def jE(i:Nat):ai->Option PyData:=fun U=>ei U i
theorem BY(h:PE X (.Name x p1) (bU i)):FQ X F (.Name x p1) (jE i):=⟨_,h,fun Y U H O d Q st e q=>by
 obtain⟨w,c,f⟩:=st.dat (mJ e);exact⟨w,c,q w H (bR.refl H) f⟩⟩
theorem FQ.fe(h:FQ X F e g):FE X F E e (fun U=>lift (g U) U):=by
 obtain⟨m,c,ht⟩:=h.ex;exact⟨aH,c.imp fun Y H Q ⟨U,O,st,q⟩=>by
  obtain⟨d,f,j⟩:=cZ (o:=g U) (U:=U) (E:=E) q;exact ht Y U H O d Q st f fun v k s l=>j v k O (st.grow s) (.same s) l⟩
end
noncomputable def fW(U:ai)(i:Nat):Option (Bool×List (Str×Fl)):=match U[i]? with
 | some (some (.own io (.sd fs)))=>some (io,fs)
 | _=>none
theorem oE{U:ai}{i:Nat}{io:Bool}{fs:List (Str×Fl)}(h:fW U i=some (io,fs)):U[i]? = some (some (.own io (.sd fs))):=by
 unfold fW at h;split at h
 ·rename_i e;cases h;exact e
 ·cases h
noncomputable abbrev cK(a:List (Str×V)):List (aR×V):=a.map fun p=>(Sum.inr p.1,p.2)
theorem oF(k:Str):∀a:List (Str×V),eS (cK a) (Sum.inr k)=a.lookup k
 | []=>rfl
 | (n,v)::a=>by
  show eS ((Sum.inr n,v)::cK a) (Sum.inr k)=_
  by_cases e:k=n
  ·subst e;rw[nM rfl];simp[List.lookup]
  ·rw[nN (fun z=>e (by injection z with z;exact z.symm)),oF k a,List.lookup_cons,show(k==n)=false by simpa using e]
theorem BZ(k:Str)(v:V):∀a:List (Str×V),(a.map (·.1)).Nodup->k∈a.map (·.1)->(cK a).map (fun b=>if b.1=(Sum.inr k:aR) then(b.1,v) else b)=cK (ck k v a)
 | (n,w)::a,nd,h=>by
  rw[List.map_cons,List.nodup_cons] at nd;show(if (Sum.inr n:aR)=Sum.inr k then((Sum.inr n:aR),v) else(Sum.inr n,w))::(cK a).map _=_;unfold ck
  by_cases e:n=k
  ·subst e;rw[if_pos rfl,if_pos rfl];show _::_=(Sum.inr n,v)::cK a
   congr 1
   have:∀p∈cK a,(fun b:aR×V=>if b.1=(Sum.inr n:aR) then(b.1,v) else b) p=p:=fun p c=>by obtain⟨q,d,rfl⟩:=List.mem_map.mp c;show(if (Sum.inr q.1:aR)=Sum.inr n then _ else _)=_;rw[if_neg (fun z=>nd.1 (by injection z with z;rw[<-z];exact List.mem_map.mpr ⟨q,d,rfl⟩))]
   exact(List.map_congr_left this).trans (List.map_id'' (fun _=>rfl) _)
  ·rw[if_neg (fun z=>e (by injection z)),if_neg e];show _::_=(Sum.inr n,w)::cK (ck k v a)
   congr 1
   refine BZ k v a nd.2 ?_;rcases List.mem_cons.mp h with h | h
   ·exact absurd h.symm e
   ·exact h
theorem MK{k:Str}{v:V}{a:List (Str×V)}(c:(a.map (·.1)).Nodup)(h:k∈a.map (·.1)):dN (cK a) (Sum.inr k) v=cK (ck k v a):=by unfold dN;rw[if_pos,BZ k v a c h];obtain⟨q,b,rfl⟩:=List.mem_map.mp h;rw[List.any_eq_true];exact⟨(Sum.inr q.1,q.2),List.mem_map.mpr ⟨q,b,rfl⟩,decide_eq_true rfl⟩
theorem bb.names{G H:Hp}{b:List (Str×V)}{fs:List (Str×Fl)}{a:List (List Addr)}(h:bb G H b fs a):b.map (·.1)=fs.map (·.1):=by
 induction h with
 | nil=>rfl
 | cons _ _ c=>rw[List.map_cons,List.map_cons,c]
theorem vX{β:Type}{k:Str}:∀{l:List (Str×β)},(l.lookup k).isSome=true->k∈l.map (·.1)
 | (n,v)::l,h=>by
  rw[List.lookup_cons] at h
  by_cases e:k=n
  ·rw[e];exact List.mem_cons_self
  ·rw[show(k==n)=false by simpa using e] at h;exact bQ _ (vX h)
theorem aC.sdUp{K:Frag}{F:Fx}{H:Hp}{Y:St}{U:ai}{O:List Addr}{i:Nat}{io:Bool}{fs:List (Str×Fl)}{f:Str}{x:Fl}(st:aC K F H Y U O)(L:fW U i=some (io,fs))(lk:fs.lookup f=some x)(M:rb x=true) :
  ∃a g b,Y[i]? = some (some (.ref a))/\H a=some (.dK (cK g))/\g.lookup f=some (.ref b)/\fm (aw O H) H (.ref b) x [b]/\
   ∀(d:HO) (h:Fl),Mv d->(∀G,bR (aw O H) G->fm G (aN H b d) (.ref b) h [b])->∃j,aC K F (aN H b d) Y (U.set i (some (.own io (.sd (bG f h fs))))) j/\aP O H j (aN H b d):=by
 obtain⟨a,N,m,⟨g,k,u,r,v⟩,Q,nd,up⟩:=st.boxN (oE L);subst u;have l:=nd;rw[List.nodup_cons] at l;obtain⟨w,y⟩:=l;obtain⟨b,A,B,t,C⟩:=vO M v lk y;have D:a≠b:=fun z=>w (by rw[z];exact t);refine⟨a,g,b,m,r,A,B,fun d h R E=>?_⟩;obtain⟨j,n,I,_⟩:=up (aN H b d) (.sd (bG f h fs)) (a::k.flatten) (fun c o p e=>by rw[bj (fun z=>p (by rw[z];exact bQ _ t))];exact e) nd (fun c p=>.inl p) (fun G j s J _=>by
  subst J;exact⟨s.hid,g,k,rfl,by rw[bj D];exact r,C _ _ h s.hid (fun c _ q=>bj q) (E _ s.hid)⟩)
 exact⟨j,n,I⟩
section
variable{X:Cx}{F:Fx}{E:Str->ai->Prop}{e a b:Expr}{pos p1 p2 fpos:Pos}{x k:Str}{i:Nat}{g ga gb:ai->Option PyData}{jk:Nat}
noncomputable def ML(i:Nat)(k:Str):TE:=fun Y H Q=>∃a c v,Y[i]? = some (some (.ref a))/\H a=some (.dK (cK c))/\c.lookup k=some v/\Q v H
theorem vY(c:X.A.units+1<cLine)(d:PE X (.Name x p1) (bU i)):PE X (.Subscript (.Name x p1) (.Constant (.str k) jk p2) pos) (ML i k):=
 (HH c d lZ (by intro _ _;rfl)).imp fun Y H Q ⟨a,f,v,h1,h2,h3,q⟩=>⟨_,h1,a,v,rfl,by
  have:=mm.k (k:=Sum.inr k) h2;rw[oF,h3] at this;exact this,q⟩
noncomputable def fB(i:Nat)(k:Str):ai->Option PyData:=fun U=>match fW U i with
 | some (_,fs)=>(match fs.lookup k with
  | some (.d d)=>some d
  | _=>none)
 | none=>none
theorem mP(f:X.A.units+1<cLine)(u:PE X (.Name x p1) (bU i)):FQ X F (.Subscript (.Name x p1) (.Constant (.str k) jk p2) pos) (fB i k):=⟨_,vY f u,fun Y U H O d Q st e q=>by
 unfold fB at e;cases ho:fW U i with
 | none=>rw[ho] at e;cases e
 | some p=>
  obtain⟨io,fs⟩:=p;rw[ho] at e;simp only at e;obtain⟨h,w,c,⟨j,n,z,o,r⟩,_,_⟩:=st.box (oE ho);rcases km r k with⟨l1,l2⟩ | ⟨v,y,s,l1,l2,l3,_⟩
  ·rw[l2] at e;cases e
  ·rw[l2] at e;cases y with
   | d B=>cases e;exact⟨h,j,v,c,o,l1,q v H (bR.refl H) l3.2⟩
   | l ds=>cases e
   | m C t=>cases e⟩
noncomputable def mQ(i:Nat)(k:Str)(g:ai->Option PyData):ai->Option PyData:=fun U=>match fW U i,g U with
 | some (_,fs),some (.int n)=>(match fs.lookup k with
  | some (.l ds)=>bE ds n
  | some (.d (.list ds))=>bE ds n
  | _=>none)
 | _,_=>none
theorem MM(C:X.A.units+1<cLine)(hv:PE X (.Name x p1) (bU i))(D:FQ X F e g)(hs:mj e:=by intro _ _;rfl):FQ X F (.Subscript (.Subscript (.Name x p1) (.Constant (.str k) jk p2) fpos) e pos) (mQ i k g):=by
 obtain⟨te,G,ht⟩:=D.ex;refine⟨_,qb qc (vY C hv) G hs,fun Y U H O d Q st e q=>?_⟩;unfold mQ at e;cases ho:fW U i with
 | none=>rw[ho] at e;cases e
 | some p=>
  obtain⟨io,fs⟩:=p;cases f:g U with
  | none=>rw[ho,f] at e;cases e
  | some I=>
   rw[ho,f] at e;cases I with
   | int n=>
    simp only at e;obtain⟨J,fp,h,⟨L,M,e1,N,R⟩,_,_⟩:=st.box (oE ho);rcases km R k with⟨l1,l2⟩ | ⟨v,y,S,l1,l2,l3,_⟩
    ·rw[l2] at e;cases e
    ·rw[l2] at e;refine⟨J,L,v,h,N,l1,ht Y U H O _ _ st f fun w B s T=>?_⟩;obtain rfl:=T.int_inv;cases y with
     | m tk Z=>cases e
     | l ds=>obtain⟨j,o,rfl,_,r,c⟩:=l3;obtain⟨u,t,z⟩:=rc c e;exact⟨j,o,n,u,rfl,rfl,.of (s _ _ r),t,q u B s (DV.mono (jl s) z)⟩
     | d x0=>
      cases x0 with
      | list ds=>obtain⟨j,o,rfl,r,c⟩:=l3.2.lst_inv;obtain⟨u,t,z⟩:=rc c e;exact⟨j,o,n,u,rfl,rfl,.of (s _ _ (cY r).1),t,q u B s (DV.mono (jl s) z)⟩
      | _=>cases e
   | _=>cases e
noncomputable def oG(i:Nat)(k:Str)(d:PyData):SM:=fun U=>match fW U i with
 | some (io,fs)=>if (fs.map (·.1)).Nodup/\eL (fs.lookup k)=true/\(fs.lookup k).isSome=true/\fs.length<1000 then .nx (U.set i (some (.own io (.sd (bG k (.d d) fs))))) else .bad
 | none=>.bad
noncomputable def kq(i:Nat)(k:Str)(m:XM PyData):SM:=fun U=>en (m U) (oG i k)
theorem Ca{m:XM PyData}{h:Pos}(M:X.A.units+1<cLine)(hv:PE X (.Name x p1) (bU i))(N:FE X F E e m)(hs:swapsWith e (some (.Subscript (.Name x p1) (.Constant (.str k) jk p2) h)) pos.line X.env=pure false:=by rfl) :
  FS X F E (.Assign [.Subscript (.Name x p1) (.Constant (.str k) jk p2) h] e pos) (kq i k m):=
 (zv M hv lZ N.pe hs).imp fun D Y H ⟨U,O,DD,st,q,Q⟩=>⟨U,O,st,aH _ _ _ (fun d R f r I O1 t S T=>by
  unfold cg oG at f;cases ho:fW R i with
  | none=>rw[ho] at f;exact f.elim
  | some p=>
   obtain⟨io,fs⟩:=p;rw[ho] at f;simp only at f
   by_cases j:(fs.map (·.1)).Nodup/\eL (fs.lookup k)=true/\(fs.lookup k).isSome=true/\fs.length<1000
   ·rw[if_pos j] at f;obtain⟨n,fp,u,⟨J,l,Z,e2,w⟩,hO,nd,up⟩:=t.boxN (oE ho);subst Z;have L:=w.names;have sz:1000<sizeLine:=by decide
    refine⟨_,u,n,_,rfl,jN.k (k:=Sum.inr k) (v:=r) e2 (by rw[List.length_map,w.len];omega),?_⟩;rw[MK (by rw[L];exact j.1) (by rw[L];exact vX j.2.2.1)];have na:n∉l.flatten:=(List.nodup_cons.mp nd).1;obtain⟨O3,y,s3,_⟩:=up (aN I n (.dK (cK (ck k r J)))) (.sd (bG k (.d d) fs)) (n::l.flatten) (fun c o B e=>by rw[bj (fun z=>B (by simp[z]))];exact e) nd (fun c j=>.inl j) (fun G O' s hG _=>by
     subst hG;have:=w.putD (H':=aN I n (.dK (cK (ck k r J)))) j.2.1 (DV.mono s.hid T) s.hid (fun c C=>bj (fun z=>na (by rw[<-z];exact C)));rw[if_pos j.2.2.1] at this;exact⟨s.hid,_,l,rfl,cj,this⟩)
    exact Q.nx _ _ _ _ y (S.trans s3) f
   ·rw[if_neg j] at f;exact f.elim) (fU (m:=m) (k:=oG i k) q)⟩
noncomputable def oH(i:Nat)(k:Str)(g:ai->Option PyData)(v:PyData):SM:=fun U=>match fW U i,g U with
 | some (io,fs),some (.int n)=>(match fs.lookup k with
  | some (.l ds)=>(match cp ds.length n with
   | some j=>.nx (U.set i (some (.own io (.sd (bG k (.l (ds.set j v)) fs)))))
   | none=>.bad)
  | _=>.bad)
 | _,_=>.bad
noncomputable def ri(i:Nat)(k:Str)(g:ai->Option PyData)(m:XM PyData):SM:=fun U=>en (m U) (oH i k g)
theorem MN{m:XM PyData}{c:Pos}(hu:X.A.units+1<cLine)(hv:PE X (.Name x p1) (bU i))(L:FQ X F a g)(he:FE X F E e m)
  (hs:swapsWithSole [.Subscript (.Subscript (.Name x p1) (.Constant (.str k) jk p2) fpos) a c] e pos.line X.env=pure false:=by rfl) (hw:swappedStores [.Subscript (.Subscript (.Name x p1) (.Constant (.str k) jk p2) fpos) a c] e X.env=pure none:=by rfl)
  (h1:(assignEach [.Subscript (.Subscript (.Name x p1) (.Constant (.str k) jk p2) fpos) a c] X.env).map (·.2)=[assign (.Subscript (.Subscript (.Name x p1) (.Constant (.str k) jk p2) fpos) a c) X.env]:=by rfl)
  (hq:∀v,assign (.Subscript (.Subscript (.Name x p1) (.Constant (.str k) jk p2) fpos) a c) X.env v=(do
   let J <-holding [v] (eval (.Subscript (.Name x p1) (.Constant (.str k) jk p2) fpos) X.env);let M <-holding [v,J] (eval a X.env)
   standAt c
   holding [v,J,M] (setItem J M v)
   release [v,J,M] []):=by intro _;rfl) :
  FS X F E (.Assign [.Subscript (.Subscript (.Name x p1) (.Constant (.str k) jk p2) fpos) a c] e pos) (ri i k g m):=by
 obtain⟨ta,pa,L⟩:=L.ex;exact(uk he.pe (yo (vY hu hv) pa za hq) hs hw h1).imp fun D Y H ⟨U,O,DD,st,q,fD⟩=>⟨U,O,st,aH _ _ _ (fun v N f vy H1 O1 o s1 d1=>by
  unfold cg oH at f;cases ho:fW N i with
  | none=>rw[ho] at f;exact f.elim
  | some p=>
   obtain⟨io,fs⟩:=p;cases Q:g N with
   | none=>rw[ho,Q] at f;exact f.elim
   | some y0=>
    rw[ho,Q] at f;cases y0 with
    | int n=>
     simp only at f;cases h:fs.lookup k with
     | none=>rw[h] at f;exact f.elim
     | some t=>
      rw[h] at f;cases t with
      | d _=>exact f.elim
      | m _ _=>exact f.elim
      | l ds=>
       simp only at f;cases R:cp ds.length n with
       | none=>rw[R] at f;exact f.elim
       | some j=>
        rw[R] at f;obtain⟨a0,a3,u,⟨r,a2,e1,e2,e4⟩,_,_⟩:=o.box (oE ho);rcases km e4 k with⟨_,l2⟩ | ⟨w0,y,a4,l1,l2,l3,_⟩
        ·rw[h] at l2;cases l2
        ·rw[h] at l2;cases l2;refine⟨a0,r,w0,u,e2,l1,L Y N H1 O1 _ _ o Q fun w H' s dw=>?_⟩;obtain rfl:=dw.int_inv;obtain⟨a1,gs,b0,B,C,S,⟨b1,T,eb,_,hH,I⟩,up⟩:=(o.grow s).sdUp ho h rfl;rw[u] at B;cases B;rw[s _ _ e2] at C;have eg:r.lookup k=gs.lookup k:=by
          rw[<-oF,<-oF];injection C with z
          injection z with z
          rw[show cK r=cK gs from z]
         rw[eg,S] at l1;cases l1;cases eb;obtain⟨O2,Z,s2⟩:=up (.lst (T.set j vy)) (.l (ds.set j v)) trivial (fun G g=>⟨b0,T.set j vy,rfl,rfl,cj,vP (DV.mono g (DV.mono (jl s) d1)) j (aK.mono g I)⟩);exact⟨b0,T,n,j,rfl,rfl,hH,by rw[I.length];exact R,fD.nx _ _ _ _ Z (s1.trans ((aP.same s).trans s2)) f⟩
    | _=>exact f.elim) (fU (m:=m) (k:=oH i k g) q)⟩
end
end L2.L3
namespace L2
open PySem PySem.Spec PyProof.Rows
noncomputable def MO(b:List (TE×TE)):TE:=fun Y H Q=>nO b Y H fun e c=>∃a:List (aR×V),e=a.map (fun d=>(kV d.1,d.2))/\a.length<=15/\∀p,c p=none->Q (.ref p) (aN c p (.dK (jO [] a)))
theorem MP{X:Cx}{pos:Pos}{keys:List (Option Expr)}{values:List Expr}{f:List (TE×TE)}(h:mq X pos keys values f)(g:keys.all (·.isSome)=true)(G:keys.length=values.length)(J:keys≠[])
  (m:keys.length<=15):PE X (.Dict keys values pos) (MO f):=by
 intro a s Y H Q I q;have B:=I.hok.fresh (bH s.heap.objs.size);have i:=I.fpOk (bH _) B;have I1:Inv X a Y H { s with heap:=s.heap.push { cls:=.type "dict",data:=.dict #[] },toks:=s.toks }:=I.kept fun _ _ q=>bA _ q;have C:(s.heap.push { cls:=.type "dict",data:=.dict #[] }).get? s.heap.objs.size=some { cls:=.type "dict",data:=.dict #[] }:=Heap.get?_push_size _ rfl;have n:Inv X (a++[(s.heap.objs.size,({ cls:=.type "dict",data:=.dict #[] }:Obj))]) Y H { s with heap:=s.heap.push { cls:=.type "dict",data:=.dict #[] },toks:=s.toks }:=I1.pins_of fun p j=>by
  rcases List.mem_append.mp j with j | j
  ·exact I1.pin p (bi _ j)
  ·obtain rfl:=List.mem_singleton.mp j;exact⟨C,B,i.2.1,i.2.2.1,fun v z=>by cases z⟩
 refine wpAny_Dict_walk (knd:=eN X.prog X.w) g G J m (aT (h _ _ Y _ _ n q) fun L t ⟨ps,u,D,rel,k,M,lk,N⟩=>?_);subst M;obtain⟨O,c,R⟩:=zy (P:=X.prog) (w:=X.w) rel;obtain⟨S,l,_⟩:=D.pin (s.heap.objs.size,_) (bi _ (bi _ (List.mem_singleton.mpr rfl)));have l:u s.heap.objs.size=none:=l;have dd:t.heap.DictOf (eN X.prog X.w) s.heap.objs.size []:=by
  obtain⟨od,T,x,E,r⟩:=(Heap.DictOf.new (knd:=eN X.prog X.w) s.heap)
  rw[C] at E;cases E;exact⟨_,T,x,S,r⟩
 have y:=D.unpinned;have d:gx X a u s.heap.objs.size:=I.fpOk (bH _) l;refine⟨O,c,dd,fun U A hs=>⟨.ref s.heap.objs.size,_,?_,rfl,N _ l⟩⟩;have Z:(jO [] k).length<=sizeLine:=by have h1:=zx k [];rw[List.length_nil] at h1;rw[sizeLine_eq];omega
 have I3:Inv X a Y u { t with heap:=U,toks:=t.toks+L.length }:=y.turned (it:=s.heap.objs.size) (fun b o hb e=>(hs.2 b hb).trans e) l d.2.1 (.inr I.sz) d.2.2.2.2.1 d.2.2.2.2.2;exact I3.track d (zt Z (beq_eq_false_iff_ne.mpr (Ne.symm (Nat.ne_of_lt I.big))) (R.merge .nil) A)
end L2
namespace L2.L3
open PySem PySem.Spec PyProof.Rows
theorem Cb:∀(b a:List (Str×V)),(a.map (·.1)++b.map (·.1)).Nodup->jO (cK a) (cK b)=cK (a++b)
 | [],a,_=>by simp[jO,cK]
 | (n,v)::b,a,nd=>by
  have c:eS (cK a) (Sum.inr n)=none:=by
   rw[oF];cases e:a.lookup n with
   | none=>rfl
   | some w=>have:=vX (k:=n) (l:=a) (by rw[e];rfl);rw[List.map_cons] at nd;exact absurd rfl ((List.nodup_append.mp nd).2.2 n this n List.mem_cons_self)
  show jO (dN (cK a) (Sum.inr n) v) (cK b)=_;rw[zo v c];have:cK a++[((Sum.inr n:aR),v)]=cK (a++[(n,v)]):=by simp[cK]
  rw[this,Cb b (a++[(n,v)]) (by simpa using nd)];simp
noncomputable def MQ(K:Frag)(F:Fx)(t:ai->(List (Str×Fl)->ai->Prop)->Prop):St->Hp->(List (V×V)->Hp->Prop)->Prop:=fun Y H Q=>∃U O,aC K F H Y U O/\t U fun fs f=>∀e b c d,aC K (F.plus b.flatten) c Y f d->bb (aw d c) c e fs b->(∀a∈b.flatten,a∈F.A₀\/F.H₀ a=none)->aP O H d c->Q (e.map fun p=>(V.str p.1,p.2)) c
structure Cc (X:Cx) (F:Fx) (E:Str->ai->Prop) (pos:Pos) (keys:List (Option Expr)) (vals:List Expr) (m:XM (List (Str×Fl))):Prop where
 ex:∃trs,mq X pos keys vals trs/\∀Y H Q,MQ X.K F (wp E m) Y H Q->nO trs Y H Q
structure rk (X:Cx) (pos:Pos) (keys:List (Option Expr)) (vals:List Expr) (cs:List (Str×PyData)):Prop where
 ex:∃trs,mq X pos keys vals trs/\∀Y H Q,(∀gs,Paired (fun(p:Str×V) (q:Str×PyData)=>p.1=q.1/\∀G,DV G p.2 q.2) gs cs->Q (gs.map fun p=>(V.str p.1,p.2)) H)->nO trs Y H Q
noncomputable def vZ(a:List (Str×PyData)):List (Str×Fl):=a.map fun p=>(p.1,.d p.2)
theorem Cd{G H:Hp}:∀{b:List (Str×V)}{a:List (Str×PyData)},Paired (fun(p:Str×V) (q:Str×PyData)=>p.1=q.1/\∀G,DV G p.2 q.2) b a->bb G H b (vZ a) (a.map fun _=>[])
 | [],[],_=>.nil
 | (n,v)::b,(c,d)::a,.cons ⟨h1,h2⟩ t=>by cases h1;exact .cons ⟨rfl,h2 _⟩ (Cd t)
theorem wa{α β:Type}:∀l:List β,(l.map fun _=>([]:List α)).flatten=[]
 | []=>rfl
 | _::l=>by rw[List.map_cons,List.flatten_cons,wa l];rfl
section
variable{X:Cx}{F:Fx}{E:Str->ai->Prop}{pos p2:Pos}{k:Str}{jk:Nat}{e:Expr}{ks:List (Option Expr)}{vs:List Expr}{cs:List (Str×PyData)}
theorem MR:rk X pos [] [] []:=⟨_,HL,fun Y H Q q=>q [] .nil⟩
theorem MS{v:V}{d:PyData}(h:PE X e (tC v))(hd:∀G,DV G v d)(a:rk X pos ks vs cs):rk X pos (some (.Constant (.str k) jk p2)::ks) (e::vs) ((k,d)::cs):=by obtain⟨b,c,ht⟩:=a.ex;exact⟨_,zw lZ h c,fun Y H Q q=>ht Y H _ fun f g=>q ((k,v)::f) (.cons ⟨rfl,hd⟩ g)⟩
noncomputable def Ce(k:Str)(cs:List (Str×PyData))(c:ag):XM (List (Str×Fl)):=fun a=>match c with
 | .own false (.l ds)=>.ok ((k,.l ds)::vZ cs) a
 | _=>.bad
noncomputable def mR(k:Str)(m:XM ag)(cs:List (Str×PyData)):XM (List (Str×Fl)):=fun U=>(m U).bind (Ce k cs)
theorem MT{m:XM ag}(g:FO X F E e m)(h:rk X pos ks vs cs):Cc X F E pos (some (.Constant (.str k) jk p2)::ks) (e::vs) (mR k m cs):=by
 obtain⟨i,j,ht⟩:=h.ex;refine⟨_,zw lZ g.pe j,fun Y H Q ⟨U,O,st,q⟩=>?_⟩;refine⟨U,O,st,aH _ _ _ (fun c w d v f n x r o=>ht Y f _ fun p u=>?_) (bO (m:=m) (k:=Ce k cs) q)⟩;cases c with
 | own io b=>
  cases io with
  | true=>exact d.elim
  | false=>
   cases b with
   | l ds=>
    obtain⟨a,rfl,rfl,s,t,hd⟩:=r.at_;refine d ((k,.ref a)::p) ([a]::cs.map fun _=>[]) f n ?_ (.cons ⟨a,s,rfl,rfl,t,hd⟩ (Cd u)) ?_ o
    ·rw[List.flatten_cons,wa,List.append_nil];exact r.st
    ·rw[List.flatten_cons,wa,List.append_nil];exact r.new
   | _=>exact d.elim
 | _=>exact d.elim
noncomputable def rm(fs:List (Str×Fl)):XM ag:=lift (if (fs.map (·.1)).Nodup/\fs.length<=15 then some (.own false (.sd fs)) else none)
noncomputable def mS(m:XM (List (Str×Fl))):XM ag:=fun U=>(m U).bind rm
theorem MU{m:XM (List (Str×Fl))}(h:Cc X F E pos ks vs m)(d:ks.all (·.isSome)=true)(x:ks.length=vs.length)(y:ks≠[])(n:ks.length<=15):FO X F E (.Dict ks vs pos) (mS m):=by
 obtain⟨A,B,ht⟩:=h.ex;refine⟨aH,(MP B d x y n).imp fun Y H Q ⟨U,O,st,q⟩=>ht Y H _ ⟨U,O,st,aH _ _ _ (fun fs N C i b D R f j G I=>?_) (bO (m:=m) (k:=rm) q)⟩⟩;obtain⟨c,r,J⟩:=cZ C;split at r
 ·rename_i l;cases r;have L:=j.names;refine⟨cK i,by simp[cK,kV],by rw[List.length_map,j.len];exact l.2,fun p s=>?_⟩;have u:=Cb i [] (by simpa[L] using l.1);rw[show cK ([]:List (Str×V))=[] from rfl,List.nil_append] at u;rw[u];obtain⟨M,g,v⟩:=f.fresh (o:=.dK (cK i)) s trivial;rw[Fx.plus_plus] at g;have live:∀c∈b.flatten,∃o,D c=some o/\Mv o:=j.live;refine J _ _ M (p::b.flatten) ⟨g,⟨p,rfl,i,b,rfl,cj,j.keep (fun c l=>bj fun z=>?_) v.hid⟩,fun a t=>?_⟩ (I.trans v)
  ·obtain⟨o,w,_⟩:=live c l;rw[z,s] at w;cases w
  ·rcases List.mem_cons.mp t with rfl | t
   ·exact f.new1 s a (by simp)
   ·exact G a t
 ·cases r
noncomputable def oI(d k:PyData):XM ag:=lift (match kb d k with
 | some (.list ds)=>some (.own false (.l ds))
 | _=>none)
noncomputable def rn(n:XM PyData)(d:PyData):XM ag:=fun a=>(n a).bind (oI d)
noncomputable def lE(m n:XM PyData):XM ag:=fun U=>(m U).bind (rn n)
theorem MV{a b:Expr}{r i:XM PyData}(A:FE X F E a r)(T:FE X F E b i):FO X F E (.BinOp a .Mult b pos) (lE r i):=by
 refine⟨aH,(yr zm A.pe T.pe).imp fun Y H Q ⟨U,O,st,q⟩=>?_⟩;refine⟨U,O,st,aH _ _ _ (fun d B C v Z D s G I=>?_) (bO (m:=r) (k:=rn i) q)⟩;refine⟨B,D,s,aH _ _ _ (fun k U2 J w L O2 h u M=>?_) (bO (m:=i) (k:=oI d) C)⟩;obtain⟨c,f,N⟩:=cZ J;unfold kb at f;cases d with
 | list ds=>
  cases k with
  | int n=>
   simp only at f
   by_cases g:(decide (-(2 ^ 63)<=n)&&decide (n<2 ^ 63)&&decide (ds.length * n.toNat<=sizeLine))=true
   ·rw[if_pos g] at f;cases f;simp only[Bool.and_eq_true,decide_eq_true_eq] at g;obtain⟨l,j,rfl,R,hd⟩:=(DV.mono u.hid I).lst_inv;obtain rfl:=M.int_inv;refine⟨l,n,j,rfl,rfl,(cY R).1,g.1.1,g.1.2,by rw[hd.length];exact g.2,fun p x=>?_⟩;obtain⟨y,t,z⟩:=h.fresh (o:=.lst (List.replicate n.toNat j).flatten) x trivial;refine N _ _ y [p] ⟨t,⟨p,rfl,rfl,_,cj,?_⟩,h.new1 x⟩ (G.trans (u.trans z));have:∀m:Nat,aK (aw y (aN L p (.lst (List.replicate n.toNat j).flatten))) (List.replicate m j).flatten (List.replicate m ds).flatten:=fun m=>by
     induction m with
     | zero=>exact .nil
     | succ m S=>rw[List.replicate_succ,List.replicate_succ,List.flatten_cons,List.flatten_cons];exact(aK.mono z.hid hd).append S
    exact this _
   ·rw[if_neg g] at f;cases f
  | _=>cases f
 | _=>cases f
end
noncomputable def xQ(g:ai->Option PyData):XM PyData:=fun U=>lift (g U) U
theorem lF{X:Cx}{F:Fx}{E:Str->ai->Prop}{e:Expr}{g:ai->Option PyData}(h:FQ X F e g):FE X F E e (xQ g):=h.fe
section
variable{X:Cx}{F:Fx}{a b:Expr}{ta tb:DT}{pos:Pos}
noncomputable def wb:D2:=fun x y Q=>∃d u c,y=.tuple d/\jy x=some u/\iR d=some c/\Q (.bool (!ml u c))
theorem MW{K:Frag}:eJ (qd K true) wb where
 mn:=fun _ _ _ _ k ⟨ds,u,us,e1,e2,e3,q⟩=>⟨ds,u,us,e1,e2,e3,k _ q⟩
 ok:=fun O H u v x y Q hO h1 h2 ⟨ds,u',us,e1,e2,e3,q⟩=>by subst e1;obtain⟨b,ys,rfl,hb,he⟩:=h2.tup_inv;obtain⟨rfl,f2⟩:=oz he e3;obtain⟨rfl,f1⟩:=oy h1 e2;exact⟨b,_,rfl,.inr (.inl (gR hb).1),f1,f2,q _ H (fun _ _ h=>h) (.bl _)⟩
theorem MX(c:DE X F a ta)(e:DE X F b tb)(d:lastMarks [.NotIn] [b]=false:=by with_unfolding_all rfl):DB X F (.Compare a [.NotIn] [b] pos) (fO (cI wb ta tb)):=jU Hj MW c e d
noncomputable def lG:PyData->PyData->Option PyData:=fun x y=>match y with
 | .tuple ds=>(match jy x,iR ds with
  | some u,some c=>some (.bool (!ml u c))
  | _,_=>none)
 | _=>none
theorem MY:F2 wb lG:=fun x y d Q e q=>by
 unfold lG at e;split at e
 ·rename_i ds;split at e
  ·rename_i u c h1 h2;cases e;exact⟨ds,u,c,rfl,h1,h2,q⟩
  ·cases e
 ·cases e
end
end L2.L3
namespace Due
noncomputable abbrev Sh:=List (Int×Int)
noncomputable def ro(a:Int):Sh->Int->Int
 | [],_=>a
 | (b,c)::r,m=>ro (if b<=m then c else a) r m
noncomputable def wc(a:Int)(b:Sh)(m:Int):Int:=m+ro a b m
noncomputable def kr:Int->Sh->Prop
 | _,[]=>True
 | lo,(b,_)::r=>lo<b/\kr b r
noncomputable def oJ(g:Int):Int->Int->Sh->Int
 | s,a,[]=>max s (g - a)
 | s,a,(b,c)::r=>if max s (g - a)<b then max s (g - a) else oJ g b c r
def Cf(a:Int)(b:Sh):Prop:=(-12<=a/\a<=14)/\∀p∈b,-12<=p.2/\p.2<=14
noncomputable def cb(s a:Int):Sh->List (Int×Option Int×Int)
 | []=>[(s,none,a)]
 | (b,c)::r=>(s,some b,a)::cb b c r
noncomputable def lH(m:Int):Option Int->Bool
 | none=>true
 | some e=>decide (m<e)
noncomputable def mT(g:Int)(l:List (Int×Option Int×Int)):List Int:=(l.filter fun p=>lH (max p.1 (g - p.2.2)) p.2.1).map fun p=>max p.1 (g - p.2.2)
theorem Cg(g:Int):∀(d:Sh) (s a:Int),∃t,mT g (cb s a d)=oJ g s a d::t
 | [],s,a=>⟨[],rfl⟩
 | (b,c)::r,s,a=>by
  obtain⟨t,e⟩:=Cg g r b c;unfold cb oJ mT;rw[List.filter_cons]
  by_cases h:max s (g - a)<b
  ·rw[if_pos (by show decide (max s (g - a)<b)=true;exact decide_eq_true h),if_pos h];exact⟨_,rfl⟩
  ·rw[if_neg (by show ¬ decide (max s (g - a)<b)=true;simpa using h),if_neg h];exact⟨t,e⟩
noncomputable def we(a:Int)(b:Sh)(h:Int):Int:=-((h - wc a b 0) / 24)
noncomputable def wg(a:Int)(b:Sh)(h:Int)(c:Nat):Int:=oJ ((we a b h+c) * 24+h) 0 a b
inductive dF where
 | once (m:Int) | every (f s:Int) | daily (h:Int)
noncomputable def fc(a:Int)(b:Sh):dF->Nat->Option Int
 | .once m,c=>if c=0 then some m else none
 | .every f s,c=>some (f+c * s)
 | .daily h,c=>some (wg a b h c)
structure mU (a:Int) (ss:Sh):Prop where
 len:ss.length<=6
 rise:kr 0 ss
 ah:Cf a ss
 top:∀p∈ss,p.1<=9999
noncomputable def hU:dF->Prop
 | .once m=>0<=m/\m<=9999
 | .every f s=>(0<=f/\f<=9999)/\1<=s/\s<=999
 | .daily h=>0<=h/\h<=23
noncomputable def Ci(a:Int)(b:Sh)(p:dF)(c:Nat):Int:=(fc a b p c).getD 0
end Due
namespace K3
open PySem PySem.Spec L2 L2.L3 PyProof.Rows
noncomputable abbrev er:List Str:=["NoZone","NoPlan","NoMoment","NoCount","NoDeeds","NoDeed","NoRunner","NoTerm","NotHolder","Nothing","NoCall"]
noncomputable def oK:SM:=(bc (ed (il "int" (xV 0)) (ed (AO (il "bool" (xV 0))) (vj (fun i j=>decide (i<=j)) (fun i j=>decide (i<=j)) (xV 1) (xV 0) (xV 2)))))
noncomputable def gq:FM:=bp 3 3 oK
noncomputable def rp:SM:=(bc (ed (il "tuple" (xV 0)) (af (aE false) (cT dI (aj (xV 0) aL)) (xV 1))))
noncomputable def kt:FM:=bp 2 2 rp
noncomputable def rq:SM:=(bq (aJ (af qY (af aB (xV 3) (xC (.int 0))) (xV 1))) (bw (af aB (xV 3) (xC (.int 1))) (aI 2)) bt)
noncomputable def wh:SM:=(av (bw (af aB (xV 0) (xC (.int 0))) (aI 2))
  (av (iK (li (af aB (xV 0) (xC (.int 1)))) (aI 3) rq)
  (bc (af dj (xV 1) (xV 2)))))
noncomputable def rs:FM:=bp 2 4 wh
noncomputable def wj:XM PyData:=(af aB (xV 0) (xC (.int 0)))
noncomputable def wm:XM PyData:=(af aB (xV 0) (xC (.int 1)))
noncomputable def wn:SM:=(av (bw (af mz (ef (aj (xC (.int 0)) aL)) (kd 1 [] (li (af aB (xV 0) (xC (.int 1)))) (aI 0) hF wj)) (aI 1))
  (av (bw (af mz (xU (Br 1) (xV 1)) (ef (aj (xC .none) aL))) (aI 2))
  (av (bw (af mz (ef (aj (af aB (xV 0) (xC (.int 0))) aL)) (kd 1 [] (li (af aB (xV 0) (xC (.int 1)))) (aI 0) hF wm)) (aI 3))
  (bc (cT vB (aj (xV 1) (aj (xV 2) (aj (xV 3) aL))))))))
noncomputable def ry:FM:=bp 1 4 wn
noncomputable def wo:SM:=(bc (vi (af jr (xV 1) (xC .none)) (af ki (xV 0) (xV 1))))
noncomputable def rz:FM:=bp 2 2 wo
noncomputable def oM:SM:=(av (bq (aJ (af ki (xV 1) (qM 0))) (bc (qN 0 (xV 1))) bt)
  (av (bq (vl 0) (bc (xC (.int 0))) bt)
  (bc (af dj (af kh (qN 0 (af mH (xV 1) (qM 0))) (xC (.int 31))) (xV 1)))))
noncomputable def mV:FM:=bp 2 2 oM
noncomputable def Cj:SM:=(av (gZ 1 (ke (aj (gE 0 er "NoZone") (aj (gE 0 er "NoPlan") (aj (gE 0 er "NoMoment") (aj (gE 0 er "NoCount") aL))))))
  (av (qX 1 (ef (aj (gE 0 er "NoDeeds") (aj (gE 0 er "NoDeed") (aj (gE 0 er "NoRunner") (aj (gE 0 er "NoTerm") aL))))))
  (av (qX 1 (ef (aj (gE 0 er "NotHolder") (aj (gE 0 er "Nothing") (aj (gE 0 er "NoCall") aL)))))
  (av (bq (dA (aJ (af (aE true) (qW qU 1 (xC (.bool true))) (xC (.int 1)))) (da (aJ (vI 0 er)))) (bc (bY (aj (xC (.str "refused")) (aj (gV (xC (.int 1))) aL)))) bt)
  (bc (bY (aj (xC (.str "refused")) (aj (qW qV 1 (xC (.bool true))) aL))))))))
noncomputable def lI:FM:=bp 1 2 Cj
noncomputable def wq(C:Addr):SM:=(bc (ed (af fq (cw C 0 "holder") (xC .none)) (af ki (xV 1) (cw C 0 "until"))))
noncomputable def oN(C:Addr):FM:=bp 2 2 (wq C)
noncomputable def mW(C:Addr):SM:=(av (bw (af aB (xV 1) (xC (.int 2))) (aI 2))
  (av (bw (af aB (xV 1) (xC (.int 3))) (aI 3))
  (av (bw (af aB (xV 1) (xC (.int 4))) (aI 4))
  (av (ly C 0 "rows" 1)
  (av (mK C 0 "words" 3 4 (xV 2))
  (av (bq (aJ (af (aE false) (xV 2) (xC (.str "begun")))) (cJ C 0 "begun" (bY (aj (xV 3) (aj (xV 4) (aj (cw C 0 "holds") aL))))) (av (cJ C 0 "begun" (xC .none))
  (mL C 0 "settled" 3 (af dj (xV 4) (xC (.int 1))))))
  (bc (bY (aj (xV 2) (aj (xV 3) (aj (xV 4) aL)))))))))))
noncomputable def gr(C:Addr):FM:=bp 2 5 (mW C)
noncomputable def rA(C:Addr):SM:=(bc (ed (af fq (cw C 0 "begun") (xC .none)) (af (aE false) (af aB (cw C 0 "begun") (xC (.int 2))) (cw C 0 "holds"))))
noncomputable def mY(C:Addr):FM:=bp 1 1 (rA C)
noncomputable def wr(C:Addr):SM:=(bc (bY (aj (cw C 0 "holder") (aj (cw C 0 "until") (aj (cw C 0 "holds") aL)))))
noncomputable def ku(C:Addr):FM:=bp 1 1 (wr C)
noncomputable def wt(C:Addr):SM:=(bc (rg C 0 "rows"))
noncomputable def oO(C:Addr):FM:=bp 1 1 (wt C)
noncomputable def wu:SM:=(ep (aO gq (ao (xV 0) (ao (xC (.int (-12))) (ao (xC (.int (14))) aF)))))
noncomputable def oP:FM:=bp 1 1 wu
noncomputable def wv:SM:=(ep (aO gq (ao (xV 0) (ao (xC (.int 0)) (ao (xC (.int (9999))) aF)))))
noncomputable def mZ:FM:=bp 1 1 wv
noncomputable def ww:SM:=(ep (aO gq (ao (xV 0) (ao (xC (.int 0)) (ao (xC (.int (3))) aF)))))
noncomputable def rB:FM:=bp 1 1 ww
noncomputable def wx:SM:=(ep (aO gq (ao (xV 0) (ao (xC (.int 1)) (ao (xC (.int (99))) aF)))))
noncomputable def rC:FM:=bp 1 1 wx
noncomputable def rD:SM:=(bc (ed (aQ (aO kt (ao (xV 0) (ao (xV 2) aF)))) (ed (il "str" (af aB (xV 0) (xC (.int 0)))) (af (aE false) (af aB (xV 0) (xC (.int 0))) (xV 1)))))
noncomputable def kv:FM:=bp 3 3 rD
noncomputable def wy:SM:=(bq (da (aJ (aQ (aO gq (ao (xV 0) (ao (xC (.int 0)) (ao (xC (.int (9999))) aF))))))) (ip "NoCount") bt)
noncomputable def rE:FM:=bp 1 1 wy
noncomputable def wz:XM Bool:=(aJ (aQ (aO rz (ao (cT qK (aj (xV 0) (aj (af iC (xV 3) (xV 2)) aL))) (ao (xV 1) aF)))))
noncomputable def wA:XM PyData:=(cT qK (aj (xV 0) (aj (af iC (xV 3) (xV 2)) aL)))
noncomputable def wB:SM:=(av (bw (kd 3 [1] (Be (aQ (aO ry (ao (xV 0) aF)))) (gY 3 (cz (aI 0) (cz (aI 1) (cz (aI 2) gX)))) wz wA) (aI 2))
  (bc (af aB (xV 2) (xC (.int 0)))))
noncomputable def rF:FM:=bp 2 3 wB
noncomputable def wC:SM:=(bc (gV (af BG (af iC (xV 1) (aQ (aO rs (ao (xV 0) (ao (xC (.int 0)) aF))))) (xC (.int (24))))))
noncomputable def rG:FM:=bp 2 2 wC
noncomputable def wD:SM:=(av (bw (af mH (af kh (af dj (af dj (aQ (aO mV (aS 0 (ao (xV 1) aF)))) (af kh (xC (.int 7919)) (xV 1))) (xC (.int 1))) (xC (.int 48271))) (xC (.int 2147483647))) (aI 3))
  (bc (af mH (af mH (af dj (af dj (af kh (xV 3) (xV 3)) (af kh (xC (.int 7)) (xV 3))) (xV 1)) (xC (.int 2147483629))) (xV 2))))
noncomputable def rH:FM:=bp 3 4 wD
noncomputable def rJ(C:Addr):SM:=(av (bw (af aB (cw C 0 "begun") (xC (.int 0))) (aI 3))
  (av (bw (qJ (aJ (af aB (af aB (cw C 0 "deeds") (xV 3)) (xC (.int (2))))) (xC (.str "begun")) (xC (.str "unsure"))) (aI 4))
  (ep (bP C 0 "add_row" (gr C) (ao (bY (aj (xV 2) (aj (xV 1) (aj (xV 4) (aj (xV 3) (aj (af aB (cw C 0 "begun") (xC (.int 1))) aL)))))) aF)))))
noncomputable def oQ(C:Addr):FM:=bp 3 5 (rJ C)
noncomputable def oR:SM:=(av (bq (dA (da (aJ (aQ (aO kt (ao (xV 2) (ao (xC (.int 2)) aF)))))) (da (aJ (aQ (aO oP (ao (af aB (xV 2) (xC (.int 1))) aF)))))) (bc (xC (.bool false))) bt)
  (av (bq (da (aJ (aQ (aO gq (ao (af aB (xV 2) (xC (.int 0))) (ao (xV 1) (ao (xC (.int (9999))) aF))))))) (bc (xC (.bool false))) bt)
  (bw (af dj (af aB (xV 2) (xC (.int 0))) (xC (.int 1))) (aI 1))))
noncomputable def wE:SM:=(av (bq (dA (da (aJ (il "tuple" (xV 0)))) (aJ (af fb (cT dI (aj (xV 0) aL)) (xC (.int (6)))))) (bc (xC (.bool false))) bt)
  (av (bw (xC (.int 1)) (aI 1))
  (av (iK (li (xV 0)) (aI 2) oR)
  (bc (xC (.bool true))))))
noncomputable def rK:FM:=bp 1 3 wE
noncomputable def oS:SM:=(av (bq (aJ (aQ (aO kv (ao (xV 0) (ao (xC (.str "once")) (ao (xC (.int 2)) aF)))))) (ep (aO mZ (ao (af aB (xV 0) (xC (.int 1))) aF))) bt)
  (av (bq (aJ (aQ (aO kv (ao (xV 0) (ao (xC (.str "every")) (ao (xC (.int 3)) aF)))))) (bc (ed (aQ (aO mZ (ao (af aB (xV 0) (xC (.int 1))) aF))) (aQ (aO gq (ao (af aB (xV 0) (xC (.int 2))) (ao (xC (.int 1)) (ao (xC (.int (999))) aF))))))) bt)
  (bc (ed (aQ (aO kv (ao (xV 0) (ao (xC (.str "daily")) (ao (xC (.int 2)) aF))))) (aQ (aO gq (ao (af aB (xV 0) (xC (.int 1))) (ao (xC (.int 0)) (ao (xC (.int (23))) aF)))))))))
noncomputable def lJ:FM:=bp 1 1 oS
noncomputable def oU:SM:=(av (bq (aJ (il "str" (xV 0))) (bc (vi (af (aE false) (xV 0) (xC (.str "all"))) (af (aE false) (xV 0) (xC (.str "last"))))) bt)
  (bc (ed (aQ (aO kv (ao (xV 0) (ao (xC (.str "within")) (ao (xC (.int 2)) aF))))) (aQ (aO gq (ao (af aB (xV 0) (xC (.int 1))) (ao (xC (.int 0)) (ao (xC (.int (999))) aF))))))))
noncomputable def ng:FM:=bp 1 1 oU
noncomputable def wF:SM:=(bq (da (aJ (aQ (aO mZ (ao (xV 0) aF))))) (ip "NoMoment") bt)
noncomputable def rL:FM:=bp 1 1 wF
noncomputable def wG:SM:=(bq (da (aJ (aQ (aO rB (ao (xV 0) aF))))) (ip "NoRunner") bt)
noncomputable def rM:FM:=bp 1 1 wG
noncomputable def wH:SM:=(bq (da (aJ (aQ (aO rC (ao (xV 0) aF))))) (ip "NoTerm") bt)
noncomputable def rN:FM:=bp 1 1 wH
noncomputable def wI:SM:=(av (bw (af dj (aQ (aO rG (ao (xV 0) (ao (xV 1) aF)))) (xV 2)) (aI 3))
  (ep (aO rF (ao (xV 0) (ao (af dj (af kh (xV 3) (xC (.int (24)))) (xV 1)) aF)))))
noncomputable def rO:FM:=bp 3 4 wI
noncomputable def wJ:SM:=(av (mF 1 (xC (.int 0)))
  (ep (aO rH (aS 0 (ao (vr 1) (ao (xV 2) aF))))))
noncomputable def cU:FM:=bp 3 3 wJ
noncomputable def wK:SM:=(bc (ed (aQ (aO kt (ao (xV 0) (ao (xC (.int 2)) aF)))) (ed (aQ (aO oP (ao (af aB (xV 0) (xC (.int 0))) aF))) (aQ (aO rK (ao (af aB (xV 0) (xC (.int 1))) aF))))))
noncomputable def rP:FM:=bp 1 1 wK
noncomputable def wL:SM:=(bc (ed (aQ (aO kt (ao (xV 0) (ao (xC (.int 3)) aF)))) (ed (aQ (aO lJ (ao (af aB (xV 0) (xC (.int 0))) aF))) (ed (aQ (aO ng (ao (af aB (xV 0) (xC (.int 1))) aF))) (il "bool" (af aB (xV 0) (xC (.int 2))))))))
noncomputable def rQ:FM:=bp 1 1 wL
noncomputable def wM:SM:=(bq (da (aJ (aQ (aO lJ (ao (xV 0) aF))))) (ip "NoPlan") bt)
noncomputable def rR:FM:=bp 1 1 wM
noncomputable def nh:SM:=(av (bq (aJ (af (aE false) (af aB (xV 1) (xC (.int 0))) (xC (.str "once")))) (bc (qJ (aJ (af (aE false) (xV 2) (xC (.int 0)))) (af aB (xV 1) (xC (.int 1))) (xC .none))) bt)
  (av (bq (aJ (af (aE false) (af aB (xV 1) (xC (.int 0))) (xC (.str "every")))) (bc (af dj (af aB (xV 1) (xC (.int 1))) (af kh (xV 2) (af aB (xV 1) (xC (.int 2)))))) bt)
  (ep (aO rO (ao (xV 0) (ao (af aB (xV 1) (xC (.int 1))) (ao (xV 2) aF)))))))
noncomputable def gG:FM:=bp 3 3 nh
noncomputable def wN:SM:=(bc (af aB (xV 2) (aQ (aO cU (aS 0 (aS 1 (ao (cT dI (aj (xV 2) aL)) aF)))))))
noncomputable def fX:FM:=bp 3 3 wN
noncomputable def rS(C:Addr):SM:=(av (gn (aO rM (ao (xV 1) aF)))
  (av (gn (aO rL (ao (xV 2) aF)))
  (bq (kc (aJ (af fq (cw C 0 "last") (xC .none))) (aJ (af ki (xV 2) (cw C 0 "last")))) (ip "NoMoment") bt)))
noncomputable def ir(C:Addr):FM:=bp 3 3 (rS C)
noncomputable def rT:XM PyData:=(aQ (aO rQ (ao (xV 0) aF)))
noncomputable def wO:SM:=(av (bq (dA (da (aJ (il "tuple" (xV 0)))) (aJ (af fb (cT dI (aj (xV 0) aL)) (xC (.int (6)))))) (bc (xC (.bool false))) bt)
  (bc (cT mB (aj (kd 1 [] (li (xV 0)) (aI 0) hF rT) aL))))
noncomputable def wP:FM:=bp 1 1 wO
noncomputable def wQ:SM:=(bq (da (aJ (aQ (aO rP (ao (xV 0) aF))))) (ip "NoZone") bt)
noncomputable def ni:FM:=bp 1 1 wQ
noncomputable def nj:SM:=(av (bq (aJ (af (aE false) (af aB (xV 1) (xC (.int (1)))) (xC (.str "all")))) (bc (xC (.bool false))) bt)
  (av (bq (aJ (af (aE false) (af aB (xV 1) (xC (.int (1)))) (xC (.str "last")))) (av (bw (aQ (aO gG (ao (xV 0) (ao (af aB (xV 1) (xC (.int (0)))) (ao (af dj (xV 2) (xC (.int 1))) aF))))) (aI 4))
  (bc (ed (af fq (xV 4) (xC .none)) (af qY (xV 4) (xV 3))))) bt)
  (bc (af fb (af iC (xV 3) (aQ (aO gG (ao (xV 0) (ao (af aB (xV 1) (xC (.int (0)))) (ao (xV 2) aF)))))) (af aB (af aB (xV 1) (xC (.int (1)))) (xC (.int 1)))))))
noncomputable def lK:FM:=bp 4 5 nj
noncomputable def oV:SM:=(av (bw (af dj (af dj (xV 3) (xC (.int 1))) (aQ (aO cU (aS 0 (aS 1 (ao (aQ (aO fX (aS 0 (aS 1 (ao (ef (aj (xC (.int 4)) (aj (xC (.int 40)) (aj (xC (.int 200)) aL)))) aF))))) aF)))))) (aI 3))
  (mF 2 (bY (aj (xV 3) (aj (af iC (aQ (aO cU (aS 0 (aS 1 (ao (xC (.int 27)) aF))))) (xC (.int 12))) aL)))))
noncomputable def wR:XM PyData:=(bY (aj (xV 1) (aj (af dj (xC (.int 1)) (af mH (xV 0) (xC (.int 2)))) aL)))
noncomputable def rV:SM:=(av (gZ 2 (ke aL))
  (av (bw (xC (.int 0)) (aI 3))
  (av (iK (hD dB (aj (aQ (aO cU (aS 0 (aS 1 (ao (xC (.int 7)) aF))))) aL)) (aI 4) oV)
  (av (bq (aJ (af (aE false) (aQ (aO cU (aS 0 (aS 1 (ao (xC (.int 2)) aF))))) (xC (.int 0)))) (bw (kd 3 [] (hD lm (aj (xV 2) aL)) (gY 2 (cz (aI 0) (cz (gY 2 (cz (aI 1) (cz (aI 2) gX))) gX))) hF wR) (aI 2)) bt)
  (bc (bY (aj (af iC (aQ (aO cU (aS 0 (aS 1 (ao (xC (.int 27)) aF))))) (xC (.int 12))) (aj (cT qL (aj (xV 2) aL)) aL))))))))
noncomputable def oW:FM:=bp 2 5 rV
noncomputable def oX:SM:=(av (bw (aQ (aO cU (aS 0 (aS 1 (ao (xC (.int 5)) aF))))) (aI 2))
  (av (bq (aJ (af (aE false) (xV 2) (xC (.int 0)))) (bc (bY (aj (xC (.str "once")) (aj (aQ (aO cU (aS 0 (aS 1 (ao (aQ (aO fX (aS 0 (aS 1 (ao (ef (aj (xC (.int 100)) (aj (xC (.int 100)) (aj (xC (.int 2500)) aL)))) aF))))) aF))))) aL)))) bt)
  (av (bq (aJ (af ki (xV 2) (xC (.int 3)))) (av (bw (af dj (xC (.int 1)) (aQ (aO cU (aS 0 (aS 1 (ao (aQ (aO fX (aS 0 (aS 1 (ao (ef (aj (xC (.int 30)) (aj (xC (.int 30)) (aj (xC (.int 999)) aL)))) aF))))) aF)))))) (aI 3))
  (bc (bY (aj (xC (.str "every")) (aj (aQ (aO cU (aS 0 (aS 1 (ao (xC (.int 50)) aF))))) (aj (xV 3) aL)))))) bt)
  (bc (bY (aj (xC (.str "daily")) (aj (aQ (aO cU (aS 0 (aS 1 (ao (xC (.int 24)) aF))))) aL)))))))
noncomputable def nk:FM:=bp 2 4 oX
noncomputable def Ck:SM:=(av (bw (aQ (aO cU (aS 0 (aS 1 (ao (xC (.int 4)) aF))))) (aI 4))
  (av (bq (kc (aJ (af fq (xV 3) (xC .none))) (aJ (af fb (aQ (aO cU (aS 0 (aS 1 (ao (xC (.int 4)) aF))))) (xC (.int 0))))) (bw (xV 3) (aI 4)) bt)
  (av (bw (af dj (xV 2) (aQ (aO fX (aS 0 (aS 1 (ao (ef (aj (xC (.int 0)) (aj (xC (.int 0)) (aj (xC (.int 0)) (aj (xC (.int 1)) (aj (xC (.int 2)) (aj (aQ (aO cU (aS 0 (aS 1 (ao (xC (.int 30)) aF))))) aL))))))) aF)))))) (aI 5))
  (av (bw (aQ (aO cU (aS 0 (aS 1 (ao (xC (.int 10)) aF))))) (aI 6))
  (av (bq (dA (aJ (af jr (xV 3) (xC .none))) (aJ (af ki (xV 6) (xC (.int 2))))) (bc (bY (aj (xC (.str "take")) (aj (xV 4) (aj (xV 5) (aj (af dj (xC (.int 1)) (aQ (aO cU (aS 0 (aS 1 (ao (aQ (aO fX (aS 0 (aS 1 (ao (ef (aj (xC (.int 4)) (aj (xC (.int 99)) aL))) aF))))) aF)))))) aL)))))) bt)
  (av (bq (aJ (af (aE false) (xV 6) (xC (.int 2)))) (bc (bY (aj (xC (.str "give")) (aj (xV 4) (aj (xV 5) aL))))) bt)
  (bc (af aB (af kb (ef (aj (bY (aj (xC (.str "step")) (aj (xV 4) (aj (xV 5) aL)))) (aj (bY (aj (xC (.str "finish")) (aj (xV 4) (aj (xV 5) aL)))) aL))) (xC (.int 4))) (af iC (xV 6) (xC (.int 3)))))))))))
noncomputable def lL:FM:=bp 4 7 Ck
noncomputable def oY(C:Addr):SM:=(av (gn (bP C 0 "check_call" (ir C) (ao (xV 1) (ao (xV 2) aF))))
  (bq (dA (da (aJ (aQ (bP C 0 "is_held" (oN C) (ao (xV 2) aF))))) (aJ (af (aE true) (cw C 0 "holder") (xV 1)))) (ip "NotHolder") bt))
noncomputable def eM(C:Addr):FM:=bp 3 3 (oY C)
noncomputable def oZ(C:Addr):SM:=(av (gn (bP C 0 "check_call" (ir C) (ao (xV 1) (ao (xV 2) aF))))
  (av (gn (aO rN (ao (xV 3) aF)))
  (av (cJ C 0 "last" (xV 2))
  (av (bq (da (aJ (aQ (bP C 0 "is_held" (oN C) (ao (xV 2) aF))))) (rf C 0 "holds" 1) (bq (aJ (af (aE true) (cw C 0 "holder") (xV 1))) (bc (xC (.bool false))) bt))
  (av (cJ C 0 "holder" (xV 1))
  (av (cJ C 0 "until" (af dj (xV 2) (xV 3)))
  (bc (xC (.bool true)))))))))
noncomputable def lM(C:Addr):FM:=bp 4 4 (oZ C)
noncomputable def ky(C:Addr):SM:=(av (bw (oD C 0 "settled" 2) (aI 3))
  (av (bw (aQ (aO gG (ao (cw C 0 "zone") (ao (af aB (af aB (cw C 0 "deeds") (xV 2)) (xC (.int (0)))) (ao (xV 3) aF))))) (aI 4))
  (bq (aJ (af fq (xV 4) (xC .none))) (mF 1 (bY (aj (xV 4) (aj (xV 2) (aj (xV 3) aL))))) bt)))
noncomputable def Cm(C:Addr):SM:=(av (gZ 1 (ke aL))
  (av (iK (hD dB (aj (cT dI (aj (cw C 0 "deeds") aL)) aL)) (aI 2) (ky C))
  (bc (ko 1))))
noncomputable def wS(C:Addr):FM:=bp 1 5 (Cm C)
noncomputable def wT:SM:=(bq (da (aJ (aQ (aO wP (ao (xV 0) aF))))) (ip "NoDeeds") bt)
noncomputable def pb:FM:=bp 1 1 wT
noncomputable def wU:SM:=(av (gn (aO ni (ao (xV 0) aF)))
  (av (gn (aO rR (ao (xV 1) aF)))
  (av (gn (aO rE (ao (xV 2) aF)))
  (ep (aO gG (ao (xV 0) (ao (xV 1) (ao (xV 2) aF))))))))
noncomputable def lN:FM:=bp 3 3 wU
noncomputable def pc:SM:=(av (bw (aQ (aO cU (aS 0 (aS 1 (ao (aQ (aO fX (aS 0 (aS 1 (ao (ef (aj (xC (.int 30)) (aj (xC (.int 30)) (aj (xC (.int 1000)) aL)))) aF))))) aF))))) (aI 4))
  (av (bw (aQ (aO fX (aS 0 (aS 1 (ao (ef (aj (xC (.str "all")) (aj (xC (.str "last")) (aj (bY (aj (xC (.str "within")) (aj (xV 4) aL))) aL)))) aF))))) (aI 5))
  (mF 2 (bY (aj (aQ (aO nk (aS 0 (aS 1 aF)))) (aj (xV 5) (aj (af (aE false) (aQ (aO cU (aS 0 (aS 1 (ao (xC (.int 2)) aF))))) (xC (.int 0))) aL)))))))
noncomputable def wV:SM:=(av (gZ 2 (ke aL))
  (av (iK (hD dB (aj (aQ (aO cU (aS 0 (aS 1 (ao (aQ (aO fX (aS 0 (aS 1 (ao (ef (aj (xC (.int 5)) (aj (xC (.int 5)) (aj (xC (.int 7)) aL)))) aF))))) aF))))) aL)) (aI 3) pc)
  (bc (cT qL (aj (xV 2) aL)))))
noncomputable def rW:FM:=bp 2 6 wV
noncomputable def rX(C:Addr):SM:=(av (gn (bP C 0 "check_holder" (eM C) (ao (xV 1) (ao (xV 2) aF))))
  (av (cJ C 0 "last" (xV 2))
  (cJ C 0 "holder" (xC .none))))
noncomputable def kz(C:Addr):FM:=bp 3 3 (rX C)
noncomputable def nn(C:Addr):SM:=(av (bw (aQ (dE C 0 "first_unsettled" (wS C))) (aI 3))
  (av (bq (aJ (af jr (xV 3) (xC .none))) (bc (bY (aj (xC (.str "idle")) (aj (xC .none) aL)))) bt)
  (av (bq (aJ (af fb (af aB (xV 3) (xC (.int 0))) (xV 2))) (bc (bY (aj (xC (.str "idle")) (aj (af aB (xV 3) (xC (.int 0))) aL)))) bt)
  (av (bw (af aB (xV 3) (xC (.int 1))) (aI 4))
  (av (bw (af aB (xV 3) (xC (.int 2))) (aI 5))
  (av (bw (qJ (aJ (aQ (aO lK (ao (cw C 0 "zone") (ao (af aB (cw C 0 "deeds") (xV 4)) (ao (xV 5) (ao (xV 2) aF))))))) (xC (.str "left")) (xC (.str "begun"))) (aI 6))
  (ep (bP C 0 "add_row" (gr C) (ao (bY (aj (xV 2) (aj (xV 1) (aj (xV 6) (aj (xV 4) (aj (xV 5) aL)))))) aF)))))))))
noncomputable def lO(C:Addr):FM:=bp 3 7 (nn C)
noncomputable def pd(C:Addr):SM:=(av (gn (bP C 0 "check_holder" (eM C) (ao (xV 1) (ao (xV 2) aF))))
  (av (bq (da (aJ (aQ (dE C 0 "is_busy" (mY C))))) (ip "Nothing") bt)
  (av (cJ C 0 "last" (xV 2))
  (ep (bP C 0 "add_row" (gr C) (ao (bY (aj (xV 2) (aj (xV 1) (aj (xC (.str "done")) (aj (af aB (cw C 0 "begun") (xC (.int 0))) (aj (af aB (cw C 0 "begun") (xC (.int 1))) aL)))))) aF))))))
noncomputable def iS(C:Addr):FM:=bp 3 3 (pd C)
noncomputable def rY:SM:=(av (bw (xV 0) (gY 5 (cz (aI 5) (cz (aI 6) (cz (aI 7) (cz (aI 8) (cz (aI 9) gX)))))))
  (av (bw (af aB (xV 3) (xV 8)) (gY 3 (cz (aI 10) (cz (aI 11) (cz (aI 12) gX)))))
  (av (bq (dA (aJ (af (aE true) (xV 9) (xQ (mQ 4 "at" (jE 8))))) (aJ (af fb (aQ (aO lN (ao (xV 2) (ao (xV 10) (ao (xV 9) aF))))) (xV 5)))) (bc (xC (.bool false))) bt)
  (av (bw (ed (af fq (xQ (fB 4 "on")) (xC .none)) (af (aE false) (jD (xQ (fB 4 "on")) jB (jC (xC (.int 2)))) (bY (aj (xV 8) (aj (xV 9) aL))))) (aI 13))
  (av (bq (aJ (af (aE false) (xV 7) (xC (.str "begun")))) (av (bq (kc (aJ (af fq (xQ (fB 4 "on")) (xC .none))) (dA (da (aJ (xV 13))) (dA (aJ (af (aE false) (af aB (xQ (fB 4 "on")) (xC (.int 2))) (xV 1))) (da (aJ (xV 12)))))) (bc (xC (.bool false))) bt)
  (av (kq 4 "on" (bY (aj (xV 8) (aj (xV 9) (aj (xV 1) aL)))))
  (bc (xC (.bool true))))) bt)
  (av (ri 4 "at" (jE 8) (af dj (xV 9) (xC (.int 1))))
  (av (bq (aJ (af (aE false) (xV 7) (xC (.str "left")))) (bc (ed (af jr (xQ (fB 4 "on")) (xC .none)) (af (aE true) (xV 11) (xC (.str "all"))))) bt)
  (av (bq (dA (da (aJ (xV 13))) (dA (aJ (af (aE true) (af (aE false) (af aB (xQ (fB 4 "on")) (xC (.int 2))) (xV 1)) (af (aE false) (xV 7) (xC (.str "done"))))) (kc (aJ (af (aE false) (xV 7) (xC (.str "unsure")))) (aJ (xV 12))))) (bc (xC (.bool false))) bt)
  (av (kq 4 "on" (xC .none))
  (bc (af mO (xV 7) (bY (aj (xC (.str "done")) (aj (xC (.str "unsure")) aL))))))))))))))
noncomputable def gu:FM:=bp 5 14 rY
noncomputable def rZ(C:Addr):XM PyData:=(xC (.int 0))
noncomputable def wW(C:Addr):SM:=(av (gn (aO ni (ao (xV 1) aF)))
  (av (gn (aO pb (ao (xV 2) aF)))
  (av (cJ C 0 "zone" (xV 1))
  (av (cJ C 0 "deeds" (xV 2))
  (av (cJ C 0 "last" (xC .none))
  (av (cJ C 0 "holder" (xC .none))
  (av (cJ C 0 "until" (xC (.int 0)))
  (av (cJ C 0 "holds" (xC (.int 0)))
  (av (cJ C 0 "begun" (xC .none))
  (av (lB C 0 "rows" (.l []))
  (av (lB C 0 "words" (.m true []))
  (vQ C 0 "settled" 1 [] (li (xV 2)) (aI 0) hF (rZ C)))))))))))))
noncomputable def se(C:Addr):FM:=bp 3 3 (wW C)
noncomputable def nq(C:Addr):SM:=(av (gn (bP C 0 "check_holder" (eM C) (ao (xV 1) (ao (xV 2) aF))))
  (av (cJ C 0 "last" (xV 2))
  (av (bq (aJ (aQ (dE C 0 "is_busy" (mY C)))) (bc (bY (aj (xC (.str "busy")) (aj (af aB (cw C 0 "begun") (xC (.int 0))) (aj (af aB (cw C 0 "begun") (xC (.int 1))) aL))))) bt)
  (av (bq (aJ (af fq (cw C 0 "begun") (xC .none))) (ep (bP C 0 "step_behind_a_fall" (oQ C) (ao (xV 1) (ao (xV 2) aF)))) bt)
  (ep (bP C 0 "step_ahead" (lO C) (ao (xV 1) (ao (xV 2) aF))))))))
noncomputable def iU(C:Addr):FM:=bp 3 3 (nq C)
noncomputable def jF(C:Addr):SM:=(iP er 2 (av (bq (aJ (af (aE false) (af aB (xV 1) (xC (.int 0))) (xC (.str "take")))) (ep (bP C 0 "take" (lM C) (ao (af aB (xV 1) (xC (.int 1))) (ao (af aB (xV 1) (xC (.int 2))) (ao (af aB (xV 1) (xC (.int 3))) aF))))) bt)
  (av (bq (aJ (af (aE false) (af aB (xV 1) (xC (.int 0))) (xC (.str "give")))) (ep (bP C 0 "give" (kz C) (ao (af aB (xV 1) (xC (.int 1))) (ao (af aB (xV 1) (xC (.int 2))) aF)))) bt)
  (av (bq (aJ (af (aE false) (af aB (xV 1) (xC (.int 0))) (xC (.str "step")))) (ep (bP C 0 "step" (iU C) (ao (af aB (xV 1) (xC (.int 1))) (ao (af aB (xV 1) (xC (.int 2))) aF)))) bt)
  (ep (bP C 0 "finish" (iS C) (ao (af aB (xV 1) (xC (.int 1))) (ao (af aB (xV 1) (xC (.int 2))) aF))))))) (ep (aO lI (aS 2 aF))))
noncomputable def dU(C:Addr):FM:=bp 2 3 (jF C)
noncomputable def wX(C:Addr):SM:=(gZ 1 (ke aL))
noncomputable def wY(C:Addr):SM:=(bw (aQ (aO oW (aS 0 (aS 1 aF)))) (aI 2))
noncomputable def wZ(C:Addr):SM:=(bw (aQ (aO rW (aS 0 (aS 1 aF)))) (aI 3))
noncomputable def xa(C:Addr):SM:=(gZ 4 (vM C (se C) (aj (xV 2) (aj (xV 3) aL))))
noncomputable def xb(C:Addr):SM:=(gZ 5 (mS (mR "at" (lE (ef (aj (xC (.int 0)) aL)) (cT dI (aj (xV 3) aL))) [("on",.none)])))
noncomputable def xc(C:Addr):SM:=(bw (xC (.int 0)) (aI 6))
noncomputable def xf(C:Addr):SM:=(bw (xC (.int 0)) (aI 7))
noncomputable def nr(C:Addr):SM:=(av (bw (aQ (aO lL (aS 0 (aS 1 (ao (xV 6) (ao (af aB (aQ (dE C 4 "held" (ku C))) (xC (.int 0))) aF)))))) (aI 9))
  (av (bw (aQ (aO (dU C) (aS 4 (ao (xV 9) aF)))) (aI 10))
  (av (bq (dA (da (aJ (il "tuple" (xV 10)))) (aJ (af (aE true) (af aB (xV 10) (xC (.int 0))) (xC (.str "refused"))))) (bw (af aB (xV 9) (xC (.int 2))) (aI 6)) bt)
  (av (bw (aQ (dE C 4 "log" (oO C))) (aI 11))
  (av (bq (aJ (af fb (cT dI (aj (xV 11) aL)) (af dj (xV 7) (xC (.int 1))))) (bc (xC (.bool false))) bt)
  (av (bq (aJ (af fb (cT dI (aj (xV 11) aL)) (xV 7))) (av (bq (dA (aJ (af lG (af aB (xV 9) (xC (.int 0))) (bY (aj (xC (.str "step")) (aj (xC (.str "finish")) aL))))) (aJ (af (aE true) (jD (af aB (xV 11) (gV (xC (.int 1)))) jB (jC (xC (.int 2)))) (bY (aj (af aB (xV 9) (xC (.int 2))) (aj (af aB (xV 9) (xC (.int 1))) aL)))))) (bc (xC (.bool false))) bt)
  (bq (dA (da (aJ (aQ (aO gu (ao (af aB (xV 11) (gV (xC (.int 1)))) (ao (af aB (aQ (dE C 4 "held" (ku C))) (xC (.int 2))) (ao (xV 2) (ao (xV 3) (aS 5 aF))))))))) (aJ (af (aE true) (xV 10) (jD (af aB (xV 11) (gV (xC (.int 1)))) (jC (xC (.int 2))) jB)))) (bc (xC (.bool false))) bt)) bt)
  (bw (cT dI (aj (xV 11) aL)) (aI 7))))))))
noncomputable def xg(C:Addr):SM:=(iK (hD dB (aj (aQ (aO cU (aS 0 (aS 1 (ao (aQ (aO fX (aS 0 (aS 1 (ao (ef (aj (xC (.int 61)) (aj (xC (.int 61)) (aj (xC (.int 61)) (aj (xC (.int 61)) (aj (xC (.int 200)) aL)))))) aF))))) aF))))) aL)) (aI 8) (nr C))
noncomputable def xh(C:Addr):SM:=(bc (xC (.bool true)))
noncomputable def xi(C:Addr):SM:=(av (wX C)
  (av (wY C)
  (av (wZ C)
  (av (xa C)
  (av (xb C)
  (av (xc C)
  (av (xf C)
  (av (xg C)
  (xh C)))))))))
noncomputable def Cn(C:Addr):FM:=bp 1 12 (xi C)
end K3
namespace K3
open PySem PySem.Spec L2 L2.L3 PyProof.Rows
noncomputable def top(i:Nat):Stmt:=PySem.Challenge.pw_duehall_k05_whole_settled_once.main.body.getD i (.Pass ⟨0,0,0,0⟩)
noncomputable abbrev sf:Stmt:=top 26
noncomputable abbrev sg:Stmt:=top 27
noncomputable abbrev sh:Stmt:=top 28
noncomputable abbrev si:Stmt:=top 29
noncomputable abbrev sj:Stmt:=top 30
noncomputable abbrev sk:Stmt:=top 31
noncomputable abbrev so:Stmt:=top 32
noncomputable abbrev sr:Stmt:=top 33
noncomputable abbrev su:Stmt:=top 34
noncomputable abbrev sv:Stmt:=top 35
noncomputable abbrev sx:Stmt:=top 36
noncomputable abbrev sy:Stmt:=top 37
noncomputable abbrev sA:Stmt:=top 38
noncomputable abbrev sB:Stmt:=top 39
noncomputable abbrev sC:Stmt:=top 40
noncomputable abbrev sD:Stmt:=top 41
noncomputable abbrev sE:Stmt:=top 42
noncomputable abbrev sF:Stmt:=top 43
noncomputable abbrev sG:Stmt:=top 44
noncomputable abbrev sH:Stmt:=top 45
noncomputable abbrev sI:Stmt:=top 48
noncomputable abbrev sJ:Stmt:=top 49
noncomputable abbrev sK:Stmt:=top 50
noncomputable abbrev sL:Stmt:=top 51
noncomputable abbrev sM:Stmt:=top 53
noncomputable abbrev sN:Stmt:=top 54
noncomputable abbrev sO:Stmt:=top 55
noncomputable abbrev sP:Stmt:=top 56
noncomputable abbrev sQ:Stmt:=top 61
noncomputable abbrev sR:Stmt:=fL (top 62) 0
noncomputable abbrev sS:Stmt:=fL (top 62) 1
noncomputable abbrev sT:Stmt:=fL (top 62) 2
noncomputable abbrev sU:Stmt:=fL (top 62) 3
noncomputable abbrev sV:Stmt:=fL (top 62) 4
noncomputable abbrev sW:Stmt:=fL (top 62) 5
noncomputable abbrev sX:Stmt:=fL (top 62) 6
noncomputable abbrev sY:Stmt:=fL (top 62) 7
noncomputable abbrev sZ:Stmt:=fL (top 62) 8
noncomputable abbrev tf:Stmt:=fL (top 62) 9
noncomputable abbrev tj:Stmt:=fL (top 62) 10
noncomputable abbrev tm:Stmt:=fL (top 62) 11
noncomputable abbrev tp:Stmt:=fL (top 62) 12
noncomputable abbrev tq:Stmt:=fL (top 62) 14
noncomputable abbrev tt:Stmt:=fL (top 62) 15
noncomputable abbrev tu:Stmt:=top 64
noncomputable abbrev tw:Stmt:=top 65
noncomputable abbrev tx:Stmt:=top 66
noncomputable abbrev tz:Stmt:=top 67
noncomputable abbrev tD:Stmt:=top 68
noncomputable abbrev tE:Stmt:=top 69
noncomputable abbrev tF:Stmt:=top 70
noncomputable abbrev tG:Stmt:=top 71
noncomputable abbrev tH:Stmt:=top 72
noncomputable abbrev tI:Stmt:=top 73
noncomputable abbrev tJ:Stmt:=top 74
noncomputable abbrev kA:Stmt:=top 75
theorem MZ:aa ["thing","least","most"] ["thing","least","most"] (bh sf):=bC
theorem Na:aa ["thing","length"] ["thing","length"] (bh sg):=bC
theorem Nb:aa ["thing"] ["thing"] (bh sh):=bC
theorem Nc:aa ["thing"] ["thing"] (bh si):=bC
theorem Nd:aa ["thing"] ["thing"] (bh sj):=bC
theorem Nf:aa ["thing"] ["thing"] (bh sk):=bC
theorem tK:aa ["thing","earliest","shift"] ["thing"] (bh so):=bC
theorem Ng:aa ["thing"] ["thing"] (bh sr):=bC
theorem Nh:aa ["thing","word","length"] ["thing","word","length"] (bh su):=bC
theorem Ni:aa ["thing"] ["thing"] (bh sv):=bC
theorem Nj:aa ["thing"] ["thing"] (bh sx):=bC
theorem Nk:aa ["thing"] ["thing"] (bh sy):=bC
theorem Nl:aa ["thing"] ["thing"] (bh sA):=bC
theorem Nm:aa ["thing"] ["thing"] (bh sB):=bC
theorem Nn:aa ["thing"] ["thing"] (bh sC):=bC
theorem No:aa ["thing"] ["thing"] (bh sD):=bC
theorem Np:aa ["thing"] ["thing"] (bh sE):=bC
theorem Nq:aa ["thing"] ["thing"] (bh sF):=bC
theorem Nr:aa ["thing"] ["thing"] (bh sG):=bC
theorem Nt:aa ["thing"] ["thing"] (bh sH):=bC
theorem tL:aa ["zone","moment","ahead","shift"] ["zone","moment"] (bh sI):=bC
theorem tM:aa ["zone","starts","ends","aheads"] ["zone"] (bh sJ):=bC
theorem Nu:aa ["moment","end"] ["moment","end"] (bh sK):=bC
theorem Co:aa ["zone","hours","reached"] ["zone","hours"] (bh sL):=bC
theorem Nv:aa ["zone","hour"] ["zone","hour"] (bh sM):=bC
theorem Cp:aa ["zone","hour","count","day"] ["zone","hour","count"] (bh sN):=bC
theorem Nw:aa ["zone","plan","count"] ["zone","plan","count"] (bh sO):=bC
theorem Nx:aa ["zone","plan","count"] ["zone","plan","count"] (bh sP):=bC
theorem Cq:aa ["zone","deed","count","now","later"] ["zone","deed","count","now"] (bh sQ):=bC
theorem Ny:aa ["self","zone","deeds"] ["self","zone","deeds"] (bh sR):=bC
theorem Nz:aa ["self","moment"] ["self","moment"] (bh sS):=bC
theorem NA:aa ["self","runner","moment"] ["self","runner","moment"] (bh sT):=bC
theorem NB:aa ["self","runner","moment"] ["self","runner","moment"] (bh sU):=bC
theorem NC:aa ["self","runner","moment","term"] ["self","runner","moment","term"] (bh sV):=bC
theorem ND:aa ["self","runner","moment"] ["self","runner","moment"] (bh sW):=bC
theorem tN:aa ["self","row","word","deed","count"] ["self","row"] (bh sX):=bC
theorem NE:aa ["self"] ["self"] (bh sY):=bC
theorem pf:aa ["self","found","deed","count","moment"] ["self"] (bh sZ):=bC
theorem NF:aa ["self","runner","moment"] ["self","runner","moment"] (bh tf):=bC
theorem xj:aa ["self","runner","moment","deed","word"] ["self","runner","moment"] (bh tj):=bC
theorem ph:aa ["self","runner","moment","found","deed","count","word"] ["self","runner","moment"] (bh tm):=bC
theorem NG:aa ["self","runner","moment"] ["self","runner","moment"] (bh tp):=bC
theorem NH:aa ["self"] ["self"] (bh tq):=bC
theorem NJ:aa ["self"] ["self"] (bh tt):=bC
theorem NK:aa ["_law_script","_law_k"] ["_law_script","_law_k"] (bh tu):=bC
theorem Cr:aa ["_law_script","_law_k","_law_many","_law_drawn"] ["_law_script","_law_k","_law_many"] (bh tw):=bC
theorem NL:aa ["_law_script","_law_town","_law_many"] ["_law_script","_law_town","_law_many"] (bh tx):=bC
theorem NM:aa ["_law_script","_law_town","_law_some"] ["_law_script","_law_town","_law_some"] (bh tz):=bC
theorem nt:aa ["_law_script","_law_town","_law_shifts","_law_moment","_law_k"] ["_law_script","_law_town"] (bh tD):=bC
theorem xk:aa ["_law_script","_law_town","_law_kind","_law_step"] ["_law_script","_law_town"] (bh tE):=bC
theorem pk:aa ["_law_script","_law_town","_law_made","_law_k","_law_hours","_law_late"] ["_law_script","_law_town"] (bh tF):=bC
theorem pp:aa ["_law_script","_law_town","_law_now","_law_holder","_law_runner","_law_moment","_law_kind"] ["_law_script","_law_town","_law_now","_law_holder"] (bh tG):=bC
theorem Cs:aa ["_law_e","_law_own"] ["_law_e"] (bh tH):=bC
theorem Ct:aa ["_law_hall","_law_call_here","_law_e"] ["_law_hall","_law_call_here"] (bh tI):=bC
theorem iV:aa ["_law_row","_law_hold","_law_zone_here","_law_deeds_here","_law_state","_law_moment","_law_runner","_law_word","_law_deed","_law_count","_law_plan_here","_law_late","_law_again","_law_mine"] ["_law_row","_law_hold","_law_zone_here","_law_deeds_here","_law_state"] (bh tJ):=bC
theorem gv:aa ["_law_script","_law_town","_law_zone_here","_law_deeds_here","_law_hall","_law_state","_law_now","_law_rows","_law_k","_law_call_here","_law_told","_law_some"] ["_law_script"] (bh kA):=bC
structure Tx (K:Frag) (mg:Str->Option Value):Prop where
 d00:∃g fd,FD K mg "is_whole" sf ["thing","least","most"] g fd
 d01:∃g fd,FD K mg "is_tuple_of" sg ["thing","length"] g fd
 d02:∃g fd,FD K mg "is_ahead" sh ["thing"] g fd
 d03:∃g fd,FD K mg "is_moment" si ["thing"] g fd
 d04:∃g fd,FD K mg "is_runner" sj ["thing"] g fd
 d05:∃g fd,FD K mg "is_term" sk ["thing"] g fd
 d06:∃g fd,FD K mg "are_shifts" so ["thing"] g fd
 d07:∃g fd,FD K mg "is_zone" sr ["thing"] g fd
 d08:∃g fd,FD K mg "has_word" su ["thing","word","length"] g fd
 d09:∃g fd,FD K mg "is_plan" sv ["thing"] g fd
 d0a:∃g fd,FD K mg "is_late" sx ["thing"] g fd
 d0b:∃g fd,FD K mg "is_deed" sy ["thing"] g fd
 d0c:∃g fd,FD K mg "are_deeds" sA ["thing"] g fd
 d0d:∃g fd,FD K mg "check_zone" sB ["thing"] g fd
 d0e:∃g fd,FD K mg "check_plan" sC ["thing"] g fd
 d0f:∃g fd,FD K mg "check_moment" sD ["thing"] g fd
 d0g:∃g fd,FD K mg "check_count" sE ["thing"] g fd
 d0h:∃g fd,FD K mg "check_deeds" sF ["thing"] g fd
 d0i:∃g fd,FD K mg "check_runner" sG ["thing"] g fd
 d0j:∃g fd,FD K mg "check_term" sH ["thing"] g fd
 d0k:∃g fd,FD K mg "shown" sI ["zone","moment"] g fd
 d0l:∃g fd,FD K mg "stretches" sJ ["zone"] g fd
 d0m:∃g fd,FD K mg "is_ahead_of" sK ["moment","end"] g fd
 d0n:∃g fd,FD K mg "first_showing" sL ["zone","hours"] g fd
 d0o:∃g fd,FD K mg "first_day" sM ["zone","hour"] g fd
 d0p:∃g fd,FD K mg "daily_time" sN ["zone","hour","count"] g fd
 d0q:∃g fd,FD K mg "time_of" sO ["zone","plan","count"] g fd
 d0r:∃g fd,FD K mg "due" sP ["zone","plan","count"] g fd
 d0s:∃g fd,FD K mg "is_left_out" sQ ["zone","deed","count","now"] g fd
 d0t:∃g fd,FD K mg "_law_cell_at" tu ["_law_script","_law_k"] g fd
 d0u:∃g fd,FD K mg "_law_mixed" tw ["_law_script","_law_k","_law_many"] g fd
 d0v:∃g fd,FD K mg "_law_draw" tx ["_law_script","_law_town","_law_many"] g fd
 d0w:∃g fd,FD K mg "_law_pick" tz ["_law_script","_law_town","_law_some"] g fd
 d0x:∃g fd,FD K mg "_law_zone" tD ["_law_script","_law_town"] g fd
 d0y:∃g fd,FD K mg "_law_plan" tE ["_law_script","_law_town"] g fd
 d0z:∃g fd,FD K mg "_law_deeds" tF ["_law_script","_law_town"] g fd
 d10:∃g fd,FD K mg "_law_call" tG ["_law_script","_law_town","_law_now","_law_holder"] g fd
 d11:∃g fd,FD K mg "_law_which" tH ["_law_e"] g fd
 d12:∃g fd,FD K mg "_law_do" tI ["_law_hall","_law_call_here"] g fd
 d13:∃g fd,FD K mg "_law_row_right" tJ ["_law_row","_law_hold","_law_zone_here","_law_deeds_here","_law_state"] g fd
 d14:∃t,mg "LAST_MOMENT" = some (.int (9999) t)
 d15:∃t,mg "LAST_COUNT" = some (.int (9999) t)
 d16:∃t,mg "LAST_HOUR" = some (.int (23) t)
 d17:∃t,mg "LEAST_AHEAD" = some (.int (-12) t)
 d18:∃t,mg "MOST_AHEAD" = some (.int (14) t)
 d19:∃t,mg "MOST_SHIFTS" = some (.int (6) t)
 d1a:∃t,mg "MOST_STEP" = some (.int (999) t)
 d1b:∃t,mg "MOST_DEEDS" = some (.int (6) t)
 d1c:∃t,mg "MOST_WITHIN" = some (.int (999) t)
 d1d:∃t,mg "LAST_RUNNER" = some (.int (3) t)
 d1e:∃t,mg "MOST_TERM" = some (.int (99) t)
 d1f:∃t,mg "DAY_HOURS" = some (.int (24) t)
 d1g:∃t,mg "PLAN" = some (.int (0) t)
 d1h:∃t,mg "LATE" = some (.int (1) t)
 d1i:∃t,mg "AGAIN" = some (.int (2) t)
 d1j:mg "ValueError" = none
 d1k:mg "all" = none
 d1l:mg "bool" = none
 d1m:mg "enumerate" = none
 d1n:mg "int" = none
 d1o:mg "isinstance" = none
 d1p:mg "len" = none
 d1q:mg "list" = none
 d1r:mg "max" = none
 d1s:mg "min" = none
 d1t:mg "range" = none
 d1u:mg "str" = none
 d1v:mg "tuple" = none
 d1w:mg "zip" = none
 xt0:∃D,XT K mg er D
structure et (K:Frag) (mg:Str->Option Value) (C:Addr):Prop where
 cl:dq K C
 mg:mg "Hall" = some (.ref C)
 mks:PySem.W.makesIn K C=true
 kpC:keepIn K (.ref C)=true
 d1x:cX K C "begun"
 d1y:cX K C "deeds"
 d1z:cX K C "holder"
 d20:cX K C "holds"
 d21:cX K C "last"
 d22:cX K C "rows"
 d23:cX K C "settled"
 d24:cX K C "until"
 d25:cX K C "words"
 d26:cX K C "zone"
 d27:∃g fd,MD K C "__init__" "Hall.__init__" sR ["self","zone","deeds"] g fd
 d28:∃g fd,MD K C "is_held" "Hall.is_held" sS ["self","moment"] g fd
 d29:∃g fd,MD K C "check_call" "Hall.check_call" sT ["self","runner","moment"] g fd
 d2a:∃g fd,MD K C "check_holder" "Hall.check_holder" sU ["self","runner","moment"] g fd
 d2b:∃g fd,MD K C "take" "Hall.take" sV ["self","runner","moment","term"] g fd
 d2c:∃g fd,MD K C "give" "Hall.give" sW ["self","runner","moment"] g fd
 d2d:∃g fd,MD K C "add_row" "Hall.add_row" sX ["self","row"] g fd
 d2e:∃g fd,MD K C "is_busy" "Hall.is_busy" sY ["self"] g fd
 d2f:∃g fd,MD K C "first_unsettled" "Hall.first_unsettled" sZ ["self"] g fd
 d2g:∃g fd,MD K C "step" "Hall.step" tf ["self","runner","moment"] g fd
 d2h:∃g fd,MD K C "step_behind_a_fall" "Hall.step_behind_a_fall" tj ["self","runner","moment"] g fd
 d2i:∃g fd,MD K C "step_ahead" "Hall.step_ahead" tm ["self","runner","moment"] g fd
 d2j:∃g fd,MD K C "finish" "Hall.finish" tp ["self","runner","moment"] g fd
 d2k:∃g fd,MD K C "held" "Hall.held" tq ["self"] g fd
 d2l:∃g fd,MD K C "log" "Hall.log" tt ["self"] g fd
theorem et.make{K:Frag}{a:Str->Option Value}{C g:Addr}(h:et K a C)(M:ie K C "__init__" g):Mk K C g:=⟨h.mks,M.at_,M.fn,h.kpC⟩
theorem NN:bootBuiltins "int" = some (.type "int"):=by decide +kernel
theorem Cu:bootBuiltins "bool" = some (.type "bool"):=by decide +kernel
theorem Cv:bootBuiltins "str" = some (.type "str"):=by decide +kernel
theorem nu:bootBuiltins "tuple" = some (.type "tuple"):=by decide +kernel
theorem Ro:bootBuiltins "list" = some (.type "list"):=by decide +kernel
theorem Cw:bootBuiltins "max" = some (.builtin "max"):=by decide +kernel
theorem Rp:bootBuiltins "divmod" = some (.builtin "divmod"):=by decide +kernel
theorem NO:bootBuiltins "all" = some (.builtin "all"):=by decide +kernel
theorem Rq:bootBuiltins "any" = some (.builtin "any"):=by decide +kernel
theorem Rr:bootBuiltins "sum" = some (.builtin "sum"):=by decide +kernel
theorem Rs:bootBuiltins "min" = some (.builtin "min"):=by decide +kernel
theorem Rt:bootBuiltins "sorted" = some (.builtin "sorted"):=by decide +kernel
theorem NP{k:Nat}{A:Around}(r:cA k A):A.units+64<cLine:=by have:=r.un;omega
theorem lP{X:Cx}{F:Fx}(a:GF X.mg F):eV X F gp:=⟨a,fun _ _ _ _ _ _ _ _ _ _ z=>z.elim⟩
end K3
namespace K3
open PySem PySem.Spec L2 L2.L3 PyProof.Rows
local macro_rules | `(tactic| walk_at "z")=>`(tactic| first|rfl|exact .inl rfl|exact .inr rfl|assumption|exact fun _=>rfl)
section
variable(P:Program)(w:World){K:Frag}{mg:Str->Option Value}(base:Heap)
theorem kB{g:Addr}{fd:FuncData}(T:Tx K mg)(D:FD K mg "is_whole" sf ["thing","least","most"] g fd):aA P w K mg base (ba P w) 1 g fd ["thing","least","most"] (bf K mg gq):=by
 refine bF D.fn MZ (by decide) ?_;intro b A a s H E F c d e;unfold oK;refine aG ?_;refine bz ?_
 ·exact(eK (jv (jn rfl T.d1o (fv 0) (iB rfl T.d1n NN rfl))) (eK (KZ (jv (jn rfl T.d1o (fv 0) (iB rfl T.d1l Cu rfl)))) (fS (LZ (fv 1) (fv 0) (fv 2)))))
theorem tO{g:Addr}{fd:FuncData}(T:Tx K mg)(D:FD K mg "is_tuple_of" sg ["thing","length"] g fd):aA P w K mg base (ba P w) 1 g fd ["thing","length"] (bf K mg kt):=by
 refine bF D.fn Na (by decide) ?_;intro b A a s H E F d c e;unfold rp;refine aG ?_;refine bz ?_
 ·exact(eK (jv (jn rfl T.d1o (fv 0) (iB rfl T.d1v nu rfl))) (fS (jA c.units (gm jt (gT ig jo rfl T.d1p PySem.boot_len (ay (fv 0) bn))) (fv 1))))
theorem NQ{g:Addr}{fd:FuncData}(T:Tx K mg)(D:FD K mg "shown" sI ["zone","moment"] g fd):aA P w K mg base (ba P w) 1 g fd ["zone","moment"] (bf K mg rs):=by
 refine bF D.fn tL (by decide) ?_;intro b A a s H E F c d e;unfold wh;refine aD ?_ ?_
 ·refine bW (i:=2) ?_ ?_ ?_ ?_ ?_ ?_<;>try walk_at "z"
  ·exact tL.nd
  ·exact(aY (fv 0) (ae aq))
 refine aD ?_ ?_
 ·refine mD ?_ ?_ ?_ ?_ ?_ ?_<;>try walk_at "z"
  ·exact PassesOwn.leaving
  ·exact(mE (aY (fv 0) (ae aq)))
  ·exact(dJ 3 tL.nd)
  ·unfold rq;refine aG ?_;refine bI ?_ ?_ ?_
   ·exact(LX (aY (fv 3) (ae aq)) (fv 1))
   ·refine aG ?_;refine bW (i:=2) ?_ ?_ ?_ ?_ ?_ ?_<;>try walk_at "z"
    ·exact tL.nd
    ·exact(aY (fv 3) (ae aq))
   ·exact bL
 refine aG ?_;refine bz ?_
 ·exact(eh (fv 1) (fv 2))
theorem NR{g:Addr}{fd:FuncData}(T:Tx K mg)(D:FD K mg "stretches" sJ ["zone"] g fd):aA P w K mg base (ba P w) 1 g fd ["zone"] (bf K mg ry):=by
 refine bF D.fn tM (by decide) ?_;intro c A a s H E F e f b;unfold wn;refine aD ?_ ?_
 ·refine bW (i:=1) ?_ ?_ ?_ ?_ ?_ ?_<;>try walk_at "z"
  ·exact tM.nd
  ·exact(vJ (ft (ay (ae aq) bn)) (vo b.1 (az.of (own:=["shift"]) (capN:=[]) (caps:=[])) rfl rfl (mE (aY (fv 0) (ae aq))) (fun _ _ _ _ _ _ d=>⟨(dJ 0 (show((["shift"]:List Str)++([]:List Str)).Nodup from by decide +kernel)),oq,(aY (fv 0) (ae aq))⟩)))
 refine aD ?_ ?_
 ·refine bW (i:=2) ?_ ?_ ?_ ?_ ?_ ?_<;>try walk_at "z"
  ·exact tM.nd
  ·exact(vJ (Lv (Km (k:=1) (fv 1))) (ft (ay (ae dS) bn)))
 refine aD ?_ ?_
 ·refine bW (i:=3) ?_ ?_ ?_ ?_ ?_ ?_<;>try walk_at "z"
  ·exact tM.nd
  ·exact(vJ (ft (ay (aY (fv 0) (ae aq)) bn)) (vo b.1 (az.of (own:=["shift"]) (capN:=[]) (caps:=[])) rfl rfl (mE (aY (fv 0) (ae aq))) (fun _ _ _ _ _ _ d=>⟨(dJ 0 (show((["shift"]:List Str)++([]:List Str)).Nodup from by decide +kernel)),oq,(aY (fv 0) (ae aq))⟩)))
 refine aG ?_;refine bz ?_
 ·exact(Lu (Kl rfl rfl T.d1q rfl T.d1w (ay (fv 1) (ay (fv 2) (ay (fv 3) bn)))))
theorem NS{g:Addr}{fd:FuncData}(T:Tx K mg)(D:FD K mg "is_ahead_of" sK ["moment","end"] g fd):aA P w K mg base (ba P w) 1 g fd ["moment","end"] (bf K mg rz):=by
 refine bF D.fn Nu (by decide) ?_;intro b A a s H E F c d e;unfold wo;refine aG ?_;refine bz ?_
 ·exact(AS (BI (fv 1) (ae dS)) (fS (BH (fv 0) (fv 1))))
theorem NT{g:Addr}{fd:FuncData}(T:Tx K mg)(D:FD K mg "_law_cell_at" tu ["_law_script","_law_k"] g fd):aA P w K mg base (ba P w) 1 g fd ["_law_script","_law_k"] (bf K mg mV):=by
 refine bF D.fn NK (by decide) ?_;intro b A a s H E F d c e;unfold oM;refine aD ?_ ?_
 ·refine bI ?_ ?_ ?_
  ·exact(qZ (fv 1) (AY (AD rfl T.d1p (pv 0))))
  ·refine aG ?_;refine bz ?_
   ·exact(AZ (AF (pv 0) (fv 1) (by intro _ _;rfl)))
  ·exact bL
 refine aD ?_ ?_
 ·refine bI ?_ ?_ ?_
  ·exact(Ld (Kq c.units (pv 0)))
  ·refine aG ?_;refine bz ?_
   ·exact(ae aq)
  ·exact bL
 refine aG ?_;refine bz ?_
 ·exact(eh (lv (AZ (AF (pv 0) (oA (fv 1) (AY (AD rfl T.d1p (pv 0)))) (by intro _ _;rfl))) (ae aq)) (fv 1))
theorem NU{g:Addr}{fd:FuncData}(T:Tx K mg)(D:FD K mg "_law_which" tH ["_law_e"] g fd):eZ P w K mg base (ba P w) 1 g fd ["_law_e"] (bf K mg lI):=by
 obtain⟨c,a⟩:=T.xt0;refine LG D.fn Cs (by decide) ?_;intro d A b s H E F f e h;unfold Cj;refine aD ?_ ?_
 ·refine lh (i:=1) ?_ ?_ ?_ ?_ ?_ ?_<;>try walk_at "z"
  ·exact Cs.nd
  ·exact(ot (ay (iq a rfl T.d1o (pv 0) rfl (by decide +kernel)) (ay (iq a rfl T.d1o (pv 0) rfl (by decide +kernel)) (ay (iq a rfl T.d1o (pv 0) rfl (by decide +kernel)) (ay (iq a rfl T.d1o (pv 0) rfl (by decide +kernel)) bn)))))
 refine aD ?_ ?_
 ·refine BB ?_ ?_ ?_ ?_ ?_ ?_ ?_ ?_<;>try walk_at "z"
  ·exact(pv 1)
  ·exact(ft (ay (iq a rfl T.d1o (pv 0) rfl (by decide +kernel)) (ay (iq a rfl T.d1o (pv 0) rfl (by decide +kernel)) (ay (iq a rfl T.d1o (pv 0) rfl (by decide +kernel)) (ay (iq a rfl T.d1o (pv 0) rfl (by decide +kernel)) bn)))))
 refine aD ?_ ?_
 ·refine BB ?_ ?_ ?_ ?_ ?_ ?_ ?_ ?_<;>try walk_at "z"
  ·exact(pv 1)
  ·exact(ft (ay (iq a rfl T.d1o (pv 0) rfl (by decide +kernel)) (ay (iq a rfl T.d1o (pv 0) rfl (by decide +kernel)) (ay (iq a rfl T.d1o (pv 0) rfl (by decide +kernel)) bn))))
 refine aD ?_ ?_
 ·refine bI ?_ ?_ ?_
  ·exact(fr (gl (kj (NP e) (BA (g:=qU) PySem.F.slot_list_count PySem.F.type_list_count LM LO (pv 1) (ae eI)) (ae aq)) (gW (ee (cR (cP (LR a rfl T.d1o (pv 0) rfl T.d1j)))))))
  ·refine aG ?_;refine bz ?_
   ·exact(cS (ay (ae bS) (ay (oj (ae aq)) bn)))
  ·exact bL
 refine aG ?_;refine bz ?_
 ·exact(cS (ay (ae bS) (ay (BA (g:=qV) PySem.F.slot_list_index PySem.F.type_list_index LN LP (pv 1) (ae eI)) bn)))
theorem Cy{C:Addr}{g:Addr}{fd:FuncData}(T:Tx K mg)(a:et K mg C)(D:MD K C "is_held" "Hall.is_held" sS ["self","moment"] g fd):aA P w K mg base (ba P w) 1 g fd ["self","moment"] (bf K mg (oN C)):=by
 refine bF D.fn Nz (by decide) ?_;intro c A b s H E F d e f;unfold wq;refine aG ?_;refine bz ?_
 ·exact(eK (ra (dk a.cl a.d1z (pv 0)) (ae dS)) (fS (BH (fv 1) (dk a.cl a.d24 (pv 0)))))
theorem xl{C:Addr}{g:Addr}{fd:FuncData}(T:Tx K mg)(a:et K mg C)(D:MD K C "add_row" "Hall.add_row" sX ["self","row"] g fd):aA P w K mg base (ba P w) 1 g fd ["self","row"] (bf K mg (gr C)):=by
 refine bF D.fn tN (by decide) ?_;intro d A b s H E F e c f;unfold mW;refine aD ?_ ?_
 ·refine bW (i:=2) ?_ ?_ ?_ ?_ ?_ ?_<;>try walk_at "z"
  ·exact tN.nd
  ·exact(aY (fv 1) (ae aq))
 refine aD ?_ ?_
 ·refine bW (i:=3) ?_ ?_ ?_ ?_ ?_ ?_<;>try walk_at "z"
  ·exact tN.nd
  ·exact(aY (fv 1) (ae aq))
 refine aD ?_ ?_
 ·refine bW (i:=4) ?_ ?_ ?_ ?_ ?_ ?_<;>try walk_at "z"
  ·exact tN.nd
  ·exact(aY (fv 1) (ae aq))
 refine aD ?_ ?_
 ·refine Mg ?_ ?_ ?_ ?_ ?_ ?_ ?_ ?_ ?_ ?_ ?_<;>try walk_at "z"
  ·exact a.cl
  ·exact a.d22
  ·exact(pv 0)
  ·exact(pv 1)
 refine aD ?_ ?_
 ·refine Mh ?_ ?_ ?_ ?_ ?_ ?_ ?_ ?_ ?_ ?_ ?_<;>try walk_at "z"
  ·exact(gQ c)
  ·exact a.cl
  ·exact a.d25
  ·exact(pv 0)
  ·exact(pv 3)
  ·exact(pv 4)
  ·exact(fv 2)
 refine aD ?_ ?_
 ·refine bI ?_ ?_ ?_
  ·exact(fu c.units (fv 2) (ae bS))
  ·refine aG ?_;refine fy ?_ ?_ ?_ ?_ ?_
   ·exact a.cl
   ·exact a.d1x
   ·exact(pv 0)
   ·exact(cS (ay (fv 3) (ay (fv 4) (ay (dk a.cl a.d20 (pv 0)) bn))))
   ·rfl
  ·refine aD ?_ ?_
   ·refine fy ?_ ?_ ?_ ?_ ?_
    ·exact a.cl
    ·exact a.d1x
    ·exact(pv 0)
    ·exact(ae dS)
    ·rfl
   refine aG ?_;refine Mj ?_ ?_ ?_ ?_ ?_ ?_ ?_ ?_ ?_ ?_<;>try walk_at "z"
   ·exact a.cl
   ·exact a.d23
   ·exact(pv 0)
   ·exact(pv 3)
   ·exact(eh (fv 4) (ae aq))
 refine aG ?_;refine bz ?_
 ·exact(cS (ay (fv 2) (ay (fv 3) (ay (fv 4) bn))))
theorem Cz{C:Addr}{g:Addr}{fd:FuncData}(T:Tx K mg)(a:et K mg C)(D:MD K C "is_busy" "Hall.is_busy" sY ["self"] g fd):aA P w K mg base (ba P w) 1 g fd ["self"] (bf K mg (mY C)):=by
 refine bF D.fn NE (by decide) ?_;intro c A b s H E F e d f;unfold rA;refine aG ?_;refine bz ?_
 ·exact(eK (ra (dk a.cl a.d1x (pv 0)) (ae dS)) (fS (jA d.units (aY (dk a.cl a.d1x (pv 0)) (ae aq)) (dk a.cl a.d20 (pv 0)))))
theorem NW{C:Addr}{g:Addr}{fd:FuncData}(T:Tx K mg)(a:et K mg C)(D:MD K C "held" "Hall.held" tq ["self"] g fd):aA P w K mg base (ba P w) 1 g fd ["self"] (bf K mg (ku C)):=by
 refine bF D.fn NH (by decide) ?_;intro c A b s H E F d e f;unfold wr;refine aG ?_;refine bz ?_
 ·exact(cS (ay (dk a.cl a.d1z (pv 0)) (ay (dk a.cl a.d24 (pv 0)) (ay (dk a.cl a.d20 (pv 0)) bn))))
theorem NX{C:Addr}{g:Addr}{fd:FuncData}(T:Tx K mg)(b:et K mg C)(D:MD K C "log" "Hall.log" tt ["self"] g fd):aA P w K mg base (ba P w) 1 g fd ["self"] (bf K mg (oO C)):=by
 refine bF D.fn NJ (by decide) ?_;intro c A a s H E F d e f;unfold wt;refine aG ?_;refine bz ?_
 ·exact(Mp rfl T.d1q b.cl b.d22 (pv 0))
theorem CA{g:Addr}{fd:FuncData}(T:Tx K mg)(D:FD K mg "is_ahead" sh ["thing"] g fd):aA P w K mg base (ba P w) 2 g fd ["thing"] (bf K mg oP):=by
 obtain⟨l,m,f⟩:=T.d00;have h:=kB P w base T f;obtain⟨c,a⟩:=T.d17;obtain⟨d,b⟩:=T.d18;refine bF D.fn Nb (by decide) ?_;intro i A e s H E F n j k;unfold wu;refine aG ?_;refine eF ?_
 ·exact(aW k h f j (au (fv 0) (au (ae (ea rfl a)) (au (ae (ea rfl b)) aM))))
theorem CB{g:Addr}{fd:FuncData}(T:Tx K mg)(D:FD K mg "is_moment" si ["thing"] g fd):aA P w K mg base (ba P w) 2 g fd ["thing"] (bf K mg mZ):=by
 obtain⟨j,k,d⟩:=T.d00;have e:=kB P w base T d;obtain⟨b,a⟩:=T.d14;refine bF D.fn Nc (by decide) ?_;intro f A c s H E F l h i;unfold wv;refine aG ?_;refine eF ?_
 ·exact(aW i e d h (au (fv 0) (au (ae aq) (au (ae (ea rfl a)) aM))))
theorem NY{g:Addr}{fd:FuncData}(T:Tx K mg)(D:FD K mg "is_runner" sj ["thing"] g fd):aA P w K mg base (ba P w) 2 g fd ["thing"] (bf K mg rB):=by
 obtain⟨j,k,d⟩:=T.d00;have e:=kB P w base T d;obtain⟨b,a⟩:=T.d1d;refine bF D.fn Nd (by decide) ?_;intro f A c s H E F l h i;unfold ww;refine aG ?_;refine eF ?_
 ·exact(aW i e d h (au (fv 0) (au (ae aq) (au (ae (ea rfl a)) aM))))
theorem Oa{g:Addr}{fd:FuncData}(T:Tx K mg)(D:FD K mg "is_term" sk ["thing"] g fd):aA P w K mg base (ba P w) 2 g fd ["thing"] (bf K mg rC):=by
 obtain⟨j,k,d⟩:=T.d00;have e:=kB P w base T d;obtain⟨b,a⟩:=T.d1e;refine bF D.fn Nf (by decide) ?_;intro f A c s H E F l h i;unfold wx;refine aG ?_;refine eF ?_
 ·exact(aW i e d h (au (fv 0) (au (ae aq) (au (ae (ea rfl a)) aM))))
theorem CC{g:Addr}{fd:FuncData}(T:Tx K mg)(D:FD K mg "has_word" su ["thing","word","length"] g fd):aA P w K mg base (ba P w) 2 g fd ["thing","word","length"] (bf K mg kv):=by
 obtain⟨h,i,b⟩:=T.d01;have d:=tO P w base T b;refine bF D.fn Nh (by decide) ?_;intro e A a s H E F j c f;unfold rD;refine aG ?_;refine bz ?_
 ·exact(eK (aZ (aW f d b c (au (fv 0) (au (fv 2) aM)))) (eK (jv (jn rfl T.d1o (aY (fv 0) (ae aq)) (iB rfl T.d1u Cv rfl))) (fS (jA c.units (aY (fv 0) (ae aq)) (fv 1)))))
theorem Ob{g:Addr}{fd:FuncData}(T:Tx K mg)(D:FD K mg "check_count" sE ["thing"] g fd):aA P w K mg base (ba P w) 2 g fd ["thing"] (bf K mg rE):=by
 obtain⟨o,p,h⟩:=T.d00;have k:=kB P w base T h;obtain⟨d,a⟩:=T.d15;obtain⟨l,m⟩:=T.xt0;obtain⟨e,b,_⟩:=m.at_ (c:="NoCount") (by decide +kernel);refine bF D.fn Np (by decide) ?_;intro n A f s H E F q i j;unfold wy;refine aG ?_;refine bI ?_ ?_ ?_
 ·exact(ee (cR (cP (aZ (aW j k h i (au (fv 0) (au (ae aq) (au (ae (ea rfl a)) aM))))))))
 ·refine aG ?_;exact(iO j i.hd rfl b)
 ·exact bL
theorem Oc{g:Addr}{fd:FuncData}(T:Tx K mg)(D:FD K mg "first_showing" sL ["zone","hours"] g fd):aA P w K mg base (ba P w) 2 g fd ["zone","hours"] (bf K mg rF):=by
 obtain⟨l,m,b⟩:=T.d0l;have f:=NR P w base T b;obtain⟨g1,f1,c⟩:=T.d0m;have h:=NS P w base T c;refine bF D.fn Co (by decide) ?_;intro j A a s H E F o d e;unfold wB;refine aD ?_ ?_
 ·refine Bh (i:=2) (own:=["start","end","ahead"]) (capN:=["hours"]) (caps:=[1]) ?_ ?_ ?_ ?_ ?_ ?_ ?_ ?_ ?_ ?_ ?_ ?_<;>try walk_at "z"
  ·exact Co.nd
  ·exact e.1
  ·exact(az.of (own:=["start","end","ahead"]) (capN:=["hours"]) (caps:=[1]))
  ·exact(Lj (aZ (aW e f b d (au (fv 0) aM))))
  ·exact(fun _ _ _ _ _ _ k=>⟨(on (n:=3) rfl (fT (dJ 0 (show((["start","end","ahead"]:List Str)++(["hours"]:List Str)).Nodup from by decide +kernel)) (fT (dJ 1 (show((["start","end","ahead"]:List Str)++(["hours"]:List Str)).Nodup from by decide +kernel)) (fT (dJ 2 (show((["start","end","ahead"]:List Str)++(["hours"]:List Str)).Nodup from by decide +kernel)) om)))),(Ll (cR (cP (aZ (aW (lP k) h c d (au (gm AU (gT (yA rfl) Au rfl T.d1r Cw (ay (fv 0) (ay (lu (fv 3) (fv 2)) bn)))) (au (fv 1) aM))))))),(gm AU (gT (yA rfl) Au rfl T.d1r Cw (ay (fv 0) (ay (lu (fv 3) (fv 2)) bn))))⟩)
 refine aG ?_;refine bz ?_
 ·exact(aY (fv 2) (ae aq))
theorem Od{g:Addr}{fd:FuncData}(T:Tx K mg)(D:FD K mg "first_day" sM ["zone","hour"] g fd):aA P w K mg base (ba P w) 2 g fd ["zone","hour"] (bf K mg rG):=by
 obtain⟨j,k,d⟩:=T.d0k;have e:=NQ P w base T d;obtain⟨b,a⟩:=T.d1f;refine bF D.fn Nv (by decide) ?_;intro f A c s H E F l h i;unfold wC;refine aG ?_;refine bz ?_
 ·exact(oj (LS (lu (fv 1) (aZ (aW i e d h (au (fv 0) (au (ae aq) aM))))) (ae (ea rfl a))))
theorem Oe{g:Addr}{fd:FuncData}(T:Tx K mg)(D:FD K mg "_law_mixed" tw ["_law_script","_law_k","_law_many"] g fd):aA P w K mg base (ba P w) 2 g fd ["_law_script","_law_k","_law_many"] (bf K mg rH):=by
 obtain⟨h,j,b⟩:=T.d0t;have c:=NT P w base T b;refine bF D.fn Cr (by decide) ?_;intro d A a s H E F k e f;unfold wD;refine aD ?_ ?_
 ·refine bW (i:=3) ?_ ?_ ?_ ?_ ?_ ?_<;>try walk_at "z"
  ·exact Cr.nd
  ·exact(oA (lv (eh (eh (aZ (aW f c b e (bo (pv 0) (au (fv 1) aM)))) (lv (ae aq) (fv 1))) (ae aq)) (ae aq)) (ae aq))
 refine aG ?_;refine bz ?_
 ·exact(oA (oA (eh (eh (lv (fv 3) (fv 3)) (lv (ae aq) (fv 3))) (fv 1)) (ae aq)) (fv 2))
theorem Of{C:Addr}{g:Addr}{fd:FuncData}(T:Tx K mg)(b:et K mg C)(D:MD K C "step_behind_a_fall" "Hall.step_behind_a_fall" tj ["self","runner","moment"] g fd):aA P w K mg base (ba P w) 2 g fd ["self","runner","moment"] (bf K mg (oQ C)):=by
 obtain⟨l,m,e⟩:=b.d2d;have f:=xl P w base T b e;obtain⟨c,a⟩:=T.d1i;refine bF D.fn xj (by decide) ?_;intro h A d s H E F n j k;unfold rJ;refine aD ?_ ?_
 ·refine bW (i:=3) ?_ ?_ ?_ ?_ ?_ ?_<;>try walk_at "z"
  ·exact xj.nd
  ·exact(aY (dk b.cl b.d1x (pv 0)) (ae aq))
 refine aD ?_ ?_
 ·refine bW (i:=4) ?_ ?_ ?_ ?_ ?_ ?_<;>try walk_at "z"
  ·exact xj.nd
  ·exact(vk (cR (cP (aY (aY (dk b.cl b.d1y (pv 0)) (fv 3)) (ae (ea rfl a))))) (ae bS) (ae bS))
 refine aG ?_;refine eF ?_
 ·exact(fz k b.cl f e j (pv 0) (au (cS (ay (fv 2) (ay (fv 1) (ay (fv 4) (ay (fv 3) (ay (aY (dk b.cl b.d1x (pv 0)) (ae aq)) bn)))))) aM))
theorem Og{g:Addr}{fd:FuncData}(T:Tx K mg)(D:FD K mg "are_shifts" so ["thing"] g fd):aA P w K mg base (ba P w) 3 g fd ["thing"] (bf K mg rK):=by
 obtain⟨p,q,j⟩:=T.d00;have l:=kB P w base T j;obtain⟨g1,f1,k⟩:=T.d01;have m:=tO P w base T k;obtain⟨g2,f2,D2⟩:=T.d02;have n:=CA P w base T D2;obtain⟨c,a⟩:=T.d14;obtain⟨d,b⟩:=T.d19;refine bF D.fn tK (by decide) ?_;intro o A f s H E F r e h;unfold wE;refine aD ?_ ?_
 ·refine bI ?_ ?_ ?_
  ·exact(fr (gl (ee (cR (cP (jv (jn rfl T.d1o (fv 0) (iB rfl T.d1v nu rfl)))))) (gW (lx (gm jt (gT ig jo rfl T.d1p PySem.boot_len (ay (fv 0) bn))) (ae (ea rfl b))))))
  ·refine aG ?_;refine bz ?_
   ·exact(ae eI)
  ·exact bL
 refine aD ?_ ?_
 ·refine bW (i:=1) ?_ ?_ ?_ ?_ ?_ ?_<;>try walk_at "z"
  ·exact tK.nd
  ·exact(ae aq)
 refine aD ?_ ?_
 ·refine mD ?_ ?_ ?_ ?_ ?_ ?_<;>try walk_at "z"
  ·exact PassesOwn.leaving
  ·exact(mE (fv 0))
  ·exact(dJ 2 tK.nd)
  ·unfold oR;refine aD ?_ ?_
   ·refine bI ?_ ?_ ?_
    ·exact(fr (gl (ee (cR (cP (aZ (aW h m k e (au (fv 2) (au (ae aq) aM))))))) (gW (ee (cR (cP (aZ (aW h n D2 e (au (aY (fv 2) (ae aq)) aM)))))))))
    ·refine aG ?_;refine bz ?_
     ·exact(ae eI)
    ·exact bL
   refine aD ?_ ?_
   ·refine bI ?_ ?_ ?_
    ·exact(ee (cR (cP (aZ (aW h l j e (au (aY (fv 2) (ae aq)) (au (fv 1) (au (ae (ea rfl a)) aM))))))))
    ·refine aG ?_;refine bz ?_
     ·exact(ae eI)
    ·exact bL
   refine aG ?_;refine bW (i:=1) ?_ ?_ ?_ ?_ ?_ ?_<;>try walk_at "z"
   ·exact tK.nd
   ·exact(eh (aY (fv 2) (ae aq)) (ae aq))
 refine aG ?_;refine bz ?_
 ·exact(ae eI)
theorem CD{g:Addr}{fd:FuncData}(T:Tx K mg)(D:FD K mg "is_plan" sv ["thing"] g fd):aA P w K mg base (ba P w) 3 g fd ["thing"] (bf K mg lJ):=by
 obtain⟨o,p,h⟩:=T.d08;have i:=CC P w base T h;obtain⟨g1,f1,j⟩:=T.d03;have l:=CB P w base T j;obtain⟨g2,f2,D2⟩:=T.d00;have m:=kB P w base T D2;obtain⟨c,a⟩:=T.d16;obtain⟨d,b⟩:=T.d1a;refine bF D.fn Ni (by decide) ?_;intro n A k s H E F q e f;unfold oS;refine aD ?_ ?_
 ·refine bI ?_ ?_ ?_
  ·exact(cR (cP (aZ (aW f i h e (au (fv 0) (au (ae bS) (au (ae aq) aM)))))))
  ·refine aG ?_;refine eF ?_
   ·exact(aW f l j e (au (aY (fv 0) (ae aq)) aM))
  ·exact bL
 refine aD ?_ ?_
 ·refine bI ?_ ?_ ?_
  ·exact(cR (cP (aZ (aW f i h e (au (fv 0) (au (ae bS) (au (ae aq) aM)))))))
  ·refine aG ?_;refine bz ?_
   ·exact(eK (aZ (aW f l j e (au (aY (fv 0) (ae aq)) aM))) (fS (aZ (aW f m D2 e (au (aY (fv 0) (ae aq)) (au (ae aq) (au (ae (ea rfl b)) aM)))))))
  ·exact bL
 refine aG ?_;refine bz ?_
 ·exact(eK (aZ (aW f i h e (au (fv 0) (au (ae bS) (au (ae aq) aM))))) (fS (aZ (aW f m D2 e (au (aY (fv 0) (ae aq)) (au (ae aq) (au (ae (ea rfl a)) aM)))))))
theorem Oh{g:Addr}{fd:FuncData}(T:Tx K mg)(D:FD K mg "is_late" sx ["thing"] g fd):aA P w K mg base (ba P w) 3 g fd ["thing"] (bf K mg ng):=by
 obtain⟨l,m,e⟩:=T.d08;have i:=CC P w base T e;obtain⟨g1,f1,f⟩:=T.d00;have j:=kB P w base T f;obtain⟨b,a⟩:=T.d1c;refine bF D.fn Nj (by decide) ?_;intro k A d s H E F n c h;unfold oU;refine aD ?_ ?_
 ·refine bI ?_ ?_ ?_
  ·exact(cR (cP (jv (jn rfl T.d1o (fv 0) (iB rfl T.d1u Cv rfl)))))
  ·refine aG ?_;refine bz ?_
   ·exact(AS (jA c.units (fv 0) (ae bS)) (fS (jA c.units (fv 0) (ae bS))))
  ·exact bL
 refine aG ?_;refine bz ?_
 ·exact(eK (aZ (aW h i e c (au (fv 0) (au (ae bS) (au (ae aq) aM))))) (fS (aZ (aW h j f c (au (aY (fv 0) (ae aq)) (au (ae aq) (au (ae (ea rfl a)) aM)))))))
theorem Oi{g:Addr}{fd:FuncData}(T:Tx K mg)(D:FD K mg "check_moment" sD ["thing"] g fd):aA P w K mg base (ba P w) 3 g fd ["thing"] (bf K mg rL):=by
 obtain⟨m,n,e⟩:=T.d03;have i:=CB P w base T e;obtain⟨j,k⟩:=T.xt0;obtain⟨b,a,_⟩:=k.at_ (c:="NoMoment") (by decide +kernel);refine bF D.fn No (by decide) ?_;intro l A d s H E F o f h;unfold wF;refine aG ?_;refine bI ?_ ?_ ?_
 ·exact(ee (cR (cP (aZ (aW h i e f (au (fv 0) aM))))))
 ·refine aG ?_;exact(iO h f.hd rfl a)
 ·exact bL
theorem Oj{g:Addr}{fd:FuncData}(T:Tx K mg)(D:FD K mg "check_runner" sG ["thing"] g fd):aA P w K mg base (ba P w) 3 g fd ["thing"] (bf K mg rM):=by
 obtain⟨m,n,e⟩:=T.d04;have i:=NY P w base T e;obtain⟨j,k⟩:=T.xt0;obtain⟨b,a,_⟩:=k.at_ (c:="NoRunner") (by decide +kernel);refine bF D.fn Nr (by decide) ?_;intro l A d s H E F o f h;unfold wG;refine aG ?_;refine bI ?_ ?_ ?_
 ·exact(ee (cR (cP (aZ (aW h i e f (au (fv 0) aM))))))
 ·refine aG ?_;exact(iO h f.hd rfl a)
 ·exact bL
theorem Ol{g:Addr}{fd:FuncData}(T:Tx K mg)(D:FD K mg "check_term" sH ["thing"] g fd):aA P w K mg base (ba P w) 3 g fd ["thing"] (bf K mg rN):=by
 obtain⟨m,n,e⟩:=T.d05;have i:=Oa P w base T e;obtain⟨j,k⟩:=T.xt0;obtain⟨b,a,_⟩:=k.at_ (c:="NoTerm") (by decide +kernel);refine bF D.fn Nt (by decide) ?_;intro l A d s H E F o f h;unfold wH;refine aG ?_;refine bI ?_ ?_ ?_
 ·exact(ee (cR (cP (aZ (aW h i e f (au (fv 0) aM))))))
 ·refine aG ?_;exact(iO h f.hd rfl a)
 ·exact bL
theorem Om{g:Addr}{fd:FuncData}(T:Tx K mg)(D:FD K mg "daily_time" sN ["zone","hour","count"] g fd):aA P w K mg base (ba P w) 3 g fd ["zone","hour","count"] (bf K mg rO):=by
 obtain⟨m,n,d⟩:=T.d0n;have j:=Oc P w base T d;obtain⟨g1,f1,e⟩:=T.d0o;have k:=Od P w base T e;obtain⟨b,a⟩:=T.d1f;refine bF D.fn Cp (by decide) ?_;intro l A c s H E F o f h;unfold wI;refine aD ?_ ?_
 ·refine bW (i:=3) ?_ ?_ ?_ ?_ ?_ ?_<;>try walk_at "z"
  ·exact Cp.nd
  ·exact(eh (aZ (aW h k e f (au (fv 0) (au (fv 1) aM)))) (fv 2))
 refine aG ?_;refine eF ?_
 ·exact(aW h j d f (au (fv 0) (au (eh (lv (fv 3) (ae (ea rfl a))) (fv 1)) aM)))
theorem nv{g:Addr}{fd:FuncData}(T:Tx K mg)(D:FD K mg "_law_draw" tx ["_law_script","_law_town","_law_many"] g fd):aA P w K mg base (ba P w) 3 g fd ["_law_script","_law_town","_law_many"] (bf K mg cU):=by
 obtain⟨h,i,b⟩:=T.d0u;have c:=Oe P w base T b;refine bF D.fn NL (by decide) ?_;intro d A a s H E F j e f;unfold wJ;refine aD ?_ ?_
 ·refine qR ?_ ?_ ?_ ?_ ?_ ?_ ?_ ?_<;>try walk_at "z"
  ·exact(pv 1)
  ·exact(ae aq)
 refine aG ?_;refine eF ?_
 ·exact(aW f c b e (bo (pv 0) (au (Lp rfl T.d1p (pv 1)) (au (fv 2) aM))))
theorem Oo{g:Addr}{fd:FuncData}(T:Tx K mg)(D:FD K mg "is_zone" sr ["thing"] g fd):aA P w K mg base (ba P w) 4 g fd ["thing"] (bf K mg rP):=by
 obtain⟨k,l,d⟩:=T.d01;have f:=tO P w base T d;obtain⟨g1,f1,e⟩:=T.d02;have h:=CA P w base T e;obtain⟨g2,f2,D2⟩:=T.d06;have i:=Og P w base T D2;refine bF D.fn Ng (by decide) ?_;intro j A b s H E F m a c;unfold wK;refine aG ?_;refine bz ?_
 ·exact(eK (aZ (aW c f d a (au (fv 0) (au (ae aq) aM)))) (eK (aZ (aW c h e a (au (aY (fv 0) (ae aq)) aM))) (fS (aZ (aW c i D2 a (au (aY (fv 0) (ae aq)) aM))))))
theorem Op{g:Addr}{fd:FuncData}(T:Tx K mg)(D:FD K mg "is_deed" sy ["thing"] g fd):aA P w K mg base (ba P w) 4 g fd ["thing"] (bf K mg rQ):=by
 obtain⟨k,l,d⟩:=T.d01;have f:=tO P w base T d;obtain⟨g1,f1,e⟩:=T.d09;have h:=CD P w base T e;obtain⟨g2,f2,D2⟩:=T.d0a;have i:=Oh P w base T D2;refine bF D.fn Nk (by decide) ?_;intro j A b s H E F m a c;unfold wL;refine aG ?_;refine bz ?_
 ·exact(eK (aZ (aW c f d a (au (fv 0) (au (ae aq) aM)))) (eK (aZ (aW c h e a (au (aY (fv 0) (ae aq)) aM))) (eK (aZ (aW c i D2 a (au (aY (fv 0) (ae aq)) aM))) (fS (jv (jn rfl T.d1o (aY (fv 0) (ae aq)) (iB rfl T.d1l Cu rfl)))))))
theorem Oq{g:Addr}{fd:FuncData}(T:Tx K mg)(D:FD K mg "check_plan" sC ["thing"] g fd):aA P w K mg base (ba P w) 4 g fd ["thing"] (bf K mg rR):=by
 obtain⟨m,n,e⟩:=T.d09;have i:=CD P w base T e;obtain⟨j,k⟩:=T.xt0;obtain⟨b,a,_⟩:=k.at_ (c:="NoPlan") (by decide +kernel);refine bF D.fn Nn (by decide) ?_;intro l A d s H E F o f h;unfold wM;refine aG ?_;refine bI ?_ ?_ ?_
 ·exact(ee (cR (cP (aZ (aW h i e f (au (fv 0) aM))))))
 ·refine aG ?_;exact(iO h f.hd rfl a)
 ·exact bL
theorem xm{g:Addr}{fd:FuncData}(T:Tx K mg)(D:FD K mg "time_of" sO ["zone","plan","count"] g fd):aA P w K mg base (ba P w) 4 g fd ["zone","plan","count"] (bf K mg gG):=by
 obtain⟨h,i,c⟩:=T.d0p;have d:=Om P w base T c;refine bF D.fn Nw (by decide) ?_;intro e A b s H E F j a f;unfold nh;refine aD ?_ ?_
 ·refine bI ?_ ?_ ?_
  ·exact(fu a.units (aY (fv 1) (ae aq)) (ae bS))
  ·refine aG ?_;refine bz ?_
   ·exact(vk (fu a.units (fv 2) (ae aq)) (aY (fv 1) (ae aq)) (ae dS))
  ·exact bL
 refine aD ?_ ?_
 ·refine bI ?_ ?_ ?_
  ·exact(fu a.units (aY (fv 1) (ae aq)) (ae bS))
  ·refine aG ?_;refine bz ?_
   ·exact(eh (aY (fv 1) (ae aq)) (lv (fv 2) (aY (fv 1) (ae aq))))
  ·exact bL
 refine aG ?_;refine eF ?_
 ·exact(aW f d c a (au (fv 0) (au (aY (fv 1) (ae aq)) (au (fv 2) aM))))
theorem pq{g:Addr}{fd:FuncData}(T:Tx K mg)(D:FD K mg "_law_pick" tz ["_law_script","_law_town","_law_some"] g fd):aA P w K mg base (ba P w) 4 g fd ["_law_script","_law_town","_law_some"] (bf K mg fX):=by
 obtain⟨h,i,b⟩:=T.d0v;have c:=nv P w base T b;refine bF D.fn NM (by decide) ?_;intro d A a s H E F j e f;unfold wN;refine aG ?_;refine bz ?_
 ·exact(aY (fv 2) (aZ (aW f c b e (bo (pv 0) (bo (pv 1) (au (gm jt (gT ig jo rfl T.d1p PySem.boot_len (ay (fv 2) bn))) aM))))))
theorem CF{C:Addr}{g:Addr}{fd:FuncData}(T:Tx K mg)(d:et K mg C)(D:MD K C "check_call" "Hall.check_call" sT ["self","runner","moment"] g fd):aA P w K mg base (ba P w) 4 g fd ["self","runner","moment"] (bf K mg (ir C)):=by
 obtain⟨p,q,i⟩:=T.d0i;have k:=Oj P w base T i;obtain⟨g1,f1,j⟩:=T.d0f;have l:=Oi P w base T j;obtain⟨m,n⟩:=T.xt0;obtain⟨b,a,_⟩:=n.at_ (c:="NoMoment") (by decide +kernel);refine bF D.fn NA (by decide) ?_;intro o A f s H E F r e h;unfold rS;refine aD ?_ ?_
 ·refine gD ?_ ?_
  ·exact(aW h k i e (au (fv 1) aM))
  ·rfl
 refine aD ?_ ?_
 ·refine gD ?_ ?_
  ·exact(aW h l j e (au (fv 2) aM))
  ·rfl
 refine aG ?_;refine bI ?_ ?_ ?_
 ·exact(fr (qH (oB (dk d.cl d.d21 (pv 0)) (ae dS)) (qG (qZ (fv 2) (dk d.cl d.d21 (pv 0))))))
 ·refine aG ?_;exact(iO h e.hd rfl a)
 ·exact bL
theorem Ot{g:Addr}{fd:FuncData}(T:Tx K mg)(D:FD K mg "are_deeds" sA ["thing"] g fd):aA P w K mg base (ba P w) 5 g fd ["thing"] (bf K mg wP):=by
 obtain⟨k,l,d⟩:=T.d0b;have e:=Op P w base T d;obtain⟨b,a⟩:=T.d1b;refine bF D.fn Nl (by decide) ?_;intro f A c s H E F m h j;unfold wO;refine aD ?_ ?_
 ·refine bI ?_ ?_ ?_
  ·exact(fr (gl (ee (cR (cP (jv (jn rfl T.d1o (fv 0) (iB rfl T.d1v nu rfl)))))) (gW (lx (gm jt (gT ig jo rfl T.d1p PySem.boot_len (ay (fv 0) bn))) (ae (ea rfl a))))))
  ·refine aG ?_;refine bz ?_
   ·exact(ae eI)
  ·exact bL
 refine aG ?_;refine bz ?_
 ·exact(gm Lc (gT (Kj rfl) Kk rfl T.d1k NO (ay (vo j.1 (az.of (own:=["deed"]) (capN:=[]) (caps:=[])) rfl rfl (mE (fv 0)) (fun _ _ _ _ _ _ i=>⟨(dJ 0 (show((["deed"]:List Str)++([]:List Str)).Nodup from by decide +kernel)),oq,(aZ (aW (lP i) e d h (au (fv 0) aM)))⟩)) bn)))
theorem CG{g:Addr}{fd:FuncData}(T:Tx K mg)(D:FD K mg "check_zone" sB ["thing"] g fd):aA P w K mg base (ba P w) 5 g fd ["thing"] (bf K mg ni):=by
 obtain⟨m,n,e⟩:=T.d07;have i:=Oo P w base T e;obtain⟨j,k⟩:=T.xt0;obtain⟨b,a,_⟩:=k.at_ (c:="NoZone") (by decide +kernel);refine bF D.fn Nm (by decide) ?_;intro l A d s H E F o f h;unfold wQ;refine aG ?_;refine bI ?_ ?_ ?_
 ·exact(ee (cR (cP (aZ (aW h i e f (au (fv 0) aM))))))
 ·refine aG ?_;exact(iO h f.hd rfl a)
 ·exact bL
theorem Ou{g:Addr}{fd:FuncData}(T:Tx K mg)(D:FD K mg "is_left_out" sQ ["zone","deed","count","now"] g fd):aA P w K mg base (ba P w) 5 g fd ["zone","deed","count","now"] (bf K mg lK):=by
 obtain⟨m,n,f⟩:=T.d0q;have j:=xm P w base T f;obtain⟨c,b⟩:=T.d1g;obtain⟨d,a⟩:=T.d1h;refine bF D.fn Cq (by decide) ?_;intro l A h s H E F o e k;unfold nj;refine aD ?_ ?_
 ·refine bI ?_ ?_ ?_
  ·exact(fu e.units (aY (fv 1) (ae (ea rfl a))) (ae bS))
  ·refine aG ?_;refine bz ?_
   ·exact(ae eI)
  ·exact bL
 refine aD ?_ ?_
 ·refine bI ?_ ?_ ?_
  ·exact(fu e.units (aY (fv 1) (ae (ea rfl a))) (ae bS))
  ·refine aD ?_ ?_
   ·refine bW (i:=4) ?_ ?_ ?_ ?_ ?_ ?_<;>try walk_at "z"
    ·exact Cq.nd
    ·exact(aZ (aW k j f e (au (fv 0) (au (aY (fv 1) (ae (ea rfl b))) (au (eh (fv 2) (ae aq)) aM)))))
   refine aG ?_;refine bz ?_
   ·exact(eK (ra (fv 4) (ae dS)) (fS (LV (fv 4) (fv 3))))
  ·exact bL
 refine aG ?_;refine bz ?_
 ·exact(LW (lu (fv 3) (aZ (aW k j f e (au (fv 0) (au (aY (fv 1) (ae (ea rfl b))) (au (fv 2) aM)))))) (aY (aY (fv 1) (ae (ea rfl a))) (ae aq)))
theorem Ov{g:Addr}{fd:FuncData}(T:Tx K mg)(D:FD K mg "_law_zone" tD ["_law_script","_law_town"] g fd):aA P w K mg base (ba P w) 5 g fd ["_law_script","_law_town"] (bf K mg oW):=by
 obtain⟨k,l,c⟩:=T.d0v;have d:=nv P w base T c;obtain⟨g1,f1,f⟩:=T.d0w;have h:=pq P w base T f;refine bF D.fn nt (by decide) ?_;intro j A e s H E F m a b;unfold rV;refine aD ?_ ?_
 ·refine lh (i:=2) ?_ ?_ ?_ ?_ ?_ ?_<;>try walk_at "z"
  ·exact nt.nd
  ·exact(ot bn)
 refine aD ?_ ?_
 ·refine bW (i:=3) ?_ ?_ ?_ ?_ ?_ ?_<;>try walk_at "z"
  ·exact nt.nd
  ·exact(ae aq)
 refine aD ?_ ?_
 ·refine mD ?_ ?_ ?_ ?_ ?_ ?_<;>try walk_at "z"
  ·exact PassesOwn.leaving
  ·exact(qQ (qD rfl T.d1t (ay (aZ (aW b d c a (bo (pv 0) (bo (pv 1) (au (ae aq) aM))))) bn)))
  ·exact(dJ 4 nt.nd)
  ·unfold oV;refine aD ?_ ?_
   ·refine bW (i:=3) ?_ ?_ ?_ ?_ ?_ ?_<;>try walk_at "z"
    ·exact nt.nd
    ·exact(eh (eh (fv 3) (ae aq)) (aZ (aW b d c a (bo (pv 0) (bo (pv 1) (au (aZ (aW b h f a (bo (pv 0) (bo (pv 1) (au (ft (ay (ae aq) (ay (ae aq) (ay (ae aq) bn)))) aM))))) aM))))))
   refine aG ?_;refine qR ?_ ?_ ?_ ?_ ?_ ?_ ?_ ?_<;>try walk_at "z"
   ·exact(pv 2)
   ·exact(cS (ay (fv 3) (ay (lu (aZ (aW b d c a (bo (pv 0) (bo (pv 1) (au (ae aq) aM))))) (ae aq)) bn)))
 refine aD ?_ ?_
 ·refine bI ?_ ?_ ?_
  ·exact(fu a.units (aZ (aW b d c a (bo (pv 0) (bo (pv 1) (au (ae aq) aM))))) (ae aq))
  ·refine aG ?_;refine Bh (i:=2) (own:=["_law_k","_law_one","_law_more"]) (capN:=[]) (caps:=[]) ?_ ?_ ?_ ?_ ?_ ?_ ?_ ?_ ?_ ?_ ?_ ?_<;>try walk_at "z"
   ·exact nt.nd
   ·exact b.1
   ·exact(az.of (own:=["_law_k","_law_one","_law_more"]) (capN:=[]) (caps:=[]))
   ·exact(Lk (JY rfl T.d1m (ay (fv 2) bn)))
   ·exact(fun _ _ _ _ _ _ o=>⟨(on (n:=2) rfl (fT (dJ 0 (show((["_law_k","_law_one","_law_more"]:List Str)++([]:List Str)).Nodup from by decide +kernel)) (fT (on (n:=2) rfl (fT (dJ 1 (show((["_law_k","_law_one","_law_more"]:List Str)++([]:List Str)).Nodup from by decide +kernel)) (fT (dJ 2 (show((["_law_k","_law_one","_law_more"]:List Str)++([]:List Str)).Nodup from by decide +kernel)) om))) om))),oq,(cS (ay (fv 1) (ay (eh (ae aq) (oA (fv 0) (ae aq))) bn)))⟩)
  ·exact bL
 refine aG ?_;refine bz ?_
 ·exact(cS (ay (lu (aZ (aW b d c a (bo (pv 0) (bo (pv 1) (au (ae aq) aM))))) (ae aq)) (ay (gm AV (Ac ze Aw rfl T.d1v nu (ay (fv 2) bn))) bn)))
theorem Ow{g:Addr}{fd:FuncData}(T:Tx K mg)(D:FD K mg "_law_plan" tE ["_law_script","_law_town"] g fd):aA P w K mg base (ba P w) 5 g fd ["_law_script","_law_town"] (bf K mg nk):=by
 obtain⟨k,l,c⟩:=T.d0v;have d:=nv P w base T c;obtain⟨g1,f1,e⟩:=T.d0w;have h:=pq P w base T e;refine bF D.fn xk (by decide) ?_;intro j A f s H E F m a b;unfold oX;refine aD ?_ ?_
 ·refine bW (i:=2) ?_ ?_ ?_ ?_ ?_ ?_<;>try walk_at "z"
  ·exact xk.nd
  ·exact(aZ (aW b d c a (bo (pv 0) (bo (pv 1) (au (ae aq) aM)))))
 refine aD ?_ ?_
 ·refine bI ?_ ?_ ?_
  ·exact(fu a.units (fv 2) (ae aq))
  ·refine aG ?_;refine bz ?_
   ·exact(cS (ay (ae bS) (ay (aZ (aW b d c a (bo (pv 0) (bo (pv 1) (au (aZ (aW b h e a (bo (pv 0) (bo (pv 1) (au (ft (ay (ae aq) (ay (ae aq) (ay (ae aq) bn)))) aM))))) aM))))) bn)))
  ·exact bL
 refine aD ?_ ?_
 ·refine bI ?_ ?_ ?_
  ·exact(qZ (fv 2) (ae aq))
  ·refine aD ?_ ?_
   ·refine bW (i:=3) ?_ ?_ ?_ ?_ ?_ ?_<;>try walk_at "z"
    ·exact xk.nd
    ·exact(eh (ae aq) (aZ (aW b d c a (bo (pv 0) (bo (pv 1) (au (aZ (aW b h e a (bo (pv 0) (bo (pv 1) (au (ft (ay (ae aq) (ay (ae aq) (ay (ae aq) bn)))) aM))))) aM))))))
   refine aG ?_;refine bz ?_
   ·exact(cS (ay (ae bS) (ay (aZ (aW b d c a (bo (pv 0) (bo (pv 1) (au (ae aq) aM))))) (ay (fv 3) bn))))
  ·exact bL
 refine aG ?_;refine bz ?_
 ·exact(cS (ay (ae bS) (ay (aZ (aW b d c a (bo (pv 0) (bo (pv 1) (au (ae aq) aM))))) bn)))
theorem Ox{g:Addr}{fd:FuncData}(T:Tx K mg)(D:FD K mg "_law_call" tG ["_law_script","_law_town","_law_now","_law_holder"] g fd):aA P w K mg base (ba P w) 5 g fd ["_law_script","_law_town","_law_now","_law_holder"] (bf K mg lL):=by
 obtain⟨k,l,c⟩:=T.d0v;have d:=nv P w base T c;obtain⟨g1,f1,e⟩:=T.d0w;have h:=pq P w base T e;refine bF D.fn pp (by decide) ?_;intro j A f s H E F m a b;unfold Ck;refine aD ?_ ?_
 ·refine bW (i:=4) ?_ ?_ ?_ ?_ ?_ ?_<;>try walk_at "z"
  ·exact pp.nd
  ·exact(aZ (aW b d c a (bo (pv 0) (bo (pv 1) (au (ae aq) aM)))))
 refine aD ?_ ?_
 ·refine bI ?_ ?_ ?_
  ·exact(fr (qH (oB (fv 3) (ae dS)) (qG (lx (aZ (aW b d c a (bo (pv 0) (bo (pv 1) (au (ae aq) aM))))) (ae aq)))))
  ·refine aG ?_;refine bW (i:=4) ?_ ?_ ?_ ?_ ?_ ?_<;>try walk_at "z"
   ·exact pp.nd
   ·exact(fv 3)
  ·exact bL
 refine aD ?_ ?_
 ·refine bW (i:=5) ?_ ?_ ?_ ?_ ?_ ?_<;>try walk_at "z"
  ·exact pp.nd
  ·exact(eh (fv 2) (aZ (aW b h e a (bo (pv 0) (bo (pv 1) (au (ft (ay (ae aq) (ay (ae aq) (ay (ae aq) (ay (ae aq) (ay (ae aq) (ay (aZ (aW b d c a (bo (pv 0) (bo (pv 1) (au (ae aq) aM))))) bn))))))) aM))))))
 refine aD ?_ ?_
 ·refine bW (i:=6) ?_ ?_ ?_ ?_ ?_ ?_<;>try walk_at "z"
  ·exact pp.nd
  ·exact(aZ (aW b d c a (bo (pv 0) (bo (pv 1) (au (ae aq) aM)))))
 refine aD ?_ ?_
 ·refine bI ?_ ?_ ?_
  ·exact(fr (gl (BJ (fv 3) (ae dS)) (gW (qZ (fv 6) (ae aq)))))
  ·refine aG ?_;refine bz ?_
   ·exact(cS (ay (ae bS) (ay (fv 4) (ay (fv 5) (ay (eh (ae aq) (aZ (aW b d c a (bo (pv 0) (bo (pv 1) (au (aZ (aW b h e a (bo (pv 0) (bo (pv 1) (au (ft (ay (ae aq) (ay (ae aq) bn))) aM))))) aM)))))) bn)))))
  ·exact bL
 refine aD ?_ ?_
 ·refine bI ?_ ?_ ?_
  ·exact(fu a.units (fv 6) (ae aq))
  ·refine aG ?_;refine bz ?_
   ·exact(cS (ay (ae bS) (ay (fv 4) (ay (fv 5) bn))))
  ·exact bL
 refine aG ?_;refine bz ?_
 ·exact(aY (LU (ft (ay (cS (ay (ae bS) (ay (fv 4) (ay (fv 5) bn)))) (ay (cS (ay (ae bS) (ay (fv 4) (ay (fv 5) bn)))) bn))) (ae aq)) (lu (fv 6) (ae aq)))
theorem xn{C:Addr}{g:Addr}{fd:FuncData}(T:Tx K mg)(d:et K mg C)(D:MD K C "check_holder" "Hall.check_holder" sU ["self","runner","moment"] g fd):aA P w K mg base (ba P w) 5 g fd ["self","runner","moment"] (bf K mg (eM C)):=by
 obtain⟨p,q,i⟩:=d.d29;have k:=CF P w base T d i;obtain⟨g1,f1,j⟩:=d.d28;have l:=Cy P w base T d j;obtain⟨m,n⟩:=T.xt0;obtain⟨b,a,_⟩:=n.at_ (c:="NotHolder") (by decide +kernel);refine bF D.fn NB (by decide) ?_;intro o A f s H E F r e h;unfold oY;refine aD ?_ ?_
 ·refine gD ?_ ?_
  ·exact(fz h d.cl k i e (pv 0) (au (fv 1) (au (fv 2) aM)))
  ·rfl
 refine aG ?_;refine bI ?_ ?_ ?_
 ·exact(fr (gl (ee (cR (cP (aZ (fz h d.cl l j e (pv 0) (au (fv 2) aM)))))) (gW (kj e.units (dk d.cl d.d1z (pv 0)) (fv 1)))))
 ·refine aG ?_;exact(iO h e.hd rfl a)
 ·exact bL
theorem Oy{C:Addr}{g:Addr}{fd:FuncData}(T:Tx K mg)(a:et K mg C)(D:MD K C "take" "Hall.take" sV ["self","runner","moment","term"] g fd):aA P w K mg base (ba P w) 5 g fd ["self","runner","moment","term"] (bf K mg (lM C)):=by
 obtain⟨l,m,e⟩:=a.d29;have h:=CF P w base T a e;obtain⟨g1,f1,f⟩:=T.d0j;have i:=Ol P w base T f;obtain⟨g2,f2,D2⟩:=a.d28;have j:=Cy P w base T a D2;refine bF D.fn NC (by decide) ?_;intro k A c s H E F n b d;unfold oZ;refine aD ?_ ?_
 ·refine gD ?_ ?_
  ·exact(fz d a.cl h e b (pv 0) (au (fv 1) (au (fv 2) aM)))
  ·rfl
 refine aD ?_ ?_
 ·refine gD ?_ ?_
  ·exact(aW d i f b (au (fv 3) aM))
  ·rfl
 refine aD ?_ ?_
 ·refine fy ?_ ?_ ?_ ?_ ?_
  ·exact a.cl
  ·exact a.d21
  ·exact(pv 0)
  ·exact(fv 2)
  ·rfl
 refine aD ?_ ?_
 ·refine bI ?_ ?_ ?_
  ·exact(ee (cR (cP (aZ (fz d a.cl j D2 b (pv 0) (au (fv 2) aM))))))
  ·refine aG ?_;refine Ml ?_ ?_ ?_ ?_
   ·exact a.cl
   ·exact a.d20
   ·exact(pv 0)
   ·exact ug
  ·refine aG ?_;refine bI ?_ ?_ ?_
   ·exact(kj b.units (dk a.cl a.d1z (pv 0)) (fv 1))
   ·refine aG ?_;refine bz ?_
    ·exact(ae eI)
   ·exact bL
 refine aD ?_ ?_
 ·refine fy ?_ ?_ ?_ ?_ ?_
  ·exact a.cl
  ·exact a.d1z
  ·exact(pv 0)
  ·exact(fv 1)
  ·rfl
 refine aD ?_ ?_
 ·refine fy ?_ ?_ ?_ ?_ ?_
  ·exact a.cl
  ·exact a.d24
  ·exact(pv 0)
  ·exact(eh (fv 2) (fv 3))
  ·rfl
 refine aG ?_;refine bz ?_
 ·exact(ae eI)
theorem Oz{C:Addr}{g:Addr}{fd:FuncData}(T:Tx K mg)(b:et K mg C)(D:MD K C "first_unsettled" "Hall.first_unsettled" sZ ["self"] g fd):aA P w K mg base (ba P w) 5 g fd ["self"] (bf K mg (wS C)):=by
 obtain⟨l,m,e⟩:=T.d0q;have h:=xm P w base T e;obtain⟨c,a⟩:=T.d1g;refine bF D.fn pf (by decide) ?_;intro j A d s H E F n f k;unfold Cm;refine aD ?_ ?_
 ·refine lh (i:=1) ?_ ?_ ?_ ?_ ?_ ?_<;>try walk_at "z"
  ·exact pf.nd
  ·exact(ot bn)
 refine aD ?_ ?_
 ·refine mD ?_ ?_ ?_ ?_ ?_ ?_<;>try walk_at "z"
  ·exact PassesOwn.leaving
  ·exact(qQ (qD rfl T.d1t (ay (gm jt (gT ig jo rfl T.d1p PySem.boot_len (ay (dk b.cl b.d1y (pv 0)) bn))) bn)))
  ·exact(dJ 2 pf.nd)
  ·unfold ky;refine aD ?_ ?_
   ·refine bW (i:=3) ?_ ?_ ?_ ?_ ?_ ?_<;>try walk_at "z"
    ·exact pf.nd
    ·exact(Mi b.cl b.d23 (pv 0) (pv 2))
   refine aD ?_ ?_
   ·refine bW (i:=4) ?_ ?_ ?_ ?_ ?_ ?_<;>try walk_at "z"
    ·exact pf.nd
    ·exact(aZ (aW k h e f (au (dk b.cl b.d26 (pv 0)) (au (aY (aY (dk b.cl b.d1y (pv 0)) (fv 2)) (ae (ea rfl a))) (au (fv 3) aM)))))
   refine aG ?_;refine bI ?_ ?_ ?_
   ·exact(oB (fv 4) (ae dS))
   ·refine aG ?_;refine qR ?_ ?_ ?_ ?_ ?_ ?_ ?_ ?_<;>try walk_at "z"
    ·exact(pv 1)
    ·exact(cS (ay (fv 4) (ay (fv 2) (ay (fv 3) bn))))
   ·exact bL
 refine aG ?_;refine bz ?_
 ·exact(Mz (gQ f) rfl rfl T.d1s (pv 1))
theorem OA{g:Addr}{fd:FuncData}(T:Tx K mg)(D:FD K mg "check_deeds" sF ["thing"] g fd):aA P w K mg base (ba P w) 6 g fd ["thing"] (bf K mg pb):=by
 obtain⟨m,n,e⟩:=T.d0c;have i:=Ot P w base T e;obtain⟨j,k⟩:=T.xt0;obtain⟨b,a,_⟩:=k.at_ (c:="NoDeeds") (by decide +kernel);refine bF D.fn Nq (by decide) ?_;intro l A d s H E F o f h;unfold wT;refine aG ?_;refine bI ?_ ?_ ?_
 ·exact(ee (cR (cP (aZ (aW h i e f (au (fv 0) aM))))))
 ·refine aG ?_;exact(iO h f.hd rfl a)
 ·exact bL
theorem OB{g:Addr}{fd:FuncData}(T:Tx K mg)(D:FD K mg "due" sP ["zone","plan","count"] g fd):aA P w K mg base (ba P w) 6 g fd ["zone","plan","count"] (bf K mg lN):=by
 obtain⟨m,n,d⟩:=T.d0d;have h:=CG P w base T d;obtain⟨g1,f1,e⟩:=T.d0e;have i:=Oq P w base T e;obtain⟨g2,f2,D2⟩:=T.d0g;have j:=Ob P w base T D2;obtain⟨g3,o,f⟩:=T.d0q;have k:=xm P w base T f;refine bF D.fn Nx (by decide) ?_;intro l A c s H E F p a b;unfold wU;refine aD ?_ ?_
 ·refine gD ?_ ?_
  ·exact(aW b h d a (au (fv 0) aM))
  ·rfl
 refine aD ?_ ?_
 ·refine gD ?_ ?_
  ·exact(aW b i e a (au (fv 1) aM))
  ·rfl
 refine aD ?_ ?_
 ·refine gD ?_ ?_
  ·exact(aW b j D2 a (au (fv 2) aM))
  ·rfl
 refine aG ?_;refine eF ?_
 ·exact(aW b k f a (au (fv 0) (au (fv 1) (au (fv 2) aM))))
theorem OC{g:Addr}{fd:FuncData}(T:Tx K mg)(D:FD K mg "_law_deeds" tF ["_law_script","_law_town"] g fd):aA P w K mg base (ba P w) 6 g fd ["_law_script","_law_town"] (bf K mg rW):=by
 obtain⟨l,m,c⟩:=T.d0v;have e:=nv P w base T c;obtain⟨g1,f1,d⟩:=T.d0w;have f:=pq P w base T d;obtain⟨g2,f2,D2⟩:=T.d0y;have j:=Ow P w base T D2;refine bF D.fn pk (by decide) ?_;intro k A h s H E F n a b;unfold wV;refine aD ?_ ?_
 ·refine lh (i:=2) ?_ ?_ ?_ ?_ ?_ ?_<;>try walk_at "z"
  ·exact pk.nd
  ·exact(ot bn)
 refine aD ?_ ?_
 ·refine mD ?_ ?_ ?_ ?_ ?_ ?_<;>try walk_at "z"
  ·exact PassesOwn.leaving
  ·exact(qQ (qD rfl T.d1t (ay (aZ (aW b e c a (bo (pv 0) (bo (pv 1) (au (aZ (aW b f d a (bo (pv 0) (bo (pv 1) (au (ft (ay (ae aq) (ay (ae aq) (ay (ae aq) bn)))) aM))))) aM))))) bn)))
  ·exact(dJ 3 pk.nd)
  ·unfold pc;refine aD ?_ ?_
   ·refine bW (i:=4) ?_ ?_ ?_ ?_ ?_ ?_<;>try walk_at "z"
    ·exact pk.nd
    ·exact(aZ (aW b e c a (bo (pv 0) (bo (pv 1) (au (aZ (aW b f d a (bo (pv 0) (bo (pv 1) (au (ft (ay (ae aq) (ay (ae aq) (ay (ae aq) bn)))) aM))))) aM)))))
   refine aD ?_ ?_
   ·refine bW (i:=5) ?_ ?_ ?_ ?_ ?_ ?_<;>try walk_at "z"
    ·exact pk.nd
    ·exact(aZ (aW b f d a (bo (pv 0) (bo (pv 1) (au (ft (ay (ae bS) (ay (ae bS) (ay (cS (ay (ae bS) (ay (fv 4) bn))) bn)))) aM)))))
   refine aG ?_;refine qR ?_ ?_ ?_ ?_ ?_ ?_ ?_ ?_<;>try walk_at "z"
   ·exact(pv 2)
   ·exact(cS (ay (aZ (aW b j D2 a (bo (pv 0) (bo (pv 1) aM)))) (ay (fv 5) (ay (jA a.units (aZ (aW b e c a (bo (pv 0) (bo (pv 1) (au (ae aq) aM))))) (ae aq)) bn))))
 refine aG ?_;refine bz ?_
 ·exact(gm AV (Ac ze Aw rfl T.d1v nu (ay (fv 2) bn)))
theorem OD{C:Addr}{g:Addr}{fd:FuncData}(T:Tx K mg)(a:et K mg C)(D:MD K C "give" "Hall.give" sW ["self","runner","moment"] g fd):aA P w K mg base (ba P w) 6 g fd ["self","runner","moment"] (bf K mg (kz C)):=by
 obtain⟨i,j,c⟩:=a.d2a;have d:=xn P w base T a c;refine bF D.fn ND (by decide) ?_;intro e A b s H E F k f h;unfold rX;refine aD ?_ ?_
 ·refine gD ?_ ?_
  ·exact(fz h a.cl d c f (pv 0) (au (fv 1) (au (fv 2) aM)))
  ·rfl
 refine aD ?_ ?_
 ·refine fy ?_ ?_ ?_ ?_ ?_
  ·exact a.cl
  ·exact a.d21
  ·exact(pv 0)
  ·exact(fv 2)
  ·rfl
 refine aG ?_;refine fy ?_ ?_ ?_ ?_ ?_
 ·exact a.cl
 ·exact a.d1z
 ·exact(pv 0)
 ·exact(ae dS)
 ·rfl
theorem OE{C:Addr}{g:Addr}{fd:FuncData}(T:Tx K mg)(a:et K mg C)(D:MD K C "step_ahead" "Hall.step_ahead" tm ["self","runner","moment"] g fd):aA P w K mg base (ba P w) 6 g fd ["self","runner","moment"] (bf K mg (lO C)):=by
 obtain⟨m,n,e⟩:=a.d2f;have h:=Oz P w base T a e;obtain⟨g1,f1,f⟩:=a.d2d;have j:=xl P w base T a f;obtain⟨g2,f2,D2⟩:=T.d0s;have k:=Ou P w base T D2;refine bF D.fn ph (by decide) ?_;intro l A c s H E F o b d;unfold nn;refine aD ?_ ?_
 ·refine bW (i:=3) ?_ ?_ ?_ ?_ ?_ ?_<;>try walk_at "z"
  ·exact ph.nd
  ·exact(aZ (gF d a.cl h e b (pv 0)))
 refine aD ?_ ?_
 ·refine bI ?_ ?_ ?_
  ·exact(BJ (fv 3) (ae dS))
  ·refine aG ?_;refine bz ?_
   ·exact(cS (ay (ae bS) (ay (ae dS) bn)))
  ·exact bL
 refine aD ?_ ?_
 ·refine bI ?_ ?_ ?_
  ·exact(lx (aY (fv 3) (ae aq)) (fv 2))
  ·refine aG ?_;refine bz ?_
   ·exact(cS (ay (ae bS) (ay (aY (fv 3) (ae aq)) bn)))
  ·exact bL
 refine aD ?_ ?_
 ·refine bW (i:=4) ?_ ?_ ?_ ?_ ?_ ?_<;>try walk_at "z"
  ·exact ph.nd
  ·exact(aY (fv 3) (ae aq))
 refine aD ?_ ?_
 ·refine bW (i:=5) ?_ ?_ ?_ ?_ ?_ ?_<;>try walk_at "z"
  ·exact ph.nd
  ·exact(aY (fv 3) (ae aq))
 refine aD ?_ ?_
 ·refine bW (i:=6) ?_ ?_ ?_ ?_ ?_ ?_<;>try walk_at "z"
  ·exact ph.nd
  ·exact(vk (cR (cP (aZ (aW d k D2 b (au (dk a.cl a.d26 (pv 0)) (au (aY (dk a.cl a.d1y (pv 0)) (fv 4)) (au (fv 5) (au (fv 2) aM)))))))) (ae bS) (ae bS))
 refine aG ?_;refine eF ?_
 ·exact(fz d a.cl j f b (pv 0) (au (cS (ay (fv 2) (ay (fv 1) (ay (fv 6) (ay (fv 4) (ay (fv 5) bn)))))) aM))
theorem OF{C:Addr}{g:Addr}{fd:FuncData}(T:Tx K mg)(a:et K mg C)(D:MD K C "finish" "Hall.finish" tp ["self","runner","moment"] g fd):aA P w K mg base (ba P w) 6 g fd ["self","runner","moment"] (bf K mg (iS C)):=by
 obtain⟨q,r,i⟩:=a.d2a;have k:=xn P w base T a i;obtain⟨g1,f1,j⟩:=a.d2d;have l:=xl P w base T a j;obtain⟨g2,f2,D2⟩:=a.d2e;have m:=Cz P w base T a D2;obtain⟨n,o⟩:=T.xt0;obtain⟨d,b,_⟩:=o.at_ (c:="Nothing") (by decide +kernel);refine bF D.fn NG (by decide) ?_;intro p A h s H E F t e f;unfold pd;refine aD ?_ ?_
 ·refine gD ?_ ?_
  ·exact(fz f a.cl k i e (pv 0) (au (fv 1) (au (fv 2) aM)))
  ·rfl
 refine aD ?_ ?_
 ·refine bI ?_ ?_ ?_
  ·exact(ee (cR (cP (aZ (gF f a.cl m D2 e (pv 0))))))
  ·refine aG ?_;exact(iO f e.hd rfl b)
  ·exact bL
 refine aD ?_ ?_
 ·refine fy ?_ ?_ ?_ ?_ ?_
  ·exact a.cl
  ·exact a.d21
  ·exact(pv 0)
  ·exact(fv 2)
  ·rfl
 refine aG ?_;refine eF ?_
 ·exact(fz f a.cl l j e (pv 0) (au (cS (ay (fv 2) (ay (fv 1) (ay (ae bS) (ay (aY (dk a.cl a.d1x (pv 0)) (ae aq)) (ay (aY (dk a.cl a.d1x (pv 0)) (ae aq)) bn)))))) aM))
theorem OG{g:Addr}{fd:FuncData}(T:Tx K mg)(D:FD K mg "_law_row_right" tJ ["_law_row","_law_hold","_law_zone_here","_law_deeds_here","_law_state"] g fd):aA P w K mg base (ba P w) 7 g fd ["_law_row","_law_hold","_law_zone_here","_law_deeds_here","_law_state"] (bf K mg gu):=by
 obtain⟨h,j,c⟩:=T.d0r;have d:=OB P w base T c;refine bF D.fn iV (by decide) ?_;intro e A b s H E F k a f;unfold rY;refine aD ?_ ?_
 ·refine Bc ?_ ?_ ?_ ?_ ?_<;>try walk_at "z"
  ·exact(fv 0)
  ·exact(on (n:=5) rfl (fT (dJ 5 iV.nd) (fT (dJ 6 iV.nd) (fT (dJ 7 iV.nd) (fT (dJ 8 iV.nd) (fT (dJ 9 iV.nd) om))))))
 refine aD ?_ ?_
 ·refine Bc ?_ ?_ ?_ ?_ ?_<;>try walk_at "z"
  ·exact(aY (fv 3) (fv 8))
  ·exact(on (n:=3) rfl (fT (dJ 10 iV.nd) (fT (dJ 11 iV.nd) (fT (dJ 12 iV.nd) om))))
 refine aD ?_ ?_
 ·refine bI ?_ ?_ ?_
  ·exact(fr (gl (kj a.units (fv 9) (lF (MM (gQ a) (pv 4) (BY (pv 8))))) (gW (lx (aZ (aW f d c a (au (fv 2) (au (fv 10) (au (fv 9) aM))))) (fv 5)))))
  ·refine aG ?_;refine bz ?_
   ·exact(ae eI)
  ·exact bL
 refine aD ?_ ?_
 ·refine bW (i:=13) ?_ ?_ ?_ ?_ ?_ ?_<;>try walk_at "z"
  ·exact iV.nd
  ·exact(eK (ra (lF (mP (gQ a) (pv 4))) (ae dS)) (fS (jA a.units (vU (lF (mP (gQ a) (pv 4))) vS (vT (ae aq))) (cS (ay (fv 8) (ay (fv 9) bn))))))
 refine aD ?_ ?_
 ·refine bI ?_ ?_ ?_
  ·exact(fu a.units (fv 7) (ae bS))
  ·refine aD ?_ ?_
   ·refine bI ?_ ?_ ?_
    ·exact(fr (qH (oB (lF (mP (gQ a) (pv 4))) (ae dS)) (qG (fr (gl (ee (cR (cP (fv 13)))) (gl (fu a.units (aY (lF (mP (gQ a) (pv 4))) (ae aq)) (fv 1)) (gW (ee (cR (cP (fv 12)))))))))))
    ·refine aG ?_;refine bz ?_
     ·exact(ae eI)
    ·exact bL
   refine aD ?_ ?_
   ·refine Ca ?_ ?_ ?_ ?_
    ·exact(gQ a)
    ·exact(pv 4)
    ·exact(cS (ay (fv 8) (ay (fv 9) (ay (fv 1) bn))))
    ·rfl
   refine aG ?_;refine bz ?_
   ·exact(ae eI)
  ·exact bL
 refine aD ?_ ?_
 ·refine MN ?_ ?_ ?_ ?_ ?_ ?_ ?_ ?_<;>try walk_at "z"
  ·exact(gQ a)
  ·exact(pv 4)
  ·exact(BY (pv 8))
  ·exact(eh (fv 9) (ae aq))
 refine aD ?_ ?_
 ·refine bI ?_ ?_ ?_
  ·exact(fu a.units (fv 7) (ae bS))
  ·refine aG ?_;refine bz ?_
   ·exact(eK (BI (lF (mP (gQ a) (pv 4))) (ae dS)) (fS (LY a.units (fv 11) (ae bS))))
  ·exact bL
 refine aD ?_ ?_
 ·refine bI ?_ ?_ ?_
  ·exact(fr (gl (ee (cR (cP (fv 13)))) (gl (kj a.units (jA a.units (aY (lF (mP (gQ a) (pv 4))) (ae aq)) (fv 1)) (jA a.units (fv 7) (ae bS))) (gW (fr (qH (fu a.units (fv 7) (ae bS)) (qG (cR (cP (fv 12))))))))))
  ·refine aG ?_;refine bz ?_
   ·exact(ae eI)
  ·exact bL
 refine aD ?_ ?_
 ·refine Ca ?_ ?_ ?_ ?_
  ·exact(gQ a)
  ·exact(pv 4)
  ·exact(ae dS)
  ·rfl
 refine aG ?_;refine bz ?_
 ·exact(fo MH (MG (fv 7) (cS (ay (ae bS) (ay (ae bS) bn)))))
theorem OH{C:Addr}{g:Addr}{fd:FuncData}(T:Tx K mg)(a:et K mg C)(D:MD K C "__init__" "Hall.__init__" sR ["self","zone","deeds"] g fd):aA P w K mg base (ba P w) 7 g fd ["self","zone","deeds"] (bf K mg (se C)):=by
 obtain⟨k,l,d⟩:=T.d0d;have h:=CG P w base T d;obtain⟨g1,f1,e⟩:=T.d0h;have i:=OA P w base T e;refine bF D.fn Ny (by decide) ?_;intro j A b s H E F m f c;unfold wW;refine aD ?_ ?_
 ·refine gD ?_ ?_
  ·exact(aW c h d f (au (fv 1) aM))
  ·rfl
 refine aD ?_ ?_
 ·refine gD ?_ ?_
  ·exact(aW c i e f (au (fv 2) aM))
  ·rfl
 refine aD ?_ ?_
 ·refine fy ?_ ?_ ?_ ?_ ?_
  ·exact a.cl
  ·exact a.d26
  ·exact(pv 0)
  ·exact(fv 1)
  ·rfl
 refine aD ?_ ?_
 ·refine fy ?_ ?_ ?_ ?_ ?_
  ·exact a.cl
  ·exact a.d1y
  ·exact(pv 0)
  ·exact(fv 2)
  ·rfl
 refine aD ?_ ?_
 ·refine fy ?_ ?_ ?_ ?_ ?_
  ·exact a.cl
  ·exact a.d21
  ·exact(pv 0)
  ·exact(ae dS)
  ·rfl
 refine aD ?_ ?_
 ·refine fy ?_ ?_ ?_ ?_ ?_
  ·exact a.cl
  ·exact a.d1z
  ·exact(pv 0)
  ·exact(ae dS)
  ·rfl
 refine aD ?_ ?_
 ·refine fy ?_ ?_ ?_ ?_ ?_
  ·exact a.cl
  ·exact a.d24
  ·exact(pv 0)
  ·exact(ae aq)
  ·rfl
 refine aD ?_ ?_
 ·refine fy ?_ ?_ ?_ ?_ ?_
  ·exact a.cl
  ·exact a.d20
  ·exact(pv 0)
  ·exact(ae aq)
  ·rfl
 refine aD ?_ ?_
 ·refine fy ?_ ?_ ?_ ?_ ?_
  ·exact a.cl
  ·exact a.d1x
  ·exact(pv 0)
  ·exact(ae dS)
  ·rfl
 refine aD ?_ ?_
 ·refine Mm ?_ ?_ ?_ ?_
  ·exact a.cl
  ·exact a.d22
  ·exact(pv 0)
  ·rfl
 refine aD ?_ ?_
 ·refine Mo ?_ ?_ ?_ ?_
  ·exact a.cl
  ·exact a.d25
  ·exact(pv 0)
  ·rfl
 refine aG ?_;refine Mt (own:=["deed"]) (capN:=[]) (caps:=[]) ?_ ?_ ?_ ?_ ?_ ?_ ?_ ?_ ?_ ?_ ?_<;>try walk_at "z"
 ·exact a.cl
 ·exact a.d23
 ·exact(pv 0)
 ·exact c.1
 ·exact(az.of (own:=["deed"]) (capN:=[]) (caps:=[]))
 ·exact(mE (fv 2))
 ·exact(fun _ _ _ _ _ _ n=>⟨(dJ 0 (show((["deed"]:List Str)++([]:List Str)).Nodup from by decide +kernel)),oq,(ae aq)⟩)
theorem OI{C:Addr}{g:Addr}{fd:FuncData}(T:Tx K mg)(a:et K mg C)(D:MD K C "step" "Hall.step" tf ["self","runner","moment"] g fd):aA P w K mg base (ba P w) 7 g fd ["self","runner","moment"] (bf K mg (iU C)):=by
 obtain⟨n,o,e⟩:=a.d2a;have i:=xn P w base T a e;obtain⟨g1,f1,f⟩:=a.d2e;have j:=Cz P w base T a f;obtain⟨g2,f2,D2⟩:=a.d2i;have k:=OE P w base T a D2;obtain⟨g3,p,h⟩:=a.d2h;have l:=Of P w base T a h;refine bF D.fn NF (by decide) ?_;intro m A d s H E F q b c;unfold nq;refine aD ?_ ?_
 ·refine gD ?_ ?_
  ·exact(fz c a.cl i e b (pv 0) (au (fv 1) (au (fv 2) aM)))
  ·rfl
 refine aD ?_ ?_
 ·refine fy ?_ ?_ ?_ ?_ ?_
  ·exact a.cl
  ·exact a.d21
  ·exact(pv 0)
  ·exact(fv 2)
  ·rfl
 refine aD ?_ ?_
 ·refine bI ?_ ?_ ?_
  ·exact(cR (cP (aZ (gF c a.cl j f b (pv 0)))))
  ·refine aG ?_;refine bz ?_
   ·exact(cS (ay (ae bS) (ay (aY (dk a.cl a.d1x (pv 0)) (ae aq)) (ay (aY (dk a.cl a.d1x (pv 0)) (ae aq)) bn))))
  ·exact bL
 refine aD ?_ ?_
 ·refine bI ?_ ?_ ?_
  ·exact(oB (dk a.cl a.d1x (pv 0)) (ae dS))
  ·refine aG ?_;refine eF ?_
   ·exact(fz c a.cl l h b (pv 0) (au (fv 1) (au (fv 2) aM)))
  ·exact bL
 refine aG ?_;refine eF ?_
 ·exact(fz c a.cl k D2 b (pv 0) (au (fv 1) (au (fv 2) aM)))
theorem OJ{C:Addr}{g:Addr}{fd:FuncData}(T:Tx K mg)(a:et K mg C)(D:FD K mg "_law_do" tI ["_law_hall","_law_call_here"] g fd):aA P w K mg base (ba P w) 8 g fd ["_law_hall","_law_call_here"] (bf K mg (dU C)):=by
 obtain⟨I,J,o⟩:=a.d2j;have r:=OF P w base T a o;obtain⟨g1,f1,p⟩:=a.d2b;have t:=Oy P w base T a p;obtain⟨g2,f2,D2⟩:=a.d2c;have u:=OD P w base T a D2;obtain⟨g3,L,q⟩:=a.d2g;have v:=OI P w base T a q;obtain⟨M,N,e⟩:=T.d11;have x:=NU P w base T e;obtain⟨f,O⟩:=T.xt0;refine bF D.fn Ct (by decide) ?_;intro y A n s H E F Q d G;unfold jF;refine aG ?_;refine LB (D:=f) (i:=2) ?_ ?_ ?_ ?_ ?_ ?_ ?_ ?_ ?_ ?_<;>try walk_at "z"
 ·exact Ct.nd
 ·exact G.1
 ·intro z k l R c B;refine aD ?_ ?_
  ·refine bI ?_ ?_ ?_
   ·exact(fu d.units (aY (fv 1) (ae aq)) (ae bS))
   ·refine aG ?_;refine eF ?_
    ·exact(fz c a.cl t p d (pv 0) (au (aY (fv 1) (ae aq)) (au (aY (fv 1) (ae aq)) (au (aY (fv 1) (ae aq)) aM))))
   ·exact bL
  refine aD ?_ ?_
  ·refine bI ?_ ?_ ?_
   ·exact(fu d.units (aY (fv 1) (ae aq)) (ae bS))
   ·refine aG ?_;refine eF ?_
    ·exact(fz c a.cl u D2 d (pv 0) (au (aY (fv 1) (ae aq)) (au (aY (fv 1) (ae aq)) aM)))
   ·exact bL
  refine aD ?_ ?_
  ·refine bI ?_ ?_ ?_
   ·exact(fu d.units (aY (fv 1) (ae aq)) (ae bS))
   ·refine aG ?_;refine eF ?_
    ·exact(fz c a.cl v q d (pv 0) (au (aY (fv 1) (ae aq)) (au (aY (fv 1) (ae aq)) aM)))
   ·exact bL
  refine aG ?_;refine eF ?_
  ·exact(fz c a.cl r o d (pv 0) (au (aY (fv 1) (ae aq)) (au (aY (fv 1) (ae aq)) aM)))
 ·intro z S k l m;refine aG ?_;refine eF ?_
  ·exact(Bb (LI (lP m) x (bx.h (d.mono (j:=1) (by decide)) _) rfl e.mgf e.fn.kp e.b (bo (pv 2) aM)))
theorem OK{C:Addr}{g:Addr}{fd:FuncData}(T:Tx K mg)(c:et K mg C)(D:FD K mg "law" kA ["_law_script"] g fd):aA P w K mg base (ba P w) 9 g fd ["_law_script"] (bf K mg (Cn C)):=by
 obtain⟨J,L,h⟩:=T.d0x;have r:=Ov P w base T h;obtain⟨g1,f1,j⟩:=T.d0z;have t:=OC P w base T j;obtain⟨g2,f2,D2⟩:=c.d27;have u:=OH P w base T c D2;obtain⟨g3,M,k⟩:=c.d2l;have v:=NX P w base T c k;obtain⟨N,O,l⟩:=T.d0v;have x:=nv P w base T l;obtain⟨Q,R,m⟩:=T.d10;have y:=Ox P w base T m;obtain⟨S,U,n⟩:=T.d12;have z:=OJ P w base T c n;obtain⟨X,Y,o⟩:=T.d0w;have B:=pq P w base T o;obtain⟨Z,f8,e⟩:=c.d2k;have p:=NW P w base T c e;obtain⟨g9,f9,q⟩:=T.d13;have G:=OG P w base T q;refine bF D.fn gv (by decide) ?_;intro I A f s H E F E' a d;unfold xi;refine aD ?_ ?_
 ·unfold wX;refine lh (i:=1) ?_ ?_ ?_ ?_ ?_ ?_<;>try walk_at "z"
  ·exact gv.nd
  ·exact(ot bn)
 refine aD ?_ ?_
 ·unfold wY;refine bW (i:=2) ?_ ?_ ?_ ?_ ?_ ?_<;>try walk_at "z"
  ·exact gv.nd
  ·exact(aZ (aW d r h a (bo (pv 0) (bo (pv 1) aM))))
 refine aD ?_ ?_
 ·unfold wZ;refine bW (i:=3) ?_ ?_ ?_ ?_ ?_ ?_<;>try walk_at "z"
  ·exact gv.nd
  ·exact(aZ (aW d t j a (bo (pv 0) (bo (pv 1) aM))))
 refine aD ?_ ?_
 ·unfold xa;refine lh (i:=4) ?_ ?_ ?_ ?_ ?_ ?_<;>try walk_at "z"
  ·exact gv.nd
  ·exact(Me d (c.make D2.mt) u (a.mono (by decide)) rfl c.mg D2.b (ay (fv 2) (ay (fv 3) bn)))
 refine aD ?_ ?_
 ·unfold xb;refine lh (i:=5) ?_ ?_ ?_ ?_ ?_ ?_<;>try walk_at "z"
  ·exact gv.nd
  ·exact(MU (MT (MV (ft (ay (ae aq) bn)) (gm jt (gT ig jo rfl T.d1p PySem.boot_len (ay (fv 3) bn)))) (MS uh (fun _=>.non) MR)) rfl rfl (by simp) (by decide))
 refine aD ?_ ?_
 ·unfold xc;refine bW (i:=6) ?_ ?_ ?_ ?_ ?_ ?_<;>try walk_at "z"
  ·exact gv.nd
  ·exact(ae aq)
 refine aD ?_ ?_
 ·unfold xf;refine bW (i:=7) ?_ ?_ ?_ ?_ ?_ ?_<;>try walk_at "z"
  ·exact gv.nd
  ·exact(ae aq)
 refine aD ?_ ?_
 ·unfold xg;refine mD ?_ ?_ ?_ ?_ ?_ ?_<;>try walk_at "z"
  ·exact PassesOwn.leaving
  ·exact(qQ (qD rfl T.d1t (ay (aZ (aW d x l a (bo (pv 0) (bo (pv 1) (au (aZ (aW d B o a (bo (pv 0) (bo (pv 1) (au (ft (ay (ae aq) (ay (ae aq) (ay (ae aq) (ay (ae aq) (ay (ae aq) bn)))))) aM))))) aM))))) bn)))
  ·exact(dJ 8 gv.nd)
  ·unfold nr;refine aD ?_ ?_
   ·refine bW (i:=9) ?_ ?_ ?_ ?_ ?_ ?_<;>try walk_at "z"
    ·exact gv.nd
    ·exact(aZ (aW d y m a (bo (pv 0) (bo (pv 1) (au (fv 6) (au (aY (aZ (gF d c.cl p e a (pv 4))) (ae aq)) aM))))))
   refine aD ?_ ?_
   ·refine bW (i:=10) ?_ ?_ ?_ ?_ ?_ ?_<;>try walk_at "z"
    ·exact gv.nd
    ·exact(aZ (aW d z n a (bo (pv 4) (au (fv 9) aM))))
   refine aD ?_ ?_
   ·refine bI ?_ ?_ ?_
    ·exact(fr (gl (ee (cR (cP (jv (jn rfl T.d1o (fv 10) (iB rfl T.d1v nu rfl)))))) (gW (kj a.units (aY (fv 10) (ae aq)) (ae bS)))))
    ·refine aG ?_;refine bW (i:=6) ?_ ?_ ?_ ?_ ?_ ?_<;>try walk_at "z"
     ·exact gv.nd
     ·exact(aY (fv 9) (ae aq))
    ·exact bL
   refine aD ?_ ?_
   ·refine bW (i:=11) ?_ ?_ ?_ ?_ ?_ ?_<;>try walk_at "z"
    ·exact gv.nd
    ·exact(aZ (gF d c.cl v k a (pv 4)))
   refine aD ?_ ?_
   ·refine bI ?_ ?_ ?_
    ·exact(lx (gm jt (gT ig jo rfl T.d1p PySem.boot_len (ay (fv 11) bn))) (eh (fv 7) (ae aq)))
    ·refine aG ?_;refine bz ?_
     ·exact(ae eI)
    ·exact bL
   refine aD ?_ ?_
   ·refine bI ?_ ?_ ?_
    ·exact(lx (gm jt (gT ig jo rfl T.d1p PySem.boot_len (ay (fv 11) bn))) (fv 7))
    ·refine aD ?_ ?_
     ·refine bI ?_ ?_ ?_
      ·exact(fr (gl (jY MY (MX (aY (fv 9) (ae aq)) (cS (ay (ae bS) (ay (ae bS) bn))))) (gW (kj a.units (vU (aY (fv 11) (oj (ae aq))) vS (vT (ae aq))) (cS (ay (aY (fv 9) (ae aq)) (ay (aY (fv 9) (ae aq)) bn)))))))
      ·refine aG ?_;refine bz ?_
       ·exact(ae eI)
      ·exact bL
     refine aG ?_;refine bI ?_ ?_ ?_
     ·exact(fr (gl (ee (cR (cP (aZ (aW d G q a (au (aY (fv 11) (oj (ae aq))) (au (aY (aZ (gF d c.cl p e a (pv 4))) (ae aq)) (au (fv 2) (au (fv 3) (bo (pv 5) aM)))))))))) (gW (kj a.units (fv 10) (vU (aY (fv 11) (oj (ae aq))) (vT (ae aq)) vS)))))
     ·refine aG ?_;refine bz ?_
      ·exact(ae eI)
     ·exact bL
    ·exact bL
   refine aG ?_;refine bW (i:=7) ?_ ?_ ?_ ?_ ?_ ?_<;>try walk_at "z"
   ·exact gv.nd
   ·exact(gm jt (gT ig jo rfl T.d1p PySem.boot_len (ay (fv 11) bn)))
 refine aG ?_;unfold xh;refine bz ?_
 ·exact(ae eI)
end
end K3
namespace K3
open PySem L2 L2.L3 Due
noncomputable def dc(d:PyData)(lo a:Int):Bool:=match d with
 | .int i=>decide (lo<=i)&&decide (i<=a)
 | _=>false
noncomputable def dW:PyData->Bool
 | .dict _=>false
 | _=>true
@[simp] theorem Ru:cu "int" "int" = some true:=by decide
@[simp] theorem Rv:cu "int" "bool" = some false:=by decide
@[simp] theorem Rw:cu "bool" "int" = some true:=by decide
@[simp] theorem Rx:cu "bool" "bool" = some true:=by decide
@[simp] theorem Ry:cu "NoneType" "int" = some false:=by decide
@[simp] theorem Rz:cu "str" "int" = some false:=by decide
@[simp] theorem RA:cu "list" "int" = some false:=by decide
@[simp] theorem RB:cu "tuple" "int" = some false:=by decide
@[simp] theorem RD:cu "int" "tuple" = some false:=by decide
@[simp] theorem RE:cu "bool" "tuple" = some false:=by decide
@[simp] theorem RF:cu "NoneType" "tuple" = some false:=by decide
@[simp] theorem RG:cu "str" "tuple" = some false:=by decide
@[simp] theorem RH:cu "list" "tuple" = some false:=by decide
@[simp] theorem RI:cu "tuple" "tuple" = some true:=by decide
theorem px(i j:Int):PyData.eqv (.int i) (.int j)=(i==j):=by rw[PyData.eqv]
theorem lQ(i:Int):SeqAt.shaped (.int i)=true:=by rfl
theorem jG{d:PyData}{lo hi:Int}(h:dW d=true):gq [.dat d,.dat (.int lo),.dat (.int hi)]=.rt (.dat (.bool (dc d lo hi))) []:=by
 cases d with
 | dict _=>cases h
 | int i=>
  by_cases h1:lo<=i
  ·simp[aE,gq,oK,dc,h1]
  ·simp[aE,gq,oK,dc,h1]
 | _=>simp[aE,gq,oK,dc]
noncomputable def gc(d:PyData)(n:Int):Bool:=match d with
 | .tuple ds=>decide ((ds.length:Int)=n)
 | _=>false
theorem pz{d:PyData}{n:Int}(h:dW d=true):kt [.dat d,.dat (.int n)]=.rt (.dat (.bool (gc d n))) []:=by
 cases d with
 | dict _=>cases h
 | tuple ds=>simp[aE,kt,rp,gc,lQ,px];rfl
 | _=>simp[aE,kt,rp,gc]
theorem CH{d:PyData}(h:dW d=true):oP [.dat d]=.rt (.dat (.bool (dc d (-12) 14))) []:=by simp[aE,oP,wu,jG h]
theorem xo{d:PyData}(h:dW d=true):mZ [.dat d]=.rt (.dat (.bool (dc d 0 9999))) []:=by simp[aE,mZ,wv,jG h]
theorem CI{d:PyData}(h:dW d=true):rL [.dat d]=if dc d 0 9999=true then .rt (.dat .none) [] else .ex "NoMoment" []:=by simp only[rL,wF];cases a:dc d 0 9999<;>simp[aE,xo h,a]
noncomputable abbrev dm(p:Int×Int):PyData:=.tuple [.int p.1,.int p.2]
noncomputable abbrev cL(a:Int)(b:Sh):PyData:=.tuple [.int a,.tuple (b.map dm)]
@[simp] theorem RJ{x:PyData}{l:List PyData}:bE (x::l) 0=some x:=by unfold bE cp;rw[if_pos (by omega),if_pos (by simp<;>omega)];rfl
@[simp] theorem RK{x y:PyData}{l:List PyData}:bE (x::y::l) 1=some y:=by unfold bE cp;rw[if_pos (by omega),if_pos (by simp<;>omega)];rfl
@[simp] theorem RL{x:PyData}{l:List PyData}:bE (l++[x]) (-1)=some x:=by unfold bE cp;rw[if_neg (by omega),if_pos (by simp;omega)];simp;rw[show(-1+((l.length:Int)+1)).toNat=l.length by omega];simp
theorem CJ{c:Option ag}:∀{a:Sh}{lo:Int}{x:Option ag},kr lo a->(∀p∈a,p.1<=9999/\-12<=p.2/\p.2<=14)->∃e y,di (aI 2) oR (a.map dm) [c,some (.dat (.int (lo+1))),x]=.nx [c,e,y]
 | [],_,_,_,_=>⟨_,_,rfl⟩
 | (b,k)::r,lo,x,⟨h1,h2⟩,ho=>by
  obtain⟨e,y,f⟩:=CJ (lo:=b) (c:=c) (x:=some (.dat (dm (b,k)))) h2 fun p g=>ho p (bQ _ g);have hb:=ho (b,k) List.mem_cons_self;refine⟨e,y,?_⟩;rw[List.map_cons,di,<-f];have:oR [c,some (.dat (.int (lo+1))),some (.dat (dm (b,k)))]=.nx [c,some (.dat (.int (b+1))),some (.dat (dm (b,k)))]:=by simp[aE,oR,pz (d:=.tuple [.int b,.int k]) rfl,gc,CH (d:=.int k) rfl,jG (d:=.int b) rfl,dc,hb.2.1,hb.2.2,hb.1,show lo+1<=b by omega]
  simp[aE,this]
theorem OL{a:Sh}(f:a.length<=6)(b:kr 0 a)(d:∀p∈a,p.1<=9999/\-12<=p.2/\p.2<=14):rK [.dat (.tuple (a.map dm))]=.rt (.dat (.bool true)) []:=by obtain⟨e,y,h⟩:=CJ (lo:=0) (c:=some (.dat (.tuple (a.map dm)))) (x:=none) b d;simp[aE,rK,wE,show ¬ (6:Int)<a.length by omega] at h ⊢;rw[h];simp
theorem OM{a:Int}{b:Sh}(z:mU a b):rP [.dat (cL a b)]=.rt (.dat (.bool true)) []:=by have h1:=z.ah.1;simp[aE,rP,wK,pz (d:=cL a b) rfl,gc,CH (d:=.int a) rfl,dc,h1.1,h1.2,OL z.len z.rise fun p c=>⟨z.top p c,z.ah.2 p c⟩]
theorem CK{a:Int}{b:Sh}(z:mU a b):ni [.dat (cL a b)]=.rt (.dat .none) []:=by simp[aE,ni,wQ,OM z]
theorem CL{m:Int}{z:Option ag}:∀{ss:Sh}{a:Int}{x:Option ag},∃y,di (aI 3) rq (ss.map dm) [z,some (.dat (.int m)),some (.dat (.int a)),x]=.nx [z,some (.dat (.int m)),some (.dat (.int (ro a ss m))),y]
 | [],_,_=>⟨_,rfl⟩
 | (b,c)::r,a,x=>by
  obtain⟨y,d⟩:=CL (m:=m) (z:=z) (ss:=r) (a:=if b<=m then c else a) (x:=some (.dat (dm (b,c))));refine⟨y,?_⟩;rw[List.map_cons,di];unfold ro;rw[<-d]
  by_cases h:b<=m<;>simp[aE,rq,h]
theorem ON{a m:Int}{b:Sh}:rs [.dat (cL a b),.dat (.int m)]=.rt (.dat (.int (wc a b m))) []:=by obtain⟨y,h⟩:=CL (m:=m) (z:=some (.dat (cL a b))) (ss:=b) (a:=a) (x:=none);simp[aE,rs,wh] at h ⊢;rw[h];simp[aE,wc]
theorem tP{e:XM PyData}{g:GM}{f:PyData->PyData}{P:ai->Prop}:∀{its ys:List PyData}{U:ai},P U->(∀d∈its,∀U,P U->∃a b,g d U=some a/\e a=.ok (f d) b/\P b)->ys.length+its.length<=sizeLine->dD g hF e its ys U=some (ys++its.map f)
 | [],ys,U,_,_,_=>by simp[aE,dD]
 | d::r,ys,U,c,h,i=>by obtain⟨a,b,h1,h2,h3⟩:=h d List.mem_cons_self U c;simp only[List.length_cons] at i;unfold dD;rw[h1];simp only[hF,h2];rw[if_pos (by omega),tP h3 (fun d hd=>h d (bQ _ hd)) (by simp;omega)];simp
theorem xp{t:XM Bool}{e:XM PyData}{g:GM}{p:PyData->Bool}{f:PyData->PyData}{P:ai->Prop}:∀{its ys:List PyData}{U:ai},P U->(∀d∈its,∀U,P U->∃b a c,g d U=some b/\t b=.ok (p d) a/\P a/\(p d=true->e a=.ok (f d) c/\P c))->ys.length+its.length<=sizeLine->dD g t e its ys U=some (ys++(its.filter p).map f)
 | [],ys,U,_,_,_=>by simp[aE,dD]
 | d::r,ys,U,j,h,k=>by
  obtain⟨b,a,c,h1,h2,h3,l⟩:=h d List.mem_cons_self U j;simp only[List.length_cons] at k;unfold dD;rw[h1];simp only[h2];cases i:p d with
  | true=>obtain⟨m,n⟩:=l i;simp only[m];rw[if_pos (by omega),xp n (fun d hd=>h d (bQ _ hd)) (by simp;omega)];simp[aE,i]
  | false=>simp only;rw[xp h3 (fun d hd=>h d (bQ _ hd)) (by omega)];simp[aE,i]
@[simp] theorem RM:(0:Nat)<=sizeLine:=by decide
@[simp] theorem CM:(1:Nat)<=sizeLine:=by decide
@[simp] theorem CN:(2:Nat)<=sizeLine:=by decide
@[simp] theorem RN:(3:Nat)<=sizeLine:=by decide
@[simp] theorem RO:(4:Nat)<=sizeLine:=by decide
@[simp] theorem RP:(5:Nat)<=sizeLine:=by decide
@[simp] theorem RQ:(6:Nat)<=sizeLine:=by decide
@[simp] theorem RS:(7:Nat)<=sizeLine:=by decide
@[simp] theorem RT:(8:Nat)<=sizeLine:=by decide
@[simp] theorem RU:(9:Nat)<=sizeLine:=by decide
@[simp] theorem OO:(10:Nat)<=sizeLine:=by decide
@[simp] theorem OP:(11:Nat)<=sizeLine:=by decide
@[simp] theorem OQ:(12:Nat)<=sizeLine:=by decide
@[simp] theorem OR:(13:Nat)<=sizeLine:=by decide
@[simp] theorem OS:(14:Nat)<=sizeLine:=by decide
noncomputable def fC:Option Int->PyData
 | none=>.none
 | some e=>.int e
noncomputable def jH(p:Int×Option Int×Int):PyData:=.tuple [.int p.1,fC p.2.1,.int p.2.2]
theorem CO:∀(d:Sh) (s a:Int),oh (.int s::d.map fun p=>.int p.1) ((d.map fun p=>PyData.int p.1)++[.none]) (.int a::d.map fun p=>.int p.2)=(cb s a d).map jH
 | [],s,a=>rfl
 | (b,c)::r,s,a=>by have e:=CO r b c;simp only[List.map_cons,List.cons_append,cb];rw[<-e];rfl
theorem OT{a:Int}{b:Sh}(l:b.length<=6):ry [.dat (cL a b)]=.rt (.dat (.list ((cb 0 a b).map jH))) []:=by
 have sz:1000<sizeLine:=by decide
 have c:=tP (e:=wj) (g:=aI 0) (f:=fun d=>match d with | .tuple (x::_)=>x | _=>.none) (P:=fun U=>U.length=1) (its:=b.map dm) (ys:=[]) (U:=[none]) rfl (fun d hd U h=>by
  obtain⟨p,_,rfl⟩:=List.mem_map.mp hd
  match U,h with
  | [y],_=>exact⟨_,_,rfl,by simp[aE,wj];rfl,rfl⟩) (by simp;omega)
 have i:=tP (e:=wm) (g:=aI 0) (f:=fun d=>match d with | .tuple (_::x::_)=>x | _=>.none) (P:=fun U=>U.length=1) (its:=b.map dm) (ys:=[]) (U:=[none]) rfl (fun d hd U h=>by
  obtain⟨p,_,rfl⟩:=List.mem_map.mp hd
  match U,h with
  | [y],_=>exact⟨_,_,rfl,by simp[aE,wm];rfl,rfl⟩) (by simp;omega)
 simp only[List.nil_append,List.map_map] at c i;have j:List.map ((fun d=>match d with | .tuple (x::_)=>x | _=>PyData.none)∘dm) b=b.map fun p=>PyData.int p.1:=by apply List.map_congr_left;intro p _;rfl
 have k:List.map ((fun d=>match d with | .tuple (_::x::_)=>x | _=>PyData.none)∘dm) b=b.map fun p=>PyData.int p.2:=by apply List.map_congr_left;intro p _;rfl
 rw[j] at c;rw[k] at i;have z:=CO b 0 a;simp[aE,ry,wn,c,i,show b.length<=sizeLine by omega,show b.length+1<=sizeLine by omega,show 1+b.length<=sizeLine by omega,z]
theorem OU{m:Int}{e:Option Int}:rz [.dat (.int m),.dat (fC e)]=.rt (.dat (.bool (lH m e))) []:=by cases e<;>simp[aE,rz,wo,fC,lH]
theorem xq:∀(d:Sh) (s a:Int),(cb s a d).length=d.length+1
 | [],s,a=>rfl
 | (b,c)::r,s,a=>by simp[aE,cb,xq r b c]
theorem OV{a:List Int}{k:Int}(c:a.length<=63)(d:0<=k):∃v,mV [.scr a,.dat (.int k)]=.rt (.dat (.int v)) []:=by
 by_cases h:k<a.length
 ·have:∃v,bE a k=some v:=by unfold bE cp;rw[if_pos d,if_pos h];exact⟨a[k.toNat]'(by omega),by simp⟩
  obtain⟨v,hv⟩:=this;exact⟨v,by simp[aE,mV,oM,c,h,hv]⟩
 ·by_cases b:a=[]
  ·subst b;exact⟨0,by simp[aE,mV,oM] at h ⊢;simp[aE,show ¬ k<0 by omega]⟩
  ·have e:0<(a.length:Int):=by have:=List.length_pos_iff.mpr b;omega
   have:∃v,bE a (k % a.length)=some v:=by have h1:=Int.emod_nonneg k (show(a.length:Int)≠0 by omega);have h2:=Int.emod_lt_of_pos k e;unfold bE cp;rw[if_pos h1,if_pos h2];exact⟨a[(k % a.length).toNat]'(by omega),by simp⟩
   obtain⟨v,hv⟩:=this;exact⟨v * 31+k,by simp[aE,mV,oM,c,h,b,hv,my,ka,List.length_pos_iff.mpr b]⟩
theorem OW{b:List Int}{k many:Int}(c:b.length<=63)(d:0<=k)(a:0<many):∃v,0<=v/\v<many/\rH [.scr b,.dat (.int k),.dat (.int many)]=.rt (.dat (.int v)) []:=by
 obtain⟨v,hv⟩:=OV (k:=k) c d;generalize hd:(v+7919 * k+1) * 48271 % 2147483647=dr;have e:0<=dr:=by omega
 have f:dr<2147483647:=by omega
 refine⟨(dr * dr+7 * dr+k) % 2147483629 % many,Int.emod_nonneg _ (by omega),Int.emod_lt_of_pos _ a,?_⟩;simp[aE,rH,wD,hv,ka,my,hd,a,show -18446744073709551616<dr by omega,show dr<18446744073709551616 by omega]
theorem ez{ns:List Int}{many:Int}{t:List PyData}(a:ns.length<=63)(c:t.length<1000000)(b:0<many):∃v,0<=v/\v<many/\cU [.scr ns,.own true (.l t),.dat (.int many)]=.rt (.dat (.int v)) [.l (t++[.int 0])]:=by
 have sz:1000000<sizeLine:=by decide
 obtain⟨v,h1,h2,h3⟩:=OW (k:=((t++[PyData.int 0]).length:Int)) a (by omega) b;refine⟨v,h1,h2,?_⟩;simp at h3;simp[aE,cU,wJ,show t.length<sizeLine by omega,h3]
theorem jI{ns:List Int}{ds t:List PyData}(a:ns.length<=63)(b:t.length<1000000)(hd:ds≠[])(c:ds.length<=1000):∃d∈ds,fX [.scr ns,.own true (.l t),.dat (.list ds)]=.rt (.dat d) [.l (t++[.int 0])]:=by
 have e:=List.length_pos_iff.mpr hd;obtain⟨v,h1,h2,h3⟩:=ez (many:=ds.length) a b (by omega);have:bE ds v=some (ds[v.toNat]'(by omega)):=by unfold bE cp;rw[if_pos h1,if_pos h2];simp
 refine⟨ds[v.toNat]'(by omega),List.getElem_mem _,?_⟩;simp[aE,fX,wN,h3,this]
theorem CP(i:Int):SeqAt.shaped (.int i)=true:=by rfl
theorem OX{ns:List Int}{t:List PyData}{ss:Sh}{m:Int}{k:Option ag}(a:ns.length<=63)(p:t.length<900)(q:ss.length<=100):∃d c,0<=d/\d<200/\-12<=c/\c<=14/\
  oV [some (.scr ns),some (.own true (.l t)),some (.own false (.l (ss.map dm))),some (.dat (.int m)),k]=.nx [some (.scr ns),some (.own true (.l (t++[.int 0]++[.int 0]++[.int 0]))),some (.own false (.l ((ss++[(m+1+d,c)]).map dm))),some (.dat (.int (m+1+d))),k]:=by
 have sz:1000<sizeLine:=by decide
 obtain⟨w,b,h1⟩:=jI (ns:=ns) (t:=t) (ds:=[.int 4,.int 40,.int 200]) a (by omega) (by simp) (by simp);have:∃i:Int,w=.int i/\0<i/\i<=200:=by
  simp at b;rcases b with rfl | rfl | rfl
  ·exact⟨4,rfl,by omega,by omega⟩
  ·exact⟨40,rfl,by omega,by omega⟩
  ·exact⟨200,rfl,by omega,by omega⟩
 obtain⟨i,rfl,f,h⟩:=this;obtain⟨d,g,j,h2⟩:=ez (ns:=ns) (t:=t++[.int 0]) (many:=i) a (by simp;omega) f;obtain⟨e,n,o,h3⟩:=ez (ns:=ns) (t:=t++[.int 0]++[.int 0]) (many:=27) a (by simp;omega) (by omega);refine⟨d,e - 12,g,by omega,by omega,by omega,?_⟩;simp only[List.append_assoc,List.cons_append,List.nil_append] at h1 h2 h3;simp[aE,oV,h1,h2,h3,show ss.length<sizeLine by omega]
theorem CQ{ns:List Int}(g:ns.length<=63):∀{its t:List PyData}{ss:Sh}{m:Int}{k:Option ag},t.length+3 * its.length<900->ss.length+its.length<=100->∃new t' b f,di (aI 4) oV its [some (.scr ns),some (.own true (.l t)),some (.own false (.l (ss.map dm))),some (.dat (.int m)),k]=.nx [some (.scr ns),some (.own true (.l t')),some (.own false (.l ((ss++new).map dm))),some (.dat (.int b)),f]/\
  kr m new/\(∀p∈new,p.1<=m+200 * its.length/\-12<=p.2/\p.2<=14)/\new.length=its.length/\t'.length=t.length+3 * its.length
 | [],t,ss,m,k,_,_=>⟨[],t,m,k,by simp[aE,di],trivial,fun p a=>(by cases a),rfl,rfl⟩
 | x::r,t,ss,m,k,h1,h2=>by
  simp only[List.length_cons] at h1 h2;obtain⟨d,c,o,q,h,i,e⟩:=OX (ns:=ns) (t:=t) (ss:=ss) (m:=m) (k:=some (.dat x)) g (by omega) (by omega);obtain⟨new,t',b,f,g1,g2,g3,j,n⟩:=CQ g (its:=r) (t:=t++[.int 0]++[.int 0]++[.int 0]) (ss:=ss++[(m+1+d,c)]) (m:=m+1+d) (k:=some (.dat x)) (by simp;omega) (by simp;omega);refine⟨(m+1+d,c)::new,t',b,f,?_,⟨by omega,g2⟩,fun p a=>?_,by simp[aE,j],by rw[n];simp;omega⟩
  ·rw[di];simp only[aI,List.set_cons_succ,List.set_cons_zero,e];rw[g1];simp
  ·simp only[List.length_cons];rcases List.mem_cons.mp a with rfl | a
   ·exact⟨by simp;omega,h,i⟩
   ·have:=g3 p a;exact⟨by omega,this.2⟩
noncomputable def iW:Nat->Sh->Sh
 | _,[]=>[]
 | i,(b,_)::r=>(b,1+(i:Int) % 2)::iW (i+1) r
theorem CS:∀{a:Sh}{i:Nat}{lo:Int},kr lo a->kr lo (iW i a)
 | [],_,_,_=>trivial
 | (b,c)::r,i,lo,⟨h1,h2⟩=>⟨h1,CS h2⟩
theorem xr:∀{d:Sh}{i:Nat}{T:Int},(∀p∈d,p.1<=T)->∀p∈iW i d,p.1<=T/\-12<=p.2/\p.2<=14
 | [],_,_,_,p,a=>by cases a
 | (b,c)::r,i,T,h,p,a=>by
  rcases List.mem_cons.mp a with rfl | a
  ·exact⟨h (b,c) List.mem_cons_self,by simp;omega,by simp;omega⟩
  ·exact xr (fun q e=>h q (bQ _ e)) p a
theorem xu:∀(a:Sh) (i:Nat),(iW i a).length=a.length
 | [],_=>rfl
 | (b,c)::r,i=>by simp[aE,iW,xu r (i+1)]
noncomputable def pA(d:PyData):PyData:=match d with
 | .tuple [.int i,.tuple [b,_]]=>.tuple [b,.int (1+i % 2)]
 | _=>.none
theorem CT:∀(a:Sh) (k:Nat),((a.map dm).mapIdx fun i d=>pA (.tuple [.int ((i+k:Nat):Int),d]))=(iW k a).map dm
 | [],k=>rfl
 | (b,c)::r,k=>by
  rw[List.map_cons,List.mapIdx_cons];have e:=CT r (k+1);simp only[iW,List.map_cons];rw[<-e]
  congr 1
  ·simp[aE,pA,dm]
  ·congr 1
   funext i d;rw[show i+1+k=i+(k+1) by omega]
theorem OY{ns:List Int}{t:List PyData}(j:ns.length<=63)(O:t.length<=100):∃a h t',oW [.scr ns,.own true (.l t)]=.rt (.dat (cL a h)) [.l t']/\h.length<=6/\kr 0 h/\Cf a h/\(∀p∈h,p.1<=1200)/\t'.length<=t.length+30:=by
 have sz:1000<sizeLine:=by decide
 obtain⟨n,z,G,r⟩:=ez (ns:=ns) (t:=t) (many:=7) j (by omega) (by omega);obtain⟨new,o,H,I,g1,g2,g3,C,A⟩:=CQ (ns:=ns) j (its:=intsFrom 0 n.toNat) (t:=t++[.int 0]) (ss:=[]) (m:=0) (k:=none) (by simp[aE,qC];omega) (by simp[aE,qC];omega);rw[qC] at g3 C A;simp only[List.length_append,List.length_cons,List.length_nil] at A;obtain⟨x,J,L,s⟩:=ez (ns:=ns) (t:=o) (many:=2) j (by omega) (by omega);obtain⟨y,M,N,h3⟩:=ez (ns:=ns) (t:=o++[.int 0]) (many:=27) j (by simp;omega) (by omega);simp only[List.map_nil,List.nil_append,List.append_assoc,List.cons_append] at g1 h3;have nl:new.length<=6:=by omega
 have top:∀p∈new,p.1<=1200:=fun p b=>by have:=(g3 p b).1;omega
 by_cases hx:x=0
 ·refine⟨y - 12,iW 0 new,o++[.int 0,.int 0],?_,by rw[xu];exact nl,CS g2,⟨⟨by omega,by omega⟩,fun p b=>(xr top p b).2⟩,fun p b=>(xr top p b).1,by simp;omega⟩;have c:=tP (e:=wR) (g:=gY 2 (cz (aI 0) (cz (gY 2 (cz (aI 1) (cz (aI 2) gX))) gX))) (f:=pA) (P:=fun U=>U.length=3) (its:=L3.numbered (new.map dm)) (ys:=[]) (U:=[none,none,none]) rfl (fun d hd U D=>by
   unfold L3.numbered at hd;obtain⟨i,B,rfl⟩:=List.mem_mapIdx.mp hd
   match U,D with
   | [u,v,w],_=>
    have E:(new.map dm)[i]=dm (new[i]'(by simpa using B)):=by simp
    rw[E];generalize new[i]'(by simpa using B)=q;refine⟨[some (.dat (.int i)),some (.dat (.int q.1)),some (.dat (.int q.2))],[some (.dat (.int i)),some (.dat (.int q.1)),some (.dat (.int q.2))],by simp,?_,rfl⟩;simp[aE,wR,pA,dm,my]) (by unfold L3.numbered;simp;omega)
  have rd:(L3.numbered (new.map dm)).map pA=(iW 0 new).map dm:=by
   unfold L3.numbered;rw[<-CT new 0];apply List.ext_getElem
   ·simp
   ·intro i r s;simp
  rw[rd] at c;simp only[List.nil_append] at c;have l2:(iW 0 new).length<=sizeLine:=by rw[xu];omega
  subst hx;simp[aE,oW,rV,r,z,show n<4611686018427387904 by omega,show -4611686018427387904<=n by omega,g1,s,h3,CP,px,c,l2]
 ·refine⟨y - 12,new,o++[.int 0,.int 0],?_,nl,g2,⟨⟨by omega,by omega⟩,fun p b=>(g3 p b).2⟩,top,by simp;omega⟩;simp[aE,oW,rV,r,z,show n<4611686018427387904 by omega,show -4611686018427387904<=n by omega,g1,s,h3,CP,px,hx]
@[simp] theorem xv:("NotHolder":Str)∈er:=by decide +kernel
@[simp] theorem OZ:("Nothing":Str)∈er:=by decide +kernel
theorem CU(a b:Int):SeqAt.shaped (.tuple [.int a,.int b])=true:=rfl
theorem CV:PyData.strOk "refused" = true:=by decide +kernel
theorem CW{d:PyData}(h:SeqAt.shaped d=true):aE false d d=some (.bool true):=by simp[aE,h,AJ h]
theorem pB{d:PyData}(h:SeqAt.shaped d=true):aE true d d=some (.bool false):=by simp[aE,h,AJ h]
theorem Pa(i j:Int):aE true (.int i) (.int j)=some (.bool (!decide (i=j))):=by
 by_cases h:i=j
 ·subst h;simp[pB (lQ i)]
 ·simp[aE,lQ,px,h]
theorem iu(i j:Int):aE false (.int i) (.int j)=some (.bool (decide (i=j))):=by
 by_cases h:i=j
 ·subst h;simp[CW (lQ i)]
 ·simp[aE,lQ,px,h]
theorem bD{m k:SM}{U a:ai}(h:m U=.nx a):av m k U=k a:=by simp[h]
theorem CY(i j:Str):PyData.eqv (.str i) (.str j)=(i==j):=by rw[PyData.eqv]
theorem lR{x:Str}(h:PyData.strOk x=true):SeqAt.shaped (.str x)=true:=by unfold SeqAt.shaped;simp[PyData.canLay0,PyData.depth,h]
theorem bM{x y:Str}(b:PyData.strOk x=true)(a:PyData.strOk y=true):aE false (.str x) (.str y)=some (.bool (x==y)):=by simp[aE,lR b,lR a,CY]
theorem iX:PyData.strOk "once" = true:=by decide +kernel
theorem kC:PyData.strOk "every" = true:=by decide +kernel
theorem ny:PyData.strOk "daily" = true:=by decide +kernel
@[simp] theorem RV:(("every":Str)==("once":Str))=false:=by decide +kernel
@[simp] theorem RW:(("daily":Str)==("once":Str))=false:=by decide +kernel
@[simp] theorem RX:(("daily":Str)==("every":Str))=false:=by decide +kernel
@[simp] theorem RY:cu "str" "str" = some true:=by decide
noncomputable abbrev hV:dF->PyData
 | .once m=>.tuple [.str "once",.int m]
 | .every f s=>.tuple [.str "every",.int f,.int s]
 | .daily h=>.tuple [.str "daily",.int h]
@[simp] theorem RZ{x y w:PyData}{l:List PyData}:bE (x::y::w::l) 2=some w:=by unfold bE cp;rw[if_pos (by omega),if_pos (by simp<;>omega)];rfl
theorem lS{x w:Str}{rest:List PyData}{n:Int}(b:PyData.strOk x=true)(a:PyData.strOk w=true):kv [.dat (.tuple (.str x::rest)),.dat (.str w),.dat (.int n)]=.rt (.dat (.bool (decide (((rest.length+1:Nat):Int)=n)&&(x==w)))) []:=by
 by_cases h:(((rest.length+1:Nat):Int)=n)
 ·simp[kv,rD,pz (d:=.tuple (.str x::rest)) rfl,gc,bM b a];simp at h;simp[h]
 ·simp[kv,rD,pz (d:=.tuple (.str x::rest)) rfl,gc,bM b a];simp at h;simp[h]
theorem CZ{p:dF}(ok:hU p):lJ [.dat (hV p)]=.rt (.dat (.bool true)) []:=by
 cases p with
 | once m=>simp[lJ,oS,lS iX iX,xo (d:=.int m) rfl,dc,ok.1,ok.2]
 | every f s=>simp[lJ,oS,lS kC iX,lS kC kC,xo (d:=.int f) rfl,jG (d:=.int s) rfl,dc,ok.1.1,ok.1.2,ok.2.1,ok.2.2]
 | daily h=>simp[lJ,oS,lS ny iX,lS ny kC,lS ny ny,jG (d:=.int h) rfl,dc,ok.1,ok.2]
theorem Pb{p:dF}(ok:hU p):rR [.dat (hV p)]=.rt (.dat .none) []:=by simp[rR,wM,CZ ok]
noncomputable def tQ(g:Int)(d:PyData):Bool:=match d with
 | .tuple [.int s,.none,.int a]=>lH (max s (g - a)) none
 | .tuple [.int s,.int e,.int a]=>lH (max s (g - a)) (some e)
 | _=>false
noncomputable def tR(g:Int)(d:PyData):PyData:=match d with
 | .tuple [.int s,_,.int a]=>.int (max s (g - a))
 | _=>.none
theorem Db(g:Int)(p:Int×Option Int×Int):tQ g (jH p)=lH (max p.1 (g - p.2.2)) p.2.1:=by obtain⟨s,e,a⟩:=p;cases e<;>rfl
theorem Dc(g:Int)(p:Int×Option Int×Int):tR g (jH p)=.int (max p.1 (g - p.2.2)):=by obtain⟨s,e,a⟩:=p;cases e<;>rfl
theorem Pc{a g:Int}{b:Sh}(h:b.length<=6):rF [.dat (cL a b),.dat (.int g)]=.rt (.dat (.int (oJ g 0 a b))) []:=by
 have sz:1000<sizeLine:=by decide
 have c:=xp (t:=wz) (e:=wA) (g:=gY 3 (cz (aI 0) (cz (aI 1) (cz (aI 2) gX)))) (p:=tQ g) (f:=tR g) (P:=fun U=>∃x y z,U=[x,y,z,some (.dat (.int g))]) (its:=(cb 0 a b).map jH) (ys:=[]) (U:=[none,none,none,some (.dat (.int g))]) ⟨_,_,_,rfl⟩ (fun d hd U i=>by
  obtain⟨p,_,rfl⟩:=List.mem_map.mp hd;obtain⟨x,y,z,rfl⟩:=i;refine⟨[some (.dat (.int p.1)),some (.dat (fC p.2.1)),some (.dat (.int p.2.2)),some (.dat (.int g))],[some (.dat (.int p.1)),some (.dat (fC p.2.1)),some (.dat (.int p.2.2)),some (.dat (.int g))],[some (.dat (.int p.1)),some (.dat (fC p.2.1)),some (.dat (.int p.2.2)),some (.dat (.int g))],by simp[jH],by simp[wz,OU,Db],⟨_,_,_,rfl⟩,fun _=>⟨by simp[wA,Dc],⟨_,_,_,rfl⟩⟩⟩) (by simp[xq];omega)
 have f1:(((cb 0 a b).map jH).filter (tQ g)).map (tR g)=(mT g (cb 0 a b)).map PyData.int:=by unfold mT;have j:tR g∘jH=fun p=>.int (max p.1 (g - p.2.2)):=funext (Dc g);have k:tQ g∘jH=fun p=>lH (max p.1 (g - p.2.2)) p.2.1:=funext (Db g);rw[List.filter_map,List.map_map,List.map_map,j,k];rfl
 have l:(mT g (cb 0 a b)).length<=7:=by unfold mT;rw[List.length_map];exact Nat.le_trans (List.length_filter_le _ _) (by rw[xq];omega)
 obtain⟨t,e⟩:=Cg g b 0 a;rw[f1,e] at c;rw[e,List.length_cons] at l;simp only[List.nil_append,List.map_cons] at c;simp[rF,wB,OT h,c,show t.length+1<=sizeLine by omega]
theorem Pd{a h:Int}{b:Sh}:rG [.dat (cL a b),.dat (.int h)]=.rt (.dat (.int (we a b h))) []:=by simp[rG,wC,ON,we,qE]
theorem Pe{a h:Int}{b:Sh}{c:Nat}(d:b.length<=6):rO [.dat (cL a b),.dat (.int h),.dat (.int c)]=.rt (.dat (.int (wg a b h c))) []:=by simp[rO,wI,Pd,Pc d,wg,ka]
theorem Pf{i j:Int}(a:-1000000<=j)(b:j<=1000000):ka i j=true:=by unfold ka;rw[decide_eq_true (show -(2 ^ 64)<j by omega),decide_eq_true (show j<2 ^ 64 by omega)];simp
theorem Pg{z:PyData}{f s c:Int}(a:1<=s)(b:s<=999):gG [.dat z,.dat (hV (.every f s)),.dat (.int c)]=.rt (.dat (.int (f+c * s))) []:=by simp[gG,nh,bM kC iX,bM kC kC,Pf (i:=c) (show -1000000<=s by omega) (show s<=1000000 by omega)]
theorem Ph{a:Int}{b:Sh}{p:dF}{c:Nat}(d:b.length<=6)(ok:hU p):gG [.dat (cL a b),.dat (hV p),.dat (.int c)]=.rt (.dat (fC (fc a b p c))) []:=by
 cases p with
 | once m=>
  by_cases e:c=0
  ·subst e;simp[gG,nh,bM iX iX,iu,fc,fC]
  ·simp[gG,nh,bM iX iX,iu,fc,fC,e]
 | every f s=>exact Pg ok.2.1 ok.2.2
 | daily h=>simp[gG,nh,bM ny iX,bM ny kC,fc,fC,Pe d]
def xw(o:eW):Prop:=∃x r,o=.rt (.dat (.bool true)) (x::r)
theorem kD{m k:SM}{U U':ai}(h:m U=.nx U')(q:xw (k U')):xw (av m k U):=by rw[bD h];exact q
theorem Pj{m:SM}{n:Nat}{a:List Int}(h:xw (m (some (.scr a)::List.replicate n none))):bp 1 (n+1) m [.scr a]=.rt (.dat (.bool true)) []:=by obtain⟨x,r,e⟩:=h;simp[e]
theorem xx(i:Int)(r:Nat):L3.intsFrom i (r+1)=.int i::L3.intsFrom (i+1) r:=by
 unfold L3.intsFrom;rw[List.range_succ_eq_map,List.map_cons,List.map_map]
 congr 1
 ·simp
 ·apply List.map_congr_left;intro k _;simp;omega
theorem Pk{ns:List Int}{t:List PyData}(b:ns.length<=63)(v:t.length<=900):∃p t',hU p/\t'.length<=t.length+4/\nk [.scr ns,.own true (.l t)]=.rt (.dat (hV p)) [.l t']:=by
 obtain⟨k,o,q,h1⟩:=ez (ns:=ns) (t:=t) (many:=5) b (by omega) (by omega)
 by_cases e:k=0
 ·obtain⟨w,a,h2⟩:=jI (ns:=ns) (t:=t++[.int 0]) (ds:=[.int 100,.int 100,.int 2500]) b (by simp;omega) (by simp) (by simp);have:∃i:Int,w=.int i/\0<i/\i<=2500:=by simp only[List.mem_cons,List.not_mem_nil,or_false] at a;rcases a with rfl | rfl | rfl<;>exact⟨_,rfl,by omega,by omega⟩
  obtain⟨i,rfl,c,j⟩:=this;obtain⟨m,d,n,h3⟩:=ez (ns:=ns) (t:=t++[.int 0]++[.int 0]) (many:=i) b (by simp;omega) c;refine⟨.once m,t++[.int 0]++[.int 0]++[.int 0],⟨d,by omega⟩,by simp,?_⟩;simp only[List.append_assoc,List.cons_append,List.nil_append] at h1 h2 h3;simp[nk,oX,h1,h2,h3,iu,e]
 ·by_cases g:k<3
  ·obtain⟨w,a,h2⟩:=jI (ns:=ns) (t:=t++[.int 0]) (ds:=[.int 30,.int 30,.int 999]) b (by simp;omega) (by simp) (by simp);have:∃i:Int,w=.int i/\0<i/\i<=999:=by simp only[List.mem_cons,List.not_mem_nil,or_false] at a;rcases a with rfl | rfl | rfl<;>exact⟨_,rfl,by omega,by omega⟩
   obtain⟨i,rfl,c,j⟩:=this;obtain⟨s,r,u,h3⟩:=ez (ns:=ns) (t:=t++[.int 0]++[.int 0]) (many:=i) b (by simp;omega) c;obtain⟨f,f1,f2,h⟩:=ez (ns:=ns) (t:=t++[.int 0]++[.int 0]++[.int 0]) (many:=50) b (by simp;omega) (by omega);refine⟨.every f (1+s),t++[.int 0]++[.int 0]++[.int 0]++[.int 0],⟨⟨f1,by omega⟩,by omega,by omega⟩,by simp,?_⟩;simp only[List.append_assoc,List.cons_append,List.nil_append] at h1 h2 h3 h;simp[nk,oX,h1,h2,h3,h,iu,e,g]
  ·obtain⟨m,d,n,h2⟩:=ez (ns:=ns) (t:=t++[.int 0]) (many:=24) b (by simp;omega) (by omega);refine⟨.daily m,t++[.int 0]++[.int 0],⟨d,by omega⟩,by simp,?_⟩;simp only[List.append_assoc,List.cons_append,List.nil_append] at h1 h2;simp[nk,oX,h1,h2,iu,e,g]
@[simp] theorem Sa:dW .none=true:=by simp only[dW]
@[simp] theorem Sb(i:Int):dW (.int i)=true:=by simp only[dW]
@[simp] theorem Sc(b:Bool):dW (.bool b)=true:=by simp only[dW]
@[simp] theorem Sd(x:Str):dW (.str x)=true:=by simp only[dW]
@[simp] theorem Se(l:List PyData):dW (.tuple l)=true:=by simp only[dW]
@[simp] theorem Sf(l:List PyData):dW (.list l)=true:=by simp only[dW]
noncomputable abbrev tS(k:Int):PyData:=.tuple [.str "refused",.int k]
theorem xy:lI [.exc "NotHolder"]=.rt (.dat (.tuple [.str "refused",.int 8])) []:=by kernel_rfl
theorem Pl:lI [.exc "Nothing"]=.rt (.dat (.tuple [.str "refused",.int 9])) []:=by kernel_rfl
inductive gH where
 | all | last | within (n:Int)
structure bZ where
 plan:dF
 late:gH
 again:Bool
noncomputable abbrev kE:gH->PyData
 | .all=>.str "all"
 | .last=>.str "last"
 | .within n=>.tuple [.str "within",.int n]
noncomputable abbrev dG(d:bZ):PyData:=.tuple [hV d.plan,kE d.late,.bool d.again]
@[irreducible] noncomputable def df(a:List bZ):PyData:=.tuple (a.map dG)
noncomputable def cf:Option Int->PyData
 | none=>.none
 | some i=>.int i
noncomputable def gw:Option (Nat×Nat×Int)->PyData
 | none=>.none
 | some (d,c,h)=>.tuple [.int d,.int c,.int h]
inductive Wd where
 | begun | done | left | unsure
deriving DecidableEq
noncomputable abbrev fE:Wd->Str
 | .begun=>"begun"
 | .done=>"done"
 | .left=>"left"
 | .unsure=>"unsure"
structure iw where
 mo:Int
 ru:Int
 wd:Wd
 dd:Nat
 ct:Nat
noncomputable abbrev dH(r:iw):PyData:=.tuple [.int r.mo,.int r.ru,.str (fE r.wd),.int r.dd,.int r.ct]
noncomputable abbrev bu(n:Nat):PyData:=.int n
noncomputable def eA(a:List ((Nat×Nat)×Wd)):List (PyData×PyData):=a.map fun p=>(.tuple [bu p.1.1,bu p.1.2],.str (fE p.2))
structure Hl where
 a:Int
 ss:Sh
 ds:List bZ
 last:Option Int
 holder:Option Int
 til:Int
 holds:Int
 begun:Option (Nat×Nat×Int)
 rows:List iw
 words:List ((Nat×Nat)×Wd)
 settled:List Nat
@[irreducible] noncomputable def ak(S:Hl):List (Str×Fl):=[("zone",.d (cL S.a S.ss)),("deeds",.d (df S.ds)),("last",.d (cf S.last)),("holder",.d (cf S.holder)),("until",.d (.int S.til)),("holds",.d (.int S.holds)),("begun",.d (gw S.begun)),("rows",.l (S.rows.map dH)),("words",.m true (eA S.words)),("settled",.l (S.settled.map bu))]
noncomputable abbrev hB(C:Addr)(S:Hl):Bx:=.o C (ak S)
@[simp] theorem Sg(S:Hl):List.lookup ("zone":Str) (ak S)=some (.d (cL S.a S.ss)):=by unfold ak;kernel_rfl
@[simp] theorem Si(S:Hl):List.lookup ("deeds":Str) (ak S)=some (.d (df S.ds)):=by unfold ak;kernel_rfl
@[simp] theorem Sj(S:Hl):List.lookup ("last":Str) (ak S)=some (.d (cf S.last)):=by unfold ak;kernel_rfl
@[simp] theorem Sk(S:Hl):List.lookup ("holder":Str) (ak S)=some (.d (cf S.holder)):=by unfold ak;kernel_rfl
@[simp] theorem Sl(S:Hl):List.lookup ("until":Str) (ak S)=some (.d (.int S.til)):=by unfold ak;kernel_rfl
@[simp] theorem Sm(S:Hl):List.lookup ("holds":Str) (ak S)=some (.d (.int S.holds)):=by unfold ak;kernel_rfl
@[simp] theorem Sn(S:Hl):List.lookup ("begun":Str) (ak S)=some (.d (gw S.begun)):=by unfold ak;kernel_rfl
@[simp] theorem So(S:Hl):List.lookup ("rows":Str) (ak S)=some (.l (S.rows.map dH)):=by unfold ak;kernel_rfl
@[simp] theorem Sq(S:Hl):List.lookup ("words":Str) (ak S)=some (.m true (eA S.words)):=by unfold ak;kernel_rfl
@[simp] theorem Sr(S:Hl):List.lookup ("settled":Str) (ak S)=some (.l (S.settled.map bu)):=by unfold ak;kernel_rfl
@[simp] theorem Ss(S:Hl):List.lookup ("is_held":Str) (ak S)=none:=by unfold ak;kernel_rfl
@[simp] theorem Su(S:Hl):List.lookup ("check_call":Str) (ak S)=none:=by unfold ak;kernel_rfl
@[simp] theorem Sv(S:Hl):List.lookup ("check_holder":Str) (ak S)=none:=by unfold ak;kernel_rfl
@[simp] theorem Sw(S:Hl):List.lookup ("take":Str) (ak S)=none:=by unfold ak;kernel_rfl
@[simp] theorem Sx(S:Hl):List.lookup ("give":Str) (ak S)=none:=by unfold ak;kernel_rfl
@[simp] theorem Sy(S:Hl):List.lookup ("add_row":Str) (ak S)=none:=by unfold ak;kernel_rfl
@[simp] theorem Sz(S:Hl):List.lookup ("is_busy":Str) (ak S)=none:=by unfold ak;kernel_rfl
@[simp] theorem SA(S:Hl):List.lookup ("first_unsettled":Str) (ak S)=none:=by unfold ak;kernel_rfl
@[simp] theorem SD(S:Hl):List.lookup ("step":Str) (ak S)=none:=by unfold ak;kernel_rfl
@[simp] theorem SE(S:Hl):List.lookup ("step_behind_a_fall":Str) (ak S)=none:=by unfold ak;kernel_rfl
@[simp] theorem SF(S:Hl):List.lookup ("step_ahead":Str) (ak S)=none:=by unfold ak;kernel_rfl
@[simp] theorem SG(S:Hl):List.lookup ("finish":Str) (ak S)=none:=by unfold ak;kernel_rfl
@[simp] theorem SH(S:Hl):List.lookup ("state":Str) (ak S)=none:=by unfold ak;kernel_rfl
@[simp] theorem SI(S:Hl):List.lookup ("held":Str) (ak S)=none:=by unfold ak;kernel_rfl
@[simp] theorem SJ(S:Hl):List.lookup ("log":Str) (ak S)=none:=by unfold ak;kernel_rfl
@[simp] theorem SK(S:Hl):List.lookup ("waiting":Str) (ak S)=none:=by unfold ak;kernel_rfl
@[simp] theorem SL(S:Hl):List.lookup ("saved":Str) (ak S)=none:=by unfold ak;kernel_rfl
@[simp] theorem SN(S:Hl):(ak S).length=10:=by unfold ak;kernel_rfl
theorem Dd(S:Hl)(x:Option Int):bG ("last":Str) (.d (cf x)) (ak S)=ak { S with last:=x }:=by unfold ak;kernel_rfl
theorem De(S:Hl)(x:Option Int):bG ("holder":Str) (.d (cf x)) (ak S)=ak { S with holder:=x }:=by unfold ak;kernel_rfl
theorem Pm(S:Hl)(x:Int):bG ("until":Str) (.d (.int x)) (ak S)=ak { S with til:=x }:=by unfold ak;kernel_rfl
theorem Pn(S:Hl)(x:Int):bG ("holds":Str) (.d (.int x)) (ak S)=ak { S with holds:=x }:=by unfold ak;kernel_rfl
theorem Df(S:Hl)(x:Option (Nat×Nat×Int)):bG ("begun":Str) (.d (gw x)) (ak S)=ak { S with begun:=x }:=by unfold ak;kernel_rfl
theorem Po(S:Hl)(x:List iw):bG ("rows":Str) (.l (x.map dH)) (ak S)=ak { S with rows:=x }:=by unfold ak;kernel_rfl
theorem tT(S:Hl)(x:List ((Nat×Nat)×Wd)):bG ("words":Str) (.m true (eA x)) (ak S)=ak { S with words:=x }:=by unfold ak;kernel_rfl
theorem xz(S:Hl)(x:List Nat):bG ("settled":Str) (.l (x.map bu)) (ak S)=ak { S with settled:=x }:=by unfold ak;kernel_rfl
@[simp] theorem SO(S:Hl):bG ("last":Str) (.d .none) (ak S)=ak { S with last:=none }:=Dd S none
@[simp] theorem SQ(S:Hl)(i:Int):bG ("last":Str) (.d (.int i)) (ak S)=ak { S with last:=some i }:=Dd S (some i)
@[simp] theorem SR(S:Hl):bG ("holder":Str) (.d .none) (ak S)=ak { S with holder:=none }:=De S none
@[simp] theorem SS(S:Hl)(i:Int):bG ("holder":Str) (.d (.int i)) (ak S)=ak { S with holder:=some i }:=De S (some i)
@[simp] theorem SU(S:Hl)(i:Int):bG ("until":Str) (.d (.int i)) (ak S)=ak { S with til:=i }:=Pm S i
@[simp] theorem SV(S:Hl)(i:Int):bG ("holds":Str) (.d (.int i)) (ak S)=ak { S with holds:=i }:=Pn S i
@[simp] theorem SW(S:Hl):bG ("begun":Str) (.d .none) (ak S)=ak { S with begun:=none }:=Df S none
@[simp] theorem SX(S:Hl)(d c:Nat)(h:Int):bG ("begun":Str) (.d (.tuple [.int d,.int c,.int h])) (ak S)=ak { S with begun:=some (d,c,h) }:=Df S (some (d,c,h))
section
variable{C:Addr}{io:Bool}{S:Hl}{U:ai}
@[simp] theorem SY{fs:List (Str×Fl)}:cn C (some (.own io (.o C fs))::U) 0=some (io,fs):=by simp[cn]
@[simp] theorem SZ{x y:Option ag}{fs:List (Str×Fl)}:cn C (x::y::some (.own io (.o C fs))::U) 2=some (io,fs):=by simp[cn]
@[simp] theorem Ta{f:Str}{d:PyData}{fs:List (Str×Fl)}(h:fs.lookup f=some (.d d)):cw C 0 f (some (.own io (.o C fs))::U)=.ok d (some (.own io (.o C fs))::U):=by simp[cw,h]
@[simp] theorem Tb:isNone .none=true:=by simp only[isNone]
@[simp] theorem Tc(i:Int):isNone (.int i)=false:=by simp only[isNone]
@[simp] theorem Td(b:Bool):isNone (.bool b)=false:=by simp only[isNone]
@[simp] theorem Te(x:Str):isNone (.str x)=false:=by simp only[isNone]
@[simp] theorem Tf(l:List PyData):isNone (.tuple l)=false:=by simp only[isNone]
@[simp] theorem Tg(l:List PyData):isNone (.list l)=false:=by simp only[isNone]
@[simp] theorem Th(x:Option Int):isNone (cf x)=x.isNone:=by cases x<;>simp[cf]
@[simp] theorem Ti(x:Option (Nat×Nat×Int)):isNone (gw x)=x.isNone:=by rcases x with _ | ⟨_,_,_⟩<;>simp[gw]
end
theorem Pp{d:PyData}(h:dW d=true):rB [.dat d]=.rt (.dat (.bool (dc d 0 3))) []:=by simp[aE,rB,ww,jG h]
theorem Pq{d:PyData}(h:dW d=true):rC [.dat d]=.rt (.dat (.bool (dc d 1 99))) []:=by simp[aE,rC,wx,jG h]
theorem Dg{d:PyData}(h:dW d=true):rM [.dat d]=if dc d 0 3=true then .rt (.dat .none) [] else .ex "NoRunner" []:=by simp only[rM,wG];cases a:dc d 0 3<;>simp[aE,Pp h,a]
theorem xA{d:PyData}(h:dW d=true):rN [.dat d]=if dc d 1 99=true then .rt (.dat .none) [] else .ex "NoTerm" []:=by simp only[rN,wH];cases a:dc d 1 99<;>simp[aE,Pq h,a]
noncomputable def gJ(S:Hl)(m:Int):Bool:=S.holder.isSome&&decide (m<S.til)
noncomputable def tU(S:Hl)(m:Int):Bool:=match S.last with
 | some l=>decide (m<l)
 | none=>false
section
variable{C:Addr}{S:Hl}{r m:Int}{d:PyData}
theorem nz:oN C [.own true (hB C S),.dat (.int m)]=.rt (.dat (.bool (gJ S m))) [hB C S]:=by unfold gJ;cases h:S.holder<;>simp[oN,wq,h,cf]
theorem Pr{r:PyData}(b:dW r=true)(c:dc r 0 3=true)(e:dc (.int m) 0 9999=true)(a:tU S m=false):ir C [.own true (hB C S),.dat r,.dat (.int m)]=.rt (.dat .none) [hB C S]:=by
 unfold tU at a;cases h:S.last with
 | none=>simp[ir,rS,Dg b,c,CI (d:=.int m) rfl,e,h,cf]
 | some l=>rw[h] at a;simp at a;simp[ir,rS,Dg b,c,CI (d:=.int m) rfl,e,h,cf,show ¬ m<l by omega]
theorem tV(x:Option Int)(r:Int):aE true (cf x) (.int r)=some (.bool (!decide (x=some r))):=by
 cases x with
 | none=>simp[cf,aE,lQ,show SeqAt.shaped .none=true from rfl,PyData.eqv]
 | some i=>simp[cf,Pa]
theorem Ps(h:ir C [.own true (hB C S),.dat (.int r),.dat (.int m)]=.rt (.dat .none) [hB C S])(a:(gJ S m&&decide (S.holder=some r))=false):eM C [.own true (hB C S),.dat (.int r),.dat (.int m)]=.ex "NotHolder" [hB C S]:=by
 cases b:gJ S m with
 | false=>simp[eM,oY,bP,cE,h,nz,b]
 | true=>rw[b] at a;simp at a;simp[eM,oY,bP,cE,h,nz,b,tV,a]
theorem Pt(h:ir C [.own true (hB C S),.dat (.int r),.dat (.int m)]=.rt (.dat .none) [hB C S])(a:gJ S m=true)(b:S.holder=some r):eM C [.own true (hB C S),.dat (.int r),.dat (.int m)]=.rt (.dat .none) [hB C S]:=by simp[eM,oY,bP,cE,h,nz,a,tV,b]
noncomputable def tW(S:Hl)(r m t:Int):Hl×Bool:=if gJ S m=false then({ S with last:=some m,holds:=S.holds+1,holder:=some r,til:=m+t },true) else if S.holder=some r then({ S with last:=some m,holder:=some r,til:=m+t },true) else({ S with last:=some m },false)
theorem Pu{t:Int}(h:ir C [.own true (hB C S),.dat (.int r),.dat (.int m)]=.rt (.dat .none) [hB C S])(e:dc (.int t) 1 99=true):lM C [.own true (hB C S),.dat (.int r),.dat (.int m),.dat (.int t)]=.rt (.dat (.bool (tW S r m t).2)) [hB C (tW S r m t).1]:=by
 unfold tW;have f:gJ { S with last:=some m } m=gJ S m:=rfl;cases a:gJ S m with
 | false=>simp[lM,oZ,bP,cE,h,xA (d:=.int t) rfl,e,cJ,fx,eL,nz,f,a,rf]
 | true=>
  by_cases b:S.holder=some r
  ·have c:m<S.til:=by unfold gJ at a;simp[b] at a;exact a
   simp[lM,oZ,bP,cE,h,xA (d:=.int t) rfl,e,cJ,fx,eL,nz,gJ,c,tV,b]
  ·simp[lM,oZ,bP,cE,h,xA (d:=.int t) rfl,e,cJ,fx,eL,nz,f,a,tV,b]
theorem Pw{c:Str}{m:PyData}(h:eM C [.own true (hB C S),.dat d,.dat m]=.ex c [hB C S]):kz C [.own true (hB C S),.dat d,.dat m]=.ex c [hB C S]:=by simp[kz,rX,bP,cE,h]
theorem Px{r m:Int}(h:eM C [.own true (hB C S),.dat (.int r),.dat (.int m)]=.rt (.dat .none) [hB C S]):kz C [.own true (hB C S),.dat (.int r),.dat (.int m)]=.rt (.dat .none) [hB C { S with last:=some m,holder:=none }]:=by simp[kz,rX,bP,cE,h,cJ,fx,eL]
theorem Py{c:Str}{m:PyData}(h:eM C [.own true (hB C S),.dat d,.dat m]=.ex c [hB C S]):iU C [.own true (hB C S),.dat d,.dat m]=.ex c [hB C S]:=by simp[iU,nq,bP,cE,h]
theorem Pz{c:Str}{m:PyData}(h:eM C [.own true (hB C S),.dat d,.dat m]=.ex c [hB C S]):iS C [.own true (hB C S),.dat d,.dat m]=.ex c [hB C S]:=by simp[iS,pd,bP,cE,h]
noncomputable abbrev xB(S:Hl):PyData:=.tuple [cf S.holder,.int S.til,.int S.holds]
theorem Dh:ku C [.own true (hB C S)]=.rt (.dat (xB S)) [hB C S]:=by simp[ku,wr,show(3:Nat)<=sizeLine from by decide]
theorem PB:oO C [.own true (hB C S)]=.rt (.dat (.list (S.rows.map dH))) [hB C S]:=by simp[oO,wt,rg]
end
@[irreducible] noncomputable def kF(z d:PyData):List (Str×Fl):=[]
@[irreducible] noncomputable def kG(z d:PyData):List (Str×Fl):=[("zone",.d z)]
@[irreducible] noncomputable def kH(z d:PyData):List (Str×Fl):=[("zone",.d z),("deeds",.d d)]
@[irreducible] noncomputable def kI(z d:PyData):List (Str×Fl):=[("zone",.d z),("deeds",.d d),("last",.d .none)]
@[irreducible] noncomputable def kJ(z d:PyData):List (Str×Fl):=[("zone",.d z),("deeds",.d d),("last",.d .none),("holder",.d .none)]
@[irreducible] noncomputable def kK(z d:PyData):List (Str×Fl):=[("zone",.d z),("deeds",.d d),("last",.d .none),("holder",.d .none),("until",.d (.int 0))]
@[irreducible] noncomputable def kL(z d:PyData):List (Str×Fl):=[("zone",.d z),("deeds",.d d),("last",.d .none),("holder",.d .none),("until",.d (.int 0)),("holds",.d (.int 0))]
@[irreducible] noncomputable def kM(z d:PyData):List (Str×Fl):=[("zone",.d z),("deeds",.d d),("last",.d .none),("holder",.d .none),("until",.d (.int 0)),("holds",.d (.int 0)),("begun",.d .none)]
@[irreducible] noncomputable def kN(z d:PyData):List (Str×Fl):=[("zone",.d z),("deeds",.d d),("last",.d .none),("holder",.d .none),("until",.d (.int 0)),("holds",.d (.int 0)),("begun",.d .none),("rows",.l [])]
@[irreducible] noncomputable def kO(z d:PyData):List (Str×Fl):=[("zone",.d z),("deeds",.d d),("last",.d .none),("holder",.d .none),("until",.d (.int 0)),("holds",.d (.int 0)),("begun",.d .none),("rows",.l []),("words",.m true [])]
@[simp] theorem Tj(z d:PyData):List.lookup ("zone":Str) (kF z d)=none:=by unfold kF;kernel_rfl
@[simp] theorem Tk(z d:PyData):(kF z d).length=0:=by unfold kF;kernel_rfl
@[simp] theorem Tl(z d:PyData):bG ("zone":Str) (.d z) (kF z d)=kG z d:=by unfold kF kG;kernel_rfl
@[simp] theorem Tn(z d:PyData):List.lookup ("deeds":Str) (kG z d)=none:=by unfold kG;kernel_rfl
@[simp] theorem To(z d:PyData):(kG z d).length=1:=by unfold kG;kernel_rfl
@[simp] theorem Tp(z d:PyData):bG ("deeds":Str) (.d d) (kG z d)=kH z d:=by unfold kG kH;kernel_rfl
@[simp] theorem Tq(z d:PyData):List.lookup ("last":Str) (kH z d)=none:=by unfold kH;kernel_rfl
@[simp] theorem Tr(z d:PyData):(kH z d).length=2:=by unfold kH;kernel_rfl
@[simp] theorem Ts(z d:PyData):bG ("last":Str) (.d .none) (kH z d)=kI z d:=by unfold kH kI;kernel_rfl
@[simp] theorem Tt(z d:PyData):List.lookup ("holder":Str) (kI z d)=none:=by unfold kI;kernel_rfl
@[simp] theorem Tu(z d:PyData):(kI z d).length=3:=by unfold kI;kernel_rfl
@[simp] theorem Tv(z d:PyData):bG ("holder":Str) (.d .none) (kI z d)=kJ z d:=by unfold kI kJ;kernel_rfl
@[simp] theorem Tw(z d:PyData):List.lookup ("until":Str) (kJ z d)=none:=by unfold kJ;kernel_rfl
@[simp] theorem Tz(z d:PyData):(kJ z d).length=4:=by unfold kJ;kernel_rfl
@[simp] theorem TB(z d:PyData):bG ("until":Str) (.d (.int 0)) (kJ z d)=kK z d:=by unfold kJ kK;kernel_rfl
@[simp] theorem TC(z d:PyData):List.lookup ("holds":Str) (kK z d)=none:=by unfold kK;kernel_rfl
@[simp] theorem TD(z d:PyData):(kK z d).length=5:=by unfold kK;kernel_rfl
@[simp] theorem TF(z d:PyData):bG ("holds":Str) (.d (.int 0)) (kK z d)=kL z d:=by unfold kK kL;kernel_rfl
@[simp] theorem TH(z d:PyData):List.lookup ("begun":Str) (kL z d)=none:=by unfold kL;kernel_rfl
@[simp] theorem TJ(z d:PyData):(kL z d).length=6:=by unfold kL;kernel_rfl
@[simp] theorem TK(z d:PyData):bG ("begun":Str) (.d .none) (kL z d)=kM z d:=by unfold kL kM;kernel_rfl
@[simp] theorem TL(z d:PyData):List.lookup ("rows":Str) (kM z d)=none:=by unfold kM;kernel_rfl
@[simp] theorem TM(z d:PyData):(kM z d).length=7:=by unfold kM;kernel_rfl
@[simp] theorem TN(z d:PyData):bG ("rows":Str) (.l []) (kM z d)=kN z d:=by unfold kM kN;kernel_rfl
@[simp] theorem TQ(z d:PyData):List.lookup ("words":Str) (kN z d)=none:=by unfold kN;kernel_rfl
@[simp] theorem TR(z d:PyData):(kN z d).length=8:=by unfold kN;kernel_rfl
@[simp] theorem TU(z d:PyData):bG ("words":Str) (.m true []) (kN z d)=kO z d:=by unfold kN kO;kernel_rfl
@[simp] theorem TV(z d:PyData):List.lookup ("settled":Str) (kO z d)=none:=by unfold kO;kernel_rfl
@[simp] theorem TW(z d:PyData):(kO z d).length=9:=by unfold kO;kernel_rfl
noncomputable def ff(a:Int)(c:Sh)(b:List bZ):Hl:=⟨a,c,b,none,none,0,0,none,[],[],List.replicate b.length 0⟩
theorem PC(a:Int)(c:Sh)(b:List bZ):bG ("settled":Str) (.l ((List.replicate b.length (0:Nat)).map bu)) (kO (cL a c) (df b))=ak (ff a c b):=by unfold kO ak ff;kernel_rfl
theorem Di{C:Addr}:∀(l a:List PyData) (U:ai),(∃x,U=[x])->a.length+l.length<=sizeLine->dD (aI 0) hF (rZ C) l a U=some (a++(List.replicate l.length (0:Nat)).map bu)
 | [],a,U,_,_=>by simp[dD]
 | d::l,a,U,⟨x,hx⟩,b=>by
  subst hx;simp only[List.length_cons] at b;have c:=Di (C:=C) l (a++[.int 0]) [some (.dat d)] ⟨_,rfl⟩ (by simp;omega);have e:rZ C [some (.dat d)]=.ok (.int 0) [some (.dat d)]:=by simp[rZ]
  rw[dD];simp[hF,e,show a.length<sizeLine by omega,c,List.replicate_succ]
theorem PD{C:Addr}{a:Int}{c:Sh}{b:List bZ}(e:ni [.dat (cL a c)]=.rt (.dat .none) [])(hd:pb [.dat (df b)]=.rt (.dat .none) [])(i:b.length<=6):se C [.own true (.o C []),.dat (cL a c),.dat (df b)]=.rt (.dat .none) [hB C (ff a c b)]:=by
 have sz:1000<sizeLine:=by decide
 have f:([]:List (Str×Fl))=kF (cL a c) (df b):=by unfold kF;rfl
 have g:=Di (C:=C) (b.map dG) [] [none] ⟨_,rfl⟩ (by simp;omega);rw[List.nil_append,List.length_map] at g;have h:df b=.tuple (b.map dG):=by unfold df;rfl
 have d:=PC a c b;rw[f];simp[se,wW,e,hd,cJ,fx,eL,lB,vQ,rh];rw[h] at *;simp[g,show b.length<=sizeLine by omega] at d ⊢;exact d
def jJ(p:dF):Prop:=hU p
theorem jJ.plan{p:dF}(h:jJ p):hU p:=h
theorem tY{a:Int}{ss:Sh}{p:dF}{c:Nat}(b:ss.length<=6)(ok:jJ p):gG [.dat (cL a ss),.dat (hV p),.dat (.int c)]=.rt (.dat (fC (fc a ss p c))) []:=Ph b ok
theorem iY:PyData.strOk "all" = true:=by decide +kernel
theorem iy:PyData.strOk "last" = true:=by decide +kernel
theorem tZ:PyData.strOk "within" = true:=by decide +kernel
theorem gK:PyData.strOk "begun" = true:=by decide +kernel
theorem kP:PyData.strOk "done" = true:=by decide +kernel
theorem lT:PyData.strOk "left" = true:=by decide +kernel
theorem kQ:PyData.strOk "unsure" = true:=by decide +kernel
theorem PF:PyData.strOk "busy" = true:=by decide +kernel
theorem Dj:PyData.strOk "idle" = true:=by decide +kernel
theorem Dk:(("all":Str)==("all":Str))=true:=by decide +kernel
theorem xD:(("last":Str)==("all":Str))=false:=by decide +kernel
theorem xE:(("last":Str)==("last":Str))=true:=by decide +kernel
theorem PH:(("begun":Str)==("begun":Str))=true:=by decide +kernel
theorem PJ:(("done":Str)==("begun":Str))=false:=by decide +kernel
theorem PL:(("left":Str)==("begun":Str))=false:=by decide +kernel
theorem PM:(("unsure":Str)==("begun":Str))=false:=by decide +kernel
theorem Dl{l:List PyData}{x:Str}(h:SeqAt.shaped (.tuple l)=true)(a:PyData.strOk x=true):aE false (.tuple l) (.str x)=some (.bool false):=by simp[aE,h,lR a,PyData.eqv]
theorem Dm(n:Int):SeqAt.shaped (.tuple [.str "within",.int n])=true:=by unfold SeqAt.shaped;simp[PyData.canLay0,PyData.canLayAll0,PyData.depth,PyData.depthAll,tZ]
noncomputable def iZ(a:Int)(e:Sh)(d:bZ)(c:Nat)(b:Int):Bool:=match d.late with
 | .all=>false
 | .last=>(match fc a e d.plan (c+1) with | some v=>decide (v<=b) | none=>false)
 | .within n=>decide (b - Ci a e d.plan c>n)
theorem PN{a now:Int}{ss:Sh}{d:bZ}{c:Nat}(e:ss.length<=6)(ok:jJ d.plan)(f:∃v,fc a ss d.plan c=some v):lK [.dat (cL a ss),.dat (dG d),.dat (.int c),.dat (.int now)]=.rt (.dat (.bool (iZ a ss d c now))) []:=by
 obtain⟨p,la,g⟩:=d;obtain⟨v,hv⟩:=f;simp only at ok hv;unfold iZ;cases la with
 | all=>simp[lK,nj,bM iY iY,Dk]
 | last=>
  have rt:=tY (a:=a) (ss:=ss) (p:=p) (c:=c+1) e ok;simp at rt;cases b:fc a ss p (c+1) with
  | none=>rw[b] at rt;simp[lK,nj,bM iy iY,bM iy iy,xD,xE,rt,fC,b]
  | some w=>rw[b] at rt;simp[lK,nj,bM iy iY,bM iy iy,xD,xE,rt,fC,b]
 | within n=>have rt:=tY (a:=a) (ss:=ss) (p:=p) (c:=c) e ok;rw[hv] at rt;simp[lK,nj,Dl (Dm n) iY,Dl (Dm n) iy,rt,fC,Ci,hv]
noncomputable def fF:List ((Nat×Nat)×Wd)->(Nat×Nat)->Wd->List ((Nat×Nat)×Wd)
 | [],k,w=>[(k,w)]
 | (a,v)::r,k,w=>if a = k then(a,w)::r else(a,v)::fF r k w
theorem pC(d c:Nat):im true (.tuple [bu d,bu c])=some [Sum.inl (d:Int),Sum.inl (c:Int)]:=rfl
theorem pD{d c a b:Nat}:(im true (.tuple [bu a,bu b])=some [Sum.inl (d:Int),Sum.inl (c:Int)])↔(a,b)=(d,c):=by
 rw[pC];constructor
 ·intro h;simp only[Option.some.injEq,List.cons.injEq,Sum.inl.injEq,and_true] at h;have h1:=h.1;have h2:=h.2;have e:a = d:=by omega
  have f:b = c:=by omega
  rw[e,f]
 ·intro h;cases h;rfl
theorem Dn(d c:Nat):∀e:List ((Nat×Nat)×Wd),kf true (eA e) [Sum.inl (d:Int),Sum.inl (c:Int)]=(e.lookup (d,c)).map fun w=>.str (fE w)
 | []=>rfl
 | ((a,b),w)::r=>by
  unfold eA;rw[List.map_cons,kf];have f:=Dn d c r;unfold eA at f
  by_cases h:(a,b)=(d,c)
  ·rw[if_pos (pD.mpr h)];cases h;simp[List.lookup]
  ·rw[if_neg (fun z=>h (pD.mp z)),f];have:((d,c)==(a,b))=false:=by simpa using fun z:(d=a/\c=b)=>h (by rw[z.1,z.2])
   rw[List.lookup_cons,this]
theorem Do(d c:Nat)(w:Wd):∀a:List ((Nat×Nat)×Wd),(a.map (·.1)).Nodup->(a.lookup (d,c)).isSome=true->lp true [Sum.inl (d:Int),Sum.inl (c:Int)] (.str (fE w)) (eA a)=eA (fF a (d,c) w)
 | [],_,h=>by cases h
 | ((b,f),v)::r,nd,h=>by
  unfold eA;rw[List.map_cons,lp];have tail:∀a:List ((Nat×Nat)×Wd),(d,c)∉a.map (·.1)->lp true [Sum.inl (d:Int),Sum.inl (c:Int)] (.str (fE w)) (eA a)=eA a:=by
   intro a
   induction a with
   | nil=>intro _;rfl
   | cons p r i=>intro g;obtain⟨⟨k,l⟩,m⟩:=p;simp only[List.map_cons,List.mem_cons,not_or] at g;unfold eA;rw[List.map_cons,lp,if_neg (fun z=>g.1 (pD.mp z).symm)];have:=i g.2;unfold eA at this;rw[this]
  by_cases e:(b,f)=(d,c)
  ·cases e;rw[if_pos (pD.mpr rfl),fF,if_pos rfl,List.map_cons];have:=tail r (by simpa using(List.nodup_cons.mp nd).1);unfold eA at this;rw[this]
  ·have j:(r.lookup (d,c)).isSome=true:=by
    have:((d,c)==(b,f))=false:=by simpa using fun z:(d=b/\c=f)=>e (by rw[z.1,z.2])
    rw[List.lookup_cons,this] at h;exact h
   rw[if_neg (fun z=>e (pD.mp z)),fF,if_neg e,List.map_cons];have:=Do d c w r (List.nodup_cons.mp nd).2 j;unfold eA at this;rw[this]
theorem Dp(k:Nat×Nat)(w:Wd):∀a:List ((Nat×Nat)×Wd),a.lookup k=none->fF a k w=a++[(k,w)]
 | [],_=>rfl
 | (b,v)::r,h=>by
  rw[List.lookup_cons] at h
  by_cases e:k=b
  ·subst e;simp at h
  ·have:(k==b)=false:=by simpa using e
   rw[this] at h;rw[fF,if_neg (fun z=>e z.symm),Dp k w r h];rfl
theorem PP{ws:List ((Nat×Nat)×Wd)}{d c:Nat}{w:Wd}(a:(ws.map (·.1)).Nodup):kg true (eA ws) (.tuple [bu d,bu c]) [Sum.inl (d:Int),Sum.inl (c:Int)] (.str (fE w))=eA (fF ws (d,c) w):=by
 unfold kg;rw[Dn];cases h:ws.lookup (d,c) with
 | none=>rw[Dp _ _ _ h];simp[eA]
 | some v=>simp only[Option.map_some,Option.isSome_some,if_true];exact Do d c w ws a (by rw[h];rfl)
theorem xF(k:Nat×Nat)(w:Wd):∀a:List ((Nat×Nat)×Wd),(fF a k w).map (·.1)=if k∈a.map (·.1) then a.map (·.1) else a.map (·.1)++[k]
 | []=>by simp[fF]
 | (b,v)::r=>by
  rw[fF]
  by_cases e:b = k
  ·subst e;simp
  ·rw[if_neg e,List.map_cons,xF k w r]
   by_cases h:k∈r.map (·.1)
   ·rw[if_pos h];rw[if_pos (by simp[h])];rfl
   ·rw[if_neg h,if_neg (by
     simp only[List.map_cons,List.mem_cons,not_or];exact⟨fun z=>e z.symm,h⟩)];rfl
theorem PQ{k:Nat×Nat}{w:Wd}{c:List ((Nat×Nat)×Wd)}(d:(c.map (·.1)).Nodup):((fF c k w).map (·.1)).Nodup:=by
 rw[xF];split
 ·exact d
 ·rename_i h;exact List.nodup_append.mpr ⟨d,by simp,fun a f b e z=>by simp at e;subst e;subst z;exact h f⟩
theorem PR(k:Nat×Nat)(w:Wd)(a:List ((Nat×Nat)×Wd)):(fF a k w).length<=a.length+1:=by have:=congrArg List.length (xF k w a);rw[List.length_map] at this;rw[this];split<;>simp
noncomputable def cM(S:Hl)(r:iw):Hl:={ S with rows:=S.rows++[r],words:=fF S.words (r.dd,r.ct) r.wd,begun:=if r.wd=.begun then some (r.dd,r.ct,S.holds) else none,settled:=if r.wd=.begun then S.settled else S.settled.set r.dd (r.ct+1) }
theorem iz{x y z v:PyData}{l:List PyData}:bE (x::y::z::v::l) 3=some v:=by unfold bE cp;rw[if_pos (by omega),if_pos (by simp<;>omega)];rfl
theorem jK{x y z v u:PyData}{l:List PyData}:bE (x::y::z::v::u::l) 4=some u:=by unfold bE cp;rw[if_pos (by omega),if_pos (by simp<;>omega)];rfl
theorem PU(S:Hl)(r:iw):bG ("rows":Str) (.l (S.rows.map dH++[dH r])) (ak S)=ak { S with rows:=S.rows++[r] }:=by rw[show S.rows.map dH++[dH r]=(S.rows++[r]).map dH by simp];exact Po S _
theorem pE{C:Addr}{S:Hl}{r:iw}(i:S.rows.length<1000000)(j:S.words.length<1000000)(h:(S.words.map (·.1)).Nodup)(hd:r.dd<S.settled.length):gr C [.own true (hB C S),.dat (dH r)]=.rt (.dat (.tuple [.str (fE r.wd),bu r.dd,bu r.ct])) [hB C (cM S r)]:=by
 have sz:1000000<sizeLine:=by decide
 obtain⟨mo,ru,wd,a,g⟩:=r;have b:=PP (ws:=S.words) (d:=a) (c:=g) (w:=wd) h;have l1:(eA S.words).length<sizeLine:=by unfold eA;rw[List.length_map];omega
 have e:=PU S ⟨mo,ru,wd,a,g⟩;simp only at hd;have f:cp S.settled.length (a:Int)=some a:=by unfold cp;rw[if_pos (by omega),if_pos (by omega)];simp
 have st:(S.settled.map bu).set a (.int ((g:Int)+1))=(S.settled.set a (g+1)).map bu:=by rw[List.map_set];simp[bu]
 unfold cM;cases wd
 ·simp[gr,mW,iz,jK,ly,ei,mI,show S.rows.length<sizeLine by omega,e,mK,lz,pC,l1,b,tT,cJ,fx,eL,show(3:Nat)<=sizeLine by omega,mL,lA,f,st,bM gK gK,PH]
 ·simp[gr,mW,iz,jK,ly,ei,mI,show S.rows.length<sizeLine by omega,e,mK,lz,pC,l1,b,tT,cJ,fx,eL,show(3:Nat)<=sizeLine by omega,mL,lA,f,st,bM kP gK,PJ];rw[<-List.map_set];exact xz _ _
 ·simp[gr,mW,iz,jK,ly,ei,mI,show S.rows.length<sizeLine by omega,e,mK,lz,pC,l1,b,tT,cJ,fx,eL,show(3:Nat)<=sizeLine by omega,mL,lA,f,st,bM lT gK,PL];rw[<-List.map_set];exact xz _ _
 ·simp[gr,mW,iz,jK,ly,ei,mI,show S.rows.length<sizeLine by omega,e,mK,lz,pC,l1,b,tT,cJ,fx,eL,show(3:Nat)<=sizeLine by omega,mL,lA,f,st,bM kQ gK,PM];rw[<-List.map_set];exact xz _ _
structure bJ (S:Hl):Prop where
 z:mU S.a S.ss
 dl:S.ds.length<=6
 pl:∀d∈S.ds,jJ d.plan
 sl:S.settled.length=S.ds.length
 nd:(S.words.map (·.1)).Nodup
 bg:∀d c h,S.begun=some (d,c,h)->d<S.ds.length
noncomputable def lU(S:Hl):Bool:=match S.begun with
 | some (_,_,h)=>decide (h=S.holds)
 | none=>false
theorem iA{n N:Nat}{m:SM}{a:List ag}{c:ag}{U:ai}{o:List Bx}(b:a.length=n)(d:m (a.map some++List.replicate (N - n) none)=.rt c U)(e:cy a U=some o):bp n N m a=.rt c o:=by unfold bp;rw[if_pos b,d];simp only[e]
theorem Dq{j:Int}(a:-4611686018427387904<=j)(b:j<4611686018427387904):dB [.int j]=some (L3.intsFrom 0 j.toNat):=by show(if _ then _ else _)=_;rw[if_pos (by rw[decide_eq_true (show -(2 ^ 62)<=j by omega),decide_eq_true (show j<2 ^ 62 by omega)];rfl)]
section
variable{C:Addr}{S:Hl}
theorem xG:mY C [.own true (hB C S)]=.rt (.dat (.bool (lU S))) [hB C S]:=by
 unfold lU;cases h:S.begun with
 | none=>simp[mY,rA,h,gw]
 | some p=>obtain⟨d,c,k⟩:=p;simp[mY,rA,h,gw,iu]
theorem xH{a:List bZ}{k:Nat}(h:k<a.length):aB (df a) (.int k)=some (dG a[k]):=by
 unfold df;have:bE (a.map dG) (k:Int)=some (dG a[k]):=by unfold bE cp;rw[if_pos (by omega),if_pos (by simp;omega)];simp[h]
 simp[aB,this]
theorem Dr{l:List Nat}{k:Nat}(h:k<l.length):bE (l.map bu) (k:Int)=some (bu l[k]):=by unfold bE cp;rw[if_pos (by omega),if_pos (by simp;omega)];simp[h]
noncomputable def cm(S:Hl)(k:Nat):Nat:=S.settled.getD k 0
noncomputable def pF(S:Hl)(k:Nat):Option (List Int):=match S.ds[k]? with
 | some d=>(fc S.a S.ss d.plan (cm S k)).map fun v=>[v,(k:Int),(cm S k:Int)]
 | none=>none
noncomputable def fG(S:Hl):List (List Int):=(List.range S.ds.length).filterMap (pF S)
noncomputable abbrev cV(r:List Int):PyData:=.tuple (r.map PyData.int)
theorem xI(ok:bJ S):∀(n k:Nat) (b:List (List Int)) (m f g:Option ag),k+n=S.ds.length->b.length<=k->∃h i j,di (aI 2) (ky C) (L3.intsFrom (k:Int) n) [some (.own true (hB C S)),some (.own false (.l (b.map cV))),m,f,g]=.nx [some (.own true (hB C S)),some (.own false (.l ((b++(List.range' k n).filterMap (pF S)).map cV))),h,i,j]
 | 0,k,b,m,f,g,_,_=>⟨m,f,g,by simp[L3.intsFrom,di]⟩
 | n+1,k,b,m,f,g,t,u=>by
  have sz:1000<sizeLine:=by decide
  have d:k<S.ds.length:=by omega
  have hs:k<S.settled.length:=by rw[ok.sl];exact d
  have dl:=ok.dl;have q:jJ (S.ds[k]).plan:=ok.pl _ (List.getElem_mem d);have r:cm S k=S.settled[k]:=by unfold cm;rw[List.getD_eq_getElem?_getD,List.getElem?_eq_getElem hs];rfl
  have rt:=tY (a:=S.a) (ss:=S.ss) (p:=(S.ds[k]).plan) (c:=S.settled[k]) ok.z.len q;have as:=Dr (l:=S.settled) hs;have s:pF S k=(fc S.a S.ss (S.ds[k]).plan S.settled[k]).map fun v=>[v,(k:Int),((S.settled[k]:Nat):Int)]:=by unfold pF;rw[List.getElem?_eq_getElem d,<-r]
  rw[xx,di,List.range'_succ,List.filterMap_cons,s];cases ht:fc S.a S.ss (S.ds[k]).plan S.settled[k] with
  | none=>
   rw[ht] at rt;have e:ky C [some (.own true (hB C S)),some (.own false (.l (b.map cV))),some (.dat (.int k)),f,g]=.nx [some (.own true (hB C S)),some (.own false (.l (b.map cV))),some (.dat (.int k)),some (.dat (bu S.settled[k])),some (.dat .none)]:=by simp[-aB,ky,oD,ei,as,xH d];simp[rt,fC]
   obtain⟨h,i,j,o⟩:=xI ok n (k+1) b (some (.dat (.int k))) (some (.dat (bu S.settled[k]))) (some (.dat .none)) (by omega) (by omega);refine⟨h,i,j,?_⟩;simp only[Option.map_none];rw[<-o];simp[e]
  | some v=>
   rw[ht] at rt;have e:ky C [some (.own true (hB C S)),some (.own false (.l (b.map cV))),some (.dat (.int k)),f,g]=.nx [some (.own true (hB C S)),some (.own false (.l ((b++[[v,(k:Int),((S.settled[k]:Nat):Int)]]).map cV))),some (.dat (.int k)),some (.dat (bu S.settled[k])),some (.dat (.int v))]:=by simp[-aB,ky,oD,ei,as,xH d];simp[rt,fC,show b.length<sizeLine by omega,show(3:Nat)<=sizeLine by omega]
   obtain⟨h,i,j,o⟩:=xI ok n (k+1) (b++[[v,(k:Int),((S.settled[k]:Nat):Int)]]) (some (.dat (.int k))) (some (.dat (bu S.settled[k]))) (some (.dat (.int v))) (by omega) (by simp;omega);refine⟨h,i,j,?_⟩;simp only[Option.map_some];rw[List.append_assoc,List.singleton_append] at o;rw[<-o];simp[e]
theorem Ds:∀a:List Int,lC (a.map PyData.int)=some a
 | []=>rfl
 | n::a=>by rw[List.map_cons,lC,Ds a];rfl
theorem Dt:∀a:List (List Int),kn (a.map cV)=some a
 | []=>rfl
 | r::a=>by rw[List.map_cons,kn,Ds,Dt a]
noncomputable def nA:List (List Int)->PyData
 | []=>.none
 | r::a=>cV (fV a r)
theorem PV:(cT dI (aj (cw C 0 "deeds") aL)) [some (.own true (hB C S)),some (.own false (.l [])),none,none,none]=.ok (.int S.ds.length) [some (.own true (hB C S)),some (.own false (.l [])),none,none,none]:=by simp[df]
theorem PX{U:ai}{a:List (List Int)}(h:U[1]? = some (some (.own false (.l (a.map cV))))):ko 1 U=.ok (nA a) U:=by unfold ko jz;rw[h];simp only[Dt];cases a<;>rfl
theorem PY{n:Int}(h:0<=n)(i:n<=1000){m:XM PyData}{g:GM}{b:SM}{U a:ai}(c:m U=.ok (.int n) U)(d:di g b (L3.intsFrom 0 n.toNat) U=.nx a):iK (hD dB (aj m aL)) g b U=.nx a:=by
 have e:(aj m aL) U=.ok [.int n] U:=by show gk.bind (m U) _=_;rw[c];rfl
 have f:hD dB (aj m aL) U=.ok (L3.intsFrom 0 n.toNat) U:=by show gk.bind ((aj m aL) U) _=_;rw[e];show L3.lift (dB [.int n]) U=_;rw[Dq (by omega) (by omega)];rfl
 show en (hD dB (aj m aL) U) _=_;rw[f];exact d
theorem PZ(ok:bJ S):wS C [.own true (hB C S)]=.rt (.dat (nA (fG S))) [hB C S]:=by
 have dl:=ok.dl;obtain⟨a,b,c,g⟩:=xI (C:=C) ok S.ds.length 0 [] none none none (by omega) (by simp);rw[List.nil_append,<-List.range_eq_range'] at g;change di _ _ (L3.intsFrom 0 S.ds.length) [_,some (.own false (.l [])),_,_,_]=eW.nx [_,some (.own false (.l ((fG S).map cV))),_,_,_] at g;have d:=PY (m:=cT dI (aj (cw C 0 "deeds") aL)) (by omega) (by omega) (PV (C:=C) (S:=S)) (by rw[Int.toNat_natCast];exact g);have e:gZ 1 (ke aL) [some (.own true (hB C S)),none,none,none,none]=.nx [some (.own true (hB C S)),some (.own false (.l [])),none,none,none]:=by simp
 have f:bc (ko 1) [some (.own true (hB C S)),some (.own false (.l ((fG S).map cV))),a,b,c]=.rt (.dat (nA (fG S))) [some (.own true (hB C S)),some (.own false (.l ((fG S).map cV))),a,b,c]:=by show en (ko 1 _) _=_;rw[PX rfl];rfl
 have h:(av (gZ 1 (ke aL)) (av (iK (hD dB (aj (cT dI (aj (cw C 0 "deeds") aL)) aL)) (aI 2) (ky C)) (bc (ko 1)))) [some (.own true (hB C S)),none,none,none,none]=.rt (.dat (nA (fG S))) [some (.own true (hB C S)),some (.own false (.l ((fG S).map cV))),a,b,c]:=by rw[bD e,bD d,f]
 exact iA (n:=1) (N:=5) rfl h rfl
end
theorem xJ:∀(a:List (List Int)) (r:List Int),fV a r=r\/fV a r∈a
 | [],r=>.inl rfl
 | x::a,r=>by
  rw[fV];rcases xJ a (if HT.lexLt x r=true then x else r) with h | h
  ·rw[h];split
   ·exact .inr List.mem_cons_self
   ·exact .inl rfl
  ·exact .inr (bQ _ h)
theorem nB(a:List bZ):df a=.tuple (a.map dG):=by unfold df;rfl
theorem ua{a:List bZ}{k:Nat}(h:k<a.length):bE (a.map dG) (k:Int)=some (dG a[k]):=by unfold bE cp;rw[if_pos (by omega),if_pos (by simp;omega)];simp[h]
section
variable{C:Addr}{S:Hl}{r m:Int}
theorem Du{x:List Int}(h:x∈fG S):∃k v,∃c:k<S.ds.length,fc S.a S.ss (S.ds[k]).plan (cm S k)=some v/\x=[v,(k:Int),(cm S k:Int)]:=by unfold fG at h;obtain⟨k,c,e⟩:=List.mem_filterMap.mp h;have b:=List.mem_range.mp c;unfold pF at e;rw[List.getElem?_eq_getElem b] at e;obtain⟨v,hv,d⟩:=Option.map_eq_some_iff.mp e;exact⟨k,v,b,hv,d.symm⟩
noncomputable def kR(S:Hl):Option (Int×Nat):=match fG S with
 | []=>none
 | x::a=>(match fV a x with
  | [v,k,_]=>some (v,k.toNat)
  | _=>none)
theorem Qa(h:kR S=none):fG S=[]:=by
 unfold kR at h;cases a:fG S with
 | nil=>rfl
 | cons x b=>
  rw[a] at h;have c:fV b x∈fG S:=by
   rw[a];rcases xJ b x with e | e
   ·rw[e];exact List.mem_cons_self
   ·exact bQ _ e
  obtain⟨k,v,d,_,e⟩:=Du c;simp only[e] at h;cases h
theorem xK{v:Int}{k:Nat}(h:kR S=some (v,k)):∃d:k<S.ds.length,fc S.a S.ss (S.ds[k]).plan (cm S k)=some v/\∃x b,fG S=x::b/\fV b x=[v,(k:Int),(cm S k:Int)]:=by
 unfold kR at h;cases c:fG S with
 | nil=>rw[c] at h;cases h
 | cons x b=>
  rw[c] at h;have f:fV b x∈fG S:=by
   rw[c];rcases xJ b x with e | e
   ·rw[e];exact List.mem_cons_self
   ·exact bQ _ e
  obtain⟨g,i,d,ht,e⟩:=Du f;simp only[e,Option.some.injEq,Prod.mk.injEq,Int.toNat_natCast] at h;obtain⟨rfl,rfl⟩:=h;exact⟨d,ht,x,b,rfl,e⟩
noncomputable def gL(S:Hl)(r m:Int):Hl×PyData:=match kR S with
 | none=>(S,.tuple [.str "idle",.none])
 | some (v,k)=>if m<v then(S,.tuple [.str "idle",.int v]) else
  (match S.ds[k]? with
  | some d=>(cM S ⟨m,r,if iZ S.a S.ss d (cm S k) m=true then .left else .begun,k,cm S k⟩,.tuple [.str (fE (if iZ S.a S.ss d (cm S k) m=true then .left else .begun)),bu k,bu (cm S k)])
  | none=>(S,.none))
theorem Qb(ok:bJ S)(i:S.rows.length<1000000)(j:S.words.length<1000000):lO C [.own true (hB C S),.dat (.int r),.dat (.int m)]=.rt (.dat (gL S r m).2) [hB C (gL S r m).1]:=by
 have sz:1000000<sizeLine:=by decide
 have b:=PZ (C:=C) ok;unfold gL;cases l:kR S with
 | none=>rw[Qa l] at b;simp[lO,nn,dE,b,nA,show(2:Nat)<=sizeLine by omega]
 | some p=>
  obtain⟨v,k⟩:=p;obtain⟨g,ht,x,q,o,e⟩:=xK l;rw[o,nA,e] at b;simp only[cV,List.map_cons,List.map_nil] at b
  by_cases hv:m<v
  ·simp[lO,nn,dE,b,hv,show(2:Nat)<=sizeLine by omega]
  ·have lo:=PN (a:=S.a) (ss:=S.ss) (d:=S.ds[k]) (c:=cm S k) (now:=m) ok.z.len (ok.pl _ (List.getElem_mem g)) ⟨v,ht⟩;simp only[List.getElem?_eq_getElem g];rw[if_neg hv];cases n:iZ S.a S.ss S.ds[k] (cm S k) m with
   | true=>rw[n] at lo;have h:=pE (C:=C) (S:=S) (r:=⟨m,r,.left,k,cm S k⟩) i j ok.nd (by rw[ok.sl];exact g);have f:gr C [.own true (hB C S),.dat (.tuple [.int m,.int r,.str "left",.int k,.int (cm S k)])]=.rt (.dat (.tuple [.str "left",.int k,.int (cm S k)])) [hB C (cM S ⟨m,r,.left,k,cm S k⟩)]:=h;simp[lO,nn,dE,bP,cE,b,nB,ua g,lo,hv,f,show(5:Nat)<=sizeLine by omega]
   | false=>rw[n] at lo;have h:=pE (C:=C) (S:=S) (r:=⟨m,r,.begun,k,cm S k⟩) i j ok.nd (by rw[ok.sl];exact g);have f:gr C [.own true (hB C S),.dat (.tuple [.int m,.int r,.str "begun",.int k,.int (cm S k)])]=.rt (.dat (.tuple [.str "begun",.int k,.int (cm S k)])) [hB C (cM S ⟨m,r,.begun,k,cm S k⟩)]:=h;simp[lO,nn,dE,bP,cE,b,nB,ua g,lo,hv,f,show(5:Nat)<=sizeLine by omega]
noncomputable def lV(S:Hl)(r m:Int)(d c:Nat):Hl×PyData:=match S.ds[d]? with
 | some x=>(cM S ⟨m,r,if x.again=true then .begun else .unsure,d,c⟩,.tuple [.str (fE (if x.again=true then .begun else .unsure)),bu d,bu c])
 | none=>(S,.none)
theorem Qc{d c:Nat}{h:Int}(ok:bJ S)(f:S.rows.length<1000000)(g:S.words.length<1000000)(e:S.begun=some (d,c,h)):oQ C [.own true (hB C S),.dat (.int r),.dat (.int m)]=.rt (.dat (lV S r m d c).2) [hB C (lV S r m d c).1]:=by
 have sz:1000000<sizeLine:=by decide
 have hd:=ok.bg d c h e;unfold lV;simp only[List.getElem?_eq_getElem hd];cases i:(S.ds[d]).again with
 | true=>have b:=pE (C:=C) (S:=S) (r:=⟨m,r,.begun,d,c⟩) f g ok.nd (by rw[ok.sl];exact hd);have a:gr C [.own true (hB C S),.dat (.tuple [.int m,.int r,.str "begun",.int d,.int c])]=.rt (.dat (.tuple [.str "begun",.int d,.int c])) [hB C (cM S ⟨m,r,.begun,d,c⟩)]:=b;simp[oQ,rJ,bP,cE,e,gw,nB,ua hd,i,a,show(5:Nat)<=sizeLine by omega]
 | false=>have b:=pE (C:=C) (S:=S) (r:=⟨m,r,.unsure,d,c⟩) f g ok.nd (by rw[ok.sl];exact hd);have a:gr C [.own true (hB C S),.dat (.tuple [.int m,.int r,.str "unsure",.int d,.int c])]=.rt (.dat (.tuple [.str "unsure",.int d,.int c])) [hB C (cM S ⟨m,r,.unsure,d,c⟩)]:=b;simp[oQ,rJ,bP,cE,e,gw,nB,ua hd,i,a,show(5:Nat)<=sizeLine by omega]
theorem bJ.last(ok:bJ S)(x:Option Int):bJ { S with last:=x }:=⟨ok.z,ok.dl,ok.pl,ok.sl,ok.nd,ok.bg⟩
noncomputable def dR(S:Hl)(r m:Int):Hl×PyData:=match S.begun with
 | some (d,c,h)=>if h=S.holds then({ S with last:=some m },.tuple [.str "busy",bu d,bu c]) else lV { S with last:=some m } r m d c
 | none=>gL { S with last:=some m } r m
theorem Qd(ok:bJ S)(f:S.rows.length<1000000)(g:S.words.length<1000000)(b:eM C [.own true (hB C S),.dat (.int r),.dat (.int m)]=.rt (.dat .none) [hB C S]):iU C [.own true (hB C S),.dat (.int r),.dat (.int m)]=.rt (.dat (dR S r m).2) [hB C (dR S r m).1]:=by
 have sz:1000000<sizeLine:=by decide
 have a:=xG (C:=C) (S:={ S with last:=some m });unfold lU at a;unfold dR;cases hb:S.begun with
 | none=>have i:=Qb (C:=C) (S:={ S with last:=some m }) (r:=r) (m:=m) (ok.last _) f g;simp only[hb] at a i ⊢;simp[iU,nq,bP,dE,cE,b,cJ,fx,eL,a,hb,gw,i]
 | some p=>
  obtain⟨d,c,h⟩:=p;have j:=Qc (C:=C) (S:={ S with last:=some m }) (r:=r) (m:=m) (ok.last _) f g hb;simp only[hb] at a j ⊢
  by_cases e:h=S.holds
  ·rw[if_pos e];rw[decide_eq_true e] at a;simp[iU,nq,bP,dE,cE,b,cJ,fx,eL,a,hb,gw,show(3:Nat)<=sizeLine by omega]
  ·rw[if_neg e];rw[decide_eq_false e] at a;simp[iU,nq,bP,dE,cE,b,cJ,fx,eL,a,hb,gw,j]
theorem Qe(b:eM C [.own true (hB C S),.dat (.int r),.dat (.int m)]=.rt (.dat .none) [hB C S])(c:lU S=false):iS C [.own true (hB C S),.dat (.int r),.dat (.int m)]=.ex "Nothing" [hB C S]:=by have a:=xG (C:=C) (S:=S);rw[c] at a;simp[iS,pd,bP,dE,cE,b,a]
theorem Qf{d c:Nat}(ok:bJ S)(f:S.rows.length<1000000)(g:S.words.length<1000000)(h:eM C [.own true (hB C S),.dat (.int r),.dat (.int m)]=.rt (.dat .none) [hB C S])(e:S.begun=some (d,c,S.holds)):iS C [.own true (hB C S),.dat (.int r),.dat (.int m)]=.rt (.dat (.tuple [.str "done",bu d,bu c])) [hB C (cM { S with last:=some m } ⟨m,r,.done,d,c⟩)]:=by
 have sz:1000000<sizeLine:=by decide
 have b:=xG (C:=C) (S:=S);unfold lU at b;rw[e] at b;simp only[decide_true] at b;have hd:=ok.bg d c _ e;have i:=pE (C:=C) (S:={ S with last:=some m }) (r:=⟨m,r,.done,d,c⟩) f g ok.nd (by show d<S.settled.length;rw[ok.sl];exact hd);have a:gr C [.own true (hB C { S with last:=some m }),.dat (.tuple [.int m,.int r,.str "done",.int d,.int c])]=.rt (.dat (.tuple [.str "done",.int d,.int c])) [hB C (cM { S with last:=some m } ⟨m,r,.done,d,c⟩)]:=i;simp only[e] at a;simp[iS,pd,bP,dE,cE,h,b,cJ,fx,eL,e,gw,a,show(5:Nat)<=sizeLine by omega]
end
@[simp] theorem TX:cu "tuple" "str" = some false:=by decide
@[simp] theorem TY:cu "tuple" "bool" = some false:=by decide
@[simp] theorem TZ:cu "tuple" "list" = some false:=by decide
@[simp] theorem Ua:cu "list" "str" = some false:=by decide
@[simp] theorem Ub:cu "list" "bool" = some false:=by decide
@[simp] theorem Uc:cu "list" "list" = some true:=by decide
@[simp] theorem Ud:cu "NoneType" "str" = some false:=by decide
@[simp] theorem Ue:cu "NoneType" "bool" = some false:=by decide
@[simp] theorem Uf:cu "NoneType" "list" = some false:=by decide
@[simp] theorem Ug:cu "int" "str" = some false:=by decide
@[simp] theorem Uh:cu "int" "list" = some false:=by decide
@[simp] theorem Ui:cu "bool" "str" = some false:=by decide
@[simp] theorem Uj:cu "bool" "list" = some false:=by decide
@[simp] theorem Uk:cu "str" "bool" = some false:=by decide
@[simp] theorem Ul:cu "str" "list" = some false:=by decide
theorem kS:PyData.strOk "take" = true:=by decide +kernel
theorem jb:PyData.strOk "give" = true:=by decide +kernel
theorem jc:PyData.strOk "step" = true:=by decide +kernel
theorem nC:PyData.strOk "finish" = true:=by decide +kernel
theorem Qg:(("take":Str)==("take":Str))=true:=by decide +kernel
theorem Dv:(("give":Str)==("take":Str))=false:=by decide +kernel
theorem Dw:(("give":Str)==("give":Str))=true:=by decide +kernel
theorem Dx:(("step":Str)==("take":Str))=false:=by decide +kernel
theorem Dy:(("step":Str)==("give":Str))=false:=by decide +kernel
theorem Dz:(("step":Str)==("step":Str))=true:=by decide +kernel
theorem DC:(("finish":Str)==("take":Str))=false:=by decide +kernel
theorem DH:(("finish":Str)==("give":Str))=false:=by decide +kernel
theorem DJ:(("finish":Str)==("step":Str))=false:=by decide +kernel
section
variable{C:Addr}{S S':Hl}{d q r m t:PyData}{c:Str}
theorem Qh(h:lM C [.own true (hB C S),.dat r,.dat m,.dat t]=.rt (.dat d) [hB C S']):dU C [.own true (hB C S),.dat (.tuple [.str "take",r,m,t])]=.rt (.dat d) [hB C S']:=by simp[dU,jF,iP,bM kS kS,Qg,bP,cE,h,iz]
theorem Qi(h:kz C [.own true (hB C S),.dat r,.dat m]=.rt (.dat d) [hB C S']):dU C [.own true (hB C S),.dat (.tuple [.str "give",r,m])]=.rt (.dat d) [hB C S']:=by simp[dU,jF,iP,bM jb kS,Dv,bM jb jb,Dw,bP,cE,h]
theorem Qj(h:kz C [.own true (hB C S),.dat r,.dat m]=.ex c [hB C S])(a:c∈er)(b:lI [.exc c]=.rt (.dat q) []):dU C [.own true (hB C S),.dat (.tuple [.str "give",r,m])]=.rt (.dat q) [hB C S]:=by simp[dU,jF,iP,bM jb kS,Dv,bM jb jb,Dw,bP,cE,h,a,b]
theorem Qk(h:iU C [.own true (hB C S),.dat r,.dat m]=.rt (.dat d) [hB C S']):dU C [.own true (hB C S),.dat (.tuple [.str "step",r,m])]=.rt (.dat d) [hB C S']:=by simp[dU,jF,iP,bM jc kS,Dx,bM jc jb,Dy,bM jc jc,Dz,bP,cE,h]
theorem Ql(h:iU C [.own true (hB C S),.dat r,.dat m]=.ex c [hB C S])(a:c∈er)(b:lI [.exc c]=.rt (.dat q) []):dU C [.own true (hB C S),.dat (.tuple [.str "step",r,m])]=.rt (.dat q) [hB C S]:=by simp[dU,jF,iP,bM jc kS,Dx,bM jc jb,Dy,bM jc jc,Dz,bP,cE,h,a,b]
theorem Qm(h:iS C [.own true (hB C S),.dat r,.dat m]=.rt (.dat d) [hB C S']):dU C [.own true (hB C S),.dat (.tuple [.str "finish",r,m])]=.rt (.dat d) [hB C S']:=by simp[dU,jF,iP,bM nC kS,DC,bM nC jb,DH,bM nC jc,DJ,bP,cE,h]
theorem DK(h:iS C [.own true (hB C S),.dat r,.dat m]=.ex c [hB C S])(a:c∈er)(b:lI [.exc c]=.rt (.dat q) []):dU C [.own true (hB C S),.dat (.tuple [.str "finish",r,m])]=.rt (.dat q) [hB C S]:=by simp[dU,jF,iP,bM nC kS,DC,bM nC jb,DH,bM nC jc,DJ,bP,cE,h,a,b]
end
theorem Qn{x:Str}(h:PyData.strOk x=true)(a b:Int):SeqAt.shaped (.tuple [.str x,.int a,.int b])=true:=by unfold SeqAt.shaped;simp[PyData.canLay0,PyData.canLayAll0,PyData.depth,PyData.depthAll,h]
theorem Qo{x:Str}(h:PyData.strOk x=true)(a:Int):SeqAt.shaped (.tuple [.str x,.int a])=true:=by unfold SeqAt.shaped;simp[PyData.canLay0,PyData.canLayAll0,PyData.depth,PyData.depthAll,h]
theorem DL(a b:Bool):aE true (.bool a) (.bool b)=some (.bool (a != b)):=by cases a<;>cases b<;>rfl
theorem DM{x y:Str}(b:PyData.strOk x=true)(a:PyData.strOk y=true):aE true (.str x) (.str y)=some (.bool (x != y)):=by simp[aE,lR b,lR a,CY,bne]
noncomputable def jd:gH->Prop
 | .within n=>0<=n/\n<=999
 | _=>True
theorem Qp{x:gH}(ok:jd x):ng [.dat (kE x)]=.rt (.dat (.bool true)) []:=by
 cases x with
 | all=>simp[ng,oU,bM iY iY,Dk]
 | last=>simp[ng,oU,bM iy iY,bM iy iy,xD,xE]
 | within n=>
  have a:(("within":Str)==("within":Str))=true:=by decide +kernel
  simp[ng,oU,lS tZ tZ,a,jG (d:=.int n) rfl,dc,ok.1,ok.2]
theorem Qq{d:bZ}(a:hU d.plan)(b:jd d.late):rQ [.dat (dG d)]=.rt (.dat (.bool true)) []:=by have h1:=CZ a;have h2:=Qp b;simp[rQ,wL,pz,gc,h1,h2]
theorem DP:∀(b:List bZ) (a:List PyData) (U:ai),(∃x,U=[x])->(∀d∈b,hU d.plan/\jd d.late)->a.length+b.length<=sizeLine->dD (aI 0) hF rT (b.map dG) a U=some (a++(b.map fun _=>PyData.bool true))
 | [],a,U,_,_,_=>by simp[dD]
 | d::b,a,U,⟨x,c⟩,h,e=>by
  subst c;simp only[List.length_cons] at e;have hd:=h d List.mem_cons_self;have f:=DP b (a++[.bool true]) [some (.dat (dG d))] ⟨_,rfl⟩ (fun x c=>h x (bQ _ c)) (by simp;omega);have g:rT [some (.dat (dG d))]=.ok (.bool true) [some (.dat (dG d))]:=by simp[rT,Qq hd.1 hd.2]
  rw[List.map_cons,dD];simp[hF,g,show a.length<sizeLine by omega,f]
theorem DQ:∀n:Nat,bools? (List.replicate n (PyData.bool true))=some (List.replicate n true)
 | 0=>rfl
 | n+1=>by rw[List.replicate_succ,bools?,DQ n];rfl
theorem Qr{ds:List bZ}(b:ds.length<=6)(h:∀d∈ds,hU d.plan/\jd d.late):pb [.dat (df ds)]=.rt (.dat .none) []:=by
 have sz:1000<sizeLine:=by decide
 have g:=DP ds [] [none] ⟨_,rfl⟩ h (by simp;omega);rw[List.nil_append,List.map_const'] at g;have a:mB [.list (List.replicate ds.length (PyData.bool true))]=some (.bool true):=by simp[mB,DQ]
 unfold df;simp[-mB,pb,wT,wP,wO,g,a,show ¬ (6:Int)<ds.length by omega,show ds.length<=sizeLine by omega]
theorem Qs{ns:List Int}{t made:List PyData}{x3 x4 x5:Option ag}(a:ns.length<=63)(E:t.length<=700)(z:made.length<100) :
  ∃d t' j m,hU d.plan/\jd d.late/\t'.length<=t.length+9/\pc [some (.scr ns),some (.own true (.l t)),some (.own false (.l made)),x3,x4,x5]=.nx [some (.scr ns),some (.own true (.l t')),some (.own false (.l (made++[dG d]))),x3,j,m]:=by
 have sz:1000<sizeLine:=by decide
 obtain⟨w,f,h1⟩:=jI (ns:=ns) (t:=t) (ds:=[.int 30,.int 30,.int 1000]) a (by omega) (by simp) (by simp);have:∃i:Int,w=.int i/\0<i/\i<=1000:=by simp only[List.mem_cons,List.not_mem_nil,or_false] at f;rcases f with rfl | rfl | rfl<;>exact⟨_,rfl,by omega,by omega⟩
 obtain⟨i,rfl,n,A⟩:=this;obtain⟨c,o,B,h2⟩:=ez (ns:=ns) (t:=t++[.int 0]) (many:=i) a (by simp;omega) n;obtain⟨y,b,h3⟩:=jI (ns:=ns) (t:=t++[.int 0]++[.int 0]) (ds:=[.str "all",.str "last",.tuple [.str "within",.int c]]) a (by simp;omega) (by simp) (by simp);have:∃x:gH,y=kE x/\jd x:=by
  simp only[List.mem_cons,List.not_mem_nil,or_false] at b;rcases b with rfl | rfl | rfl
  ·exact⟨.all,rfl,trivial⟩
  ·exact⟨.last,rfl,trivial⟩
  ·exact⟨.within c,rfl,o,by omega⟩
 obtain⟨x,rfl,hx⟩:=this;obtain⟨p,g,q,r,h⟩:=Pk (ns:=ns) (t:=t++[.int 0]++[.int 0]++[.int 0]) a (by simp;omega);simp only[List.length_append,List.length_cons,List.length_nil] at r;obtain⟨k,C,D,s⟩:=ez (ns:=ns) (t:=g) (many:=2) a (by omega) (by omega);simp only[List.append_assoc,List.cons_append,List.nil_append] at h2 h3 h;refine⟨⟨p,x,decide (k=0)⟩,g++[.int 0],some (.dat (.int c)),some (.dat (kE x)),q,hx,by simp;omega,?_⟩;generalize u:hV p=P at *;generalize v:kE x=L at *;have e:dG ⟨p,x,decide (k=0)⟩=.tuple [P,L,.bool (decide (k=0))]:=by unfold dG;rw[u,v]
 rw[e];simp[pc,h1,h2,h3,h,s,iu,show(2:Nat)<=sizeLine by omega,show(3:Nat)<=sizeLine by omega,show made.length<sizeLine by omega]
theorem DR{ns:List Int}(g:ns.length<=63):∀(n:Nat) (i:Int) {t made:List PyData}{x3 x4 x5:Option ag},t.length+9 * n<=700->made.length+n<100->∃(a:List bZ) (t':List PyData) (h b c:Option ag),(∀d∈a,hU d.plan/\jd d.late)/\a.length=n/\t'.length<=t.length+9 * n/\
   di (aI 3) pc (L3.intsFrom i n) [some (.scr ns),some (.own true (.l t)),some (.own false (.l made)),x3,x4,x5]=.nx [some (.scr ns),some (.own true (.l t')),some (.own false (.l (made++a.map dG))),h,b,c]
 | 0,i,t,made,x3,x4,x5,_,_=>⟨[],t,x3,x4,x5,by simp,rfl,by omega,by simp[L3.intsFrom,di]⟩
 | n+1,i,t,made,x3,x4,x5,ht,v=>by
  obtain⟨d,j,b,c,k,m,l1,e⟩:=Qs (ns:=ns) (t:=t) (made:=made) (x3:=some (.dat (.int i))) (x4:=x4) (x5:=x5) g (by omega) (by omega);obtain⟨a,o,p,q,r,h2,s,l2,u⟩:=DR g n (i+1) (t:=j) (made:=made++[dG d]) (x3:=some (.dat (.int i))) (x4:=b) (x5:=c) (by omega) (by simp;omega);refine⟨d::a,o,p,q,r,fun x f=>?_,by simp[s],by omega,?_⟩
  ·rcases List.mem_cons.mp f with rfl | f
   ·exact⟨k,m⟩
   ·exact h2 x f
  ·rw[List.map_cons,show made++dG d::a.map dG=made++[dG d]++a.map dG by simp,<-u,xx,di];simp[e]
theorem Qt{ns:List Int}{t:List PyData}(b:ns.length<=63)(q:t.length<=600):∃(a:List bZ) (t':List PyData),(∀d∈a,hU d.plan/\jd d.late)/\a.length<=6/\t'.length<=t.length+60/\rW [.scr ns,.own true (.l t)]=.rt (.dat (.tuple (a.map dG))) [.l t']:=by
 have sz:1000<sizeLine:=by decide
 obtain⟨w,c,h1⟩:=jI (ns:=ns) (t:=t) (ds:=[.int 5,.int 5,.int 7]) b (by omega) (by simp) (by simp);have:∃i:Int,w=.int i/\0<i/\i<=7:=by simp only[List.mem_cons,List.not_mem_nil,or_false] at c;rcases c with rfl | rfl | rfl<;>exact⟨_,rfl,by omega,by omega⟩
 obtain⟨i,rfl,f,h⟩:=this;obtain⟨k,j,m,h2⟩:=ez (ns:=ns) (t:=t++[.int 0]) (many:=i) b (by simp;omega) f;simp only[List.append_assoc,List.cons_append,List.nil_append] at h2;obtain⟨a,g,n,o,p,hd,nd,l2,e⟩:=DR (ns:=ns) b k.toNat 0 (t:=t++[.int 0,.int 0]) (made:=[]) (x3:=none) (x4:=none) (x5:=none) (by simp;omega) (by simp;omega);simp only[List.length_append,List.length_cons,List.length_nil] at l2;refine⟨a,g,hd,by omega,by omega,?_⟩;rw[List.nil_append] at e;simp[rW,wV,h1,h2,e,show -4611686018427387904<=k by omega,show k<4611686018427387904 by omega,show(3:Nat)<=sizeLine by omega]
inductive Cl where
 | take (r m t:Int) | give (r m:Int) | step (r m:Int) | finish (r m:Int)
noncomputable def fg:Cl->PyData
 | .take r m t=>.tuple [.str "take",.int r,.int m,.int t]
 | .give r m=>.tuple [.str "give",.int r,.int m]
 | .step r m=>.tuple [.str "step",.int r,.int m]
 | .finish r m=>.tuple [.str "finish",.int r,.int m]
noncomputable def Cl.ru:Cl->Int
 | .take r _ _=>r
 | .give r _=>r
 | .step r _=>r
 | .finish r _=>r
noncomputable def Cl.mo:Cl->Int
 | .take _ m _=>m
 | .give _ m=>m
 | .step _ m=>m
 | .finish _ m=>m
structure jL (c:Cl) (now:Int):Prop where
 r:0<=c.ru/\c.ru<=3
 m:now<=c.mo/\c.mo<=now+29
 t:∀r m t,c=.take r m t->1<=t/\t<=99
theorem xL(c:Cl):aB (fg c) (.int 2)=some (.int c.mo):=by cases c<;>rfl
noncomputable abbrev DU:SM:=(bq (kc (aJ (af fq (xV 3) (xC .none))) (aJ (af fb (aQ (aO cU (aS 0 (aS 1 (ao (xC (.int 4)) aF))))) (xC (.int 0))))) (bw (xV 3) (aI 4)) bt)
theorem Qu{ns:List Int}{t:List PyData}{now:Int}{holder:Option Int}(n:ns.length<=63)(ht:t.length<=100000)(C:∀h,holder=some h->0<=h/\h<=3) :
  ∃c t',lL [.scr ns,.own true (.l t),.dat (.int now),.dat (cf holder)]=.rt (.dat (fg c)) [.l t']/\jL c now/\t'.length<=t.length+7:=by
 have sz:1000<sizeLine:=by decide
 obtain⟨o,D,S,R⟩:=ez (ns:=ns) (t:=t) (many:=4) n (by omega) (by omega);have first:∃r f,0<=r/\r<=3/\f.length<=t.length+2/\DU [some (.scr ns),some (.own true (.l (t++[.int 0]))),some (.dat (.int now)),some (.dat (cf holder)),some (.dat (.int o)),none,none]=.nx [some (.scr ns),some (.own true (.l f)),some (.dat (.int now)),some (.dat (cf holder)),some (.dat (.int r)),none,none]:=by
  cases holder with
  | none=>exact⟨o,t++[.int 0],D,by omega,by simp,by simp[cf]⟩
  | some h=>
   obtain⟨k,T,X,h2⟩:=ez (ns:=ns) (t:=t++[.int 0]) (many:=4) n (by simp;omega) (by omega);simp only[List.append_assoc,List.cons_append,List.nil_append] at h2
   by_cases g:0<k
   ·exact⟨h,t++[.int 0,.int 0],(C h rfl).1,(C h rfl).2,by simp,by simp[cf,h2,g]⟩
   ·exact⟨o,t++[.int 0,.int 0],D,by omega,by simp,by simp[cf,h2,g]⟩
 obtain⟨r,f,E,G,l2,L⟩:=first
 obtain⟨x,Y,Z,h3⟩:=ez (ns:=ns) (t:=f) (many:=30) n (by omega) (by omega);obtain⟨v,hv,H⟩:=jI (ns:=ns) (t:=f++[.int 0]) (ds:=[.int 0,.int 0,.int 0,.int 1,.int 2,.int x]) n (by simp;omega) (by simp) (by simp);have:∃i:Int,v=.int i/\0<=i/\i<=29:=by simp only[List.mem_cons,List.not_mem_nil,or_false] at hv;rcases hv with rfl | rfl | rfl | rfl | rfl | rfl<;>exact⟨_,rfl,by omega,by omega⟩
 obtain⟨i,rfl,i0,i1⟩:=this;obtain⟨k,k0,k1,I⟩:=ez (ns:=ns) (t:=f++[.int 0]++[.int 0]) (many:=10) n (by simp;omega) (by omega);simp only[List.append_assoc,List.cons_append,List.nil_append] at H I;have pre:∀{p:SM},(av (bw (aQ (aO cU (aS 0 (aS 1 (ao (xC (.int 4)) aF))))) (aI 4)) (av DU (av (bw (af dj (xV 2) (aQ (aO fX (aS 0 (aS 1 (ao (ef (aj (xC (.int 0)) (aj (xC (.int 0)) (aj (xC (.int 0)) (aj (xC (.int 1)) (aj (xC (.int 2)) (aj (aQ (aO cU (aS 0 (aS 1 (ao (xC (.int 30)) aF))))) aL))))))) aF)))))) (aI 5)) (av (bw (aQ (aO cU (aS 0 (aS 1 (ao (xC (.int 10)) aF))))) (aI 6)) p))))
   [some (.scr ns),some (.own true (.l t)),some (.dat (.int now)),some (.dat (cf holder)),none,none,none]=p [some (.scr ns),some (.own true (.l (f++[.int 0,.int 0,.int 0]))),some (.dat (.int now)),some (.dat (cf holder)),some (.dat (.int r)),some (.dat (.int (now+i))),some (.dat (.int k))]:=by
  intro p;refine(bD (by simp[R]<;>rfl)).trans ?_;refine(bD L).trans ?_;refine(bD (by simp[h3,H,show(6:Nat)<=sizeLine by omega]<;>rfl)).trans ?_;exact bD (by simp[I])
 by_cases g:holder=none\/k<2
 ·obtain⟨w,J,q⟩:=jI (ns:=ns) (t:=f++[.int 0,.int 0,.int 0]) (ds:=[.int 4,.int 99]) n (by simp;omega) (by simp) (by simp);have:∃j:Int,w=.int j/\0<j/\j<=99:=by simp only[List.mem_cons,List.not_mem_nil,or_false] at J;rcases J with rfl | rfl<;>exact⟨_,rfl,by omega,by omega⟩
  obtain⟨j,rfl,M,j1⟩:=this;obtain⟨y,y0,y1,s⟩:=ez (ns:=ns) (t:=f++[.int 0,.int 0,.int 0]++[.int 0]) (many:=j) n (by simp;omega) M;simp only[List.append_assoc,List.cons_append,List.nil_append] at q s;refine⟨.take r (now+i) (1+y),f++[.int 0,.int 0,.int 0,.int 0,.int 0],?_,⟨⟨E,G⟩,⟨by show now<=now+i;omega,by show now+i<=_;omega⟩,fun _ _ _ e=>by cases e;omega⟩,by simp;omega⟩;refine iA (U:=[some (.scr ns),some (.own true (.l (f++[.int 0,.int 0,.int 0,.int 0,.int 0]))),some (.dat (.int now)),some (.dat (cf holder)),some (.dat (.int r)),some (.dat (.int (now+i))),some (.dat (.int k))]) rfl (pre.trans ?_) rfl;rcases g with rfl | g
  ·simp[cf,q,s,fg,show(2:Nat)<=sizeLine by omega,show(4:Nat)<=sizeLine by omega]
  ·cases holder<;>simp[cf,q,s,g,fg,show(2:Nat)<=sizeLine by omega,show(4:Nat)<=sizeLine by omega]
 ·obtain⟨h,rfl⟩:∃h,holder=some h:=by cases holder with
   | none=>exact absurd (.inl rfl) g
   | some h=>exact⟨h,rfl⟩
  have k2:¬ k<2:=fun z=>g (.inr z);have ok:∀c:Cl,c.ru=r->c.mo=now+i->(∀r m t,c≠.take r m t)->jL c now:=fun c u A B=>⟨by rw[u];exact⟨E,G⟩,by rw[A];omega,fun a b d e=>absurd e (B a b d)⟩
  by_cases A:k=2
  ·subst A;refine⟨.give r (now+i),f++[.int 0,.int 0,.int 0],?_,ok _ rfl rfl (by simp),by simp;omega⟩;refine iA (U:=[some (.scr ns),some (.own true (.l (f++[.int 0,.int 0,.int 0]))),some (.dat (.int now)),some (.dat (cf (some h))),some (.dat (.int r)),some (.dat (.int (now+i))),some (.dat (.int 2))]) rfl (pre.trans ?_) rfl;simp[cf,iu,fg,show(3:Nat)<=sizeLine by omega]
  ·have N:k=3\/k=4\/k=5\/k=6\/k=7\/k=8\/k=9:=by omega
   have mk:∀c:Cl,c.ru=r->c.mo=now+i->(∀r m t,c≠.take r m t)->lL [.scr ns,.own true (.l t),.dat (.int now),.dat (cf (some h))]=.rt (.dat (fg c)) [.l (f++[.int 0,.int 0,.int 0])]->∃c t',lL [.scr ns,.own true (.l t),.dat (.int now),.dat (cf (some h))]=.rt (.dat (fg c)) [.l t']/\jL c now/\t'.length<=t.length+7:=fun c u B O Q=>⟨c,_,Q,ok c u B O,by simp;omega⟩
   have s3:(3:Nat)<=sizeLine:=by omega
   have s8:(8:Nat)<=sizeLine:=by omega
   rcases N with rfl | rfl | rfl | rfl | rfl | rfl | rfl
   ·exact mk (.step r (now+i)) rfl rfl (by simp) (iA (U:=[some (.scr ns),some (.own true (.l (f++[.int 0,.int 0,.int 0]))),some (.dat (.int now)),some (.dat (cf (some h))),some (.dat (.int r)),some (.dat (.int (now+i))),some (.dat (.int 3))]) rfl (pre.trans (by kernel_rfl)) rfl)
   ·exact mk (.finish r (now+i)) rfl rfl (by simp) (iA (U:=[some (.scr ns),some (.own true (.l (f++[.int 0,.int 0,.int 0]))),some (.dat (.int now)),some (.dat (cf (some h))),some (.dat (.int r)),some (.dat (.int (now+i))),some (.dat (.int 4))]) rfl (pre.trans (by kernel_rfl)) rfl)
   ·exact mk (.step r (now+i)) rfl rfl (by simp) (iA (U:=[some (.scr ns),some (.own true (.l (f++[.int 0,.int 0,.int 0]))),some (.dat (.int now)),some (.dat (cf (some h))),some (.dat (.int r)),some (.dat (.int (now+i))),some (.dat (.int 5))]) rfl (pre.trans (by kernel_rfl)) rfl)
   ·exact mk (.finish r (now+i)) rfl rfl (by simp) (iA (U:=[some (.scr ns),some (.own true (.l (f++[.int 0,.int 0,.int 0]))),some (.dat (.int now)),some (.dat (cf (some h))),some (.dat (.int r)),some (.dat (.int (now+i))),some (.dat (.int 6))]) rfl (pre.trans (by kernel_rfl)) rfl)
   ·exact mk (.step r (now+i)) rfl rfl (by simp) (iA (U:=[some (.scr ns),some (.own true (.l (f++[.int 0,.int 0,.int 0]))),some (.dat (.int now)),some (.dat (cf (some h))),some (.dat (.int r)),some (.dat (.int (now+i))),some (.dat (.int 7))]) rfl (pre.trans (by kernel_rfl)) rfl)
   ·exact mk (.finish r (now+i)) rfl rfl (by simp) (iA (U:=[some (.scr ns),some (.own true (.l (f++[.int 0,.int 0,.int 0]))),some (.dat (.int now)),some (.dat (cf (some h))),some (.dat (.int r)),some (.dat (.int (now+i))),some (.dat (.int 8))]) rfl (pre.trans (by kernel_rfl)) rfl)
   ·exact mk (.step r (now+i)) rfl rfl (by simp) (iA (U:=[some (.scr ns),some (.own true (.l (f++[.int 0,.int 0,.int 0]))),some (.dat (.int now)),some (.dat (cf (some h))),some (.dat (.int r)),some (.dat (.int (now+i))),some (.dat (.int 9))]) rfl (pre.trans (by kernel_rfl)) rfl)
noncomputable def cF(S:Hl):Hl:=S.rows.foldl cM (ff S.a S.ss S.ds)
structure eG (S:Hl) (m:Int) (n:Nat):Prop where
 ok:bJ S
 lt:∀d∈S.ds,jd d.late
 rl:S.rows.length<=n
 wl:S.words.length<=n
 ho:∀h,S.holder=some h->0<=h/\h<=3
 la:∀l,S.last=some l->l<=m
 ti:S.til<=m+99
 dr:∀x∈S.rows,x.dd<S.ds.length
 w1:(cF S).words=S.words
 w2:(cF S).settled=S.settled
theorem bJ.add{S:Hl}(ok:bJ S){r:iw}(h:r.dd<S.ds.length):bJ (cM S r):=by
 refine⟨ok.z,ok.dl,ok.pl,?_,PQ ok.nd,?_⟩
 ·show(if r.wd=.begun then S.settled else S.settled.set r.dd (r.ct+1)).length=S.ds.length;split
  ·exact ok.sl
  ·rw[List.length_set];exact ok.sl
 ·intro d c k e;have a:(if r.wd=.begun then some (r.dd,r.ct,S.holds) else none)=some (d,c,k):=e;split at a
  ·cases a;exact h
  ·cases a
theorem eG.add{S:Hl}{m:Int}{n:Nat}(p:eG S m n){r:iw}(h:r.dd<S.ds.length):eG (cM S r) m (n+1):=by
 have c:cF (cM S r)=cM (cF S) r:=by show(S.rows++[r]).foldl cM (ff S.a S.ss S.ds)=_;rw[List.foldl_append];rfl
 refine⟨p.ok.add h,p.lt,?_,?_,p.ho,p.la,p.ti,?_,?_,?_⟩
 ·have:=p.rl;show(S.rows++[r]).length<=n+1;simp;omega
 ·have:=p.wl;have:=PR (r.dd,r.ct) r.wd S.words;show(fF S.words (r.dd,r.ct) r.wd).length<=n+1;omega
 ·intro x b;rcases List.mem_append.mp b with b | b
  ·exact p.dr x b
  ·rw[List.mem_singleton.mp b];exact h
 ·rw[c];show fF (cF S).words _ _=fF S.words _ _;rw[p.w1]
 ·rw[c];show(if r.wd=.begun then(cF S).settled else(cF S).settled.set r.dd (r.ct+1))=(if r.wd=.begun then S.settled else S.settled.set r.dd (r.ct+1));rw[p.w2]
theorem eG.mono{S:Hl}{m a:Int}{n b:Nat}(p:eG S m n)(h:m<=a)(c:n<=b):eG S a b:=
 ⟨p.ok,p.lt,Nat.le_trans p.rl c,Nat.le_trans p.wl c,p.ho,fun l e=>Int.le_trans (p.la l e) h,by have:=p.ti;omega,p.dr,p.w1,p.w2⟩
theorem eG.last{S:Hl}{m a:Int}{n:Nat}(p:eG S m n)(h:m<=a):eG { S with last:=some a } a n:=
 ⟨p.ok.last _,p.lt,p.rl,p.wl,p.ho,fun l e=>by cases e;omega,by have:=p.ti;show S.til<=_;omega,p.dr,p.w1,p.w2⟩
theorem eG.hold{S:Hl}{m a k u:Int}{n:Nat}{w:Option Int}(p:eG S m n)(h:m<=a)(b:∀h,w=some h->0<=h/\h<=3)(c:u<=a+99):eG { S with last:=some a,holder:=w,til:=u,holds:=k } a n:=
 ⟨⟨p.ok.z,p.ok.dl,p.ok.pl,p.ok.sl,p.ok.nd,p.ok.bg⟩,p.lt,p.rl,p.wl,b,fun l e=>by cases e;omega,c,p.dr,p.w1,p.w2⟩
theorem Qv{a:Int}{f:Sh}{b:List bZ}(z:mU a f)(g:b.length<=6)(hd:∀d∈b,jJ d.plan/\jd d.late):eG (ff a f b) 0 0:=
 ⟨⟨z,g,fun d h=>(hd d h).1,by simp[ff],by simp[ff],fun d c h e=>(by cases e)⟩,fun d h=>(hd d h).2,by simp[ff],by simp[ff],fun h e=>(by cases e),fun l e=>(by cases e),by simp[ff],by simp[ff],rfl,rfl⟩
theorem Qw{S:Hl}{r m b:Int}{n:Nat}(p:eG S m n)(h:m<=b):eG (dR S r b).1 b (n+1)/\(dR S r b).1.holder=S.holder/\(dR S r b).1.til=S.til/\
  ((∃d c,(dR S r b).1.begun=some (d,c,(dR S r b).1.holds)/\((dR S r b).2=.tuple [.str "busy",bu d,bu c]\/(dR S r b).2=.tuple [.str "begun",bu d,bu c]))\/
   (∃d c:Nat,(dR S r b).2=.tuple [.str "left",bu d,bu c]\/(dR S r b).2=.tuple [.str "unsure",bu d,bu c])\/(dR S r b).2=.tuple [.str "idle",.none]\/∃v:Int,(dR S r b).2=.tuple [.str "idle",.int v]):=by
 have q:=p.last h;obtain⟨f,g⟩:∃f:Hl,f = { S with last:=some b }:=⟨_,rfl⟩
 rw[<-g] at q;have l:f.begun=S.begun:=by rw[g]
 have o:f.holds=S.holds:=by rw[g]
 have u:f.ds=S.ds:=by rw[g]
 have s:f.holder=S.holder:=by rw[g]
 have t:f.til=S.til:=by rw[g]
 have e:dR S r b = match S.begun with
   | some (d,c,k)=>if k=S.holds then(f,.tuple [.str "busy",bu d,bu c]) else lV f r b d c
   | none=>gL f r b:=by rw[g];rfl
 rw[e,<-l,<-o,<-s,<-t];cases hb:f.begun with
 | some x=>
  obtain⟨d,c,k⟩:=x;simp only
  by_cases i:k=f.holds
  ·rw[if_pos i];exact⟨q.mono (Int.le_refl _) (by omega),rfl,rfl,.inl ⟨d,c,by show f.begun=_;rw[hb,i],.inl rfl⟩⟩
  ·rw[if_neg i];have hd:=q.ok.bg d c k hb;unfold lV;rw[List.getElem?_eq_getElem hd];simp only;refine⟨q.add hd,rfl,rfl,?_⟩
   by_cases j:f.ds[d].again=true
   ·simp only[if_pos j];exact .inl ⟨d,c,rfl,.inr rfl⟩
   ·simp only[if_neg j];exact .inr (.inl ⟨d,c,.inr rfl⟩)
 | none=>
  simp only;unfold gL;cases hx:kR f with
  | none=>exact⟨q.mono (Int.le_refl _) (by omega),rfl,rfl,.inr (.inr (.inl rfl))⟩
  | some x=>
   obtain⟨v,k⟩:=x;simp only
   by_cases hv:b<v
   ·rw[if_pos hv];exact⟨q.mono (Int.le_refl _) (by omega),rfl,rfl,.inr (.inr (.inr ⟨v,rfl⟩))⟩
   ·rw[if_neg hv];obtain⟨i,_⟩:=xK hx;rw[List.getElem?_eq_getElem i];simp only;refine⟨q.add i,rfl,rfl,?_⟩;generalize cm f k=ct
    by_cases j:iZ f.a f.ss f.ds[k] ct b = true
    ·simp only[if_pos j];exact .inr (.inl ⟨k,ct,.inl rfl⟩)
    ·simp only[if_neg j];exact .inl ⟨k,ct,rfl,.inr rfl⟩
section
variable{C:Addr}{S:Hl}{m:Int}{n:Nat}
theorem eG.call{r a:Int}(p:eG S m n)(c:0<=r/\r<=3)(h:m<=a)(d:0<=a/\a<=9999):ir C [.own true (hB C S),.dat (.int r),.dat (.int a)]=.rt (.dat .none) [hB C S]:=
 Pr rfl (by simp[dc];omega) (by simp[dc];omega) (by
  cases b:S.last with
  | none=>unfold tU;rw[b]
  | some l=>
   have:=p.la l b;unfold tU;rw[b];exact decide_eq_false (by omega))
end
@[irreducible] noncomputable def bK(at_:List PyData)(a:PyData):List (Str×Fl):=[("at",.l at_),("on",.d a)]
theorem DY(a:List PyData)(o:PyData):List.lookup ("at":Str) (bK a o)=some (.l a):=by unfold bK;kernel_rfl
theorem xM(a:List PyData)(o:PyData):List.lookup ("on":Str) (bK a o)=some (.d o):=by unfold bK;kernel_rfl
theorem Qx(a b:List PyData)(o:PyData):bG ("at":Str) (.l b) (bK a o)=bK b o:=by unfold bK;kernel_rfl
theorem Qy(a:List PyData)(o p:PyData):bG ("on":Str) (.d p) (bK a o)=bK a p:=by unfold bK;kernel_rfl
theorem DZ(a:List PyData)(o:PyData):((bK a o).map (·.1)).Nodup:=by unfold bK;show(["at","on"]:List Str).Nodup;decide +kernel
theorem Qz(a:List PyData)(o:PyData):(bK a o).length<1000:=by unfold bK;show 2<1000;decide
section
variable{a:List PyData}{o d:PyData}{U:ai}{io:Bool}{i:Nat}
theorem lW(h:U[i]? = some (some (.own io (.sd (bK a o))))):xQ (fB i "on") U=.ok o U:=by unfold xQ fB fW;rw[h];simp only[xM];rfl
theorem QA{j:Nat}{k:Int}(h:U[i]? = some (some (.own io (.sd (bK a o)))))(b:U[j]? = some (some (.dat (.int k))))(c:bE a k=some d):xQ (mQ i "at" (jE j)) U=.ok d U:=by unfold xQ mQ fW jE ei;rw[h,b];simp only[DY];rw[c];rfl
theorem xN{p:PyData}(h:U[i]? = some (some (.own io (.sd (bK a o))))):oG i "on" p U=.nx (U.set i (some (.own io (.sd (bK a p))))):=by unfold oG fW;rw[h];simp only;rw[if_pos ⟨DZ a o,by rw[xM];rfl,by rw[xM];rfl,Qz a o⟩,Qy]
theorem QB{j n:Nat}{k:Int}{v:PyData}(h:U[i]? = some (some (.own io (.sd (bK a o)))))(b:U[j]? = some (some (.dat (.int k))))(c:cp a.length k=some n):oH i "at" (jE j) v U=.nx (U.set i (some (.own io (.sd (bK (a.set n v) o))))):=by unfold oH fW jE ei;rw[h,b];simp only[DY];rw[c];simp only;rw[Qx]
end
def ub(o:eW)(U:ai):Prop:=o=.rt (.dat (.bool true)) U
noncomputable abbrev bV(Z D P L A:PyData)(mo ru c d hold:Int)(w:Str)(a:List PyData)(o:PyData)(b:Option ag):ai:=[some (.dat (.tuple [.int mo,.int ru,.str w,.int c,.int d])),some (.dat (.int hold)),some (.dat Z),some (.dat D),some (.own true (.sd (bK a o))),some (.dat (.int mo)),some (.dat (.int ru)),some (.dat (.str w)),some (.dat (.int c)),some (.dat (.int d)),some (.dat P),some (.dat L),some (.dat A),b]
section
variable{Z D P L A:PyData}{mo ru dd ct hold h v:Int}{w:Str}{a:List PyData}{n:Nat}{k:SM}{r:eW}
noncomputable abbrev Ea:SM:=(bw (xV 0) (gY 5 (cz (aI 5) (cz (aI 6) (cz (aI 7) (cz (aI 8) (cz (aI 9) gX)))))))
noncomputable abbrev Eb:SM:=(bw (af aB (xV 3) (xV 8)) (gY 3 (cz (aI 10) (cz (aI 11) (cz (aI 12) gX)))))
noncomputable abbrev Ec:SM:=(bq (dA (aJ (af (aE true) (xV 9) (xQ (mQ 4 "at" (jE 8))))) (aJ (af fb (aQ (aO lN (ao (xV 2) (ao (xV 10) (ao (xV 9) aF))))) (xV 5)))) (bc (xC (.bool false))) bt)
noncomputable abbrev xO:SM:=(bw (ed (af fq (xQ (fB 4 "on")) (xC .none)) (af (aE false) (jD (xQ (fB 4 "on")) jB (jC (xC (.int 2)))) (bY (aj (xV 8) (aj (xV 9) aL))))) (aI 13))
theorem pG:Ea [some (.dat (.tuple [.int mo,.int ru,.str w,.int dd,.int ct])),some (.dat (.int hold)),some (.dat Z),some (.dat D),some (.own true (.sd (bK a o))),none,none,none,none,none,none,none,none,none]=.nx [some (.dat (.tuple [.int mo,.int ru,.str w,.int dd,.int ct])),some (.dat (.int hold)),some (.dat Z),some (.dat D),some (.own true (.sd (bK a o))),some (.dat (.int mo)),some (.dat (.int ru)),some (.dat (.str w)),some (.dat (.int dd)),some (.dat (.int ct)),none,none,none,none]:=by simp
theorem pH(b:aB D (.int dd)=some (.tuple [P,L,A])):Eb [some (.dat (.tuple [.int mo,.int ru,.str w,.int dd,.int ct])),some (.dat (.int hold)),some (.dat Z),some (.dat D),some (.own true (.sd (bK a o))),some (.dat (.int mo)),some (.dat (.int ru)),some (.dat (.str w)),some (.dat (.int dd)),some (.dat (.int ct)),none,none,none,none]=.nx (bV Z D P L A mo ru dd ct hold w a o none):=by simp[-aB,b]
theorem pI{m:Option ag}(b:bE a dd=some (.int ct))(c:lN [.dat Z,.dat P,.dat (.int ct)]=.rt (.dat (.int v)) [])(e:v<=mo):Ec (bV Z D P L A mo ru dd ct hold w a o m)=.nx (bV Z D P L A mo ru dd ct hold w a o m):=by
 have q:=QA (U:=bV Z D P L A mo ru dd ct hold w a o m) (i:=4) (j:=8) (io:=true) rfl rfl b;have ne:aE true (.int ct) (.int ct)=some (.bool false):=pB (lQ _);have d:¬ v>mo:=by omega
 simp[q,ne,c,d]
theorem Ed{m:Option ag}:xO (bV Z D P L A mo ru dd ct hold w a .none m)=.nx (bV Z D P L A mo ru dd ct hold w a .none (some (.dat (.bool false)))):=by have q:=lW (U:=bV Z D P L A mo ru dd ct hold w a .none m) (i:=4) (io:=true) rfl;simp[q,isNone]
theorem pJ(x y z:PyData):lD (.tuple [x,y,z]) none (some 2)=some (.tuple [x,y]):=by kernel_rfl
theorem xP{m:Option ag}:xO (bV Z D P L A mo ru dd ct hold w a (.tuple [.int dd,.int ct,.int h]) m)=.nx (bV Z D P L A mo ru dd ct hold w a (.tuple [.int dd,.int ct,.int h]) (some (.dat (.bool true)))):=by
 have sz:1000<sizeLine:=by decide
 have q:=lW (U:=bV Z D P L A mo ru dd ct hold w a (.tuple [.int dd,.int ct,.int h]) m) (i:=4) (io:=true) rfl;have e:=CW (CU dd ct);simp[q,isNone,pJ,e,show(2:Nat)<=sizeLine by omega]
noncomputable abbrev uc:SM:=(bq (aJ (af (aE false) (xV 7) (xC (.str "begun")))) (av (bq (kc (aJ (af fq (xQ (fB 4 "on")) (xC .none))) (dA (da (aJ (xV 13))) (dA (aJ (af (aE false) (af aB (xQ (fB 4 "on")) (xC (.int 2))) (xV 1))) (da (aJ (xV 12)))))) (bc (xC (.bool false))) bt)
  (av (kq 4 "on" (bY (aj (xV 8) (aj (xV 9) (aj (xV 1) aL)))))
  (bc (xC (.bool true))))) bt)
noncomputable abbrev Ee:SM:=(ri 4 "at" (jE 8) (af dj (xV 9) (xC (.int 1))))
noncomputable abbrev xR:SM:=(bq (aJ (af (aE false) (xV 7) (xC (.str "left")))) (bc (ed (af jr (xQ (fB 4 "on")) (xC .none)) (af (aE true) (xV 11) (xC (.str "all"))))) bt)
noncomputable abbrev xS:SM:=(bq (dA (da (aJ (xV 13))) (dA (aJ (af (aE true) (af (aE false) (af aB (xQ (fB 4 "on")) (xC (.int 2))) (xV 1)) (af (aE false) (xV 7) (xC (.str "done"))))) (kc (aJ (af (aE false) (xV 7) (xC (.str "unsure")))) (aJ (xV 12))))) (bc (xC (.bool false))) bt)
noncomputable abbrev Ef:SM:=(kq 4 "on" (xC .none))
noncomputable abbrev Eg:SM:=(bc (af mO (xV 7) (bY (aj (xC (.str "done")) (aj (xC (.str "unsure")) aL)))))
theorem pK:rY=av Ea (av Eb (av Ec (av xO (av uc (av Ee (av xR (av xS (av Ef Eg)))))))):=rfl
theorem lX{x y z:PyData}:bE [x,y,z] 2=some z:=rfl
theorem pL(x y z:Int):∀U:ai,U[8]? = some (some (.dat (.int x)))->U[9]? = some (some (.dat (.int y)))->U[1]? = some (some (.dat (.int z)))->bY (aj (xV 8) (aj (xV 9) (aj (xV 1) aL))) U=.ok (.tuple [.int x,.int y,.int z]) U:=fun U b c d=>by
 have sz:1000<sizeLine:=by decide
 simp[b,c,d,show(3:Nat)<=sizeLine by omega]
theorem hW:(("begun":Str)==("begun":Str))=true/\(("left":Str)==("begun":Str))=false/\(("done":Str)==("begun":Str))=false/\(("unsure":Str)==("begun":Str))=false/\(("left":Str)==("left":Str))=true/\(("done":Str)==("left":Str))=false/\(("unsure":Str)==("left":Str))=false/\(("done":Str)==("done":Str))=true/\(("unsure":Str)==("done":Str))=false/\(("done":Str)==("unsure":Str))=false/\(("unsure":Str)==("unsure":Str))=true:=by decide +kernel
theorem QD:ub (uc (bV Z D P L A mo ru dd ct hold "begun" a .none (some (.dat (.bool false))))) (bV Z D P L A mo ru dd ct hold "begun" a (.tuple [.int dd,.int ct,.int hold]) (some (.dat (.bool false)))):=by have q:=lW (U:=bV Z D P L A mo ru dd ct hold "begun" a .none (some (.dat (.bool false)))) (i:=4) (io:=true) rfl;have k:=xN (U:=bV Z D P L A mo ru dd ct hold "begun" a .none (some (.dat (.bool false)))) (i:=4) (io:=true) (p:=.tuple [.int dd,.int ct,.int hold]) rfl;have t:=pL dd ct hold (bV Z D P L A mo ru dd ct hold "begun" a .none (some (.dat (.bool false)))) rfl rfl rfl;have e:=bM gK gK;rw[hW.1] at e;show _=_;simp[-bY,e,q,isNone,kq,t,k]
theorem QE(b:h≠hold):ub (uc (bV Z D P L (.bool true) mo ru dd ct hold "begun" a (.tuple [.int dd,.int ct,.int h]) (some (.dat (.bool true))))) (bV Z D P L (.bool true) mo ru dd ct hold "begun" a (.tuple [.int dd,.int ct,.int hold]) (some (.dat (.bool true)))):=by have q:=lW (U:=bV Z D P L (.bool true) mo ru dd ct hold "begun" a (.tuple [.int dd,.int ct,.int h]) (some (.dat (.bool true)))) (i:=4) (io:=true) rfl;have k:=xN (U:=bV Z D P L (.bool true) mo ru dd ct hold "begun" a (.tuple [.int dd,.int ct,.int h]) (some (.dat (.bool true)))) (i:=4) (io:=true) (p:=.tuple [.int dd,.int ct,.int hold]) rfl;have t:=pL dd ct hold (bV Z D P L (.bool true) mo ru dd ct hold "begun" a (.tuple [.int dd,.int ct,.int h]) (some (.dat (.bool true)))) rfl rfl rfl;have e:=bM gK gK;rw[hW.1] at e;show _=_;simp[-bY,e,q,isNone,kq,t,k,lX,iu,b]
theorem xT{o:PyData}{m:Option ag}(b:aE false (.str w) (.str "begun")=some (.bool false)):uc (bV Z D P L A mo ru dd ct hold w a o m)=.nx (bV Z D P L A mo ru dd ct hold w a o m):=by simp[b]
theorem xW{o:PyData}{m:Option ag}(b:cp a.length dd=some n):Ee (bV Z D P L A mo ru dd ct hold w a o m)=.nx (bV Z D P L A mo ru dd ct hold w (a.set n (.int (ct+1))) o m):=by have k:=QB (U:=bV Z D P L A mo ru dd ct hold w a o m) (i:=4) (io:=true) (j:=8) (v:=.int (ct+1)) rfl rfl b;simp[ri,k]
theorem QF{m:Option ag}(b:aE true L (.str "all")=some (.bool true)):ub (xR (bV Z D P L A mo ru dd ct hold "left" a .none m)) (bV Z D P L A mo ru dd ct hold "left" a .none m):=by have q:=lW (U:=bV Z D P L A mo ru dd ct hold "left" a .none m) (i:=4) (io:=true) rfl;have e:=bM lT lT;rw[hW.2.2.2.2.1] at e;show _=_;simp[e,q,isNone,b]
theorem Eh{o:PyData}{m:Option ag}(b:aE false (.str w) (.str "left")=some (.bool false)):xR (bV Z D P L A mo ru dd ct hold w a o m)=.nx (bV Z D P L A mo ru dd ct hold w a o m):=by simp[b]
theorem QG:xS (bV Z D P L A mo ru dd ct hold "done" a (.tuple [.int dd,.int ct,.int hold]) (some (.dat (.bool true))))=.nx (bV Z D P L A mo ru dd ct hold "done" a (.tuple [.int dd,.int ct,.int hold]) (some (.dat (.bool true)))):=by have q:=lW (U:=bV Z D P L A mo ru dd ct hold "done" a (.tuple [.int dd,.int ct,.int hold]) (some (.dat (.bool true)))) (i:=4) (io:=true) rfl;have b:=bM kP kP;have c:=bM kP kQ;rw[hW.2.2.2.2.2.2.2.1] at b;rw[hW.2.2.2.2.2.2.2.2.2.1] at c;simp[q,b,c,lX,iu,DL]
theorem QH(d:h≠hold):xS (bV Z D P L (.bool false) mo ru dd ct hold "unsure" a (.tuple [.int dd,.int ct,.int h]) (some (.dat (.bool true))))=.nx (bV Z D P L (.bool false) mo ru dd ct hold "unsure" a (.tuple [.int dd,.int ct,.int h]) (some (.dat (.bool true)))):=by have q:=lW (U:=bV Z D P L (.bool false) mo ru dd ct hold "unsure" a (.tuple [.int dd,.int ct,.int h]) (some (.dat (.bool true)))) (i:=4) (io:=true) rfl;have b:=bM kQ kP;have c:=bM kQ kQ;rw[hW.2.2.2.2.2.2.2.2.1] at b;rw[hW.2.2.2.2.2.2.2.2.2.2] at c;simp[q,b,c,lX,iu,DL,d]
theorem Ei{o:PyData}{m:Option ag}:Ef (bV Z D P L A mo ru dd ct hold w a o m)=.nx (bV Z D P L A mo ru dd ct hold w a .none m):=by have k:=xN (U:=bV Z D P L A mo ru dd ct hold w a o m) (i:=4) (io:=true) (p:=.none) rfl;simp[kq,k]
theorem Ej{m:Option ag}{o:PyData}(b:mO (.str w) (.tuple [.str "done",.str "unsure"])=some (.bool true)):ub (Eg (bV Z D P L A mo ru dd ct hold w a o m)) (bV Z D P L A mo ru dd ct hold w a o m):=by
 have sz:1000<sizeLine:=by decide
 show _=_;simp[-mO,b,show(2:Nat)<=sizeLine by omega]
theorem pM{o b:PyData}{c:List PyData}{m:Option ag}(d:rY [some (.dat (.tuple [.int mo,.int ru,.str w,.int dd,.int ct])),some (.dat (.int hold)),some (.dat Z),some (.dat D),some (.own true (.sd (bK a o))),none,none,none,none,none,none,none,none,none]=.rt (.dat (.bool true)) (bV Z D P L A mo ru dd ct hold w c b m)) :
  gu [.dat (.tuple [.int mo,.int ru,.str w,.int dd,.int ct]),.dat (.int hold),.dat Z,.dat D,.own true (.sd (bK a o))]=.rt (.dat (.bool true)) [.sd (bK c b)]:=by
 unfold gu;exact iA rfl d (by simp[cy])
theorem xX{m k:SM}{U b:ai}{c:ag}(h:m U=.rt c b):av m k U=.rt c b:=by simp[h]
variable(ix:aB D (.int dd)=some (.tuple [P,L,A]))(ha:bE a dd=some (.int ct))(du:lN [.dat Z,.dat P,.dat (.int ct)]=.rt (.dat (.int v)) [])(hv:v<=mo)
include ix ha du hv
theorem QI(b:w="begun"):gu [.dat (.tuple [.int mo,.int ru,.str w,.int dd,.int ct]),.dat (.int hold),.dat Z,.dat D,.own true (.sd (bK a .none))]=.rt (.dat (.bool true)) [.sd (bK a (.tuple [.int dd,.int ct,.int hold]))]:=by subst b;refine pM (P:=P) (L:=L) (A:=A) (m:=some (.dat (.bool false))) ?_;rw[pK,bD pG,bD (pH ix),bD (pI ha du hv),bD Ed];exact xX QD
theorem QJ(b:w="begun")(c:A=.bool true)(d:h≠hold):gu [.dat (.tuple [.int mo,.int ru,.str w,.int dd,.int ct]),.dat (.int hold),.dat Z,.dat D,.own true (.sd (bK a (.tuple [.int dd,.int ct,.int h])))]=.rt (.dat (.bool true)) [.sd (bK a (.tuple [.int dd,.int ct,.int hold]))]:=by subst b c;refine pM (P:=P) (L:=L) (A:=.bool true) (m:=some (.dat (.bool true))) ?_;rw[pK,bD pG,bD (pH ix),bD (pI ha du hv),bD xP];exact xX (QE d)
theorem QK(b:w="left")(c:aE true L (.str "all")=some (.bool true))(d:cp a.length dd=some n):gu [.dat (.tuple [.int mo,.int ru,.str w,.int dd,.int ct]),.dat (.int hold),.dat Z,.dat D,.own true (.sd (bK a .none))]=.rt (.dat (.bool true)) [.sd (bK (a.set n (.int (ct+1))) .none)]:=by subst b;have e:=bM lT gK;rw[hW.2.1] at e;refine pM (P:=P) (L:=L) (A:=A) (m:=some (.dat (.bool false))) ?_;rw[pK,bD pG,bD (pH ix),bD (pI ha du hv),bD Ed,bD (xT e),bD (xW d)];exact xX (QF c)
theorem QL(c:w="done")(d:cp a.length dd=some n):gu [.dat (.tuple [.int mo,.int ru,.str w,.int dd,.int ct]),.dat (.int hold),.dat Z,.dat D,.own true (.sd (bK a (.tuple [.int dd,.int ct,.int hold])))]=.rt (.dat (.bool true)) [.sd (bK (a.set n (.int (ct+1))) .none)]:=by subst c;have e:=bM kP gK;rw[hW.2.2.1] at e;have b:=bM kP lT;rw[hW.2.2.2.2.2.1] at b;refine pM (P:=P) (L:=L) (A:=A) (m:=some (.dat (.bool true))) ?_;rw[pK,bD pG,bD (pH ix),bD (pI ha du hv),bD xP,bD (xT e),bD (xW d),bD (Eh b),bD QG,bD Ei];exact Ej (by kernel_rfl)
theorem QM(c:w="unsure")(d:A=.bool false)(f:h≠hold)(g:cp a.length dd=some n):gu [.dat (.tuple [.int mo,.int ru,.str w,.int dd,.int ct]),.dat (.int hold),.dat Z,.dat D,.own true (.sd (bK a (.tuple [.int dd,.int ct,.int h])))]=.rt (.dat (.bool true)) [.sd (bK (a.set n (.int (ct+1))) .none)]:=by subst c d;have e:=bM kQ gK;rw[hW.2.2.2.1] at e;have b:=bM kQ lT;rw[hW.2.2.2.2.2.2.1] at b;refine pM (P:=P) (L:=L) (A:=.bool false) (m:=some (.dat (.bool true))) ?_;rw[pK,bD pG,bD (pH ix),bD (pI ha du hv),bD xP,bD (xT e),bD (xW g),bD (Eh b),bD (QH f),bD Ei];exact Ej (by kernel_rfl)
end
structure cx (S:Hl) (m:Int) (n:Nat):Prop where
 run:eG S m n
 bg:∀d c h,S.begun=some (d,c,h)->∃x v,S.ds[d]? = some x/\fc S.a S.ss x.plan c=some v/\v<=m/\S.settled[d]? = some c
 sb:∀x∈S.settled,x<=n
structure RC (S:Hl) (m:Int) (d c:Nat) (x:bZ) (v:Int):Prop where
 hx:S.ds[d]? = some x
 ht:fc S.a S.ss x.plan c=some v
 hv:v<=m
 hs:S.settled[d]? = some c
theorem QN{a:Int}{b:Sh}{p:dF}{c:Nat}{v:Int}(z:mU a b)(ok:jJ p)(j:c<=9999)(i:fc a b p c=some v):lN [.dat (cL a b),.dat (hV p),.dat (.int c)]=.rt (.dat (.int v)) []:=by
 have t:=tY (a:=a) (c:=c) z.len ok;rw[i] at t;have f:=CK z;have g:=Pb ok.plan;have w:=jG (d:=.int c) (lo:=0) (hi:=9999) rfl;have e:dc (.int c) 0 9999=true:=by simp[dc];omega
 rw[e] at w;have h:rE [.dat (.int c)]=.rt (.dat .none) []:=by simp[rE,wy,w]
 have t':gG [.dat (cL a b),.dat (hV p),.dat (.int c)]=.rt (.dat (.int v)) []:=t;generalize cL a b=Z at *;generalize hV p=P at *;simp[lN,wU,f,g,h,t']
theorem QO{x:gH}(h:x≠.all):aE true (kE x) (.str "all")=some (.bool true):=by
 cases x with
 | all=>exact absurd rfl h
 | last=>exact(DM iy iY).trans (by rw[show(("last":Str) != ("all":Str))=true from by decide +kernel])
 | within n=>unfold aE;rw[show SeqAt.shaped (kE (.within n))=true from Qo tZ n,lR iY];simp[PyData.eqv]
noncomputable abbrev cG(S:Hl):List (Str×Fl):=bK (S.settled.map bu) (gw S.begun)
theorem QP{l k:Nat}(h:k<l):cp l (k:Int)=some k:=by unfold cp;rw[if_pos (by omega),if_pos (by omega)];simp
section
variable{S:Hl}{m m':Int}{n d c:Nat}{x:bZ}{v:Int}{ru:Int}{wd:Wd}
theorem xY(I:cx S m n)(s:n<=900)(R:RC S m' d c x v)
  (q:(wd=.begun/\(S.begun=none\/∃h,S.begun=some (d,c,h)/\h≠S.holds/\x.again=true))\/(wd=.left/\S.begun=none/\x.late≠.all)\/(wd=.done/\S.begun=some (d,c,S.holds))\/(wd=.unsure/\∃h,S.begun=some (d,c,h)/\h≠S.holds/\x.again=false)) :
  gu [.dat (dH ⟨m',ru,wd,d,c⟩),.dat (.int S.holds),.dat (cL S.a S.ss),.dat (df S.ds),.own true (.sd (cG S))]=.rt (.dat (.bool true)) [.sd (cG (cM S ⟨m',ru,wd,d,c⟩))]:=by
 obtain⟨hd,ex⟩:=List.getElem?_eq_some_iff.mp R.hx;obtain⟨k,p⟩:=List.getElem?_eq_some_iff.mp R.hs;have g:aB (df S.ds) (.int d)=some (.tuple [hV x.plan,kE x.late,.bool x.again]):=by have:=xH hd;rw[ex] at this;exact this
 have i:bE (S.settled.map bu) (d:Int)=some (.int c):=by have:=Dr k;rw[p] at this;exact this
 have r:c<=9999:=by have:=I.sb c (by rw[<-p];exact List.getElem_mem k);omega
 have ok:jJ x.plan:=I.run.ok.pl x (by rw[<-ex];exact List.getElem_mem hd);have j:=QN I.run.ok.z ok r R.ht;have b:cp (S.settled.map bu).length (d:Int)=some d:=by rw[List.length_map];exact QP k
 have e:(S.settled.map bu).set d (.int ((c:Int)+1))=(S.settled.set d (c+1)).map bu:=by rw[List.map_set];rfl
 rcases q with⟨rfl,hb | ⟨h,hb,l,f⟩⟩ | ⟨rfl,hb,o⟩ | ⟨rfl,hb⟩ | ⟨rfl,h,hb,l,f⟩
 ·have:=QI (hold:=S.holds) (ru:=ru) g i j R.hv (w:="begun") rfl;unfold cG;rw[hb];exact this
 ·have:=QJ (hold:=S.holds) (ru:=ru) (h:=h) g i j R.hv (w:="begun") rfl (by rw[f]) l;unfold cG;rw[hb];exact this
 ·have:=QK (hold:=S.holds) (ru:=ru) g i j R.hv (w:="left") rfl (QO o) b;unfold cG;rw[hb];rw[e] at this;exact this
 ·have:=QL (hold:=S.holds) (ru:=ru) g i j R.hv (w:="done") rfl b;unfold cG;rw[hb];rw[e] at this;exact this
 ·have:=QM (hold:=S.holds) (ru:=ru) (h:=h) g i j R.hv (w:="unsure") rfl (by rw[f]) l b;unfold cG;rw[hb];rw[e] at this;exact this
theorem cx.add(I:cx S m n)(h:m<=m')(R:RC S m' d c x v):cx (cM { S with last:=some m' } ⟨m',ru,wd,d,c⟩) m' (n+1):=by
 obtain⟨hd,ex⟩:=List.getElem?_eq_some_iff.mp R.hx;obtain⟨g,i⟩:=List.getElem?_eq_some_iff.mp R.hs;have p:c<=n:=I.sb c (by rw[<-i];exact List.getElem_mem g);refine⟨(I.run.last h).add hd,fun j k l e=>?_,fun y o=>?_⟩
 ·have f:(if wd=.begun then some (d,c,S.holds) else none)=some (j,k,l):=e
  by_cases b:wd=.begun
  ·rw[if_pos b] at f;cases f;refine⟨x,v,R.hx,R.ht,R.hv,?_⟩;show(if wd=.begun then S.settled else S.settled.set d (c+1))[d]? = some c;rw[if_pos b];exact R.hs
  ·rw[if_neg b] at f;cases f
 ·have a:y∈(if wd=.begun then S.settled else S.settled.set d (c+1)):=o
  by_cases b:wd=.begun
  ·rw[if_pos b] at a;have:=I.sb y a;omega
  ·rw[if_neg b] at a;rcases List.mem_or_eq_of_mem_set a with h | h
   ·have:=I.sb y h;omega
   ·omega
theorem cx.same{b:Hl}{f:Nat}(I:cx S m n)(r:eG b m' f)(h:m<=m')(s:n<=f)(j:b.begun=S.begun)(g:b.settled=S.settled)(l:b.a=S.a)(o:b.ss=S.ss)(p:b.ds=S.ds):cx b m' f:=
 ⟨r,fun d c k e=>by
  rw[j] at e;obtain⟨x,v,h1,h2,h3,q⟩:=I.bg d c k e;exact⟨x,v,by rw[p];exact h1,by rw[l,o];exact h2,by omega,by rw[g];exact q⟩,fun y i=>by
  rw[g] at i;have:=I.sb y i;omega⟩
end
def xZ(d:PyData):Prop:=(∃b,d=.bool b)\/d=.none\/∃w r,d=.tuple (.str w::r)/\PyData.strOk w=true/\w≠"refused"
theorem ya(w:Wd):PyData.strOk (fE w)=true/\fE w≠"refused":=by
 cases w
 ·exact⟨gK,by decide +kernel⟩
 ·exact⟨kP,by decide +kernel⟩
 ·exact⟨lT,by decide +kernel⟩
 ·exact⟨kQ,by decide +kernel⟩
inductive pN (C:Addr) (S:Hl) (c:Cl) (m:Int) (n:Nat):Prop where
 | no (k:Int) (h:dU C [.own true (hB C S),.dat (fg c)]=.rt (.dat (tS k)) [hB C S])
 | keep (d:PyData) (S':Hl) (h:dU C [.own true (hB C S),.dat (fg c)]=.rt (.dat d) [hB C S']) (t:xZ d) (i:cx S' c.mo (n+1)) (e1:S'.rows=S.rows) (e2:S'.settled=S.settled) (e3:S'.begun=S.begun) (e4:S'.a=S.a/\S'.ss=S.ss/\S'.ds=S.ds)
 | row (wd:Wd) (d k:Nat) (h:dU C [.own true (hB C S),.dat (fg c)]=.rt (.dat (.tuple [.str (fE wd),bu d,bu k])) [hB C (cM { S with last:=some c.mo } ⟨c.mo,c.ru,wd,d,k⟩)]) (i:cx (cM { S with last:=some c.mo } ⟨c.mo,c.ru,wd,d,k⟩) c.mo (n+1)) (cc:c=.step c.ru c.mo\/c=.finish c.ru c.mo)
   (r:gu [.dat (dH ⟨c.mo,c.ru,wd,d,k⟩),.dat (.int S.holds),.dat (cL S.a S.ss),.dat (df S.ds),.own true (.sd (cG S))]=.rt (.dat (.bool true)) [.sd (cG (cM S ⟨c.mo,c.ru,wd,d,k⟩))])
section
variable{C:Addr}{S:Hl}{m:Int}{n:Nat}
theorem yb{w:Str}{r:List PyData}(a:PyData.strOk w=true)(b:w≠"refused"):xZ (.tuple (.str w::r)):=.inr (.inr ⟨w,r,rfl,a,b⟩)
theorem pO{r f:Int}(I:cx S m n)(A:n<900)(i:m<=f)(h:dU C [.own true (hB C S),.dat (fg (.step r f))]=.rt (.dat (dR S r f).2) [hB C (dR S r f).1]):pN C S (.step r f) m n:=by
 have B:=(Qw (r:=r) I.run i).1;have s:cx { S with last:=some f } f (n+1):=I.same ((I.run.last i).mono (Int.le_refl _) (by omega)) i (by omega) rfl rfl rfl rfl rfl;cases hb:S.begun with
 | some b=>
  obtain⟨d,c,k⟩:=b;obtain⟨x,v,j,w,D,t⟩:=I.bg d c k hb
  by_cases g:k=S.holds
  ·have e:dR S r f = ({ S with last:=some f },.tuple [.str "busy",bu d,bu c]):=by unfold dR;rw[hb];simp only;rw[if_pos g]
   rw[e] at h;exact .keep _ _ h (yb PF (by decide +kernel)) s rfl rfl rfl ⟨rfl,rfl,rfl⟩
  ·have e:dR S r f = (cM { S with last:=some f } ⟨f,r,if x.again=true then .begun else .unsure,d,c⟩,.tuple [.str (fE (if x.again=true then .begun else .unsure)),bu d,bu c]):=by unfold dR;rw[hb];simp only;rw[if_neg g];unfold lV;show(match S.ds[d]? with | some x=>_ | none=>_)=_;rw[j]
   rw[e] at h;have R:RC S f d c x v:=⟨j,w,by omega,t⟩
   refine .row _ d c h (I.add i R) (.inl rfl) (xY I (by omega) R ?_)
   by_cases o:x.again=true
   ·rw[if_pos o];exact .inl ⟨rfl,.inr ⟨k,hb,g,o⟩⟩
   ·rw[if_neg o];exact .inr (.inr (.inr ⟨rfl,k,hb,g,by simpa using o⟩))
 | none=>
  have y:dR S r f = gL { S with last:=some f } r f:=by unfold dR;rw[hb]
  rw[y] at h;cases q:kR { S with last:=some f } with
  | none=>
   have e:gL { S with last:=some f } r f = ({ S with last:=some f },.tuple [.str "idle",.none]):=by unfold gL;rw[q]
   rw[e] at h;exact .keep _ _ h (yb Dj (by decide +kernel)) s rfl rfl rfl ⟨rfl,rfl,rfl⟩
  | some p=>
   obtain⟨v,k⟩:=p;obtain⟨g,ht,_⟩:=xK q;have u:k<S.ds.length:=g
   by_cases hv:f<v
   ·have e:gL { S with last:=some f } r f = ({ S with last:=some f },.tuple [.str "idle",.int v]):=by unfold gL;rw[q];simp only;rw[if_pos hv]
    rw[e] at h;exact .keep _ _ h (yb Dj (by decide +kernel)) s rfl rfl rfl ⟨rfl,rfl,rfl⟩
   ·have j:S.ds[k]? = some (S.ds[k]):=List.getElem?_eq_getElem u;have sl:=I.run.ok.sl;have t:S.settled[k]? = some (cm S k):=by unfold cm;rw[List.getD_eq_getElem?_getD,List.getElem?_eq_getElem (by omega)];rfl
    have e:gL { S with last:=some f } r f = (cM { S with last:=some f } ⟨f,r,if iZ S.a S.ss S.ds[k] (cm S k) f = true then .left else .begun,k,cm S k⟩,.tuple [.str (fE (if iZ S.a S.ss S.ds[k] (cm S k) f = true then .left else .begun)),bu k,bu (cm S k)]):=by unfold gL;rw[q];simp only;rw[if_neg hv];show(match S.ds[k]? with | some d=>_ | none=>_)=_;rw[j];rfl
    rw[e] at h;have R:RC S f k (cm S k) S.ds[k] v:=⟨j,ht,by omega,t⟩
    refine .row _ k (cm S k) h (I.add i R) (.inl rfl) (xY I (by omega) R ?_)
    by_cases l:iZ S.a S.ss S.ds[k] (cm S k) f = true
    ·rw[if_pos l];refine .inr (.inl ⟨rfl,hb,fun z=>?_⟩);unfold iZ at l;rw[z] at l;cases l
    ·rw[if_neg l];exact .inl ⟨rfl,.inl hb⟩
theorem QQ{c:Cl}(I:cx S m n)(l:n<900)(b:jL c m)(A:0<=m/\m<=9000):pN C S c m n:=by
 have p:=I.run;have l1:=p.rl;have l2:=p.wl;have o:0<=c.mo/\c.mo<=9999:=by have:=b.m;omega
 have f:=p.call (C:=C) b.r b.m.1 o;have hd:∀r a,c.ru=r->c.mo=a->(eM C [.own true (hB C S),.dat (.int r),.dat (.int a)]=.rt (.dat .none) [hB C S])\/(eM C [.own true (hB C S),.dat (.int r),.dat (.int a)]=.ex "NotHolder" [hB C S]):=fun r a q s=>by
  rw[q,s] at f;cases hb:(gJ S a&&decide (S.holder=some r)) with
  | true=>rw[Bool.and_eq_true] at hb;exact .inl (Pt f hb.1 (of_decide_eq_true hb.2))
  | false=>exact .inr (Ps f hb)
 cases c with
 | take r a t=>
  have ht:=b.t r a t rfl;have h1:=b.m.1;simp only[Cl.mo] at h1;have g:ir C [.own true (hB C S),.dat (.int r),.dat (.int a)]=.rt (.dat .none) [hB C S]:=f;have h:=Qh (Pu g (by simp[dc];omega) (t:=t));unfold tW at h
  by_cases i:gJ S a = false
  ·rw[if_pos i] at h;exact .keep _ _ h (.inl ⟨_,rfl⟩) (I.same ((p.hold b.m.1 (fun h e=>by cases e;exact b.r) (by show a+t<=a+99;omega)).mono (Int.le_refl _) (by omega)) h1 (by omega) rfl rfl rfl rfl rfl) rfl rfl rfl ⟨rfl,rfl,rfl⟩
  ·rw[if_neg i] at h
   by_cases j:S.holder=some r
   ·rw[if_pos j] at h;exact .keep _ _ h (.inl ⟨_,rfl⟩) (I.same ((p.hold (k:=S.holds) b.m.1 (fun h e=>by cases e;exact b.r) (by show a+t<=a+99;omega)).mono (Int.le_refl _) (by omega)) h1 (by omega) rfl rfl rfl rfl rfl) rfl rfl rfl ⟨rfl,rfl,rfl⟩
   ·rw[if_neg j] at h;exact .keep _ _ h (.inl ⟨_,rfl⟩) (I.same ((p.last b.m.1).mono (Int.le_refl _) (by omega)) h1 (by omega) rfl rfl rfl rfl rfl) rfl rfl rfl ⟨rfl,rfl,rfl⟩
 | give r a=>
  have h1:=b.m.1;simp only[Cl.mo] at h1;rcases hd r a rfl rfl with h | h
  ·exact .keep _ _ (Qi (Px h)) (.inr (.inl rfl)) (I.same ((p.hold (k:=S.holds) (u:=S.til) b.m.1 (fun h e=>by cases e) (by have:=p.ti;show S.til<=a+99;omega)).mono (Int.le_refl _) (by omega)) h1 (by omega) rfl rfl rfl rfl rfl) rfl rfl rfl ⟨rfl,rfl,rfl⟩
  ·exact .no _ (Qj (Pw h) xv xy)
 | step r a=>
  rcases hd r a rfl rfl with h | h
  ·exact pO I l b.m.1 (Qk (Qd p.ok (by omega) (by omega) h))
  ·exact .no _ (Ql (Py h) xv xy)
 | finish r a=>
  have h1:=b.m.1;simp only[Cl.mo] at h1;rcases hd r a rfl rfl with h | h
  ·cases hb:lU S with
   | false=>exact .no _ (DK (Qe h hb) OZ Pl)
   | true=>
    obtain⟨d,c,e⟩:∃d c,S.begun=some (d,c,S.holds):=by
     unfold lU at hb;cases hx:S.begun with
     | none=>rw[hx] at hb;cases hb
     | some x=>obtain⟨d,c,k⟩:=x;rw[hx] at hb;exact⟨d,c,by rw[of_decide_eq_true hb]⟩
    obtain⟨x,v,w,y,B,z⟩:=I.bg d c _ e;have R:RC S a d c x v:=⟨w,y,by omega,z⟩
    exact .row .done d c (Qm (Qf p.ok (by omega) (by omega) h e)) (I.add h1 R) (.inr rfl) (xY I (by omega) R (.inr (.inr (.inl ⟨rfl,e⟩))))
  ·exact .no _ (DK (Pz h) xv xy)
end
noncomputable abbrev Ek(C:Addr):SM:=(bw (aQ (aO lL (aS 0 (aS 1 (ao (xV 6) (ao (af aB (aQ (dE C 4 "held" (ku C))) (xC (.int 0))) aF)))))) (aI 9))
noncomputable abbrev El(C:Addr):SM:=(bw (aQ (aO (dU C) (aS 4 (ao (xV 9) aF)))) (aI 10))
noncomputable abbrev yc(C:Addr):SM:=(bq (dA (da (aJ (il "tuple" (xV 10)))) (aJ (af (aE true) (af aB (xV 10) (xC (.int 0))) (xC (.str "refused"))))) (bw (af aB (xV 9) (xC (.int 2))) (aI 6)) bt)
noncomputable abbrev Em(C:Addr):SM:=(bw (aQ (dE C 4 "log" (oO C))) (aI 11))
noncomputable abbrev QR(C:Addr):SM:=(bq (aJ (af fb (cT dI (aj (xV 11) aL)) (af dj (xV 7) (xC (.int 1))))) (bc (xC (.bool false))) bt)
noncomputable abbrev QS(C:Addr):SM:=(bq (aJ (af fb (cT dI (aj (xV 11) aL)) (xV 7))) (av (bq (dA (aJ (af lG (af aB (xV 9) (xC (.int 0))) (bY (aj (xC (.str "step")) (aj (xC (.str "finish")) aL))))) (aJ (af (aE true) (jD (af aB (xV 11) (gV (xC (.int 1)))) jB (jC (xC (.int 2)))) (bY (aj (af aB (xV 9) (xC (.int 2))) (aj (af aB (xV 9) (xC (.int 1))) aL)))))) (bc (xC (.bool false))) bt)
  (bq (dA (da (aJ (aQ (aO gu (ao (af aB (xV 11) (gV (xC (.int 1)))) (ao (af aB (aQ (dE C 4 "held" (ku C))) (xC (.int 2))) (ao (xV 2) (ao (xV 3) (aS 5 aF))))))))) (aJ (af (aE true) (xV 10) (jD (af aB (xV 11) (gV (xC (.int 1)))) (jC (xC (.int 2))) jB)))) (bc (xC (.bool false))) bt)) bt)
noncomputable abbrev QT(C:Addr):SM:=(bw (cT dI (aj (xV 11) aL)) (aI 7))
theorem QU(C:Addr):nr C=av (Ek C) (av (El C) (av (yc C) (av (Em C) (av (QR C) (av (QS C) (QT C)))))):=rfl
noncomputable abbrev cW(C:Addr)(f:List Int)(t:List PyData)(Z D:PyData)(S:Hl)(fs:List (Str×Fl))(a rows:Int)(d e b c:Option ag):ai:=[some (.scr f),some (.own false (.l t)),some (.dat Z),some (.dat D),some (.own false (hB C S)),some (.own false (.sd fs)),some (.dat (.int a)),some (.dat (.int rows)),d,e,b,c]
section
variable{C:Addr}{ns:List Int}{t t':List PyData}{Z D d K:PyData}{S S':Hl}{fs fs':List (Str×Fl)}{now rows mo ru:Int}{x8 x9 x10 x11:Option ag}
theorem yd:cn C (cW C ns t Z D S fs now rows x8 x9 x10 x11) 4=some (false,ak S):=by simp[cn]
theorem QV(h:lL [.scr ns,.own true (.l t),.dat (.int now),.dat (cf S.holder)]=.rt (.dat K) [.l t']):Ek C (cW C ns t Z D S fs now rows x8 x9 x10 x11)=.nx (cW C ns t' Z D S fs now rows x8 (some (.dat K)) x10 x11):=by simp[dE,cE,yd,Dh,h]
theorem ye(h:dU C [.own true (hB C S),.dat K]=.rt (.dat d) [hB C S']):El C (cW C ns t Z D S fs now rows x8 (some (.dat K)) x10 x11)=.nx (cW C ns t Z D S' fs now rows x8 (some (.dat K)) (some (.dat d)) x11):=by simp[h]
theorem QW{k:Int}:yc C (cW C ns t Z D S fs now rows x8 x9 (some (.dat (tS k))) x11)=.nx (cW C ns t Z D S fs now rows x8 x9 (some (.dat (tS k))) x11):=by have e:aE true (.str "refused") (.str "refused")=some (.bool false):=pB (lR CV);simp[e]
theorem En(f:xZ d)(a:aB K (.int 2)=some (.int mo)):yc C (cW C ns t Z D S fs now rows x8 (some (.dat K)) (some (.dat d)) x11)=.nx (cW C ns t Z D S fs mo rows x8 (some (.dat K)) (some (.dat d)) x11):=by
 rcases f with⟨b,rfl⟩ | rfl | ⟨w,r,rfl,h1,h2⟩
 ·simp[-aB,a]
 ·simp[-aB,a]
 ·have e:aE true (.str w) (.str "refused")=some (.bool true):=by rw[DM h1 CV,show(w != "refused")=true from bne_iff_ne.mpr h2]
  have c:aB (.tuple (.str w::r)) (.int 0)=some (.str w):=by simp
  simp[-aB,a,c,e]
theorem yf:Em C (cW C ns t Z D S fs now rows x8 x9 x10 x11)=.nx (cW C ns t Z D S fs now rows x8 x9 x10 (some (.dat (.list (S.rows.map dH))))):=by have r:=PB (C:=C) (S:=S);generalize S.rows.map dH=R at *;simp[dE,cE,yd,r]
theorem yg{R:List PyData}{l:Int}{a:List PyData->Option PyData}(b:a [.list R]=some (.int l))(h:¬ l>rows+1):(bq (aJ (af fb (cT a (aj (xV 11) aL)) (af dj (xV 7) (xC (.int 1))))) (bc (xC (.bool false))) bt) (cW C ns t Z D S fs now rows x8 x9 x10 (some (.dat (.list R))))=.nx (cW C ns t Z D S fs now rows x8 x9 x10 (some (.dat (.list R)))):=by have c:¬ rows+1<l:=h;simp[b,c]
theorem Eo{R:List PyData}{l:Int}{a:List PyData->Option PyData}{m:SM}(b:a [.list R]=some (.int l))(h:¬ l>rows):(bq (aJ (af fb (cT a (aj (xV 11) aL)) (xV 7))) m bt) (cW C ns t Z D S fs now rows x8 x9 x10 (some (.dat (.list R))))=.nx (cW C ns t Z D S fs now rows x8 x9 x10 (some (.dat (.list R)))):=by have c:¬ rows<l:=h;simp[b,c]
theorem QX{R:List PyData}{l:Int}{a:List PyData->Option PyData}{m:SM}{b:ai}(c:a [.list R]=some (.int l))(h:l>rows)(e:m (cW C ns t Z D S fs now rows x8 x9 x10 (some (.dat (.list R))))=.nx b):(bq (aJ (af fb (cT a (aj (xV 11) aL)) (xV 7))) m bt) (cW C ns t Z D S fs now rows x8 x9 x10 (some (.dat (.list R))))=.nx b:=by have f:rows<l:=h;simp[c,f,e]
theorem yh{R:List PyData}{l:Int}{a:List PyData->Option PyData}(b:a [.list R]=some (.int l)):(bw (cT a (aj (xV 11) aL)) (aI 7)) (cW C ns t Z D S fs now rows x8 x9 x10 (some (.dat (.list R))))=.nx (cW C ns t Z D S fs now l x8 x9 x10 (some (.dat (.list R)))):=by simp[b]
end
section
variable{C:Addr}{ns:List Int}{t t':List PyData}{Z D d K:PyData}{S S':Hl}{fs fs':List (Str×Fl)}{now rows mo ru dd ct:Int}{w kw:Str}{R:List PyData}{x8 x9 x10 x11:Option ag}
noncomputable abbrev in1:SM:=(bq (dA (aJ (af lG (af aB (xV 9) (xC (.int 0))) (bY (aj (xC (.str "step")) (aj (xC (.str "finish")) aL))))) (aJ (af (aE true) (jD (af aB (xV 11) (gV (xC (.int 1)))) jB (jC (xC (.int 2)))) (bY (aj (af aB (xV 9) (xC (.int 2))) (aj (af aB (xV 9) (xC (.int 1))) aL)))))) (bc (xC (.bool false))) bt)
noncomputable abbrev QY(C:Addr):SM:=(bq (dA (da (aJ (aQ (aO gu (ao (af aB (xV 11) (gV (xC (.int 1)))) (ao (af aB (aQ (dE C 4 "held" (ku C))) (xC (.int 2))) (ao (xV 2) (ao (xV 3) (aS 5 aF))))))))) (aJ (af (aE true) (xV 10) (jD (af aB (xV 11) (gV (xC (.int 1)))) (jC (xC (.int 2))) jB)))) (bc (xC (.bool false))) bt)
noncomputable abbrev gM(mo ru:Int)(w:Str)(dd ct:Int):PyData:=.tuple [.int mo,.int ru,.str w,.int dd,.int ct]
theorem QZ:lD (gM mo ru w dd ct) none (some 2)=some (.tuple [.int mo,.int ru]):=by kernel_rfl
theorem Ra:lD (gM mo ru w dd ct) (some 2) none=some (.tuple [.str w,.int dd,.int ct]):=by kernel_rfl
theorem Ep:aB (.list (R++[gM mo ru w dd ct])) (.int (-1))=some (gM mo ru w dd ct):=by simp
theorem Rb(b:aB K (.int 0)=some (.str kw))(c:aB K (.int 1)=some (.int ru))(f:aB K (.int 2)=some (.int mo))(g:lG (.str kw) (.tuple [.str "step",.str "finish"])=some (.bool false)):in1 (cW C ns t Z D S fs now rows x8 (some (.dat K)) x10 (some (.dat (.list (R++[gM mo ru w dd ct])))))=.nx (cW C ns t Z D S fs now rows x8 (some (.dat K)) x10 (some (.dat (.list (R++[gM mo ru w dd ct]))))):=by
 have sz:1000<sizeLine:=by decide
 have l2:(2:Nat)<=sizeLine:=by omega
 have e:=pB (CU mo ru);have a:=QZ (mo:=mo) (ru:=ru) (w:=w) (dd:=dd) (ct:=ct);have x:=Ep (R:=R) (mo:=mo) (ru:=ru) (w:=w) (dd:=dd) (ct:=ct);clear sz;generalize R++[gM mo ru w dd ct]=h at *;generalize gM mo ru w dd ct=row at *;simp[-aB,b,c,f,g,x,a,e,l2]
theorem Rc(ok:PyData.strOk w=true)(h:gu [.dat (gM mo ru w dd ct),.dat (.int S.holds),.dat Z,.dat D,.own true (.sd fs)]=.rt (.dat (.bool true)) [.sd fs']):QY C (cW C ns t Z D S fs now rows x8 x9 (some (.dat (.tuple [.str w,.int dd,.int ct]))) (some (.dat (.list (R++[gM mo ru w dd ct])))))=.nx (cW C ns t Z D S fs' now rows x8 x9 (some (.dat (.tuple [.str w,.int dd,.int ct]))) (some (.dat (.list (R++[gM mo ru w dd ct]))))):=by have e:=pB (Qn ok dd ct);have b:=Ra (mo:=mo) (ru:=ru) (w:=w) (dd:=dd) (ct:=ct);have x:=Ep (R:=R) (mo:=mo) (ru:=ru) (w:=w) (dd:=dd) (ct:=ct);have a:aB (xB S) (.int 2)=some (.int S.holds):=rfl;have c:=Dh (C:=C) (S:=S);generalize R++[gM mo ru w dd ct]=f at *;generalize gM mo ru w dd ct=row at *;generalize xB S=g at *;simp[-aB,dE,cE,yd,c,a,x,h,b,e]
end
theorem ud(l:List iw):dI [.list (l.map dH)]=some (.int l.length):=by simp[dI]
theorem Re(l:List iw)(r:iw):dI [.list (l.map dH++[dH r])]=some (.int ((l.length:Int)+1)):=by simp[dI]
theorem Rf{c:Cl}(h:c=.step c.ru c.mo\/c=.finish c.ru c.mo):∃a:Str,aB (fg c) (.int 0)=some (.str a)/\aB (fg c) (.int 1)=some (.int c.ru)/\lG (.str a) (.tuple [.str "step",.str "finish"])=some (.bool false):=by
 rcases h with h | h
 ·rw[h];exact⟨"step",rfl,rfl,by kernel_rfl⟩
 ·rw[h];exact⟨"finish",rfl,rfl,by kernel_rfl⟩
section
variable{C:Addr}{ns:List Int}{t:List PyData}{S:Hl}{now:Int}{n:Nat}{x8 x9 x10 x11:Option ag}
theorem pP(q:ns.length<=63)(U:t.length<=90000)(I:cx S now n)(s:n<900)(u:0<=now/\now<=9000) :
  ∃e b t' v j l,nr C (cW C ns t (cL S.a S.ss) (df S.ds) S (cG S) now S.rows.length x8 x9 x10 x11)=.nx (cW C ns t' (cL S.a S.ss) (df S.ds) e (cG e) b e.rows.length x8 v j l)/\cx e b (n+1)/\(e.a=S.a/\e.ss=S.ss/\e.ds=S.ds)/\(now<=b/\b<=now+29)/\t'.length<=t.length+7:=by
 obtain⟨c,t',h1,o,l1⟩:=Qu (ns:=ns) (t:=t) (now:=now) (holder:=S.holder) q (by omega) I.run.ho;have g:=o.m;rw[QU,bD (QV h1)];cases QQ (C:=C) I s o u with
 | no k h=>refine⟨S,now,t',some (.dat (fg c)),some (.dat (tS k)),some (.dat (.list (S.rows.map dH))),?_,I.same (I.run.mono (Int.le_refl _) (by omega)) (Int.le_refl _) (by omega) rfl rfl rfl rfl rfl,⟨rfl,rfl,rfl⟩,by omega,l1⟩;rw[bD (ye h),bD QW,bD yf,bD (yg (ud S.rows) (by omega)),bD (Eo (ud S.rows) (by omega))];exact yh (ud S.rows)
 | keep d e h w i x y z A=>
  refine⟨e,c.mo,t',some (.dat (fg c)),some (.dat d),some (.dat (.list (e.rows.map dH))),?_,i,A,g,l1⟩;have B:cG e = cG S:=by unfold cG;rw[y,z]
  have f:=ud e.rows;have R:(e.rows.length:Int)=S.rows.length:=by rw[x]
  rw[bD (ye h),bD (En w (xL c)),bD yf,bD (yg f (by omega)),bD (Eo f (by omega)),B];exact yh f
 | row wd d k h i E r=>
  obtain⟨T,G,H,J⟩:=Rf E;have f:=Re S.rows ⟨c.mo,c.ru,wd,d,k⟩;refine⟨cM { S with last:=some c.mo } ⟨c.mo,c.ru,wd,d,k⟩,c.mo,t',some (.dat (fg c)),some (.dat (.tuple [.str (fE wd),bu d,bu k])),some (.dat (.list (S.rows.map dH++[dH ⟨c.mo,c.ru,wd,d,k⟩]))),?_,i,⟨rfl,rfl,rfl⟩,g,l1⟩;have L:(cM { S with last:=some c.mo } ⟨c.mo,c.ru,wd,d,k⟩).rows.map dH=S.rows.map dH++[dH ⟨c.mo,c.ru,wd,d,k⟩]:=by show(S.rows++[_]).map dH=_;rw[List.map_append];rfl
  have M:(((cM { S with last:=some c.mo } ⟨c.mo,c.ru,wd,d,k⟩).rows.length:Nat):Int)=(S.rows.length:Int)+1:=by show(((S.rows++[_]).length:Nat):Int)=_;simp
  have N:cG (cM { S with last:=some c.mo } ⟨c.mo,c.ru,wd,d,k⟩)=cG (cM S ⟨c.mo,c.ru,wd,d,k⟩):=rfl;have O:(cM { S with last:=some c.mo } ⟨c.mo,c.ru,wd,d,k⟩).holds=S.holds:=rfl;rw[N,M];rw[<-O] at r;rw[bD (ye h)];generalize cM { S with last:=some c.mo } ⟨c.mo,c.ru,wd,d,k⟩=Q at *;have p:=yf (C:=C) (ns:=ns) (t:=t') (Z:=cL S.a S.ss) (D:=df S.ds) (S:=Q) (fs:=cG S) (now:=c.mo) (rows:=S.rows.length) (x8:=x8) (x9:=some (.dat (fg c))) (x10:=some (.dat (.tuple [.str (fE wd),bu d,bu k]))) (x11:=x11);rw[L] at p;rw[bD (En (.inr (.inr ⟨_,_,rfl,(ya wd).1,(ya wd).2⟩)) (xL c)),bD p,bD (yg f (by omega))];refine(bD (QX f (by omega) ((bD (Rb G H (xL c) J)).trans (Rc (ya wd).1 r)))).trans ?_;exact yh f
theorem kT(g:ns.length<=63):∀(q:Nat) (i:Int) {t:List PyData}{S:Hl}{now:Int}{n:Nat}{x8 x9 x10 x11:Option ag},t.length+7 * q<=80000->cx S now n->n+q<=300->0<=now->now+29 * q<=9000->
  ∃c,di (aI 8) (nr C) (L3.intsFrom i q) (cW C ns t (cL S.a S.ss) (df S.ds) S (cG S) now S.rows.length x8 x9 x10 x11)=.nx (some (.scr ns)::c)
 | 0,i,t,S,now,n,x8,x9,x10,x11,_,_,_,_,_=>⟨_,by simp[L3.intsFrom,di];rfl⟩
 | q+1,i,t,S,now,n,x8,x9,x10,x11,ht,I,u,j,h1=>by obtain⟨k,b,t',m,d,f,e,o,⟨p,r,s⟩,v,l⟩:=pP (C:=C) (x8:=some (.dat (.int i))) (x9:=x9) (x10:=x10) (x11:=x11) g (by omega:t.length<=90000) I (by omega) ⟨j,by omega⟩;obtain⟨c,h⟩:=kT g q (i+1) (t:=t') (S:=k) (now:=b) (x8:=some (.dat (.int i))) (x9:=m) (x10:=d) (x11:=f) (by omega) o (by omega) (by omega) (by omega);rw[p,r,s] at h;refine⟨c,?_⟩;rw[xx,di];simp only[aI,List.length_cons,List.length_nil,List.set_cons_succ,List.set_cons_zero];rw[e];exact h
end
theorem Rg{i:Nat}{m:XM ag}{U b a:ai}{c:ag}(h:m U=.ok c b)(q:qP i c b = .nx a):gZ i m U=.nx a:=by simp only[gZ,h,en];exact q
theorem Rh{n:Nat}(h:n<=6):kb (.list [.int 0]) (.int n)=some (.list ((List.replicate n (0:Nat)).map bu)):=by
 obtain rfl | rfl | rfl | rfl | rfl | rfl | rfl:n=0\/n=1\/n=2\/n=3\/n=4\/n=5\/n=6:=by omega
 all_goals kernel_rfl
theorem Ri{d k:PyData}{V:List PyData}{U:ai}(r:kb d k=some (.list V)):oI d k U=.ok (.own false (.l V)) U:=by unfold oI;rw[r];rfl
theorem Rj{m n:XM PyData}{d k:PyData}{V:List PyData}{U:ai}(c:m U=.ok d U)(f:n U=.ok k U)(g:oI d k U=.ok (.own false (.l V)) U):mR "at" (lE m n) [("on",.none)] U=.ok (bK V .none) U:=by
 have e:bK V .none=((("at":Str),Fl.l V)::vZ [(("on":Str),PyData.none)]):=by unfold bK;rfl
 rw[e];have a:rn n d U=.ok (.own false (.l V)) U:=by unfold rn;rw[f];exact g
 have b:lE m n U=.ok (.own false (.l V)) U:=by unfold lE;rw[c];exact a
 unfold mR;rw[b];rfl
theorem Rk{m:XM (List (Str×Fl))}{V:List PyData}{U:ai}(h:m U=.ok (bK V .none) U):mS m U=.ok (.own false (.sd (bK V .none))) U:=by
 have nd:=DZ V .none;have a:(bK V .none).length<=15:=by unfold bK;show 2<=15;decide
 unfold mS;rw[h];show rm (bK V .none) U=_;unfold rm;rw[if_pos ⟨nd,a⟩];rfl
theorem Rl{a:List PyData->Option PyData}{d:PyData}{n:Nat}{U:ai}(hd:U[3]? = some (some (.dat d)))(b:a [d]=some (.int n))(h:n<=6):mS (mR "at" (lE (ef (aj (xC (.int 0)) aL)) (cT a (aj (xV 3) aL))) [("on",.none)]) U=.ok (.own false (.sd (bK ((List.replicate n (0:Nat)).map bu) .none))) U:=by
 have r:=Rh h;refine Rk (Rj (d:=.list [.int 0]) (k:=.int n) ?_ ?_ (Ri r))
 ·have sz:1000<sizeLine:=by decide
  have l1:(1:Nat)<=sizeLine:=by omega
  clear r b h;simp[l1]
 ·clear r h;generalize (n:Int)=N at *;simp[hd,b]
theorem yi{g:List PyData->Option (List PyData)}{V:List PyData}{B:SM}{C:Addr}{a:List Int}{t:List PyData}{i k:Int}{Z D:PyData}{S:Hl}{fs:List (Str×Fl)}{b:ai}(h:fX [.scr a,.own true (.l t),.dat (.list [.int 61,.int 61,.int 61,.int 61,.int 200])]=.rt (.dat (.int i)) [.l (t++[.int 0])])(c:cU [.scr a,.own true (.l (t++[.int 0])),.dat (.int i)]=.rt (.dat (.int k)) [.l (t++[.int 0]++[.int 0])])(d:g [.int k]=some V)(e:di (aI 8) B V (cW C a (t++[.int 0]++[.int 0]) Z D S fs 0 0 none none none none)=.nx b) :
  (iK (hD g (aj (aQ (aO cU (aS 0 (aS 1 (ao (aQ (aO fX (aS 0 (aS 1 (ao (ef (aj (xC (.int 61)) (aj (xC (.int 61)) (aj (xC (.int 61)) (aj (xC (.int 61)) (aj (xC (.int 200)) aL)))))) aF))))) aF))))) aL)) (aI 8) B) (cW C a t Z D S fs 0 0 none none none none)=.nx b:=by
 have sz:1000<sizeLine:=by decide
 have f:(5:Nat)<=sizeLine:=by omega
 clear sz;rw[<-e];generalize t++[.int 0]++[.int 0]=j at *;generalize t++[.int 0]=m at *;simp[h,c,d,f]
theorem Rm{C:Addr}{f:List Int}(m:f.length<=63):Cn C [.scr f]=.rt (.dat (.bool true)) []:=by
 have sz:1000<sizeLine:=by decide
 obtain⟨a,ss,G,H,I,J,L,M,l1⟩:=OY (ns:=f) (t:=[]) m (by simp);have A:mU a ss:=⟨I,J,L,fun p N=>by have:=M p N;omega⟩
 simp only[List.length_nil] at l1;obtain⟨b,g,hd,dl,l2,h2⟩:=Qt (ns:=f) (t:=G) m (by omega);rw[<-nB] at h2;obtain⟨w,B,h3⟩:=jI (ns:=f) (t:=g) (ds:=[.int 61,.int 61,.int 61,.int 61,.int 200]) m (by omega) (by simp) (by simp);have r:∃i:Int,w=.int i/\0<i/\i<=200:=by simp only[List.mem_cons,List.not_mem_nil,or_false] at B;rcases B with rfl | rfl | rfl | rfl | rfl<;>exact⟨_,rfl,by omega,by omega⟩
 obtain⟨i,rfl,O,X⟩:=r;obtain⟨k,Y,k1,Q⟩:=ez (ns:=f) (t:=g++[.int 0]) (many:=i) m (by simp;omega) O;have s:=PD (C:=C) (CK A) (Qr (ds:=b) dl hd) dl;have R:cx (ff a ss b) 0 0:=⟨Qv A dl fun d q=>⟨(hd d q).1,(hd d q).2⟩,fun d c h e=>(by cases e),fun x q=>by
  have:=List.eq_of_mem_replicate (show x∈List.replicate b.length 0 from q);omega⟩
 obtain⟨E,u⟩:=kT (C:=C) m k.toNat 0 (t:=g++[.int 0]++[.int 0]) (S:=ff a ss b) (now:=0) (x8:=none) (x9:=none) (x10:=none) (x11:=none) (by simp;omega) R (by omega) (by omega) (by omega);have T:dI [df b]=some (.int b.length):=by rw[nB];simp[dI]
 have o:cG (ff a ss b)=bK ((List.replicate b.length (0:Nat)).map bu) .none:=rfl;rw[o] at u;have U:=Dq (j:=k) (by omega) (by omega);have v:di (aI 8) (nr C) (L3.intsFrom 0 k.toNat) (cW C f (g++[.int 0]++[.int 0]) (cL a ss) (df b) (ff a ss b) (bK ((List.replicate b.length (0:Nat)).map bu) .none) 0 0 none none none none)=.nx (some (.scr f)::E):=u;clear u;have mk:∀y:Option ag,∀z:Option ag,mS (mR "at" (lE (ef (aj (xC (.int 0)) aL)) (cT dI (aj (xV 3) aL))) [("on",.none)]) [some (.scr f),some (.own false (.l g)),y,some (.dat (df b)),z,none,none,none,none,none,none,none]=.ok (.own false (.sd (bK ((List.replicate b.length (0:Nat)).map bu) .none))) [some (.scr f),some (.own false (.l g)),y,some (.dat (df b)),z,none,none,none,none,none,none,none]:=fun y z=>Rl rfl T dl;generalize bK ((List.replicate b.length (0:Nat)).map bu) .none=fs at *;generalize ff a ss b=S at *;generalize cL a ss=Z at *;generalize df b=D at *;refine Pj (n:=11) ?_;unfold xi;simp only[List.replicate];refine kD (by simp[wX]<;>rfl) ?_;refine kD (by simp[wY,H]<;>rfl) ?_;refine kD (by simp[wZ,h2]<;>rfl) ?_;refine kD (by simp[xa,vM,oC,s]<;>rfl) ?_;refine kD (by unfold xb;exact Rg (mk _ _) (by simp<;>rfl)) ?_;refine kD (by simp[xc]<;>rfl) ?_;refine kD (by simp[xf]<;>rfl) ?_;refine kD (U':=some (.scr f)::E) (by
  unfold xg;exact yi h3 Q U v) ?_
 exact⟨_,_,by simp[xh];exact⟨rfl,rfl⟩⟩
end K3
namespace K3
open PySem PySem.Spec L2 L2.L3 PyProof.Rows
theorem Rn{K:Frag}{i:Str->Option Value}{f:FM}{e:List V}{H:Hp}{Q:VK}{E:XK}(j:GH i H)(k:∀c:List Int,c.length<=63->f [.scr c]=.rt (.dat (.bool true)) [])(h:∃a c,e=[.ref a]/\iI K H a c/\∀d,Q (.bl true) d):bf K i f e H Q E:=by obtain⟨a,c,rfl,hs,q⟩:=h;refine⟨j,[.scr c],[[]],[],.oth (fun _ z=>by cases z) (fun _ _ z=>by cases z) ⟨a,rfl,hs⟩ .nil,List.nodup_nil,fun b l=>by simp at l,?_⟩;rw[k c hs.1];intro v d n g m _ _;rw[show v=.bl true from DV.bl_inv m];exact q d
noncomputable def yj(K:Frag):Sp:=fun b H Q _=>∃a d,b=[.ref a]/\iI K H a d/\∀c,Q (.bl true) c
abbrev LK(K:Frag)(f:Addr)(a:Value)(b:Option Addr)(n q:Str)(s:Stmt)(k d p:Value)(e:Option Addr)(c t:Value)(l:Array (Option Value)):Prop:=K.lookup f=some ⟨a,b,.func (fnOf n q (jj s) (ij s) (bh s) .none k d p e c t),l⟩
abbrev NI(K:Frag)(n:Str)(f:Addr):Prop:=nsIn K mainGlobals n=some (some (.ref f))
abbrev NV(K:Frag)(n:Str)(i:Int)(t:Tok):Prop:=nsIn K mainGlobals n=some (some (.int i t))
abbrev NZ(K:Frag)(n:Str):Prop:=nsIn K mainGlobals n=some none
abbrev KI(K:Frag)(f:Addr):Prop:=keepIn K (.ref f)=true
local macro_rules | `(tactic| walk_at "b")=>`(tactic| first|(exact(fun _ _ _ _ _ _ us hl=>match us,hl with | [_],_=>rfl))|(exact(fun _ _ _ _ _ _ us hl=>match us,hl with | [_,_],_=>rfl))|(exact(fun _ _ _ _ _ _ us hl=>match us,hl with | [_,_,_],_=>rfl))|(exact(fun _ _ _ _ _ _ us hl=>match us,hl with | [_,_,_,_],_=>rfl))|(exact(fun _ _ _ _ _ _ us hl=>match us,hl with | [_,_,_,_,_],_=>rfl)))
theorem all_mk{l:PySem.W.OpenLaw}{w:World}{K:Frag}{h:Heap}{mg:Str->Option Value}{fa:Addr}(X:K.In h)(G:h.Ns mainGlobals mg)(b2:mg "law" = some (.ref fa))
  {a:Addr}
  {f:Addr}{I u:Option Addr}{J:Array (Option Value)}{L x y z g A:Value}
  {b3 b4 b5 b6 b7 b8 b9 c0 c1 c2 M N O R S:Tok}
  {D_:Addr}
  (p:NI K "Hall" a)
  (l0:DF K "is_whole" sf)
  (l1:DF K "is_tuple_of" sg)
  (l2:DF K "is_ahead" sh)
  (l3:DF K "is_moment" si)
  (l4:DF K "is_runner" sj)
  (l5:DF K "is_term" sk)
  (l6:DF K "are_shifts" so)
  (l7:DF K "is_zone" sr)
  (l8:DF K "has_word" su)
  (l9:DF K "is_plan" sv)
  (c3:DF K "is_late" sx)
  (c4:DF K "is_deed" sy)
  (c5:DF K "are_deeds" sA)
  (c6:DF K "check_zone" sB)
  (c7:DF K "check_plan" sC)
  (c8:DF K "check_moment" sD)
  (c9:DF K "check_count" sE)
  (d0:DF K "check_deeds" sF)
  (d1:DF K "check_runner" sG)
  (d2:DF K "check_term" sH)
  (d3:DF K "shown" sI)
  (d4:DF K "stretches" sJ)
  (d5:DF K "is_ahead_of" sK)
  (d6:DF K "first_showing" sL)
  (d7:DF K "first_day" sM)
  (d8:DF K "daily_time" sN)
  (d9:DF K "time_of" sO)
  (e0:DF K "due" sP)
  (e1:DF K "is_left_out" sQ)
  (e2:MF K a "__init__" "Hall.__init__" sR)
  (e3:MF K a "is_held" "Hall.is_held" sS)
  (e4:MF K a "check_call" "Hall.check_call" sT)
  (e5:MF K a "check_holder" "Hall.check_holder" sU)
  (e6:MF K a "take" "Hall.take" sV)
  (e7:MF K a "give" "Hall.give" sW)
  (e8:MF K a "add_row" "Hall.add_row" sX)
  (e9:MF K a "is_busy" "Hall.is_busy" sY)
  (f0:MF K a "first_unsettled" "Hall.first_unsettled" sZ)
  (f1:MF K a "step" "Hall.step" tf)
  (f2:MF K a "step_behind_a_fall" "Hall.step_behind_a_fall" tj)
  (f3:MF K a "step_ahead" "Hall.step_ahead" tm)
  (f4:MF K a "finish" "Hall.finish" tp)
  (f5:MF K a "held" "Hall.held" tq)
  (f6:MF K a "log" "Hall.log" tt)
  (f7:DF K "_law_cell_at" tu)
  (f8:DF K "_law_mixed" tw)
  (f9:DF K "_law_draw" tx)
  (g0:DF K "_law_pick" tz)
  (g1:DF K "_law_zone" tD)
  (g2:DF K "_law_plan" tE)
  (g3:DF K "_law_deeds" tF)
  (g4:DF K "_law_call" tG)
  (g5:DF K "_law_which" tH)
  (g6:DF K "_law_do" tI)
  (g7:DF K "_law_row_right" tJ)
  (U:NI K "law" f)
  (g8:LK K f L I "law" "law" kA x y z u g A J)
  (g9:codeIn K g "law" = true)
  (h0:KI K f)
  (h1:NV K "LAST_MOMENT" (9999) b3)
  (h2:NV K "LAST_COUNT" (9999) b4)
  (Y:NV K "LAST_HOUR" (23) b5)
  (h3:NV K "LEAST_AHEAD" (-12) b6)
  (h4:NV K "MOST_AHEAD" (14) b7)
  (h5:NV K "MOST_SHIFTS" (6) b8)
  (h6:NV K "MOST_STEP" (999) b9)
  (h7:NV K "MOST_DEEDS" (6) c0)
  (h8:NV K "MOST_WITHIN" (999) c1)
  (h9:NV K "LAST_RUNNER" (3) c2)
  (i0:NV K "MOST_TERM" (99) M)
  (Z:NV K "DAY_HOURS" (24) N)
  (a0:NV K "PLAN" (0) O)
  (a1:NV K "LATE" (1) R)
  (a2:NV K "AGAIN" (2) S)
  (i1:NZ K "ANY_ZONE")
  (i2:NZ K "NO_DEEDS")
  (i3:NZ K "ValueError")
  (a3:NZ K "all")
  (i4:NZ K "bool")
  (i5:NZ K "enumerate")
  (a4:NZ K "int")
  (i6:NZ K "isinstance")
  (i7:NZ K "len")
  (i8:NZ K "list")
  (a5:NZ K "max")
  (a6:NZ K "min")
  (i9:NZ K "range")
  (a7:NZ K "str")
  (j0:NZ K "tuple")
  (a8:NZ K "zip")
  (j1:plainGet K a Str.empty=true)
  (j2:PySem.W.hasDictIn K a=true)
  (j3:PySem.W.plainOver K a=true)
  (j4:findIn K (.ref a) "__setattr__" = some (some (.builtin "object.__setattr__")))
  (a9:PySem.W.makesIn K a=true)
  (b0:KI K a)
  (i:findIn K (.ref a) "begun" = some none)
  (j:findIn K (.ref a) "deeds" = some none)
  (d:findIn K (.ref a) "holder" = some none)
  (k:findIn K (.ref a) "holds" = some none)
  (q:findIn K (.ref a) "last" = some none)
  (r:findIn K (.ref a) "rows" = some none)
  (b:findIn K (.ref a) "settled" = some none)
  (m:findIn K (.ref a) "until" = some none)
  (n:findIn K (.ref a) "words" = some none)
  (t:findIn K (.ref a) "zone" = some none)
  (o:NI K "DueError" D_)
  (B:excIn K D_ ow "ValueError.__new__" = true)
  (D:Bs K D_ er=true) :
  ∃fd:FuncData,(∀(s:Shared) (v:Value),BindsTo s fd ⟨[v],[]⟩ [("_law_script",v)])/\∀base:Heap,K.In base->base.Ns mainGlobals mg->aA l.prog w K mg base (ba l.prog w) 9 fa fd ["_law_script"] (yj K):=by
 have e:=b2.symm.trans (mg_of X G U);cases e;have b1:=nL (st:=kA) g8 g9 h0;have j5:FD K mg "law" kA ["_law_script"] _ _:=⟨b1,mg_of X G U,b1.binds fun _ _ _ _ _ _=>dL fun _=>rfl⟩
 have HC:et K mg a:={
  cl:=⟨j1,j2,j3,j4⟩
  mg:=mg_of X G p
  mks:=a9
  kpC:=b0
  d1x:=i
  d1y:=j
  d1z:=d
  d20:=k
  d21:=q
  d22:=r
  d23:=b
  d24:=m
  d25:=n
  d26:=t
  d27:=e2.md fun _ _ _ _ _ _=>fA fun _ _ _=>rfl
  d28:=e3.md fun _ _ _ _ _ _=>hJ fun _ _=>rfl
  d29:=e4.md fun _ _ _ _ _ _=>fA fun _ _ _=>rfl
  d2a:=e5.md fun _ _ _ _ _ _=>fA fun _ _ _=>rfl
  d2b:=e6.md fun _ _ _ _ _ _=>vW fun _ _ _ _=>rfl
  d2c:=e7.md fun _ _ _ _ _ _=>fA fun _ _ _=>rfl
  d2d:=e8.md fun _ _ _ _ _ _=>hJ fun _ _=>rfl
  d2e:=e9.md fun _ _ _ _ _ _=>dL fun _=>rfl
  d2f:=f0.md fun _ _ _ _ _ _=>dL fun _=>rfl
  d2g:=f1.md fun _ _ _ _ _ _=>fA fun _ _ _=>rfl
  d2h:=f2.md fun _ _ _ _ _ _=>fA fun _ _ _=>rfl
  d2i:=f3.md fun _ _ _ _ _ _=>fA fun _ _ _=>rfl
  d2j:=f4.md fun _ _ _ _ _ _=>fA fun _ _ _=>rfl
  d2k:=f5.md fun _ _ _ _ _ _=>dL fun _=>rfl
  d2l:=f6.md fun _ _ _ _ _ _=>dL fun _=>rfl
 }
 have T:Tx K mg:={
  d00:=l0.fd X G fun _ _ _ _ _ _=>fA fun _ _ _=>rfl
  d01:=l1.fd X G fun _ _ _ _ _ _=>hJ fun _ _=>rfl
  d02:=l2.fd X G fun _ _ _ _ _ _=>dL fun _=>rfl
  d03:=l3.fd X G fun _ _ _ _ _ _=>dL fun _=>rfl
  d04:=l4.fd X G fun _ _ _ _ _ _=>dL fun _=>rfl
  d05:=l5.fd X G fun _ _ _ _ _ _=>dL fun _=>rfl
  d06:=l6.fd X G fun _ _ _ _ _ _=>dL fun _=>rfl
  d07:=l7.fd X G fun _ _ _ _ _ _=>dL fun _=>rfl
  d08:=l8.fd X G fun _ _ _ _ _ _=>fA fun _ _ _=>rfl
  d09:=l9.fd X G fun _ _ _ _ _ _=>dL fun _=>rfl
  d0a:=c3.fd X G fun _ _ _ _ _ _=>dL fun _=>rfl
  d0b:=c4.fd X G fun _ _ _ _ _ _=>dL fun _=>rfl
  d0c:=c5.fd X G fun _ _ _ _ _ _=>dL fun _=>rfl
  d0d:=c6.fd X G fun _ _ _ _ _ _=>dL fun _=>rfl
  d0e:=c7.fd X G fun _ _ _ _ _ _=>dL fun _=>rfl
  d0f:=c8.fd X G fun _ _ _ _ _ _=>dL fun _=>rfl
  d0g:=c9.fd X G fun _ _ _ _ _ _=>dL fun _=>rfl
  d0h:=d0.fd X G fun _ _ _ _ _ _=>dL fun _=>rfl
  d0i:=d1.fd X G fun _ _ _ _ _ _=>dL fun _=>rfl
  d0j:=d2.fd X G fun _ _ _ _ _ _=>dL fun _=>rfl
  d0k:=d3.fd X G fun _ _ _ _ _ _=>hJ fun _ _=>rfl
  d0l:=d4.fd X G fun _ _ _ _ _ _=>dL fun _=>rfl
  d0m:=d5.fd X G fun _ _ _ _ _ _=>hJ fun _ _=>rfl
  d0n:=d6.fd X G fun _ _ _ _ _ _=>hJ fun _ _=>rfl
  d0o:=d7.fd X G fun _ _ _ _ _ _=>hJ fun _ _=>rfl
  d0p:=d8.fd X G fun _ _ _ _ _ _=>fA fun _ _ _=>rfl
  d0q:=d9.fd X G fun _ _ _ _ _ _=>fA fun _ _ _=>rfl
  d0r:=e0.fd X G fun _ _ _ _ _ _=>fA fun _ _ _=>rfl
  d0s:=e1.fd X G fun _ _ _ _ _ _=>vW fun _ _ _ _=>rfl
  d0t:=f7.fd X G fun _ _ _ _ _ _=>hJ fun _ _=>rfl
  d0u:=f8.fd X G fun _ _ _ _ _ _=>fA fun _ _ _=>rfl
  d0v:=f9.fd X G fun _ _ _ _ _ _=>fA fun _ _ _=>rfl
  d0w:=g0.fd X G fun _ _ _ _ _ _=>fA fun _ _ _=>rfl
  d0x:=g1.fd X G fun _ _ _ _ _ _=>hJ fun _ _=>rfl
  d0y:=g2.fd X G fun _ _ _ _ _ _=>hJ fun _ _=>rfl
  d0z:=g3.fd X G fun _ _ _ _ _ _=>hJ fun _ _=>rfl
  d10:=g4.fd X G fun _ _ _ _ _ _=>vW fun _ _ _ _=>rfl
  d11:=g5.fd X G fun _ _ _ _ _ _=>dL fun _=>rfl
  d12:=g6.fd X G fun _ _ _ _ _ _=>hJ fun _ _=>rfl
  d13:=g7.fd X G fun _ _ _ _ _ _=>MJ fun _ _ _ _ _=>rfl
  d14:=⟨_,mg_of X G h1⟩
  d15:=⟨_,mg_of X G h2⟩
  d16:=⟨_,mg_of X G Y⟩
  d17:=⟨_,mg_of X G h3⟩
  d18:=⟨_,mg_of X G h4⟩
  d19:=⟨_,mg_of X G h5⟩
  d1a:=⟨_,mg_of X G h6⟩
  d1b:=⟨_,mg_of X G h7⟩
  d1c:=⟨_,mg_of X G h8⟩
  d1d:=⟨_,mg_of X G h9⟩
  d1e:=⟨_,mg_of X G i0⟩
  d1f:=⟨_,mg_of X G Z⟩
  d1g:=⟨_,mg_of X G a0⟩
  d1h:=⟨_,mg_of X G a1⟩
  d1i:=⟨_,mg_of X G a2⟩
  d1j:=mg_none_of X G i3
  d1k:=mg_none_of X G a3
  d1l:=mg_none_of X G i4
  d1m:=mg_none_of X G i5
  d1n:=mg_none_of X G a4
  d1o:=mg_none_of X G i6
  d1p:=mg_none_of X G i7
  d1q:=mg_none_of X G i8
  d1r:=mg_none_of X G a5
  d1s:=mg_none_of X G a6
  d1t:=mg_none_of X G i9
  d1u:=mg_none_of X G a7
  d1v:=mg_none_of X G j0
  d1w:=mg_none_of X G a8
  xt0:=⟨D_,⟨⟨mg_of X G o,o,B⟩,D,fun c C e=>mg_of X G e⟩⟩
 }
 exact⟨fnOf "law" "law" (jj kA) (ij kA) (bh kA) .none x y z u g A,fun s v=>.of_eq rfl,fun base _ _=>(OK _ _ _ T HC j5).imp fun vs H Q E h=>Rn (MI (mg_none_of X G i1) (mg_none_of X G i2) H) (fun ns hn=>Rm hn) h⟩
theorem law_walk{l:PySem.W.OpenLaw}{q:Program}{b:List Str}{j:(Str->Option Value)->Heap->Prop}{g:World->Heap->Prop}{d:DefRec}{K:Params->Frag}(m:l.most=some 63)(e:d.params.defaults=[])
  (p:∀(w:World) (h:Heap),g w h->(K w.params).In h)
  (F:∀(w:World) (c:Str->Option Value) (i:Addr) (h:Heap),(K w.params).In h->h.Ns mainGlobals c->c d.name=some (.ref i)->
   ∃fd:FuncData,(∀(s:Shared) (u:Value),BindsTo s fd ⟨[u],[]⟩ [("_law_script",u)])/\∀base:Heap,(K w.params).In base->base.Ns mainGlobals c->aA l.prog w (K w.params) c base (ba l.prog w) 9 i fd ["_law_script"] (yj (K w.params))) :
  PySem.W.WalkO q b j g l.row.toRowW d [] (fun f r=>PySem.call f r):=by
 refine L2.walk_of (n:=63) (k:=9) (x:="_law_script") (CX:=fun w=>ba l.prog w) (sp:=fun w=>yj (K w.params)) m (by decide) e ⟨rfl,by decide,by decide⟩ p F (fun w H a A t v y=>?hsp) fun _ _ _ _ _ ⟨_,_,_,_,_,_,_,_,_,z⟩=>z;refine⟨a,A,rfl,⟨t,?_⟩,fun _=>rfl⟩;rcases y with(h1 | h1) | h1
 ·rcases v a with h2 | ⟨o,B,h2⟩
  ·rw[h2] at h1;cases h1
  ·rw[h2] at h1;cases h1
 ·exact .inl h1
 ·exact .inr h1
end K3
namespace PySem.W.Fast
def tw10026922086692435204:=()
def tw10234869879370876482:=()
def tw10242567903805639981:=()
def tw10249681199271499571:=()
def tw10445111475965470328:=()
def tw10456370652180119608:=()
def tw10567551938969305403:=()
def tw10695772308296072945:=()
def tw10860638745149216683:=()
def tw10973988580117851862:=()
def tw11003867445708198519:=()
def tw11410713682472104791:=()
def tw11468343846253501792:=()
def tw1149073485597566640:=()
def tw11615269091030871214:=()
def tw12290278257964486867:=()
def tw12636297727424674083:=()
def tw12962523640932892698:=()
def tw13104325216884164812:=()
def tw13294424297686767248:=()
def tw13520287544209180464:=()
def tw13634384815793784183:=()
def tw13667697994414207582:=()
def tw13856794599238954625:=()
def tw14265101145293873055:=()
def tw14591909114430941522:=()
def tw14642030543205423457:=()
def tw14801101017340860173:=()
def tw15084443535038039812:=()
def tw15458666397438620578:=()
def tw15685800394554906926:=()
def tw15717148340179506263:=()
def tw17827432660720594882:=()
def tw18057393055917367825:=()
def tw18211154920299639944:=()
def tw1936597793290625706:=()
def tw2187098601822651287:=()
def tw2875986803725668266:=()
def tw2952822888909142430:=()
def tw3189271055408062184:=()
def tw3738944447191247569:=()
def tw3762889629500090089:=()
def tw388810900914702298:=()
def tw3900328036742322396:=()
def tw3904688376881905010:=()
def tw3926113260331957236:=()
def tw3979993519147365501:=()
def tw4053120958538749667:=()
def tw433724714807531123:=()
def tw4439695687080146016:=()
def tw5129995126497636029:=()
def tw5408227316514110840:=()
def tw5930442720858817740:=()
def tw5999664480328650080:=()
def tw664868682799983733:=()
def tw6700694984819875531:=()
def tw681506131396189743:=()
def tw6945091609415208534:=()
def tw7830838577801345091:=()
def tw784245501217476787:=()
def tw7936333711142135583:=()
def tw7979636280445508462:=()
def tw8170534922832317076:=()
def tw9019617072485421394:=()
def tw9429234609217089444:=()
end PySem.W.Fast
open PySem PySem.W PyProof.Rows
set_option maxRecDepth 100000 in
set_option maxHeartbeats 0 in
theorem PySem.Challenge.cw_duehall_k05_whole_settled_once_holds : PySem.Challenge.rw_duehall_k05_whole_settled_once.Holds := by
  w_on;o_law;k_head;(case hw => w_witness2)
  k_fill
  refine K3.law_walk (l := PySem.Challenge.rw_duehall_k05_whole_settled_once) rfl rfl (fun w h Y => PySem.W.kIn_of Y) ?F
  case F =>
    intro w mg fa h KX G hmg
    refine' K3.all_mk KX G hmg ?a_Hall ?l0 ?l1 ?l2 ?l3 ?l4 ?l5 ?l6 ?l7 ?l8 ?l9 ?l10 ?l11 ?l12 ?l13 ?l14 ?l15 ?l16 ?l17 ?l18 ?l19 ?l20 ?l21 ?l22 ?l23 ?l24 ?l25 ?l26 ?l27 ?l28 ?l29 ?l30 ?l31 ?l32 ?l33 ?l34 ?l35 ?l36 ?l37 ?l38 ?l39 ?l40 ?l41 ?l42 ?l43 ?l44 ?l45 ?l46 ?l47 ?l48 ?l49 ?l50 ?l51 ?l52 ?l53 ?l54 ?a55 ?l55 ?c55 ?k55 ?v1_ ?v6_ ?v10_ ?v3_ ?v5_ ?v0_ ?v8_ ?v7_ ?v2_ ?v4_ ?v9_ ?v11_ ?v14_ ?v13_ ?v12_ ?z3_ ?z4_ ?z1_ ?z10_ ?z8_ ?z2_ ?z11_ ?z0_ ?z9_ ?z7_ ?z13_ ?z12_ ?z5_ ?z14_ ?z6_ ?z15_ ?pg_ ?hd_ ?po_ ?sa_ ?mks_ ?kpC_ ?n_begun ?n_deeds ?n_holder ?n_holds ?n_last ?n_rows ?n_settled ?n_until ?n_words ?n_zone ?a_Due ?x_Due ?x_tab
    (case a_Hall => (first | unfold K3.LK | unfold K3.NI | unfold K3.NV | unfold K3.NZ | unfold K3.KI | skip);k_is)
    (case l0|l1|l2|l3|l4|l5|l6|l7|l8|l9|l10|l11|l12|l13|l14|l15|l16|l17|l18|l19|l20|l21|l22|l23|l24|l25|l26|l27|l28|l44|l45|l46|l47|l48|l49|l50|l51|l52|l53|l54 => exact⟨_,_,_,_,_,_,_,_,_,_,by k_is,by k_is,by k_is,by k_is⟩)
    (case l29|l30|l31|l32|l33|l34|l35|l36|l37|l38|l39|l40|l41|l42|l43 => exact⟨_,_,_,_,_,_,_,_,_,_,by k_is,by k_is,by k_is,by k_is,by k_is⟩)
    (case a55|l55|c55|k55|v1_|v6_|v10_|v3_|v5_|v0_|v8_|v7_|v2_|v4_|v9_|v11_|v14_|v13_|v12_|z3_|z4_|z1_|z10_|z8_|z2_|z11_|z0_|z9_|z7_|z13_|z12_|z5_|z14_|z6_|z15_|pg_|hd_|po_|sa_|mks_|kpC_|n_begun|n_deeds|n_holder|n_holds|n_last|n_rows|n_settled|n_until|n_words|n_zone|a_Due => (first | unfold K3.LK | unfold K3.NI | unfold K3.NV | unfold K3.NZ | unfold K3.KI | skip);k_is)
    (case x_Due|x_tab => first | kernel_rfl | rfl)
