import PyProof.Rows.All
import Wide.All
import OpenK.AllK
import Wide.FinOn
import Lean
import PyProof.EqAt
import PyProof.EqKinds
import PyProof.TupleCall
import PySem.Challenge.RW_duehall_k10_whole_saved
set_option Elab.async false
set_option linter.all false
set_option maxRecDepth 100000
theorem ak:type_of% @PySem.wpAny_bind:=@PySem.wpAny_bind
theorem bc:type_of% @PySem.wpAny_pure:=@PySem.wpAny_pure
theorem bn:type_of% @PySem.Heap.get?_push_of_some:=@PySem.Heap.get?_push_of_some
theorem bw:type_of% @PySem.Heap.lt_size:=@PySem.Heap.lt_size
theorem bI:type_of% @Nat.le_refl:=@Nat.le_refl
theorem bo:type_of% @List.mem_append_right:=@List.mem_append_right
theorem bt:type_of% @List.mem_append_left:=@List.mem_append_left
theorem bL:type_of% @List.mem_cons_of_mem:=@List.mem_cons_of_mem
open PySem.W (instObj Frag plainGet findIn emptyDict keepIn mroIn kitOne kia_one fnOf codeIn nsIn excIn clsIn mg_of mg_none_of)
namespace L2
open PySem PySem.Spec PyProof.Rows
noncomputable abbrev bd:=Sum Int Str
noncomputable def mF:bd->Value->Bool
 | .inl k,v=>Value.isInt k v
 | .inr x,v=>Value.isStrOf x v
noncomputable def Fq(w:World):bd->Int
 | .inl k=>hashInt k
 | .inr x=>hashStr w x
theorem jA:∀{k:bd}{v:Value},mF k v=true->(∃i t,k=Sum.inl i/\v=Value.int i t)\/(∃x t,k=Sum.inr x/\v=Value.str x t)
 | .inl i,v,h=>by obtain⟨t,e⟩:=Value.isInt_shape (k:=i) (v:=v) h;exact .inl ⟨i,t,rfl,e⟩
 | .inr x,v,h=>by obtain⟨t,e⟩:=Value.isStrOf_shape (x:=x) (v:=v) h;exact .inr ⟨x,t,rfl,e⟩
theorem Fs(i:Int)(t:Tok):mF (.inl i) (.int i t)=true:=by simp[mF,Value.isInt]
theorem Ft(x:Str)(t:Tok):mF (.inr x) (.str x t)=true:=by simp[mF,Value.isStrOf]
theorem Fu(a b:Int):decide ((Sum.inl a:bd)=Sum.inl b)=(a==b):=by
 by_cases e:a=b
 ·subst e;simp
 ·have h:¬ (Sum.inl a:bd)=Sum.inl b:=fun q=>e (Sum.inl.inj q);rw[decide_eq_false h];exact(beq_eq_false_iff_ne.mpr e).symm
theorem Fv(a b:Str):decide ((Sum.inr a:bd)=Sum.inr b)=decide (a=b):=by
 by_cases e:a=b
 ·subst e;simp
 ·have h:¬ (Sum.inr a:bd)=Sum.inr b:=fun q=>e (Sum.inr.inj q);rw[decide_eq_false h,decide_eq_false e]
theorem Fw(a:Int)(b:Str):decide ((Sum.inl a:bd)=Sum.inr b)=false:=decide_eq_false (fun q=>nomatch q)
theorem Fy(a:Str)(b:Int):decide ((Sum.inr a:bd)=Sum.inl b)=false:=decide_eq_false (fun q=>nomatch q)
noncomputable def gB(prog:Program)(w:World):PySem.KeyKind prog w bd where
 is:=mF
 hash:=Fq w
 inj:=fun v a b ha hb=>by
  rcases jA ha with⟨i,t,rfl,rfl⟩ | ⟨x,t,rfl,rfl⟩
  ·rcases jA hb with⟨j,u,rfl,e⟩ | ⟨y,u,rfl,e⟩
   ·injection e with e1 _;rw[e1]
   ·exact nomatch e
  ·rcases jA hb with⟨j,u,rfl,e⟩ | ⟨y,u,rfl,e⟩
   ·exact nomatch e
   ·injection e with e1 _;rw[e1]
 byValue:=fun k v h=>by rcases jA h with⟨i,t,rfl,rfl⟩ | ⟨x,t,rfl,rfl⟩<;>rfl
 pyHash:=fun hv h=>by
  rcases jA hv with⟨i,t,rfl,rfl⟩ | ⟨x,t,rfl,rfl⟩
  ·exact wpAny_pyHash_int h
  ·exact wpAny_pyHash_str h
 eqBool:=fun hu hv h=>by
  rcases jA hu with⟨i,t,rfl,rfl⟩ | ⟨x,t,rfl,rfl⟩
  ·rcases jA hv with⟨j,u,rfl,rfl⟩ | ⟨y,u,rfl,rfl⟩
   ·rw[Fu] at h;exact wpAny_eqBool_int h
   ·rw[Fw] at h;exact SeqAt.EqAt.int_str i t y u _ _ _ _ h
  ·rcases jA hv with⟨j,u,rfl,rfl⟩ | ⟨y,u,rfl,rfl⟩
   ·rw[Fy] at h;exact SeqAt.EqAt.str_int x t j u _ _ _ _ h
   ·rw[Fv] at h;exact wpAny_eqBool_str h
 «strs»:=fun k x t v h=>by
  rcases jA h with⟨i,u,rfl,e⟩ | ⟨y,u,rfl,e⟩
  ·exact nomatch e
  ·injection e with e1 _
   subst e1;cases v<;>rfl
theorem Fz(a:Program)(w:World)(i:Int)(t:Tok):(gB a w).is (.inl i) (.int i t)=true:=Fs i t
theorem FC(a:Program)(w:World)(x:Str)(t:Tok):(gB a w).is (.inr x) (.str x t)=true:=Ft x t
inductive V where
 | non | bl (b:Bool) | int (i:Int) | str (x:Str) | byt (b:Array UInt8) | flt (b:UInt64) | ref (a:Addr) | ty (n:String)
 deriving DecidableEq
noncomputable def bp:V->Value->Prop
 | .non,u=>u=Value.none
 | .bl b,u=>u=Value.bool b
 | .int i,u=>∃t,u=Value.int i t
 | .str x,u=>∃t,u=Value.str x t
 | .byt b,u=>∃t,u=Value.bytes b t
 | .flt b,u=>∃t,u=Value.float b t
 | .ref a,u=>u=Value.ref a
 | .ty n,u=>u=Value.type n
noncomputable abbrev bq:List V->List Value->Prop:=Paired bp
theorem bq.length{a:List V}{b:List Value}(r:bq a b):a.length=b.length:=Paired.length r
theorem bq.get:∀{a:List V}{b:List Value}{i:Nat}{x:V},bq a b->a[i]? = some x->∃u,b[i]? = some u/\bp x u
 | _,_,_,_,.nil,e=>by simp at e
 | _,_,0,_,.cons r _,e=>by simp at e;subst e;exact⟨_,rfl,r⟩
 | _,_,i+1,x,.cons _ t,e=>by obtain⟨u,h1,h2⟩:=bq.get (i:=i) (x:=x) t (by simpa using e);exact⟨u,by simpa using h1,h2⟩
theorem bq.set{x:V}{u:Value}(r:bp x u):∀{a:List V}{b:List Value}(i:Nat),bq a b->bq (a.set i x) (b.set i u)
 | _,_,_,.nil=>.nil
 | _,_,0,.cons _ t=>.cons r t
 | _,_,i+1,.cons q t=>.cons q (bq.set r i t)
theorem bq.append:∀{a b:List V}{c d:List Value},bq a c->bq b d->bq (a++b) (c++d)
 | _,_,_,_,.nil,s=>s
 | _,_,_,_,.cons r t,s=>.cons r (bq.append t s)
theorem bq.take:∀{a:List V}{b:List Value}(n:Nat),bq a b->bq (a.take n) (b.take n)
 | _,_,0,_=>.nil
 | _,_,_+1,.nil=>.nil
 | _,_,n+1,.cons r t=>.cons r (bq.take n t)
theorem bq.drop:∀{a:List V}{b:List Value}(n:Nat),bq a b->bq (a.drop n) (b.drop n)
 | _,_,0,r=>r
 | _,_,_+1,.nil=>.nil
 | _,_,n+1,.cons _ t=>bq.drop n t
noncomputable def ft:Option V->Option Value->Prop
 | some v,some u=>bp v u
 | none,none=>True
 | _,_=>False
noncomputable def KV{κ:Type}:List (κ×V)->List (κ×Value)->Prop:=Paired fun(p:κ×V) (q:κ×Value)=>p.1=q.1/\bp p.2 q.2
noncomputable def kV:bd->V
 | .inl i=>.int i
 | .inr x=>.str x
inductive HO where
 | lst (xs:List V)
 | tup (xs:List V)
 | dK (kvs:List (bd×V)) | dT (kvs:List (List bd×V))
 | set (S:Int->Bool) (n:Nat)
 | ins (C dx:Addr) (fs:List (Str×V))
 | own (x:Addr)
 | xd (fs:List (Str×V))
 | met (f x:Addr)
 | rng (lo hi:Int)
 | frz (o:Obj) (u:HO)
 | tbl (ps:Array Value)
 | ext (φ:Heap->Prop)
noncomputable abbrev Hp:=Addr->Option HO
noncomputable def aQ(H:Hp)(a:Addr)(o:HO):Hp:=fun b=>if b=a then some o else H b
theorem cF{H:Hp}{a:Addr}{o:HO}:aQ H a o a=some o:=by unfold aQ;rw[if_pos rfl]
theorem bv{H:Hp}{a b:Addr}{o:HO}(h:b≠a):aQ H a o b=H b:=by unfold aQ;rw[if_neg h]
theorem FF{H:Hp}{a b:Addr}{o u:HO}(h:H a=some o)(c:H b=some u)(d:o≠u):a≠b:=by intro e;subst e;rw[h] at c;exact d (Option.some.inj c)
theorem iy{H:Hp}{a b:Addr}{o:HO}(h:H a=some o)(c:H b=none):a≠b:=by intro e;subst e;rw[h] at c;cases c
section
variable(P:Program)(w:World)
noncomputable def cJ(H:Hp)(h:Heap)(a:Addr):HO->Prop
 | .lst d=>d.length<=sizeLine/\∃(b:List Value) (n:Nat),bq d b/\h.get? a=some { cls:=.type "list",data:=.seq b.toArray n }
 | .tup d=>d.length<=sizeLine/\∃b:List Value,bq d b/\IsTup h a b.toArray
 | .dK c=>c.length<=sizeLine/\(a==sysModules)=false/\∃i,KV c i/\h.DictOf (gB P w) a i
 | .dT c=>c.length<=sizeLine/\(a==sysModules)=false/\∃d:List (List bd×Addr×Value),
   Paired (fun(p:List bd×V) (q:List bd×Addr×Value)=>p.1=q.1/\H q.2.1=some (.tup (p.1.map kV))/\bp p.2 q.2.2) c d/\
   ∃o j m,h.get? a=some o/\o.ExactDict/\o.data=.dict j m/\j.toList=d.map (entryOfKey (tupleKind (gB P w)))/\(d.map (·.1)).Nodup
 | .set S n=>h.SetOf (intKind P w) a S n
 | .ins C g fs=>H g=some (.own a)/\fs.length<=1000/\g≠a/\h.get? a=some (instObj C g)/\
   ∃e,h.Ns1 g e/\(∀f,ft (fs.lookup f) (e f))/\PySem.Within e (fs.map (·.1))
 | .own _=>∃o,h.get? a=some o
 | .xd fs=>∃e,h.Ns1 a e/\∀f,ft (fs.lookup f) (e f)
 | .rng lo r=>∃t u v,h.get? a=some { cls:=.type "range",data:=.fields #[.int lo t,.int r u,.int 1 v] }
 | .frz o u=>h.get? a=some o/\cJ H h a u
 | .tbl s=>h.get? a=some { cls:=.none,data:=.fields s }
 | .met f x=>h.get? a=some (PySem.W.methodObj (.ref f) (.ref x))
 | .ext φ=>φ h/\(∃o,h.get? a=some o)/\∀k l:Heap,φ k->(∀o,k.get? a=some o->l.get? a=some o)->φ l
def bC(H:Hp)(h:Heap):Prop:=∀a o,H a=some o->cJ P w H h a o
end
section
variable{P:Program}{w:World}{H Z:Hp}{h h':Heap}{a:Addr}{o:HO}
theorem cJ.lt(x:cJ P w H h a o):a<h.objs.size:=by
 cases o with
 | lst c=>obtain⟨_,_,_,_,e⟩:=x;exact bw e
 | tup c=>obtain⟨_,_,_,p⟩:=x;exact p.lt
 | dK b=>obtain⟨_,_,_,_,o,_,_,e,_⟩:=x;exact bw e
 | dT b=>obtain⟨_,_,_,_,o,_,_,e,_⟩:=x;exact bw e
 | set S n=>obtain⟨o,_,_,_,e,_⟩:=x;exact bw e
 | ins C d fs=>obtain⟨_,_,_,e,_⟩:=x;exact bw e
 | own y=>obtain⟨_,e⟩:=x;exact bw e
 | xd fs=>obtain⟨_,⟨_,_,_,e,_⟩,_⟩:=x;exact bw e
 | rng lo g=>obtain⟨_,_,_,e⟩:=x;exact bw e
 | frz ob u=>obtain⟨e,_⟩:=x;exact bw e
 | tbl i=>exact bw (show h.get? a=some _ from x)
 | met f y=>exact bw (show h.get? a=some _ from x)
 | ext φ=>obtain⟨_,⟨_,e⟩,_⟩:=x;exact bw e
theorem Paired.mapP{α β:Type}{F G:α->β->Prop}:∀{c:List α}{d:List β},Paired F c d->(∀a b,F a b->G a b)->Paired G c d
 | _,_,.nil,_=>.nil
 | _,_,.cons r t,f=>.cons (f _ _ r) (Paired.mapP t f)
theorem cJ.stay(x:cJ P w H h a o)(k:∀b u,(b=a\/H b=some (.own a))->h.get? b=some u->h'.get? b=some u)
  (L:∀b,H b=some (.own a)->Z b=some (.own a)) (E:∀b m,H b=some (.tup m)->Z b=some (.tup m)):cJ P w Z h' a o:=by
 induction o with
 | lst m=>obtain⟨z,l,n,r,e⟩:=x;exact⟨z,l,n,r,k _ _ (.inl rfl) e⟩
 | tup m=>obtain⟨z,l,r,g,e,c⟩:=x;exact⟨z,l,r,g,k _ _ (.inl rfl) e,c⟩
 | dK s=>obtain⟨z,y,G,r,g,i,j,e,c⟩:=x;exact⟨z,y,G,r,g,i,j,k _ _ (.inl rfl) e,c⟩
 | dT s=>obtain⟨z,y,m,r,g,i,j,e,c⟩:=x;exact⟨z,y,m,Paired.mapP r fun p q z=>⟨z.1,E _ _ z.2.1,z.2.2⟩,g,i,j,k _ _ (.inl rfl) e,c⟩
 | set S n=>obtain⟨g,i,j,t,e,c⟩:=x;exact⟨g,i,j,t,k _ _ (.inl rfl) e,c⟩
 | ins C M fs=>obtain⟨d,z,ne,e,A,⟨B,i,j,I,c⟩,r⟩:=x;exact⟨L _ d,z,ne,k _ _ (.inl rfl) e,A,⟨B,i,j,k _ _ (.inr d) I,c⟩,r⟩
 | own y=>obtain⟨g,e⟩:=x;exact⟨g,k _ _ (.inl rfl) e⟩
 | xd fs=>obtain⟨A,⟨B,i,j,e,c⟩,r⟩:=x;exact⟨A,⟨B,i,j,k _ _ (.inl rfl) e,c⟩,r⟩
 | rng lo N=>obtain⟨t,u,v,e⟩:=x;exact⟨t,u,v,k _ _ (.inl rfl) e⟩
 | frz g u J=>obtain⟨e,q⟩:=x;exact⟨k _ _ (.inl rfl) e,J q⟩
 | tbl D=>have e:h.get? a=some { cls:=.none,data:=.fields D }:=x;show h'.get? a=some { cls:=.none,data:=.fields D };exact k a _ (.inl rfl) e
 | met f y=>have e:h.get? a=some (PySem.W.methodObj (.ref f) (.ref y)):=x;show h'.get? a=some (PySem.W.methodObj (.ref f) (.ref y));exact k a _ (.inl rfl) e
 | ext φ=>obtain⟨p,⟨o,e⟩,st⟩:=x;exact⟨st _ _ p fun o q=>k _ _ (.inl rfl) q,⟨o,k _ _ (.inl rfl) e⟩,st⟩
theorem bC.lt(x:bC P w H h)(e:H a=some o):a<h.objs.size:=(x a o e).lt
theorem bC.fresh(x:bC P w H h)(e:h.objs.size<=a):H a=none:=by
 cases q:H a with
 | none=>rfl
 | some u=>exact absurd (Nat.lt_of_lt_of_le (x.lt q) e) (Nat.lt_irrefl _)
theorem bC.kept(x:bC P w H h)(k:∀b u,h.get? b=some u->h'.get? b=some u):bC P w H h':=fun a o e=>(x a o e).stay (fun b u _ q=>k b u q) (fun _ q=>q) fun _ _ q=>q
theorem bC.laid(x:bC P w H h)(k:∀b u,h.get? b=some u->h'.get? b=some u)(f:h.objs.size<=a)(new:cJ P w (aQ H a o) h' a o):bC P w (aQ H a o) h':=fun b u e=>by
 have d:=x.fresh f
 by_cases hb:b=a
 ·subst hb;rw[cF] at e;cases e;exact new
 ·rw[bv hb] at e;exact(x b u e).stay (fun c v _ q=>k c v q) (fun c q=>by rw[bv (iy q d)];exact q) fun c g q=>by rw[bv (iy q d)];exact q
end
def Rd(H:Hp)(a:Addr)(u:HO):Prop:=H a=some u\/∃o,H a=some (.frz o u)
theorem Rd.ok{P:Program}{w:World}{H:Hp}{h:Heap}{a:Addr}{u:HO}(r:Rd H a u)(x:bC P w H h):cJ P w H h a u:=by
 rcases r with r | ⟨o,r⟩
 ·exact x a u r
 ·obtain⟨_,q⟩:=x a _ r;exact q
noncomputable def oj:Option HO->Prop
 | some (.lst _)=>True
 | some (.dK _)=>True
 | some (.dT _)=>True
 | some (.set _ _)=>True
 | some (.ins _ _ _)=>True
 | some (.ext _)=>True
 | _=>False
section
variable{P:Program}{w:World}{H:Hp}{h Y:Heap}{x e:Addr}{X:HO}
theorem bC.write(ok:bC P w H h)(g:oj (H x))(m:e=x\/H e=some (.own x))(k:∀b u,b≠e->h.get? b=some u->Y.get? b=some u)(l:∃u,Y.get? e=some u)
  (new:cJ P w (aQ H x X) Y x X):bC P w (aQ H x X) Y:=fun b u q=>by
 have d:∀c y,H c=some (.own y)->c≠x:=fun c y r z=>by subst z;rw[r] at g;exact g
 have f:∀c i,H c=some (.tup i)->c≠x:=fun c i r z=>by subst z;rw[r] at g;exact g
 by_cases hb:b=x
 ·subst hb;rw[cF] at q;cases q;exact new
 ·rw[bv hb] at q
  by_cases a:b=e
  ·have n:H b=some (.own x):=by
    rcases m with z | z
    ·exact absurd (a.trans z) hb
    ·rw[a];exact z
   rw[q] at n;cases n;obtain⟨v,o⟩:=l;exact⟨v,by rw[a];exact o⟩
  ·refine(ok b u q).stay (fun c v j r=>k c v ?_ r) (fun c r=>by rw[bv (d c b r)];exact r) fun c i r=>by rw[bv (f c i r)];exact r
   rcases j with rfl | j
   ·exact a
   ·rintro rfl;rcases m with z | z
    ·exact d c b j z
    ·rw[j] at z;cases z;exact hb rfl
end
structure Un (fs ex:List Addr) (H H':Hp) (h h':Heap):Prop where
 keep:∀b o,h.get? b=some o->H b=none->b∉fs->b∉ex->h'.get? b=some o
 slot:∀b o,h.get? b=some o->H b=none->b∈fs->b∉ex->∃sl,h'.get? b=some { o with slots:=sl }
 free:∀b o,h.get? b=some o->H b=none->b∉ex->H' b=none
 there:∀b o,h.get? b=some o->b∉ex->∃o',h'.get? b=some o'
 tups:∀b xs,H b=some (.tup xs)->H' b=some (.tup xs)
 frzs:∀b o u,H b=some (.frz o u)->H' b=some (.frz o u)
 tbls:∀b ps,H b=some (.tbl ps)->∃more,H' b=some (.tbl (ps++more))
section
variable{fs U ex ex':List Addr}{H T S:Hp}{h h1 h2 h':Heap}{a x e:Addr}{o:HO}
theorem Un.any(u:Un fs ex H T h h1){b:Addr}{c:Obj}(q:h.get? b=some c)(n:H b=none)(d:b∉ex):∃f,h1.get? b=some { c with slots:=f }:=by
 by_cases hb:b∈fs
 ·exact u.slot b c q n hb d
 ·exact⟨c.slots,u.keep b c q n hb d⟩
theorem Un.kept(k:∀b u,h.get? b=some u->h'.get? b=some u):Un fs ex H H h h':=
 ⟨fun b c q _ _ _=>k b c q,fun b c q _ _ _=>⟨c.slots,k b c q⟩,fun _ _ _ n _=>n,fun b c q _=>⟨c,k b c q⟩,fun _ _ q=>q,fun _ _ _ q=>q,fun _ d q=>⟨#[],by rw[q];simp⟩⟩
theorem Un.refl:Un fs ex H H h h:=Un.kept fun _ _ q=>q
theorem Un.laid(k:∀b u,h.get? b=some u->h'.get? b=some u)(hp:h.objs.size<=a)(hn:H a=none):Un fs ex H (aQ H a o) h h' where
 keep:=fun b u q _ _ _=>k b u q
 slot:=fun b u q _ _ _=>⟨u.slots,k b u q⟩
 free:=fun b u q n _=>by rw[bv (Nat.ne_of_lt (Nat.lt_of_lt_of_le (bw q) hp))];exact n
 there:=fun b u q _=>⟨u,k b u q⟩
 tups:=fun b xs q=>by rw[bv (iy q hn)];exact q
 frzs:=fun b u xs q=>by rw[bv (iy q hn)];exact q
 tbls:=fun b ps q=>⟨#[],by rw[bv (iy q hn),q];simp⟩
theorem Un.write(d:oj (H x))(j:e=x\/H e=some (.own x))(k:∀b u,b≠e->h.get? b=some u->h'.get? b=some u)(f:∃u,h'.get? e=some u):Un fs ex H (aQ H x o) h h':=by
 have i:∀b,H b=none->b≠x:=fun b n z=>by subst z;rw[n] at d;exact d
 have hb:∀b,H b=none->b≠e:=fun b n z=>by
  subst z;rcases j with r | r
  ·exact i b n r
  ·rw[n] at r;cases r
 have g:∀b u,H b=some u->¬ oj (some u)->b≠x:=fun b u q l z=>by subst z;rw[q] at d;exact l d
 refine⟨fun b u q n _ _=>k b u (hb b n) q,fun b u q n _ _=>⟨u.slots,k b u (hb b n) q⟩,fun b u q n _=>by rw[bv (i b n)];exact n,fun b u q _=>?_,
  fun b m q=>by rw[bv (g b _ q fun z=>z)];exact q,fun b u m q=>by rw[bv (g b _ q fun z=>z)];exact q,fun b p q=>⟨#[],by rw[bv (g b _ q fun z=>z),q];simp⟩⟩
 by_cases c:b=e
 ·subst c;exact f
 ·exact⟨u,k b u c q⟩
end
noncomputable def qx(h:Heap)(H:Hp):List Addr:=(List.range h.objs.size).filter fun a=>(H a).isSome
noncomputable def jB(h:Heap)(H:Hp):Heap:=PySem.W.hideAll h (qx h H)
theorem FH(h:Heap)(H:Hp):(jB h H).objs.size=h.objs.size:=PySem.W.hideAll_size _ _
theorem FJ{h:Heap}{H:Hp}{b:Addr}{o:Obj}(e:h.get? b=some o)(n:H b=none):(jB h H).get? b=some o:=
 PySem.W.hideAll_get _ e fun a=>by have q:(H b).isSome=true:=(List.mem_filter.mp a).2;rw[n] at q;simp at q
theorem FK{h:Heap}{H:Hp}{b:Addr}{o:Obj}(e:(jB h H).get? b=some o):h.get? b=some o/\H b=none:=by
 have a:h.get? b=some o:=PySem.W.of_hideAll (qx h H) e;refine⟨a,?_⟩;cases q:H b with
 | none=>rfl
 | some x=>have c:b∈qx h H:=List.mem_filter.mpr ⟨List.mem_range.mpr (bw a),by simp[q]⟩;have z:(jB h H).get? b=none:=PySem.W.hideAll_none (qx h H) c;rw[z] at e;cases e
structure Mod (K:Frag) (mg:Str->Option Value) (base:Heap):Prop where
 kin:K.In base
 glob:base.Ns mainGlobals mg
 blt:∃mb,base.Ns builtinsNs mb/\∀x:Str,x≠"__name__"->mb x=bootBuiltins x
 nolimit:base.NoLimit
structure Cx where
 prog:Program
 w:World
 K:Frag
 mg:Str->Option Value
 base:Heap
 A:Around
 N:List Str
 s₀:Shared
 H₀:Hp
 env:Env
 outer:List Env
 stack:List Env
 ex:List Addr
 fn:Str->Bool
 calm:Bool
 pn:List (Addr×Obj)
 xe:Value->Shared->Prop
noncomputable def bV(l:List Env):List Addr:=l.filterMap (·.frame)
noncomputable abbrev Cx.fs(X:Cx):List Addr:=bV X.outer
def qy(a:Scope)(x:Str):Prop:=a.names.lookup x=some .local\/a.names.lookup x=some .cell\/a.names.lookup x=some .free
def gC(a:Scope)(x:Str):Prop:=a.names.lookup x=some .local\/a.names.lookup x=some .cell
def FL(a:Env)(h:Heap)(m:Str->Option Value)(x:Str)(u:Value):Prop:=
 (a.kindOf x=some .local/\m x=some u)\/((a.kindOf x=some .cell\/a.kindOf x=some .free)/\∃c,a.cells.lookup x=some c/\h.IsCell c (some u))
structure Cx.Ok (X:Cx):Prop where
 mod:Mod X.K X.mg X.base
 kind:X.env.scope.kind=.function
 glob:X.env.globals=mainGlobals
 blt:X.env.builtins=builtinsNs
 above:X.s₀.heap.objs.size<=X.env.locals
 inj:∀x y c,X.env.cells.lookup x=some c->X.env.cells.lookup y=some c->x=y
 has:∀x,(X.env.kindOf x=some .cell\/X.env.kindOf x=some .free)->∃c,X.env.cells.lookup x=some c
 cab:∀x c,X.fn x=true->X.env.cells.lookup x=some c->X.s₀.heap.objs.size<=c
 hd:X.calm=true->X.A.handled=none
 frames:X.A.frames=some X.stack
 stk:X.stack=X.outer\/(X.stack=X.env::X.outer/\X.env.frame=some X.env.locals)
 exf:∀b∈X.ex,b≠X.env.locals/\∀x c,X.env.cells.lookup x=some c->c≠b
 bs:∀b o,X.base.get? b=some o->X.s₀.heap.get? b=some o/\X.H₀ b=none
 bsz:X.base.objs.size<=X.s₀.heap.objs.size
 noex:∀b o,X.base.get? b=some o->b∉X.ex
 exfs:∀b∈X.ex,b∉X.fs
 funs:X.s₀.heap.FunFrames X.base X.outer
 frf:∀b∈X.fs,X.H₀ b=none
structure Inv (X:Cx) (pins:List (Addr×Obj)) (Y:List (Option V)) (H:Hp) (s:Shared):Prop where
 ok:X.Ok
 os:s.os=X.s₀.os
 bare:AllBare s.gens
 base:Un X.fs X.ex X.H₀ H X.s₀.heap s.heap
 loc:∃m,s.heap.Ns X.env.locals m/\∀(i:Nat) (x:Str) (v:V),X.N[i]? = some x->Y[i]? = some (some v)->qy X.env.scope x->∃u,bp v u/\FL X.env s.heap m x u
 cell:∀x c,X.env.cells.lookup x=some c->∃v,s.heap.IsCell c v
 free:H X.env.locals=none
 freeC:∀x c,X.env.cells.lookup x=some c->H c=none
 pin:∀p∈X.pn++pins,s.heap.get? p.1=some p.2/\H p.1=none/\p.1≠X.env.locals/\p.1∉X.fs/\∀v,p.2.data≠.cell v
 hok:bC X.prog X.w H s.heap
 len:Y.length=X.N.length
section
variable{X:Cx}{R:List (Addr×Obj)}{Y:List (Option V)}{H O:Hp}{s:Shared}{h':Heap}
theorem Cx.Ok.nofr(ok:X.Ok){b:Addr}{o:Obj}(e:X.base.get? b=some o):b∉X.fs:=fun a=>by have:=(ok.funs.mem a).1;rw[e] at this;cases this
theorem Inv.bs(I:Inv X R Y H s):∀b o,X.base.get? b=some o->s.heap.get? b=some o/\H b=none:=fun b o e=>⟨I.base.keep b o (I.ok.bs b o e).1 (I.ok.bs b o e).2 (I.ok.nofr e) (I.ok.noex b o e),I.base.free b o (I.ok.bs b o e).1 (I.ok.bs b o e).2 (I.ok.noex b o e)⟩
theorem Inv.bk(I:Inv X R Y H s):∀b o,X.base.get? b=some o->s.heap.get? b=some o:=fun b o e=>(I.bs b o e).1
theorem Inv.mod(I:Inv X R Y H s):Mod X.K X.mg X.base:=I.ok.mod
theorem Inv.kIn(I:Inv X R Y H s):X.K.In s.heap:=I.ok.mod.kin.keeps I.bk
theorem Inv.lt(I:Inv X R Y H s):X.env.locals<s.heap.objs.size:=let⟨_,a,_⟩:=I.loc;a.lt
theorem Inv.sz(I:Inv X R Y H s):X.s₀.heap.objs.size<=s.heap.objs.size:=Nat.le_trans I.ok.above (Nat.le_of_lt I.lt)
theorem Inv.nofs(I:Inv X R Y H s){a:Addr}(h:s.heap.objs.size<=a):a∉X.fs:=fun b=>by obtain⟨_,o,c,_⟩:=I.ok.funs.mem b;exact absurd (Nat.lt_of_lt_of_le (bw c) (Nat.le_trans I.sz h)) (Nat.lt_irrefl _)
theorem Inv.cne(I:Inv X R Y H s):∀x c,X.env.cells.lookup x=some c->c≠X.env.locals:=fun x c e z=>by obtain⟨v,o,ho,hd⟩:=I.cell x c e;obtain⟨m,⟨d,f,g,a,b,_⟩,_⟩:=I.loc;rw[z,a] at ho;cases ho;rw[b] at hd;cases hd
theorem Inv.funs(I:Inv X R Y H s):s.heap.FunFrames X.base X.outer:=by
 have all:∀(l:List Env),(∀b∈bV l,b∈X.fs)->X.s₀.heap.FunFrames X.base l->s.heap.FunFrames X.base l:=by
  intro l
  induction l with
  | nil=>intro _ _;trivial
  | cons env r g=>intro f h;obtain⟨i,⟨L,o,a,j,ho,hd⟩,k⟩:=h;have c:L∈X.fs:=f L (by unfold bV;rw[List.filterMap_cons,a];exact List.mem_cons_self);obtain⟨m,e⟩:=I.base.slot L o ho (I.ok.frf L c) c fun z=>I.ok.exfs L z c;exact⟨i,⟨L,_,a,j,e,hd⟩,g (fun b d=>f b (by unfold bV;rw[List.filterMap_cons,a];exact bL _ d)) k⟩
 exact all X.outer (fun _ d=>d) I.ok.funs
theorem Inv.stack(I:Inv X R Y H s):s.heap.FunFrames X.base X.stack:=by
 rcases I.ok.stk with e | ⟨e,a⟩
 ·rw[e];exact I.funs
 ·rw[e];obtain⟨m,b,_⟩:=I.loc;refine .cons (by rw[I.ok.kind];decide) a b ?_ I.funs;exact Heap.get?_none_of_le (Nat.le_trans I.ok.bsz I.ok.above)
theorem Inv.stkSub(I:Inv X R Y H s):∀b∈bV X.stack,b∈X.env.locals::X.fs:=fun b a=>by
 rcases I.ok.stk with e | ⟨e,c⟩
 ·rw[e] at a;exact bL _ a
 ·rw[e] at a;unfold bV at a;rw[List.filterMap_cons,c] at a;exact a
theorem Inv.stkFree(I:Inv X R Y H s):∀b∈bV X.stack,H b=none:=fun b a=>by
 rcases List.mem_cons.mp (I.stkSub b a) with e | a
 ·rw[e];exact I.free
 ·obtain⟨_,o,c,_⟩:=I.ok.funs.mem a;exact I.base.free b o c (I.ok.frf b a) fun z=>I.ok.exfs b z a
theorem Inv.step{g':Array GenState}{t':Nat}{d':Drawn}{ch:List Addr}(I:Inv X R Y H s)
  (f:∀b∈ch,(b∈X.ex\/X.s₀.heap.objs.size<=b)/\b≠X.env.locals/\(∀x c,X.env.cells.lookup x=some c->c≠b)/\∀p∈X.pn++R,p.1≠b)
  (keep:∀b o,b≠X.env.locals->b∉X.fs->b∉ch->s.heap.get? b=some o->H b=none->h'.get? b=some o)
  (slot:∀b o,b≠X.env.locals->b∈X.fs->b∉ch->s.heap.get? b=some o->H b=none->∃N,h'.get? b=some { o with slots:=N }) (free:∀b o,b∉ch->s.heap.get? b=some o->H b=none->O b=none)
  (there:∀b o,b∉ch->s.heap.get? b=some o->∃B,h'.get? b=some B)
  (E:∀b y,H b=some (.tup y)->O b=some (.tup y)) (G:∀b o u,H b=some (.frz o u)->O b=some (.frz o u)) (J:∀b L,H b=some (.tbl L)->∃more,O b=some (.tbl (L++more)))
  (ns:∀m,s.heap.Ns X.env.locals m->h'.Ns X.env.locals m) (Q:bC X.prog X.w O h') (Z:AllBare g') :
  Inv X R Y O { s with heap:=h',gens:=g',drawn:=d',toks:=t' }:=by
 have C:∀b o,X.s₀.heap.get? b=some o->b≠X.env.locals:=fun b o e=>Nat.ne_of_lt (Nat.lt_of_lt_of_le (bw e) I.ok.above);have j:∀b o,X.s₀.heap.get? b=some o->b∉X.ex->b∉ch:=fun b o e a A=>by
  rcases(f b A).1 with z | z
  ·exact a z
  ·exact absurd (Nat.lt_of_lt_of_le (bw e) z) (Nat.lt_irrefl _)
 have g:∀x c,X.env.cells.lookup x=some c->∀v,s.heap.IsCell c v->h'.IsCell c v:=fun x c e v ⟨o,ho,hd⟩=>by
  have h:c∉ch:=fun z=>(f c z).2.2.1 x c e rfl
  by_cases S:c∈X.fs
  ·obtain⟨N,q⟩:=slot c o (I.cne x c e) S h ho (I.freeC x c e);exact⟨_,q,hd⟩
  ·exact⟨o,keep c o (I.cne x c e) S h ho (I.freeC x c e),hd⟩
 refine⟨I.ok,I.os,Z,⟨fun b o e n A a=>?_,fun b o e n A a=>?_,fun b o e n a=>?_,fun b o e a=>?_,fun b y e=>E b y (I.base.tups b y e),fun b o y e=>G b o y (I.base.frzs b o y e),fun b L e=>?_⟩,?_,fun x c e=>?_,?_,fun x c e=>?_,fun p T=>?_,Q,I.len⟩
 ·exact keep b o (C b o e) A (j b o e a) (I.base.keep b o e n A a) (I.base.free b o e n a)
 ·obtain⟨N,t⟩:=I.base.slot b o e n A a;obtain⟨M,D⟩:=slot b _ (C b o e) A (j b o e a) t (I.base.free b o e n a);exact⟨M,D⟩
 ·obtain⟨B,t⟩:=I.base.there b o e a;exact free b B (j b o e a) t (I.base.free b o e n a)
 ·obtain⟨B,t⟩:=I.base.there b o e a;exact there b B (j b o e a) t
 ·obtain⟨m1,t⟩:=I.base.tbls b L e;obtain⟨m2,D⟩:=J b _ t;exact⟨m1++m2,by rw[D,Array.append_assoc]⟩
 ·obtain⟨m,hn,hl⟩:=I.loc;refine⟨m,ns m hn,fun i x v t D e3=>?_⟩;obtain⟨u,r,l⟩:=hl i x v t D e3;refine⟨u,r,?_⟩;rcases l with l | ⟨k,c,e,z⟩
  ·exact .inl l
  ·exact .inr ⟨k,c,e,g x c e _ z⟩
 ·obtain⟨v,z⟩:=I.cell x c e;exact⟨v,g x c e v z⟩
 ·obtain⟨m,⟨o,_,_,ho,_⟩,_⟩:=I.loc;exact free _ o (fun z=>(f _ z).2.1 rfl) ho I.free
 ·obtain⟨v,o,ho,hd⟩:=I.cell x c e;exact free c o (fun z=>(f c z).2.2.1 x c e rfl) ho (I.freeC x c e)
 ·obtain⟨e,n,ne,U,d⟩:=I.pin p T;have h:p.1∉ch:=fun z=>(f p.1 z).2.2.2 p T rfl;exact⟨keep p.1 p.2 ne U h e n,free p.1 p.2 h e n,ne,U,d⟩
theorem Inv.un{t':Nat}(I:Inv X R Y H s)(u:Un X.fs [] H O s.heap h')(f:bC X.prog X.w O h'):Inv X R Y O { s with heap:=h',toks:=t' }:=by
 obtain⟨m,⟨o,k,l,ho,r⟩,_⟩:=id I.loc;obtain⟨t,h⟩:=u.any ho I.free (by simp);exact I.step (g':=s.gens) (d':=s.drawn) (ch:=[]) (fun _ z=>nomatch z) (fun b o _ g _ e n=>u.keep b o e n g (by simp)) (fun b o _ g _ e n=>u.slot b o e n g (by simp)) (fun b o _ e n=>u.free b o e n (by simp)) (fun b o _ e=>u.there b o e (by simp)) u.tups u.frzs u.tbls (fun p i=>by
  obtain⟨q,c,d,a,j⟩:=i;rw[ho] at a;cases a;exact⟨_,c,d,h,j⟩) f I.bare
theorem Inv.call{g':Array GenState}{t':Nat}{d':Drawn}{ch:List Addr}(I:Inv X R Y H s)(u:Un (bV X.stack) ch H O s.heap h')(j:bC X.prog X.w O h')(k:AllBare g')
  (d:∀b∈ch,(b∈X.ex\/X.s₀.heap.objs.size<=b)/\b≠X.env.locals/\(∀x c,X.env.cells.lookup x=some c->c≠b)/\∀p∈X.pn++R,p.1≠b) :
  Inv X R Y O { s with heap:=h',gens:=g',drawn:=d',toks:=t' }:=by
 obtain⟨m,⟨o,v,y,ho,r⟩,_⟩:=id I.loc;obtain⟨C,g⟩:=u.any ho I.free fun z=>(d _ z).2.1 rfl;exact I.step (ch:=ch) d (fun b o g t a e n=>u.keep b o e n (fun z=>(List.mem_cons.mp (I.stkSub b z)).elim g t) a) (fun b o _ _ a e n=>u.any e n a) (fun b o a e n=>u.free b o e n a) (fun b o a e=>u.there b o e a) u.tups u.frzs u.tbls (fun A l=>by
  obtain⟨B,h,i,f,q⟩:=l;rw[ho] at f;cases f;exact⟨_,h,i,g,q⟩) j k
theorem Inv.turned{t':Nat}{it:Addr}(I:Inv X R Y H s)(k:∀b o,b≠it->s.heap.get? b=some o->h'.get? b=some o)(g:H it=none)(f:it≠X.env.locals)
  (l:it∈X.ex\/X.s₀.heap.objs.size<=it) (t:∀x c,X.env.cells.lookup x=some c->c≠it) (w:∀p∈X.pn++R,p.1≠it):Inv X R Y H { s with heap:=h',toks:=t' }:=by
 have d:∀b u,H b=some u->b≠it:=fun b u e z=>by rw[z,g] at e;cases e
 refine I.step (g':=s.gens) (d':=s.drawn) (ch:=[it]) (fun b y=>?_) (fun b o _ _ a e _=>k b o (fun z=>a (by simp[z])) e) (fun b o _ _ a e _=>⟨o.slots,k b o (fun z=>a (by simp[z])) e⟩) (fun _ _ _ _ n=>n)
  (fun b o a e=>⟨o,k b o (fun z=>a (by simp[z])) e⟩) (fun _ _ e=>e) (fun _ _ _ e=>e) (fun b A e=>⟨#[],by rw[e];simp⟩) (fun m h=>?_) (fun b u e=>?_) I.bare
 ·have e:b=it:=by simpa using y
  subst e;exact⟨l,f,t,w⟩
 ·obtain⟨o,i,j,ho,r⟩:=h;exact⟨o,i,j,k _ o (Ne.symm f) ho,r⟩
 ·refine(I.hok b u e).stay (fun c v a q=>k c v ?_ q) (fun _ q=>q) fun _ _ q=>q;rcases a with z | z
  ·rw[z];exact d b u e
  ·exact d c _ z
theorem Inv.tok(I:Inv X R Y H s)(t:Nat):Inv X R Y H { s with toks:=t }:=I.un (h':=s.heap) (t':=t) Un.refl I.hok
theorem Inv.kept{t':Nat}(I:Inv X R Y H s)(k:∀b u,s.heap.get? b=some u->h'.get? b=some u):Inv X R Y H { s with heap:=h',toks:=t' }:=I.un (Un.kept k) (I.hok.kept k)
theorem Inv.laid{a:Addr}{o:HO}{t':Nat}(I:Inv X R Y H s)(k:∀b u,s.heap.get? b=some u->h'.get? b=some u)(c:s.heap.objs.size<=a)(new:cJ X.prog X.w (aQ H a o) h' a o) :
  Inv X R Y (aQ H a o) { s with heap:=h',toks:=t' }:=I.un (Un.laid k c (I.hok.fresh c)) (I.hok.laid k c new)
theorem Inv.write{x e:Addr}{o:HO}{t':Nat}(I:Inv X R Y H s)(c:oj (H x))(d:e=x\/H e=some (.own x))(k:∀b u,b≠e->s.heap.get? b=some u->h'.get? b=some u)(a:∃u,h'.get? e=some u)
  (new:cJ X.prog X.w (aQ H x o) h' x o):Inv X R Y (aQ H x o) { s with heap:=h',toks:=t' }:=I.un (Un.write c d k a) (I.hok.write c d k a new)
theorem Inv.pins_of{pins':List (Addr×Obj)}(I:Inv X R Y H s)(h:∀p∈pins',s.heap.get? p.1=some p.2/\H p.1=none/\p.1≠X.env.locals/\p.1∉X.fs/\∀v,p.2.data≠.cell v):Inv X pins' Y H s:=
 ⟨I.ok,I.os,I.bare,I.base,I.loc,I.cell,I.free,I.freeC,fun p a=>(List.mem_append.mp a).elim (fun z=>I.pin p (bt _ z)) (h p),I.hok,I.len⟩
theorem va{N:List Str}(c:N.Nodup){i j:Nat}{x:Str}(a:N[i]? = some x)(b:N[j]? = some x):i=j:=by obtain⟨f,d⟩:=List.getElem?_eq_some_iff.mp a;obtain⟨g,e⟩:=List.getElem?_eq_some_iff.mp b;exact(List.getElem_inj c).mp (d.trans e.symm)
theorem zh{M:Model}{A:Around}{E:Value->Shared->Prop}{i:Nat}{x:Str}{v:V}{u:Value}{Q:Unit->Shared->Prop}(I:Inv X R Y H s)(hN:X.N.Nodup)(T:X.N[i]? = some x)(B:gC X.env.scope x)(r:bp v u)
  (h:∀s',Inv X R (Y.set i (some v)) H s'->(∃a,Heap.SameBut a s.heap s'.heap/\(a=X.env.locals\/X.env.cells.lookup x=some a))->Q () s') (hf:X.fn x=true\/X.env.scope.names.lookup x=some .local:=by first | exact .inl rfl | exact .inr rfl | assumption):wpAny M A (storeName X.env x u) Q E s:=by
 obtain⟨m,hn,hl⟩:=id I.loc;have U:(X.env.scope.kind==.class||(X.env.scope.kind==.module&&X.env.locals != X.env.globals))=false:=by rw[I.ok.kind];rfl
 have Z:i<Y.length:=by rw[I.len];exact(List.getElem?_eq_some_iff.mp T).1
 have cne:=I.cne;have g:∀{a:Addr}{h':Heap},(∃o,s.heap.get? a=some o/\H a=none)->Heap.SameBut a s.heap h'->bC X.prog X.w H h':=fun {a h'} ha f b ob e=>by
  obtain⟨_,_,C⟩:=ha;refine(I.hok b ob e).stay (fun c w' t q=>(f.2 c ?_).trans q) (fun _ q=>q) fun _ _ q=>q;rintro rfl;rcases t with rfl | t
  ·rw[C] at e;cases e
  ·rw[C] at t;cases t
 rcases B with G | G
 ·refine wpAny_storeName_local G hn (fun h' a4 f=>?_) U;obtain⟨oL,_,_,a5,_⟩:=id hn;refine h _ ⟨I.ok,I.os,I.bare,⟨fun b o e n S B=>?_,fun b o e n S B=>?_,I.base.free,fun b o e B=>?_,I.base.tups,I.base.frzs,I.base.tbls⟩,⟨_,a4,fun j y v' l D e3=>?_⟩,fun y c e=>?_,I.free,I.freeC,fun p hp=>?_,g ⟨oL,a5,I.free⟩ f,by simpa using I.len⟩ ⟨_,f,.inl rfl⟩
  ·exact(f.2 b (Nat.ne_of_lt (Nat.lt_of_lt_of_le (bw e) I.ok.above))).trans (I.base.keep b o e n S B)
  ·obtain⟨sl,l⟩:=I.base.slot b o e n S B;exact⟨sl,(f.2 b (Nat.ne_of_lt (Nat.lt_of_lt_of_le (bw e) I.ok.above))).trans l⟩
  ·obtain⟨o',l⟩:=I.base.there b o e B;exact⟨o',(f.2 b (Nat.ne_of_lt (Nat.lt_of_lt_of_le (bw e) I.ok.above))).trans l⟩
  ·by_cases J:j=i
   ·subst J;rw[T] at l;cases l;rw[List.getElem?_set_self Z] at D;cases D;exact⟨u,r,.inl ⟨G,by simp⟩⟩
   ·rw[List.getElem?_set_ne (Ne.symm J)] at D;obtain⟨u',r',q⟩:=hl j y v' l D e3;refine⟨u',r',?_⟩;rcases q with⟨k,e⟩ | ⟨k,c,e,z⟩
    ·refine .inl ⟨k,?_⟩;have:y≠x:=fun e=>J (va hN l (e▸T));simp[this,e]
    ·exact .inr ⟨k,c,e,z.sameBut f (cne y c e)⟩
  ·obtain⟨w',z⟩:=I.cell y c e;exact⟨w',z.sameBut f (cne y c e)⟩
  ·obtain⟨e,n,ne,nf,d⟩:=I.pin p hp;exact⟨(f.2 p.1 ne).trans e,n,ne,nf,d⟩
 ·have L:X.fn x=true:=by
   rcases hf with z | z
   ·exact z
   ·rw[z] at G;cases G
  obtain⟨c,t⟩:=I.ok.has x (.inl G);obtain⟨w',z⟩:=I.cell x c t;refine wpAny_storeName_cell I.ok.kind G t z (fun h' a0 f=>?_);obtain⟨oc,a1,a2⟩:=id z;refine h { s with heap:=h' } ⟨I.ok,I.os,I.bare,⟨fun b o e n S B=>?_,fun b o e n S B=>?_,I.base.free,fun b o e B=>?_,I.base.tups,I.base.frzs,I.base.tbls⟩,⟨m,hn.sameBut f (Ne.symm (cne x c t)),fun j y v' l D e3=>?_⟩,fun y c' e=>?_,I.free,I.freeC,fun p hp=>?_,g ⟨oc,a1,I.freeC x c t⟩ f,by simpa using I.len⟩ ⟨c,f,.inr t⟩
  ·exact(f.2 b (Nat.ne_of_lt (Nat.lt_of_lt_of_le (bw e) (I.ok.cab x c L t)))).trans (I.base.keep b o e n S B)
  ·obtain⟨sl,l⟩:=I.base.slot b o e n S B;exact⟨sl,(f.2 b (Nat.ne_of_lt (Nat.lt_of_lt_of_le (bw e) (I.ok.cab x c L t)))).trans l⟩
  ·obtain⟨o',l⟩:=I.base.there b o e B;exact⟨o',(f.2 b (Nat.ne_of_lt (Nat.lt_of_lt_of_le (bw e) (I.ok.cab x c L t)))).trans l⟩
  ·by_cases J:j=i
   ·subst J;rw[T] at l;cases l;rw[List.getElem?_set_self Z] at D;cases D;exact⟨u,r,.inr ⟨.inl G,c,t,a0⟩⟩
   ·rw[List.getElem?_set_ne (Ne.symm J)] at D;obtain⟨u',r',q⟩:=hl j y v' l D e3;refine⟨u',r',?_⟩;rcases q with q | ⟨k,c',e,z'⟩
    ·exact .inl q
    ·refine .inr ⟨k,c',e,z'.sameBut f ?_⟩;rintro rfl;exact J (va hN l (I.ok.inj _ _ _ e t▸T))
  ·by_cases a3:c' = c
   ·subst a3;exact⟨_,a0⟩
   ·obtain⟨w2,z2⟩:=I.cell y c' e;exact⟨w2,z2.sameBut f a3⟩
  ·obtain⟨e,n,ne,nf,d⟩:=I.pin p hp;refine⟨(f.2 p.1 ?_).trans e,n,ne,nf,d⟩;intro q;rw[q,a1] at e;have q':oc=p.2:=Option.some.inj e;exact d w' (by rw[<-q'];exact a2)
theorem vb{M:Model}{A:Around}{E:Value->Shared->Prop}{i:Nat}{x:Str}{v:V}{u:Value}{Q:Unit->Shared->Prop}(I:Inv X R Y H s)(b:X.N.Nodup)(c:X.N[i]? = some x)(d:gC X.env.scope x)(r:bp v u)
  (h:∀a,Inv X R (Y.set i (some v)) H a->Q () a) (e:X.fn x=true\/X.env.scope.names.lookup x=some .local:=by first | exact .inl rfl | exact .inr rfl | assumption):wpAny M A (storeName X.env x u) Q E s:=
 zh I b c d r (fun a f _=>h a f) e
theorem Inv.call'{a:Shared}{ch:List Addr}(I:Inv X R Y H s)(k:a.os=s.os)(u:Un (bV X.stack) ch H O s.heap a.heap)(f:bC X.prog X.w O a.heap)(g:AllBare a.gens)
  (d:∀b∈ch,(b∈X.ex\/X.s₀.heap.objs.size<=b)/\b≠X.env.locals/\(∀x c,X.env.cells.lookup x=some c->c≠b)/\∀p∈X.pn++R,p.1≠b):Inv X R Y O a:=by
 obtain⟨h',h,i,t',j⟩:=a;have e:j = s.os:=k;subst e;exact I.call (g':=h) (t':=t') (d':=i) u f g d
end
abbrev XK:=Value->Option Addr->Hp->Prop
noncomputable abbrev St:=List (Option V)
abbrev VK:=V->Hp->Prop
abbrev TE:=St->Hp->VK->Prop
abbrev TT:=St->Hp->(Bool->Hp->Prop)->Prop
abbrev TA:=St->Hp->(List V->Hp->Prop)->Prop
structure eW where
 nx:St->Hp->Prop
 rt:VK
 bk:St->Hp->Prop:=fun _ _=>False
 ct:St->Hp->Prop:=fun _ _=>False
abbrev TS:=eW->St->Hp->Prop
def EP(X:Cx)(a:List (Addr×Obj))(Y:St)(Q:VK)(u:Value)(c:Shared):Prop:=∃v b,Inv X a Y b c/\bp v u/\Q v b
def TP(X:Cx)(a:List (Addr×Obj))(Y:St)(Q:Bool->Hp->Prop)(b:Bool)(d:Shared):Prop:=∃c,Inv X a Y c d/\Q b c
def AP(X:Cx)(a:List (Addr×Obj))(Y:St)(Q:List V->Hp->Prop)(d:List Value)(e:Shared):Prop:=∃b c,Inv X a Y c e/\bq b d/\Q b c
def SP(X:Cx)(a:List (Addr×Obj))(D:eW)(f:Flow)(d:Shared):Prop:=
 match f with
 | .next=>∃c b,Inv X a c b d/\D.nx c b
 | .brk=>∃c b,Inv X a c b d/\D.bk c b
 | .cont=>∃c b,Inv X a c b d/\D.ct c b
 | .ret u=>∃v c b,Inv X a c b d/\bp v u/\D.rt v b
def PE(X:Cx)(e:Expr)(t:TE):Prop:=
 ∀(a:List (Addr×Obj)) (s:Shared) (Y:St) (H:Hp) (Q:VK),Inv X a Y H s->t Y H Q->wpAny (model X.prog X.w) X.A (eval e X.env) (EP X a Y Q) X.xe s
def PT(X:Cx)(e:Expr)(t:TT):Prop:=
 ∀(a:List (Addr×Obj)) (s:Shared) (Y:St) (H:Hp) (Q:Bool->Hp->Prop),Inv X a Y H s->t Y H Q->wpAny (model X.prog X.w) X.A (isTrue e X.env (eval e X.env)) (TP X a Y Q) X.xe s
def PW(X:Cx)(e:Expr)(t:TT):Prop:=
 ∀(whole:Sem Value) (a:List (Addr×Obj)) (s:Shared) (Y:St) (H:Hp) (Q:Bool->Hp->Prop),Inv X a Y H s->t Y H Q->wpAny (model X.prog X.w) X.A (isTrue e X.env whole) (TP X a Y Q) X.xe s
theorem PW.pt{X:Cx}{e:Expr}{t:TT}(h:PW X e t):PT X e t:=h _
def PA(X:Cx)(b:List Expr)(t:TA):Prop:=
 ∀(pos:Pos) (a:List (Addr×Obj)) (s:Shared) (Y:St) (H:Hp) (Q:List V->Hp->Prop),Inv X a Y H s->t Y H Q->wpAny (model X.prog X.w) X.A (spliced (backTo pos (starEach b X.env))) (AP X a Y Q) X.xe s
def PS(X:Cx)(st:Stmt)(t:TS):Prop:=
 ∀(a:List (Addr×Obj)) (s:Shared) (Y:St) (H:Hp) (D:eW),Inv X a Y H s->t D Y H->wpAny (model X.prog X.w) X.A (exec st X.env) (SP X a D) X.xe s
def PSs(X:Cx)(st:List Stmt)(t:TS):Prop:=
 ∀(a:List (Addr×Obj)) (s:Shared) (Y:St) (H:Hp) (D:eW),Inv X a Y H s->t D Y H->wpAny (model X.prog X.w) X.A (execs st X.env) (SP X a D) X.xe s
theorem aU{α:Type}{t:Sem α}{Q b:α->Shared->Prop}{M:Model}{A:Around}{E:Value->Shared->Prop}{s:Shared}(h:wpAny M A t Q E s)(c:∀a s,Q a s->b a s):wpAny M A t b E s:=wpAny_mono h c fun _ _ x=>x
section
variable{X:Cx}
noncomputable def bS(i:Nat):TE:=fun Y H Q=>∃v,Y[i]? = some (some v)/\Q v H
noncomputable def tC(v:V):TE:=fun _ H Q=>Q v H
theorem FP{i:Nat}{x:Str}{pos:Pos}(j:X.N[i]? = some x)(k:qy X.env.scope x)(hd:(x==("__debug__":Str))=false:=by decide)(f:(x==("__classdict__":Str))=false:=by decide):PE X (.Name x pos) (bS i):=by
 intro d s Y H Q I h;obtain⟨v,e,h⟩:=h;obtain⟨m,n,o⟩:=I.loc;obtain⟨u,r,l⟩:=o i x v j e k;have fin:EP X d Y Q u s:=⟨v,H,I,r,h⟩
 rcases l with⟨b,p⟩ | ⟨b,c,g,a⟩
 ·exact wpAny_Name (wpAny_loadName_local I.ok.kind b n p fin) hd
 ·rcases b with b | b
  ·exact wpAny_Name (wpAny_loadName_cell I.ok.kind b g a fin) hd
  ·exact wpAny_Name (wpAny_loadName_free I.ok.kind b g a fin f) hd
theorem vc{i j pos}:PE X (.Constant (.int i) j pos) (tC (.int i)):=fun _ _ _ H _ I h=>wpAny_Constant_int ⟨.int i,H,I.tok _,⟨_,rfl⟩,h⟩
theorem FQ{b j pos}:PE X (.Constant (.bool b) j pos) (tC (.bl b)):=fun _ _ _ H _ I h=>Constant_bool ⟨.bl b,H,I,rfl,h⟩
theorem zi{j pos}:PE X (.Constant .none j pos) (tC .non):=fun _ _ _ H _ I h=>Constant_none ⟨.non,H,I,rfl,h⟩
theorem zj{x j pos}:PE X (.Constant (.str x) j pos) (tC (.str x)):=fun _ _ _ H _ I h=>Calls.Constant_str ⟨.str x,H,I.tok _,⟨_,rfl⟩,h⟩
def Gl(X:Cx)(x:Str):Prop:=X.env.kindOf x=some .globalImplicit
theorem mG{E:Value->Shared->Prop}{a:List (Addr×Obj)}{s:Shared}{Y:St}{H:Hp}{x:Str}{u:Value}{pos:Pos}{Q:Value->Shared->Prop}(I:Inv X a Y H s)(b:Gl X x)(c:X.mg x=some u)(h:Q u s)
  (hd:(x==("__debug__":Str))=false:=by decide):wpAny (model X.prog X.w) X.A (eval (.Name x pos) X.env) Q E s:=
 Calls.Name_function_global I.ok.kind b (Calls.loadGlobal_global (by rw[I.ok.glob];exact I.mod.glob.keeps I.bk) c h) hd
theorem jC{E:Value->Shared->Prop}{a:List (Addr×Obj)}{s:Shared}{Y:St}{H:Hp}{x:Str}{u:Value}{pos:Pos}{Q:Value->Shared->Prop}(I:Inv X a Y H s)(b:Gl X x)(c:X.mg x=none)(d:bootBuiltins x=some u)(h:Q u s)
  (e:x≠"__name__":=by decide) (hd:(x==("__debug__":Str))=false:=by decide):wpAny (model X.prog X.w) X.A (eval (.Name x pos) X.env) Q E s:=by
 obtain⟨f,h1,h2⟩:=I.mod.blt;exact Calls.Name_function_global I.ok.kind b (Calls.loadGlobal_builtin (by rw[I.ok.glob];exact I.mod.glob.keeps I.bk) c (by rw[I.ok.blt];exact h1.keeps I.bk) ((h2 x e).trans d) h) hd
theorem zk{x:Str}{v:V}{u:Value}{pos:Pos}(a:Gl X x)(b:X.mg x=some u)(r:bp v u)(hd:(x==("__debug__":Str))=false:=by decide):PE X (.Name x pos) (tC v):=
 fun _ _ _ H _ I h=>mG I a b ⟨v,H,I,r,h⟩ hd
theorem iV{x:Str}{v:V}{u:Value}{pos:Pos}(a:Gl X x)(b:X.mg x=none)(c:bootBuiltins x=some u)(r:bp v u)(d:x≠"__name__":=by decide)(hd:(x==("__debug__":Str))=false:=by decide):PE X (.Name x pos) (tC v):=
 fun _ _ _ H _ I h=>jC I a b c ⟨v,H,I,r,h⟩ d hd
variable{a b:Expr}{M L:TE}{pos:Pos}
def PC(X:Cx)(op:CmpOp)(a b:Expr)(t:TE):Prop:=
 ∀(c:List (Addr×Obj)) (s:Shared) (Y:St) (H:Hp) (Q:VK),Inv X c Y H s->t Y H Q->
  wpAny (model X.prog X.w) X.A (eval a X.env) (fun v d=>wpAny (model X.prog X.w) X.A (eval b X.env) (fun u e=>wpAny (model X.prog X.w) X.A (compareOp op v u) (EP X c Y Q) X.xe e) X.xe d) X.xe s
noncomputable def tB(t:TE):TT:=fun Y H Q=>t Y H fun x d=>∃c,x=.bl c/\Q c d
theorem FR{op:CmpOp}{t:TE}(h:PC X op a b t)(g:behindInMarks op b=false:=by first | exact e _ (by decide) (by decide) | rfl):PT X (.Compare a [op] [b] pos) (tB t):=by intro f s Y H Q I i;refine wpAny_isTrue_Compare1 (aU (h f s Y H _ I i) fun v n g=>aU g fun u o m=>aU m fun c p ⟨x,j,I1,k,l⟩=>?_) g;obtain⟨d,rfl,q⟩:=l;cases k;exact wpAny_truthy_bool ⟨j,I1,q⟩
theorem FT{e:Expr}{t:TE}(h:PE X e t)(f:∀whole,isTrue e X.env whole=(do let v <-whole;standAt e.pos;holding [v] (truthy v)):=by intro _;rfl):PT X e (tB t):=by intro c s Y H Q I g;refine isTrue_plain (aU (h c s Y H _ I g) fun v l ⟨x,i,I1,j,k⟩=>?_) (f _);obtain⟨d,rfl,q⟩:=k;cases j;exact wpAny_truthy_bool ⟨i,I1,q⟩
variable{J G:TT}{rest:List Expr}
noncomputable def FU(t u:TT):TT:=fun Y H Q=>t Y H fun c d=>if c=true then u Y d Q else Q false d
noncomputable def FV(t u:TT):TT:=fun Y H Q=>t Y H fun c d=>if c=true then Q true d else u Y d Q
noncomputable def FY(t:TT):TT:=fun Y H Q=>t Y H fun c d=>Q (!c) d
theorem FZ(f:PT X a J):PW X (.BoolOp .And [a] pos) J:=by
 intro g d s Y H Q I h;refine isTrue_and (aU (f d s Y H Q I h) fun c i e=>?_);cases c with
 | true=>exact isTrue_and_nil e
 | false=>exact e
theorem Ga(f:PT X a J):PW X (.BoolOp .Or [a] pos) J:=by
 intro g d s Y H Q I h;refine isTrue_or (aU (f d s Y H Q I h) fun c i e=>?_);cases c with
 | false=>exact isTrue_or_nil e
 | true=>exact e
theorem Gb(g:PT X a J)(k:PW X (.BoolOp .And (b::rest) pos) G):PW X (.BoolOp .And (a::b::rest) pos) (FU J G):=by
 intro i d s Y H Q I h;refine isTrue_and (aU (g d s Y H _ I h) fun c j ⟨e,I1,f⟩=>?_);cases c with
 | true=>exact k i d j Y e Q I1 f
 | false=>exact⟨e,I1,f⟩
theorem Gc(g:PT X a J)(k:PW X (.BoolOp .Or (b::rest) pos) G):PW X (.BoolOp .Or (a::b::rest) pos) (FV J G):=by
 intro i d s Y H Q I h;refine isTrue_or (aU (g d s Y H _ I h) fun c j ⟨e,I1,f⟩=>?_);cases c with
 | true=>exact⟨e,I1,f⟩
 | false=>exact k i d j Y e Q I1 f
theorem Gd(e:PT X a J):PT X (.UnaryOp .Not a pos) (FY J):=by intro d s Y H Q I h;exact isTrue_not (e d s Y H (fun c f=>Q (!c) f) I h)
noncomputable def Ge(M L:TE):TE:=fun Y H Q=>M Y H fun x d=>∃c,x=.bl c/\if c=true then L Y d Q else Q (.bl false) d
noncomputable def Gf(M L:TE):TE:=fun Y H Q=>M Y H fun x d=>∃c,x=.bl c/\if c=true then Q (.bl true) d else L Y d Q
noncomputable def Gg(M:TE):TE:=fun Y H Q=>M Y H fun x d=>∃c,x=.bl c/\Q (.bl (!c)) d
theorem Gh{op}{t:TE}(h:PE X a t):PE X (.BoolOp op [a] pos) t:=fun c s Y H Q I d=>BoolOp_one (h c s Y H Q I d)
theorem Gi(g:PE X a M)(k:PE X (.BoolOp .And (b::rest) pos) L):PE X (.BoolOp .And (a::b::rest) pos) (Ge M L):=by
 intro d s Y H Q I h;refine BoolOp_and (aU (g d s Y H _ I h) fun v i ⟨x,f,I1,j,e⟩=>?_);obtain⟨c,rfl,e⟩:=e;cases j;refine wpAny_truthy_bool ?_;cases c with
 | true=>exact k d i Y f Q I1 e
 | false=>exact⟨.bl false,f,I1,rfl,e⟩
theorem Gj(g:PE X a M)(k:PE X (.BoolOp .Or (b::rest) pos) L):PE X (.BoolOp .Or (a::b::rest) pos) (Gf M L):=by
 intro d s Y H Q I h;refine BoolOp_or (aU (g d s Y H _ I h) fun v i ⟨x,f,I1,j,e⟩=>?_);obtain⟨c,rfl,e⟩:=e;cases j;refine wpAny_truthy_bool ?_;cases c with
 | false=>exact k d i Y f Q I1 e
 | true=>exact⟨.bl true,f,I1,rfl,e⟩
theorem Gk(f:PE X a M):PE X (.UnaryOp .Not a pos) (Gg M):=by intro d s Y H Q I h;refine UnaryOp_ (aU (f d s Y H _ I h) fun v j ⟨x,g,I1,i,e⟩=>?_);obtain⟨c,rfl,e⟩:=e;cases i;exact not_of (wpAny_truthy_bool ⟨.bl (!c),g,I1,rfl,e⟩)
noncomputable def Gm(t:TT)(M L:TE):TE:=fun Y H Q=>t Y H fun c d=>if c=true then M Y d Q else L Y d Q
theorem Gn{c:Expr}(j:PT X c J)(k:PE X a M)(l:PE X b L):PE X (.IfExp c a b pos) (Gm J M L):=by
 intro e s Y H Q I h;refine wpAny_IfExp (aU (j e s Y H _ I h) fun d f ⟨g,I1,i⟩=>?_);cases d with
 | true=>exact k e f Y g Q I1 i
 | false=>exact l e f Y g Q I1 i
end
def cU(K:Frag)(H:Hp)(a:Addr)(c:List V):Prop:=
 Rd H a (.lst c)\/
  ∃(o:Obj) (b:Array Value) (n:Nat),K.lookup a=some o/\o.cls=.type "list"/\o.dict=none/\o.data=.seq b n/\b.size<=sizeLine/\bq c b.toList
def gf(K:Frag)(H:Hp)(a:Addr)(c:List V):Prop:=
 Rd H a (.tup c)\/
  ∃(o:Obj) (b:Array Value) (n:Nat),K.lookup a=some o/\o.cls=.type "tuple"/\o.data=.seq b n/\b.size<=sizeLine/\bq c b.toList
noncomputable def Go:Value->Option V
 | .none=>some .non
 | .bool b=>some (.bl b)
 | .int i _=>some (.int i)
 | .str x _=>some (.str x)
 | .bytes b _=>some (.byt b)
 | .float b _=>some (.flt b)
 | .ref a=>some (.ref a)
 | .type n=>some (.ty n)
 | _=>none
theorem bp.abs{x:V}{u:Value}(r:bp x u):Go u=some x:=by
 cases x with
 | non=>cases r;rfl
 | bl _=>cases r;rfl
 | int _=>obtain⟨t,rfl⟩:=r;rfl
 | str _=>obtain⟨t,rfl⟩:=r;rfl
 | byt _=>obtain⟨t,rfl⟩:=r;rfl
 | flt _=>obtain⟨t,rfl⟩:=r;rfl
 | ref _=>cases r;rfl
 | ty _=>cases r;rfl
theorem bp.inj{x y:V}{u:Value}(r:bp x u)(q:bp y u):x=y:=Option.some.inj (r.abs.symm.trans q.abs)
theorem bq.inj:∀{a b:List V}{c:List Value},bq a c->bq b c->a=b
 | _,_,_,.nil,.nil=>rfl
 | _,_,_,.cons r t,.cons d t'=>by rw[r.inj d,bq.inj t t']
section
variable{X:Cx}{Q:List (Addr×Obj)}{Y:St}{H:Hp}{s:Shared}{a:Addr}{N E:List V}
theorem cU.of{K:Frag}(h:H a=some (.lst N)):cU K H a N:=.inl (.inl h)
theorem Inv.list(I:Inv X Q Y H s)(h:cU X.K H a N):∃b:List Value,bq N b/\PlainL s.heap a b.toArray/\N.length<=sizeLine:=by
 rcases h with h | ⟨o,b,n,c,d,hd,f,g,r⟩
 ·obtain⟨z,b,n,r,e⟩:=h.ok I.hok;exact⟨b,r,⟨_,n,e,rfl,rfl,rfl⟩,z⟩
 ·refine⟨b.toList,r,⟨o,n,I.kIn a o c,d,hd,by simpa using f⟩,?_⟩;have e:=r.length;simp only[Array.length_toList] at e;omega
theorem Inv.tuple(I:Inv X Q Y H s)(h:gf X.K H a N):∃b:List Value,bq N b/\IsTup s.heap a b.toArray/\N.length<=sizeLine:=by
 rcases h with h | ⟨o,b,n,c,d,f,g,r⟩
 ·obtain⟨z,b,r,p⟩:=h.ok I.hok;exact⟨b,r,p,z⟩
 ·refine⟨b.toList,r,⟨o,I.kIn a o c,d,n,by simpa using f⟩,?_⟩;have e:=r.length;simp only[Array.length_toList] at e;omega
theorem Inv.list_inj(I:Inv X Q Y H s)(h:cU X.K H a N)(i:cU X.K H a E):N=E:=by
 obtain⟨c,r,⟨o,n,e,_,_,d⟩,_⟩:=I.list h;obtain⟨b,j,⟨l,m,f,_,_,g⟩,_⟩:=I.list i;rw[e] at f;cases f;rw[d] at g;injection g with k _
 have:c=b:=by simpa using congrArg Array.toList k
 subst this;exact r.inj j
theorem Inv.tuple_inj(I:Inv X Q Y H s)(h:gf X.K H a N)(i:gf X.K H a E):N=E:=by
 obtain⟨c,r,⟨o,e,_,n,d⟩,_⟩:=I.tuple h;obtain⟨b,j,⟨l,f,_,m,g⟩,_⟩:=I.tuple i;rw[e] at f;cases f;rw[d] at g;injection g with k _
 have:c=b:=by simpa using congrArg Array.toList k
 subst this;exact r.inj j
end
section
variable{X:Cx}{st:Stmt}{rest:List Stmt}{t u:TS}{e:Expr}{C:TE}{pos:Pos}
noncomputable def Gp:TS:=fun D Y H=>D.nx Y H
noncomputable def Gq(t u:TS):TS:=fun D Y H=>t { D with nx:=u D } Y H
theorem Gr:PSs X [] Gp:=fun _ _ Y H _ I h=>wpAny_execs_nil ⟨Y,H,I,h⟩
theorem Gs(i:PS X st t)(j:PSs X rest u):PSs X (st::rest) (Gq t u):=by
 intro a s Y H D I h;refine wpAny_execs_cons (aU (i a s Y H { D with nx:=u D } I h) fun f b q=>?_);cases f with
 | next=>obtain⟨c,d,g,q⟩:=q;exact j a b c d D g q
 | ret v=>exact q
 | brk=>exact q
 | cont=>exact q
theorem Gu(b:PS X st t):PSs X [st] t:=by
 intro a s Y H D I h;refine wpAny_execs_cons (aU (b a s Y H D I h) fun f c q=>?_);cases f with
 | next=>exact wpAny_execs_nil q
 | ret v=>exact q
 | brk=>exact q
 | cont=>exact q
theorem Inv.quiet{a:List (Addr×Obj)}{Y:St}{H:Hp}{s:Shared}(I:Inv X a Y H s):interactive X.env=false:=by simp[interactive,I.ok.kind]
noncomputable def Gv(C:TE):TS:=fun D Y H=>C Y H fun _ a=>D.nx Y a
theorem qz(b:PE X e C)(c:swapsWith e none pos.line X.env=pure false:=by rfl):PS X (.Expr e pos) (Gv C):=by intro a s Y H D I h;exact wpAny_Expr_any (aU (b a s Y H _ I h) fun v g ⟨x,d,I1,i,f⟩=>⟨Y,d,I1,f⟩) I.quiet c
noncomputable def Gw(C:TE):TS:=fun D Y H=>C Y H D.rt
theorem vd(b:PE X e C):PS X (.Return (some e) pos) (Gw C):=by intro a s Y H D I h;exact wpAny_Return_some (aU (b a s Y H _ I h) fun v g ⟨x,c,I1,d,f⟩=>⟨x,Y,c,I1,d,f⟩)
noncomputable def Gx(c:TT)(t u:TS):TS:=fun D Y H=>c Y H fun b a=>if b=true then t D Y a else u D Y a
theorem Gy{c:Expr}{a b:List Stmt}{g:TT}(l:PT X c g)(m:PSs X a t)(n:PSs X b u):PS X (.If c a b pos) (Gx g t u):=by
 intro f s Y H D I h;refine wpAny_If (aU (l f s Y H _ I h) fun d i ⟨j,I1,k⟩=>?_);cases d with
 | true=>exact m f i Y j D I1 k
 | false=>exact n f i Y j D I1 k
end
abbrev TG:=V->St->Hp->(St->Hp->Prop)->Prop
abbrev jD:=List V->St->Hp->(St->Hp->Prop)->Prop
def PG(X:Cx)(target:Expr)(t:TG):Prop:=
 ∀(a:List (Addr×Obj)) (s:Shared) (Y:St) (H:Hp) (v:V) (u:Value) (Q:St->Hp->Prop),Inv X a Y H s->bp v u->t v Y H Q->
  wpAny (model X.prog X.w) X.A (assign target X.env u) (fun _ d=>∃b c,Inv X a b c d/\Q b c) X.xe s
def PGs(X:Cx)(f:List Expr)(t:jD):Prop:=
 ∀(a:List (Addr×Obj)) (s:Shared) (Y:St) (H:Hp) (b:List V) (c:List Value) (Q:St->Hp->Prop),Inv X a Y H s->bq b c->t b Y H Q->
  wpAny (model X.prog X.w) X.A (assignInOrder ((assignEach f X.env).map (·.2)) c) (fun _ g=>∃d e,Inv X a d e g/\Q d e) X.xe s
abbrev ve:=V->V->V->Hp->(Hp->Prop)->Prop
def zl(X:Cx)(t:ve):Prop:=
 ∀(a:List (Addr×Obj)) (s:Shared) (Y:St) (H:Hp) (o i v:V) (b c u:Value) (Q:Hp->Prop),Inv X a Y H s->bp o b->bp i c->bp v u->t o i v H Q->
  wpAny (model X.prog X.w) X.A (setItem b c u) (fun _ e=>∃d,Inv X a Y d e/\Q d) X.xe s
section
variable{X:Cx}{pos:Pos}
noncomputable def qA(i:Nat):TG:=fun v Y H Q=>Q (Y.set i (some v)) H
theorem Gz{i:Nat}{x:Str}(b:X.N.Nodup)(c:X.N[i]? = some x)(d:gC X.env.scope x)(e:X.fn x=true\/X.env.scope.names.lookup x=some .local:=by first | exact .inl rfl | exact .inr rfl | assumption):PG X (.Name x pos) (qA i):=by intro a s Y H v u Q I r h;exact wpAny_assign_Name (vb I b c d r (fun g f=>⟨_,H,f,h⟩) e)
noncomputable def GA:jD:=fun a Y H Q=>a=[]/\Q Y H
noncomputable def GB(t:TG)(u:jD):jD:=fun a Y H Q=>∃v r,a=v::r/\t v Y H fun b c=>u r b c Q
theorem GC:PGs X [] GA:=by intro a s Y H b c Q I r h;obtain⟨e,h⟩:=h;subst e;cases r;exact assignInOrder_nil ⟨Y,H,I,h⟩
theorem GD{e:Expr}{b:List Expr}{t:TG}{u:jD}(l:PG X e t)(m:PGs X b u)
  (c:(assignEach (e::b) X.env).map (·.2)=assign e X.env::(assignEach b X.env).map (·.2):=by rfl):PGs X (e::b) (GB t u):=by
 intro a s Y H n o Q I r h;obtain⟨v,p,d,h⟩:=h;subst d;cases r with
 | cons r f=>rw[c];refine assignInOrder_cons (aU (l a s Y H _ _ _ I r h) fun _ g ⟨i,j,I1,k⟩=>?_);exact m a g i j _ _ Q I1 f k
noncomputable def GG(K:Frag)(n:Nat)(t:jD):TG:=fun v Y H Q=>∃a b,v=.ref a/\gf K H a b/\b.length=n/\t b Y H Q
theorem GI{d:List Expr}{k:Nat}{t:jD}{n:Nat}(j:X.calm=true)(h:PGs X d t)
  (l:(assignEach d X.env).length=n:=by rfl) (f:(assignEach d X.env).findIdx? (·.1)=none:=by rfl):PG X (.Tuple d k pos) (GG X.K n t):=by
 intro c s Y H v u Q I r g;obtain⟨a,m,p,q,w,g⟩:=g;subst p;cases r;obtain⟨x,i,y,B⟩:=I.tuple q;refine assign_Tuple_tuple (I.ok.hd j) y (by simp[l,<-w,i.length]) f fun z A=>?_;have I1:Inv X c Y H { s with heap:=z }:=I.kept (t':=s.toks) fun b o e=>A b o (Nat.ne_of_lt (bw e)) e;exact h c _ Y H m _ Q I1 (by simpa using i) g
noncomputable def eX(d e:TE)(t:ve):TG:=fun v Y H Q=>d Y H fun o a=>e Y a fun i b=>t o i v b fun c=>Q Y c
theorem GJ{o i:Expr}{d e:TE}{t:ve}(E:PE X o d)(f:PE X i e)(g:zl X t)
  (j:∀v,assign (.Subscript o i pos) X.env v=(do
   let b <-holding [v] (eval o X.env);let c <-holding [v,b] (eval i X.env)
   standAt pos
   holding [v,b,c] (setItem b c v)
   release [v,b,c] []):=by intro _;rfl):PG X (.Subscript o i pos) (eX d e t):=by
 intro a s Y H v u Q I r h;rw[j];refine ak (wpAny_holding (aU (E a s Y H _ I h) fun b k ⟨x,l,I1,m,n⟩=>?_));refine ak (wpAny_holding (aU (f a k Y l _ I1 n) fun c p ⟨y,q,w,z,A⟩=>?_));refine ak (wpAny_standAt (ak (wpAny_holding (aU (g a p Y q x y v b c u _ w m z r A) fun _ G ⟨B,C,D⟩=>?_))));exact wpAny_release ⟨Y,B,C,D⟩
noncomputable def vf(a:TE)(g:TG):TS:=fun D Y H=>a Y H fun x b=>g x Y b D.nx
theorem GK{b e:Expr}{c:TE}{g:TG}(d:PE X e c)(f:PG X b g)(i:swapsWithSole [b] e pos.line X.env=pure false:=by rfl)(j:swappedStores [b] e X.env=pure none:=by rfl)
  (o:(assignEach [b] X.env).map (·.2)=[assign b X.env]:=by rfl):PS X (.Assign [b] e pos) (vf c g):=by
 intro a s Y H D I h;refine wpAny_Assign_stores (aU (d a s Y H _ I h) fun v k ⟨x,l,I1,m,n⟩=>?_) i j;rw[o];exact aU (f a k Y l x v _ I1 m n) fun _ p q=>q
theorem zm{i:Nat}{x:Str}{e:Expr}{c:TE}{a:Pos}(d:X.N.Nodup)(f:X.N[i]? = some x)(g:gC X.env.scope x)(j:PE X e c)(k:swapsWith e (some (.Name x a)) pos.line X.env=pure false:=by rfl)(l:X.fn x=true\/X.env.scope.names.lookup x=some .local:=by first | exact .inl rfl | exact .inr rfl | assumption) :
  PS X (.Assign [.Name x a] e pos) (vf c (qA i)):=by
 intro b s Y H D I h;refine wpAny_Assign_Name (aU (j b s Y H _ I h) fun v q ⟨y,m,I1,n,o⟩=>?_) k;exact vb I1 d f g n (fun r p=>⟨_,m,p,o⟩) l
end
structure It where
 go:Nat->Hp->Prop
 yld:Nat->Hp->V->Hp->Prop
 stop:Nat->Hp->Prop
def hV(X:Cx)(a:List (Addr×Obj))(H:Hp)(b:Addr):Prop:=
 H b=none/\b≠X.env.locals/\b∉X.fs/\(b∈X.ex\/X.s₀.heap.objs.size<=b)/\(∀x c,X.env.cells.lookup x=some c->c≠b)/\∀p∈X.pn++a,p.1≠b
theorem Inv.fpOk{X:Cx}{a:List (Addr×Obj)}{Y:St}{H f:Hp}{s:Shared}{b:Addr}(I:Inv X a Y H s)(d:s.heap.objs.size<=b)(g:f b=none):hV X a f b:=by
 refine⟨g,Nat.ne_of_gt (Nat.lt_of_lt_of_le I.lt d),I.nofs d,.inr (Nat.le_trans I.sz d),fun x c e z=>?_,fun p h z=>?_⟩
 ·obtain⟨v,q⟩:=I.cell x c e;exact absurd (Nat.lt_of_lt_of_le q.lt (by rw[z];exact d)) (Nat.lt_irrefl _)
 ·exact absurd (Nat.lt_of_lt_of_le (bw (I.pin p h).1) (by rw[z];exact d)) (Nat.lt_irrefl _)
structure gD (P:Program) (w:World) (K:Frag) (tg:Expr) (J:It) (fp:List Addr) (it:Addr) (tn:Nat->Heap->Prop):Prop where
 mem:it∈fp
 obj:∀i h,tn i h->∀b∈fp,∃o,h.get? b=some o/\∀v,o.data≠.cell v
 keep:∀i h h',tn i h->(∀b∈fp,∀o,h.get? b=some o->h'.get? b=some o)->tn i h'
 item:∀(X:Cx),X.prog=P->X.w=w->X.K=K->X.calm=true->∀(i:Nat) (pins:List (Addr×Obj)) (s:Shared) (Y:St) (H:Hp) (E:Value->Shared->Prop),Inv X pins Y H s->(∀b∈fp,hV X pins H b)->tn i s.heap->J.go i H->
  wpAny (model P w) X.A (pyNext (.ref it)) (fun r s1=>∃u,r=some u/\
   wpAny (model P w) X.A (letOwnedTupleGo tg (.ref it) u) (fun _ s2=>∃x H',Inv X pins Y H' s2/\bp x u/\J.yld i H x H'/\tn (i+1) s2.heap/\∀b∈fp,H' b=none) E s1) E s
 done:∀(X:Cx),X.prog=P->X.w=w->X.K=K->X.calm=true->∀(i:Nat) (pins:List (Addr×Obj)) (s:Shared) (Y:St) (H:Hp) (E:Value->Shared->Prop),Inv X pins Y H s->(∀b∈fp,hV X pins H b)->tn i s.heap->J.stop i H->
  wpAny (model P w) X.A (pyNext (.ref it)) (fun r s1=>r=none/\Inv X pins Y H s1) E s
 self:∀(A:Around) (i:Nat) (s:Shared) (Q:Value->Shared->Prop) (E:Value->Shared->Prop),tn i s.heap->Q (.ref it) s->wpAny (model P w) A (pyIter (.ref it)) Q E s
abbrev TI:=St->Hp->(It->Hp->Prop)->Prop
def zn(X:Cx)(a:List (Addr×Obj))(Y:St)(h:Expr)(R:It->Hp->Prop)(c:Value)(e:Shared):Prop:=
 ∃(it:Addr) (f:List Addr) (g:Nat->Heap->Prop) (J:It) (d:Hp),c=.ref it/\Inv X a Y d e/\gD X.prog X.w X.K h J f it g/\g 0 e.heap/\(∀b∈f,hV X a d b)/\R J d
def PI(X:Cx)(b iter:Expr)(c:TI):Prop:=
 ∀(a:List (Addr×Obj)) (s:Shared) (Y:St) (H:Hp) (R:It->Hp->Prop),Inv X a Y H s->c Y H R->
  wpAny (model X.prog X.w) X.A (eval iter X.env) (fun v d=>wpAny (model X.prog X.w) X.A (pyIter v) (zn X a Y b R) X.xe d) X.xe s
theorem vg{M:Model}{A:Around}{E:Value->Shared->Prop}{s:Shared}{b:Expr}{it:Addr}{u:Value}{o:Obj}{n:String}{c:Array Value}{Q:Unit->Shared->Prop}(f:s.heap.get? it=some o)(d:o.cls=.type n)(hd:o.data=.fields c)
    (e:["enumerate","zip","dict_itemiterator","dict_reverseitemiterator","odict_iterator","itertools.zip_longest","itertools.pairwise"].contains n=false) (a:Q () s):wpAny M A (letOwnedTupleGo b (.ref it) u) Q E s:=by
  unfold letOwnedTupleGo;cases b<;>first
    | exact bc a
    | (cases u<;>first
        | exact bc a
        | (refine ak (wpAny_load f ?_)
           rw[d,hd];show wpAny M A (if (["enumerate","zip","dict_itemiterator","dict_reverseitemiterator","odict_iterator","itertools.zip_longest","itertools.pairwise"].contains n&&c[0]?==some (rawInt _))=true then _ else _) Q E s;rw[if_neg (by intro h;rw[e,Bool.false_and] at h;cases h)];exact bc a))
noncomputable def vh(K:Frag)(a:Addr):It:=
 ⟨fun i H=>∃b x,cU K H a b/\b[i]? = some x,fun i H x c=>c = H/\∀b,cU K H a b->b[i]? = some x,fun i H=>∃b,cU K H a b/\b.length<=i⟩
noncomputable def vi(K:Frag)(a:Addr):It:=
 ⟨fun i H=>∃b x,gf K H a b/\b[i]? = some x,fun i H x c=>c = H/\∀b,gf K H a b->b[i]? = some x,fun i H=>∃b,gf K H a b/\b.length<=i⟩
noncomputable def qC(lo:Int)(n:Nat):It:=⟨fun i _=>i<n,fun i H x a=>a = H/\x=.int (lo+i),fun i _=>n<=i⟩
theorem GL{P:Program}{w:World}{K:Frag}{tg:Expr}(a it:Addr):gD P w K tg (vh K a) [it] it (fun i h=>h.IsListIter it a i) where
 mem:=by simp
 obj:=fun i h st b hb=>by
  have e:b=it:=by simpa using hb
  subst e;obtain⟨o,e,c,d⟩:=st;exact⟨o,e,fun v z=>by rw[d] at z;cases z⟩
 keep:=fun i h h' st k=>st.at fun o e=>k it (by simp) o e
 item:=by intro X hP hw hK hc i pins s Y H E I hf st hg;subst hP hw hK;obtain⟨xs,x,hq,hx⟩:=hg;obtain⟨its,rv,p,hz⟩:=I.list hq;obtain⟨u,hu,ru⟩:=rv.get hx;obtain⟨f0,f1,f2,f3,f4,f5⟩:=hf it (by simp);refine wpAny_pyNext_list_item st p.isList (x:=u) (by simpa using hu) fun h' st' sb=>?_;have I1:Inv X pins Y H { s with heap:=h' }:=I.turned (t':=s.toks) (fun b o hb e=>(sb.2 b hb).trans e) f0 f1 f3 f4 f5;obtain⟨o,e,c,d⟩:=id st';exact⟨u,rfl,vg (s:={ s with heap:=h' }) e c d (by decide) ⟨x,H,I1,ru,⟨rfl,fun ys hy=>by rw[I.list_inj hy hq];exact hx⟩,st',fun b hb=>(hf b hb).1⟩⟩
 done:=by intro X hP hw hK hc i pins s Y H E I hf st hg;subst hP hw hK;obtain⟨xs,hq,hx⟩:=hg;obtain⟨its,rv,p,hz⟩:=I.list hq;obtain⟨f0,f1,f2,f3,f4,f5⟩:=hf it (by simp);have hl:=rv.length;exact wpAny_pyNext_list_end (I.ok.hd hc) st p.isList (by simp;omega) fun h' eb=>⟨rfl,I.turned (t':=s.toks) (fun b o hb e=>eb b o hb e) f0 f1 f3 f4 f5⟩
 self:=fun _ _ _ _ _ st h=>wpAny_pyIter_listiter st h
theorem GN{P:Program}{w:World}{K:Frag}{tg:Expr}(a it:Addr):gD P w K tg (vi K a) [it] it (fun i h=>h.IsTupleIter it a i) where
 mem:=by simp
 obj:=fun i h st b hb=>by
  have e:b=it:=by simpa using hb
  subst e;obtain⟨o,e,c,d⟩:=st;exact⟨o,e,fun v z=>by rw[d] at z;cases z⟩
 keep:=fun i h h' st k=>st.at fun o e=>k it (by simp) o e
 item:=by intro X hP hw hK hc i pins s Y H E I hf st hg;subst hP hw hK;obtain⟨xs,x,hq,hx⟩:=hg;obtain⟨its,rv,p,hz⟩:=I.tuple hq;obtain⟨u,hu,ru⟩:=rv.get hx;obtain⟨f0,f1,f2,f3,f4,f5⟩:=hf it (by simp);refine wpAny_pyNext_tuple_item st (show s.heap.IsTuple a its.toArray from p) (x:=u) (by simpa using hu) fun h' st' sb=>?_;have I1:Inv X pins Y H { s with heap:=h' }:=I.turned (t':=s.toks) (fun b o hb e=>(sb.2 b hb).trans e) f0 f1 f3 f4 f5;obtain⟨o,e,c,d⟩:=id st';exact⟨u,rfl,vg (s:={ s with heap:=h' }) e c d (by decide) ⟨x,H,I1,ru,⟨rfl,fun ys hy=>by rw[I.tuple_inj hy hq];exact hx⟩,st',fun b hb=>(hf b hb).1⟩⟩
 done:=by intro X hP hw hK hc i pins s Y H E I hf st hg;subst hP hw hK;obtain⟨xs,hq,hx⟩:=hg;obtain⟨its,rv,p,hz⟩:=I.tuple hq;obtain⟨f0,f1,f2,f3,f4,f5⟩:=hf it (by simp);have hl:=rv.length;exact wpAny_pyNext_tuple_end (I.ok.hd hc) st (show s.heap.IsTuple a its.toArray from p) (by simp;omega) fun h' eb=>⟨rfl,I.turned (t':=s.toks) (fun b o hb e=>eb b o hb e) f0 f1 f3 f4 f5⟩
 self:=fun _ _ _ _ _ st h=>wpAny_pyIter_tupleiter st h
theorem GO{P:Program}{w:World}{K:Frag}{tg:Expr}(it:Addr)(lo:Int)(n:Nat):gD P w K tg (qC lo n) [it] it (fun i h=>IsRangeIter h it (lo+(i:Nat) * 1) ((n:Int) - (i:Nat)) 1) where
 mem:=by simp
 obj:=fun i h st b hb=>by
  have e:b=it:=by simpa using hb
  subst e;exact⟨_,st,fun v z=>by
   have z':Data.fields _=Data.cell v:=z;cases z'⟩
 keep:=fun i h h' st k=>k it (by simp) _ st
 item:=by intro X hP hw hK hc i pins s Y H E I hf st hg;subst hP hw hK;obtain⟨f0,f1,f2,f3,f4,f5⟩:=hf it (by simp);have W:=Walks.range (prog:=X.prog) (w:=X.w) (I.ok.hd hc) it lo 1 n;refine W.item i s _ _ hg st fun v h' tk hv st' kk=>?_;obtain⟨t,rfl⟩:=hv;have I1:Inv X pins Y H { s with heap:=h',toks:=tk }:=I.turned (fun b o hb e=>kk b o (by simpa using hb) e) f0 f1 f3 f4 f5;refine⟨_,rfl,vg (s:={ s with heap:=h',toks:=tk }) (n:="range_iterator") st' rfl rfl (by decide) ⟨.int (lo+i),H,I1,⟨t,?_⟩,⟨rfl,rfl⟩,st',fun b hb=>(hf b hb).1⟩⟩;rw[Int.mul_one]
 done:=by intro X hP hw hK hc i pins s Y H E I hf st hg;subst hP hw hK;obtain⟨f0,f1,f2,f3,f4,f5⟩:=hf it (by simp);exact wpAny_pyNext_range_end (I.ok.hd hc) st (by have:n<=i:=hg;omega) fun h' eb=>⟨rfl,I.turned (t':=s.toks) (fun b o hb e=>eb b o hb e) f0 f1 f3 f4 f5⟩
 self:=fun _ _ _ _ _ st h=>wpAny_pyIter_rangeiter st h
section
variable{X:Cx}{B:Expr}
noncomputable def GP(K:Frag)(c:TE):TI:=fun Y H R=>c Y H fun x b=>∃a,x=.ref a/\(∃d,cU K b a d)/\R (vh K a) b
noncomputable def GQ(K:Frag)(c:TE):TI:=fun Y H R=>c Y H fun x b=>∃a,x=.ref a/\(∃d,gf K b a d)/\R (vi K a) b
theorem GR{l:Expr}{f:TE}(g:PE X l f):PI X B l (GP X.K f):=by
 intro c s Y H R I h;refine aU (g c s Y H _ I h) fun v d ⟨x,i,I1,j,k⟩=>?_;obtain⟨a,e,⟨t,m⟩,q⟩:=k;subst e;cases j;obtain⟨n,u,p,w⟩:=I1.list m;refine wpAny_pyIter_list p.isList ?_;refine⟨d.heap.objs.size,[d.heap.objs.size],_,_,i,rfl,I1.kept (t':=d.toks) fun b o e=>bn _ e,GL a _,⟨_,Heap.get?_push_size _ rfl,rfl,rfl⟩,fun b r=>?_,q⟩;have e:b=d.heap.objs.size:=by simpa using r
 subst e;exact I1.fpOk (bI _) (I1.hok.fresh (bI _))
theorem GS{l:Expr}{g:TE}(i:PE X l g):PI X B l (GQ X.K g):=by
 intro c s Y H R I h;refine aU (i c s Y H _ I h) fun v d ⟨x,j,I1,k,m⟩=>?_;obtain⟨a,e,⟨t,n⟩,q⟩:=m;subst e;cases k;obtain⟨f,u,p,w⟩:=I1.tuple n;refine wpAny_pyIter_tuple (show d.heap.IsTuple a f.toArray from p) ?_;refine⟨d.heap.objs.size,[d.heap.objs.size],_,_,j,rfl,I1.kept (t':=d.toks) fun b o e=>bn _ e,GN a _,⟨_,Heap.get?_push_size _ rfl,rfl,rfl⟩,fun b r=>?_,q⟩;have e:b=d.heap.objs.size:=by simpa using r
 subst e;exact I1.fpOk (bI _) (I1.hok.fresh (bI _))
theorem GU{c:List (Addr×Obj)}{Y:St}{H:Hp}{s:Shared}{R:It->Hp->Prop}{E:Value->Shared->Prop}{lo a:Int}{t u v:Tok}{d:Nat}(I:Inv X c Y H s)(i:-(2 ^ 62)<=lo)(j:lo<2 ^ 62)(k:-(2 ^ 62)<=a)(f:a<2 ^ 62)
  (q:R (qC lo (a - lo).toNat) H):wpAny (model X.prog X.w) X.A (pyIter (.ref s.heap.objs.size)) (zn X c Y B R) E { s with heap:=s.heap.push { cls:=.type "range",data:=.fields #[.int lo t,.int a u,.int 1 v] },toks:=d }:=by
 refine wpAny_pyIter_range (IsRange.new ..) (small_one i j k f) ?_;have I1:Inv X c Y H { s with heap:=s.heap.push { cls:=.type "range",data:=.fields #[.int lo t,.int a u,.int 1 v] },toks:=d }:=I.kept fun b o e=>bn _ e;refine⟨(s.heap.push { cls:=.type "range",data:=.fields #[.int lo t,.int a u,.int 1 v] }).objs.size,[(s.heap.push { cls:=.type "range",data:=.fields #[.int lo t,.int a u,.int 1 v] }).objs.size],_,_,H,rfl,
  I1.kept (t':=d) fun b o e=>bn _ e,GO _ lo (a - lo).toNat,?_,fun b l=>?_,q⟩
 ·have g:lo+((0:Nat):Int) * 1=lo:=by simp
  have h:(((a - lo).toNat:Nat):Int) - ((0:Nat):Int)=Builtin.Range.rangeSize lo a 1:=by rw[rangeSize_one];split<;>omega
  show IsRangeIter _ _ (lo+((0:Nat):Int) * 1) ((((a - lo).toNat:Nat):Int) - ((0:Nat):Int)) 1;rw[g,h];exact Heap.get?_push_size _ rfl
 ·have e:b=(s.heap.push { cls:=.type "range",data:=.fields #[.int lo t,.int a u,.int 1 v] }).objs.size:=by simpa using l
  subst e;exact I1.fpOk (bI _) (I1.hok.fresh (bI _))
noncomputable def GV(a:TA):TI:=fun Y H R=>a Y H fun b c=>∃j:Int,b=[.int j]/\-(2 ^ 62)<=j/\j<2 ^ 62/\R (qC 0 j.toNat) c
theorem GW{a:Expr}{d:TA}{p pos:Pos}(f:Gl X "range")(g:X.mg "range" = none)(i:PA X [a] d)(k:starEach [a] X.env=[(false,eval a X.env)]:=by rfl):PI X B (.Call (.Name "range" p) [a] [] pos) (GV d):=by
 intro b s Y H R I h;refine Call_ (jC I f g boot_range (PyProof.Rows.callWith_type1 (aU (i pos b s Y H _ I h) fun o u ⟨v,w,I1,l,c⟩=>?_) k rfl));obtain⟨j,e,c,m,q⟩:=c;subst e;cases l with
 | cons r n=>cases n;obtain⟨t,rfl⟩:=r;exact call_range_1 (GU I1 (by omega) (by omega) c m (by simpa using q))
noncomputable def GX(d:TI)(g:TG)(e:TS):TS:=fun D Y H=>d Y H fun J f=>∃W:Nat->Nat->St->Hp->Prop,(∃m,W 0 m Y f)/\∀i m Y H,W i m Y H->
 (J.stop i H/\D.nx Y H)\/(J.go i H/\∃N:St->Hp->Prop,(∀b a,N b a->∃c,c<m/\W (i+1) c b a)/\∀x a,J.yld i H x a->g x Y a fun h j=>e { D with nx:=N,ct:=N,bk:=D.nx } h j)
noncomputable def om(a:List Addr)(h:Heap):List (Addr×Obj):=a.filterMap fun b=>(h.get? b).map fun o=>(b,o)
theorem qD{a:List Addr}{h:Heap}{b:Addr}{o:Obj}(c:b∈a)(e:h.get? b=some o):(b,o)∈om a h:=List.mem_filterMap.mpr ⟨b,c,by rw[e];rfl⟩
theorem GY{a:List Addr}{h:Heap}{p:Addr×Obj}(c:p∈om a h):p.1∈a/\h.get? p.1=some p.2:=by
 obtain⟨b,hb,e⟩:=List.mem_filterMap.mp c;cases q:h.get? b with
 | none=>rw[q] at e;cases e
 | some o=>rw[q] at e;have d:(b,o)=p:=Option.some.inj e;subst d;exact⟨hb,q⟩
theorem Inv.pinned{a:List (Addr×Obj)}{Y:St}{H:Hp}{s:Shared}{c:List Addr}(I:Inv X a Y H s)(h:∀b∈c,hV X a H b)(k:∀b∈c,∃o,s.heap.get? b=some o/\∀v,o.data≠.cell v):Inv X (a++om c s.heap) Y H s:=
 I.pins_of fun p i=>(List.mem_append.mp i).elim (fun z=>I.pin p (bo _ z)) fun z=>by obtain⟨g,e⟩:=GY z;obtain⟨j,f1,f2,_⟩:=h p.1 g;obtain⟨o,f,d⟩:=k p.1 g;rw[e] at f;cases f;exact⟨e,j,f1,f2,d⟩
theorem Inv.unpinned{a c:List (Addr×Obj)}{Y:St}{H:Hp}{s:Shared}(I:Inv X (a++c) Y H s):Inv X a Y H s:=I.pins_of fun p b=>I.pin p (bo _ (bt _ b))
theorem GZ{iter:Expr}{body:List Stmt}{wi:TI}{g:TG}{tb:TS}{pos:Pos}(z:PassesOwn (model X.prog X.w) X.A X.env X.xe)(hc:X.calm=true)(hi:PI X B iter wi)(hg:PG X B g)(p:PSs X body tb)
  (hs:∀x,foldedSetIterable iter X.env x=pure x:=by intro _;rfl):PS X (.For B iter body [] pos) (GX wi g tb):=by
 intro a s Y H D I h;refine wpAny_For (aU (hi a s Y H _ I h) fun v s1 h1=>aU h1 fun a1 s2 h2=>?_) hs;obtain⟨it,C,tn,J,H2,e,I2,T,S,f2,W,⟨m0,w0⟩,E⟩:=h2;subst e;have c:∀{q:Hp},(∀b∈C,q b=none)->∀b∈C,hV X a q b:=fun hn b p=>⟨hn b p,(f2 b p).2⟩
 refine codeAny_forLoop_any (fun n s'=>∃i G q,Inv X a G q s'/\tn i s'.heap/\(∀b∈C,q b=none)/\W i n G q) ?_ m0 ⟨0,Y,H2,I2,S,fun b p=>(f2 b p).1,w0⟩;rintro n s3 ⟨i,L,R,I3,M,O,w3⟩;rcases E i n L R w3 with⟨stop,qn⟩ | ⟨go,N,hN,step⟩
 ·refine wpAny_passesOwn z (aU (T.done X rfl rfl rfl hc i a s3 L R X.xe I3 (c O) M stop) fun r s4 ⟨U,I4⟩=>?_);subst U;exact wpAny_execs_nil ⟨L,R,I4,qn⟩
 ·refine wpAny_passesOwn z (aU (T.item X rfl rfl rfl hc i a s3 L R X.xe I3 (c O) M go) fun r s4 ⟨u,U,h4⟩=>?_);subst U;refine wpAny_passesOwn z (aU h4 fun _ s5 ⟨x,H5,I5,r5,y5,y,Z⟩=>?_);have a0:=I5.pinned (c Z) (T.obj _ _ y);refine wpAny_passesOwn z (aU (hg _ s5 L H5 x u _ a0 r5 (step x H5 y5)) fun _ s6 ⟨Y6,H6,I6,q6⟩=>?_);refine wpAny_passesOwn z (aU (p _ s6 Y6 H6 _ I6 q6) fun f s7 t=>?_);have again:∀{j:St}{k:Hp},Inv X (a++om C s5.heap) j k s7->N j k->∃m,m<n/\∃i G q,Inv X a G q s7/\tn i s7.heap/\(∀b∈C,q b=none)/\W i m G q:=fun {j k} l Q=>by obtain⟨m',hm,w7⟩:=hN j k Q;refine⟨m',hm,i+1,j,k,l.unpinned,T.keep _ _ _ y fun b p o e=>(l.pin (b,o) (bo _ (bo _ (qD p e)))).1,fun b p=>?_,w7⟩;obtain⟨o,e,d⟩:=T.obj _ _ y b p;exact(l.pin (b,o) (bo _ (bo _ (qD p e)))).2.1
  cases f with
  | next=>obtain⟨j,k,l,Q⟩:=t;exact again l Q
  | cont=>obtain⟨j,k,l,Q⟩:=t;exact again l Q
  | brk=>obtain⟨j,k,l,t⟩:=t;exact⟨j,k,l.unpinned,t⟩
  | ret v=>obtain⟨x7,j,k,l,r7,t⟩:=t;exact⟨x7,j,k,l.unpinned,r7,t⟩
end
abbrev R2:=V->V->Hp->VK->Prop
def cV(X:Cx)(f:Value->Value->Sem Value)(r:R2):Prop:=
 ∀(a:List (Addr×Obj)) (s:Shared) (Y:St) (H:Hp) (x y:V) (v u:Value) (Q:VK),Inv X a Y H s->bp x v->bp y u->r x y H Q->
  wpAny (model X.prog X.w) X.A (f v u) (EP X a Y Q) X.xe s
def vj(X:Cx)(f:Value->Sem Value)(r:V->Hp->VK->Prop):Prop:=
 ∀(a:List (Addr×Obj)) (s:Shared) (Y:St) (H:Hp) (x:V) (v:Value) (Q:VK),Inv X a Y H s->bp x v->r x H Q->
  wpAny (model X.prog X.w) X.A (f v) (EP X a Y Q) X.xe s
def ia(X:Cx)(f:Value)(r:List V->Hp->VK->Prop):Prop:=
 ∀(a:List (Addr×Obj)) (s:Shared) (Y:St) (H:Hp) (b:List V) (c:List Value) (Q:VK),Inv X a Y H s->bq b c->r b H Q->
  wpAny (model X.prog X.w) X.A (call f c) (EP X a Y Q) X.xe s
noncomputable def on(r:R2)(a b:TE):TE:=fun Y H Q=>a Y H fun x c=>b Y c fun y d=>r x y d Q
noncomputable def Ha(r:V->Hp->VK->Prop)(a:TE):TE:=fun Y H Q=>a Y H fun x b=>r x b Q
noncomputable def rI(C:Int->Int->Prop)(g:Int->Int->V):R2:=fun x y H Q=>∃i j,x=.int i/\y=.int j/\C i j/\Q (g i j) H
noncomputable def iW(g:Int->Int->V):R2:=fun x y H Q=>∃i j,x=.int i/\y=.int j/\Q (g i j) H
noncomputable def rU(g:Int->V):V->Hp->VK->Prop:=fun x H Q=>∃i,x=.int i/\Q (g i) H
section
variable{X:Cx}{a b c:Expr}{D z p:TE}{pos:Pos}
theorem vk(j:PE X a D)(C:PE X b z){d:List (Addr×Obj)}{s:Shared}{Y:St}{H:Hp}{R:V->V->Hp->Prop}(I:Inv X d Y H s)
  (h:D Y H fun x i=>z Y i fun y e=>R x y e) {Q:Value->Shared->Prop}{f:Value->Value->Sem Value}
  (k:∀v u g x y e,Inv X d Y e g->bp x v->bp y u->R x y e->wpAny (model X.prog X.w) X.A (f v u) Q X.xe g) :
  wpAny (model X.prog X.w) X.A (eval a X.env) (fun v l=>wpAny (model X.prog X.w) X.A (eval b X.env) (fun u m=>wpAny (model X.prog X.w) X.A (f v u) Q X.xe m) X.xe l) X.xe s:=by
 refine aU (j d s Y H _ I h) fun v n ⟨x,i,I1,o,q⟩=>?_;refine aU (C d n Y i _ I1 q) fun u g ⟨y,e,r,t,B⟩=>?_;exact k v u g x y e r o t B
theorem Hb{op:Operator}{r:R2}(l:cV X (binaryOp op) r)(e:PE X a D)(m:PE X b z):PE X (.BinOp a op b pos) (on r D z):=by intro d s Y H Q I h;exact wpAny_BinOp (vk e m I h fun v u f x y g i j k q=>l d f Y g x y v u Q i j k q)
theorem Hc{op:UnaryOp}{r:V->Hp->VK->Prop}(k:vj X (unaryOp op) r)(e:PE X a D):PE X (.UnaryOp op a pos) (Ha r D):=by intro d s Y H Q I h;exact UnaryOp_ (aU (e d s Y H _ I h) fun v f ⟨x,g,I1,i,j⟩=>k d f Y g x v Q I1 i j)
theorem vl{f:Value->Value->Sem Value}{C:Int->Int->Prop}{g:Int->Int->Int}
  (rule:∀(i j:Int) (t u:Tok) (s:Shared) (Q:Value->Shared->Prop) (E:Value->Shared->Prop),C i j->Q (.int (g i j) s.toks) { s with toks:=s.toks+1 }->wpAny (model X.prog X.w) X.A (f (.int i t) (.int j u)) Q E s) :
  cV X f (rI C fun i j=>.int (g i j)):=by
 intro d s Y H x y v u Q I e k h;obtain⟨i,j,rfl,rfl,l,q⟩:=h;obtain⟨t,rfl⟩:=e;obtain⟨t',rfl⟩:=k;exact rule i j t t' s _ _ l ⟨.int (g i j),H,I.tok _,⟨_,rfl⟩,q⟩
theorem zo{f:Value->Value->Sem Value}{g:Int->Int->Int}
  (rule:∀(i j:Int) (t u:Tok) (s:Shared) (Q:Value->Shared->Prop) (E:Value->Shared->Prop),Q (.int (g i j) s.toks) { s with toks:=s.toks+1 }->wpAny (model X.prog X.w) X.A (f (.int i t) (.int j u)) Q E s) :
  cV X f (iW fun i j=>.int (g i j)):=by
 intro d s Y H x y v u Q I e k h;obtain⟨i,j,rfl,rfl,q⟩:=h;obtain⟨t,rfl⟩:=e;obtain⟨t',rfl⟩:=k;exact rule i j t t' s _ _ ⟨.int (g i j),H,I.tok _,⟨_,rfl⟩,q⟩
theorem vm{f:Value->Value->Sem Value}{g:Int->Int->Bool}
  (rule:∀(i j:Int) (t u:Tok) (s:Shared) (Q:Value->Shared->Prop) (E:Value->Shared->Prop),Q (.bool (g i j)) s->wpAny (model X.prog X.w) X.A (f (.int i t) (.int j u)) Q E s) :
  cV X f (iW fun i j=>.bl (g i j)):=by
 intro d s Y H x y v u Q I e k h;obtain⟨i,j,rfl,rfl,q⟩:=h;obtain⟨t,rfl⟩:=e;obtain⟨t',rfl⟩:=k;exact rule i j t t' s _ _ ⟨.bl (g i j),H,I,rfl,q⟩
def vn(i j:Int):Prop:=0<j/\j<1073741824
def oo(i j:Int):Prop:=(-(2 ^ 64)<i/\i<2 ^ 64)\/(-(2 ^ 64)<j/\j<2 ^ 64)
theorem oo.ok{i j:Int}(h:oo i j):IntMulOk i j:=by
 rcases h with⟨h1,h2⟩ | ⟨h1,h2⟩
 ·exact .of_left (intBits_le_64 h1 h2)
 ·exact .of_right (intBits_le_64 h1 h2)
theorem Hd:cV X (binaryOp .Add) (iW fun i j=>.int (i+j)):=zo fun _ _ _ _ _ _ _ q=>add_int q
theorem He:cV X (binaryOp .Sub) (iW fun i j=>.int (i - j)):=zo fun _ _ _ _ _ _ _ q=>sub_int q
theorem Hf:cV X (binaryOp .Mult) (rI oo fun i j=>.int (i * j)):=vl fun _ _ _ _ _ _ _ d q=>mul_int q d.ok
theorem Hg:cV X (binaryOp .FloorDiv) (rI vn fun i j=>.int (i / j)):=vl fun i j _ _ _ _ _ d q=>by have h1:(0:Int)<j:=d.1;have h2:j<1073741824:=d.2;exact floordiv_int (by omega) (by rw[Int.fdiv_eq_ediv_of_nonneg i (by omega)];exact q) (.inl (PyProof.noPylong_small (by omega)))
theorem Hh:cV X (binaryOp .Mod) (rI (fun _ j=>0<j) fun i j=>.int (i % j)):=vl fun i j _ _ _ _ _ d q=>by have h1:(0:Int)<j:=d;exact mod_int' (by omega) (by rw[Int.fmod_eq_emod_of_nonneg i (by omega)];exact q)
theorem Hi{f:Value->Sem Value}{g:Int->Int}
  (rule:∀(i:Int) (t:Tok) (s:Shared) (Q:Value->Shared->Prop) (E:Value->Shared->Prop),Q (.int (g i) s.toks) { s with toks:=s.toks+1 }->wpAny (model X.prog X.w) X.A (f (.int i t)) Q E s) :
  vj X f (rU fun i=>.int (g i)):=by
 intro d s Y H x v Q I e h;obtain⟨i,rfl,q⟩:=h;obtain⟨t,rfl⟩:=e;exact rule i t s _ _ ⟨.int (g i),H,I.tok _,⟨_,rfl⟩,q⟩
theorem Hj:vj X (unaryOp .USub) (rU fun i=>.int (-i)):=Hi fun _ _ _ _ _ q=>neg_int q
end
section
variable{X:Cx}{a b c:Expr}{A n m:TE}{pos:Pos}
theorem zp{d:List (Addr×Obj)}{Y:St}{H:Hp}{s:Shared}{Q:VK}{k f:Bool}(I:Inv X d Y H s)(q:Q (.bl k) H)(e:k=f):EP X d Y Q (.bool f) s:=by subst e;exact⟨.bl k,H,I,rfl,q⟩
theorem zq:cV X (compareOp .Lt) (iW fun i j=>.bl (decide (i<j))):=vm fun _ _ _ _ _ _ _ q=>lt_int q
theorem qE:cV X (compareOp .LtE) (iW fun i j=>.bl (decide (i<=j))):=vm fun _ _ _ _ _ _ _ q=>le_int q
theorem zr:cV X (compareOp .Gt) (iW fun i j=>.bl (decide (j<i))):=vm fun _ _ _ _ _ _ _ q=>gt_int q
theorem zt:cV X (compareOp .Is) (fun x y H Q=>y=.non/\Q (.bl (decide (x=.non))) H):=by
 intro d s Y H x y v u Q I e f h;obtain⟨rfl,q⟩:=h;cases f;refine is_none_gen (zp I q ?_);cases x<;>first
  | (cases e;rfl)
  | (obtain⟨t,rfl⟩:=e;rfl)
theorem zu:cV X (compareOp .IsNot) (fun x y H Q=>y=.non/\Q (.bl (!decide (x=.non))) H):=by
 intro d s Y H x y v u Q I e f h;obtain⟨rfl,q⟩:=h;cases f;refine isnot_none_gen (zp I q ?_);cases x<;>first
  | (cases e;rfl)
  | (obtain⟨t,rfl⟩:=e;rfl)
theorem bD(b:Expr){op:CmpOp}(h:op≠.In:=by decide)(f:op≠.NotIn:=by decide):behindInMarks op b=false:=by
 have d:(op==CmpOp.In)=false:=by cases op<;>first | rfl | exact absurd rfl h
 have e:(op==CmpOp.NotIn)=false:=by cases op<;>first | rfl | exact absurd rfl f
 cases b<;>simp[behindInMarks,d,e]
theorem Hk{op:CmpOp}{r:R2}(o:cV X (compareOp op) r)(e:PE X a A)(p:PE X b n)(f:behindInMarks op b=false):PE X (.Compare a [op] [b] pos) (on r A n):=by intro d s Y H Q I h;exact wpAny_Compare1 (vk e p I h fun v u g x y i j k l q=>o d g Y i x y v u Q j k l q) f
noncomputable def Hm(t:TE):TT:=fun Y H Q=>t Y H fun x d=>∃k,x=.bl k/\Q k d
theorem zv{op:CmpOp}{r:R2}(J:cV X (compareOp op) r)(f:PE X a A)(L:PE X b n)(g:behindInMarks op b=false):PT X (.Compare a [op] [b] pos) (Hm (on r A n)):=by
 intro d s Y H Q I h;refine wpAny_isTrue_Compare1 (aU (f d s Y H _ I h) fun v i ⟨x,j,I1,l,o⟩=>aU (L d i Y j _ I1 o) fun u p ⟨y,q,t,w,B⟩=>
  aU (J d p Y q x y v u _ t l w B) fun c M ⟨z,C,D,E,k,e,G⟩=>?_) g
 subst e;cases E;exact wpAny_truthy_bool ⟨C,D,G⟩
noncomputable def Hn(r e:R2)(A n m:TE):TE:=fun Y H Q=>A Y H fun x f=>n Y f fun y g=>r x y g fun z d=>∃k,z=.bl k/\
 (if k=true then m Y d fun h i=>e y h i Q else Q (.bl false) d)
theorem Ho{op g:CmpOp}{r j:R2}(ho:cV X (compareOp op) r)(i:cV X (compareOp g) j)(t:PE X a A)(hb:PE X b n)(w:PE X c m)
  (B:lastMarks [op,g] [b,c]=false:=by with_unfolding_all rfl):PE X (.Compare a [op,g] [b,c] pos) (Hn r j A n m):=by
 intro f s Y H Q I h;refine Compare_chain (aU (t f s Y H _ I h) fun v C ⟨x,D,I1,E,G⟩=>chain_link (aU (hb f C Y D _ I1 G) fun u J ⟨y,L,M,l,N⟩=>
  aU (ho f J Y L x y v u _ M E l N) fun d O ⟨z,o,p,R,k,e,q⟩=>?_)) B
 subst e;cases R;refine wpAny_truthy_bool ?_;cases k with
 | false=>exact ite_ff ⟨.bl false,o,p,rfl,q⟩
 | true=>exact ite_tt (chain_last (aU (w f O Y o _ p q) fun S T ⟨z',U,Z,r4,q4⟩=>i f T Y U y z' u S Q Z l r4 q4))
theorem eJ:(sizeLine:Nat)<2 ^ 63:=by rw[sizeLine_eq];decide
theorem dj{x:V}{d:List Value}(r:bq [x] d):∃u,d=[u]/\bp x u:=by
 cases r with
 | cons e f=>cases f;exact⟨_,rfl,e⟩
theorem gi{x y:V}{d:List Value}(r:bq [x,y] d):∃u e,d=[u,e]/\bp x u/\bp y e:=by
 cases r with
 | cons f g=>
  cases g with
  | cons h i=>cases i;exact⟨_,_,rfl,f,h⟩
theorem vo(g:X.calm=true):ia X (.builtin "max") (fun e H Q=>∃i j,e=[.int i,.int j]/\Q (.int (if j>i then j else i)) H):=by
 intro f s Y H e l Q I r h;obtain⟨i,j,rfl,q⟩:=h;obtain⟨u,o,rfl,⟨t,rfl⟩,⟨t',rfl⟩⟩:=gi r;refine max_two_ints (I.ok.hd g) fun p v k=>⟨_,H,I.kept k,?_,q⟩
 by_cases d:j>i
 ·rw[if_pos d,if_pos d];exact⟨_,rfl⟩
 ·rw[if_neg d,if_neg d];exact⟨_,rfl⟩
end
structure fO (h:Heap) (x dx C:Addr) (mA:Str->Option Value):Prop where
 obj:h.get? x=some (instObj C dx)
 ns:h.Ns1 dx mA
 ne:dx≠x
theorem Hq{h:Heap}{c:Addr}{d:Str->Option Value}(n:h.Ns1 c d):∃f,h.get? c=some f/\∀name,PySem.W.lookIn name f=some (d name):=by
 obtain⟨o,g,m,ho,hd,i,_,j⟩:=n;refine⟨o,ho,fun name=>?_⟩;have e:=j name;unfold nsFind findBy at e;rw[<-Array.find?_toList] at e;unfold PySem.W.lookIn;rw[hd];dsimp only;split
 ·rename_i y q;rw[q] at e;exact congrArg some e
 ·rename_i q;rw[q] at e;have a:g.toList.any (·.refKey)=false:=by rw[List.any_eq_false];intro y k;obtain⟨z,t,b⟩:=i y (Array.mem_toList_iff.mp k);simp[DictEntry.refKey,b]
  have l:¬ g.toList.any (·.refKey)=true:=by rw[a];exact Bool.false_ne_true
  rw[if_neg l];exact congrArg some e
theorem fO.look{h:Heap}{x b C:Addr}{c:Str->Option Value}(I:fO h x b C c):∃a,PySem.W.InstAt h x (instObj C b) C (some a)/\∀name,PySem.W.lookIn name a=some (c name):=
 let⟨a,ho,d⟩:=Hq I.ns
 ⟨a,⟨I.obj,rfl,rfl,ho⟩,d⟩
section
variable{prog:Program}{w:World}{A:Around}{E:Value->Shared->Prop}{s:Shared}{K:Frag}{x q C f:Addr}{l:Str->Option Value}{name:Str}{v:Value}
theorem Hr{expr:Bool}{Q:Value->Shared->Prop}(X:K.In s.heap)(I:fO s.heap x q C l)(b:plainGet K C name=true)(g:PySem.W.hasDictIn K C=true)
  (c:findIn K (.ref C) name=some none) (d:l name=some v) (a:PySem.W.handedIn v=true) (h:Q v { s with toks:=s.toks+1 }) :
  wpAny (model prog w) A (getAttr (.ref x) name expr) Q E s:=by
 obtain⟨i,J,e⟩:=I.look;exact PySem.W.get_value X J (PySem.W.plainGet_of b).1 (PySem.W.findObj_own g c rfl (by rw[e,d])) a h
theorem Hs{i:Sem Bool}{Q:Value×List Value->Shared->Prop}(X:K.In s.heap)(I:fO s.heap x q C l)(a:plainGet K C name=true)
  (b:findIn K (.ref C) name=some (some (.ref f))) (c:PySem.W.isFn K (.ref f)=true) (d:l name=none) (h:Q (.ref f,[.ref x]) s) :
  wpAny (model prog w) A (getMethod (.ref x) name i) Q E s:=by
 obtain⟨e,J,g⟩:=I.look;exact PySem.W.method_fn X J (PySem.W.plainGet_of a).1 (PySem.W.plainGet_of a).2 b (beq_iff_eq.mp c) (by show(PySem.W.lookIn name e).map (·.isSome)=some false;rw[g,d];rfl) h
theorem Ht{m:List Str}{Q:Unit->Shared->Prop}(X:K.In s.heap)(I:fO s.heap x q C l)
  (n:findIn K (.ref C) "__setattr__" = some (some (.builtin "object.__setattr__"))) (o:PySem.W.plainOver K C=true) (p:PySem.W.takerIn K C name=some none) (H:PySem.W.hasDictIn K C=true)
  (t:PySem.Within l m) (u:m.length<=sizeLine)
  (h:∀e,fO e x q C (fun y=>if y=name then some v else l y)->Heap.SameBut q s.heap e->Q () { s with heap:=e,toks:=s.toks+2 }) :
  wpAny (model prog w) A (setAttr (.ref x) name v) Q E s:=by
 obtain⟨L,J,M⟩:=I.look;refine PySem.W.set_plain X J n (PySem.W.osa_open (s:={ s with toks:=s.toks+1 }) (r:=none) X J o p fun b=>?_);obtain⟨N,z,g⟩:=PySem.W.any_some H;have B:s.heap.get? x=some ⟨.ref C,some q,.plain,#[]⟩:=I.obj;refine ak (bc (ak (ak (wpAny_loadPart B (ak (PySem.W.Looks.here (s:={ s with toks:=s.toks+1 }) (PySem.W.looks_clsIn X z) ?_))))));rw[g];refine bc (a:=some q) (ak (bc (ak ?_)));refine wpAny_nsSet1 (s:={ s with toks:=s.toks+1 }) I.ns fun e c d=>?_;obtain⟨O,D,G,i,j,k⟩:=c.count (PySem.Within.cons name v t);refine ak (wpAny_lookBehind i (by rw[j];exact pastItsLine_dict (Nat.le_trans k (by rw[List.length_cons];omega))) ?_);exact bc (h _ ⟨(d.2 _ (Ne.symm I.ne)).trans I.obj,c,I.ne⟩ d)
theorem Hu{R:Result->Shared->Prop}{a:List Value}{b:List (Str×Value)}(X:K.In s.heap)(c:PySem.W.makesIn K C=true)
  (e:findIn K (.ref C) "__init__" = some (some (.ref f))) (i:PySem.W.typeIn K (.ref f)=some (.type "function"))
  (h:codeAny (model prog w) (A.under (.builtin "type.__call__" ⟨.ref C::a,b⟩)) (.call (.ref f) ⟨.ref (s.heap.objs.size+1)::a,b⟩) (PySem.W.InitBack (s.heap.objs.size+1) R)
   { s with heap:=(s.heap.push emptyDict).push (instObj C s.heap.objs.size) }) :
  codeAny (model prog w) A (.call (.ref C) ⟨a,b⟩) R s:=by
 obtain⟨j,g,d,t,os⟩:=s;exact PySem.W.make_core (PySem.W.makes_of X c) (PySem.W.looks_findIn X e) (fun self=>PySem.W.bind_fn X self i) (.inl rfl) h
end
noncomputable def cN(f:Str)(v:V):List (Str×V)->List (Str×V)
 | []=>[(f,v)]
 | (g,x)::r=>if g=f then(g,v)::r else(g,x)::cN f v r
theorem zw(f g:Str)(v:V):∀fs:List (Str×V),(cN f v fs).lookup g=if g=f then some v else fs.lookup g
 | []=>by
  show List.lookup g [(f,v)]=_
  by_cases h:g=f
  ·have hb:(g==f)=true:=beq_iff_eq.mpr h;simp only[List.lookup,hb,if_pos h]
  ·have hb:(g==f)=false:=beq_eq_false_iff_ne.mpr h;simp only[List.lookup,hb,if_neg h]
 | (k,x)::r=>by
  have b:=zw f g v r;rw[show cN f v ((k,x)::r)=(if k=f then(k,v)::r else(k,x)::cN f v r) from rfl]
  by_cases a:k=f
  ·rw[if_pos a]
   by_cases h:g=k
   ·have hb:(g==k)=true:=beq_iff_eq.mpr h;simp only[List.lookup,hb,if_pos (h.trans a)]
   ·have hb:(g==k)=false:=beq_eq_false_iff_ne.mpr h;simp only[List.lookup,hb,if_neg (fun e:g=f=>h (e.trans a.symm))]
  ·rw[if_neg a]
   by_cases h:g=k
   ·have hb:(g==k)=true:=beq_iff_eq.mpr h;simp only[List.lookup,hb,if_neg (fun e:g=f=>a (h.symm.trans e))]
   ·have hb:(g==k)=false:=beq_eq_false_iff_ne.mpr h;simp only[List.lookup,hb];exact b
theorem vp(f:Str)(v:V):∀fs:List (Str×V),f∈(cN f v fs).map (·.1)/\∀g,g∈fs.map (·.1)->g∈(cN f v fs).map (·.1)
 | []=>⟨by simp[cN],fun g h=>by simp at h⟩
 | (k,x)::r=>by
  obtain⟨b,c⟩:=vp f v r;rw[show cN f v ((k,x)::r)=(if k=f then(k,v)::r else(k,x)::cN f v r) from rfl]
  by_cases a:k=f
  ·rw[if_pos a];subst a;exact⟨by simp,fun g h=>by simpa using h⟩
  ·rw[if_neg a];refine⟨?_,fun g h=>?_⟩
   ·rw[List.map_cons];exact bL _ b
   ·rw[List.map_cons] at h ⊢;rcases List.mem_cons.mp h with e | e
    ·exact List.mem_cons.mpr (.inl e)
    ·exact bL _ (c g e)
theorem zx(f:Str)(v:V):∀fs:List (Str×V),(cN f v fs).length<=fs.length+1
 | []=>by simp[cN]
 | (k,x)::r=>by
  have b:=zx f v r;rw[show cN f v ((k,x)::r)=(if k=f then(k,v)::r else(k,x)::cN f v r) from rfl]
  by_cases a:k=f
  ·rw[if_pos a,List.length_cons,List.length_cons];omega
  ·rw[if_neg a,List.length_cons,List.length_cons];omega
theorem ft.some_of{v:V}{o:Option Value}(r:ft (some v) o):∃u,o=some u/\bp v u:=by
 cases o with
 | none=>exact(show False from r).elim
 | some u=>exact⟨u,rfl,r⟩
theorem ft.none_of{o:Option Value}(r:ft none o):o=none:=by
 cases o with
 | none=>rfl
 | some u=>exact(show False from r).elim
theorem Hv{v:V}{u:Value}(r:bp v u):PySem.W.handedIn u=true:=by
 cases v with
 | non=>cases(show u=Value.none from r);rfl
 | bl b=>cases(show u=Value.bool b from r);rfl
 | int i=>obtain⟨t,e⟩:=(show ∃t,u=Value.int i t from r);cases e;rfl
 | str x=>obtain⟨t,e⟩:=(show ∃t,u=Value.str x t from r);cases e;rfl
 | byt b=>obtain⟨t,e⟩:=(show ∃t,u=Value.bytes b t from r);cases e;rfl
 | flt b=>obtain⟨t,e⟩:=(show ∃t,u=Value.float b t from r);cases e;rfl
 | ref a=>cases(show u=Value.ref a from r);rfl
 | ty n=>cases(show u=Value.type n from r);rfl
section
variable{P:Program}{w:World}{H k:Hp}{h j:Heap}{a C I:Addr}{fs y:List (Str×V)}
theorem qF(c:bC P w H h)(e:H a=some (.ins C I fs)):∃b,fO h a I C b/\(∀f,ft (fs.lookup f) (b f))/\PySem.Within b (fs.map (·.1))/\fs.length<=1000/\H I=some (.own a):=by
 obtain⟨d,z,ne,ob,b,n,r,q⟩:=(show cJ P w H h a (.ins C I fs) from c a _ e)
 exact⟨b,⟨ob,n,ne⟩,r,q,z,d⟩
end
structure cO (K:Frag) (C:Addr):Prop where
 pg:plainGet K C Str.empty=true
 hd:PySem.W.hasDictIn K C=true
 po:PySem.W.plainOver K C=true
 sa:findIn K (.ref C) "__setattr__" = some (some (.builtin "object.__setattr__"))
theorem cO.get{K:Frag}{C:Addr}(c:cO K C)(f:Str):plainGet K C f=true:=c.pg
def cx(K:Frag)(C:Addr)(f:Str):Prop:=findIn K (.ref C) f=some none
theorem cx.taker{K:Frag}{C:Addr}{f:Str}(n:cx K C f):PySem.W.takerIn K C f=some none:=by unfold PySem.W.takerIn;rw[show findIn K (.ref C) f=some none from n];rfl
structure iz (K:Frag) (C:Addr) (m:Str) (f:Addr):Prop where
 at_:findIn K (.ref C) m=some (some (.ref f))
 fn:PySem.W.isFn K (.ref f)=true
 kp:keepIn K (.ref f)=true
section
variable{X:Cx}{i:List (Addr×Obj)}{Y:St}{H:Hp}{s:Shared}{a C d:Addr}{fs:List (Str×V)}{f:Str}{v:V}{A:Around}{E:Value->Shared->Prop}
theorem zy{b:Bool}{Q:Value->Shared->Prop}(I:Inv X i Y H s)(e:H a=some (.ins C d fs))(c:cO X.K C)(n:cx X.K C f)(l:fs.lookup f=some v)
  (h:∀u g,Inv X i Y H g->bp v u->Q u g):wpAny (model X.prog X.w) A (getAttr (.ref a) f b) Q E s:=by
 obtain⟨j,O,r,_,_,_⟩:=qF I.hok e;obtain⟨u,k,ru⟩:=ft.some_of (v:=v) (o:=j f) (by rw[<-l];exact r f);exact Hr I.kIn O (c.get f) c.hd n k (Hv ru) (h u _ (I.tok _) ru)
theorem zG{m:Str}{g:Addr}{n:Sem Bool}{Q:Value×List Value->Shared->Prop}(I:Inv X i Y H s)(e:H a=some (.ins C d fs))(c:cO X.K C)(k:iz X.K C m g)(l:fs.lookup m=none)
  (h:Q (.ref g,[.ref a]) s):wpAny (model X.prog X.w) A (getMethod (.ref a) m n) Q E s:=by
 obtain⟨b,O,r,_,_,_⟩:=qF I.hok e;have j:b m=none:=ft.none_of (by rw[<-l];exact r m);exact Hs I.kIn O (c.get m) k.at_ k.fn j h
theorem zH{y:V}{u:Value}{Q:Unit->Shared->Prop}(I:Inv X i Y H s)(e:H a=some (.ins C d fs))(c:cO X.K C)(n:cx X.K C f)(N:fs.length<1000)(t:bp y u)
  (h:∀k,Inv X i Y (aQ H a (.ins C d (cN f y fs))) k->Q () k):wpAny (model X.prog X.w) A (setAttr (.ref a) f u) Q E s:=by
 obtain⟨l,O,r,m,_,p⟩:=qF I.hok e;have B:(fs.map (·.1)).length<=sizeLine:=by rw[List.length_map,sizeLine_eq];omega
 refine Ht I.kIn O c.sa c.po n.taker c.hd m B fun D j G=>h _ ?_;have hd:∃o,D.get? d=some o:=let⟨o,_,_,J,_⟩:=j.ns;⟨o,J⟩;refine I.write (x:=a) (e:=d) (by rw[e];exact True.intro) (.inr p) (fun b q M z=>(G.2 b M).trans z) hd ?_;refine⟨by rw[bv O.ne];exact p,?_,O.ne,j.obj,_,j.ns,fun g=>?_,fun g L=>?_⟩
 ·have:=zx f y fs;omega
 ·show ft ((cN f y fs).lookup g) (if g=f then some u else l g);rw[zw]
  by_cases q:g=f
  ·rw[if_pos q,if_pos q];exact t
  ·rw[if_neg q,if_neg q];exact r g
 ·by_cases q:g=f
  ·rw[q];exact(vp f y fs).1
  ·refine(vp f y fs).2 g (m g fun z=>L ?_);show(if g=f then some u else l g)=none;rw[if_neg q];exact z
theorem Inv.made(I:Inv X i Y H s):Inv X i Y (aQ (aQ H s.heap.objs.size (.own (s.heap.objs.size+1))) (s.heap.objs.size+1) (.ins C s.heap.objs.size []))
  { s with heap:=(s.heap.push emptyDict).push (instObj C s.heap.objs.size) }:=by
 have c:(s.heap.push emptyDict).get? s.heap.objs.size=some emptyDict:=Heap.get?_push_size s.heap rfl;have g:((s.heap.push emptyDict).push (instObj C s.heap.objs.size)).get? (s.heap.objs.size+1)=some (instObj C s.heap.objs.size):=by
  have:=Heap.get?_push_size (s.heap.push emptyDict) (o:=instObj C s.heap.objs.size) rfl
  rwa [Heap.size_push] at this
 have h:(s.heap.push emptyDict).Ns s.heap.objs.size (fun _=>none):=⟨emptyDict,#[],_,c,rfl,(fun e j=>absurd j (by simp)),fun _=>rfl⟩
 have I1:=I.laid (a:=s.heap.objs.size) (o:=.own (s.heap.objs.size+1)) (h':=s.heap.push emptyDict) (t':=s.toks) (fun b u q=>bn _ q) (bI _) ⟨_,c⟩;refine I1.laid (a:=s.heap.objs.size+1) (o:=.ins C s.heap.objs.size []) (t':=s.toks) (fun b u q=>bn _ q) (Nat.le_of_eq (Heap.size_push _ _)) ?_;have ne:s.heap.objs.size≠s.heap.objs.size+1:=Nat.ne_of_lt (Nat.lt_succ_self _);refine⟨by rw[bv ne,cF],Nat.zero_le _,ne,g,fun _=>none,(Heap.Ns1.of_empty h).at fun o q=>bn _ q,fun _=>True.intro,fun y k=>absurd rfl k⟩
theorem Hw{b:Program}{w:World}{c:Env}{e:Expr}{f:Str}{pos:Pos}{s:Shared}{Q:Value->Shared->Prop}(j:attributeBase e f c (eval e c)=eval e c)
  (h:wpAny (model b w) A (eval e c) (fun o g=>wpAny (model b w) A (getAttr o f true) Q E g) E s):wpAny (model b w) A (eval (.Attribute e f pos) c) Q E s:=
 Attribute_any_ h (by rw[arm_eval_Attribute,j])
end
noncomputable def Hx(K:Frag)(c:TE)(f:Str):TE:=fun Y H Q=>c Y H fun x b=>∃a C d fs v,x=.ref a/\b a=some (.ins C d fs)/\cO K C/\cx K C f/\fs.lookup f=some v/\Q v b
noncomputable def Hy(K:Frag)(d e:TE)(f:Str):TS:=fun D Y H=>e Y H fun y g=>d Y g fun x b=>∃a C c fs,x=.ref a/\b a=some (.ins C c fs)/\cO K C/\cx K C f/\fs.length<1000/\
 D.nx Y (aQ b a (.ins C c (cN f y fs)))
def zI(X:Cx)(op:Operator)(rd:V->V->Hp->VK->Prop):Prop:=
 ∀(a:List (Addr×Obj)) (s:Shared) (Y:St) (H:Hp) (x y:V) (u v:Value) (Q:VK),Inv X a Y H s->bp x u->bp y v->rd x y H Q->wpAny (model X.prog X.w) X.A (inplaceOp op u v) (EP X a Y Q) X.xe s
noncomputable def Hz(K:Frag)(g h:TE)(rd:V->V->Hp->VK->Prop)(f:Str):TS:=fun D Y H=>g Y H fun x d=>∃a C i fs v,x=.ref a/\d a=some (.ins C i fs)/\cO K C/\cx K C f/\fs.lookup f=some v/\
 h Y d fun y j=>rd v y j fun z e=>∃c b,e a=some (.ins C c b)/\b.length<1000/\D.nx Y (aQ e a (.ins C c (cN f z b)))
section
variable{X:Cx}{o e value:Expr}{f:Str}{pos r tpos:Pos}{g tv:TE}
theorem ib(d:PE X e g)(p:attributeBase e f X.env (eval e X.env)=eval e X.env):PE X (.Attribute e f pos) (Hx X.K g f):=by intro b s Y H Q I h;refine Hw p (aU (d b s Y H _ I h) fun u t ⟨x,i,I1,j,a,C,w,fs,v,ex,k,c,n,l,q⟩=>?_);subst ex;obtain rfl:u=Value.ref a:=j;exact zy I1 k c n l fun y z m ru=>⟨v,i,m,ru,q⟩
theorem qG(d:PE X o g)(i:PE X value tv)(j:swapsWith value (some (.Attribute o f r)) pos.line X.env=pure false):PS X (.Assign [.Attribute o f r] value pos) (Hy X.K g tv f):=by intro b s Y H D I h;refine plainObj_wpAny_Assign_Attribute (aU (i b s Y H _ I h) fun u k ⟨y,m,I1,p,q⟩=>aU (d b k Y m _ I1 q) fun t E ⟨x,G,v,w,a,C,J,fs,ex,z,c,n,l,A⟩=>?_) j;subst ex;obtain rfl:t=Value.ref a:=w;exact zH v z c n l p fun L B=>⟨Y,_,B,A⟩
theorem HA{op:Operator}{rd:V->V->Hp->VK->Prop}(j:PE X o g)(k:PE X value tv)(d:zI X op rd):PS X (.AugAssign (.Attribute o f tpos) op value pos) (Hz X.K g tv rd f):=by intro b s Y H D I h;refine wpAny_AugAssign_AttributeAny (aU (j b s Y H _ I h) fun m s1 ⟨x,p,I1,t,a,C,dx,fs,v,ex,w,c,n,l,q⟩=>?_);subst ex;obtain rfl:m=Value.ref a:=t;refine zy I1 w c n l fun u A B ru=>aU (k b A Y p _ B q) fun E G ⟨y,J,L,M,N⟩=>aU (d b G Y J v y u E _ L ru M N) fun w4 s4 ⟨z,H3,O,Q,R,S,i,T,U⟩=>?_;exact zH O i c n T Q fun s5 Z=>⟨Y,_,Z,U⟩
noncomputable def HB:V->V->Hp->VK->Prop:=fun x y H Q=>∃i j,x=.int i/\y=.int j/\Q (.int (i+j)) H
theorem HD:zI X .Add HB:=by
 rintro a s Y H x y u v Q I b c ⟨i,j,rfl,rfl,q⟩;obtain⟨t,rfl⟩:=(show ∃t,u=Value.int i t from b)
 obtain⟨t',rfl⟩:=(show ∃t',v=Value.int j t' from c)
 exact PyProof.Rows.iadd_int ⟨.int (i+j),H,I.tok _,⟨_,rfl⟩,q⟩
end
section
variable{X:Cx}{pins:List (Addr×Obj)}{Y:St}{H:Hp}{s:Shared}{A:Around}{E:Value->Shared->Prop}{Q:Value->Shared->Prop}{c:Value}{b:Bool}
inductive dB (K:Frag) (H:Hp):V->Value->Prop where
 | non:dB K H .non (.type "NoneType")
 | bl (x:Bool):dB K H (.bl x) (.type "bool")
 | int (i:Int):dB K H (.int i) (.type "int")
 | str (x:Str):dB K H (.str x) (.type "str")
 | flt (x:UInt64):dB K H (.flt x) (.type "float")
 | lst {a:Addr}{xs:List V}(e:H a=some (.lst xs)):dB K H (.ref a) (.type "list")
 | frz {a:Addr}{o:Obj}{xs:List V}(e:H a=some (.frz o (.lst xs))):dB K H (.ref a) (.type "list")
 | tup {a:Addr}{xs:List V}(e:H a=some (.tup xs)):dB K H (.ref a) (.type "tuple")
 | dK {a:Addr}{kvs:List (bd×V)}(e:H a=some (.dK kvs)):dB K H (.ref a) (.type "dict")
 | dT {a:Addr}{kvs:List (List bd×V)}(e:H a=some (.dT kvs)):dB K H (.ref a) (.type "dict")
 | ins {a C dx:Addr}{fs:List (Str×V)}(e:H a=some (.ins C dx fs)) (cl:cO K C) (ha:findIn K (.ref C) "__class__" = some (some (.builtin "object.__class__")))
   (hn:PySem.W.specialIn K (.builtin "object.__class__") "__get__" = some (some (.builtin "getset_descriptor.__get__"))) (htk:PySem.W.takesIn K (.builtin "object.__class__")=some true)
   (hm:mroIn K C (.type "object")=some true):dB K H (.ref a) (.ref C)
theorem oq{x:V}{u t:Value}(I:Inv X pins Y H s)(d:bp x u)(G:dB X.K H x t)(e:kitOne X.K t c=some b)(h:∀l,Q (.bool b) { s with toks:=l }) :
  wpAny (model X.prog X.w) A (call (.builtin "isinstance") [u,c]) Q E s:=by
 cases G with
 | non=>cases(show u=Value.none from d);exact kia_one PySem.W.kitx_none I.kIn True.intro e (fun z=>nomatch z) h
 | bl y=>cases(show u=Value.bool y from d);exact kia_one PySem.W.kitx_bool I.kIn True.intro e (fun z=>nomatch z) h
 | int i=>obtain⟨t,q⟩:=(show ∃t,u=Value.int i t from d);cases q;exact kia_one PySem.W.kitx_int I.kIn True.intro e (fun z=>nomatch z) h
 | str y=>obtain⟨t,q⟩:=(show ∃t,u=Value.str y t from d);cases q;exact kia_one PySem.W.kitx_str I.kIn True.intro e (fun z=>nomatch z) h
 | flt y=>obtain⟨t,q⟩:=(show ∃t,u=Value.float y t from d);cases q;exact kia_one PySem.W.kitx_float I.kIn True.intro e (fun z=>nomatch z) h
 | @lst a j f=>
  cases(show u=Value.ref a from d);obtain⟨_,_,n,_,h1⟩:=(show cJ X.prog X.w H s.heap a (.lst j) from I.hok a _ f)
  exact kia_one PySem.W.kitx_list I.kIn ⟨_,h1,rfl⟩ e (fun z=>nomatch z) h
 | @frz a ob j f=>
  cases(show u=Value.ref a from d);obtain⟨_,_,_,n,_,h1⟩:=(show cJ X.prog X.w H s.heap a (.frz ob (.lst j)) from I.hok a _ f)
  exact kia_one PySem.W.kitx_list I.kIn ⟨_,h1,rfl⟩ e (fun z=>nomatch z) h
 | @tup a j f=>
  cases(show u=Value.ref a from d);obtain⟨_,_,_,p⟩:=(show cJ X.prog X.w H s.heap a (.tup j) from I.hok a _ f)
  obtain⟨o,h1,h2,_⟩:=p;exact kia_one PySem.W.kitx_tuple I.kIn ⟨o,h1,h2⟩ e (fun z=>nomatch z) h
 | @dK a g f=>
  cases(show u=Value.ref a from d);obtain⟨_,_,L,_,p⟩:=(show cJ X.prog X.w H s.heap a (.dK g) from I.hok a _ f)
  obtain⟨o,m,r,h1,h2,_⟩:=p;exact kia_one PySem.W.kitx_dict I.kIn ⟨o,h1,h2.1⟩ e (fun z=>nomatch z) h
 | @dT a g f=>
  cases(show u=Value.ref a from d);obtain⟨_,_,j,_,o,m,r,h1,h2,_⟩:=(show cJ X.prog X.w H s.heap a (.dT g) from I.hok a _ f)
  exact kia_one PySem.W.kitx_dict I.kIn ⟨o,h1,h2.1⟩ e (fun z=>nomatch z) h
 | @ins a C M fs f cl v B k D=>cases(show u=Value.ref a from d);obtain⟨N,O,_⟩:=qF I.hok f;obtain⟨R,J,_⟩:=O.look;exact kia_one (PySem.W.kitx_own (cl.get _) cl.hd v B k D) I.kIn J e (fun z=>nomatch z) h
end
structure bz (k:Nat) (A:Around):Prop where
 hd:A.handled=none
 dp:A.depth+3 * k+5<recursionLimit
 un:A.units+16 * k+200<cLine
theorem bz.mono{j k:Nat}{A:Around}(r:bz k A)(h:j<=k):bz j A:=⟨r.hd,by have:=r.dp;omega,by have:=r.un;omega⟩
theorem bz.deeper{k:Nat}{A:Around}(r:bz (k+1) A)(a:Env):bz k (A.deeper a):=
 ⟨r.hd,by have:=r.dp;show A.depth+1+3 * k+5<_;omega,by have:=r.un;show A.units+3+16 * k+200<_;omega⟩
theorem HE{A:Around}{C:Addr}{a:List Value}{b:List (Str×Value)}:(A.under (.builtin "type.__call__" ⟨.ref C::a,b⟩)).depth=A.depth+1:=by first | rfl | simp[Around.under,Code.weight,Code.isCreation,Code.isGuard,Code.isCaller,Code.frames,Code.isFrame,guardIds]
theorem HF{A:Around}{C:Addr}{a:List Value}{b:List (Str×Value)}:(A.under (.builtin "type.__call__" ⟨.ref C::a,b⟩)).units=A.units+1:=by first | rfl | simp[Around.under,Code.cUnits,Code.frames,Code.isFrame]
theorem bz.make{k:Nat}{A:Around}(r:bz (k+1) A)(C:Addr)(a:List Value)(b:List (Str×Value)):bz k (A.under (.builtin "type.__call__" ⟨.ref C::a,b⟩)):=
 ⟨r.hd,by have:=r.dp;rw[HE];omega,by have:=r.un;rw[HF];omega⟩
theorem bz.depth{k:Nat}{A:Around}(r:bz k A):A.depth<recursionLimit:=by have:=r.dp;omega
theorem bz.units{k:Nat}{A:Around}(r:bz k A):A.units+64<cLine:=by have:=r.un;omega
noncomputable def zJ:TA:=fun _ H Q=>Q [] H
noncomputable def zK(a:TE)(b:TA):TA:=fun Y H Q=>a Y H fun x c=>b Y c fun d e=>Q (x::d) e
section
variable{X:Cx}{e:Expr}{es:List Expr}{te:TE}{t:TA}{pos:Pos}
theorem ed:PA X [] zJ:=fun _ _ _ _ H Q I h=>Calls.spliced_nil ⟨[],H,I,.nil,h⟩
theorem df(b:PE X e te)(c:PA X es t)(d:starEach (e::es) X.env=(false,eval e X.env)::starEach es X.env:=by rfl):PA X (e::es) (zK te t):=by intro pos a s Y H Q I h;rw[d];show wpAny _ _ (spliced ((false,eval e X.env)::backTo pos (starEach es X.env))) _ _ s;refine Calls.spliced_cons (aU (b a s Y H _ I h) fun u f ⟨x,g,I1,i,j⟩=>?_);exact aU (c pos a f Y g _ I1 j) fun p q ⟨k,l,m,n,o⟩=>⟨x::k,l,m,.cons i n,o⟩
noncomputable def HG(t:TA):TE:=fun Y H Q=>t Y H fun a b=>a.length<=sizeLine/\∀p,b p=none->Q (.ref p) (aQ b p (.tup a))
noncomputable def HH(t:TA):TE:=fun Y H Q=>t Y H fun a b=>a.length<=sizeLine/\∀p,b p=none->Q (.ref p) (aQ b p (.lst a))
theorem qH{f}(h:PA X es t):PE X (.Tuple es f pos) (HG t):=by intro a s Y H Q I g;refine wpAny_Tuple_spliced (aU (h pos a s Y H _ I g) fun i c ⟨j,d,I1,r,z,q⟩=>⟨by rw[<-r.length];exact z,?_⟩);have k:d c.heap.objs.size=none:=I1.hok.fresh (bI _);refine⟨.ref c.heap.objs.size,aQ d c.heap.objs.size (.tup j),I1.laid (t':=c.toks) (fun b u e=>bn _ e) (bI _) ?_,rfl,q _ k⟩;exact⟨z,i,r,⟨_,Heap.get?_push_size _ rfl,rfl,_,rfl⟩⟩
theorem qJ(h:PA X es t):PE X (.List es pos) (HH t):=by intro a s Y H Q I f;refine wpAny_List_spliced (aU (h pos a s Y H _ I f) fun g c ⟨i,d,I1,r,z,q⟩=>⟨by rw[<-r.length];exact z,?_⟩);have j:d c.heap.objs.size=none:=I1.hok.fresh (bI _);refine⟨.ref c.heap.objs.size,aQ d c.heap.objs.size (.lst i),I1.laid (t':=c.toks) (fun b u e=>bn _ e) (bI _) ?_,rfl,q _ j⟩;exact⟨z,g,0,r,Heap.get?_push_size _ rfl⟩
end
abbrev Sp:=List V->Hp->VK->XK->Prop
abbrev fP:=List Env->Hp->Shared->XK->Value->Shared->Prop
structure ee (P:Program) (w:World) (K:Frag) (mg:Str->Option Value) (base:Heap) (A:Around) (outer:List Env) (s:Shared) (H:Hp):Prop where
 frames:A.frames=some outer
 mod:Mod K mg base
 bs:∀b o,base.get? b=some o->s.heap.get? b=some o/\H b=none
 bsz:base.objs.size<=s.heap.objs.size
 funs:s.heap.FunFrames base outer
 frf:∀b∈bV outer,H b=none
 hok:bC P w H s.heap
 bare:AllBare s.gens
def CE(a:List Env)(P:Program)(w:World)(H:Hp)(s:Shared)(Q:VK)(u:Value)(b:Shared):Prop:=
 ∃v c,b.os=s.os/\AllBare b.gens/\Un (bV a) [] H c s.heap b.heap/\bC P w c b.heap/\bp v u/\Q v c
def CR(c:fP)(a:List Env)(P:Program)(w:World)(H:Hp)(s:Shared)(Q:VK)(E:XK)(r:Result)(b:Shared):Prop:=
 match r with
 | .ok (.ret u)=>CE a P w H s Q u b
 | .ok _=>False
 | .error e=>c a H s E e b
structure az (P:Program) (w:World) (K:Frag) (mg:Str->Option Value) (base:Heap) (CX:fP) (k:Nat) (f:Addr) (fd:FuncData) (ps:List Str) (sp:Sp):Prop where
 len:∀vs H Q E,sp vs H Q E->vs.length=ps.length
 run:∀(A:Around) (outer:List Env) (s:Shared) (H:Hp) (args:Args) (us:List Value) (vs:List V) (Q:VK) (E:XK),bz k A->ee P w K mg base A outer s H->BindsTo s fd args (ps.zip us)->bq vs us->sp vs H Q E->
  codeAny (model P w) A (.call (.ref f) args) (CR CX outer P w H s Q E) s
theorem az.imp{P:Program}{w:World}{K:Frag}{i:Str->Option Value}{base:Heap}{d:fP}{k:Nat}{f:Addr}{fd:FuncData}{e:List Str}{g c:Sp}(F:az P w K i base d k f fd e g)
  (h:∀b H Q E,c b H Q E->g b H Q E):az P w K i base d k f fd e c:=
 ⟨fun b H Q E q=>F.len b H Q E (h _ _ _ _ q),fun A a s H args j b Q E l m p n o=>F.run A a s H args j b Q E l m p n (h _ _ _ _ o)⟩
theorem ee.make{P:Program}{w:World}{K:Frag}{b:Str->Option Value}{base:Heap}{A:Around}{a:List Env}{s:Shared}{H:Hp}(e:ee P w K b base A a s H)(C:Addr)(c:List Value)(d:List (Str×Value)) :
  ee P w K b base (A.under (.builtin "type.__call__" ⟨.ref C::c,d⟩)) a s H:=⟨by first | exact e.frames | (simpa[Around.under,Code.envs,Code.isFrame,pushEnvs] using e.frames),e.mod,e.bs,e.bsz,e.funs,e.frf,e.hok,e.bare⟩
section
variable{X:Cx}{pins:List (Addr×Obj)}{Y:St}{H:Hp}{s s':Shared}
theorem Inv.env0(I:Inv X pins Y H s):ee X.prog X.w X.K X.mg X.base X.A X.stack s H:=
 ⟨I.ok.frames,I.ok.mod,I.bs,Nat.le_trans I.ok.bsz I.sz,I.stack,I.stkFree,I.hok,I.bare⟩
theorem Inv.after{Q:VK}{u:Value}(I:Inv X pins Y H s)(h:CE X.stack X.prog X.w H s Q u s'):EP X pins Y Q u s':=by obtain⟨v,c,os,bare,un,hok,r,q⟩:=h;obtain⟨e,g,d,t,a⟩:=s';obtain rfl:a = s.os:=os;exact⟨v,c,I.call (h':=e) (g':=g) (d':=d) (t':=t) (ch:=[]) un hok bare (fun b z=>absurd z (by simp)),r,q⟩
end
def ic(K:Frag)(fd:FuncData)(b:List Str)(c:List Value):Prop:=
 ∀(s:Shared) (a:List Value),K.In s.heap->(a++c).length=b.length->BindsTo s fd ⟨a,[]⟩ (b.zip (a++c))
theorem ic.all{K:Frag}{fd:FuncData}{b:List Str}(h:∀a:List Value,a.length=b.length->bindArgs fd ⟨a,[]⟩=pure (b.zip a)):ic K fd b []:=fun s a _ c=>by rw[List.append_nil] at c ⊢;exact .of_eq (h a c)
section
variable{X:Cx}{CX:fP}{k:Nat}{f C:Addr}{fd:FuncData}{ps:List Str}{sp:Sp}{dvs:List V}{ds:List Value}{E:XK}{x m:Str}{p pos apos:Pos}{e o:Expr}{es:List Expr}{ta:TE}{t:TA}
structure Mk (K:Frag) (C f:Addr):Prop where
 makes:PySem.W.makesIn K C=true
 init:findIn K (.ref C) "__init__" = some (some (.ref f))
 fn:PySem.W.isFn K (.ref f)=true
 kp:keepIn K (.ref C)=true
end
def PK(X:Cx)(b:List Keyword)(t:TA):Prop:=
 ∀(pos:Pos) (a:List (Addr×Obj)) (s:Shared) (Y:St) (H:Hp) (Q:List V->Hp->Prop),Inv X a Y H s->t Y H Q->wpAny (model X.prog X.w) X.A (evalAll ((backToKw pos (keywordEach b X.env)).map (·.2))) (AP X a Y Q) X.xe s
section
variable{X:Cx}{CX:fP}{k:Nat}{f C:Addr}{fd:FuncData}{ps ks:List Str}{sp:Sp}{E:XK}{x m:Str}{p pos apos kpos:Pos}{e o:Expr}{es:List Expr}{kws:List Keyword}{te ta:TE}{t tk:TA}{nm:Option Str}
theorem HI:PK X [] zJ:=fun _ _ _ _ H Q I h=>wpAny_evalAll_nil ⟨[],H,I,.nil,h⟩
theorem HJ(b:PE X e te)(c:PK X kws t):PK X (⟨nm,e,kpos⟩::kws) (zK te t):=by intro pos a s Y H Q I h;show wpAny _ _ (evalAll ((do let v <-eval e X.env;standAt pos;pure v)::(backToKw pos (keywordEach kws X.env)).map (·.2))) _ _ s;refine wpAny_evalAll_cons (ak (aU (b a s Y H _ I h) fun u d ⟨x,g,I1,i,j⟩=>ak (wpAny_standAt (bc ?_))));exact aU (c pos a d Y g _ I1 j) fun y z ⟨l,n,q,r,w⟩=>⟨x::l,n,q,.cons i r,w⟩
end
structure aa (N P:List Str) (sc:Scope):Prop where
 kind:sc.kind=.function
 co:sc.isCoroutine=false
 gen:sc.isGenerator=false
 nd:N.Nodup
 pre:N.take P.length=P
 par:∀x∈P,sc.names.lookup x=some .local\/sc.names.lookup x=some .cell
 nofree:∀y∈sc.names,y.2≠.free
theorem zL{kindOf:Str->Option NameKind}{x:Str}:∀{binds:List (Str×Value)}{m:Str->Option Value},(∀v,(x,v)∉binds)->bindL kindOf binds m x=m x
 | [],_,_=>rfl
 | (n,v)::r,m,h=>by
  unfold bindL;rw[zL fun w a=>h w (bL _ a)];split
  ·have:x≠n:=by rintro rfl;exact h v List.mem_cons_self
   simp[this]
  ·rfl
theorem zM{kindOf:Str->Option NameKind}{x:Str}:∀{binds:List (Str×Value)}{m:Str->Option Value},(∀v,(x,v)∉binds)->bindC kindOf binds m x=m x
 | [],_,_=>rfl
 | (n,v)::r,m,h=>by
  unfold bindC;rw[zM fun w a=>h w (bL _ a)];split
  ·rfl
  ·have:x≠n:=by rintro rfl;exact h v List.mem_cons_self
   simp[this]
theorem zN{kindOf:Str->Option NameKind}{x:Str}{v:Value}:∀{P:List Str}{a:List Value}{i:Nat}{m:Str->Option Value},P.Nodup->P[i]? = some x->a[i]? = some v->kindOf x=some .local->
  bindL kindOf (P.zip a) m x=some v
 | [],_,_,_,_,h,_,_=>by simp at h
 | _::_,[],_,_,_,_,h,_=>by simp at h
 | p::P,w::a,0,m,nd,h1,h2,b=>by simp at h1 h2;subst h1;subst h2;show bindL kindOf ((p,w)::P.zip a) m p=_;unfold bindL;rw[zL fun v c=>(List.nodup_cons.mp nd).1 (List.of_mem_zip c).1,if_pos b];simp
 | p::P,w::a,i+1,m,nd,h1,h2,b=>by show bindL kindOf ((p,w)::P.zip a) m x=_;unfold bindL;exact zN (i:=i) (List.nodup_cons.mp nd).2 (by simpa using h1) (by simpa using h2) b
theorem zO{kindOf:Str->Option NameKind}{x:Str}{v:Value}:∀{P:List Str}{a:List Value}{i:Nat}{m:Str->Option Value},P.Nodup->P[i]? = some x->a[i]? = some v->kindOf x≠some .local->
  bindC kindOf (P.zip a) m x=some v
 | [],_,_,_,_,h,_,_=>by simp at h
 | _::_,[],_,_,_,_,h,_=>by simp at h
 | p::P,w::a,0,m,nd,h1,h2,b=>by simp at h1 h2;subst h1;subst h2;show bindC kindOf ((p,w)::P.zip a) m p=_;unfold bindC;rw[zM fun v c=>(List.nodup_cons.mp nd).1 (List.of_mem_zip c).1,if_neg b];simp
 | p::P,w::a,i+1,m,nd,h1,h2,b=>by show bindC kindOf ((p,w)::P.zip a) m x=_;unfold bindC;exact zO (i:=i) (List.nodup_cons.mp nd).2 (by simpa using h1) (by simpa using h2) b
noncomputable def start(N:List Str)(a:List V):St:=a.map some++List.replicate (N.length - a.length) none
noncomputable def jE(CX:fP)(P:Program)(w:World)(K:Frag)(mg:Str->Option Value)(base:Heap)(N:List Str)(qual:Str)(scope:Scope)(f:Addr)(cd:Value)(A:Around)(outer:List Env)(s:Shared)(H:Hp)(E:XK):Cx where
 prog:=P
 w:=w
 K:=K
 mg:=mg
 base:=base
 A:=A.deeper (envOfC qual scope s.heap.objs.size f cd)
 N:=N
 s₀:=s
 H₀:=H
 env:=envOfC qual scope s.heap.objs.size f cd
 outer:=outer
 stack:=envOfC qual scope s.heap.objs.size f cd::outer
 ex:=[]
 calm:=true
 fn:=fun _=>true
 pn:=[]
 xe:=fun e s'=>wpAny (model P w) (A.deeper (envOfC qual scope s.heap.objs.size f cd)) (leaving (envOfC qual scope s.heap.objs.size f cd) e) (fun _ s''=>CX outer H s E e s'') (fun e' s''=>CX outer H s E e' s'') s'
theorem zP{a:Scope}{n:Nat}{x:Str}(h:a.names.lookup x=some .cell):∃c,(cellsFrom n a.names []).lookup x=some c:=by have q:=PySem.W.cellsFrom_some a.names n [] (.inl h);exact Option.isSome_iff_exists.mp q
theorem zQ{CX:fP}{P:Program}{w:World}{K:Frag}{L:Str->Option Value}{base:Heap}{N m:List Str}{qual:Str}{d:Scope}{f:Addr}{cd:Value}{A:Around}{g:List Env}{s M:Shared}{H:Hp}{E:XK}{J:List Value}{o:List V}
  (S:aa N m d) (hd:A.handled=none) (l:ee P w K L base A g s H) (X:o.length=m.length) (r:bq o J)
  (x:InCallC s s.heap.objs.size (bindL (envOfC qual d s.heap.objs.size f cd).kindOf (m.zip J) fun _=>none) (cellsFrom (s.heap.objs.size+1) d.names []) (bindC (envOfC qual d s.heap.objs.size f cd).kindOf (m.zip J) fun _=>none) M) :
  Inv (jE CX P w K L base N qual d f cd A g s H E) [] (start N o) H M:=by
 have R:m.length<=N.length:=by have:=congrArg List.length S.pre;rw[List.length_take] at this;omega
 obtain⟨I,Y,rfl,O⟩:=x.done;have t:∀b:Addr,b∉(jE CX P w K L base N qual d f cd A g s H E).ex:=fun b z=>absurd (show b∈([]:List Addr) from z) (by simp);refine⟨⟨l.mod,S.kind,rfl,rfl,bI _,fun y z c I j=>?_,fun y B=>?_,fun y c _ h=>?_,fun _=>hd,Around.frames_deeper l.frames,.inr ⟨rfl,rfl⟩,fun b z=>absurd z (t b),l.bs,l.bsz,fun b _ _=>t b,fun b z=>absurd z (t b),l.funs,l.frf⟩,
  rfl,l.bare,Un.kept O,⟨_,x.toInCall.ns,fun i y v I j Z=>?_⟩,fun y c h=>⟨_,x.cell y c h⟩,l.hok.fresh (bI _),fun y c h=>?_,fun p C=>absurd (show p∈([]:List (Addr×Obj)) from C) (by simp),l.hok.kept O,?_⟩
 ·exact name_of_addr x.apart (PySem.mem_of_lookup I) (PySem.mem_of_lookup j)
 ·have B:d.names.lookup y=some .cell\/d.names.lookup y=some .free:=B;rcases B with B | B
  ·exact zP B
  ·exact absurd rfl (S.nofree _ (PySem.mem_of_lookup B))
 ·exact Nat.le_of_lt (x.above y c (PySem.mem_of_lookup h))
 ·have G:i<o.length:=by
   unfold start at j
   by_cases G:i<o.length
   ·exact G
   ·rw[List.getElem?_append_right (by simpa using G)] at j;rw[List.getElem?_replicate] at j;split at j<;>cases j
  have T:o[i]? = some v:=by
   unfold start at j;rw[List.getElem?_append_left (by simpa using G),List.getElem?_map] at j;cases e:o[i]? with
   | none=>rw[e] at j;cases j
   | some a=>rw[e] at j;cases j;rfl
  obtain⟨u,Q,U⟩:=r.get T;have C:m[i]? = some y:=by rw[<-S.pre,List.getElem?_take_of_lt (by omega)];exact I
  have D:m.Nodup:=by rw[<-S.pre];exact S.nd.sublist (List.take_sublist _ _)
  refine⟨u,U,?_⟩;rcases S.par y (List.mem_of_getElem? C) with k | k
  ·exact .inl ⟨k,zN D C Q k⟩
  ·obtain⟨c,e⟩:=zP (n:=s.heap.objs.size+1) k;refine .inr ⟨.inl k,c,e,?_⟩;have q:=x.cell y c e;rw[zO D C Q (by show d.names.lookup y≠_;rw[k];decide)] at q;exact q
 ·exact l.hok.fresh (Nat.le_of_lt (x.above y c (PySem.mem_of_lookup h)))
 ·unfold start;show _=N.length;rw[List.length_append,List.length_map,List.length_replicate];omega
theorem HK{D:fP}{P:Program}{w:World}{K:Frag}{M:Str->Option Value}{base:Heap}{k:Nat}{f:Addr}{name d:Str}{h:Arguments}{body:List Stmt}{a:Scope}{dV kV z pm g ct oc:Value}{an od:Option Addr}
  {O:Array (Option Value)}{N G:List Str}{R:Sp}(lk:K.lookup f=some ⟨oc,od,.func (fnOf name d h body a dV kV z pm an g ct),O⟩) (T:codeIn K g d=true) (S:aa N G a)
  (len:∀i H Q E,R i H Q E->i.length=G.length)
  (l:∀(A:Around) (c:List Env) (s:Shared) (H:Hp) (i:List V) (Q:VK) (E:XK),bz k (A.deeper (envOfC d a s.heap.objs.size f g))->R i H Q E->
   ∃t,PSs (jE D P w K M base N d a f g A c s H E) body t/\t { nx:=fun _ j=>Q .non j,rt:=Q } (start N i) H) :
  az P w K M base D (k+1) f (fnOf name d h body a dV kV z pm an g ct) G R:=by
 refine⟨len,fun A c s H args us i Q E U B hb r C=>?_⟩;have hl:=len _ _ _ _ C;have KX:K.In s.heap:=B.mod.kin.keeps fun b o e=>(B.bs b o e).1;have X:s.heap.NoLimit:=B.mod.nolimit.keeps fun b o e=>(B.bs b o e).1;have m:∀y∈G.zip us,a.names.lookup y.1=some .local\/(a.names.lookup y.1=some .cell/\((cellsFrom (s.heap.objs.size+1) a.names []).lookup y.1).isSome=true):=fun⟨n,v⟩ hy=>by
  rcases S.par n (List.of_mem_zip hy).1 with q | q
  ·exact .inl q
  ·exact .inr ⟨q,PySem.W.cellsFrom_some _ _ _ (.inl q)⟩
 refine codeAny_call_function U.depth (KX _ _ lk) rfl S.co S.gen rfl (PySem.W.codeRec_of KX T) (hb _ _ _ _ ?_);refine wpAny_newFunctionEnv_cells S.kind m fun a0 he s1 x=>?_;subst he;refine⟨X.keeps x.toInCall.keep,codeAny_func ?_⟩;obtain⟨t,ht,hq⟩:=l A c s H i Q E (U.deeper _) C;have I:Inv (jE D P w K M base N d a f g A c s H E) [] (start N i) H s1:=zQ S U.hd B hl r x;refine wpAny_mono (ht [] s1 (start N i) H _ I hq) (fun fl Y p=>?_) fun e Y p=>p;have fin:∀{L:St}{j:Hp}{v:V}{u:Value},Inv (jE D P w K M base N d a f g A c s H E) [] L j Y->bp v u->Q v j->CE c P w H s Q u Y:=
  fun {L j v u} J Z q=>⟨v,j,J.os,J.bare,J.base,J.hok,Z,q⟩
 cases fl with
 | ret u=>obtain⟨v,L,j,J,Z,q⟩:=p;exact fin J Z q
 | next=>obtain⟨L,j,J,q⟩:=p;exact fin (v:=V.non) (u:=Value.none) J rfl q
 | brk=>obtain⟨_,_,_,q⟩:=p;exact False.elim q
 | cont=>obtain⟨_,_,_,q⟩:=p;exact False.elim q
section
variable{X:Cx}{x:Str}{p pos:Pos}{e:Expr}{es:List Expr}{t:TA}{id T:String}{r:List V->Hp->VK->Prop}
noncomputable def vr(r:List V->Hp->VK->Prop)(t:TA):TE:=fun Y H Q=>t Y H fun a b=>r a b Q
theorem mH(d:ia X (.builtin id) r)(f:Gl X x)(g:X.mg x=none)(i:bootBuiltins x=some (.builtin id))(j:PA X (e::es) t)(k:x≠"__name__":=by decide)(b:(x==("__debug__":Str))=false:=by decide)
  (l:starEach (e::es) X.env=(false,eval e X.env)::starEach es X.env:=by rfl) (c:(backTo pos (starEach es X.env)).any (·.1)=false:=by rfl):PE X (.Call (.Name x p) (e::es) [] pos) (vr r t):=by
 intro a s Y H Q I h;refine wpAny_Call_Name_kw (jC I f g i ?_ k b);exact PyProof.Rows.callWith_builtin1 (aU (j pos a s Y H _ I h) fun m n ⟨o,q,I1,u,v⟩=>d a n Y q o m Q I1 u v) l c
theorem vt(d:ia X (.type T) r)(f:Gl X x)(g:X.mg x=none)(i:bootBuiltins x=some (.type T))(j:PA X (e::es) t)(k:x≠"__name__":=by decide)(b:(x==("__debug__":Str))=false:=by decide)
  (l:starEach (e::es) X.env=(false,eval e X.env)::starEach es X.env:=by rfl) (c:(backTo pos (starEach es X.env)).any (·.1)=false:=by rfl):PE X (.Call (.Name x p) (e::es) [] pos) (vr r t):=by
 intro a s Y H Q I h;refine wpAny_Call_Name_kw (jC I f g i ?_ k b);exact PyProof.Rows.callWith_type1 (aU (j pos a s Y H _ I h) fun m n ⟨o,q,I1,u,v⟩=>d a n Y q o m Q I1 u v) l c
end
end L2
namespace HT
open PySem PyProof.Rows
noncomputable def lexLt:List Int->List Int->Bool
 | [],[]=>false
 | [],_::_=>true
 | _::_,[]=>false
 | x::a,y::b=>if x=y then lexLt a b else decide (x<y)
theorem HL(x y:Int)(a b:List Int):lexLt (x::a) (y::b)=if x=y then lexLt a b else decide (x<y):=rfl
theorem HM:lexLt [] []=false:=rfl
theorem HN(y:Int)(a:List Int):lexLt [] (y::a)=true:=rfl
theorem HP(x:Int)(a:List Int):lexLt (x::a) []=false:=rfl
theorem HQ(A:Around)(s:Shared)(a:Int)(t:Tok)(c:Int)(u:Tok):∃e,SeqAt.EqAt A s (.int a t) (.int c u) e/\(e=true↔a=c):=
 ⟨(a==c),SeqAt.EqAt.int_int a t c u,by simp⟩
theorem HR(A:Around)(s:Shared)(a:Int)(t:Tok)(c:Int)(u:Tok)(b:Program)(w:World)(E:Value->Shared->Prop)(Q:Value->Shared->Prop)(h:Q (.bool (decide (a<c))) s) :
  wpAny (model b w) A (richCompare .Lt (.int a t) (.int c u)) Q E s:=
 (PyProof.Rows.lt_int h:wpAny (model b w) A (compareOp .Lt (.int a t) (.int c u)) Q E s)
section
open PySem.SeqAt
open PySem.AutoSeq1 (wpAny_loadPart')
open PySem.MeetsSeq PySem.MeetsSeq2 PySem.MeetsSeq3
theorem HS(l b:Addr)(items f:Array Value)(n Y:Nat)(dd M:Option Addr)(sl N:Array (Option Value))(L E:List Int)(T:IntsAre items.toList L)(U:IntsAre f.toList E) :
  Meets (Builtin.«tuple.__lt__» ⟨[.ref l,.ref b],[]⟩)
   (fun _ R s=>s.heap.get? l=some { cls:=.type "tuple",dict:=dd,data:=.seq items n,slots:=sl }/\s.heap.get? b=some { cls:=.type "tuple",dict:=M,data:=.seq f Y,slots:=N }/\
    R (.ok (.ret (.bool (lexLt L E)))) s):=
 .of_wp fun v w A R s h=>by
  obtain⟨G,g,d,H,os⟩:=s;obtain⟨Z,hb,h⟩:=h;have f2:=AutoSeq1.sub_tuple_tuple;have z1:items.size=L.length:=by rw[<-T.length];simp
  have z2:f.size=E.length:=by rw[<-U.length];simp
  wp_walk using wpAny_loadPart' Z,wpAny_loadPart' hb,wpAny_forIn_list _ (fun rest b O=>b.1=none/\O = ⟨G,g,d,H,os⟩/\∃(I J:List Value) (j k:List Int),rest=I.zip J/\
   IntsAre I j/\IntsAre J k/\j.length+f.size=k.length+items.size/\R (.ok (.ret (.bool (lexLt j k)))) ⟨G,g,d,H,os⟩) _
  case turn=>
   rintro⟨y,x⟩ rest b O ⟨hb',rfl,I,J,j,k,m,z,o,i,p⟩;cases z with
   | nil=>rw[List.zip_nil_left] at m;cases m
   | cons a t C=>
    cases o with
    | nil=>rw[List.zip_nil_right] at m;cases m
    | cons c u D=>
     rw[List.zip_cons_cons] at m;injection m with Q B
     injection Q with hy hx
     subst hy hx;rw[HL] at p;simp only[List.length_cons] at i;obtain⟨e,he,r⟩:=HQ A.in1 ⟨G,g,d,H,os⟩ a t c u;refine ak (he v w _ _ ?_);cases e with
     | true=>
      rw[if_pos (r.mp rfl)] at p
      wp_walk
      exact⟨rfl,rfl,_,_,_,_,B,C,D,by omega,p⟩
     | false=>
      rw[if_neg (fun q=>absurd (r.mpr q) Bool.false_ne_true)] at p;have S:=HR A.in1 ⟨G,g,d,H,os⟩ a t c u v w
      wp_walk using S
      exact⟨_,rfl,by simpa using p⟩
  case fin=>
   rintro⟨b1,b2⟩ O ⟨hb',rfl,I,J,j,k,m,z,o,i,p⟩;simp only at hb';subst hb';have X:lexLt j k = decide (items.size<f.size):=by
    cases z with
    | nil=>
     cases o with
     | nil=>simp only[List.length_nil] at i;rw[HM];exact(decide_eq_false (by omega)).symm
     | cons c u hw=>simp only[List.length_nil,List.length_cons] at i;rw[HN];exact(decide_eq_true (by omega)).symm
    | cons a t X=>
     cases o with
     | nil=>simp only[List.length_nil,List.length_cons] at i;rw[HP];exact(decide_eq_false (by omega)).symm
     | cons c u hw=>rw[List.zip_cons_cons] at m;cases m
   rw[X] at p
   wp_walk
   exact⟨_,rfl,by simpa[Builtin.Tuple.tupleCompareSizes] using p⟩
  case h=>exact⟨rfl,rfl,items.toList,f.toList,L,E,rfl,T,U,by omega,h⟩
end
section
variable{prog:Program}{w:World}{A:Around}{E:Value->Shared->Prop}{s:Shared}
theorem lt_tupInts{l b:Addr}{items a:Array Value}{g c:List Int}{Q:Value->Shared->Prop}(o:IsTup s.heap l items)(u:IsTup s.heap b a)(p:IntsAre items.toList g)(q:IntsAre a.toList c)
  (r:A.units<cLine) (h:Q (.bool (lexLt g c)) s):wpAny (model prog w) A (compareOp .Lt (.ref l) (.ref b)) Q E s:=by
 obtain⟨⟨cls,dd,data,sl⟩,ho,k,n,hd⟩:=id o;obtain⟨⟨m,i,data2,j⟩,d,e,t,f⟩:=id u;simp only at k hd e f;subst k hd e f;exact richCompare_meets_room (op:=.Lt) ⟨_,ho,rfl⟩ ⟨_,d,rfl⟩ PySem.F.slot_tuple_lt PySem.F.entry_tuple_lt (PySem.F.args_tuple_lt_2 _ _) (HS l b items a n t dd i sl j g c p q)
  ⟨ho,d,show Value.bool (lexLt g c)≠Value.notImplemented/\Q (.bool (lexLt g c)) s from⟨(fun x=>nomatch x),h⟩⟩ r
noncomputable def sIx(n d:Nat):Option Int->Nat
 | none=>d
 | some v=>if v<0 then(v+(n:Int)).toNat else min v.toNat n
theorem sIx_none(n d:Nat):sIx n d none=d:=rfl
theorem sIx_nat(n d k:Nat):sIx n d (some (k:Int))=min k n:=by show(if (k:Int)<0 then((k:Int)+(n:Int)).toNat else min (k:Int).toNat n)=min k n;rw[if_neg (by omega),Int.toNat_natCast]
end
end HT
namespace L2
open PySem PySem.Spec PyProof.Rows
abbrev TO:=St->Hp->(Option Int->Hp->Prop)->Prop
def PO(X:Cx)(e:Option Expr)(t:TO):Prop:=
 ∀(a:List (Addr×Obj)) (s:Shared) (Y:St) (H:Hp) (Q:Option Int->Hp->Prop),Inv X a Y H s->t Y H Q->
  wpAny (model X.prog X.w) X.A (evalPart e X.env) (fun u c=>∃o b,Inv X a Y b c/\IsPart u o/\Q o b) X.xe s
noncomputable def HU:TO:=fun _ H Q=>Q none H
noncomputable def HV(t:TE):TO:=fun Y H Q=>t Y H fun x a=>∃i,x=.int i/\Q (some i) a
section
variable{X:Cx}{e:Expr}{te:TE}{lo hi:Option Expr}{tl th:TO}{pos p2:Pos}
theorem HW:PO X none HU:=by intro a s Y H Q I h;rw[evalPart_none];exact bc ⟨none,H,I,.none,h⟩
theorem HX(h:PE X e te):PO X (some e) (HV te):=by intro a s Y H Q I b;rw[evalPart_some];refine aU (h a s Y H _ I b) fun u g ⟨x,c,I1,d,f⟩=>?_;obtain⟨i,rfl,q⟩:=f;obtain⟨t,rfl⟩:=d;exact⟨some i,c,I1,.int i t,q⟩
def zR(X:Cx)(r:V->Option Int->Option Int->Hp->VK->Prop):Prop:=
 ∀(a:List (Addr×Obj)) (s:Shared) (Y:St) (H:Hp) (x:V) (v b c:Value) (lo hi:Option Int) (d:Addr) (Q:VK),Inv X a Y H s->bp x v->s.heap.IsSliceOf d b c .none->IsPart b lo->IsPart c hi->r x lo hi H Q->
  ∃T id,typeLookup (.type T) "__getitem__" = pure (some (.builtin id))/\s.TypeIs v T/\wpAny (model X.prog X.w) X.A (getItem v (.ref d)) (EP X a Y Q) X.xe s
noncomputable def HY(r:V->Option Int->Option Int->Hp->VK->Prop)(te:TE)(tl th:TO):TE:=fun Y H Q=>te Y H fun x a=>tl Y a fun l b=>th Y b fun u c=>r x l u c Q
theorem HZ{r:V->Option Int->Option Int->Hp->VK->Prop}(i:zR X r)(j:PE X e te)(k:PO X lo tl)(m:PO X hi th):PE X (.Subscript e (.Slice lo hi none p2) pos) (HY r te tl th):=by intro a s Y H Q I h;refine Subscript_ (aU (j a s Y H _ I h) fun v n ⟨x,o,I1,p,t⟩=>?_);refine wpAny_Slice (aU (k a n Y o _ I1 t) fun d y ⟨l,z,B,pl,C⟩=>aU (m a y Y z _ B C) fun f c ⟨u,g,D,E,G⟩=>?_);rw[evalPart_none];refine bc ?_;have J:Inv X a Y g { c with heap:=c.heap.push { cls:=.type "slice",data:=.fields #[d,f,.none] } }:=D.kept (t':=c.toks) fun b O q=>bn _ q;obtain⟨T,id,L,M,N⟩:=i a { c with heap:=c.heap.push { cls:=.type "slice",data:=.fields #[d,f,.none] } } Y g x v d f l u c.heap.objs.size Q J p (Heap.IsSliceOf.new ..) pl E G;show wpAny (model X.prog X.w) X.A (subscriptTail e (.Slice lo hi none p2) v (.ref c.heap.objs.size)) (EP X a Y Q) X.xe { c with heap:=c.heap.push { cls:=.type "slice",data:=.fields #[d,f,.none] } };exact tail_any (ops:=[.ref c.heap.objs.size,v]) M L N (by with_unfolding_all rfl)
noncomputable def mI(a:List V)(lo hi:Option Int):List V:=(a.drop (HT.sIx a.length 0 lo)).take (HT.sIx a.length a.length hi - HT.sIx a.length 0 lo)
theorem Ia(a:List V)(lo hi:Option Int):(mI a lo hi).length<=a.length:=by unfold mI;rw[List.length_take,List.length_drop];omega
end
noncomputable def dG(n:Nat)(i:Int):Option Nat:=if 0<=i then(if i<n then some i.toNat else none) else if -(n:Int)<=i then some (i+n).toNat else none
noncomputable def bT{α:Type}(a:List α)(i:Int):Option α:=(dG a.length i).bind fun j=>a[j]?
theorem zS{n:Nat}{i:Int}{j:Nat}(h:dG n i=some j):seqIndex? i n=some j/\j<n/\-(n:Int)<=i/\i<n:=by
 unfold dG at h
 by_cases a:0<=i
 ·rw[if_pos a] at h
  by_cases h1:i<n
  ·rw[if_pos h1] at h;have e:i.toNat=j:=Option.some.inj h;exact⟨by rw[seqIndex_of a h1,e],by omega,by omega,h1⟩
  ·rw[if_neg h1] at h;cases h
 ·rw[if_neg a] at h
  by_cases h1:-(n:Int)<=i
  ·rw[if_pos h1] at h;have e:(i+n).toNat=j:=Option.some.inj h;exact⟨by rw[seqIndex_neg (by omega) h1,e],by omega,h1,by omega⟩
  ·rw[if_neg h1] at h;cases h
theorem zT{α:Type}{a:List α}{i:Int}{v:α}(h:bT a i=some v):∃j,seqIndex? i a.length=some j/\a[j]? = some v/\j<a.length/\-(a.length:Int)<=i/\i<a.length:=by
 unfold bT at h;cases e:dG a.length i with
 | none=>rw[e] at h;cases h
 | some j=>rw[e] at h;obtain⟨c,h2,h3,b⟩:=zS e;exact⟨j,c,h,h2,h3,b⟩
def ot(b:Expr):Prop:=∀o i,subscripted b false o i=operate [o,i] (getItem o i)
def jF(X:Cx)(r:R2):Prop:=
 ∀(value slice:Expr) (a:List (Addr×Obj)) (s:Shared) (Y:St) (H:Hp) (x y:V) (v u:Value) (Q:VK),Inv X a Y H s->bp x v->bp y u->r x y H Q->
  subscripted slice false v u=operate [v,u] (getItem v u)->wpAny (model X.prog X.w) X.A (subscriptTail value slice v u) (EP X a Y Q) X.xe s
def qK(X:Cx)(id:String)(r:V->List V->Hp->VK->Prop):Prop:=
 ∀(a:List (Addr×Obj)) (s:Shared) (Y:St) (H:Hp) (x:V) (b:List V) (v:Value) (c:List Value) (Q:VK),Inv X a Y H s->bp x v->bq b c->r x b H Q->
  wpAny (model X.prog X.w) X.A (call (.builtin id) (v::c)) (EP X a Y Q) X.xe s
section
variable{X:Cx}{a b:Expr}{ta tb:TE}{pos:Pos}
theorem jF.or{r d:R2}(h:jF X r)(i:jF X d):jF X (fun x y H Q=>r x y H Q\/d x y H Q):=by
 intro value slice c s Y H x y v u Q I e f q g;rcases q with q | q
 ·exact h value slice c s Y H x y v u Q I e f q g
 ·exact i value slice c s Y H x y v u Q I e f q g
theorem vu{r:R2}(d:jF X r)(e:PE X a ta)(m:PE X b tb)(f:ot b):PE X (.Subscript a b pos) (on r ta tb):=by intro c s Y H Q I h;exact Subscript_ (vk e m I h fun v u g x y i j k l q=>d a b c g Y i x y v u Q j k l q (f _ _))
noncomputable def vv(K:Frag):R2:=fun x y H Q=>∃p c i v,x=.ref p/\y=.int i/\cU K H p c/\bT c i=some v/\Q v H
noncomputable def vA(K:Frag):R2:=fun x y H Q=>∃p c i v,x=.ref p/\y=.int i/\gf K H p c/\bT c i=some v/\Q v H
theorem vB:jF X (vv X.K):=by
 intro value slice c s Y H x y v u Q I m n h g;obtain⟨p,G,i,z,rfl,rfl,o,A,q⟩:=h;cases m;obtain⟨t,rfl⟩:=n;obtain⟨d,r,pl,J⟩:=I.list o;obtain⟨j,h1,h2,h3,B,C⟩:=zT A;obtain⟨w,k,e⟩:=r.get h2;have D:=r.length;have L:=eJ;have fin:EP X c Y Q w s:=⟨z,H,I,e,q⟩
 by_cases l:0<=i
 ·have f:i.toNat=j:=by rw[seqIndex_of l C] at h1;exact Option.some.inj h1
  exact item_listR pl.isList l (by omega) (by rw[f];simpa using k) fin g
 ·have f:(i+(d.toArray.size:Int)).toNat=j:=by rw[seqIndex_neg (by omega) B] at h1;rw[List.size_toArray,<-D];exact Option.some.inj h1
  exact subscriptTail_builtinR (x:=w) pl.isList.typeIs slot_list_getitem.lookup
   (wpAny_getItem_list_neg (Q:=fun r E=>r=w/\EP X c Y Q r E) pl.isList (by omega) (by rw[List.size_toArray]<;>omega) (by omega) (by rw[f];simpa using k) ⟨rfl,fin⟩) g
theorem Ib:jF X (vA X.K):=by
 intro value slice c s Y H x y v u Q I e f h g;obtain⟨p,B,i,z,rfl,rfl,k,l,q⟩:=h;cases e;obtain⟨t,rfl⟩:=f;obtain⟨m,r,pl,C⟩:=I.tuple k;obtain⟨j,h1,h2,h3,D,E⟩:=zT l;obtain⟨w,n,d⟩:=r.get h2;have o:=r.length;have G:=eJ;have fin:EP X c Y Q w s:=⟨z,H,I,d,q⟩
 exact subscriptTail_builtinR (x:=w) pl.typeIs slot_tuple_getitem.lookup
  (getItem_tuple (j:=j) (Q:=fun r A=>r=w/\EP X c Y Q r A) pl (by omega) (by omega) (by rw[List.size_toArray,<-o];exact h1) (by simpa using n) ⟨rfl,fin⟩) g
theorem Ie(c:List Value)(n j:Nat)(u:Value):Obj.mapSeq (·.setIfInBounds j u) { cls:=.type "list",data:=.seq c.toArray n } = { cls:=.type "list",data:=.seq (c.set j u).toArray n }:=by simp[Obj.mapSeq]
theorem Inv.lst{d:List (Addr×Obj)}{Y:St}{H:Hp}{s:Shared}{p:Addr}{f:List V}(I:Inv X d Y H s)(h:H p=some (.lst f)) :
  ∃(c:List Value) (n:Nat),bq f c/\s.heap.get? p=some { cls:=.type "list",data:=.seq c.toArray n }/\f.length<=sizeLine:=by
 obtain⟨z,c,n,r,e⟩:=I.hok p _ h;exact⟨c,n,r,e,z⟩
theorem Inv.lstUpd{d:List (Addr×Obj)}{Y:St}{H:Hp}{s:Shared}{p:Addr}{l i:List V}{g c:List Value}{n j:Nat}{f:Obj->Obj}(I:Inv X d Y H s)(h:H p=some (.lst l))
  (o:s.heap.get? p=some { cls:=.type "list",data:=.seq g.toArray n }) (k:f { cls:=.type "list",data:=.seq g.toArray n } = { cls:=.type "list",data:=.seq c.toArray j }) (r:bq i c) (m:i.length<=sizeLine) (t:Nat) :
  Inv X d Y (aQ H p (.lst i)) { s with heap:=s.heap.update p f,toks:=t }:=by
 have e:(s.heap.update p f).get? p=some { cls:=.type "list",data:=.seq c.toArray j }:=by rw[Heap.get?_update_self f o (by rw[k]<;>rfl),k]
 refine I.write (x:=p) (e:=p) (by rw[h];trivial) (.inl rfl) (fun b u v q=>(Heap.get?_update_other _ _ (Ne.symm v)).trans q) ⟨_,e⟩ ?_;exact⟨m,c,j,r,e⟩
noncomputable def Ig:V->V->V->Hp->(Hp->Prop)->Prop:=fun o i v H Q=>∃p c k j,o=.ref p/\i=.int k/\H p=some (.lst c)/\dG c.length k=some j/\Q (aQ H p (.lst (c.set j v)))
theorem Ih:zl X Ig:=by
 intro c s Y H o i v E G u Q I y z A h;obtain⟨p,B,k,j,rfl,rfl,l,C,q⟩:=h;cases y;obtain⟨t,rfl⟩:=z;obtain⟨d,n,r,ho,D⟩:=I.lst l;obtain⟨e,h2,h3,m⟩:=zS C;have f:=r.length;have J:=eJ;have w:Inv X c Y (aQ H p (.lst (B.set j v))) { s with heap:=s.heap.update p (Obj.mapSeq (·.setIfInBounds j u)) }:=
  I.lstUpd l ho (Ie d n j u) (r.set A j) (by rw[List.length_set];exact D) s.toks
 by_cases x:0<=k
 ·have g:k.toNat=j:=by rw[seqIndex_of x m] at e;exact Option.some.inj e
  exact PySem.W.ki_setAt ho x (by omega) (by rw[List.size_toArray,<-f];exact m) (by rw[g];exact⟨_,w,q⟩)
 ·have g:(k+(d.toArray.size:Int)).toNat=j:=by rw[seqIndex_neg (by omega) h3] at e;rw[List.size_toArray,<-f];exact Option.some.inj e
  exact PySem.W.ki_setBack ho (by omega) (by rw[List.size_toArray,<-f];exact h3) (by omega) (by rw[g];exact⟨_,w,q⟩)
theorem Ii(lo c:Option Int)(n:Nat):(sliceBounds lo c none n).1=((HT.sIx n 0 lo:Nat):Int)/\(sliceBounds lo c none n).2.1=((HT.sIx n n c:Nat):Int)/\(sliceBounds lo c none n).2.2=1:=by
 refine⟨?_,?_,rfl⟩
 ·cases lo with
  | none=>simp[sliceBounds,HT.sIx]
  | some i=>
   simp only[sliceBounds,HT.sIx,Option.getD_none,show(1:Int)>0 by decide,if_true]
   by_cases h:i<0
   ·simp only[h,if_true]<;>omega
   ·simp only[h,if_false]<;>omega
 ·cases c with
  | none=>simp[sliceBounds,HT.sIx]
  | some i=>
   simp only[sliceBounds,HT.sIx,Option.getD_none,show(1:Int)>0 by decide,if_true]
   by_cases h:i<0
   ·simp only[h,if_true]<;>omega
   ·simp only[h,if_false]<;>omega
theorem Ij(c:List Value)(lo d:Option Int):slicePick c.toArray lo d none=((c.drop (HT.sIx c.length 0 lo)).take (HT.sIx c.length c.length d - HT.sIx c.length 0 lo)).toArray:=by obtain⟨e,h2,h3⟩:=Ii lo d c.toArray.size;unfold slicePick;rw[e,h2,h3];simp only[sliceRange_one,pick_run,List.size_toArray]<;>rfl
noncomputable def Ik(K:Frag):V->Option Int->Option Int->Hp->VK->Prop:=fun x lo d H Q=>∃a c,x=.ref a/\cU K H a c/\∀p,H p=none->Q (.ref p) (aQ H p (.lst (mI c lo d)))
theorem Il:zR X (Ik X.K):=by intro f s Y H x v t u lo e w Q I i j p k h;obtain⟨a,c,rfl,l,q⟩:=h;cases i;obtain⟨m,r,g,n⟩:=I.list l;have d:=r.length;refine⟨"list",_,slot_list_getitem.lookup,g.isList.typeIs,?_⟩;refine wpAny_getItem_list_slice g.isList j p k .none (by simp) ?_ (by rw[List.size_toArray]<;>omega);rw[Ij,<-d];refine⟨.ref s.heap.objs.size,_,I.laid (t':=s.toks) (o:=.lst (mI c lo e)) (fun b y q=>bn _ q) (bI _) ?_,rfl,q _ (I.hok.fresh (bI _))⟩;exact⟨Nat.le_trans (Ia c lo e) n,_,0,(r.drop (HT.sIx c.length 0 lo)).take (HT.sIx c.length c.length e - HT.sIx c.length 0 lo),Heap.get?_push_size _ rfl⟩
noncomputable def iA:V->Bool
 | .non=>true
 | .bl _=>true
 | .int _=>true
 | .str _=>true
 | _=>false
noncomputable def eK:V->V->Bool
 | .non,.non=>true
 | .bl a,.bl b=>a==b
 | .bl a,.int b=>(if a then 1 else 0)==b
 | .int a,.bl b=>a==(if b then 1 else 0)
 | .int a,.int b=>a==b
 | .str a,.str b=>a==b
 | _,_=>false
theorem Im{A:Around}{s:Shared}{y x:V}{u v:Value}(d:bp y u)(c:bp x v)(f:iA y=true)(e:iA x=true):SeqAt.EqAt A s u v (eK y x):=by
 cases y with
 | non=>
  cases d;cases x with
  | non=>cases c;exact SeqAt.EqAt.same _
  | bl b=>cases c;exact SeqAt.EqAt.none_bool b
  | int b=>obtain⟨t,rfl⟩:=c;exact SeqAt.EqAt.none_int b t
  | str b=>obtain⟨t,rfl⟩:=c;exact SeqAt.EqAt.none_str b t
  | _=>exact absurd (show false=true from e) Bool.false_ne_true
 | bl a=>
  cases d;cases x with
  | non=>cases c;exact SeqAt.EqAt.bool_none a
  | bl b=>cases c;exact SeqAt.EqAt.bool_bool a b
  | int b=>obtain⟨t,rfl⟩:=c;exact SeqAt.EqAt.bool_int a b t
  | str b=>obtain⟨t,rfl⟩:=c;exact SeqAt.EqAt.bool_str a b t
  | _=>exact absurd (show false=true from e) Bool.false_ne_true
 | int a=>
  obtain⟨t',rfl⟩:=d;cases x with
  | non=>cases c;exact SeqAt.EqAt.int_none a t'
  | bl b=>cases c;exact SeqAt.EqAt.int_bool a t' b
  | int b=>obtain⟨t,rfl⟩:=c;exact SeqAt.EqAt.int_int a t' b t
  | str b=>obtain⟨t,rfl⟩:=c;exact SeqAt.EqAt.int_str a t' b t
  | _=>exact absurd (show false=true from e) Bool.false_ne_true
 | str a=>
  obtain⟨t',rfl⟩:=d;cases x with
  | non=>cases c;exact SeqAt.EqAt.str_none a t'
  | bl b=>cases c;exact SeqAt.EqAt.str_bool a t' b
  | int b=>obtain⟨t,rfl⟩:=c;exact SeqAt.EqAt.str_int a t' b t
  | str b=>obtain⟨t,rfl⟩:=c;exact SeqAt.EqAt.str_str a t' b t
  | _=>exact absurd (show false=true from e) Bool.false_ne_true
 | _=>exact absurd (show false=true from f) Bool.false_ne_true
theorem gE:ia X (.builtin "len") (fun i H Q=>∃p d,i=[.ref p]/\(cU X.K H p d\/gf X.K H p d)/\Q (.int d.length) H):=by
 intro j s Y H i m Q I r h;obtain⟨p,d,rfl,e,q⟩:=h;obtain⟨u,rfl,k⟩:=dj r;cases k;have n:=eJ;rcases e with e | e
 ·obtain⟨f,g,pl,l⟩:=I.list e;have c:=g.length;exact Calls.call_len_list pl.isList (by simp only[List.size_toArray]<;>omega) ⟨.int d.length,H,I.tok _,⟨s.toks+1,by rw[List.size_toArray,c]⟩,q⟩
 ·obtain⟨f,g,pl,l⟩:=I.tuple e;have c:=g.length;exact len_tuple pl (by simp only[List.size_toArray]<;>omega) ⟨.int d.length,H,I.tok _,⟨s.toks+1,by rw[List.size_toArray,c]⟩,q⟩
theorem Io:ia X (.type "list") (fun y H Q=>∃p f,y=[.ref p]/\(cU X.K H p f\/gf X.K H p f)/\∀l,H l=none->Q (.ref l) (aQ H l (.lst f))):=by
 intro j s Y H y B Q I r h;obtain⟨p,f,rfl,k,q⟩:=h;obtain⟨u,rfl,A⟩:=dj r;cases A;have fin:∀(c:List Value),bq f c->f.length<=sizeLine->∀(d:Heap) (g:Nat),(∀b z,s.heap.get? b=some z->d.get? b=some z)->
   d.get? s.heap.objs.size=some { cls:=.type "list",dict:=none,data:=.seq c.toArray g,slots:=#[] }->EP X j Y Q (.ref s.heap.objs.size) { s with heap:=d }:=fun c i m d g v e=>
  ⟨.ref s.heap.objs.size,_,I.laid (t':=s.toks) v (bI _) (show cJ X.prog X.w _ d _ (.lst f) from⟨m,c,g,i,e⟩),rfl,q _ (I.hok.fresh (bI _))⟩
 rcases k with k | k
 ·obtain⟨c,i,pl,m⟩:=I.list k;have t:=i.length;obtain⟨o,ho,x,n,hd⟩:=pl.isList;exact call_list_seq p (.inl rfl) ho x hd (fun d g v e=>fin c i m d g v e) (by simp only[List.size_toArray]<;>omega)
 ·obtain⟨c,i,pl,m⟩:=I.tuple k;have t:=i.length;obtain⟨o,ho,x,n,hd⟩:=pl;exact call_list_seq p (.inr rfl) ho x hd (fun d g v e=>fin c i m d g v e) (by simp only[List.size_toArray]<;>omega)
theorem vC:ia X (.type "tuple") (fun k H Q=>∃p f,k=[.ref p]/\((cU X.K H p f/\∀l,H l=none->Q (.ref l) (aQ H l (.tup f)))\/(gf X.K H p f/\Q (.ref p) H))):=by
 intro c s Y H k y Q I r h;obtain⟨p,f,rfl,h⟩:=h;obtain⟨u,rfl,t⟩:=dj r;cases t;rcases h with⟨i,q⟩ | ⟨i,q⟩
 ·obtain⟨d,j,pl,m⟩:=I.list i;have n:=j.length;refine call_tuple_list pl.isList (fun g x=>?_) (by simp only[List.size_toArray]<;>omega);have I1:Inv X c Y H { s with heap:=g }:=I.kept (t':=s.toks) x;have v:Inv X c Y (aQ H g.objs.size (.tup f)) { s with heap:=g.push { cls:=.type "tuple",data:=.seq d.toArray } }:=
   I1.laid (t':=s.toks) (fun b o e=>bn _ e) (bI _) (show cJ X.prog X.w _ _ _ (.tup f) from⟨m,d,j,IsTup.new _ _⟩)
  exact⟨.ref g.objs.size,_,v,rfl,q _ (I1.hok.fresh (bI _))⟩
 ·obtain⟨d,j,pl,m⟩:=I.tuple i;exact call_tuple_same pl ⟨.ref p,H,I,rfl,q⟩
def zU(K:Frag)(T:String)(x:V)(H:Hp):Prop:=match x with
 | .str _=>T="str"
 | .int _=>T="int"
 | .ref p=>(T="list"/\∃d,cU K H p d)\/(T="tuple"/\∃o,K.lookup p=some o/\o.cls=.type "tuple"/\o.dict=none)\/
   (T="dict"/\((∃c,H p=some (.dK c))\/∃c,H p=some (.dT c)))\/(T="set"/\∃S n,H p=some (.set S n))
 | _=>False
theorem Ip{f:List (Addr×Obj)}{Y:St}{H:Hp}{s:Shared}{T:String}{x:V}{v:Value}(I:Inv X f Y H s)(r:bp x v)(g:zU X.K T x H) :
  s.TypeIs v T/\∀a,v=.ref a->∃k,s.heap.get? a=some k/\k.dict=none:=by
 cases x with
 | str z=>obtain⟨t,rfl⟩:=r;cases(show T="str" from g);exact⟨typeIs_str s z t,fun _ e=>nomatch e⟩
 | int i=>obtain⟨t,rfl⟩:=r;cases(show T="int" from g);exact⟨typeIs_int s i t,fun _ e=>nomatch e⟩
 | ref p=>
  cases r;rcases g with⟨rfl,u,l⟩ | ⟨rfl,o,d,m,hd⟩ | ⟨rfl,d⟩ | ⟨rfl,S,n,d⟩
  ·obtain⟨q,_,pl,_⟩:=I.list l;refine⟨pl.isList.typeIs,fun a e=>?_⟩;cases e;obtain⟨o,n,e,c,hd,_⟩:=pl;exact⟨o,e,hd⟩
  ·refine⟨⟨o,I.kIn p o d,m⟩,fun a e=>?_⟩;cases e;exact⟨o,I.kIn _ o d,hd⟩
  ·have z:∃o,s.heap.get? p=some o/\o.ExactDict:=by
    rcases d with⟨h,d⟩ | ⟨h,d⟩
    ·obtain⟨_,_,_,_,o,_,_,e,ex,_⟩:=I.hok p _ d;exact⟨o,e,ex⟩
    ·obtain⟨_,_,_,_,o,_,_,e,ex,_⟩:=I.hok p _ d;exact⟨o,e,ex⟩
   obtain⟨o,e,ex⟩:=z;refine⟨⟨o,e,ex.1⟩,fun a j=>?_⟩;cases j;exact⟨o,e,ex.2.1⟩
  ·obtain⟨o,_,_,_,e,ex,_⟩:=I.hok p _ d;refine⟨⟨o,e,ex.1⟩,fun a j=>?_⟩;cases j;exact⟨o,e,ex.2.1⟩
 | _=>exact False.elim g
noncomputable def Iq(K:Frag)(T:String)(r:V->List V->Hp->VK->Prop)(f:TE)(t:TA):TE:=fun Y H Q=>f Y H fun x c=>zU K T x c/\t Y c fun d e=>r x d e Q
variable{o e:Expr}{es:List Expr}{to:TE}{t:TA}{name:Str}{apos cpos:Pos}{T id:String}{r:V->List V->Hp->VK->Prop}
theorem qL(G:PlainAttrs T)(slot:Slot T name id)(j:typeOf (.builtin id)=pure (.type "method_descriptor"))(m:qK X id r)(J:PE X o to)(n:PA X (e::es) t)
  (f:attributeBase o name X.env (eval o X.env)=eval o X.env:=by rfl)
  (i:((backTo cpos (starEach (e::es) X.env)).all (fun x=>!x.1)&&(backToKw cpos (keywordEach [] X.env)).all (fun x=>x.1.isSome)
   && decide ((e::es).length+([]:List Keyword).length+(if ([]:List Keyword).isEmpty then 0 else 1)<30))=true:=by rfl)
  (g:(apos.endLine==cpos.line)=true:=by rfl) (p:starEach (e::es) X.env=(false,eval e X.env)::starEach es X.env:=by rfl) (d:(backTo cpos (starEach es X.env)).any (·.1)=false:=by rfl) :
  PE X (.Call (.Attribute o name apos) (e::es) [] cpos) (Iq X.K T r to t):=by
 intro c s Y H Q I h;refine wpAny_Call_method_late f i g rfl (aU (J c s Y H _ I h) fun v q ⟨x,u,I1,k,ty,w⟩=>?_);obtain⟨L,h2⟩:=Ip I1 k ty;refine⟨T,id,G,slot,j,L,h2,?_⟩;have l:=n cpos c q Y u _ I1 w;rw[p] at l ⊢;refine Calls.callWith_builtin (by show(false||(backTo cpos (starEach es X.env)).any (·.1))=false;rw[d]<;>rfl) (Calls.evalArgs_plain ?_);exact aU l fun y z ⟨A,B,C,D,E⟩=>m c z Y B x A v y Q C k D E
end
def zV(X:Cx)(id:String)(r:V->List V->Hp->VK->Prop):Prop:=
 ∀(a:List (Addr×Obj)) (s:Shared) (Y:St) (H:Hp) (x:V) (b:List V) (v:Value) (c:List Value) (Q:VK),Inv X a Y H s->bp x v->bq b c->r x b H Q->
  wpAny (model X.prog X.w) X.A (call (.builtin id) (v::c)) (EP X a Y Q) X.xe s
theorem bq.one:∀{x:V}{a:List Value},bq [x] a->∃u,a=[u]/\bp x u
 | _,_,.cons r .nil=>⟨_,rfl,r⟩
theorem bq.rep{a:List V}{b:List Value}(h:bq a b):∀k:Nat,bq (List.replicate k a).flatten (List.replicate k b).flatten
 | 0=>.nil
 | k+1=>by rw[List.replicate_succ,List.replicate_succ,List.flatten_cons,List.flatten_cons];exact bq.append h (bq.rep h k)
theorem zW(a:List Value):∀(k:Nat) (b:List Value),
  List.foldl (fun c d=>c++d) b.toArray (List.replicate k a.toArray)=(b++(List.replicate k a).flatten).toArray
 | 0,b=>by simp
 | k+1,b=>by
  have e:b.toArray++a.toArray=(b++a).toArray:=by simp
  have f:(b++a)++(List.replicate k a).flatten=b++(List.replicate (k+1) a).flatten:=by rw[List.replicate_succ,List.flatten_cons,List.append_assoc]
  rw[<-f,<-zW a k (b++a),<-e,List.replicate_succ,List.foldl_cons]
section
variable{X:Cx}{pins:List (Addr×Obj)}{Y:St}{H:Hp}{s:Shared}{l b:Addr}{xs ys zs:List V}
theorem Inv.lset{a its':List Value}{n:Nat}{f:Array Value->Array Value}{t':Nat}(I:Inv X pins Y H s)(c:H l=some (.lst xs))
  (e:s.heap.get? l=some { cls:=.type "list",data:=.seq a.toArray n }) (d:f a.toArray=its'.toArray) (g:bq ys its') (h:ys.length<=sizeLine) :
  Inv X pins Y (aQ H l (.lst ys)) { s with heap:=s.heap.update l (Obj.mapSeq f),toks:=t' }:=by
 have q:=PySem.IsL.update e f;rw[d] at q;refine I.write (x:=l) (e:=l) (by rw[c];exact trivial) (.inl rfl) (fun k u j i=>(Heap.get?_update_other s.heap (Obj.mapSeq f) (Ne.symm j)).trans i) ⟨_,q⟩ ?_;exact⟨h,its',_,g,q⟩
theorem Inv.lnew{a:List Value}{t':Nat}(I:Inv X pins Y H s)(c:bq ys a)(d:ys.length<=sizeLine) :
  Inv X pins Y (aQ H s.heap.objs.size (.lst ys)) { s with heap:=s.heap.push { cls:=.type "list",data:=.seq a.toArray },toks:=t' }:=
 I.laid (fun _ _ q=>bn _ q) (bI _) ⟨d,a,0,c,Heap.get?_push_size _ rfl⟩
theorem Inv.fresh(I:Inv X pins Y H s):H s.heap.objs.size=none:=I.hok.fresh (bI _)
theorem Inv.lstM(I:Inv X pins Y H s)(c:H l=some (.lst xs)):xs.length<=sizeLine/\∃(a:List Value) (n:Nat),bq xs a/\xs.length=a.length/\s.heap.get? l=some { cls:=.type "list",data:=.seq a.toArray n }:=by obtain⟨z,a,n,r,e⟩:=I.hok l _ c;exact⟨z,a,n,r,r.length,e⟩
theorem zX{n:Nat}(h:n<=sizeLine):Builtin.List.listTooLong n=false:=by unfold Builtin.List.listTooLong;exact decide_eq_false (by omega)
end
section
variable{X:Cx}
noncomputable def Ir:V->List V->Hp->VK->Prop:=fun x b H Q=>∃l a y,x=.ref l/\b=[y]/\H l=some (.lst a)/\a.length<sizeLine/\Q .non (aQ H l (.lst (a++[y])))
theorem zY:zV X "list.append" Ir:=by intro b s Y H x g v i Q I d f h;obtain⟨l,j,y,rfl,rfl,c,k,q⟩:=h;cases d;obtain⟨u,rfl,ru⟩:=f.one;obtain⟨z,a,n,r,m,e⟩:=I.lstM c;refine call_meets F.slot_list_append ⟨_,e,rfl⟩ F.entry_list_append (F.args_list_append_2 _ _) (PySem.list_append l a.toArray n u (by rw[List.size_toArray];omega)) ⟨e,?_⟩;refine⟨.non,_,I.lset (its':=a++[u]) c e (by simp) (r.append (.cons ru .nil)) ?_,rfl,q⟩;rw[List.length_append,List.length_singleton];omega
noncomputable def Iu:V->List V->Hp->VK->Prop:=fun x d H Q=>∃l b a c,x=.ref l/\d=[.ref b]/\H l=some (.lst a)/\H b=some (.lst c)/\a.length+c.length<=sizeLine/\Q .non (aQ H l (.lst (a++c)))
theorem Iw:zV X "list.extend" Iu:=by
 intro g s Y H x w v y Q I j k h;obtain⟨l,b,A,B,rfl,rfl,i,hB,C,q⟩:=h;cases j;obtain⟨u,rfl,ru⟩:=k.one;cases ru;obtain⟨z,c,n,r,D,e⟩:=I.lstM i;obtain⟨E,a,m,o,p,t⟩:=I.lstM hB;have f:c.toArray.size+a.toArray.size<=sizeLine:=by rw[List.size_toArray,List.size_toArray];omega
 have d:¬ (!c.toArray.isEmpty&&Builtin.List.listTooLong (c.toArray.size+a.toArray.size))=true:=by rw[zX f,Bool.and_false];exact Bool.false_ne_true
 refine call_meets F.slot_list_extend ⟨_,e,rfl⟩ F.entry_list_extend (F.args_list_extend_2 _ _)
  (AutoSeq1.list_extend_list_list_0 l c.toArray n b a.toArray m d (by rw[List.size_toArray];omega) (by omega)) ⟨e,t,?_⟩
 refine⟨.non,_,I.lset (its':=c++a) i e (by simp) (r.append o) ?_,rfl,q⟩;rw[List.length_append];omega
noncomputable def zZ:R2:=fun x y H Q=>∃l b a c,x=.ref l/\y=.ref b/\H l=some (.lst a)/\H b=some (.lst c)/\a.length+c.length<=sizeLine/\∀p,H p=none->Q (.ref p) (aQ H p (.lst (a++c)))
theorem Ix:cV X (binaryOp .Add) zZ:=by
 intro d s Y H x y v u Q I f g h;obtain⟨l,b,p,t,rfl,rfl,i,hB,w,q⟩:=h;cases f;cases g;obtain⟨z,c,n,r,A,e⟩:=I.lstM i;obtain⟨B,a,C,j,k,m⟩:=I.lstM hB;refine PySem.P.add_list e m ?_ (by rw[List.size_toArray,List.size_toArray];omega);have o:c.toArray++a.toArray=(c++a).toArray:=by simp
 rw[o];exact⟨.ref _,_,I.lnew (t':=s.toks) (r.append j) (by rw[List.length_append];omega),rfl,q _ I.fresh⟩
noncomputable def Aa:R2:=fun x y H Q=>∃l k a,x=.ref l/\y=.int k/\H l=some (.lst a)/\-(2 ^ 63)<=k/\k<2 ^ 63/\a.length * k.toNat<=sizeLine/\
 ∀p,H p=none->Q (.ref p) (aQ H p (.lst (List.replicate k.toNat a).flatten))
theorem Iy{α:Type}(a:List α)(k:Nat):(List.replicate k a).flatten.length=k * a.length:=by
 induction k with
 | zero=>simp
 | succ k b=>rw[List.replicate_succ,List.flatten_cons,List.length_append,b,Nat.succ_mul,Nat.add_comm]
theorem Iz:cV X (binaryOp .Mult) Aa:=by
 intro p s Y H x y v u Q I A B h;obtain⟨l,k,J,rfl,rfl,C,h1,h2,w,q⟩:=h;cases A;obtain⟨t,rfl⟩:=B;obtain⟨z,b,n,r,D,e⟩:=I.lstM C;have d:b.toArray.size * k.toNat<=sizeLine:=by rw[List.size_toArray,<-D];exact w
 have f:¬ b.toArray.size * k.toNat>(2 ^ 63 - 1) / 8:=by
  have:(sizeLine:Nat)<=(2 ^ 63 - 1) / 8:=by decide
  omega
 have g:¬ (!Builtin.List.listFitsIndex k)=true:=by rw[fitsIndex_both h1 h2];exact Bool.false_ne_true
 have c:¬ Builtin.List.listTooLong (b.toArray.size * k.toNat)=true:=by rw[zX d];exact Bool.false_ne_true
 have i:List.foldl (fun j o=>j++o) #[] (List.replicate (if b.toArray.isEmpty=true then 0 else k.toNat) b.toArray)=(List.replicate k.toNat b).flatten.toArray:=by
  have E:∀m:Nat,List.foldl (fun j o=>j++o) #[] (List.replicate m b.toArray)=(List.replicate m b).flatten.toArray:=fun m=>by have:=zW b m [];rw[List.nil_append] at this;exact this
  rw[E];cases b with
  | nil=>simp
  | cons a L=>rw[if_neg (by simp)]
 refine wpAny_binaryOp_repeat_ref (T:="list") (U:="int") (by decide) ⟨_,e,rfl⟩ (fun G=>typeIs_int G k t) noFill_list_mul F.fills_int_mul F.slot_int_rmul repeat_list F.slot_int_index.lookup
  (call_meets F.slot_int_rmul (typeIs_int s k t) F.entry_int_rmul (F.args_int_rmul_2 _ _) (int___rmul___int_list k t l b.toArray n)
   ⟨e,rfl,⟨_,e,rfl⟩,call_meets F.slot_list_mul ⟨_,e,rfl⟩ F.entry_list_mul (F.args_list_mul_2 _ _) (AutoListH.list___mul___list_int_3 l b.toArray n k t g f c) ⟨e,?_⟩⟩)
 rw[i];exact⟨.ref _,_,I.lnew (t':=s.toks) (r.rep k.toNat) (by rw[Iy,Nat.mul_comm];exact w),rfl,q _ I.fresh⟩
end
end L2
namespace Att
open PySem PySem.W PySem.Calls PyProof.Rows
theorem IA{P:Params}{h:Heap}:∀(c:List Int) (d:List Value),WellAll P h d (c.map WData.int)->IntsAre d c:=by
 intro c
 induction c with
 | nil=>intro d w;rw[List.map_nil] at w;cases w;exact .nil
 | cons n c e=>
  intro d w;rw[List.map_cons] at w;cases w with
  | cons a b=>cases a;exact .cons _ _ (e _ b)
theorem IB{l:OpenLaw}{n:Nat}(s:l.most=some n){P:Params}{h:Heap}{args:List WData}{c:List Value}
  (e:l.row.toRowW.claim.pre args=true) (k:WellAll P h c args) :
  ∃a o b,c=[Value.ref a]/\args=[WData.list (b.map WData.int)]/\h.get? a=some { cls:=.type "list",data:=.seq o.toArray }/\IntsAre o b/\b.length<=n:=by
 have m:WShape.hasAll [] args [.list .int]=true:=(pre_splitW e).1;have p:l.pre.holds [] { args:=args }=true:=(pre_splitW e).2;obtain⟨d,r,rfl,h1,h2⟩:=hasAllW_cons m;obtain rfl:=hasAllW_nil h2;obtain⟨u,rfl,h3⟩:=hasW_list h1;obtain⟨b,rfl⟩:=items_int h3;have f:b.length<=n:=by
  unfold OpenLaw.pre at p;have i:(WTm.not (.lt (.lit (.int (n:Int))) (.len (.arg 0)))).holds [] { args:=[.list (b.map .int)] }=true:=by have i:=(holds_andW p).1;rw[s] at i;exact i
  have j:=condW_of i (w_not (w_lt w_lit (w_len_list (w_arg rfl))));rw[List.length_map] at j;refine Nat.le_of_not_lt fun q=>?_;have t:(n:Int)<((b.length:Nat):Int):=by omega
  first
   | (rw[decide_eq_true t] at j;exact absurd j (by decide))
   | (simp at j;omega)
 cases k with
 | cons w1 w2=>
  cases w2;cases w1 with
  | list ho g=>exact⟨_,_,b,rfl,rfl,ho,IA b _ g,f⟩
theorem IC(l:OpenLaw)(args:List WData):l.row.toRowW.claim.post args (.bool true) args=true:=
 postW_of (r:=l.row.toRowW) (X:=(true==true))
  (show WShape.has [] (.bool true) .bool=true by first | rfl | decide | simp[WShape.has,WShape.arms,WShape.armsAll])
  (show(WTm.eq .res (.lit (.bool true))).value [] { args:=args,res:=some (.bool true),after:=args }=some (.bool (true==true)) from w_eq_bool (w_res rfl) w_lit) rfl
theorem attach_call{l:OpenLaw}{n:Nat}{q:Program}{b:List Str}{C:(Str->Option Value)->Heap->Prop}{D:World->Heap->Prop}{d:DefRec}
  (J:l.most=some n) (v:d.params.defaults=[])
  (call:∀(w:World) (B c:Shared) (t x:Str->Option Value) (i:Addr) (o:Obj) (pm p e:Value) (a:Addr) (h:List Value) (u:List Int),
   Ground q b [] C w B t x c.heap->D w c.heap->
   c.heap.get? i=some o->o.data=.func (docDef d.name d.params d.body d.scope pm p e)->c.heap.CodeRec p d.name->t d.name=some (.ref i)->
   c.heap.get? a=some { cls:=.type "list",data:=.seq h.toArray }->IntsAre h u->u.length<=n->c.gens = #[]->
   codeAny (model l.prog w) callerA (.call (.ref i) ⟨[.ref a],[]⟩) (fun r s=>r=.ok (.ret (.bool true))/\OldK c.heap s.heap/\s.os=c.os/\AllBare s.gens) c) :
  WalkO q b C D l.row.toRowW d [] (fun f h=>PySem.call f h):=by
 intro w B c t x G L i o pm p e dV kV Y hd y E z M args H as j I N A O;obtain rfl:dV=.none:=Dflts.none E v;obtain rfl:kV=.none:=Dflts.noKw E;obtain⟨a,h,u,rfl,rfl,k,g,m⟩:=IB J j A;refine enter_call (codeAny_mono (call w B c t x i o pm p e a h u G L Y (fd_plain hd) y z k g m M) fun r s Q=>?_);obtain⟨rfl,h2,h3,T⟩:=Q;exact⟨.inl ⟨.bool true,.bool true,[],rfl,fun _=>rfl,.bool true,IC l _,fun _=>⟨List.Pairwise.nil,fun _ U=>(nomatch U)⟩⟩,h2,h3,T⟩
end Att
namespace L2
open PySem PySem.Spec PyProof.Rows
theorem Ab:∀{a:List Value}{b:List Int},IntsAre a b->bq (b.map V.int) a
 | _,_,.nil=>.nil
 | _,_,.cons n t h=>.cons ⟨t,rfl⟩ (Ab h)
def vD(H:Hp):Prop:=∀b,H b=none\/∃o a,H b=some (.frz o (.lst a))
theorem ID{P:Program}{w:World}{K:Frag}{G M:Str->Option Value}{U:fP}{k:Nat}{N a:Addr}{fd:FuncData}{x:Str}{X:Sp}{c:Shared}{l:List Value}{I:List Int}
  (Y:K.In c.heap) (t:c.heap.Ns mainGlobals G) (g:c.heap.Ns builtinsNs M) (O:∀x:Str,x≠"__name__"->M x=bootBuiltins x) (y:c.heap.NoLimit) (hg:c.gens = #[])
  (L:c.heap.get? a=some { cls:=.type "list",data:=.seq l.toArray }) (Z:IntsAre l I) (hl:I.length<=sizeLine) (hr:bz k callerA)
  (F:∀base:Heap,K.In base->base.Ns mainGlobals G->az P w K G base U k N fd [x] X) (p:∀(s:Shared) (u:Value),BindsTo s fd ⟨[u],[]⟩ [(x,u)])
  (hsp:∀H:Hp,vD H->cU K H a (I.map V.int)->X [.ref a] H (fun v _=>v=.bl true) fun _ _ _=>False)
  (Q:∀H e i,U [] H c (fun _ _ _=>False) e i->False) :
  codeAny (model P w) callerA (.call (.ref N) ⟨[.ref a],[]⟩) (fun r i=>r=.ok (.ret (.bool true))/\OldK c.heap i.heap/\i.os=c.os/\AllBare i.gens) c:=by
 have rv:=Ab Z;have A:=Z.length;have core:∀H:Hp,vD H->cU K H a (I.map V.int)->bC P w H c.heap->(∀b,H b≠none->b=a)->(H a≠none->K.lookup a=none)->
   codeAny (model P w) callerA (.call (.ref N) ⟨[.ref a],[]⟩) (fun r i=>r=.ok (.ret (.bool true))/\OldK c.heap i.heap/\i.os=c.os/\AllBare i.gens) c:=by
  intro H hO hS J hA hK;have f:∀{b:Addr}{o:Obj},c.heap.get? b=some o->H b=none->(jB c.heap H).get? b=some o:=fun e n=>FJ e n;have R:∀{b:Addr}{o:Obj}{B:Array DictEntry}{C:Nat},c.heap.get? b=some o->o.data=.dict B C->H b=none:=fun {b o B C} e d=>by
   cases q:H b with
   | none=>rfl
   | some u=>have S:b=a:=hA b (by rw[q];simp);subst S;rw[L] at e;cases e;have d':Data.seq l.toArray _=Data.dict B C:=d;cases d'
  have j:∀{b:Addr}{m:Str->Option Value},c.heap.Ns b m->(jB c.heap H).Ns b m:=fun {b m} ⟨o,B,C,e,d,r⟩=>⟨o,B,C,f e (R e d),d,r⟩
  have D:K.In (jB c.heap H):=fun b o e=>f (Y b o e) (by
   cases q:H b with
   | none=>rfl
   | some u=>
    have S:b=a:=hA b (by rw[q];simp);subst S;rw[hK (by rw[q];simp)] at e;cases e)
  have hM:Mod K G (jB c.heap H):=⟨D,j t,⟨M,j g,O⟩,let⟨mc,h1,h2⟩:=y;⟨mc,j h1,h2⟩⟩
  have e0:ee P w K G (jB c.heap H) callerA [] c H:=⟨rfl,hM,fun b o e=>FK e,Nat.le_of_eq (FH _ _),trivial,fun b g=>absurd (show b∈([]:List Addr) from g) (by simp),J,.of_eq hg⟩
  refine codeAny_mono ((F _ D (j t)).run callerA [] c H ⟨[.ref a],[]⟩ [.ref a] [.ref a] _ _ hr e0 (p c (.ref a)) (.cons rfl .nil) (hsp H hO hS)) fun r i h=>?_;cases r with
  | error e=>exact(Q H e i h).elim
  | ok fl=>
   cases fl with
   | next=>exact False.elim h
   | brk=>exact False.elim h
   | cont=>exact False.elim h
   | ret u=>
    obtain⟨v,H',os,bare,un,E,r',q⟩:=h;have q':v=.bl true:=q;subst q';obtain rfl:u=Value.bool true:=r';refine⟨rfl,OldK.of_keep fun b o e=>?_,os,bare⟩;cases q:H b with
    | none=>exact un.keep b o e q (by intro z;exact absurd (show b∈([]:List Addr) from z) (by simp)) (by simp)
    | some u=>
     rcases hO b with z | ⟨ob,xs,z⟩
     ·rw[q] at z;cases z
     ·have z2:=un.frzs b ob _ z;obtain⟨e1,_⟩:=J b _ z;obtain⟨e2,_⟩:=E b _ z2;rw[e] at e1;cases e1;exact e2
 cases T:K.lookup a with
 | some o=>have e:=Y a o T;rw[L] at e;cases e;refine core (fun _=>none) (fun _=>.inl rfl) (.inr ⟨_,l.toArray,_,T,rfl,rfl,rfl,by rw[List.size_toArray,A];exact hl,by simpa using rv⟩) (fun b u z=>by have z':(none:Option HO)=some u:=z;cases z') (fun b z=>absurd rfl z) fun z=>absurd rfl z
 | none=>
  refine core (fun b=>if b=a then some (.frz { cls:=.type "list",data:=.seq l.toArray } (.lst (I.map V.int))) else none) (fun b=>?_) (.inl (.inr ⟨{ cls:=.type "list",data:=.seq l.toArray },if_pos rfl⟩)) (fun b u z=>?_) (fun b z=>?_) fun _=>T
  ·by_cases g:b=a
   ·exact .inr ⟨_,_,if_pos g⟩
   ·exact .inl (if_neg g)
  ·by_cases g:b=a
   ·have z':=(if_pos g).symm.trans z;cases z';subst g;exact⟨L,by rw[List.length_map];exact hl,l,_,rv,L⟩
   ·have z':=(if_neg g).symm.trans z;cases z'
  ·by_cases g:b=a
   ·exact g
   ·exact absurd (if_neg g) z
theorem walk_of{l:PySem.W.OpenLaw}{n k:Nat}{q:Program}{i:List Str}{J:(Str->Option Value)->Heap->Prop}{D:World->Heap->Prop}{d:DefRec}{K:Params->Frag}{CX:World->fP}{sp:World->Sp}{x:Str}
  (L:l.most=some n) (y:n<=sizeLine) (z:d.params.defaults=[]) (M:bz k callerA)
  (N:∀(w:World) (h:Heap),D w h->(K w.params).In h)
  (F:∀(w:World) (m:Str->Option Value) (r:Addr) (h:Heap),(K w.params).In h->h.Ns mainGlobals m->m d.name=some (.ref r)->
   ∃fd:FuncData,(∀(s:Shared) (u:Value),BindsTo s fd ⟨[u],[]⟩ [(x,u)])/\
    ∀base:Heap,(K w.params).In base->base.Ns mainGlobals m->az l.prog w (K w.params) m base (CX w) k r fd [x] (sp w))
  (hsp:∀(w:World) (H:Hp) (a:Addr) (t:List Int),t.length<=n->vD H->cU (K w.params) H a (t.map V.int)->sp w [.ref a] H (fun v _=>v=.bl true) fun _ _ _=>False)
  (A:∀(w:World) (H:Hp) (s:Shared) (e:Value) (B:Shared),CX w [] H s (fun _ _ _=>False) e B->False) :
  PySem.W.WalkO q i J D l.row.toRowW d [] (fun f E=>PySem.call f E):=by
 refine Att.attach_call L z fun w s₀ O m mb r o pm cd Q a E t G R ho hd S C p j c U=>?_;have I:=N w _ R;obtain⟨fd,hb,X⟩:=F w m r _ I G.T.g C;exact ID I G.T.g G.T.b G.T.builtins G.T.nolimit U p j (Nat.le_trans c y) M X hb (fun H Y Z=>hsp w H a t c Y Z) fun H e B=>A w H O e B
noncomputable def eQ(s:Stmt)(j:Nat):Stmt:=match s with
 | .ClassDef _ _ _ body _ _ _ _ _ _ _=>body.getD j (.Pass ⟨0,0,0,0⟩)
 | _=>.Pass ⟨0,0,0,0⟩
noncomputable def jG(s:Stmt):Arguments:=match s with
 | .FunctionDef _ a _ _ _ _ _ _ _ _=>a
 | _=>{ posonlyargs:=[],args:=[],vararg:=none,kwonlyargs:=[],kw_defaults:=[],kwarg:=none,defaults:=[] }
noncomputable def iB(s:Stmt):List Stmt:=match s with
 | .FunctionDef _ _ b _ _ _ _ _ _ _=>b
 | _=>[]
noncomputable def bf(s:Stmt):Scope:=match s with
 | .FunctionDef _ _ _ _ _ _ a _ _ _=>a
 | _=>{ kind:=.function,names:=[],isGenerator:=false,isCoroutine:=false }
structure lG (K:Frag) (x qual:Str) (st:Stmt) (f:Addr) (fd:FuncData):Prop where
 ex:∃(oc:Value) (od:Option Addr) (kV doc pm:Value) (an:Option Addr) (cdv ct:Value) (osl:Array (Option Value)),
  fd=fnOf x qual (jG st) (iB st) (bf st) .none kV doc pm an cdv ct/\K.lookup f=some ⟨oc,od,.func fd,osl⟩/\codeIn K cdv qual=true
 kp:keepIn K (.ref f)=true
section
variable{P:Program}{w:World}{K:Frag}{mg:Str->Option Value}{base:Heap}
theorem lG.binds{x a:Str}{st:Stmt}{f:Addr}{fd:FuncData}{d:List Str}(F:lG K x a st f fd)
  (h:∀(kV b pm:Value) (e:Option Addr) (c i:Value) (g:List Value),g.length=d.length->bindArgs (fnOf x a (jG st) (iB st) (bf st) .none kV b pm e c i) ⟨g,[]⟩=pure (d.zip g)):ic K fd d []:=by
 obtain⟨l,m,kV,b,pm,e,c,i,j,rfl,lk,k⟩:=F.ex;exact .all (h kV b pm e c i)
theorem ou{x a:Str}{st:Stmt}{f:Addr}{i:Value}{j g:Option Addr}{e:Array (Option Value)}{kV d pm b h:Value}(l:K.lookup f=some ⟨i,j,.func (fnOf x a (jG st) (iB st) (bf st) .none kV d pm g b h),e⟩)
  (c:codeIn K b a=true) (k:keepIn K (.ref f)=true):lG K x a st f (fnOf x a (jG st) (iB st) (bf st) .none kV d pm g b h):=⟨⟨i,j,kV,d,pm,g,b,h,e,rfl,l,c⟩,k⟩
end
theorem qM{A:Around}{k:Nat}(a:bz k A):A.units+1<cLine:=Nat.lt_of_le_of_lt (Nat.add_le_add_left (by decide:1<=64) _) a.units
section
variable{X:Cx}
theorem pv(i:Nat){x:Str}{pos:Pos}(b:X.N[i]? = some x:=by rfl)(c:qy X.env.scope x:=by first | exact Or.inl rfl | exact Or.inr (Or.inl rfl) | exact Or.inr (Or.inr rfl))(hd:(x==("__debug__":Str))=false:=by decide)
  (a:(x==("__classdict__":Str))=false:=by decide):PE X (.Name x pos) (bS i):=FP b c hd a
end
theorem em{A B:Prop}(h:B):if false=true then A else B:=by rw[if_neg Bool.false_ne_true];exact h
theorem en{A B:Prop}(h:A):if true=true then A else B:=by rw[if_pos rfl];exact h
def bW(H a:Hp):Prop:=∀b o,H b=some o->a b=some o
theorem bW.seq{K:Frag}{H b:Hp}{a:Addr}{c:List V}(e:bW H b)(h:cU K H a c):cU K b a c:=by
 rcases h with(h | ⟨o,h⟩) | h
 ·exact .inl (.inl (e _ _ h))
 ·exact .inl (.inr ⟨o,e _ _ h⟩)
 ·exact .inr h
end L2
set_option maxHeartbeats 4000000
namespace L2
open PySem PySem.Spec PyProof.Rows
section
variable{κ:Type}[DecidableEq κ]
noncomputable def fQ(a:List (κ×V))(k:κ):Option V:=(a.find? fun b=>decide (b.1=k)).map (·.2)
noncomputable def fu(a:List (κ×V))(k:κ)(v:V):List (κ×V):=
 if (a.any fun b=>decide (b.1=k))=true then a.map (fun b=>if b.1=k then(b.1,v) else b) else a++[(k,v)]
theorem qN{p:κ×V}{r:List (κ×V)}{k:κ}(e:p.1=k):fQ (p::r) k=some p.2:=by simp[fQ,List.find?_cons,e]
theorem qO{p:κ×V}{r:List (κ×V)}{k:κ}(e:¬ p.1=k):fQ (p::r) k=fQ r k:=by simp[fQ,List.find?_cons,e]
theorem qP(k:κ):∀a:List (κ×V),(a.any fun b=>decide (b.1=k))=(fQ a k).isSome
 | []=>rfl
 | p::r=>by
  rw[List.any_cons]
  by_cases e:p.1=k
  ·simp only[qN e,decide_eq_true e,Bool.true_or,Option.isSome_some]
  ·rw[qO e,decide_eq_false e,Bool.false_or];exact qP k r
theorem Ac(a:List (κ×V))(k:κ)(v:V):(fu a k v).length<=a.length+1:=by
 unfold fu;split
 ·rw[List.length_map];omega
 ·rw[List.length_append,List.length_cons,List.length_nil];omega
theorem IE{a:List (κ×V)}{k:κ}(v:V)(h:fQ a k=none):fu a k v=a++[(k,v)]:=by unfold fu;rw[qP,h];exact if_neg (by decide)
theorem ft.isSome_eq{o:Option V}{u:Option Value}(r:ft o u):o.isSome=u.isSome:=by
 cases o with
 | none=>cases u with
  | none=>rfl
  | some _=>exact(show False from r).elim
 | some _=>cases u with
  | none=>exact(show False from r).elim
  | some _=>rfl
theorem KV.val{a:List (κ×V)}{f:List (κ×Value)}(r:KV a f)(k:κ):ft (fQ a k) (valueAt f k):=by
 unfold KV at r
 induction r with
 | nil=>exact True.intro
 | @cons p q j c h t i=>
  obtain⟨g,h2⟩:=h
  by_cases e:p.1=k
  ·have d:q.1=k:=g.symm.trans e;have b:valueAt (q::c) k=some q.2:=by simp[valueAt,List.find?_cons,d]
   rw[qN e,b];exact h2
  ·have d:¬ q.1=k:=fun z=>e (g.trans z);have b:valueAt (q::c) k=valueAt c k:=by simp[valueAt,List.find?_cons,d]
   rw[qO e,b];exact i
theorem KV.any{a:List (κ×V)}{c:List (κ×Value)}(r:KV a c)(k:κ):(a.any fun b=>decide (b.1=k))=c.any fun b=>decide (b.1=k):=by
 unfold KV at r
 induction r with
 | nil=>rfl
 | cons h t d=>rw[List.any_cons,List.any_cons,d,h.1]
theorem KV.repl{b:List (κ×V)}{d:List (κ×Value)}(r:KV b d)(k:κ){y:V}{u:Value}(f:bp y u) :
  KV (b.map fun a=>if a.1=k then(a.1,y) else a) (d.map fun a=>if a.1=k then(a.1,u) else a):=by
 unfold KV at r ⊢
 induction r with
 | nil=>exact .nil
 | @cons p q i j h t g=>
  rw[List.map_cons,List.map_cons];refine .cons ?_ g;obtain⟨c,h2⟩:=h
  by_cases e:p.1=k
  ·rw[if_pos e,if_pos (c.symm.trans e)];exact⟨c,f⟩
  ·rw[if_neg e,if_neg (fun z=>e (c.trans z))];exact⟨c,h2⟩
theorem KV.put{a:List (κ×V)}{b:List (κ×Value)}(r:KV a b)(k:κ){y:V}{u:Value}(c:bp y u):KV (fu a k y) (stored b k u):=by
 unfold fu stored;rw[r.any k]
 by_cases e:(b.any fun d=>decide (d.1=k))=true
 ·rw[if_pos e,if_pos e];exact r.repl k c
 ·rw[if_neg e,if_neg e];exact Paired.snoc r ⟨rfl,c⟩
theorem KV.length{a:List (κ×V)}{b:List (κ×Value)}(r:KV a b):a.length=b.length:=Paired.length r
end
theorem qQ{P:Program}{w:World}{k:bd}{u:Value}(r:bp (kV k) u):(gB P w).is k u=true:=by
 cases k with
 | inl i=>obtain⟨t,e⟩:=(show ∃t,u=Value.int i t from r);subst e;exact Fz P w i t
 | inr x=>obtain⟨t,e⟩:=(show ∃t,u=Value.str x t from r);subst e;exact FC P w x t
theorem Ad{P:Program}{w:World}:∀{a:List bd}{b:List Value},bq (a.map kV) b->ItemsAre (gB P w) a b
 | [],_,r=>by rw[List.map_nil] at r;cases r;exact .nil
 | k::a,_,r=>by
  rw[List.map_cons] at r;cases r with
  | cons h t=>exact .cons (qQ h) (Ad t)
noncomputable abbrev KT(H:Hp):List (List bd×V)->List (List bd×Addr×Value)->Prop:=Paired fun p q=>p.1=q.1/\H q.2.1=some (.tup (p.1.map kV))/\bp p.2 q.2.2
theorem KT.val{H:Hp}{a:List (List bd×V)}{f:List (List bd×Addr×Value)}(r:KT H a f)(k:List bd):ft (fQ a k) ((atKey f k).map (·.2)):=by
 induction r with
 | nil=>exact True.intro
 | @cons p q j c h t i=>
  obtain⟨g,_,h2⟩:=h
  by_cases e:p.1=k
  ·have d:q.1=k:=g.symm.trans e;have b:atKey (q::c) k=some q.2:=by simp[atKey,List.find?_cons,d]
   rw[qN e,b];exact h2
  ·have d:¬ q.1=k:=fun z=>e (g.trans z);have b:atKey (q::c) k=atKey c k:=by simp[atKey,List.find?_cons,d]
   rw[qO e,b];exact i
theorem KT.repl{H:Hp}{a:List (List bd×V)}{d:List (List bd×Addr×Value)}(r:KT H a d)(k:List bd){y:V}{u:Value}(f:bp y u) :
  KT H (a.map fun c=>if c.1=k then(c.1,y) else c) (d.map (putAt k u)):=by
 induction r with
 | nil=>exact .nil
 | @cons p q i j h t g=>
  rw[List.map_cons,List.map_cons];refine .cons ?_ g;obtain⟨b,h2,h3⟩:=h;unfold putAt
  by_cases e:p.1=k
  ·rw[if_pos e,if_pos (b.symm.trans e)];exact⟨b,h2,f⟩
  ·rw[if_neg e,if_neg (fun z=>e (b.trans z))];exact⟨b,h2,h3⟩
theorem KT.put{H:Hp}{a:List (List bd×V)}{c:List (List bd×Addr×Value)}(r:KT H a c)(k:List bd){b:Addr}{y:V}{u:Value}(g:H b=some (.tup (k.map kV)))(d:bp y u) :
  KT H (fu a k y) (storedH c k b u):=by
 have e:(a.any fun f=>decide (f.1=k))=(atKey c k).isSome:=by rw[qP,(r.val k).isSome_eq,Option.isSome_map]
 unfold fu storedH;rw[e]
 by_cases q:(atKey c k).isSome=true
 ·rw[if_pos q,if_pos q];exact r.repl k d
 ·rw[if_neg q,if_neg q];exact Paired.snoc r ⟨rfl,g,d⟩
theorem KT.keeps{H c:Hp}{a:List (List bd×V)}{d:List (List bd×Addr×Value)}(r:KT H a d)(f:∀b e,H b=some (.tup e)->c b=some (.tup e)):KT c a d:=
 Paired.mapP r fun _ _ z=>⟨z.1,f _ _ z.2.1,z.2.2⟩
section
variable{P:Program}{w:World}{H:Hp}{h:Heap}{a:Addr}
theorem Ae{u:HO}(ok:bC P w H h)(e:Rd H a u):cJ P w H h a u:=e.ok ok
theorem qR{b:List (bd×V)}(ok:bC P w H h)(e:Rd H a (.dK b)):b.length<=sizeLine/\(a==sysModules)=false/\∃c,KV b c/\h.DictOf (gB P w) a c:=
 show cJ P w H h a (.dK b) from Ae ok e
theorem IF{b:List (bd×V)}(ok:bC P w H h)(e:H a=some (.dK b)):b.length<=sizeLine/\(a==sysModules)=false/\∃c,KV b c/\h.DictOf (gB P w) a c:=qR ok (.inl e)
theorem qS{b:List bd}(ok:bC P w H h)(e:H a=some (.tup (b.map kV))):(tupleKind (gB P w)).is h b a:=by
 obtain⟨_,c,r,o,h1,h2,n,h3⟩:=(show cJ P w H h a (.tup (b.map kV)) from ok a _ e)
 exact⟨o,c.toArray,n,h1,h2,h3,by simpa using Ad r⟩
theorem qT{b:List (List bd×V)}(ok:bC P w H h)(e:Rd H a (.dT b)):b.length<=sizeLine/\(a==sysModules)=false/\
  ∃d,KT H b d/\h.DictOfH (tupleKind (gB P w)) a d:=by
 obtain⟨z,y,d,r,o,g,i,h1,h2,h3,j,k⟩:=(show cJ P w H h a (.dT b) from Ae ok e)
 refine⟨z,y,d,r,o,g,i,h1,h2,h3,j,fun x c=>?_,k⟩;have all:∀{l:List (List bd×V)}{m:List (List bd×Addr×Value)},KT H l m->∀x∈m,(tupleKind (gB P w)).is h x.1 x.2.1:=by
  intro l m q
  induction q with
  | nil=>intro x c;exact nomatch c
  | @cons p q s u f t n=>
   intro x c;rcases List.mem_cons.mp c with e | c
   ·subst e;exact qS ok (by rw[<-f.1];exact f.2.1)
   ·exact n x c
 exact all r x c
theorem IG{b:List (List bd×V)}(ok:bC P w H h)(e:H a=some (.dT b)):b.length<=sizeLine/\(a==sysModules)=false/\
  ∃c,KT H b c/\h.DictOfH (tupleKind (gB P w)) a c:=qT ok (.inl e)
end
def iX(H:Hp)(a:Addr)(y:V)(r:Option V):Prop:=
 (∃c k,Rd H a (.dK c)/\y=kV k/\r=fQ c k)\/∃c k b,Rd H a (.dT c)/\y=.ref b/\H b=some (.tup (k.map kV))/\r=fQ c k
def lH(H:Hp)(a:Addr)(y v:V)(d:Hp):Prop:=
 (∃c k,H a=some (.dK c)/\y=kV k/\c.length<sizeLine/\d = aQ H a (.dK (fu c k v)))\/
 ∃c k b,H a=some (.dT c)/\y=.ref b/\H b=some (.tup (k.map kV))/\c.length<sizeLine/\d = aQ H a (.dT (fu c k v))
theorem iX.k{H:Hp}{a:Addr}{b:List (bd×V)}{k:bd}(e:H a=some (.dK b)):iX H a (kV k) (fQ b k):=.inl ⟨b,k,.inl e,rfl,rfl⟩
theorem iX.t{H:Hp}{a b:Addr}{c:List (List bd×V)}{k:List bd}(e:H a=some (.dT c))(d:H b=some (.tup (k.map kV))):iX H a (.ref b) (fQ c k):=.inr ⟨c,k,b,.inl e,rfl,d,rfl⟩
theorem lH.k{H:Hp}{a:Addr}{b:List (bd×V)}{k:bd}{v:V}(e:H a=some (.dK b))(c:b.length<sizeLine):lH H a (kV k) v (aQ H a (.dK (fu b k v))):=.inl ⟨b,k,e,rfl,c,rfl⟩
theorem lH.t{H:Hp}{a b:Addr}{c:List (List bd×V)}{k:List bd}{v:V}(e:H a=some (.dT c))(d:H b=some (.tup (k.map kV)))(f:c.length<sizeLine) :
  lH H a (.ref b) v (aQ H a (.dT (fu c k v))):=.inr ⟨c,k,b,e,rfl,d,f,rfl⟩
section
variable{X:Cx}{pins:List (Addr×Obj)}{Y:St}{H:Hp}{s:Shared}{a:Addr}{y v:V}{u r:Value}{o:Option V}{A:Around}{E:Value->Shared->Prop}
theorem Inv.big(I:Inv X pins Y H s):sysModules<s.heap.objs.size:=by have h:mainGlobals<s.heap.objs.size:=(I.mod.glob.keeps I.bk).lt;exact Nat.lt_trans (by decide) h
theorem IH{Q:Value->Shared->Prop}(t:A.units+1<cLine)(I:Inv X pins Y H s)(g:iX H a y (some v))(n:bp y u)(h:∀d q,Inv X pins Y H q->bp v d->Q d q) :
  wpAny (model X.prog X.w) A (getItem (.ref a) u) Q E s:=by
 rcases g with⟨f,k,e,i,l⟩ | ⟨f,k,b,e,i,x,l⟩
 ·subst i;obtain⟨z,hd,B,rel,dd⟩:=qR I.hok e;obtain⟨d,j,c⟩:=ft.some_of (v:=v) (o:=valueAt B k) (by rw[l];exact rel.val k);exact wpAny_getItem_of (qQ n) dd.mapOf j (h d _ (I.tok _) c)
 ·subst i;cases(show u=Value.ref b from n);obtain⟨z,hd,C,rel,dd⟩:=qT I.hok e;obtain⟨d,j,c⟩:=ft.some_of (v:=v) (o:=(atKey C k).map (·.2)) (by rw[l];exact rel.val k);obtain⟨p,D,m⟩:=Option.map_eq_some_iff.mp j;refine wpAny_getItem_heap (tupleKind_room_in1 t) (qS I.hok x) dd D ?_;rw[m];exact h d _ (I.tok _) c
theorem IJ{Q:Value->Shared->Prop}(j:A.units+1<cLine)(I:Inv X pins Y H s)(g:iX H a y o)(f:bp y u)(h:∀i,Inv X pins Y H i->Q (.bool o.isSome) i) :
  wpAny (model X.prog X.w) A (compareOp .In u (.ref a)) Q E s:=by
 rcases g with⟨c,k,e,d,l⟩ | ⟨c,k,b,e,d,m,l⟩
 ·subst d;obtain⟨z,hd,n,rel,dd⟩:=qR I.hok e;refine wpAny_in_of (qQ f) hd dd.mapOf ?_;rw[<-(rel.val k).isSome_eq,<-l];exact h _ (I.tok _)
 ·subst d;cases(show u=Value.ref b from f);obtain⟨z,hd,p,rel,dd⟩:=qT I.hok e;refine wpAny_in_heap (tupleKind_room_in1 j) (qS I.hok m) hd dd ?_;have q:=(rel.val k).isSome_eq;rw[Option.isSome_map] at q;rw[<-q,<-l];exact h _ (I.tok _)
theorem Af{c:Heap}{t':Nat}{d:HO}(I:Inv X pins Y H s)(f:oj (H a))(g:Heap.SameBut a s.heap c)(h:∃q,c.get? a=some q)(new:cJ X.prog X.w (aQ H a d) c a d) :
  Inv X pins Y (aQ H a d) { s with heap:=c,toks:=t' }:=
 I.write (x:=a) (e:=a) f (.inl rfl) (fun b q i z=>(g.2 b i).trans z) h new
theorem IK{P:Program}{w:World}{e:Hp}{d:Heap}{b:List (bd×V)}{c:List (bd×Value)}(z:b.length<=sizeLine)(hd:(a==sysModules)=false)(rel:KV b c)(f:d.DictOf (gB P w) a c) :
  cJ P w e d a (.dK b):=⟨z,hd,c,rel,f⟩
theorem IL{x:Hp}{Q:Unit->Shared->Prop}(M:A.units+1<cLine)(I:Inv X pins Y H s)(g:lH H a y v x)(B:bp y u)(C:bp v r)(h:∀D,Inv X pins Y x D->Q () D) :
  wpAny (model X.prog X.w) A (setItem (.ref a) u r) Q E s:=by
 rcases g with⟨d,k,e,j,l,m⟩ | ⟨d,k,b,e,j,G,l,m⟩
 ·subst j m;obtain⟨z,hd,N,rel,dd⟩:=IF I.hok e;have n:N.length<=sizeLine:=by rw[<-rel.length];exact z
  have p:(fu d k v).length<=sizeLine:=by have:=Ac d k v;omega
  refine wpAny_setItem_pairs (hsz:=n) (qQ B) dd fun J f t=>h _ ?_;have O:∃q,J.get? a=some q:=let⟨q,_,_,i,_⟩:=f;⟨q,i⟩;exact Af I (by rw[e];exact True.intro) t O (IK p hd (rel.put k C) f)
 ·subst j m;cases(show u=Value.ref b from B);obtain⟨z,hd,R,rel,dd⟩:=IG I.hok e;have n:R.length<=sizeLine:=by rw[<-Paired.length rel];exact z
  have p:(fu d k v).length<=sizeLine:=by have:=Ac d k v;omega
  refine wpAny_setItem_heap (hsz:=n) (tupleKind_room_in1 M) (qS I.hok G) dd fun J f t=>h _ ?_;obtain⟨q,S,T,i,h2,h3,U,_,Z⟩:=f;refine Af I (by rw[e];exact True.intro) t ⟨q,i⟩ ⟨p,hd,_,(rel.put k G C).keeps fun c ys L=>?_,q,S,T,i,h2,h3,U,Z⟩;rw[bv (FF L e (fun z=>nomatch z))];exact L
end
def vE(i:Expr):Prop:=∀a b,subscripted i false a b=operate [a,b] (getItem a b)
theorem IM{a:Program}{w:World}{A:Around}{E:Value->Shared->Prop}{s:Shared}{b:Env}{value slice:Expr}{pos:Pos}{T id:String}{Q:Value->Shared->Prop}
  (j:typeLookup (.type T) "__getitem__" = pure (some (.builtin id))) (k:vE slice)
  (h:wpAny (model a w) A (eval value b) (fun o e=>wpAny (model a w) A (eval slice b) (fun i c=>c.TypeIs o T/\wpAny (model a w) A (getItem o i) Q E c) E e) E s) :
  wpAny (model a w) A (eval (.Subscript value slice pos) b) Q E s:=by
 refine Subscript_ (wpAny_mono h (fun o e l=>wpAny_mono l (fun i c d=>?_) fun _ _ x=>x) fun _ _ x=>x);obtain⟨f,d⟩:=d;unfold subscriptTail;refine ak ?_;rw[getitemInPython_of_ne f.not_modules];refine ak (wpAny_specialOf f j ?_);have fin:wpAny (model a w) A (subscripted slice false o i) (fun r g=>wpAny (model a w) A (letTemporaryGo value o r >>= fun _=>pure r) Q E g) E c:=by rw[k o i];exact wpAny_operating (wpAny_mono d (fun r g m=>ak (wpAny_letTemporaryGo (bc m))) fun _ _ x=>x)
 first
  | exact bc (ak fin)
  | exact ak (bc (ak fin))
  | exact ak fin
theorem IP{X:Cx}{c:List (Addr×Obj)}{Y:St}{H:Hp}{s:Shared}{a:Addr}{y:V}{o:Option V}(I:Inv X c Y H s)(g:iX H a y o):s.TypeIs (.ref a) "dict":=by
 rcases g with⟨d,k,e,_,_⟩ | ⟨d,k,b,e,_,_,_⟩
 ·obtain⟨_,_,f,_,dd⟩:=qR I.hok e;exact dd.typeIs
 ·obtain⟨_,_,h,_,dd⟩:=qT I.hok e;exact dd.typeIs
noncomputable def IQ(c e:TE):TE:=fun Y H Q=>c Y H fun x d=>e Y d fun y b=>∃a v,x=.ref a/\iX b a y (some v)/\Q v b
noncomputable def IR(e c:TE):TE:=fun Y H Q=>e Y H fun y d=>c Y d fun x b=>∃a o,x=.ref a/\iX b a y o/\Q (.bl o.isSome) b
noncomputable def IS(c h d:TE):TS:=fun D Y H=>d Y H fun v e=>c Y e fun x f=>h Y f fun y g=>∃a b,x=.ref a/\lH g a y v b/\D.nx Y b
section
variable{X:Cx}{o i e value:Expr}{pos pos' tpos:Pos}{td ty tv:TE}
theorem IT(f:X.A.units+1<cLine)(z:PE X o td)(j:PE X i ty)(k:vE i):PE X (.Subscript o i pos) (IQ td ty):=by intro b s Y H Q I h;refine IM PySem.F.slot_dict_getitem.lookup k (aU (z b s Y H _ I h) fun u l ⟨x,m,I1,n,p⟩=>aU (j b l Y m _ I1 p) fun B C ⟨y,q,d,r,a,v,ex,g,t⟩=>?_);subst ex;obtain rfl:u=Value.ref a:=n;exact⟨IP d g,IH f d g r fun D E w c=>⟨v,q,w,c,t⟩⟩
theorem IU(c:X.A.units+1<cLine)(d:PE X i ty)(v:PE X o td):PC X .In i o (IR ty td):=by intro b s Y H Q I h;refine aU (d b s Y H _ I h) fun w f ⟨y,j,I1,k,l⟩=>aU (v b f Y j _ I1 l) fun u z ⟨x,m,n,p,a,q,ex,g,r⟩=>?_;subst ex;obtain rfl:u=Value.ref a:=p;exact IJ c n g k fun B t=>⟨.bl q.isSome,m,t,rfl,r⟩
theorem IV(c:X.A.units+1<cLine)(L:PE X o td)(d:PE X i ty)(f:PE X value tv)(j:swapsWith value (some (.Subscript o i pos')) pos.line X.env=pure false) :
  PS X (.Assign [.Subscript o i pos'] value pos) (IS td ty tv):=by
 intro b s Y H D I h;refine wpAny_Assign_Subscript (aU (f b s Y H _ I h) fun r k ⟨v,l,I1,m,n⟩=>aU (L b k Y l _ I1 n) fun u p ⟨x,q,t,w,z⟩=>aU (d b p Y q _ t z) fun M N ⟨y,O,B,C,a,E,ex,g,G⟩=>?_) j;subst ex;obtain rfl:u=Value.ref a:=w;exact IL c B g C m fun Q J=>⟨Y,E,J,G⟩
end
theorem IW{P:Program}{w:World}{H:Hp}(h:Heap)(a:sysModules<h.objs.size):cJ P w H (h.push { cls:=.type "dict",data:=.dict #[] }) h.objs.size (.dT []):=
 ⟨Nat.zero_le _,beq_eq_false_iff_ne.mpr (Ne.symm (Nat.ne_of_lt a)),[],.nil,_,#[],0,Heap.get?_push_size _ rfl,⟨rfl,rfl,rfl⟩,rfl,rfl,List.nodup_nil⟩
noncomputable def IX:TE:=fun _ H Q=>∀p,H p=none->Q (.ref p) (aQ H p (.dT []))
section
variable{X:Cx}{pos:Pos}
theorem IY:PE X (.Dict [] [] pos) IX:=fun b s Y H Q I h=>wpAny_Dict_empty ⟨.ref s.heap.objs.size,_,I.laid (a:=s.heap.objs.size) (o:=.dT []) (t':=s.toks) (fun _ _ q=>bn _ q) (bI _) (IW s.heap I.big),rfl,h _ (I.hok.fresh (bI _))⟩
end
noncomputable def dO(b:Env):List (Str×NameKind)->List (Str×Addr)->List (Str×Addr)
 | [],a=>a
 | (n,k)::r,a=>if k==.free then dO b r ((n,(b.cells.lookup n).getD 0)::a) else dO b r a
theorem Ag(d:Env):∀(b:List (Str×NameKind)) (e:List (Str×Addr)),(∀y∈b,y.2=.free->(d.cells.lookup y.1).isSome=true)->
  (forIn b e fun(x:Str×NameKind) (g:List (Str×Addr))=>if (x.2==NameKind.free)=true then(do let c <-cellOf d x.1;pure (ForInStep.yield ((x.1,c)::g))) else(pure (ForInStep.yield g):Sem (ForInStep (List (Str×Addr)))))=pure (dO d b e)
 | [],e,_=>rfl
 | (n,k)::r,e,h=>by
  have i:=fun a=>Ag d r a fun y l=>h y (bL _ l);rw[List.forIn_cons];unfold dO
  by_cases f:(k==NameKind.free)=true
  ·obtain⟨c,j⟩:=Option.isSome_iff_exists.mp (h (n,k) List.mem_cons_self (by simpa using f));simp only[f,if_true];have:cellOf d n=pure c:=by unfold cellOf;rw[j]
   rw[this,j];exact i _
  ·simp only[f];exact i _
theorem Ah{a:Scope}{b:Env}(h:∀y∈a.names,y.2=.free->(b.cells.lookup y.1).isSome=true):closureFor a b=pure (dO b a.names []):=by have e:=Ag b a.names [] h;unfold closureFor;exact congrArg (fun m=>m >>= pure) e
theorem vF{b:Env}{x:Str}:∀{a:List (Str×NameKind)}{f:List (Str×Addr)}{c:Addr},(∀y∈a,y.2=.free->(b.cells.lookup y.1).isSome=true)->
  (∀c,f.lookup x=some c->b.cells.lookup x=some c)->(dO b a f).lookup x=some c->b.cells.lookup x=some c
 | [],_,_,_,g,h=>g _ h
 | (n,k)::r,f,c,i,g,h=>by
  unfold dO at h
  by_cases j:(k==NameKind.free)=true
  ·rw[if_pos j] at h;refine vF (fun y l=>i y (bL _ l)) (fun o e=>?_) h;rw[List.lookup_cons] at e;cases m:x==n with
   | true=>
    rw[m] at e;have:x=n:=by simpa using m
    subst this;obtain⟨d,hd⟩:=Option.isSome_iff_exists.mp (i (x,k) List.mem_cons_self (by simpa using j));rw[hd] at e ⊢;exact e
   | false=>rw[m] at e;exact g _ e
  ·rw[if_neg j] at h;exact vF (fun y l=>i y (bL _ l)) g h
theorem qU{env:Env}{x:Str}:∀{a:List (Str×NameKind)}{acc:List (Str×Addr)},((x,NameKind.free)∈a\/(acc.lookup x).isSome=true)->((dO env a acc).lookup x).isSome=true
 | [],_,h=>by rcases h with h | h;cases h;exact h
 | (n,k)::r,acc,h=>by
  unfold dO
  by_cases b:(k==NameKind.free)=true
  ·rw[if_pos b];refine qU ?_;rw[List.lookup_cons];cases c:x==n with
   | true=>exact .inr rfl
   | false=>
    rcases h with h | h
    ·rcases List.mem_cons.mp h with e | h
     ·cases e;simp at c
     ·exact .inl h
    ·exact .inr h
  ·rw[if_neg b];refine qU ?_;rcases h with h | h
   ·rcases List.mem_cons.mp h with e | h
    ·cases e;simp at b
    ·exact .inl h
   ·exact .inr h
noncomputable abbrev fR(a:Env):Str×NameKind->Str×NameKind:=fun(n,k)=>if (k==NameKind.free&&a.scope.kind==.function&&a.kindOf n==some .cell) then(n,NameKind.cell) else(n,k)
theorem vG{env:Env}:∀{a:List (Str×NameKind)}{x:Str}{k:NameKind},a.lookup x=some k->
  (a.map (fR env)).lookup x=some k\/(k=.free/\(a.map (fR env)).lookup x=some .cell)
 | [],_,_,h=>by simp at h
 | (n,k)::r,x,f,h=>by
  have g:=@vG env r x f;rw[List.map_cons];have e:fR env (n,k)=(n,k)\/(k=.free/\fR env (n,k)=(n,.cell)):=by
   by_cases c:(k==NameKind.free&&env.scope.kind==.function&&env.kindOf n==some .cell)=true
   ·refine .inr ⟨?_,if_pos c⟩;cases k<;>first | rfl | (simp at c)
   ·exact .inl (if_neg c)
  cases b:x==n with
  | true=>
   simp only[List.lookup_cons,b] at h;cases h;rcases e with e | ⟨d,e⟩
   ·rw[e];exact .inl (by simp only[List.lookup_cons,b])
   ·rw[e];exact .inr ⟨d,by simp only[List.lookup_cons,b]⟩
  | false=>simp only[List.lookup_cons,b] at h;rcases e with e | ⟨d,e⟩<;>(rw[e];simp only[List.lookup_cons,b];exact g h)
theorem Ai{env:Env}:∀{a:List (Str×NameKind)}{x:Str},a.lookup x=none->(a.map (fR env)).lookup x=none
 | [],_,_=>rfl
 | (n,k)::r,x,h=>by
  have d:=@Ai env r x;rw[List.map_cons];have e:fR env (n,k)=(n,k)\/fR env (n,k)=(n,.cell):=by
   by_cases c:(k==NameKind.free&&env.scope.kind==.function&&env.kindOf n==some .cell)=true
   ·exact .inr (if_pos c)
   ·exact .inl (if_neg c)
  cases b:x==n with
  | true=>simp only[List.lookup_cons,b] at h;cases h
  | false=>simp only[List.lookup_cons,b] at h;rcases e with e | e<;>(rw[e];simp only[List.lookup_cons,b];exact d h)
section
variable{prog:Program}{w:World}{A:Around}{E:Value->Shared->Prop}{R:Result->Shared->Prop}{s:Shared}
theorem IZ{e target iter:Expr}{f:List Expr}{d:Scope}{pos:Pos}{it g:Value}{a:Env}(I:Nat->Shared->Prop)
  (turn:∀n s,I n s->wpAny (model prog w) A (pyNext it) (fun r j=>match r with
   | none=>R (.ok .next) j
   | some v=>wpAny (model prog w) A (letOwnedTupleGo target it v) (fun _ i=>wpAny (model prog w) A (assign target a v) (fun _ o=>
     wpAny (model prog w) A (forIn f true fun c r=>if r=true then do let ok <-isTrue c a (eval c a);pure (ForInStep.yield ok) else pure (ForInStep.yield r)) (fun ok k=>
      if ok=true then wpAny (model prog w) A (eval e a) (fun x p=>
       wpAny (model prog w) A (call (.builtin "list.append") [g,x]) (fun _ q=>∃m,m<n/\I m q) (fun _ _=>False) p) (fun _ _=>False) k
      else ∃m,m<n/\I m k) (fun _ _=>False) o) (fun _ _=>False) i) (fun _ _=>False) j) (fun _ _=>False) s)
  (n:Nat) (h:I n s) :
  codeAny (model prog w) A (.compLoop (.ListComp e [⟨target,iter,f,0⟩] d pos) 0 it g a) R s:=by
 refine codeAny_loop rfl I (fun n s y=>?_) n h;show wpAny _ A ((compTurn (.ListComp e [⟨target,iter,f,0⟩] d pos) 0 it g a).onRaise (fun x=>do noteFrame x a;theTreesLotGoes x)) _ _ s;refine wpAny_noted (wpAny_noRaise ?_);rw[compTurn_list];refine ak (wpAny_standAt (ak (wpAny_mono (turn n s y) (fun r j t=>?_) fun _ _ b=>b)));cases r with
 | none=>exact bc t
 | some v=>
  refine ak (wpAny_mono t (fun _ i l=>?_) fun _ _ b=>b);refine ak (wpAny_mono l (fun _ o z=>ak (wpAny_mono z (fun ok k u=>?_) fun _ _ b=>b)) fun _ _ b=>b);cases ok with
  | false=>exact bc ⟨rfl,u⟩
  | true=>exact ak (ak (wpAny_mono u (fun x p B=>ak (wpAny_mono B (fun _ q C=>bc (bc ⟨rfl,C⟩)) fun _ _ b=>b)) fun _ _ b=>b))
end
theorem qV{x:Str}:∀(a:List (Str×NameKind)) (n:Nat) (b:List (Str×Addr)),((x,NameKind.cell)∉a)->(cellsFrom n a b).lookup x=b.lookup x
 | [],_,_,_=>rfl
 | (y,k)::r,n,b,h=>by
  unfold cellsFrom;have c:(x,NameKind.cell)∉r:=fun z=>h (bL _ z);split
  ·rename_i d;rw[qV r _ _ c,List.lookup_cons];have:(x==y)=false:=by
    cases e:x==y with
    | false=>rfl
    | true=>exact absurd (by rw[eq_of_beq e,<-eq_of_beq d];exact List.mem_cons_self) h
   rw[this]
  ·exact qV r _ _ c
theorem vH{x:Str}{c:Addr}:∀(a:List (Str×NameKind)) (h:Heap) (b:List (Str×Addr)),(cellsFrom h.objs.size a b).lookup x=some c->b.lookup x=some c\/(h.objs.size<=c/\(x,NameKind.cell)∈a/\(pushCells h a).IsCell c none)
 | [],_,_,e=>.inl e
 | (y,k)::r,h,b,e=>by
  unfold cellsFrom at e;unfold pushCells;split at e
  ·rename_i d;rw[if_pos d];have sz:(h.push { cls:=.type "cell",data:=.cell none }).objs.size=h.objs.size+1:=Heap.size_push ..;rw[<-sz] at e;rcases vH r _ _ e with z | ⟨f,g,i⟩
   ·rw[List.lookup_cons] at z;split at z
    ·rename_i j;cases z;refine .inr ⟨bI _,?_,⟨_,pushCells_keeps r _ _ _ (Heap.get?_push_size _ rfl),rfl⟩⟩;rw[eq_of_beq j,<-eq_of_beq d];exact List.mem_cons_self
    ·exact .inl z
   ·exact .inr ⟨by rw[sz] at f;omega,bL _ g,i⟩
  ·rename_i d;rw[if_neg d];rcases vH r _ _ e with z | ⟨f,g,i⟩
   ·exact .inl z
   ·exact .inr ⟨f,bL _ g,i⟩
theorem vI{x:Str}{c:Addr}:∀(a:List (Str×NameKind)) (n:Nat) (b:List (Str×Addr)),(x,NameKind.cell)∈a->(cellsFrom n a b).lookup x=some c->n<=c
 | (y,k)::r,n,b,f,e=>by
  unfold cellsFrom at e
  by_cases d:(x,NameKind.cell)∈r
  ·split at e
   ·have:=vI r _ _ d e;omega
   ·exact vI r _ _ d e
  ·rcases List.mem_cons.mp f with z | z
   ·cases z;rw[if_pos (by rfl),qV r _ _ d,List.lookup_cons,beq_self_eq_true] at e;cases e;exact bI _
   ·exact absurd z d
theorem vJ{x:Str}:∀(a:List (Str×NameKind)) (n:Nat) (b:List (Str×Addr)),((x,NameKind.cell)∈a\/(b.lookup x).isSome=true)->((cellsFrom n a b).lookup x).isSome=true
 | [],_,_,h=>by rcases h with h | h;cases h;exact h
 | (y,k)::r,n,b,h=>by
  unfold cellsFrom;split
  ·rename_i c;refine vJ r _ _ ?_;rcases h with h | h
   ·rcases List.mem_cons.mp h with z | z
    ·cases z;right;rw[List.lookup_cons,beq_self_eq_true];rfl
    ·exact .inl z
   ·right;rw[List.lookup_cons];split
    ·rfl
    ·exact h
  ·rename_i c;refine vJ r _ _ ?_;rcases h with h | h
   ·rcases List.mem_cons.mp h with z | z
    ·cases z;exact absurd rfl c
    ·exact .inl z
   ·exact .inr h
theorem vK{x y:Str}{c:Addr}{lo:Nat}:∀(i:List (Str×NameKind)) (n:Nat) (d:List (Str×Addr)),(∀x y c,lo<=c->d.lookup x=some c->d.lookup y=some c->x=y)->(∀x c,d.lookup x=some c->c<n)->lo<=c->(cellsFrom n i d).lookup x=some c->(cellsFrom n i d).lookup y=some c->x=y
 | [],_,_,h,_,l,g,f=>h _ _ _ l g f
 | (z,k)::r,n,d,h,hb,l,g,f=>by
  unfold cellsFrom at g f;split at g
  ·rename_i j;rw[if_pos j] at f;refine vK r (n+1) ((z,n)::d) (fun x y c l g f=>?_) (fun x c e=>?_) l g f
   ·rw[List.lookup_cons] at g f;split at g<;>split at f
    ·rename_i a _ b;rw[eq_of_beq a,eq_of_beq b]
    ·cases g;exact absurd (hb _ _ f) (Nat.lt_irrefl _)
    ·cases f;exact absurd (hb _ _ g) (Nat.lt_irrefl _)
    ·exact h _ _ _ l g f
   ·rw[List.lookup_cons] at e;split at e
    ·cases e;exact Nat.lt_succ_self _
    ·exact Nat.lt_succ_of_lt (hb _ _ e)
  ·rename_i j;rw[if_neg j] at f;exact vK r n d h hb l g f
theorem Ja{M:Model}{A:Around}{E:Value->Shared->Prop}{s:Shared}{scope:Scope}{globals:Addr}{cl:List (Str×Addr)}{qual:Str}{a:Env}{Q:Env->Shared->Prop}
  (h:Q { scope,locals:=s.heap.objs.size,globals,cells:=cellsFrom (s.heap.objs.size+1) scope.names cl,qual,func:=none,code:=a.code,frame:=a.frame,builtins:=a.builtins } { s with heap:=pushCells (s.heap.push { cls:=.type "dict",data:=.dict #[] }) scope.names }) :
  wpAny M A (newFunctionEnv scope globals cl [] qual none .none (some a)) Q E s:=by
 simp only[newFunctionEnv,Option.isSome_some,if_true];refine ak (wpAny_alloc ?_);refine ak (wpAny_layCells _ (fun name kind cells=>by cases b:kind==NameKind.cell<;>simp[b]) _ _ _ _ ?_);rw[show({ s with heap:=s.heap.push { cls:=.type "dict",data:=.dict #[] } }:Shared).heap.objs.size=s.heap.objs.size+1 from Heap.size_push ..];exact ak (bc (bc h))
noncomputable abbrev bP(X:Cx)(scope:Scope)(N':List Str)(C:Addr)(fp:List Addr)(s₂:Shared)(H₂:Hp)(pl:List (Addr×Obj)):Cx where
 prog:=X.prog
 w:=X.w
 K:=X.K
 mg:=X.mg
 base:=X.base
 A:=X.A
 N:=N'
 s₀:=s₂
 H₀:=H₂
 env:=compEnvC scope (cellsFrom (C+1) scope.names (dO X.env scope.names [])) C X.env
 outer:=X.stack
 stack:=X.stack
 ex:=fp
 fn:=fun y=>scope.names.lookup y==some .cell
 calm:=X.calm
 pn:=X.pn++pl
 xe:=fun _ _=>False
structure ag (X:Cx) (scope:Scope) (own capN:List Str) (caps:List Nat):Prop where
 kind:scope.kind=.function
 one:∀y∈scope.names,scope.names.lookup y.1=some y.2
 free:∀y∈scope.names,y.2=.free->X.env.kindOf y.1=some .cell\/X.env.kindOf y.1=some .free
 loc:∀y∈scope.names,y.2=.local->scope.names.lookup y.1=some .local
 caps:caps.map (fun j=>X.N[j]?)=capN.map some
 capf:∀x∈capN,scope.names.lookup x=some .free
noncomputable def dH(own:List Str)(a:List Nat)(Y:St):St:=own.map (fun _=>none)++a.map (fun j=>(Y[j]?).getD none)
section
variable{X:Cx}{scope:Scope}{own capN:List Str}{caps:List Nat}
theorem ag.cells(S:ag X scope own capN caps)(ok:X.Ok):∀y∈scope.names,y.2=.free->(X.env.cells.lookup y.1).isSome=true:=fun y a b=>by obtain⟨c,d⟩:=ok.has y.1 (S.free y a b);rw[d];rfl
theorem ag.cl(S:ag X scope own capN caps)(ok:X.Ok){x:Str}{c:Addr}(h:(dO X.env scope.names []).lookup x=some c):X.env.cells.lookup x=some c:=
 vF (S.cells ok) (fun _ e=>by simp at e) h
theorem Jb{f:List (Addr×Obj)}{Y:St}{H₂:Hp}{B:Shared}{L:Heap}{C:Addr}{fp:List Addr}{tk:Nat}{m:Str->Option Value}(S:ag X scope own capN caps)(I:Inv X f Y H₂ B)
  (hf:∀b∈fp,hV X f H₂ b) (M:∀b∈fp,b<B.heap.objs.size) (t:B.heap.objs.size<=C) (O:∀b o,B.heap.get? b=some o->L.get? b=some o) (hn:L.Ns C m) (Q:∀x c,(cellsFrom (C+1) scope.names (dO X.env scope.names [])).lookup x=some c->(dO X.env scope.names []).lookup x=some c\/(C+1<=c/\L.IsCell c none)) :
  Inv (bP X scope (own++capN) C fp B H₂ f) [] (dH own caps Y) H₂ { B with heap:=L,toks:=tk }:=by
 have cl:=fun {x:Str}{c:Addr}=>S.cl (x:=x) (c:=c) I.ok;have lt:∀{x:Str}{c:Addr},X.env.cells.lookup x=some c->c<B.heap.objs.size:=fun e=>by obtain⟨v,q⟩:=I.cell _ _ e;exact q.lt
 have D:∀{x:Str}{c:Addr},X.env.cells.lookup x=some c->C+1<=c->False:=fun e z=>absurd (Nat.lt_of_lt_of_le (lt e) (Nat.le_trans t (Nat.le_of_succ_le z))) (Nat.lt_irrefl _);have a:∀{x:Str}{c:Addr},(cellsFrom (C+1) scope.names (dO X.env scope.names [])).lookup x=some c->X.env.cells.lookup x=some c\/(C+1<=c/\L.IsCell c none):=fun {x c} e=>(Q x c e).imp (fun z=>cl z) fun z=>z;have r:∀x,((relabel scope X.env).names.lookup x=some .cell\/(relabel scope X.env).names.lookup x=some .free)->scope.names.lookup x=some .free\/scope.names.lookup x=some .cell:=fun x H=>by
  cases e:scope.names.lookup x with
  | none=>have z:(relabel scope X.env).names.lookup x=none:=Ai (env:=X.env) e;rw[z] at H;rcases H with q | q<;>cases q
  | some k=>
   rcases vG (env:=X.env) e with z | ⟨z,_⟩
   ·have z':(relabel scope X.env).names.lookup x=some k:=z;rw[z'] at H;rcases H with q | q
    ·cases q;exact .inr rfl
    ·cases q;exact .inl rfl
   ·rw[z];exact .inl rfl
 have stk:∀b,b≠X.env.locals->b∉X.fs->b∉bV X.stack:=fun b J g z=>(List.mem_cons.mp (I.stkSub b z)).elim J g;refine⟨⟨I.ok.mod,S.kind,I.ok.glob,I.ok.blt,t,fun x y c J g=>?inj,fun x H=>?_,fun x c h e=>?cab,I.ok.hd,I.ok.frames,.inl rfl,fun b A=>⟨?_,fun x c h=>?exf⟩,
   I.bs,Nat.le_trans I.ok.bsz I.sz,fun b o e A=>?_,fun b A=>stk b (hf b A).2.1 (hf b A).2.2.1,I.stack,I.stkFree⟩,
  rfl,I.bare,Un.kept O,⟨m,hn,fun i x v J g h3=>?_⟩,fun x c h=>?_,I.hok.fresh t,fun x c h=>?frc,fun p hp=>?_,I.hok.kept O,?_⟩
 case inj=>
  rcases a J with R | ⟨R,_⟩<;>rcases a g with z2 | ⟨z2,_⟩
  ·exact I.ok.inj x y c R z2
  ·exact(D R z2).elim
  ·exact(D z2 R).elim
  ·exact vK (lo:=C+1) scope.names (C+1) (dO X.env scope.names []) (fun x y c l e _=>(D (cl e) l).elim) (fun x c e=>Nat.lt_succ_of_le (Nat.le_trans (Nat.le_of_lt (lt (cl e))) t)) R J g
 case cab=>have e1:=eq_of_beq (show(scope.names.lookup x==some NameKind.cell)=true from h);have:=vI scope.names (C+1) (dO X.env scope.names []) (PySem.mem_of_lookup e1) e;exact Nat.le_trans t (Nat.le_of_succ_le this)
 case exf=>
  rcases a h with z | ⟨z,_⟩
  ·exact(hf b A).2.2.2.2.1 x c z
  ·exact Ne.symm (Nat.ne_of_lt (Nat.lt_of_lt_of_le (M b A) (Nat.le_trans t (Nat.le_of_succ_le z))))
 case frc=>
  rcases a h with z | ⟨z,_⟩
  ·exact I.freeC x c z
  ·exact I.hok.fresh (Nat.le_trans t (Nat.le_of_succ_le z))
 ·refine Option.isSome_iff_exists.mp (vJ scope.names (C+1) (dO X.env scope.names []) ?_);rcases r x H with q | q
  ·exact .inr (qU (env:=X.env) (.inl (PySem.mem_of_lookup q)))
  ·exact .inl (PySem.mem_of_lookup q)
 ·exact Nat.ne_of_lt (Nat.lt_of_lt_of_le (M b A) t)
 ·rcases(hf b A).2.2.2.1 with z | z
  ·exact I.ok.noex b o e z
  ·exact absurd (Nat.lt_of_lt_of_le (bw (I.ok.bs b o e).1) z) (Nat.lt_irrefl _)
 ·
  have hi:own.length<=i:=by
   refine Nat.le_of_not_lt fun a1=>?_;unfold dH at g;rw[List.getElem?_append_left (by simpa using a1),List.getElem?_map] at g;cases q:own[i]? with
   | none=>rw[q] at g;cases g
   | some y=>rw[q] at g;cases g
  have T:capN[i - own.length]? = some x:=by
   have:(own++capN)[i]? = some x:=J
   rwa [List.getElem?_append_right hi] at this
  have U:(caps.map (fun j=>(Y[j]?).getD none))[i - own.length]? = some (some v):=by
   unfold dH at g
   rwa [List.getElem?_append_right (by simpa using hi),List.length_map] at g
  rw[List.getElem?_map] at U;obtain⟨j,hj,s⟩:=Option.map_eq_some_iff.mp U;have hX:X.N[j]? = some x:=by have q:=congrArg (fun l=>l[i - own.length]?) S.caps;simp only[List.getElem?_map,hj,T,Option.map_some] at q;exact Option.some.inj q
  have hY:Y[j]? = some (some v):=by
   cases q:Y[j]? with
   | none=>rw[q] at s;cases s
   | some z=>rw[q] at s;simp at s;rw[s]
  have E:=S.capf x (List.mem_of_getElem? T);have w:(x,NameKind.free)∈scope.names:=PySem.mem_of_lookup E;have Z:=S.free _ w rfl;obtain⟨m',a3,hl⟩:=I.loc;obtain⟨u,ru,l⟩:=hl j x v hX hY (Z.elim (fun q=>.inr (.inl q)) fun q=>.inr (.inr q));refine⟨u,ru,.inr ⟨?_,?_⟩⟩
  ·rcases vG (env:=X.env) E with z | ⟨_,z⟩
   ·exact .inr z
   ·exact .inl z
  ·rcases l with⟨l,_⟩ | ⟨_,c,hc,G⟩
   ·have l':X.env.kindOf x=some .local:=l;rcases Z with q | q<;>(rw[l'] at q;cases q)
   ·obtain⟨c',a0⟩:=Option.isSome_iff_exists.mp (qU (env:=X.env) (acc:=[]) (.inl w));have:=cl a0;rw[hc] at this;cases this;obtain⟨o,ho,hd⟩:=G;have nc:(x,NameKind.cell)∉scope.names:=fun z=>by have:=S.one _ z;rw[E] at this;cases this
    exact⟨c,(qV scope.names (C+1) (dO X.env scope.names []) nc).trans a0,o,O c o ho,hd⟩
 ·rcases a h with z | ⟨_,z⟩
  ·obtain⟨v,o,ho,hd⟩:=I.cell x c z;exact⟨v,o,O c o ho,hd⟩
  ·exact⟨_,z⟩
 ·have a2:p∈X.pn++f:=by simpa using hp
  obtain⟨e,n,ne,nf,d⟩:=I.pin p a2;exact⟨O _ _ e,n,Nat.ne_of_lt (Nat.lt_of_lt_of_le (bw e) t),stk p.1 ne nf,d⟩
 ·unfold dH;have hl:=congrArg List.length S.caps;simp only[List.length_map] at hl;show(own.map (fun _=>(none:Option V))++caps.map (fun j=>(Y[j]?).getD none)).length=(own++capN).length;rw[List.length_append,List.length_append,List.length_map,List.length_map,hl]
end
def mJ(X:Cx)(b:List Expr)(t:TT):Prop:=
 ∀(a:List (Addr×Obj)) (s:Shared) (Y:St) (H:Hp) (Q:Bool->Hp->Prop),Inv X a Y H s->t Y H Q->
  wpAny (model X.prog X.w) X.A (forIn b true fun c r=>if r=true then do let ok <-isTrue c X.env (eval c X.env);pure (ForInStep.yield ok) else pure (ForInStep.yield r)) (TP X a Y Q) X.xe s
noncomputable def Jc:TT:=fun _ H Q=>Q true H
theorem Jd{X:Cx}:mJ X [] Jc:=fun _ _ _ H _ I h=>wpAny_tests_nil ⟨H,I,h⟩
theorem Je{X:Cx}{c:Expr}{t:TT}(h:PT X c t):mJ X [c] t:=fun a s Y H Q I q=>wpAny_tests_one (h a s Y H Q I q)
noncomputable def kj(own:List Str)(d:List Nat)(k:TI)(g:TG)(l:TT)(n:TE):TE:=fun Y H Q=>k Y H fun J o=>∃W:Nat->Nat->List V->St->Hp->Prop,(∃m,W 0 m [] (dH own d Y) o)/\∀i m a f H,W i m a f H->
 (J.stop i H/\a.length<=sizeLine/\∀p,H p=none->Q (.ref p) (aQ H p (.lst a)))\/
 (J.go i H/\∀x h,J.yld i H x h->g x f h fun e q=>l e q fun b j=>if b=true then n e j fun y r=>a.length<sizeLine/\∃c,c<m/\W (i+1) c (a++[y]) e r else ∃c,c<m/\W (i+1) c a e j)
section
variable{X:Cx}{scope:Scope}{own capN:List Str}{caps:List Nat}{tg iter elt:Expr}{ifs:List Expr}{wi:TI}{g:TG}{tc:TT}{te:TE}{pos:Pos}
theorem Aj{f:List (Addr×Obj)}{Y:St}{H:Hp}{s:Shared}{Q:VK}{RR:Value->Addr->Result->Shared->Prop}(S:ag X scope own capN caps)(hc:X.calm=true)(hi:PI X tg iter wi)
  (b9:∀C E s₂ H₂ pl,PG (bP X scope (own++capN) C E s₂ H₂ pl) tg g/\mJ (bP X scope (own++capN) C E s₂ H₂ pl) ifs tc/\PE (bP X scope (own++capN) C E s₂ H₂ pl) elt te)
  (I:Inv X f Y H s) (h:kj own caps wi g tc te Y H Q)
  (c0:∀(D C:Addr) (s':Shared) (M:Hp) (m:Str->Option Value),Inv X f Y M s'->hV X f M C->s'.heap.Ns C m->Q (.ref D) M->RR (.ref D) C (.ok .next) s') :
  wpAny (model X.prog X.w) X.A (eval iter X.env) (fun x s₁=>wpAny (model X.prog X.w) X.A (pyIter x) (fun it s₂=>wpAny (model X.prog X.w) X.A (newList []) (fun b4 s₃=>
   wpAny (model X.prog X.w) X.A (newFunctionEnv scope X.env.globals (dO X.env scope.names []) [] X.env.qual none .none (some X.env)) (fun a8 s₄=>
    codeAny (model X.prog X.w) X.A (.compStart (.ListComp elt [⟨tg,iter,ifs,0⟩] scope pos) 0 it b4 { a8 with scope:=relabel scope X.env }) (RR b4 a8.locals) s₄) X.xe s₃) X.xe s₂) X.xe s₁) X.xe s:=by
 refine aU (hi f s Y H _ I h) fun v s1 h1=>aU h1 fun c7 B h2=>?_;obtain⟨it,E,tn,J,Z,e,I2,T,b1,f2,W,⟨m0,w0⟩,b5⟩:=h2;subst e;have a0:∀b∈E,b<B.heap.objs.size:=fun b t=>by obtain⟨o,e,_⟩:=T.obj _ _ b1 b t;exact bw e
 refine wpAny_newObj_type (Ja ?_);dsimp only;generalize a4:B.heap.push { cls:=.type "list",dict:=none,data:=.seq ([]:List Value).toArray }=G;have hC:G.objs.size=B.heap.objs.size+1:=by rw[<-a4,Heap.size_push]
 have l:B.heap.objs.size<=G.objs.size:=by rw[hC];exact Nat.le_succ _
 have a5:B.heap.objs.size≠G.objs.size:=by rw[hC];exact Nat.ne_of_lt (Nat.lt_succ_self _)
 have below:∀b,b<B.heap.objs.size->b≠G.objs.size:=fun b t=>by rw[hC];exact Nat.ne_of_lt (Nat.lt_succ_of_lt t)
 have b6:(G.push { cls:=.type "dict",data:=.dict #[] }).objs.size=G.objs.size+1:=Heap.size_push ..;have L:∀x c,(cellsFrom (G.objs.size+1) scope.names (dO X.env scope.names [])).lookup x=some c->(dO X.env scope.names []).lookup x=some c\/(G.objs.size+1<=c/\(pushCells (G.push { cls:=.type "dict",data:=.dict #[] }) scope.names).IsCell c none):=fun x c e=>by rw[<-b6] at e ⊢;exact(vH scope.names _ _ e).imp (fun z=>z) fun⟨z1,_,z2⟩=>⟨z1,z2⟩
 have a1:(pushCells (G.push { cls:=.type "dict",data:=.dict #[] }) scope.names).Ns G.objs.size (fun _=>none):=(Heap.Ns.new G (.type "dict")).keeps (pushCells_keeps _ _);have old:∀b o,B.heap.get? b=some o->(pushCells (G.push { cls:=.type "dict",data:=.dict #[] }) scope.names).get? b=some o:=fun b o e=>pushCells_keeps _ _ b o (bn _ (a4▸bn _ e));have a2:(pushCells (G.push { cls:=.type "dict",data:=.dict #[] }) scope.names).get? B.heap.objs.size=some { cls:=.type "list",dict:=none,data:=.seq ([]:List Value).toArray }:=pushCells_keeps _ _ _ _ (bn _ (a4▸Heap.get?_push_size _ rfl));generalize pushCells (G.push { cls:=.type "dict",data:=.dict #[] }) scope.names=h₁ at L a1 old a2 ⊢;generalize c1:G.objs.size=C at a1 a5 l below L ⊢;generalize j:B.heap.objs.size=D at a2 a5 ⊢;clear a4 hC c1 b6 G;obtain⟨hg,ht,he⟩:=b9 C E B Z f;have Ic:Inv (bP X scope (own++capN) C E B Z f) [] (dH own caps Y) Z { B with heap:=h₁,toks:=B.toks }:=Jb S I2 f2 a0 (by rw[j];rw[j] at l;exact l) old a1 L;have a6:∀x c,(cellsFrom (C+1) scope.names (dO X.env scope.names [])).lookup x=some c->c≠D:=fun x c e z=>by
  rcases L x c e with e | ⟨e,_⟩
  ·obtain⟨v,q⟩:=I2.cell x c (S.cl I2.ok e);exact absurd q.lt (by rw[z,j];exact Nat.lt_irrefl _)
  ·rw[j] at l;exact absurd (Nat.lt_of_le_of_lt l (Nat.lt_of_lt_of_le (Nat.lt_succ_self C) e)) (by rw[z];exact Nat.lt_irrefl _)
 have a7:D∉bV X.stack:=fun z=>by
  rcases List.mem_cons.mp (I2.stkSub D z) with q | q
  ·exact absurd I2.lt (by rw[<-q,j];exact Nat.lt_irrefl _)
  ·exact I2.nofs (by rw[j];exact bI _) q
 have a3:∀p∈X.pn++f,p.1≠D:=fun p N z=>absurd (bw (I2.pin p N).1) (by rw[z,j];exact Nat.lt_irrefl _);have a9:∀{Y':St}{M:Hp}{s':Shared}{O:List Value}{k:Nat},Inv (bP X scope (own++capN) C E B Z f) [] Y' M s'->s'.heap.get? D=some { cls:=.type "list",data:=.seq O.toArray k }->M D=none->
   Inv (bP X scope (own++capN) C E B Z f) [(D,{ cls:=.type "list",data:=.seq O.toArray k })] Y' M s':=fun J e n=>J.pins_of fun p N=>by
  obtain rfl:=List.mem_singleton.mp N;exact⟨e,n,a5,a7,fun v z=>by cases z⟩
 have b2:∀{M:Hp}{o:Obj},(∀b∈E,M b=none)->∀b∈E,hV (bP X scope (own++capN) C E B Z f) [(D,o)] M b:=fun hn b t=>by
  obtain⟨f0,f1,c2,f3,f4,f5⟩:=f2 b t;refine⟨hn b t,Nat.ne_of_lt (Nat.lt_of_lt_of_le (a0 b t) (by rw[j];rw[j] at l;exact l)),fun z=>(List.mem_cons.mp (I2.stkSub b z)).elim f1 c2,.inl t,fun x c e=>?cl,fun p N=>?_⟩
  case cl=>
   rcases L x c e with e | ⟨e,_⟩
   ·exact f4 x c (S.cl I2.ok e)
   ·exact Ne.symm (Nat.ne_of_lt (Nat.lt_of_lt_of_le (a0 b t) (Nat.le_trans (by rw[j];rw[j] at l;exact l) (Nat.le_of_succ_le e))))
  rcases List.mem_append.mp N with N | N
  ·exact f5 p N
  ·obtain rfl:=List.mem_singleton.mp N;intro z;have z':D=b:=z;exact absurd (a0 b t) (by rw[<-z',j];exact Nat.lt_irrefl _)
 have b0:codeAny (model X.prog X.w) X.A (.compLoop (.ListComp elt [⟨tg,iter,ifs,0⟩] scope pos) 0 (.ref it) (.ref D) (compEnvC scope (cellsFrom (C+1) scope.names (dO X.env scope.names [])) C X.env)) (RR (.ref D) C) { B with heap:=h₁,toks:=B.toks }:=by
  refine IZ (fun n s'=>∃i ys O k Y' M,Inv (bP X scope (own++capN) C E B Z f) [(D,{ cls:=.type "list",data:=.seq O.toArray k })] Y' M s'/\tn i s'.heap/\(∀b∈E,M b=none)/\bq ys O/\W i n ys Y' M) ?_ m0
   ⟨0,[],[],0,_,Z,a9 Ic a2 (I2.hok.fresh (by rw[j];exact bI _)),T.keep _ _ _ b1 fun b _ o e=>old b o e,fun b t=>(f2 b t).1,.nil,w0⟩
  rintro n s3 ⟨i,ys,O,k,Y3,H3,I3,b7,b8,r3,w3⟩;rcases b5 i n ys Y3 H3 w3 with⟨stop,hz,qn⟩ | ⟨go,step⟩
  ·refine aU (T.done (bP X scope (own++capN) C E B Z f) rfl rfl rfl hc i _ s3 Y3 H3 _ I3 (b2 b8) b7 stop) fun r s4 ⟨hr,R⟩=>?_;subst hr;obtain⟨eD,nD,_⟩:=R.pin (D,_) (bo _ (List.mem_singleton.mpr rfl));have U:H3 D=none:=nD;have I5:Inv X f Y (aQ H3 D (.lst ys)) s4:=by
    refine I2.call' (ch:=E) R.os ⟨R.base.keep,R.base.slot,fun b o e n hx=>?_,R.base.there,fun b xs e=>?_,fun b o u e=>?_,fun b ps e=>?_⟩ (fun b u e=>?_) R.bare fun b t=>⟨(f2 b t).2.2.2.1,(f2 b t).2.1,(f2 b t).2.2.2.2.1,(f2 b t).2.2.2.2.2⟩
    ·rw[bv (by intro z;exact absurd (bw e) (by rw[z,j];exact Nat.lt_irrefl _))];exact R.base.free b o e n hx
    ·have q:=R.base.tups b xs e;rw[bv (iy q U)];exact q
    ·have q:=R.base.frzs b o u e;rw[bv (iy q U)];exact q
    ·obtain⟨more,q⟩:=R.base.tbls b ps e;exact⟨more,by rw[bv (iy q U)];exact q⟩
    ·by_cases t:b=D
     ·subst t;rw[cF] at e;cases e;exact⟨hz,O,k,r3,eD⟩
     ·rw[bv t] at e;exact(R.hok b u e).stay (fun _ _ _ q=>q) (fun c q=>by rw[bv (iy q U)];exact q) fun c xs q=>by rw[bv (iy q U)];exact q
   obtain⟨m,hm,_⟩:=R.loc;exact c0 D C s4 _ m I5 (I2.fpOk (by rw[j];rw[j] at l;exact l) (by rw[bv (Ne.symm a5)];exact R.free)) hm (qn D U)
  ·refine aU (T.item (bP X scope (own++capN) C E B Z f) rfl rfl rfl hc i _ s3 Y3 H3 _ I3 (b2 b8) b7 go) fun r s4 ⟨u,hr,h4⟩=>?_;subst hr;refine aU h4 fun _ s5 ⟨x,H5,I5,r5,y5,b3,c3⟩=>?_;have c4:=I5.pinned (b2 c3) (T.obj _ _ b3);refine aU (hg _ s5 Y3 H5 x u _ c4 r5 (step x H5 y5)) fun _ s6 ⟨Y6,H6,I6,q6⟩=>?_;refine aU (ht _ s6 Y6 H6 _ I6 q6) fun ok s7 ⟨H7,I7,q7⟩=>?_;have eL:∀{Y8:St}{H8:Hp}{s8:Shared},Inv (bP X scope (own++capN) C E B Z f) ([(D,{ cls:=.type "list",data:=.seq O.toArray k })]++om E s5.heap) Y8 H8 s8->tn (i+1) s8.heap/\(∀b∈E,H8 b=none):=fun {Y8 H8 s8} I8=>by refine⟨T.keep _ _ _ b3 fun b t o e=>(I8.pin (b,o) (bo _ (bo _ (qD t e)))).1,fun b t=>?_⟩;obtain⟨o,e,d⟩:=T.obj _ _ b3 b t;exact(I8.pin (b,o) (bo _ (bo _ (qD t e)))).2.1
   cases ok with
   | false=>obtain⟨m',hm,w7⟩:=q7;obtain⟨t7,n7⟩:=eL I7;exact⟨m',hm,i+1,ys,O,k,Y6,H7,I7.unpinned,t7,n7,r3,w7⟩
   | true=>
    refine aU (he _ s7 Y6 H7 _ I7 q7) fun u8 s8 ⟨y,H8,I8,r8,hz,m',hm,w8⟩=>?_;obtain⟨t8,n8⟩:=eL I8;have I9:=I8.unpinned;obtain⟨eD,nD,c5,c8,_⟩:=I9.pin (D,_) (bo _ (List.mem_singleton.mpr rfl));have hl:=r3.length;refine call_meets F.slot_list_append ⟨_,eD,rfl⟩ F.entry_list_append (F.args_list_append_2 _ _) (PySem.list_append D O.toArray k u8 (by rw[List.size_toArray];omega)) ⟨eD,?_⟩;have q:=PySem.IsL.update eD (fun a=>a.push u8);have e2:O.toArray.push u8=(O++[u8]).toArray:=by simp
    rw[e2] at q;have keep:∀b o,b≠D->s8.heap.get? b=some o->(s8.heap.update D (Obj.mapSeq fun a=>a.push u8)).get? b=some o:=fun b o t e=>(Heap.get?_update_other s8.heap _ (Ne.symm t)).trans e;have c6:Inv (bP X scope (own++capN) C E B Z f) [] Y6 H8 { s8 with heap:=s8.heap.update D (Obj.mapSeq fun a=>a.push u8) }:=by refine(I9.pins_of (pins':=[]) fun p N=>absurd N (by simp)).turned (t':=s8.toks) (it:=D) keep nD c5 (.inr (by rw[j];exact bI _)) a6 fun p N=>?_;exact a3 p (by simpa using N)
    exact⟨m',hm,i+1,ys++[y],O++[u8],_,Y6,H8,a9 c6 q nD,T.keep _ _ _ t8 fun b t o e=>keep b o (by intro z;exact absurd (a0 b t) (by rw[z,j];exact Nat.lt_irrefl _)) e,n8,r3.append (.cons r8 .nil),w8⟩
 exact codeAny_compStart_list b0 (wpAny_noRaise (T.self _ 0 _ _ _ (T.keep _ _ _ b1 fun b _ o e=>old b o e) b0))
theorem qW(S:ag X scope own capN caps)(n:X.calm=true)(p:PI X tg iter wi)
  (a:∀C c d i k,PG (bP X scope (own++capN) C c d i k) tg g/\mJ (bP X scope (own++capN) C c d i k) ifs tc/\PE (bP X scope (own++capN) C c d i k) elt te)
  (r:∀x,foldedSetIterable iter X.env x=pure x:=by intro _;rfl):PE X (.ListComp elt [⟨tg,iter,ifs,0⟩] scope pos) (kj own caps wi g tc te):=by
 intro l s Y H Q I h;rw[eval_ListComp];refine wpAny_comprehension_free (use:=none) rfl r (Ah (S.cells I.ok)) S.kind S.loc ?_;refine Aj S n p a I h fun D C t u m v f w q=>⟨m,w,fun z j=>?_⟩
 exact⟨.ref D,u,v.turned (t':=t.toks) (it:=C) (fun b o y e=>(j.2 b y).trans e) f.1 f.2.1 f.2.2.2.1 f.2.2.2.2.1 f.2.2.2.2.2,rfl,q⟩
theorem Ak{i:Nat}{y:Str}{py c:Pos}(B:X.N.Nodup)(j:X.N[i]? = some y)(E:gC X.env.scope y)(S:ag X scope own capN caps)(G:X.calm=true)(J:PI X tg iter wi)
  (k:∀C l n p w,PG (bP X scope (own++capN) C l n p w) tg g/\mJ (bP X scope (own++capN) C l n p w) ifs tc/\PE (bP X scope (own++capN) C l n p w) elt te)
  (r:swapsWith (.ListComp elt [⟨tg,iter,ifs,0⟩] scope pos) (some (.Name y py)) c.line X.env=pure true:=by rfl)
  (L:∀x,foldedSetIterable iter X.env x=pure x:=by intro _;rfl) (M:X.fn y=true\/X.env.scope.names.lookup y=some .local:=by first | exact .inl rfl | exact .inr rfl | assumption) :
  PS X (.Assign [.Name y py] (.ListComp elt [⟨tg,iter,ifs,0⟩] scope pos) c) (vf (kj own caps wi g tc te) (qA i)):=by
 intro d s Y H D I h;rw[exec_Assign_Name_used _ _ _ _ r];refine ak (wpAny_standAt (ak ?_));show wpAny _ X.A (do let _ <-comprehension (.ListComp elt [⟨tg,iter,ifs,0⟩] scope pos) scope X.env _ (newList []) false (eval iter X.env) (some (assign (.Name y py) X.env))) _ _ s;refine ak (wpAny_mono (wpAny_comprehension_free (use:=some (assign (.Name y py) X.env)) (Q:=fun _ t=>SP X d D .next t) rfl L (Ah (S.cells I.ok)) S.kind S.loc ?_) (fun _ t O=>bc (bc O)) fun _ _ e=>e);refine Aj S G J k I h fun Da C t R m T f U q=>?_;show wpAny _ X.A (assign (.Name y py) X.env (.ref Da)) _ _ _;refine wpAny_assign_Name (zh T B j E (v:=.ref Da) rfl (fun Z I2 ⟨a,sb,ha⟩=>⟨m,?_,fun h' u=>?_⟩) M)
 ·refine U.sameBut sb ?_;rcases ha with z | z
  ·rw[z];exact f.2.1
  ·exact Ne.symm (f.2.2.2.2.1 y a z)
 ·exact⟨_,R,I2.turned (t':=Z.toks) (it:=C) (fun b o hb e=>(u.2 b hb).trans e) f.1 f.2.1 f.2.2.2.1 f.2.2.2.2.1 f.2.2.2.2.2,q⟩
end
end L2
namespace L2
open PySem
theorem Jf{M:Model}{A:Around}{E:Value->Shared->Prop}{s:Shared}{a:Addr}{Q:Option Obj->Shared->Prop}(h:Q (s.heap.get? a) s):wpAny M A (loadIfAlive a) Q E s:=by intro Γ p b;unfold loadIfAlive;rw[Sem.wp_loadIfAlive];exact bc h Γ p b
abbrev fx(h:Heap)(z TI TO:Addr)(a f1:Value):Prop:=
 h.get? z=some { cls:=.type "zip",dict:=none,data:=.fields #[a,f1,.bool false,.ref TI,.ref TO],slots:=#[] }
abbrev dP(h:Heap)(T:Addr)(a b c:Value):Prop:=h.get? T=some { cls:=.type "tuple",data:=.seq #[a,b,c] }
section
variable{prog:Program}{w:World}{A:Around}{E:Value->Shared->Prop}{s:Shared}
theorem vL{T:Addr}{a b c x:Value}{k:Nat}{Q:Unit->Shared->Prop}(e:dP s.heap T a b c)
  (h:∀d,d.get? T=some { cls:=.type "tuple",data:=.seq ((#[a,b,c]:Array Value).setIfInBounds k x) }->Heap.SameBut T s.heap d->Q () { s with heap:=d }) :
  wpAny (model prog w) A (updateSeq T (·.setIfInBounds k x)) Q E s:=by
 refine wpAny_updateSeq e rfl (h _ ?_ (Heap.SameBut.update ..));rw[Heap.get?_update_self _ e rfl];simp[Obj.mapSeq]
theorem Jg{z TI TO n r B l1 l2 l3:Addr}{k:Nat}{xs ys zs:Array Value}{x y v a b c:Value}{Q:Value->Shared->Prop}
  (nd:[z,TI,TO,n,r,B].Nodup) (hl:∀l∈[l1,l2,l3],∀j∈[z,TI,TO,n,r,B],l≠j)
  (hz:fx s.heap z TI TO .none (.bool false)) (a6:dP s.heap TI (.ref n) (.ref r) (.ref B)) (a7:dP s.heap TO a b c)
  (h1:s.heap.IsListIter n l1 k) (h2:s.heap.IsListIter r l2 k) (h3:s.heap.IsListIter B l3 k) (a8:s.heap.IsList l1 xs) (a9:s.heap.IsList l2 ys) (b0:s.heap.IsList l3 zs)
  (hx:xs[k]? = some x) (hy:ys[k]? = some y) (hv:zs[k]? = some v)
  (hQ:∀H,fx H z TI TO (rawInt s.heap.objs.size) (.bool false)->dP H TO x y v->H.IsListIter n l1 (k+1)->H.IsListIter r l2 (k+1)->H.IsListIter B l3 (k+1)->dP H s.heap.objs.size x y v->H.objs.size=s.heap.objs.size+1->
   (∀c o,c∉[z,TO,n,r,B]->s.heap.get? c=some o->H.get? c=some o)->Q (.ref s.heap.objs.size) { s with heap:=H }) :
  wpAny (model prog w) A (Builtin.«zip.__next__» ⟨[.ref z],[]⟩) (fun fin s'=>∃v,fin=.done (.ret v)/\Q v s') E s:=by
 simp only[List.nodup_cons,List.mem_cons,List.not_mem_nil,or_false,not_or,not_false_eq_true,and_true,List.nodup_nil] at nd;obtain⟨⟨c0,C,z1,z2,z3⟩,⟨b9,c6,c7,c8⟩,⟨I,J,L⟩,⟨a0,a1⟩,a2⟩:=nd;have n1:∀j∈[z,TI,TO,n,r,B],l1≠j:=hl l1 (by simp);have n2:∀j∈[z,TI,TO,n,r,B],l2≠j:=hl l2 (by simp);have n3:∀j∈[z,TI,TO,n,r,B],l3≠j:=hl l3 (by simp);show wpAny _ _ (field (.ref z) 2 >>= _) _ _ _;refine ak (wpAny_field hz rfl (x:=.bool false) rfl ?_);show wpAny _ _ (field (.ref z) 3 >>= _) _ _ _;refine ak (wpAny_field hz rfl (x:=.ref TI) rfl ?_);refine ak (wpAny_seqItems a6 rfl ?_);show wpAny _ _ (Builtin.SmallTypes.ownedTupleIsFree (.ref z) >>= _) _ _ _;refine ak ?_;unfold Builtin.SmallTypes.ownedTupleIsFree;refine ak (wpAny_field hz rfl (x:=.none) rfl (bc ?_));simp only[if_true];refine ak (wpAny_rule ?_);refine ak (wpAny_field hz rfl (x:=.ref TO) rfl ?_);refine ak (wpAny_setField_rec hz (by simp) fun h₁ U d=>?_)
 replace U:fx h₁ z TI TO .ellipsis (.bool false):=U
 refine ak ?_;simp only[List.zipIdx_cons,List.zipIdx_nil,List.forIn_cons,List.forIn_nil];refine ak (ak (wpAny_onRaise ?_));show wpAny _ _ (Builtin.SmallTypes.nextOf (.ref n) >>= _) _ _ _;refine ak (wpAny_nextOf_list_item (h1.extBut d.extBut (Ne.symm z1)) (a8.extBut d.extBut (n1 z (by simp))) hx fun h₂ b1 f=>bc ?_);have N:dP h₂ TO a b c:=f.extBut _ _ I (d.extBut _ _ (Ne.symm C) a7);refine ak (wpAny_seqItems N rfl ?_);refine ak (vL N fun h₃ D g=>?_)
 replace D:dP h₃ TO x b c:=D
 refine ak (wpAny_letGo (bc ?_));refine ak (ak (wpAny_onRaise ?_));show wpAny _ _ (Builtin.SmallTypes.nextOf (.ref r) >>= _) _ _ _;refine ak (wpAny_nextOf_list_item (((h2.extBut d.extBut (Ne.symm z2)).extBut f.extBut (Ne.symm a0)).extBut g.extBut (Ne.symm J))
  (((a9.extBut d.extBut (n2 z (by simp))).extBut f.extBut (n2 n (by simp))).extBut g.extBut (n2 TO (by simp))) hy fun h₄ b2 i=>bc ?_)
 have O:dP h₄ TO x b c:=i.extBut _ _ J D;refine ak (wpAny_seqItems O rfl ?_);refine ak (vL O fun h₅ G m=>?_)
 replace G:dP h₅ TO x y c:=G
 refine ak (wpAny_letGo (bc ?_));refine ak (ak (wpAny_onRaise ?_));show wpAny _ _ (Builtin.SmallTypes.nextOf (.ref B) >>= _) _ _ _;refine ak (wpAny_nextOf_list_item (((((h3.extBut d.extBut (Ne.symm z3)).extBut f.extBut (Ne.symm a1)).extBut g.extBut (Ne.symm L)).extBut i.extBut (Ne.symm a2)).extBut m.extBut (Ne.symm L))
  (((((b0.extBut d.extBut (n3 z (by simp))).extBut f.extBut (n3 n (by simp))).extBut g.extBut (n3 TO (by simp))).extBut i.extBut (n3 r (by simp))).extBut m.extBut (n3 TO (by simp))) hv fun h₆ b3 t=>bc ?_)
 have R:dP h₆ TO x y c:=t.extBut _ _ L G;refine ak (wpAny_seqItems R rfl ?_);refine ak (vL R fun h p u=>?_)
 replace p:dP h TO x y v:=p
 refine ak (wpAny_letGo (bc (bc ?_)));refine ak (wpAny_seqItems p rfl ?_);refine ak (wpAny_newTuple ?_);have b4:∀c o,c∉[z,TO,n,r,B]->s.heap.get? c=some o->h.get? c=some o:=fun c o hc e=>by simp only[List.mem_cons,List.not_mem_nil,or_false,not_or] at hc;obtain⟨c1,c2,c3,c4,c5⟩:=hc;exact u.extBut _ _ c2 (t.extBut _ _ c5 (m.extBut _ _ c2 (i.extBut _ _ c4 (g.extBut _ _ c2 (f.extBut _ _ c3 (d.extBut _ _ c1 e))))))
 have a3:h.objs.size=s.heap.objs.size:=by rw[u.1,t.1,m.1,i.1,g.1,f.1,d.1]
 have a4:fx h z TI TO .ellipsis (.bool false):=u.extBut _ _ C (t.extBut _ _ z3 (m.extBut _ _ C (i.extBut _ _ z2 (g.extBut _ _ C (f.extBut _ _ z1 U)))));have b5:h.IsListIter n l1 (k+1):=((((b1.extBut g.extBut (Ne.symm I)).extBut i.extBut a0).extBut m.extBut (Ne.symm I)).extBut t.extBut a1).extBut u.extBut (Ne.symm I);have b6:h.IsListIter r l2 (k+1):=((b2.extBut m.extBut (Ne.symm J)).extBut t.extBut a2).extBut u.extBut (Ne.symm J);have b7:h.IsListIter B l3 (k+1):=b3.extBut u.extBut (Ne.symm L);have S:z<h.objs.size:=bw a4;show wpAny _ _ (Builtin.SmallTypes.ownedTupleHandOut (.ref z) (.ref h.objs.size) >>= _) _ _ _;refine ak ?_;unfold Builtin.SmallTypes.ownedTupleHandOut;have b8:fx (h.push { cls:=.type "tuple",data:=.seq #[x,y,v] }) z TI TO .ellipsis (.bool false):=bn _ a4;refine ak (wpAny_setField_rec b8 (by simp) fun h₉ X Y=>?_)
 replace X:fx h₉ z TI TO (rawInt h.objs.size) (.bool false):=X
 refine wpAny_setField_rec X (by simp) fun hA M Z=>?_
 replace M:fx hA z TI TO (rawInt h.objs.size) (.bool false):=M
 have up:∀c o,c≠z->h.get? c=some o->hA.get? c=some o:=fun c o c1 e=>Z.extBut _ _ c1 (Y.extBut _ _ c1 (bn _ e));have a5:dP hA h.objs.size x y v:=Z.extBut _ _ (Nat.ne_of_gt S) (Y.extBut _ _ (Nat.ne_of_gt S) (Heap.get?_push_size _ rfl));have T:hA.objs.size=h.objs.size+1:=by rw[Z.1,Y.1,Heap.size_push]
 rw[a3] at M a5 T;refine bc ⟨_,rfl,?_⟩;show Q (.ref h.objs.size) _;rw[a3];exact hQ hA M (up _ _ (Ne.symm C) p) (b5.at fun o e=>up _ o (Ne.symm z1) e) (b6.at fun o e=>up _ o (Ne.symm z2) e) (b7.at fun o e=>up _ o (Ne.symm z3) e) a5 T fun c o hc e=>up c o (fun q=>hc (by simp[q])) (b4 c o hc e)
theorem Al{z TI TO T:Addr}{f1:Value}{g:Obj}{Q:Bool->Shared->Prop}(b:f1=.bool false\/f1=.bool true)(a:fx s.heap z TI TO (rawInt T) f1)(h:s.heap.get? T=some g)
  (f:∀c,fx c z TI TO (rawInt T) (.bool true)->Heap.SameBut z s.heap c->Q false { s with heap:=c }):wpAny (model prog w) A (Builtin.SmallTypes.ownedTupleIsFree (.ref z)) Q E s:=by
 unfold Builtin.SmallTypes.ownedTupleIsFree;refine ak (wpAny_field a rfl (x:=rawInt T) rfl ?_);show wpAny _ _ (loadIfAlive (Int.toNat T) >>= _) _ _ _;refine ak (Jf ?_);rw[Int.toNat_natCast,h];show wpAny _ _ (field (.ref z) 1 >>= _) _ _ _;refine ak (wpAny_field a rfl (x:=f1) rfl ?_);rcases b with rfl | rfl
 ·show wpAny _ _ (setField (.ref z) 1 (.bool true) >>= _) _ _ _;exact ak (wpAny_setField_rec a (by simp) fun i d e=>bc (f i d e))
 ·exact bc (f s.heap a (Heap.SameBut.refl ..))
theorem Jh{z TI TO d g h p q r T:Addr}{k:Nat}{f1:Value}{oT:Obj}{Y Z zs:Array Value}{x y v:Value}{Q:Value->Shared->Prop}
  (nd:[z,TI,TO,d,g,h].Nodup) (G:∀l∈[p,q,r],∀j∈[z,TI,TO,d,g,h],l≠j) (H:f1=.bool false\/f1=.bool true)
  (I:fx s.heap z TI TO (rawInt T) f1) (hT:s.heap.get? T=some oT) (J:dP s.heap TI (.ref d) (.ref g) (.ref h))
  (h1:s.heap.IsListIter d p k) (h2:s.heap.IsListIter g q k) (h3:s.heap.IsListIter h r k) (L:s.heap.IsList p Y) (M:s.heap.IsList q Z) (N:s.heap.IsList r zs)
  (hx:Y[k]? = some x) (hy:Z[k]? = some y) (hv:zs[k]? = some v)
  (hQ:∀m,fx m z TI TO (rawInt T) (.bool true)->m.IsListIter d p (k+1)->m.IsListIter g q (k+1)->m.IsListIter h r (k+1)->dP m s.heap.objs.size x y v->m.objs.size=s.heap.objs.size+1->
   (∀c o,c∉[z,d,g,h]->s.heap.get? c=some o->m.get? c=some o)->Q (.ref s.heap.objs.size) { s with heap:=m }) :
  wpAny (model prog w) A (Builtin.«zip.__next__» ⟨[.ref z],[]⟩) (fun fin s'=>∃v,fin=.done (.ret v)/\Q v s') E s:=by
 simp only[List.nodup_cons,List.mem_cons,List.not_mem_nil,or_false,not_or,not_false_eq_true,and_true,List.nodup_nil] at nd;obtain⟨⟨a1,a2,z1,z2,z3⟩,⟨a0,a3,a4,a5⟩,⟨a6,a7,a8⟩,⟨t,u⟩,B⟩:=nd;have n1:∀j∈[z,TI,TO,d,g,h],p≠j:=G p (by simp);have n2:∀j∈[z,TI,TO,d,g,h],q≠j:=G q (by simp);have O:∀j∈[z,TI,TO,d,g,h],r≠j:=G r (by simp);show wpAny _ _ (field (.ref z) 2 >>= _) _ _ _;refine ak (wpAny_field I rfl (x:=.bool false) rfl ?_);show wpAny _ _ (field (.ref z) 3 >>= _) _ _ _;refine ak (wpAny_field I rfl (x:=.ref TI) rfl ?_);refine ak (wpAny_seqItems J rfl ?_);show wpAny _ _ (Builtin.SmallTypes.ownedTupleIsFree (.ref z) >>= _) _ _ _;refine ak (Al H I hT fun h₁ R a=>?_);simp only[Bool.false_eq_true,if_false];refine ak ?_;simp only[List.forIn_toArray,List.forIn_cons,List.forIn_nil];refine ak (ak (wpAny_holding ?_));show wpAny _ _ (Builtin.SmallTypes.nextOf (.ref d) >>= _) _ _ _;refine ak (wpAny_nextOf_list_item (h1.extBut a.extBut (Ne.symm z1)) (L.extBut a.extBut (n1 z (by simp))) hx fun h₂ S b=>bc (bc ?_));refine ak (ak (wpAny_holding ?_));show wpAny _ _ (Builtin.SmallTypes.nextOf (.ref g) >>= _) _ _ _;refine ak (wpAny_nextOf_list_item ((h2.extBut a.extBut (Ne.symm z2)).extBut b.extBut (Ne.symm t)) ((M.extBut a.extBut (n2 z (by simp))).extBut b.extBut (n2 d (by simp))) hy fun h₃ U f=>bc (bc ?_));refine ak (ak (wpAny_holding ?_));show wpAny _ _ (Builtin.SmallTypes.nextOf (.ref h) >>= _) _ _ _;refine ak (wpAny_nextOf_list_item (((h3.extBut a.extBut (Ne.symm z3)).extBut b.extBut (Ne.symm u)).extBut f.extBut (Ne.symm B)) (((N.extBut a.extBut (O z (by simp))).extBut b.extBut (O d (by simp))).extBut f.extBut (O g (by simp))) hv fun C X i=>bc (bc (bc ?_)));show wpAny _ _ (newTuple [x,y,v] >>= _) _ _ _;refine ak (wpAny_newTuple ?_);refine bc ⟨_,rfl,?_⟩;have n:C.objs.size=s.heap.objs.size:=by rw[i.1,f.1,b.1,a.1]
 show Q (.ref C.objs.size) { s with heap:=C.push { cls:=.type "tuple",data:=.seq #[x,y,v] } };have up:∀c o,c∉[z,d,g,h]->s.heap.get? c=some o->C.get? c=some o:=fun c o D e=>by simp only[List.mem_cons,List.not_mem_nil,or_false,not_or] at D;obtain⟨c1,c2,c3,c4⟩:=D;exact i.extBut _ _ c4 (f.extBut _ _ c3 (b.extBut _ _ c2 (a.extBut _ _ c1 e)))
 rw[n];refine hQ _ (bn _ (i.extBut _ _ z3 (f.extBut _ _ z2 (b.extBut _ _ z1 R)))) (((S.extBut f.extBut t).extBut i.extBut u).at fun o e=>bn _ e) ((U.extBut i.extBut B).at fun o e=>bn _ e)
  (X.at fun o e=>bn _ e) ?_ (by rw[Heap.size_push,n]) fun c o D e=>bn _ (up c o D e)
 rw[<-n];exact Heap.get?_push_size _ rfl
theorem Ji{z TI TO a f g d l2 l3 T:Addr}{k:Nat}{f1:Value}{y:Obj}{t:Array Value}{Q:Fin->Shared->Prop}(hh:A.handled=none)
  (v:[z,TI,TO,a,f,g].Nodup) (B:∀l∈[d,l2,l3],∀j∈[z,TI,TO,a,f,g],l≠j) (h:f1=.bool false\/f1=.bool true)
  (i:fx s.heap z TI TO (rawInt T) f1) (C:s.heap.get? T=some y) (m:dP s.heap TI (.ref a) (.ref f) (.ref g))
  (h1:s.heap.IsListIter a d k) (n:s.heap.IsList d t) (D:t[k]? = none)
  (G:∀p e,(∀c o,c∉[z,a]->s.heap.get? c=some o->p.get? c=some o)->(∃o,p.get? e=some o/\o.cls=.type "StopIteration")->E (.ref e) { s with heap:=p }) :
  wpAny (model prog w) A (Builtin.«zip.__next__» ⟨[.ref z],[]⟩) Q E s:=by
 simp only[List.nodup_cons,List.mem_cons,List.not_mem_nil,or_false,not_or,not_false_eq_true,and_true,List.nodup_nil] at v;obtain⟨⟨H,I,J,z2,z3⟩,⟨u,L,M,N⟩,⟨O,R,S⟩,⟨U,X⟩,Y⟩:=v;have Z:∀j∈[z,TI,TO,a,f,g],d≠j:=B d (by simp);show wpAny _ _ (field (.ref z) 2 >>= _) _ _ _;refine ak (wpAny_field i rfl (x:=.bool false) rfl ?_);show wpAny _ _ (field (.ref z) 3 >>= _) _ _ _;refine ak (wpAny_field i rfl (x:=.ref TI) rfl ?_);refine ak (wpAny_seqItems m rfl ?_);show wpAny _ _ (Builtin.SmallTypes.ownedTupleIsFree (.ref z) >>= _) _ _ _;refine ak (Al h i C fun h₁ a0 b=>?_);simp only[Bool.false_eq_true,if_false];refine ak ?_;simp only[List.forIn_toArray,List.forIn_cons,List.forIn_nil];refine ak (ak (wpAny_holding ?_));show wpAny _ _ (Builtin.SmallTypes.nextOf (.ref a) >>= _) _ _ _;refine ak (wpAny_nextOf_list_end hh (h1.extBut b.extBut (Ne.symm J)) (n.extBut b.extBut (Z z (by simp))) D fun h₂ e q he=>?_);refine G h₂ e (fun c o r x=>?_) he;simp only[List.mem_cons,List.not_mem_nil,or_false,not_or] at r;exact q _ _ r.2 (b.extBut _ _ r.1 x)
end
structure Z3 (h:Heap) (z TI TO i1 i2 i3 l1 l2 l3:Addr) (xs ys zs:Array Value) (S:Addr) (i:Nat):Prop where
 zrec:∃(f0 f1:Value),fx h z TI TO f0 f1/\(f1=.bool false\/f1=.bool true)/\((i=0/\f0=.none/\f1=.bool false)\/(0<i/\∃(T:Addr) (oT:Obj),f0=rawInt T/\h.get? T=some oT/\T∉[S,z,TO,i1,i2,i3]))
 ti:dP h TI (.ref i1) (.ref i2) (.ref i3)
 to:∃a b c,dP h TO a b c
 h1:h.IsListIter i1 l1 i
 h2:h.IsListIter i2 l2 i
 h3:h.IsListIter i3 l3 i
 l1:h.IsList l1 xs
 l2:h.IsList l2 ys
 l3:h.IsList l3 zs
def qX(h:Heap)(n:Addr)(b c d:Array Value)(a:List Value):Prop:=
 ∀(j:Nat) (v:Value),a[j]? = some v->∃(T:Addr) (x y u:Value),v=Value.ref T/\n<=T/\dP h T x y u/\b[j]? = some x/\c[j]? = some y/\d[j]? = some u
section
variable{prog:Program}{w:World}{A:Around}{E:Value->Shared->Prop}{s:Shared}
theorem Jj{z TI TO f g h u B C S:Addr}{i:Nat}{R U X:Array Value}{x y v:Value}{Q:Option Value->Shared->Prop}
  (D:[z,TI,TO,f,g,h].Nodup) (Y:∀l∈[u,B,C],∀j∈[z,TI,TO,f,g,h],l≠j) (st:Z3 s.heap z TI TO f g h u B C R U X S i) (hS:S<s.heap.objs.size)
  (hx:R[i]? = some x) (hy:U[i]? = some y) (hv:X[i]? = some v)
  (hQ:∀k,Z3 k z TI TO f g h u B C R U X S (i+1)->dP k s.heap.objs.size x y v->k.objs.size=s.heap.objs.size+1->(∀c o,c∉[z,TO,f,g,h]->s.heap.get? c=some o->k.get? c=some o)->Q (some (.ref s.heap.objs.size)) { s with heap:=k }) :
  wpAny (model prog w) A (pyNext (.ref z)) Q E s:=by
 obtain⟨⟨f0,f1,N,Z,hf⟩,ti,⟨a,b,c,to⟩,h1,h2,h3,m,n,p⟩:=st;have hT:s.TypeIs (.ref z) "zip":=⟨_,N,rfl⟩
 have lt:∀{c o},s.heap.get? c=some o->s.heap.objs.size≠c:=fun e=>Nat.ne_of_gt (bw e);have new:s.heap.objs.size∉[S,z,TO,f,g,h]:=by simp only[List.mem_cons,List.not_mem_nil,or_false,not_or];exact⟨Nat.ne_of_gt hS,lt N,lt to,(by obtain⟨_,e,_⟩:=h1;exact lt e),(by obtain⟨_,e,_⟩:=h2;exact lt e),(by obtain⟨_,e,_⟩:=h3;exact lt e)⟩
 have sub:∀l∈[u,B,C],l∉[z,TO,f,g,h]:=fun l hm z'=>by simp only[List.mem_cons,List.not_mem_nil,or_false] at z';rcases z' with q | q | q | q | q<;>exact Y l hm _ (by simp) q
 have G:TI∉[z,TO,f,g,h]:=by simp only[List.nodup_cons,List.mem_cons,List.not_mem_nil,or_false,not_or,not_false_eq_true,and_true,List.nodup_nil] at D;obtain⟨⟨H,I,z1,z2,z3⟩,⟨r,J,L,M⟩,_⟩:=D;simp only[List.mem_cons,List.not_mem_nil,or_false,not_or];exact⟨Ne.symm H,r,J,L,M⟩
 unfold pyNext;refine ak (wpAny_attempt (wpAny_callSpecial?_slot (name:=Str.ofString "__next__") hT F.slot_zip_next (wpAny_call_entry F.slot_zip_next hT F.entry_zip_next ?_ (F.args_zip_next_1 _))));rcases hf with⟨hi,rfl,rfl⟩ | ⟨hi,T,oT,rfl,eT,nT⟩
 ·refine Jg D Y N ti to h1 h2 h3 m n p hx hy hv fun k a1 a2 a3 a4 a5 O a7 t=>bc ?_;exact hQ k ⟨⟨_,_,a1,.inl rfl,.inr ⟨Nat.succ_pos _,_,_,rfl,O,new⟩⟩,t _ _ G ti,⟨_,_,_,a2⟩,a3,a4,a5,m.at fun o e=>t _ o (sub u (by simp)) e,n.at fun o e=>t _ o (sub B (by simp)) e,p.at fun o e=>t _ o (sub C (by simp)) e⟩ O a7 t
 ·refine Jh D Y Z N eT ti h1 h2 h3 m n p hx hy hv fun k a1 a3 a4 a5 O a7 t=>bc ?_;have d:∀c o,c∉[z,TO,f,g,h]->s.heap.get? c=some o->k.get? c=some o:=fun c o hc e=>t c o (fun q=>hc (by simp only[List.mem_cons,List.not_mem_nil,or_false] at q ⊢;rcases q with q | q | q | q<;>simp[q])) e;have a0:TO∉[z,f,g,h]:=by simp only[List.nodup_cons,List.mem_cons,List.not_mem_nil,or_false,not_or,not_false_eq_true,and_true,List.nodup_nil] at D;obtain⟨⟨H,I,z1,z2,z3⟩,⟨r,J,L,M⟩,⟨a9,b0,b1⟩,_⟩:=D;simp only[List.mem_cons,List.not_mem_nil,or_false,not_or];exact⟨Ne.symm I,a9,b0,b1⟩
  refine hQ k ⟨⟨_,_,a1,.inr rfl,.inr ⟨Nat.succ_pos _,_,_,rfl,d T oT (fun q=>nT (bL _ q)) eT,nT⟩⟩,d _ _ G ti,⟨a,b,c,t _ _ a0 to⟩,a3,a4,a5,m.at fun o e=>d _ o (sub u (by simp)) e,n.at fun o e=>d _ o (sub B (by simp)) e,p.at fun o e=>d _ o (sub C (by simp)) e⟩ O a7 d
theorem Jk{z TI TO d f g r t u S:Addr}{i:Nat}{n v x:Array Value}{Q:Option Value->Shared->Prop}(O:A.handled=none)
  (R:[z,TI,TO,d,f,g].Nodup) (y:∀l∈[r,t,u],∀j∈[z,TI,TO,d,f,g],l≠j) (st:Z3 s.heap z TI TO d f g r t u n v x S i) (U:0<i) (B:n[i]? = none)
  (C:∀h,(∀c o,c∉[z,d]->s.heap.get? c=some o->h.get? c=some o)->Q none { s with heap:=h }) :
  wpAny (model prog w) A (pyNext (.ref z)) Q E s:=by
 obtain⟨⟨X,f1,p,k,D⟩,ti,⟨a,b,c,to⟩,h1,h2,h3,m,G,H⟩:=st;have q:s.TypeIs (.ref z) "zip":=⟨_,p,rfl⟩
 rcases D with⟨I,_⟩ | ⟨_,T,Y,rfl,J,Z⟩
 ·omega
 ·unfold pyNext;refine ak (wpAny_attempt (wpAny_callSpecial?_slot (name:=Str.ofString "__next__") q F.slot_zip_next
   (wpAny_call_entry F.slot_zip_next q F.entry_zip_next (Ji O R y k p J ti h1 m B fun h e L M=>?_) (F.args_zip_next_1 _))))
  obtain⟨o,ho,N⟩:=M;refine ak (wpAny_isInstance (T:="StopIteration") (b:=true) ⟨o,ho,N⟩ isSubtype_stop ?_);exact bc (C _ L)
end
section
variable{prog:Program}{w:World}{A:Around}{R:Result->Shared->Prop}
theorem Z3.keep{h u:Heap}{z TI TO d f g r s t S:Addr}{v x y:Array Value}{i:Nat}(st:Z3 h z TI TO d f g r s t v x y S i)(B:S∉[z,TI,TO,d,f,g,r,s,t])(k:∀b o,b≠S->h.get? b=some o->u.get? b=some o) :
  Z3 u z TI TO d f g r s t v x y S i:=by
 simp only[List.mem_cons,List.not_mem_nil,or_false,not_or] at B;obtain⟨D,E,G,H,I,J,L,M,N⟩:=B;obtain⟨⟨O,f1,Q,j,l⟩,ti,⟨a,b,c,to⟩,h1,h2,h3,m,n,p⟩:=st;refine⟨⟨O,f1,k _ _ (Ne.symm D) Q,j,?_⟩,k _ _ (Ne.symm E) ti,⟨a,b,c,k _ _ (Ne.symm G) to⟩,h1.at fun o e=>k _ o (Ne.symm H) e,h2.at fun o e=>k _ o (Ne.symm I) e,h3.at fun o e=>k _ o (Ne.symm J) e,m.at fun o e=>k _ o (Ne.symm L) e,n.at fun o e=>k _ o (Ne.symm M) e,p.at fun o e=>k _ o (Ne.symm N) e⟩;rcases l with l | ⟨U,T,X,e,Y,C⟩
 ·exact .inl l
 ·exact .inr ⟨U,T,X,e,k _ _ (fun q=>C (by simp[q])) Y,C⟩
noncomputable abbrev dk(a:Array Value)(v:Value)(c:Nat):Nat:=if (a.push v).size==a.size then c else c+1
theorem Jl{z TI TO p D E l1 l2 l3 S n₀:Addr}{h L M:Array Value}(hh:A.handled=none)
  (nd:[z,TI,TO,p,D,E].Nodup) (hl:∀l∈[l1,l2,l3],∀j∈[z,TI,TO,p,D,E],l≠j) (hS:S∉[z,TI,TO,p,D,E,l1,l2,l3]) (I:∀j∈[S,z,TI,TO,p,D,E],j<n₀)
  (e2:L.size=h.size) (e3:M.size=h.size) (a6:0<h.size) (hn:h.size<=sizeLine) (res:Value) :
  ∀(k i:Nat) (s:Shared) (a:List Value) (c:Nat),h.size - i=k->i<=h.size->Z3 s.heap z TI TO p D E l1 l2 l3 h L M S i->n₀<=s.heap.objs.size->s.heap.get? S=some { cls:=.type "list",dict:=none,data:=.seq a.toArray c,slots:=#[] }->a.length=i->qX s.heap n₀ h L M a->
  (∀n d c',(∀b o,b∉[S,z,TO,p,D,E]->s.heap.get? b=some o->n.get? b=some o)->n.get? S=some { cls:=.type "list",dict:=none,data:=.seq d.toArray c',slots:=#[] }->d.length=h.size->qX n n₀ h L M d->R (.ok (.ret res)) { s with heap:=n })->
  codeAny (model prog w) A (.builtin "list.extend.loop" ⟨[.ref S,.ref z,res],[]⟩) R s:=by
 intro k
 induction k with
 | zero=>
  intro i s a c hk hi st r B f tr hR;have N:i=h.size:=by omega
  refine codeAny_builtin F.entry_extend_loop ?_;rw[Around.under_plainId F.plain_extend_loop _];show wpAny _ A.in1 (pyNext (.ref z) >>= _) _ _ s;have nS:S∉[z,p]:=fun q=>hS (by simp only[List.mem_cons,List.not_mem_nil,or_false] at q ⊢;rcases q with q | q<;>simp[q]);refine ak (Jk hh nd hl st (by omega) (by rw[N];exact Array.getElem?_eq_none (bI _)) fun n g=>?_);refine bc (hR n a c (fun b o I e=>g b o (fun q=>I (by simp only[List.mem_cons,List.not_mem_nil,or_false] at q ⊢;rcases q with q | q<;>simp[q])) e) (g S _ nS B) (f.trans N) fun j v H=>?_);obtain⟨T,x,y,u,e,G,t,q⟩:=tr j v H;refine⟨T,x,y,u,e,G,g T _ (fun m=>?_) t,q⟩;simp only[List.mem_cons,List.not_mem_nil,or_false] at m;rcases m with m | m
  ·exact absurd (I z (by simp)) (by rw[<-m];exact Nat.not_lt.mpr G)
  ·exact absurd (I p (by simp)) (by rw[<-m];exact Nat.not_lt.mpr G)
 | succ k ih=>
  intro i s a c hk hi st r B f tr hR;have O:i<h.size:=by omega
  refine codeAny_builtin F.entry_extend_loop ?_;rw[Around.under_plainId F.plain_extend_loop _];show wpAny _ A.in1 (pyNext (.ref z) >>= _) _ _ s;refine ak (Jj nd hl st (bw B) (x:=h[i]) (y:=L[i]) (v:=M[i]) (Array.getElem?_eq_getElem O) (Array.getElem?_eq_getElem (by omega)) (Array.getElem?_eq_getElem (by omega)) fun n a0 a1 Q g=>?_);have nS:S∉[z,TO,p,D,E]:=fun q=>hS (by simp only[List.mem_cons,List.not_mem_nil,or_false] at q ⊢;rcases q with q | q | q | q | q<;>simp[q]);have U:=g S _ nS B;have ha:a.toArray.size=i:=by rw[List.size_toArray];exact f
  show wpAny _ A.in1 (updateSeq S (·.push (.ref s.heap.objs.size)) >>= _) _ _ _;refine ak ?_;have old:∀b o,b≠S->n.get? b=some o->(n.update S (Obj.mapSeq (·.push (.ref s.heap.objs.size)))).get? b=some o:=fun b o I e=>(Heap.get?_update_other _ _ (Ne.symm I)).trans e;have big:∀T,n₀<=T->T∉[S,z,TO,p,D,E]:=fun T G m=>by simp only[List.mem_cons,List.not_mem_nil,or_false] at m;rcases m with m | m | m | m | m | m<;>exact absurd (I T (by rw[m];simp)) (Nat.not_lt.mpr G)
  refine wpAny_updateSeq U rfl (bc ⟨plainId_quiet F.plain_extend_loop _,ih (i+1) _ (a++[.ref s.heap.objs.size]) (dk a.toArray (.ref s.heap.objs.size) c) (by omega) O (a0.keep hS old) ?_ ?_ (by rw[List.length_append,f];rfl) ?_ fun a2 d c' X Y a3 Z=>?_⟩)
   (by rw[ha];omega) (by show(a.toArray.push _).size<=sizeLine+1;rw[Array.size_push,ha];omega)
  ·show n₀<=(n.update S (Obj.mapSeq (·.push (.ref s.heap.objs.size)))).objs.size;rw[show(n.update S (Obj.mapSeq (·.push (Value.ref s.heap.objs.size)))).objs.size=n.objs.size from(Heap.SameBut.update ..).1,Q];exact Nat.le_succ_of_le r
  ·have q:=Heap.get?_update_self (Obj.mapSeq (·.push (Value.ref s.heap.objs.size))) U rfl;have e:a.toArray.push (Value.ref s.heap.objs.size)=(a++[Value.ref s.heap.objs.size]).toArray:=by simp
   have q':(n.update S (Obj.mapSeq (·.push (Value.ref s.heap.objs.size)))).get? S=some { cls:=.type "list",dict:=none,data:=.seq (a.toArray.push (Value.ref s.heap.objs.size)) (dk a.toArray (Value.ref s.heap.objs.size) c),slots:=#[] }:=q;rw[e] at q';exact q'
  ·intro j v H
   by_cases a4:j<a.length
   ·rw[List.getElem?_append_left a4] at H;obtain⟨T,x,y,u,e,G,t,q⟩:=tr j v H;have nb:=big T G;exact⟨T,x,y,u,e,G,old T _ (fun C=>nb (by simp[C])) (g T _ (fun C=>nb (bL _ C)) t),q⟩
   ·have a5:j=a.length:=by have:=(List.getElem?_eq_some_iff.mp H).1;rw[List.length_append,List.length_singleton] at this;omega
    subst a5;rw[List.getElem?_append_right (bI _),Nat.sub_self] at H;cases H;have nb:=big s.heap.objs.size r;refine⟨s.heap.objs.size,h[i],L[i],M[i],rfl,r,old _ _ (fun C=>nb (by simp[C])) a1,?_,?_,?_⟩<;>(rw[f];exact Array.getElem?_eq_getElem (by omega))
  ·refine hR a2 d c' (fun b o J e=>X b o J (old b o (fun C=>J (by simp[C])) (g b o (fun C=>J (bL _ C)) e))) Y a3 Z
end
namespace F3
theorem zip_no_len:typeLookup (.type "zip") "__len__" = pure none:=by rw[typeLookup_type,builtinLookup_eq_fast];kernel_rfl
theorem zip_no_hint:typeLookup (.type "zip") "__length_hint__" = pure none:=by rw[typeLookup_type,builtinLookup_eq_fast];kernel_rfl
theorem typeCall_zip_3(a b c:Value):checkTypeCall "zip" ⟨[a,b,c],[]⟩=pure ():=by kernel_rfl
theorem newCall_zip_3(a b c:Value):checkBuiltinCall "zip.__new__" ⟨[.type "zip",a,b,c],[]⟩=pure ():=by kernel_rfl
theorem args_object_init_4(a b c d:Value):argsOk "object.__init__" ⟨[a,b,c,d],[]⟩:=by unfold argsOk;rw[signature?_of (id:="object.__init__") (n:=['_','_','t','i','n','i','_','_']) (o:=['t','c','e','j','b','o']) (by kernel_rfl) F.owner_object];kernel_rfl
end F3
noncomputable abbrev zA(h:Heap)(a:Addr):Heap:=h.push { cls:=.type "list_iterator",data:=.fields #[.ref a,.int 0 0] }
noncomputable abbrev zB(h:Heap)(a b:Addr):Heap:=(zA h a).push { cls:=.type "list_iterator",data:=.fields #[.ref b,.int 0 0] }
noncomputable abbrev zC(h:Heap)(a b c:Addr):Heap:=(zB h a b).push { cls:=.type "list_iterator",data:=.fields #[.ref c,.int 0 0] }
noncomputable abbrev zD(h:Heap)(a b c:Addr):Heap:=(zC h a b c).push { cls:=.type "tuple",data:=.seq #[.ref h.objs.size,.ref (zA h a).objs.size,.ref (zB h a b).objs.size] }
noncomputable abbrev zE(h:Heap)(a b c:Addr):Heap:=(zD h a b c).push { cls:=.type "tuple",data:=.seq #[.none,.none,.none] }
noncomputable abbrev zF(h:Heap)(a b c:Addr):Heap:=(zE h a b c).push { cls:=.type "zip",data:=.fields #[.none,.bool false,.bool false,.ref (zC h a b c).objs.size,.ref (zD h a b c).objs.size] }
theorem Jm(a b c:Addr)(o p q:Array Value) :
  Meets (Builtin.«zip.__new__» ⟨[.type "zip",.ref a,.ref b,.ref c],[]⟩) (fun _ R s=>s.heap.IsList a o/\s.heap.IsList b p/\s.heap.IsList c q/\
   R (.ok (.ret (.ref (zE s.heap a b c).objs.size))) { s with heap:=zF s.heap a b c }):=
 .of_wp fun t w A R s h=>by
  obtain⟨e,g,d,f,os⟩:=s;obtain⟨i,j,k,h⟩:=h;have r:=sub_zip;have l:Heap.IsList (Shared.heap ⟨e,g,d,f,os⟩) a o:=i;have m:Heap.IsList (Shared.heap ⟨e.push { cls:=.type "list_iterator",data:=.fields #[.ref a,.int 0 0] },g,d,f,os⟩) b p:=Heap.IsList.push j _;have n:Heap.IsList (Shared.heap ⟨(e.push { cls:=.type "list_iterator",data:=.fields #[.ref a,.int 0 0] }).push { cls:=.type "list_iterator",data:=.fields #[.ref b,.int 0 0] },g,d,f,os⟩) c q:=Heap.IsList.push (Heap.IsList.push k _) _
  wp_walk using wpAny_pyIter_list l,wpAny_pyIter_list m,wpAny_pyIter_list n
  exact⟨_,rfl,h⟩
section
variable{prog:Program}{w:World}{A:Around}{E:Value->Shared->Prop}{s:Shared}
theorem Jn{a b d:Addr}{q r t:Array Value}{Q:Value->Shared->Prop}(f:s.heap.IsList a q)(g:s.heap.IsList b r)(i:s.heap.IsList d t)
  (h:∀e,fx e (s.heap.objs.size+5) (s.heap.objs.size+3) (s.heap.objs.size+4) .none (.bool false)->dP e (s.heap.objs.size+3) (.ref s.heap.objs.size) (.ref (s.heap.objs.size+1)) (.ref (s.heap.objs.size+2))->
   dP e (s.heap.objs.size+4) .none .none .none->e.IsListIter s.heap.objs.size a 0->e.IsListIter (s.heap.objs.size+1) b 0->e.IsListIter (s.heap.objs.size+2) d 0->e.objs.size=s.heap.objs.size+6->
   (∀c o,s.heap.get? c=some o->e.get? c=some o)->Q (.ref (s.heap.objs.size+5)) { s with heap:=e }) :
  wpAny (model prog w) A (call (.type "zip") [.ref a,.ref b,.ref d]) Q E s:=by
 refine callType_new F.called_zip (by decide) (F3.typeCall_zip_3 _ _ _) (F3.newCall_zip_3 _ _ _) (fun obj=>F3.args_object_init_4 obj _ _ _) F.entry_zip_new
  (Jm a b d q r t) ⟨f,g,i,?_⟩
 have j:(zA s.heap a).objs.size=s.heap.objs.size+1:=Heap.size_push ..;have k:(zB s.heap a b).objs.size=s.heap.objs.size+2:=by rw[Heap.size_push,j]
 have l:(zC s.heap a b d).objs.size=s.heap.objs.size+3:=by rw[Heap.size_push,k]
 have m:(zD s.heap a b d).objs.size=s.heap.objs.size+4:=by rw[Heap.size_push,l]
 have n:(zE s.heap a b d).objs.size=s.heap.objs.size+5:=by rw[Heap.size_push,m]
 have y:(zF s.heap a b d).objs.size=s.heap.objs.size+6:=by rw[Heap.size_push,n]
 have p:(zF s.heap a b d).get? (zE s.heap a b d).objs.size=some _:=Heap.get?_push_size _ rfl;have u:(zF s.heap a b d).get? (zD s.heap a b d).objs.size=some _:=bn _ (Heap.get?_push_size _ rfl);have v:(zF s.heap a b d).get? (zC s.heap a b d).objs.size=some _:=bn _ (bn _ (Heap.get?_push_size _ rfl));have g3:(zF s.heap a b d).get? (zB s.heap a b).objs.size=some _:=bn _ (bn _ (bn _ (Heap.get?_push_size _ rfl)));have g2:(zF s.heap a b d).get? (zA s.heap a).objs.size=some _:=bn _ (bn _ (bn _ (bn _ (Heap.get?_push_size _ rfl))));have g1:(zF s.heap a b d).get? s.heap.objs.size=some _:=bn _ (bn _ (bn _ (bn _ (bn _ (Heap.get?_push_size _ rfl)))));show _/\_;rw[l,m,n] at p;rw[j,k,l] at v;rw[m] at u;rw[k] at g3;rw[j] at g2;rw[n];exact⟨⟨_,p,rfl⟩,h _ p v u ⟨_,g1,rfl,rfl⟩ ⟨_,g2,rfl,rfl⟩ ⟨_,g3,rfl,rfl⟩ y fun c o x=>
  bn _ (bn _ (bn _ (bn _ (bn _ (bn _ x)))))⟩
theorem Jo{z TI TO k n p L M N:Addr}{g S T:Array Value}{Q:Value->Shared->Prop}(hh:A.handled=none)
  (nd:[z,TI,TO,k,n,p].Nodup) (hl:∀l∈[L,M,N],∀j∈[z,TI,TO,k,n,p],l≠j) (x:∀j∈[z,TI,TO,k,n,p,L,M,N],j<s.heap.objs.size)
  (y:fx s.heap z TI TO .none (.bool false)) (ti:dP s.heap TI (.ref k) (.ref n) (.ref p)) (to:dP s.heap TO .none .none .none)
  (h1:s.heap.IsListIter k L 0) (h2:s.heap.IsListIter n M 0) (h3:s.heap.IsListIter p N 0) (U:s.heap.IsList L g) (X:s.heap.IsList M S) (Y:s.heap.IsList N T)
  (e2:S.size=g.size) (e3:T.size=g.size) (B:0<g.size) (hn:g.size<=sizeLine)
  (hQ:∀f r c,(∀b o,b∉[z,TO,k,n,p]->s.heap.get? b=some o->f.get? b=some o)->f.get? s.heap.objs.size=some { cls:=.type "list",dict:=none,data:=.seq r.toArray c,slots:=#[] }->r.length=g.size->qX f (s.heap.objs.size+1) g S T r->
   Q (.ref s.heap.objs.size) { s with heap:=f }):wpAny (model prog w) A (call (.type "list") [.ref z]) Q E s:=by
 have C:s.heap.objs.size∉[z,TI,TO,k,n,p,L,M,N]:=fun hm=>Nat.lt_irrefl _ (x _ hm);have Z:s.heap.objs.size≠z:=fun e=>C (by simp[e]);refine callType_codes (Q₁:=fun obj s₁=>obj=.ref s.heap.objs.size/\s₁ = { s with heap:=s.heap.push { cls:=.type "list",data:=.seq #[] } }) F.called_list (F.typeCall_list_1 _) F.entry_list_init
  (code_list_new _ ⟨rfl,rfl⟩) fun obj s₁ h₁=>?_
 obtain⟨rfl,rfl⟩:=h₁;have O:(s.heap.push { cls:=.type "list",data:=.seq #[] }).get? s.heap.objs.size=some { cls:=.type "list",data:=.seq #[] }:=Heap.get?_push_size _ rfl;have t:∀f,fx f z TI TO .none (.bool false)->Shared.TypeIs { s with heap:=f } (.ref z) "zip":=fun f q=>⟨_,q,rfl⟩
 refine⟨⟨_,O,rfl⟩,F.args_list_init_2 _ _,?_⟩;have pu:∀b o,s.heap.get? b=some o->(s.heap.push { cls:=.type "list",data:=.seq #[] }).get? b=some o:=fun b o e=>bn _ e;show wpAny _ A.in1.in1 (do let old <-Builtin.List.listItems (.ref s.heap.objs.size);Builtin.List.listUpdate (.ref s.heap.objs.size) (fun _=>#[]);letGo old.toList.reverse;Builtin.List.listExtendWith (.ref s.heap.objs.size) (.ref z) .none) _ _ _;refine ak ?_;unfold Builtin.List.listItems;refine ak (wpAny_seqItems O rfl (bc ?_));show wpAny _ _ (updateSeq s.heap.objs.size (fun _=>#[]) >>= fun _=>letGo (#[]:Array Value).toList.reverse >>= fun _=>Builtin.List.listExtendWith (.ref s.heap.objs.size) (.ref z) .none) _ _ _;refine ak (wpAny_updateSeq O rfl ?_);have u:=Heap.get?_update_self (Obj.mapSeq (fun _=>(#[]:Array Value))) O rfl;refine ak (wpAny_letGo ?_);generalize D:(s.heap.push { cls:=.type "list",data:=.seq #[] }).update s.heap.objs.size (Obj.mapSeq (fun _=>(#[]:Array Value)))=i at u ⊢;have d:∀b o,s.heap.get? b=some o->i.get? b=some o:=fun b o e=>by rw[<-D];exact(Heap.get?_update_other _ _ (Nat.ne_of_gt (bw e))).trans (pu b o e)
 have DJ:i.objs.size=s.heap.objs.size+1:=by rw[<-D,show((s.heap.push { cls:=.type "list",data:=.seq #[] }).update s.heap.objs.size (Obj.mapSeq (fun _=>(#[]:Array Value)))).objs.size=(s.heap.push { cls:=.type "list",data:=.seq #[] }).objs.size from(Heap.SameBut.update ..).1,Heap.size_push]
 unfold Builtin.List.listExtendWith;refine ak (wpAny_typeOf (t _ (d _ _ y)) ?_);have g1:Builtin.List.listSameRef (.ref s.heap.objs.size) (.ref z)=false:=by simp[Builtin.List.listSameRef,Z]
 have g2:(Value.type "zip"==Value.type "list")=false:=by decide
 have g3:(Value.type "zip"==Value.type "tuple")=false:=by decide
 simp only[g1,g2,g3,Bool.or_false,Bool.false_eq_true,if_false];refine ak (wpAny_pyIter_zip (s:={ s with heap:=i }) (d _ _ y) ?_);refine ak (wpAny_holding ?_);unfold Builtin.List.listLengthHint;refine ak (wpAny_specialOf (t _ (d _ _ y)) F3.zip_no_len ?_);show wpAny _ _ (specialOf (Value.ref z) (Str.ofString "__length_hint__") >>= _) _ _ _;refine ak (wpAny_specialOf (t _ (d _ _ y)) F3.zip_no_hint ?_);refine bc ?_;show wpAny _ _ (rule "list.extend.makes-room" >>= fun _=>Builtin.List.listTouch (.ref s.heap.objs.size) >>= fun _=>
  again (.builtin "list.extend.loop" ⟨[.ref s.heap.objs.size,.ref z,.none],[]⟩)) _ _ _
 refine ak (wpAny_rule ?_);refine ak ?_;show wpAny _ _ (updateSeq s.heap.objs.size (·.push .none) >>= fun _=>updateSeq s.heap.objs.size (·.pop)) _ _ _;refine ak (wpAny_updateSeq u rfl ?_);have G:=Heap.get?_update_self (Obj.mapSeq (·.push Value.none)) u rfl;refine wpAny_updateSeq (hz:=by seq_fits) G rfl ?_;have H:=Heap.get?_update_self (Obj.mapSeq (·.pop)) G rfl;generalize I:(i.update s.heap.objs.size (Obj.mapSeq (·.push Value.none))).update s.heap.objs.size (Obj.mapSeq (·.pop))=H2 at H ⊢;have a:∀b o,s.heap.get? b=some o->H2.get? b=some o:=fun b o e=>by rw[<-I];exact(Heap.get?_update_other _ _ (Nat.ne_of_gt (bw e))).trans ((Heap.get?_update_other _ _ (Nat.ne_of_gt (bw e))).trans (d b o e))
 have DK:H2.objs.size=s.heap.objs.size+1:=by
  rw[<-I,show((i.update s.heap.objs.size (Obj.mapSeq (·.push Value.none))).update s.heap.objs.size (Obj.mapSeq (·.pop))).objs.size=(i.update s.heap.objs.size (Obj.mapSeq (·.push Value.none))).objs.size from(Heap.SameBut.update ..).1,
   show(i.update s.heap.objs.size (Obj.mapSeq (·.push Value.none))).objs.size=i.objs.size from(Heap.SameBut.update ..).1,DJ]
 refine bc ⟨plainId_quiet F.plain_extend_loop _,Jl (A:=A.in1) (n₀:=s.heap.objs.size+1) (show A.in1.handled=none from hh) nd hl C (fun j R=>?_) e2 e3 B hn _ g.size 0 _ [] _ rfl (Nat.zero_le _)
  ⟨⟨_,_,a _ _ y,.inl rfl,.inl ⟨rfl,rfl,rfl⟩⟩,a _ _ ti,⟨_,_,_,a _ _ to⟩,h1.at fun o e=>a _ o e,h2.at fun o e=>a _ o e,h3.at fun o e=>a _ o e,U.at fun o e=>a _ o e,X.at fun o e=>a _ o e,Y.at fun o e=>a _ o e⟩
  (Nat.le_of_eq DK.symm) H rfl (fun j v h=>by simp at h) fun f J c' a0 a1 a2 a3=>?_⟩
 ·rcases List.mem_cons.mp R with rfl | R
  ·exact Nat.lt_succ_self _
  ·refine Nat.lt_succ_of_lt (x j ?_);simp only[List.mem_cons,List.not_mem_nil,or_false] at R ⊢;rcases R with q | q | q | q | q | q<;>simp[q]
 ·refine⟨rfl,hQ f J c' (fun b o hb e=>a0 b o (fun m=>?_) (a b o e)) a1 a2 a3⟩;rcases List.mem_cons.mp m with q | q
  ·exact absurd (bw e) (by rw[q];exact Nat.lt_irrefl _)
  ·exact hb q
end
end L2
namespace L2
open PySem PySem.Spec PyProof.Rows
theorem Jp{H b:Hp}{a:Addr}{u:HO}(s:bW H b)(h:Rd H a u):Rd b a u:=h.imp (fun e=>s _ _ e) fun⟨o,e⟩=>⟨o,s _ _ e⟩
theorem Am{H:Hp}{a:Addr}{u:HO}(n:H a=none)(h:Rd H a u):False:=by rcases h with h | ⟨o,h⟩<;>(rw[n] at h;cases h)
theorem Jq{H:Hp}{a:Addr}{c d:List V}(h:Rd H a (.tup c))(b:Rd H a (.tup d)):c=d:=by rcases h with h | ⟨o,h⟩<;>rcases b with b | ⟨e,b⟩<;>(rw[h] at b;cases b<;>rfl)
noncomputable def cP:List PyData->Bool
 | []=>true
 | .tuple _::_=>true
 | _::ds=>!ds.isEmpty&&cP ds
def mK(H:Hp)(a:Addr)(b:List V)(c:List PyData):Prop:=H a=some (.tup b)\/(∃o,H a=some (.frz o (.tup b)))/\cP c=true
theorem mK.mono{H b:Hp}{a:Addr}{c:List V}{d:List PyData}(s:bW H b)(h:mK H a c d):mK b a c d:=h.imp (fun e=>s _ _ e) fun⟨⟨o,e⟩,k⟩=>⟨⟨o,s _ _ e⟩,k⟩
theorem mK.rd{H:Hp}{a:Addr}{b:List V}{c:List PyData}(h:mK H a b c):Rd H a (.tup b):=h.imp id fun z=>z.1
mutual
inductive DV (H:Hp):V->PyData->Prop where
 | non:DV H .non .none
 | bl (b:Bool):DV H (.bl b) (.bool b)
 | int (i:Int):DV H (.int i) (.int i)
 | str (x:Str):DV H (.str x) (.str x)
 | lst {a:Addr}{xs:List V}{ds:List PyData}:H a=some (.lst xs)->aK H xs ds->DV H (.ref a) (.list ds)
 | tup {a:Addr}{xs:List V}{ds:List PyData}:mK H a xs ds->aK H xs ds->DV H (.ref a) (.tuple ds)
inductive aK (H:Hp):List V->List PyData->Prop where
 | nil:aK H [] []
 | cons {x:V}{xs:List V}{d:PyData}{ds:List PyData}:DV H x d->aK H xs ds->aK H (x::xs) (d::ds)
end
section
variable{H H':Hp}
mutual
theorem DV.mono(s:bW H H'):∀{v:V}{d:PyData},DV H v d->DV H' v d
 | _,_,.non=>.non
 | _,_,.bl b=>.bl b
 | _,_,.int i=>.int i
 | _,_,.str x=>.str x
 | _,_,.lst h r=>.lst (s _ _ h) (aK.mono s r)
 | _,_,.tup h r=>.tup (h.mono s) (aK.mono s r)
theorem aK.mono(s:bW H H'):∀{vs:List V}{ds:List PyData},aK H vs ds->aK H' vs ds
 | _,_,.nil=>.nil
 | _,_,.cons h r=>.cons (DV.mono s h) (aK.mono s r)
end
theorem aK.length:∀{a:List V}{b:List PyData},aK H a b->a.length=b.length
 | _,_,.nil=>rfl
 | _,_,.cons _ r=>congrArg (·+1) r.length
theorem aK.append:∀{a b:List V}{d c:List PyData},aK H a d->aK H b c->aK H (a++b) (d++c)
 | _,_,_,_,.nil,s=>s
 | _,_,_,_,.cons h r,s=>.cons h (r.append s)
theorem aK.get:∀{a:List V}{b:List PyData}{i:Nat}{d:PyData},aK H a b->b[i]? = some d->∃v,a[i]? = some v/\DV H v d
 | _,_,_,_,.nil,e=>by simp at e
 | _,_,0,_,.cons h _,e=>by simp at e;subst e;exact⟨_,rfl,h⟩
 | _,_,i+1,d,.cons _ r,e=>by obtain⟨v,h1,h2⟩:=r.get (i:=i) (d:=d) (by simpa using e);exact⟨v,by simpa using h1,h2⟩
theorem aK.get':∀{a:List V}{b:List PyData}{i:Nat}{v:V},aK H a b->a[i]? = some v->∃d,b[i]? = some d/\DV H v d
 | _,_,_,_,.nil,e=>by simp at e
 | _,_,0,_,.cons h _,e=>by simp at e;subst e;exact⟨_,rfl,h⟩
 | _,_,i+1,d,.cons _ r,e=>by obtain⟨v,h1,h2⟩:=r.get' (i:=i) (v:=d) (by simpa using e);exact⟨v,by simpa using h1,h2⟩
theorem aK.drop:∀{a:List V}{b:List PyData}(n:Nat),aK H a b->aK H (a.drop n) (b.drop n)
 | _,_,0,r=>r
 | _,_,_+1,.nil=>.nil
 | _,_,n+1,.cons _ r=>r.drop n
theorem bX{a:Addr}{o:HO}(h:H a=none):bW H (aQ H a o):=fun b u e=>by rw[bv (iy e h)];exact e
theorem DV.tup_inv{v:V}{c:List PyData}(h:DV H v (.tuple c)):∃a b,v=.ref a/\Rd H a (.tup b)/\aK H b c:=by cases h with | tup h r=>exact⟨_,_,rfl,h.rd,r⟩
theorem DV.tup_invK{v:V}{b:List PyData}(h:DV H v (.tuple b))(d:cP b=false):∃a c,v=.ref a/\H a=some (.tup c)/\aK H c b:=by cases h with | tup h r=>exact⟨_,_,rfl,h.elim id (fun z=>by rw[d] at z;cases z.2),r⟩
theorem DV.lst_inv{v:V}{c:List PyData}(h:DV H v (.list c)):∃a b,v=.ref a/\H a=some (.lst b)/\aK H b c:=by cases h with | lst h r=>exact⟨_,_,rfl,h,r⟩
theorem DV.int_inv{v:V}{i:Int}(h:DV H v (.int i)):v=.int i:=by cases h;rfl
theorem DV.str_inv{v:V}{x:Str}(h:DV H v (.str x)):v=.str x:=by cases h;rfl
theorem DV.bl_inv{v:V}{b:Bool}(h:DV H v (.bool b)):v=.bl b:=by cases h;rfl
theorem DV.non_inv{v:V}(h:DV H v .none):v=.non:=by cases h;rfl
end
section
variable{X:Cx}{pins:List (Addr×Obj)}{Y:St}{H:Hp}{s:Shared}
mutual
theorem Inv.reads(I:Inv X pins Y H s):∀{v:V}{d:PyData}{u:Value},DV H v d->bp v u->∃as,Reads s.heap u d as
 | _,_,_,.non,r=>by cases r;exact⟨_,.none⟩
 | _,_,_,.bl b,r=>by cases r;exact⟨_,.bool b⟩
 | _,_,_,.int i,r=>by obtain⟨t,rfl⟩:=r;exact⟨_,.int i t⟩
 | _,_,_,.str x,r=>by obtain⟨t,rfl⟩:=r;exact⟨_,.str x t⟩
 | _,_,_,.lst h q,r=>by cases r;obtain⟨_,its,n,rv,e⟩:=I.hok _ _ h;obtain⟨as,z⟩:=I.readsAll q rv;exact⟨_,reads_list_at e rfl rfl (by simpa using z)⟩
 | _,_,_,.tup h q,r=>by cases r;obtain⟨_,its,rv,o,e,c,n,d⟩:=h.rd.ok I.hok;obtain⟨as,z⟩:=I.readsAll q rv;exact⟨_,reads_tuple_at e c d (by simpa using z)⟩
theorem Inv.readsAll(I:Inv X pins Y H s):∀{vs:List V}{ds:List PyData}{us:List Value},aK H vs ds->bq vs us->∃as,ReadsAll s.heap us ds as
 | _,_,_,.nil,.nil=>⟨_,.nil⟩
 | _,_,_,.cons h q,.cons r rr=>by obtain⟨as,z⟩:=I.reads h r;obtain⟨bs,z'⟩:=I.readsAll q rr;exact⟨_,.cons z z'⟩
end
end
section
variable{X:Cx}
noncomputable def vM(neg:Bool):R2:=fun x y H Q=>∃d e,DV H x d/\DV H y e/\SeqAt.shaped d=true/\SeqAt.shaped e=true/\Q (.bl (PyData.eqv d e != neg)) H
theorem An(b:X.A.units+64<cLine):cV X (compareOp .Eq) (vM false):=by intro a s Y H x y v u Q I c f h;obtain⟨d,e,h1,h2,h3,g,q⟩:=h;obtain⟨as,i⟩:=I.reads h1 c;obtain⟨bs,j⟩:=I.reads h2 f;exact eq_dataH i j h3 g b ⟨_,H,I,by show Value.bool (PyData.eqv d e)=Value.bool (PyData.eqv d e != false);rw[Bool.bne_false],q⟩
theorem Jr(b:X.A.units+64<cLine):cV X (compareOp .NotEq) (vM true):=by intro a s Y H x y v u Q I c f h;obtain⟨d,e,h1,h2,h3,g,q⟩:=h;obtain⟨as,i⟩:=I.reads h1 c;obtain⟨bs,j⟩:=I.reads h2 f;exact ne_dataH i j h3 g b ⟨_,H,I,by show Value.bool (!PyData.eqv d e)=Value.bool (PyData.eqv d e != true);rw[Bool.bne_true],q⟩
@[simp] noncomputable def vN:PyData->String
 | .none=>"NoneType"
 | .bool _=>"bool"
 | .int _=>"int"
 | .str _=>"str"
 | .list _=>"list"
 | .tuple _=>"tuple"
 | .dict _=>"dict"
noncomputable def Js:List V->Hp->VK->Prop:=fun a H Q=>∃x d n b,a=[x,.ty n]/\DV H x d/\(∀K:Frag,kitOne K (.type (vN d)) (.type n)=some b)/\Q (.bl b) H
theorem Jt:ia X (.builtin "isinstance") Js:=by
 intro g s Y H k m Q I r h;obtain⟨x,d,n,b,rfl,hd,e,q⟩:=h;obtain⟨u,w,rfl,f,l⟩:=gi r;cases l;have fin:∀j,EP X g Y Q (.bool b) { s with toks:=j }:=fun j=>⟨.bl b,H,I.tok j,rfl,q⟩
 cases hd with
 | non=>exact oq I f .non (e _) fin
 | bl c=>exact oq I f (.bl c) (e _) fin
 | int i=>exact oq I f (.int i) (e _) fin
 | str z=>exact oq I f (.str z) (e _) fin
 | lst h r=>exact oq I f (.lst h) (e _) fin
 | @tup a k ds h r=>cases(show u=Value.ref a from f);obtain⟨_,_,_,p⟩:=h.rd.ok I.hok;obtain⟨o,h1,h2,_⟩:=p;exact kia_one PySem.W.kitx_tuple I.kIn ⟨o,h1,h2⟩ (e _) (fun z=>nomatch z) fin
end
section
variable{X:Cx}{pins:List (Addr×Obj)}{Y:St}{H:Hp}{s:Shared}{h':Heap}
theorem Inv.turnedNew{ch:List Addr}{a:Addr}{o:HO}{t':Nat}(I:Inv X pins Y H s)(f:∀b∈ch,hV X pins H b)(k:∀b d,b∉ch->s.heap.get? b=some d->h'.get? b=some d)(p:s.heap.objs.size<=a)
  (there:∀b∈ch,∀d,s.heap.get? b=some d->∃l,h'.get? b=some l) (new:cJ X.prog X.w (aQ H a o) h' a o):Inv X pins Y (aQ H a o) { s with heap:=h',toks:=t' }:=by
 have i:=I.hok.fresh p;have j:∀b u,H b=some u->b∉ch:=fun b u e z=>by rw[(f b z).1] at e;cases e
 refine I.step (g':=s.gens) (d':=s.drawn) (ch:=ch) (fun b h=>⟨(f b h).2.2.2.1,(f b h).2.1,(f b h).2.2.2.2.1,(f b h).2.2.2.2.2⟩) (fun b d _ _ g e _=>k b d g e) (fun b d _ _ g e _=>⟨d.slots,k b d g e⟩)
  (fun b d _ e n=>by rw[bv (Nat.ne_of_lt (Nat.lt_of_lt_of_le (bw e) p))];exact n) (fun b d g e=>⟨d,k b d g e⟩) (fun b x e=>bX i b _ e) (fun b d u e=>bX i b _ e) (fun b C e=>⟨#[],by rw[bX i b _ e];simp⟩) (fun m y=>?_) (fun b u e=>?_) I.bare
 ·obtain⟨t,A,B,ho,r⟩:=y;exact⟨t,A,B,k _ t (fun z=>(f _ z).2.1 rfl) ho,r⟩
 ·by_cases h:b=a
  ·subst h;rw[cF] at e;cases e;exact new
  ·rw[bv h] at e;refine(I.hok b u e).stay (fun c v g q=>k c v ?_ q) (fun c q=>bX i c _ q) fun c x q=>bX i c _ q;rcases g with z | z
   ·rw[z];exact j b u e
   ·exact j c _ z
end
noncomputable def Ao(K:Frag)(a:Addr):It:=
 ⟨fun i H=>∃b x,cU K H a b/\b[i]? = some x,fun i H v c=>∃T x,v=.ref T/\H T=none/\c = aQ H T (.tup [.int i,x])/\∀b,cU K H a b->b[i]? = some x,fun i H=>∃b,cU K H a b/\b.length<=i⟩
theorem Ju{P:Program}{w:World}{K:Frag}{elts:List Expr}{kk:Nat}{tpos:Pos}(a e it:Addr)(hne:e≠it):gD P w K (.Tuple elts kk tpos) (Ao K a) [e,it] e (fun i h=>(∃old,IsEnum h e it i old)/\h.IsListIter it a i) where
 mem:=by simp
 obj:=fun i h st b hb=>by
  obtain⟨⟨old,he⟩,o,e1,c,d⟩:=st;rcases List.mem_cons.mp hb with rfl | hb
  ·exact⟨_,he,fun v z=>by cases z⟩
  ·obtain rfl:=List.mem_singleton.mp hb;exact⟨o,e1,fun v z=>by rw[d] at z;cases z⟩
 keep:=fun i h h' st k=>⟨st.1.elim fun old he=>⟨old,k e (by simp) _ he⟩,st.2.at fun o e'=>k it (by simp) o e'⟩
 item:=by
  intro X hP hw hK hc i pins s Y H E I hf st hg;subst hP hw hK;obtain⟨⟨old,he⟩,hit⟩:=st;obtain⟨xs,x,hq,hx⟩:=hg;obtain⟨its,rv,p,hz⟩:=I.list hq;obtain⟨u,hu,ru⟩:=rv.get hx;refine wpAny_pyNext_enum_item he hit p.isList (x:=u) (by simpa using hu) hne fun h' ho hi' hT hsz hk=>⟨_,rfl,?_⟩
  refine wpAny_letOwnedTupleGo_enum (s:={ s with heap:=h',toks:=s.toks+1 }) ho fun h2 he2 hs2=>?_;have hel:s.heap.objs.size≠e:=Nat.ne_of_gt (bw he);have k2:∀b ob,b∉[e,it]->s.heap.get? b=some ob->h2.get? b=some ob:=fun b ob hb q=>by simp only[List.mem_cons,List.not_mem_nil,or_false,not_or] at hb;exact(hs2.2 b hb.1).trans (hk b ob hb.1 hb.2 q)
  have I1:Inv X pins Y (aQ H s.heap.objs.size (.tup [.int i,x])) { s with heap:=h2,toks:=s.toks+1 }:=by
   refine I.turnedNew (ch:=[e,it]) hf k2 (bI _) (fun b hb ob q=>?_) ?_
   ·rcases List.mem_cons.mp hb with rfl | hb
    ·exact⟨_,he2⟩
    ·obtain rfl:=List.mem_singleton.mp hb;obtain⟨o,e1,_⟩:=hi';exact⟨o,(hs2.2 b (Ne.symm hne)).trans e1⟩
   ·exact⟨by show 2<=sizeLine;decide,[.int i s.toks,u],.cons ⟨_,rfl⟩ (.cons ru .nil),⟨_,(hs2.2 _ hel).trans hT,rfl,_,rfl⟩⟩
  refine⟨.ref s.heap.objs.size,_,I1,rfl,⟨_,x,rfl,I.hok.fresh (bI _),rfl,fun ys hy=>by rw[I.list_inj hy hq];exact hx⟩,⟨⟨_,by simpa using he2⟩,hi'.at fun o e1=>(hs2.2 it (Ne.symm hne)).trans e1⟩,fun b hb=>?_⟩;have hb':b<s.heap.objs.size:=by
   rcases List.mem_cons.mp hb with rfl | hb
   ·exact bw he
   ·obtain rfl:=List.mem_singleton.mp hb;obtain⟨o,e1,_⟩:=hit;exact bw e1
  rw[bv (Nat.ne_of_lt hb')];exact(hf b hb).1
 done:=by intro X hP hw hK hc i pins s Y H E I hf st hg;subst hP hw hK;obtain⟨⟨old,he⟩,hit⟩:=st;obtain⟨xs,hq,hx⟩:=hg;obtain⟨its,rv,p,hz⟩:=I.list hq;obtain⟨f0,f1,f2,f3,f4,f5⟩:=hf it (by simp);have hl:=rv.length;exact wpAny_pyNext_enum_end (I.ok.hd hc) he hit p.isList (by simp;omega) fun h' eb=>⟨rfl,I.turned (t':=s.toks) (fun b o hb e=>eb b o hb e) f0 f1 f3 f4 f5⟩
 self:=fun _ _ _ _ _ st h=>st.1.elim fun _ he=>wpAny_pyIter_enum he h
section
variable{X:Cx}{elts:List Expr}{kk:Nat}{tpos:Pos}
noncomputable def Jv(K:Frag)(c:TA):TI:=fun Y H R=>c Y H fun d b=>∃a e,d=[.ref a]/\cU K b a e/\R (Ao K a) b
theorem Jw{a:Expr}{f:TA}{p pos:Pos}(i:Gl X "enumerate")(j:X.mg "enumerate" = none)(k:PA X [a] f)(m:starEach [a] X.env=[(false,eval a X.env)]:=by rfl):PI X (.Tuple elts kk tpos) (.Call (.Name "enumerate" p) [a] [] pos) (Jv X.K f):=by
 intro d s Y H R I h;refine Call_ (jC I i j (show bootBuiltins "enumerate" = some (.type "enumerate") by decide +kernel) (PyProof.Rows.callWith_type1 (aU (k pos d s Y H _ I h) fun A c ⟨B,n,I1,o,r⟩=>?_) m rfl));obtain⟨l,C,rfl,t,q⟩:=r;obtain⟨u,rfl,ru⟩:=dj o;cases ru;obtain⟨v,D,p,E⟩:=I1.list t;refine call_enumerate_list p.isList fun w g x y z=>?_;refine wpAny_pyIter_enum (s:={ c with heap:=w }) g ?_;refine⟨c.heap.objs.size+1,[c.heap.objs.size+1,c.heap.objs.size],_,_,n,rfl,I1.kept (t':=c.toks) z,Ju l _ _ (Nat.succ_ne_self _),⟨⟨_,g⟩,x⟩,fun b e=>?_,q⟩;have hb':c.heap.objs.size<=b:=by
  rcases List.mem_cons.mp e with rfl | e
  ·exact Nat.le_succ _
  ·obtain rfl:=List.mem_singleton.mp e;exact bI _
 exact I1.fpOk hb' (I1.hok.fresh hb')
end
end L2
namespace L2.L3
open PySem PySem.Spec PyProof.Rows
noncomputable def aw(O:List Addr)(H:Hp):Hp:=fun b=>if b∈O then none else H b
section
variable{O O':List Addr}{H H' H1 H2:Hp}
theorem ie{b:Addr}{o:HO}(h:H b=some o)(n:b∉O):aw O H b=some o:=by unfold aw;rw[if_neg n];exact h
theorem cW{b:Addr}{o:HO}(h:aw O H b=some o):H b=some o/\b∉O:=by
 unfold aw at h
 by_cases e:b∈O
 ·rw[if_pos e] at h;cases h
 ·rw[if_neg e] at h;exact⟨h,e⟩
theorem jH{a:Addr}{u:HO}(h:Rd (aw O H) a u):Rd H a u/\a∉O:=by
 rcases h with h | ⟨o,h⟩
 ·obtain⟨e,n⟩:=cW h;exact⟨.inl e,n⟩
 ·obtain⟨e,n⟩:=cW h;exact⟨.inr ⟨o,e⟩,n⟩
theorem mL:bW (aw O H) H:=fun b o h=>(cW h).1
structure aM (O:List Addr) (H:Hp) (O':List Addr) (H':Hp):Prop where
 keep:∀b o,b∉O->H b=some o->H' b=some o
 new:∀a∈O',a∈O\/H a=none
theorem aM.refl:aM O H O H:=⟨fun _ _ _ h=>h,fun _ h=>.inl h⟩
theorem aM.trans{f g i:List Addr}{j:Hp}(a:aM f H1 g H2)(b:aM g H2 i j):aM f H1 i j:=by
 have k:∀c o,c∉f->H1 c=some o->c∉g:=fun c o d e z=>(a.new c z).elim d fun n=>by rw[n] at e;cases e
 refine⟨fun c o d e=>b.keep c o (k c o d e) (a.keep c o d e),fun c h=>?_⟩
 by_cases d:c∈f
 ·exact .inl d
 ·refine .inr ?_;cases e:H1 c with
  | none=>rfl
  | some o=>
   rcases b.new c h with z | z
   ·exact absurd z (k c o d e)
   ·rw[a.keep c o d e] at z;cases z
theorem aM.same(s:bW H H'):aM O H O H':=⟨fun b o _ e=>s b o e,fun _ h=>.inl h⟩
theorem aM.hid(s:aM O H O' H'):bW (aw O H) (aw O' H'):=fun b o e=>by
 obtain⟨a,n⟩:=cW e;refine ie (s.keep b o n a) fun z=>?_;rcases s.new b z with q | q
 ·exact n q
 ·rw[q] at a;cases a
theorem kl(s:bW H H'):bW (aw O H) (aw O H'):=(aM.same s).hid
theorem ow(s:∀a∈O',a∈O):bW (aw O H) (aw O' H):=fun b o e=>by obtain⟨c,n⟩:=cW e;exact ie c fun z=>n (s b z)
end
inductive Fl where
 | d (x:PyData) | l (ds:List PyData) | m (tk:Bool) (kvs:List (PyData×PyData))
inductive Bx where
 | l (ds:List PyData) | m (tk:Bool) (kvs:List (PyData×PyData)) | o (C:Addr) (fs:List (Str×Fl)) | sd (fs:List (Str×Fl)) | ll (xs:List (List PyData)) | pr (C:Addr) (fs:List (Str×Fl)) (d:PyData)
inductive aj where
 | dat (d:PyData)
 | own (io:Bool) (b:Bx)
 | scr (ns:List Int)
 | exc (c:Str)
 | vw (b:Bx)
noncomputable abbrev ao:=List (Option aj)
structure Fx where
 H₀:Hp
 A₀:List Addr
 O₀:List Addr
 I₀:Nat->Addr
def iY(K:Frag)(H:Hp)(a:Addr)(c:List Int):Prop:=c.length<=63/\((∃o,H a=some (.frz o (.lst (c.map V.int))))\/
 ∃(o:Obj) (b:Array Value) (n:Nat),K.lookup a=some o/\o.cls=.type "list"/\o.dict=none/\o.data=.seq b n/\b.size<=sizeLine/\bq (c.map V.int) b.toList)
theorem iY.sq{K:Frag}{H:Hp}{a:Addr}{b:List Int}(h:iY K H a b):cU K H a (b.map V.int):=h.2.elim (fun⟨o,e⟩=>.inl (.inr ⟨o,e⟩)) .inr
theorem iY.mono{K:Frag}{H b:Hp}{a:Addr}{c:List Int}(h:iY K H a c)(k:∀o u,H a=some (.frz o u)->b a=some (.frz o u)):iY K b a c:=⟨h.1,h.2.imp (fun⟨o,e⟩=>⟨o,k _ _ e⟩) id⟩
def Jx(K:Frag)(a:Addr)(c:Str)(h:Heap):Prop:=∃C o,nsIn K mainGlobals c=some (some (.ref C))/\h.get? a=some o/\o.cls=.ref C
noncomputable def iC:bd->PyData
 | .inl i=>.int i
 | .inr x=>.str x
noncomputable def qY(a:List bd):PyData:=.tuple (a.map iC)
noncomputable def iZ(G H:Hp)(a:Addr):Bool->List (PyData×PyData)->Prop
 | false,b=>∃c:List (bd×V),H a=some (.dK c)/\Paired (fun(p:bd×V) (q:PyData×PyData)=>iC p.1=q.1/\DV G p.2 q.2) c b
 | true,b=>∃c:List (List bd×V),H a=some (.dT c)/\Paired (fun(p:List bd×V) (q:PyData×PyData)=>qY p.1=q.1/\DV G p.2 q.2) c b
noncomputable def gj(G H:Hp)(v:V):Fl->List Addr->Prop
 | .d x,b=>b=[]/\DV G v x
 | .l ds,b=>∃a e,v=.ref a/\b=[a]/\H a=some (.lst e)/\aK G e ds
 | .m f c,b=>∃a,v=.ref a/\b=[a]/\iZ G H a f c
inductive bx (G H:Hp):List (Str×V)->List (Str×Fl)->List (List Addr)->Prop where
 | nil:bx G H [] [] []
 | cons {n:Str}{v:V}{f:Fl}{fp:List Addr}{gs:List (Str×V)}{fs:List (Str×Fl)}{fps:List (List Addr)}:gj G H v f fp->bx G H gs fs fps->bx G H ((n,v)::gs) ((n,f)::fs) (fp::fps)
def qZ(G H:Hp)(b:Addr)(c:List PyData):Prop:=∃a,H b=some (.lst a)/\aK G a c
noncomputable def fy(G H:Hp)(a:Addr):Bx->List Addr->Prop
 | .l ds,c=>c=[a]/\∃g,H a=some (.lst g)/\aK G g ds
 | .m j i,c=>c=[a]/\iZ G H a j i
 | .o C fs,c=>∃f e b,c=a::f::b.flatten/\H a=some (.ins C f e)/\H f=some (.own a)/\bx G H e fs b
 | .sd fs,c=>∃e b,c=a::b.flatten/\H a=some (.dK (e.map fun p=>(Sum.inr p.1,p.2)))/\bx G H e fs b
 | .ll g,c=>∃bs:List Addr,c=a::bs/\H a=some (.lst (bs.map V.ref))/\Paired (qZ G H) bs g
 | .pr C fs d,c=>∃h v f e b,G a=some (.tup [.ref h,v])/\c=h::f::b.flatten/\H h=some (.ins C f e)/\H f=some (.own h)/\bx G H e fs b/\DV G v d
noncomputable def Mv:HO->Prop
 | .lst _=>True
 | .dK _=>True
 | .dT _=>True
 | .ins _ _ _=>True
 | .own _=>True
 | _=>False
noncomputable def cX(K:Frag)(H:Hp)(O:List Addr)(v:V):aj->List Addr->Prop
 | .dat d,_=>DV (aw O H) v d
 | .own _ b,e=>∃a,v=.ref a/\fy (aw O H) H a b e
 | .scr ns,_=>∃a,v=.ref a/\iY K H a ns
 | .exc c,_=>∃a φ,v=.ref a/\aw O H a=some (.ext φ)/\∀h,φ h->Jx K a c h
 | .vw b,_=>∃a e,v=.ref a/\fy (aw O H) (aw O H) a b e
section
variable{G G' H H':Hp}{a:Addr}{v:V}{fp:List Addr}
theorem iZ.keep{c:Bool}{b:List (PyData×PyData)}(h:iZ G H a c b)(k:H' a=H a)(g:bW G G'):iZ G' H' a c b:=by
 cases c with
 | false=>obtain⟨d,e,p⟩:=h;exact⟨d,k.trans e,Paired.mapP p fun _ _ z=>⟨z.1,DV.mono g z.2⟩⟩
 | true=>obtain⟨d,e,p⟩:=h;exact⟨d,k.trans e,Paired.mapP p fun _ _ z=>⟨z.1,DV.mono g z.2⟩⟩
theorem iZ.live{c:Bool}{b:List (PyData×PyData)}(h:iZ G H a c b):∃o,H a=some o/\Mv o:=by
 cases c with
 | false=>obtain⟨d,e,p⟩:=h;exact⟨_,e,trivial⟩
 | true=>obtain⟨d,e,p⟩:=h;exact⟨_,e,trivial⟩
theorem gj.keep{f:Fl}(h:gj G H v f fp)(k:∀c∈fp,H' c=H c)(g:bW G G'):gj G' H' v f fp:=by
 cases f with
 | d x=>exact⟨h.1,DV.mono g h.2⟩
 | l ds=>obtain⟨a,j,e,b,i,n⟩:=h;exact⟨a,j,e,b,(k a (by simp[b])).trans i,aK.mono g n⟩
 | m p o=>obtain⟨a,e,b,i⟩:=h;exact⟨a,e,b,i.keep (k a (by simp[b])) g⟩
theorem gj.live{f:Fl}(h:gj G H v f fp):∀c∈fp,∃o,H c=some o/\Mv o:=by
 cases f with
 | d x=>obtain⟨rfl,_⟩:=h;intro c b;cases b
 | l ds=>obtain⟨a,j,g,rfl,e,k⟩:=h;intro c b;obtain rfl:=List.mem_singleton.mp b;exact⟨_,e,trivial⟩
 | m n i=>obtain⟨a,g,rfl,e⟩:=h;intro c b;obtain rfl:=List.mem_singleton.mp b;exact e.live
theorem bx.keep{f:List (Str×V)}{fs:List (Str×Fl)}{d:List (List Addr)}(h:bx G H f fs d)(k:∀c∈d.flatten,H' c=H c)(g:bW G G'):bx G' H' f fs d:=by
 induction h with
 | nil=>exact .nil
 | cons a b i=>exact .cons (a.keep (fun c e=>k c (by simp[e])) g) (i fun c e=>k c (by rw[List.flatten_cons];exact bo _ e))
theorem bx.live{f:List (Str×V)}{fs:List (Str×Fl)}{e:List (List Addr)}(h:bx G H f fs e):∀c∈e.flatten,∃o,H c=some o/\Mv o:=by
 induction h with
 | nil=>intro c d;cases d
 | cons a b g=>
  intro c d;rw[List.flatten_cons] at d;rcases List.mem_append.mp d with d | d
  ·exact a.live c d
  ·exact g c d
theorem Lls.keep{bs:List Addr}{f:List (List PyData)}(h:Paired (qZ G H) bs f)(k:∀c∈bs,H' c=H c)(g:bW G G'):Paired (qZ G' H') bs f:=by
 induction h with
 | nil=>exact .nil
 | cons a b i=>obtain⟨j,e,d⟩:=a;exact .cons ⟨j,(k _ List.mem_cons_self).trans e,aK.mono g d⟩ (i fun c l=>k c (bL _ l))
theorem Lls.live{bs:List Addr}{g:List (List PyData)}(h:Paired (qZ G H) bs g):∀c∈bs,∃o,H c=some o/\Mv o:=by
 induction h with
 | nil=>intro c f;cases f
 | cons a b i=>
  intro c f;obtain⟨j,e,d⟩:=a;rcases List.mem_cons.mp f with rfl | f
  ·exact⟨_,e,trivial⟩
  ·exact i c f
theorem fy.keep{b:Bx}(h:fy G H a b fp)(k:∀c∈fp,H' c=H c)(g:bW G G'):fy G' H' a b fp:=by
 cases b with
 | l ds=>obtain⟨rfl,s,e,d⟩:=h;exact⟨rfl,s,(k a (by simp)).trans e,aK.mono g d⟩
 | m y u=>obtain⟨rfl,d⟩:=h;exact⟨rfl,d.keep (k a (by simp)) g⟩
 | o C fs=>obtain⟨p,q,i,rfl,j,r,f⟩:=h;exact⟨p,q,i,rfl,(k a (by simp)).trans j,(k p (by simp)).trans r,f.keep (fun c n=>k c (by simp[n])) g⟩
 | sd fs=>obtain⟨q,i,rfl,j,f⟩:=h;exact⟨q,i,rfl,(k a (by simp)).trans j,f.keep (fun c n=>k c (by simp[n])) g⟩
 | ll s=>obtain⟨bs,rfl,j,f⟩:=h;exact⟨bs,rfl,(k a (by simp)).trans j,Lls.keep f (fun c n=>k c (by simp[n])) g⟩
 | pr C fs d=>obtain⟨t,v,p,q,i,w,rfl,j,r,f,x⟩:=h;exact⟨t,v,p,q,i,g _ _ w,rfl,(k t (by simp)).trans j,(k p (by simp)).trans r,f.keep (fun c n=>k c (by simp[n])) g,DV.mono g x⟩
theorem fy.live{b:Bx}(h:fy G H a b fp):∀c∈fp,∃o,H c=some o/\Mv o:=by
 cases b with
 | l ds=>obtain⟨rfl,p,e,d⟩:=h;intro c g;obtain rfl:=List.mem_singleton.mp g;exact⟨_,e,trivial⟩
 | m s q=>obtain⟨rfl,d⟩:=h;intro c g;obtain rfl:=List.mem_singleton.mp g;exact d.live
 | o C fs=>
  obtain⟨r,n,j,rfl,i,k,f⟩:=h;intro c g;rcases List.mem_cons.mp g with rfl | g
  ·exact⟨_,i,trivial⟩
  ·rcases List.mem_cons.mp g with rfl | g
   ·exact⟨_,k,trivial⟩
   ·exact f.live c g
 | sd fs=>
  obtain⟨n,j,rfl,i,f⟩:=h;intro c g;rcases List.mem_cons.mp g with rfl | g
  ·exact⟨_,i,trivial⟩
  ·exact f.live c g
 | ll p=>
  obtain⟨bs,rfl,i,f⟩:=h;intro c g;rcases List.mem_cons.mp g with rfl | g
  ·exact⟨_,i,trivial⟩
  ·exact Lls.live f c g
 | pr C fs d=>
  obtain⟨t,v,r,n,j,u,rfl,i,k,f,w⟩:=h;intro c g;rcases List.mem_cons.mp g with rfl | g
  ·exact⟨_,i,trivial⟩
  ·rcases List.mem_cons.mp g with rfl | g
   ·exact⟨_,k,trivial⟩
   ·exact f.live c g
end
theorem cX.keep{K:Frag}{H H':Hp}{O j:List Addr}{v:V}{c:aj}{fp:List Addr}(h:cX K H O v c fp)(s:aM O H j H')(k:∀b∈fp,H' b=H b)(z:∀b o u,H b=some (.frz o u)->H' b=some (.frz o u)):cX K H' j v c fp:=by
 cases c with
 | dat d=>exact DV.mono s.hid h
 | own io b=>obtain⟨a,e,q⟩:=h;exact⟨a,e,q.keep k s.hid⟩
 | scr ns=>obtain⟨a,f,q⟩:=h;exact⟨a,f,q.mono fun o u w=>z _ _ _ w⟩
 | exc c=>obtain⟨a,φ,f,g,q⟩:=h;exact⟨a,φ,f,s.hid _ _ g,q⟩
 | vw b=>obtain⟨a,i,f,q⟩:=h;exact⟨a,i,f,q.keep (fun c l=>by obtain⟨o,g,_⟩:=q.live c l;rw[g];exact s.hid _ _ g) s.hid⟩
structure cb (K:Frag) (F:Fx) (H:Hp) (Y:St) (U:ao) (W:List (List Addr)):Prop where
 at_:∀(i:Nat) (c:aj),U[i]? = some (some c)->∃v fp,Y[i]? = some (some v)/\W[i]? = some fp/\cX K H (W.flatten++F.O₀) v c fp
 nd:(W.flatten++F.O₀).Nodup
 kept:∀b o,b∉F.A₀->F.H₀ b=some o->H b=some o
 new:∀a∈W.flatten,a∈F.A₀\/F.H₀ a=none
 live:∀a∈W.flatten++F.O₀,∃o,H a=some o/\Mv o
 len:U.length=Y.length
 lw:W.length=U.length
 io:∀(i:Nat) (b:Bx),U[i]? = some (some (.own true b))->Y[i]? = some (some (.ref (F.I₀ i)))
def aE(K:Frag)(F:Fx)(H:Hp)(Y:St)(U:ao)(O:List Addr):Prop:=∃W,cb K F H Y U W/\O=W.flatten++F.O₀
theorem gk{α:Type}{l:List α}{i j:Nat}{x y:α}(e:(l.set i x)[j]? = some y):(j=i/\y=x/\i<l.length)\/(j≠i/\l[j]? = some y):=by
 by_cases b:j=i
 ·subst b;have a:j<l.length:=by
   have:=(List.getElem?_eq_some_iff.mp e).1
   rwa [List.length_set] at this
  rw[List.getElem?_set_self a] at e;exact .inl ⟨rfl,(Option.some.inj e).symm,a⟩
 ·rw[List.getElem?_set_ne (Ne.symm b)] at e;exact .inr ⟨b,e⟩
theorem fz{α:Type}{W:List (List α)}{i:Nat}{c:List α}{a:α}(h:a∈(W.set i c).flatten):a∈c\/∃j l,j≠i/\W[j]? = some l/\a∈l:=by
 obtain⟨l,f,d⟩:=List.mem_flatten.mp h;obtain⟨j,g⟩:=List.getElem?_of_mem f;rcases gk g with⟨_,rfl,_⟩ | ⟨b,e⟩
 ·exact .inl d
 ·exact .inr ⟨j,l,b,e,d⟩
theorem bY{α:Type}{W:List (List α)}{j:Nat}{l:List α}{a:α}(h:W[j]? = some l)(b:a∈l):a∈W.flatten:=List.mem_flatten.mpr ⟨l,List.mem_of_getElem? h,b⟩
theorem Jy{α:Type}{W:List (List α)}{i j:Nat}{b l:List α}{a:α}(c:j≠i)(h:W[j]? = some l)(d:a∈l):a∈(W.set i b).flatten:=bY (j:=j) (by rw[List.getElem?_set_ne (Ne.symm c)];exact h) d
theorem Ap{α:Type}{W:List (List α)}{i:Nat}{b:List α}{a:α}(c:i<W.length)(d:a∈b):a∈(W.set i b).flatten:=bY (j:=i) (List.getElem?_set_self c) d
theorem km{α:Type}:∀{W:List (List α)}{i j:Nat}{l m:List α}{a:α},W.flatten.Nodup->W[i]? = some l->W[j]? = some m->i≠j->a∈l->a∉m
 | [],_,_,_,_,_,_,h,_,_,_=>by simp at h
 | w::W,0,0,_,_,_,_,_,_,d,_=>absurd rfl d
 | w::W,0,j+1,l,m,a,nd,h1,h2,_,b=>fun c=>by
  have e:w=l:=by simpa using h1
  subst e;rw[List.flatten_cons] at nd;exact(List.nodup_append.mp nd).2.2 a b a (bY (j:=j) (by simpa using h2) c) rfl
 | w::W,i+1,0,l,m,a,nd,h1,h2,_,b=>fun c=>by
  have e:w=m:=by simpa using h2
  subst e;rw[List.flatten_cons] at nd;exact(List.nodup_append.mp nd).2.2 a c a (bY (j:=i) (by simpa using h1) b) rfl
 | w::W,i+1,j+1,l,m,a,nd,h1,h2,d,b=>km (W:=W) (i:=i) (j:=j) (by rw[List.flatten_cons] at nd;exact(List.nodup_append.mp nd).2.1) (by simpa using h1) (by simpa using h2) (by omega) b
theorem ox{α:Type}[DecidableEq α]:∀{W:List (List α)}{i:Nat}{fp O:List α},(W.flatten++O).Nodup->fp.Nodup->(∀a∈fp,(∀j l,j≠i->W[j]? = some l->a∉l)/\a∉O)->((W.set i fp).flatten++O).Nodup
 | [],i,fp,O,h,_,_=>by simpa using h
 | w::W,0,fp,O,h,f,hd=>by
  rw[List.set_cons_zero,List.flatten_cons,List.append_assoc];rw[List.flatten_cons,List.append_assoc] at h;refine List.nodup_append.mpr ⟨f,(List.nodup_append.mp h).2.1,fun a d b c e=>?_⟩;subst e;rcases List.mem_append.mp c with c | c
  ·obtain⟨l,g,k⟩:=List.mem_flatten.mp c;obtain⟨j,m⟩:=List.getElem?_of_mem g;exact(hd a d).1 (j+1) l (by omega) (by simpa using m) k
  ·exact(hd a d).2 c
 | w::W,i+1,fp,O,h,f,hd=>by
  rw[List.set_cons_succ,List.flatten_cons,List.append_assoc];rw[List.flatten_cons,List.append_assoc] at h;obtain⟨o,h2,h3⟩:=List.nodup_append.mp h;have n:=ox (W:=W) (i:=i) (fp:=fp) (O:=O) h2 f fun a d=>⟨fun j l m e=>(hd a d).1 (j+1) l (by omega) (by simpa using e),(hd a d).2⟩
  refine List.nodup_append.mpr ⟨o,n,fun a d b c e=>?_⟩;subst e;rcases List.mem_append.mp c with c | c
  ·rcases fz c with c | ⟨j,l,m,e,g⟩
   ·exact(hd a c).1 0 w (by omega) (by simp) d
   ·exact h3 a d a (bt _ (bY e g)) rfl
  ·exact h3 a d a (bo _ c) rfl
section
variable{K:Frag}{F:Fx}{H H':Hp}{Y:St}{U:ao}{O O':List Addr}{W:List (List Addr)}
theorem cb.nofrz(st:cb K F H Y U W){b:Addr}(h:b∈W.flatten++F.O₀){o:Obj}{u:HO}:H b≠some (.frz o u):=fun z=>by obtain⟨a,e,m⟩:=st.live b h;rw[z] at e;cases e;exact m
theorem cb.put(st:cb K F H Y U W){i:Nat}{v:V}{c:aj}{fp:List Addr}(r:i<U.length)
  (keep:∀j l b,j≠i->W[j]? = some l->b∈l->H' b=H b) (f:∀b∈F.O₀,H' b=H b) (frz:∀b o,b∉W.flatten++F.O₀->H b=some o->H' b=some o)
  (C:fp.Nodup) (ap:∀a∈fp,(∀j l,j≠i->W[j]? = some l->a∉l)/\a∉F.O₀) (new:∀a∈fp,a∈W.flatten\/H a=none) (s:∀a∈fp,∃o,H' a=some o/\Mv o)
  (A:aM (W.flatten++F.O₀) H ((W.set i fp).flatten++F.O₀) H'->cX K H' ((W.set i fp).flatten++F.O₀) v c fp) (t:∀b,c=.own true b->v=.ref (F.I₀ i)) :
  cb K F H' (Y.set i (some v)) (U.set i (some c)) (W.set i fp)/\aM (W.flatten++F.O₀) H ((W.set i fp).flatten++F.O₀) H':=by
 have k:aM (W.flatten++F.O₀) H ((W.set i fp).flatten++F.O₀) H':=⟨frz,fun a h=>by
  rcases List.mem_append.mp h with h | h
  ·rcases fz h with h | ⟨j,l,_,e,n⟩
   ·exact(new a h).imp (bt _) id
   ·exact .inl (bt _ (bY e n))
  ·exact .inl (bo _ h)⟩
 have B:∀b o u,H b=some (.frz o u)->H' b=some (.frz o u):=fun b o u e=>frz b _ (fun z=>st.nofrz z e) e;have x:i<W.length:=by rw[st.lw];exact r
 refine⟨⟨fun j d e=>?_,ox st.nd C ap,fun b o p e=>?_,fun a h=>?_,fun a h=>?_,by rw[List.length_set,List.length_set,st.len],by rw[List.length_set,List.length_set,st.lw],fun j b e=>?_⟩,k⟩
 ·rcases gk e with⟨rfl,g,_⟩ | ⟨m,g⟩
  ·cases g;exact⟨v,fp,List.getElem?_set_self (by rw[<-st.len];exact r),List.getElem?_set_self x,A k⟩
  ·obtain⟨w,l,h1,h2,h3⟩:=st.at_ j d g;exact⟨w,l,by rw[List.getElem?_set_ne (Ne.symm m)];exact h1,by rw[List.getElem?_set_ne (Ne.symm m)];exact h2,h3.keep k (fun b D=>keep j l b m h2 D) B⟩
 ·have g:=st.kept b o p e
  by_cases y:b∈F.O₀
  ·rw[f b y];exact g
  ·refine frz b o (fun z=>?_) g;rcases List.mem_append.mp z with z | z
   ·rcases st.new b z with q | q
    ·exact p q
    ·rw[q] at e;cases e
   ·exact y z
 ·rcases fz h with h | ⟨j,l,_,e,n⟩
  ·rcases new a h with q | q
   ·exact st.new a q
   ·by_cases p:a∈F.A₀
    ·exact .inl p
    ·refine .inr ?_;cases e:F.H₀ a with
     | none=>rfl
     | some o=>rw[st.kept a o p e] at q;cases q
  ·exact st.new a (bY e n)
 ·rcases List.mem_append.mp h with h | h
  ·rcases fz h with h | ⟨j,l,m,e,n⟩
   ·exact s a h
   ·obtain⟨o,h1,h2⟩:=st.live a (bt _ (bY e n));exact⟨o,by rw[keep j l a m e n];exact h1,h2⟩
  ·obtain⟨o,h1,h2⟩:=st.live a (bo _ h);exact⟨o,by rw[f a h];exact h1,h2⟩
 ·rcases gk e with⟨rfl,g,_⟩ | ⟨m,g⟩
  ·rw[List.getElem?_set_self (by rw[<-st.len];exact r),t b (Option.some.inj g).symm]
  ·rw[List.getElem?_set_ne (Ne.symm m)];exact st.io j b g
theorem cb.grow(st:cb K F H Y U W)(s:bW H H'):cb K F H' Y U W where
 at_:=fun i c e=>let⟨v,fp,h1,h2,h3⟩:=st.at_ i c e;⟨v,fp,h1,h2,h3.keep (.same s) (fun b hb=>by
  obtain⟨o,e1,_⟩:=st.live b (bt _ (bY h2 hb));rw[e1];exact s _ _ e1) fun b o u e=>s _ _ e⟩
 nd:=st.nd
 kept:=fun b o n e=>s b o (st.kept b o n e)
 new:=st.new
 live:=fun a h=>let⟨o,e,m⟩:=st.live a h;⟨o,s _ _ e,m⟩
 len:=st.len
 lw:=st.lw
 io:=st.io
theorem aE.grow(st:aE K F H Y U O)(s:bW H H'):aE K F H' Y U O:=let⟨W,h,e⟩:=st;⟨W,h.grow s,e⟩
theorem aE.nofree(st:aE K F H Y U O):∀p,H p=none->p∉O:=fun p a z=>by obtain⟨W,h,rfl⟩:=st;obtain⟨o,e,_⟩:=h.live p z;rw[a] at e;cases e
theorem aE.lenE(st:aE K F H Y U O):U.length=Y.length:=let⟨_,h,_⟩:=st;h.len
theorem aE.dat(st:aE K F H Y U O){i:Nat}{d:PyData}(e:U[i]? = some (some (.dat d))):∃v,Y[i]? = some (some v)/\DV (aw O H) v d:=by obtain⟨W,h,rfl⟩:=st;obtain⟨v,a,h1,h2,h3⟩:=h.at_ i _ e;exact⟨v,h1,h3⟩
theorem aE.scr(st:aE K F H Y U O){i:Nat}{b:List Int}(e:U[i]? = some (some (.scr b))):∃a,Y[i]? = some (some (.ref a))/\iY K H a b:=by obtain⟨W,h,rfl⟩:=st;obtain⟨v,c,h1,h2,a,rfl,h3⟩:=h.at_ i _ e;exact⟨a,h1,h3⟩
theorem aE.set(st:aE K F H Y U O){i:Nat}{v:V}{d:PyData}(h:DV (aw O H) v d):aE K F H (Y.set i (some v)) (U.set i (some (.dat d))) O:=by
 obtain⟨W,st,rfl⟩:=st;refine⟨W,⟨fun j c e=>?_,st.nd,st.kept,st.new,st.live,by rw[List.length_set,List.length_set,st.len],by rw[List.length_set,st.lw],fun j b e=>?_⟩,rfl⟩
 rotate_left
 ·rcases gk e with⟨rfl,a,_⟩ | ⟨g,a⟩
  ·cases a
  ·rw[List.getElem?_set_ne (Ne.symm g)];exact st.io j b a
 rcases gk e with⟨rfl,a,f⟩ | ⟨g,a⟩
 ·cases a;obtain⟨k,m⟩:∃k,W[j]? = some k:=⟨W[j]'(by rw[st.lw];exact f),List.getElem?_eq_getElem _⟩
  exact⟨v,k,List.getElem?_set_self (by rw[<-st.len];exact f),m,h⟩
 ·obtain⟨w,l,h1,h2,h3⟩:=st.at_ j c a;exact⟨w,l,by rw[List.getElem?_set_ne (Ne.symm g)];exact h1,h2,h3⟩
theorem aE.box(st:aE K F H Y U O){i:Nat}{io:Bool}{b:Bx}(e:U[i]? = some (some (.own io b))):∃a m,Y[i]? = some (some (.ref a))/\fy (aw O H) H a b m/\(∀c∈m,c∈O)/\
  ∀(H':Hp) (t:Bx) (f:List Addr),(∀c o,c∉m->H c=some o->H' c=some o)->f.Nodup->(∀c∈f,c∈m\/H c=none)->(∀G,(∀O',aM O H O' H'->G=aw O' H'->(∀c∈f,c∈O')->bW (aw O H) G/\fy G H' a t f))->
   ∃O',aE K F H' Y (U.set i (some (.own io t))) O'/\aM O H O' H'/\(∀c∈O',c∈f\/c∈O):=by
 obtain⟨W,st,rfl⟩:=st;obtain⟨v,m,h1,h2,a,rfl,h3⟩:=st.at_ i _ e;have A:i<U.length:=(List.getElem?_eq_some_iff.mp e).1;have u:i<W.length:=by rw[st.lw];exact A
 refine⟨a,m,h1,h3,fun c d=>bt _ (bY h2 d),fun H' t f keep M w N=>?_⟩;have p:W.flatten.Nodup:=(List.nodup_append.mp st.nd).1;have B:∀c∈m,c∉F.O₀:=fun c d z=>(List.nodup_append.mp st.nd).2.2 c (bY h2 d) c z rfl;have D:∀j l c,j≠i->W[j]? = some l->c∈l->H' c=H c:=fun j l c n k d=>by obtain⟨o,g,_⟩:=st.live c (bt _ (bY k d));rw[g];exact keep c o (fun z=>km p k h2 n d z) g
 have E:∀c∈F.O₀,H' c=H c:=fun c d=>by obtain⟨o,g,_⟩:=st.live c (bo _ d);rw[g];exact keep c o (fun z=>B c z d) g
 have ap:∀c∈f,(∀j l,j≠i->W[j]? = some l->c∉l)/\c∉F.O₀:=fun c d=>by
  rcases w c d with q | q
  ·exact⟨fun j l n k z=>km p h2 k (Ne.symm n) q z,B c q⟩
  ·refine⟨fun j l _ k z=>?_,fun z=>?_⟩
   ·obtain⟨o,g,_⟩:=st.live c (bt _ (bY k z));rw[q] at g;cases g
   ·obtain⟨o,g,_⟩:=st.live c (bo _ z);rw[q] at g;cases g
 have frz:∀c o,c∉W.flatten++F.O₀->H c=some o->H' c=some o:=fun c o d I=>keep c o (fun z=>d (bt _ (bY h2 z))) I;have x:aM (W.flatten++F.O₀) H ((W.set i f).flatten++F.O₀) H':=⟨frz,fun c h=>by
  rcases List.mem_append.mp h with h | h
  ·rcases fz h with h | ⟨j,l,_,k,y⟩
   ·exact(w c h).imp (fun z=>bt _ (bY h2 z)) id
   ·exact .inl (bt _ (bY k y))
  ·exact .inl (bo _ h)⟩
 have r:∀c∈f,c∈(W.set i f).flatten++F.O₀:=fun c d=>bt _ (Ap u d);have s:=(N _ _ x rfl r).2;obtain⟨C,J⟩:=st.put (H':=H') (i:=i) (v:=.ref a) (c:=.own io t) (fp:=f) A D E frz M ap (fun c d=>(w c d).imp (fun z=>bY h2 z) id) (fun c d=>s.live c d) (fun _=>⟨a,rfl,s⟩) (fun Q z=>by cases z;have:=st.io i b e;rw[h1] at this;exact(Option.some.inj (Option.some.inj this)));have L:Y.set i (some (.ref a))=Y:=by
  apply List.ext_getElem?;intro j
  by_cases n:j=i
  ·subst n;rw[List.getElem?_set_self (List.getElem?_eq_some_iff.mp h1).1,h1]
  ·rw[List.getElem?_set_ne (Ne.symm n)]
 rw[L] at C;refine⟨_,⟨_,C,rfl⟩,J,fun c d=>?_⟩;rcases List.mem_append.mp d with d | d
 ·rcases fz d with d | ⟨j,l,_,k,y⟩
  ·exact .inl d
  ·exact .inr (bt _ (bY k y))
 ·exact .inr (bo _ d)
theorem aE.freeze(st:aE K F H Y U O){i:Nat}{b:List PyData}(e:U[i]? = some (some (.own false (.l b)))) :
  ∃v O',Y[i]? = some (some v)/\aE K F H Y (U.set i (some (.dat (.list b)))) O'/\aM O H O' H/\DV (aw O' H) v (.list b):=by
 obtain⟨W,st,rfl⟩:=st;obtain⟨v,u,h1,h2,a,rfl,rfl,w,h3,o⟩:=st.at_ i _ e;have p:i<U.length:=(List.getElem?_eq_some_iff.mp e).1;have f:W.flatten.Nodup:=(List.nodup_append.mp st.nd).1;have g:a∉(W.set i []).flatten++F.O₀:=fun z=>by
  rcases List.mem_append.mp z with z | z
  ·rcases fz z with z | ⟨j,l,d,q,r⟩
   ·cases z
   ·exact km f h2 q (Ne.symm d) List.mem_cons_self r
  ·exact(List.nodup_append.mp st.nd).2.2 a (bY h2 List.mem_cons_self) a z rfl
 have k:aM (W.flatten++F.O₀) H ((W.set i []).flatten++F.O₀) H->DV (aw ((W.set i []).flatten++F.O₀) H) (.ref a) (.list b):=fun s=>.lst (ie h3 g) (aK.mono s.hid o);obtain⟨m,n⟩:=st.put (H':=H) (i:=i) (v:=.ref a) (c:=.dat (.list b)) (fp:=[]) p (fun _ _ _ _ _ _=>rfl) (fun _ _=>rfl) (fun _ _ _ e=>e) List.nodup_nil (fun a h=>by cases h) (fun a h=>by cases h) (fun a h=>by cases h) (fun s=>k s) (fun _ z=>by cases z);have t:Y.set i (some (.ref a))=Y:=by
  apply List.ext_getElem?;intro j
  by_cases d:j=i
  ·subst d;rw[List.getElem?_set_self (List.getElem?_eq_some_iff.mp h1).1,h1]
  ·rw[List.getElem?_set_ne (Ne.symm d)]
 rw[t] at m;exact⟨_,_,h1,⟨_,m,rfl⟩,n,k n⟩
end
abbrev DT:=ao->(PyData->ao->Prop)->Prop
def Mn(t:DT):Prop:=∀U Q a,(∀d b,Q d b->a d b)->t U Q->t U a
noncomputable def gl(K:Frag)(F:Fx)(t:DT):TE:=fun Y H Q=>∃U O,aE K F H Y U O/\t U fun d c=>∀v a b,aE K F a Y c b->aM O H b a->DV (aw b a) v d->Q v a
structure DE (X:Cx) (F:Fx) (e:Expr) (t:DT):Prop where
 mn:Mn t
 pe:PE X e (gl X.K F t)
theorem _root_.L2.PE.imp{X:Cx}{e:Expr}{t t':TE}(h:PE X e t)(k:∀Y H Q,t' Y H Q->t Y H Q):PE X e t':=fun a s Y H Q I q=>h a s Y H Q I (k Y H Q q)
theorem _root_.L2.PT.imp{X:Cx}{e:Expr}{t t':TT}(h:PT X e t)(k:∀Y H Q,t' Y H Q->t Y H Q):PT X e t':=fun a s Y H Q I q=>h a s Y H Q I (k Y H Q q)
theorem _root_.L2.PS.imp{X:Cx}{e:Stmt}{t t':TS}(h:PS X e t)(k:∀D Y H,t' D Y H->t D Y H):PS X e t':=fun a s Y H D I q=>h a s Y H D I (k D Y H q)
theorem _root_.L2.PSs.imp{X:Cx}{e:List Stmt}{t t':TS}(h:PSs X e t)(k:∀D Y H,t' D Y H->t D Y H):PSs X e t':=fun a s Y H D I q=>h a s Y H D I (k D Y H q)
section
variable{X:Cx}{F:Fx}{a b e:Expr}{ta tb:DT}{pos:Pos}
noncomputable def dC(d:PyData):DT:=fun U Q=>Q d U
noncomputable def dV(i:Nat):DT:=fun U Q=>(∃d,U[i]? = some (some (.dat d))/\Q d U)\/∃c,U[i]? = some (some (.own false (.l c)))/\Q (.list c) (U.set i (some (.dat (.list c))))
theorem Jz{d:PyData}:Mn (dC d):=fun _ _ _ h q=>h _ _ q
theorem oy{d:PyData}{v:V}(h:PE X e (tC v))(hd:∀H,DV H v d):DE X F e (dC d):=
 ⟨Jz,h.imp fun Y H Q ⟨U,O,st,q⟩=>q v H O st .refl (hd _)⟩
theorem av{i j}:DE X F (.Constant (.int i) j pos) (dC (.int i)):=oy vc fun _=>.int i
theorem fS{i j}:DE X F (.Constant (.bool i) j pos) (dC (.bool i)):=oy FQ fun _=>.bl i
theorem ef{j}:DE X F (.Constant .none j pos) (dC .none):=oy zi fun _=>.non
theorem ck{x j}:DE X F (.Constant (.str x) j pos) (dC (.str x)):=oy zj fun _=>.str x
theorem Aq(i:Nat){x:Str}(h:PE X (.Name x pos) (bS i)):DE X F (.Name x pos) (dV i):=
 ⟨fun _ _ _ k q=>q.imp (fun⟨d,e,q⟩=>⟨d,e,k _ _ q⟩) fun⟨d,e,q⟩=>⟨d,e,k _ _ q⟩,h.imp fun Y H Q ⟨U,O,st,q⟩=>by
  rcases q with⟨d,e,q⟩ | ⟨ds,e,q⟩
  ·obtain⟨v,h1,h2⟩:=st.dat e;exact⟨v,h1,q v H O st .refl h2⟩
  ·obtain⟨v,c,h1,h2,h3,f⟩:=st.freeze e;exact⟨v,h1,q v H c h2 h3 f⟩⟩
abbrev D2:=PyData->PyData->(PyData->Prop)->Prop
noncomputable def dg(f:D2)(ta tb:DT):DT:=fun U Q=>ta U fun x c=>tb c fun y g=>f x y fun d=>Q d g
structure fA (r:R2) (f:D2):Prop where
 mn:∀x y Q Q',(∀d,Q d->Q' d)->f x y Q->f x y Q'
 ok:∀(O:List Addr) (H:Hp) (u v:V) (x y:PyData) (Q:VK),(∀p,H p=none->p∉O)->DV (aw O H) u x->DV (aw O H) v y->f x y (fun d=>∀w H',bW H H'->DV (aw O H') w d->Q w H')->r u v H Q
theorem ra{r:R2}{f:D2}{ta tb:DT}(o:fA r f)(k:Mn ta)(D:Mn tb){K:Frag}:∀Y H Q,gl K F (dg f ta tb) Y H Q->on r (gl K F ta) (gl K F tb) Y H Q:=fun Y H Q ⟨U,O,st,q⟩=>by refine⟨U,O,st,k _ _ _ (fun x l m v1 E n g p s=>?_) q⟩;refine⟨l,n,g,D _ _ _ (fun y G t u v h c i z=>?_) m⟩;refine o.ok h v v1 u x y Q c.nofree (DV.mono i.hid s) z (o.mn _ _ _ _ (fun d A w B j C=>?_) t);exact A w B h (c.grow j) (p.trans (i.trans (.same j))) C
theorem oz{r:R2}{f:D2}(o:fA r f)(c:Mn ta)(i:Mn tb):Mn (dg f ta tb):=fun _ _ _ k q=>c _ _ _ (fun _ _ d=>i _ _ _ (fun _ _ g=>o.mn _ _ _ _ (fun _ h=>k _ _ h) g) d) q
theorem lI{op:Operator}{r:R2}{f:D2}(g:cV X (binaryOp op) r)(o:fA r f)(c:DE X F a ta)(d:DE X F b tb):DE X F (.BinOp a op b pos) (dg f ta tb):=
 ⟨oz o c.mn d.mn,(Hb g c.pe d.pe).imp (ra o c.mn d.mn)⟩
theorem mM{op:CmpOp}{r:R2}{f:D2}(h:cV X (compareOp op) r)(o:fA r f)(c:DE X F a ta)(d:DE X F b tb)(g:behindInMarks op b=false):DE X F (.Compare a [op] [b] pos) (dg f ta tb):=
 ⟨oz o c.mn d.mn,(Hk h c.pe d.pe g).imp (ra o c.mn d.mn)⟩
theorem JA{r:R2}{f:D2}(g:jF X r)(o:fA r f)(c:DE X F a ta)(d:DE X F b tb)(h:ot b):DE X F (.Subscript a b pos) (dg f ta tb):=
 ⟨oz o c.mn d.mn,(vu g c.pe d.pe h).imp (ra o c.mn d.mn)⟩
noncomputable def fI(C:Int->Int->Prop)(g:Int->Int->PyData):D2:=fun x y Q=>∃i j,x=.int i/\y=.int j/\C i j/\Q (g i j)
theorem vO{C:Int->Int->Prop}{g:Int->Int->V}{g':Int->Int->PyData}(hg:∀i j H,DV H (g i j) (g' i j)):fA (rI C g) (fI C g') where
 mn:=fun _ _ _ _ k ⟨i,j,e1,e2,c,q⟩=>⟨i,j,e1,e2,c,k _ q⟩
 ok:=fun O H u v x y Q hO h1 h2 ⟨i,j,e1,e2,c,q⟩=>by subst e1 e2;exact⟨i,j,h1.int_inv,h2.int_inv,c,q _ H (fun _ _ h=>h) (hg i j _)⟩
theorem ko{g:Int->Int->V}{g':Int->Int->PyData}(hg:∀i j H,DV H (g i j) (g' i j)):fA (iW g) (fI (fun _ _=>True) g') where
 mn:=fun _ _ _ _ k ⟨i,j,e1,e2,c,q⟩=>⟨i,j,e1,e2,c,k _ q⟩
 ok:=fun O H u v x y Q hO h1 h2 ⟨i,j,e1,e2,_,q⟩=>by subst e1 e2;exact⟨i,j,h1.int_inv,h2.int_inv,q _ H (fun _ _ h=>h) (hg i j _)⟩
noncomputable def oA(neg:Bool):D2:=fun x y Q=>SeqAt.shaped x=true/\SeqAt.shaped y=true/\Q (.bool (PyData.eqv x y != neg))
theorem vP{neg:Bool}:fA (vM neg) (oA neg) where
 mn:=fun _ _ _ _ k ⟨e1,e2,q⟩=>⟨e1,e2,k _ q⟩
 ok:=fun O H u v x y Q hO h1 h2 ⟨e1,e2,q⟩=>⟨x,y,DV.mono mL h1,DV.mono mL h2,e1,e2,q _ H (fun _ _ h=>h) (.bl _)⟩
@[simp] noncomputable def isNone:PyData->Bool
 | .none=>true
 | _=>false
noncomputable def rb:D2:=fun x y Q=>y=.none/\Q (.bool (isNone x))
noncomputable def vQ:D2:=fun x y Q=>y=.none/\Q (.bool (!isNone x))
theorem Ar{H:Hp}{v:V}{d:PyData}(h:DV H v d):decide (v=.non)=isNone d:=by cases h<;>first | rfl | (exact decide_eq_false (fun z=>by cases z))
theorem As:fA (fun x y H Q=>y=.non/\Q (.bl (decide (x=.non))) H) rb where
 mn:=fun _ _ _ _ k ⟨e,q⟩=>⟨e,k _ q⟩
 ok:=fun O H u v x y Q hO h1 h2 ⟨e,q⟩=>by subst e;exact⟨h2.non_inv,by rw[Ar h1];exact q _ H (fun _ _ h=>h) (.bl _)⟩
theorem At:fA (fun x y H Q=>y=.non/\Q (.bl (!decide (x=.non))) H) vQ where
 mn:=fun _ _ _ _ k ⟨e,q⟩=>⟨e,k _ q⟩
 ok:=fun O H u v x y Q hO h1 h2 ⟨e,q⟩=>by subst e;exact⟨h2.non_inv,by rw[Ar h1];exact q _ H (fun _ _ h=>h) (.bl _)⟩
noncomputable def Au:D2:=fun x y Q=>∃c i d,x=.tuple c/\y=.int i/\bT c i=some d/\Q d
noncomputable def Av:D2:=fun x y Q=>∃c i d,x=.list c/\y=.int i/\bT c i=some d/\Q d
theorem Aw{H:Hp}{f:List V}{c:List PyData}{i:Int}{d:PyData}(h:aK H f c)(e:bT c i=some d):∃v,bT f i=some v/\DV H v d:=by
 unfold bT at e ⊢;rw[h.length];cases q:dG c.length i with
 | none=>rw[q] at e;cases e
 | some j=>rw[q] at e;exact h.get e
theorem Ax{K:Frag}:fA (vA K) Au where
 mn:=fun _ _ _ _ k ⟨ds,i,d,e1,e2,e3,q⟩=>⟨ds,i,d,e1,e2,e3,k _ q⟩
 ok:=fun O H u v x y Q hO h1 h2 ⟨ds,i,d,e1,e2,e3,q⟩=>by subst e1 e2;obtain⟨a,xs,rfl,ha,hd⟩:=h1.tup_inv;obtain⟨w,ew,hw⟩:=Aw hd e3;exact⟨a,xs,i,w,rfl,h2.int_inv,.inl (jH ha).1,ew,q w H (fun _ _ h=>h) hw⟩
theorem Ay{K:Frag}:fA (vv K) Av where
 mn:=fun _ _ _ _ k ⟨ds,i,d,e1,e2,e3,q⟩=>⟨ds,i,d,e1,e2,e3,k _ q⟩
 ok:=fun O H u v x y Q hO h1 h2 ⟨ds,i,d,e1,e2,e3,q⟩=>by subst e1 e2;obtain⟨a,xs,rfl,ha,hd⟩:=h1.lst_inv;obtain⟨w,ew,hw⟩:=Aw hd e3;exact⟨a,xs,i,w,rfl,h2.int_inv,.of (cW ha).1,ew,q w H (fun _ _ h=>h) hw⟩
theorem kq{O:List Addr}{H:Hp}{p:Addr}{c:List V}{d:List PyData}(f:H p=none)(g:p∉O)(h:aK (aw O H) c d):DV (aw O (aQ H p (.lst c))) (.ref p) (.list d):=
 .lst (ie cF g) (aK.mono (kl (bX f)) h)
theorem kr{O:List Addr}{H:Hp}{p:Addr}{c:List V}{d:List PyData}(f:H p=none)(g:p∉O)(h:aK (aw O H) c d):DV (aw O (aQ H p (.tup c))) (.ref p) (.tuple d):=
 .tup (.inl (ie cF g)) (aK.mono (kl (bX f)) h)
noncomputable def vR:D2:=fun x y Q=>∃d c,x=.list d/\y=.list c/\d.length+c.length<=sizeLine/\Q (.list (d++c))
theorem JB:fA zZ vR where
 mn:=fun _ _ _ _ k ⟨ds,es,e1,e2,e3,q⟩=>⟨ds,es,e1,e2,e3,k _ q⟩
 ok:=fun O H u v x y Q hO h1 h2 ⟨ds,es,e1,e2,e3,q⟩=>by subst e1 e2;obtain⟨a,xs,rfl,ha,hd⟩:=h1.lst_inv;obtain⟨b,ys,rfl,hb,he⟩:=h2.lst_inv;refine⟨a,b,xs,ys,rfl,rfl,(cW ha).1,(cW hb).1,by rw[hd.length,he.length];exact e3,fun p hp=>q _ _ (bX hp) (kq hp (hO p hp) (hd.append he))⟩
end
theorem jb{A B:Prop}(h:if true=true then A else B):A:=by rw[if_pos rfl] at h;exact h
theorem jc{A B:Prop}(h:if false=true then A else B):B:=by rw[if_neg Bool.false_ne_true] at h;exact h
abbrev eg:=ao->(List PyData->ao->Prop)->Prop
def rc(t:eg):Prop:=∀U Q a,(∀d b,Q d b->a d b)->t U Q->t U a
noncomputable def Az(K:Frag)(F:Fx)(t:eg):TA:=fun Y H Q=>∃U O,aE K F H Y U O/\t U fun e d=>∀c a b,aE K F a Y d b->aM O H b a->aK (aw b a) c e->Q c a
structure DA (X:Cx) (F:Fx) (es:List Expr) (t:eg):Prop where
 mn:rc t
 pa:PA X es (Az X.K F t)
theorem _root_.L2.PA.imp{X:Cx}{e:List Expr}{t t':TA}(h:PA X e t)(k:∀Y H Q,t' Y H Q->t Y H Q):PA X e t':=fun pos a s Y H Q I q=>h pos a s Y H Q I (k Y H Q q)
section
variable{X:Cx}{F:Fx}{a b e c:Expr}{es:List Expr}{ta tb tc:DT}{tA:eg}{pos:Pos}
noncomputable def JC:eg:=fun U Q=>Q [] U
noncomputable def JD(ta:DT)(f:eg):eg:=fun U Q=>ta U fun d g=>f g fun i h=>Q (d::i) h
theorem JE:DA X F [] JC:=⟨fun _ _ _ k q=>k _ _ q,ed.imp fun Y H Q ⟨U,O,st,q⟩=>q [] H O st .refl .nil⟩
theorem JF(f:DE X F e ta)(g:DA X F es tA)(n:starEach (e::es) X.env=(false,eval e X.env)::starEach es X.env:=by rfl):DA X F (e::es) (JD ta tA):=
 ⟨fun _ _ _ k q=>f.mn _ _ _ (fun _ _ h=>g.mn _ _ _ (fun _ _ i=>k _ _ i) h) q,(df f.pe g.pa n).imp fun Y H Q ⟨U,O,st,q⟩=>
  ⟨U,O,st,f.mn _ _ _ (fun d o h v y p j r s=>⟨o,p,j,g.mn _ _ _ (fun A z i t u w l m x=>i (v::t) u w l (r.trans m) (.cons (DV.mono m.hid s) x)) h⟩) q⟩⟩
noncomputable def JG(t:eg):DT:=fun U Q=>t U fun d f=>d.length<=sizeLine/\Q (.tuple d) f
noncomputable def JH(t:eg):DT:=fun U Q=>t U fun d f=>d.length<=sizeLine/\Q (.list d) f
theorem JI{j}(h:DA X F es tA):DE X F (.Tuple es j pos) (JG tA):=
 ⟨fun _ _ _ k q=>h.mn _ _ _ (fun _ _ d=>⟨d.1,k _ _ d.2⟩) q,(qH h.pa).imp fun Y H Q ⟨U,O,st,q⟩=>
  ⟨U,O,st,h.mn _ _ _ (fun s n d o r l f m i=>⟨by rw[i.length];exact d.1,fun p g=>d.2 _ _ l (f.grow (bX g)) (m.trans (.same (bX g))) (kr g (f.nofree p g) i)⟩) q⟩⟩
theorem JJ(h:DA X F es tA):DE X F (.List es pos) (JH tA):=
 ⟨fun _ _ _ k q=>h.mn _ _ _ (fun _ _ d=>⟨d.1,k _ _ d.2⟩) q,(qJ h.pa).imp fun Y H Q ⟨U,O,st,q⟩=>
  ⟨U,O,st,h.mn _ _ _ (fun r m d n o j f l i=>⟨by rw[i.length];exact d.1,fun p g=>d.2 _ _ j (f.grow (bX g)) (l.trans (.same (bX g))) (kq g (f.nofree p g) i)⟩) q⟩⟩
noncomputable def JK(ta:DT):DT:=fun U Q=>ta U fun d f=>∃i,d=.int i/\Q (.int (-i)) f
theorem JL(f:DE X F a ta):DE X F (.UnaryOp .USub a pos) (JK ta):=
 ⟨fun _ _ _ k q=>f.mn _ _ _ (fun _ _ ⟨i,e,q⟩=>⟨i,e,k _ _ q⟩) q,(Hc Hj f.pe).imp fun Y H Q ⟨U,O,st,q⟩=>
  ⟨U,O,st,f.mn _ _ _ (fun d o ⟨i,e,h⟩ v j l g m n=>by subst e;exact⟨i,n.int_inv,h _ j l g m (.int _)⟩) q⟩⟩
noncomputable def JM(ta:DT):DT:=fun U Q=>ta U fun d f=>∃b,d=.bool b/\Q (.bool (!b)) f
theorem JN(f:DE X F a ta):DE X F (.UnaryOp .Not a pos) (JM ta):=
 ⟨fun _ _ _ k q=>f.mn _ _ _ (fun _ _ ⟨i,e,q⟩=>⟨i,e,k _ _ q⟩) q,(Gk f.pe).imp fun Y H Q ⟨U,O,st,q⟩=>
  ⟨U,O,st,f.mn _ _ _ (fun d o ⟨i,e,h⟩ v j l g m n=>by subst e;exact⟨i,n.bl_inv,h _ j l g m (.bl _)⟩) q⟩⟩
noncomputable def JO(ta tb:DT):DT:=fun U Q=>ta U fun d f=>∃b,d=.bool b/\if b=true then tb f Q else Q (.bool false) f
noncomputable def JP(ta tb:DT):DT:=fun U Q=>ta U fun d f=>∃b,d=.bool b/\if b=true then Q (.bool true) f else tb f Q
theorem JQ{op}(h:DE X F a ta):DE X F (.BoolOp op [a] pos) ta:=⟨h.mn,Gh h.pe⟩
theorem JR{rest:List Expr}(g:DE X F a ta)(j:DE X F (.BoolOp .And (b::rest) pos) tb):DE X F (.BoolOp .And (a::b::rest) pos) (JO ta tb):=
 ⟨fun _ _ _ k q=>g.mn _ _ _ (fun _ _ ⟨i,e,q⟩=>⟨i,e,by cases i<;>first | exact k _ _ q | exact j.mn _ _ _ k q⟩) q,(Gi g.pe j.pe).imp fun Y H Q ⟨U,O,st,q⟩=>
  ⟨U,O,st,g.mn _ _ _ (fun d o ⟨i,e,l⟩ v p m f n r=>by
   subst e;refine⟨i,r.bl_inv,?_⟩;cases i with
   | true=>exact en ⟨o,m,f,j.mn _ _ _ (fun d z s w t u h x y=>s w t u h (n.trans x) y) (jb l)⟩
   | false=>exact em (jc l _ p m f n (.bl _))) q⟩⟩
theorem JS{rest:List Expr}(g:DE X F a ta)(j:DE X F (.BoolOp .Or (b::rest) pos) tb):DE X F (.BoolOp .Or (a::b::rest) pos) (JP ta tb):=
 ⟨fun _ _ _ k q=>g.mn _ _ _ (fun _ _ ⟨i,e,q⟩=>⟨i,e,by cases i<;>first | exact k _ _ q | exact j.mn _ _ _ k q⟩) q,(Gj g.pe j.pe).imp fun Y H Q ⟨U,O,st,q⟩=>
  ⟨U,O,st,g.mn _ _ _ (fun d o ⟨i,e,l⟩ v p m f n r=>by
   subst e;refine⟨i,r.bl_inv,?_⟩;cases i with
   | false=>exact em ⟨o,m,f,j.mn _ _ _ (fun d z s w t u h x y=>s w t u h (n.trans x) y) (jc l)⟩
   | true=>exact en (jb l _ p m f n (.bl _))) q⟩⟩
noncomputable def vS(p f:Int->Int->Bool)(ta tb tc:DT):DT:=fun U Q=>ta U fun x g=>tb g fun y d=>∃i j,x=.int i/\y=.int j/\if p i j=true then tc d (fun z h=>∃k,z=.int k/\Q (.bool (f j k)) h) else Q (.bool false) d
theorem JT{op f:CmpOp}{p G:Int->Int->Bool}(ho:cV X (compareOp op) (iW fun i j=>.bl (p i j)))(m:cV X (compareOp f) (iW fun i j=>.bl (G i j)))(n:DE X F a ta)(E:DE X F b tb)(o:DE X F c tc)
  (N:lastMarks [op,f] [b,c]=false:=by with_unfolding_all rfl):DE X F (.Compare a [op,f] [b,c] pos) (vS p G ta tb tc):=
 ⟨fun _ _ _ k q=>n.mn _ _ _ (fun _ _ r=>E.mn _ _ _ (fun _ _ ⟨i,j,s,t,d⟩=>⟨i,j,s,t,by
   by_cases h:p i j=true
   ·rw[if_pos h] at d ⊢;exact o.mn _ _ _ (fun _ _ ⟨l,e,A⟩=>⟨l,e,k _ _ A⟩) d
   ·rw[if_neg h] at d ⊢;exact k _ _ d⟩) r) q,
  (Ho ho m n.pe E.pe o.pe N).imp fun Y H Q ⟨U,O,st,q⟩=>
  ⟨U,O,st,n.mn _ _ _ (fun x R r v H1 S B I T=>⟨R,S,B,E.mn _ _ _ (fun y Z ⟨i,j,s,t,d⟩ w H2 J g C L=>by
   subst s t;refine⟨i,j,(DV.mono C.hid T).int_inv,L.int_inv,p i j,rfl,?_⟩
   by_cases h:p i j=true
   ·rw[if_pos h] at d ⊢;exact⟨Z,J,g,o.mn _ _ _ (fun z U3 ⟨l,e,A⟩ u H3 O3 D M d3=>by subst e;exact⟨j,l,(DV.mono M.hid L).int_inv,d3.int_inv,A _ H3 O3 D (I.trans (C.trans M)) (.bl _)⟩) d⟩
   ·rw[if_neg h] at d ⊢;exact d _ H2 J g (I.trans C) (.bl _)) r⟩) q⟩⟩
end
abbrev cG:=ao->(Bool->ao->Prop)->Prop
def jd(t:cG):Prop:=∀U Q a,(∀d b,Q d b->a d b)->t U Q->t U a
noncomputable def jI(K:Frag)(F:Fx)(t:cG):TT:=fun Y H Q=>∃U O,aE K F H Y U O/\t U fun b d=>∀a c,aE K F a Y d c->aM O H c a->Q b a
structure DB (X:Cx) (F:Fx) (e:Expr) (t:cG):Prop where
 mn:jd t
 pt:PT X e (jI X.K F t)
section
variable{X:Cx}{F:Fx}{a b e c:Expr}{ta tb tc:DT}{tA tB:cG}{pos:Pos}
noncomputable def fT(ta:DT):cG:=fun U Q=>ta U fun d f=>∃b,d=.bool b/\Q b f
theorem AA(h:Mn ta):jd (fT ta):=fun _ _ _ k q=>h _ _ _ (fun _ _ ⟨b,e,d⟩=>⟨b,e,k _ _ d⟩) q
theorem AB{K:Frag}(h:Mn ta):∀Y H Q,jI K F (fT ta) Y H Q->gl K F ta Y H fun x g=>∃k,x=.bl k/\Q k g:=fun Y H Q ⟨U,O,st,q⟩=>⟨U,O,st,h _ _ _ (fun d o ⟨b,e,i⟩ v j l f m n=>by subst e;exact⟨b,n.bl_inv,i j l f m⟩) q⟩
theorem dD(h:DE X F e ta)(d:∀whole,isTrue e X.env whole=(do let v <-whole;standAt e.pos;holding [v] (truthy v)):=by intro _;rfl):DB X F e (fT ta):=⟨AA h.mn,(FT h.pe d).imp (AB h.mn)⟩
theorem lJ{op:CmpOp}{r:R2}{f:D2}(i:cV X (compareOp op) r)(o:fA r f)(d:DE X F a ta)(g:DE X F b tb)(h:behindInMarks op b=false):DB X F (.Compare a [op] [b] pos) (fT (dg f ta tb)):=
 ⟨AA (oz o d.mn g.mn),(zv i d.pe g.pe h).imp fun Y H Q q=>ra o d.mn g.mn Y H _ (AB (oz o d.mn g.mn) Y H Q q)⟩
noncomputable def JU(t:cG):cG:=fun U Q=>t U fun b d=>Q (!b) d
theorem JV(h:DB X F a tA):DB X F (.UnaryOp .Not a pos) (JU tA):=⟨fun _ _ _ k q=>h.mn _ _ _ (fun _ _ q=>k _ _ q) q,(Gd h.pt).imp fun Y H Q ⟨U,O,st,q⟩=>⟨U,O,st,h.mn _ _ _ (fun b l f g i d j=>f g i d j) q⟩⟩
structure DW (X:Cx) (F:Fx) (e:Expr) (t:cG):Prop where
 mn:jd t
 pw:PW X e (jI X.K F t)
theorem _root_.L2.PW.imp{X:Cx}{e:Expr}{t t':TT}(h:PW X e t)(k:∀Y H Q,t' Y H Q->t Y H Q):PW X e t':=fun f d s Y H Q I q=>h f d s Y H Q I (k Y H Q q)
theorem DW.db{t:cG}(h:DW X F e t):DB X F e t:=⟨h.mn,h.pw.pt⟩
noncomputable def JW(t u:cG):cG:=fun U Q=>t U fun b d=>if b=true then u d Q else Q false d
noncomputable def JX(t u:cG):cG:=fun U Q=>t U fun b d=>if b=true then Q true d else u d Q
theorem JY(h:DB X F a tA):DW X F (.BoolOp .And [a] pos) tA:=⟨h.mn,FZ h.pt⟩
theorem JZ(h:DB X F a tA):DW X F (.BoolOp .Or [a] pos) tA:=⟨h.mn,Ga h.pt⟩
theorem Ka{rest:List Expr}(f:DB X F a tA)(h:DW X F (.BoolOp .And (b::rest) pos) tB):DW X F (.BoolOp .And (a::b::rest) pos) (JW tA tB):=
 ⟨fun _ _ _ k q=>f.mn _ _ _ (fun b _ q=>by cases b<;>first | exact k _ _ q | exact h.mn _ _ _ k q) q,(Gb f.pt h.pw).imp fun Y H Q ⟨U,O,st,q⟩=>
  ⟨U,O,st,f.mn _ _ _ (fun b m i n j d l=>by
   cases b with
   | true=>exact en ⟨m,j,d,h.mn _ _ _ (fun b t o p r g s=>o p r g (l.trans s)) (jb i)⟩
   | false=>exact em (jc i n j d l)) q⟩⟩
theorem Kb{rest:List Expr}(f:DB X F a tA)(h:DW X F (.BoolOp .Or (b::rest) pos) tB):DW X F (.BoolOp .Or (a::b::rest) pos) (JX tA tB):=
 ⟨fun _ _ _ k q=>f.mn _ _ _ (fun b _ q=>by cases b<;>first | exact k _ _ q | exact h.mn _ _ _ k q) q,(Gc f.pt h.pw).imp fun Y H Q ⟨U,O,st,q⟩=>
  ⟨U,O,st,f.mn _ _ _ (fun b m i n j d l=>by
   cases b with
   | false=>exact em ⟨m,j,d,h.mn _ _ _ (fun b t o p r g s=>o p r g (l.trans s)) (jc i)⟩
   | true=>exact en (jb i n j d l)) q⟩⟩
noncomputable def Kc(t:cG)(ta tb:DT):DT:=fun U Q=>t U fun b d=>if b=true then ta d Q else tb d Q
theorem Kd(h:DB X F c tA)(i:DE X F a ta)(p:DE X F b tb):DE X F (.IfExp c a b pos) (Kc tA ta tb):=
 ⟨fun _ _ _ k q=>h.mn _ _ _ (fun b _ q=>by cases b<;>first | exact i.mn _ _ _ k q | exact p.mn _ _ _ k q) q,(Gn h.pt i.pe p.pe).imp fun Y H Q ⟨U,O,st,q⟩=>
  ⟨U,O,st,h.mn _ _ _ (fun b r s x t g u=>by
   cases b with
   | true=>exact en ⟨r,t,g,i.mn _ _ _ (fun d w j v l m f n o=>j v l m f (u.trans n) o) (jb s)⟩
   | false=>exact em ⟨r,t,g,p.mn _ _ _ (fun d w j v l m f n o=>j v l m f (u.trans n) o) (jc s)⟩) q⟩⟩
end
abbrev DN:=List PyData->(PyData->Prop)->Prop
structure jJ (r:List V->Hp->VK->Prop) (f:DN):Prop where
 mn:∀xs Q Q',(∀d,Q d->Q' d)->f xs Q->f xs Q'
 ok:∀(O:List Addr) (H:Hp) (vs:List V) (xs:List PyData) (Q:VK),(∀p,H p=none->p∉O)->aK (aw O H) vs xs->f xs (fun d=>∀w H',bW H H'->DV (aw O H') w d->Q w H')->r vs H Q
noncomputable def oB(f:DN)(t:eg):DT:=fun U Q=>t U fun b a=>f b fun d=>Q d a
section
variable{X:Cx}{F:Fx}{e:Expr}{es:List Expr}{tA:eg}{pos p:Pos}{x:Str}{id T:String}{r:List V->Hp->VK->Prop}{f:DN}
theorem AC{K:Frag}(o:jJ r f)(h:rc tA):∀Y H Q,gl K F (oB f tA) Y H Q->vr r (Az K F tA) Y H Q:=fun Y H Q ⟨U,O,st,q⟩=>⟨U,O,st,h _ _ _ (fun t u g i j b a k l=>o.ok b j i t Q a.nofree l (o.mn _ _ _ (fun d m w n c s=>m w n b (a.grow c) (k.trans (.same c)) s) g)) q⟩
theorem AD(o:jJ r f)(h:rc tA):Mn (oB f tA):=fun _ _ _ k q=>h _ _ _ (fun _ _ a=>o.mn _ _ _ (fun _ b=>k _ _ b) a) q
theorem fB(d:ia X (.builtin id) r)(o:jJ r f)(g:Gl X x)(h:X.mg x=none)(i:bootBuiltins x=some (.builtin id))(a:DA X F (e::es) tA)(j:x≠"__name__":=by decide)(b:(x==("__debug__":Str))=false:=by decide)
  (k:starEach (e::es) X.env=(false,eval e X.env)::starEach es X.env:=by rfl) (c:(backTo pos (starEach es X.env)).any (·.1)=false:=by rfl):DE X F (.Call (.Name x p) (e::es) [] pos) (oB f tA):=
 ⟨AD o a.mn,(mH d g h i a.pa j b k c).imp (AC o a.mn)⟩
theorem AE(d:ia X (.type T) r)(o:jJ r f)(g:Gl X x)(h:X.mg x=none)(i:bootBuiltins x=some (.type T))(a:DA X F (e::es) tA)(j:x≠"__name__":=by decide)(b:(x==("__debug__":Str))=false:=by decide)
  (k:starEach (e::es) X.env=(false,eval e X.env)::starEach es X.env:=by rfl) (c:(backTo pos (starEach es X.env)).any (·.1)=false:=by rfl):DE X F (.Call (.Name x p) (e::es) [] pos) (oB f tA):=
 ⟨AD o a.mn,(vt d g h i a.pa j b k c).imp (AC o a.mn)⟩
end
noncomputable def AF(n:String)(a:DT):DT:=fun U Q=>a U fun d c=>∃b,(∀K:Frag,kitOne K (.type (vN d)) (.type n)=some b)/\Q (.bool b) c
section
variable{X:Cx}{F:Fx}{e:Expr}{ta:DT}{pos p p2:Pos}{T:String}{x:Str}
theorem jK(i:Gl X "isinstance")(j:X.mg "isinstance" = none)(h:DE X F e ta)(l:PE X (.Name x p2) (tC (.ty T)))
  (g:starEach [e,.Name x p2] X.env=(false,eval e X.env)::starEach [.Name x p2] X.env:=by rfl) (a:starEach [.Name x p2] X.env=(false,eval (.Name x p2) X.env)::starEach [] X.env:=by rfl) (c:(backTo pos (starEach [.Name x p2] X.env)).any (·.1)=false:=by rfl) :
  DE X F (.Call (.Name "isinstance" p) [e,.Name x p2] [] pos) (AF T ta):=
 ⟨fun _ _ _ k q=>h.mn _ _ _ (fun _ _ ⟨b,e,q⟩=>⟨b,e,k _ _ q⟩) q,
  (mH Jt i j (show bootBuiltins "isinstance" = some (.builtin "isinstance") by decide +kernel) (df h.pe (df l ed a) g) (by decide) (by decide) g c).imp fun Y H Q ⟨U,O,st,q⟩=>
  ⟨U,O,st,h.mn _ _ _ (fun d t ⟨b,e,m⟩ v n o f r s=>⟨v,d,T,b,rfl,DV.mono mL s,e,m _ n o f r (.bl b)⟩) q⟩⟩
end
structure eZ (g:Heap) (H:Hp) (h:Heap) (a:Addr) (C:Value) (fl:Option Value):Prop where
 gh:∀b o,g.get? b=some o->∃o',h.get? b=some o'
 lo:g.get? a=none
 un:H a=none
 ob:∃oe vs a0,h.get? a=some oe/\oe.cls=C/\oe.data=.fields vs/\vs[0]? = some a0/\
  ((fl=none/\vs[1]? = some .none)\/∃T oT ts f,fl=some f/\vs[1]? = some (.ref T)/\g.get? T=none/\H T=none/\T≠a/\h.get? T=some oT/\oT.data=.fields ts/\ts[3]? = some f)
structure Ch (g:Heap) (H:Hp) (fs:List Addr) (h h':Heap):Prop where
 keep:∀b o,h.get? b=some o->((∃o',g.get? b=some o')\/H b≠none)->b∉fs->h'.get? b=some o
 slot:∀b o,b∈fs->h.get? b=some o->∃sl,h'.get? b=some { o with slots:=sl }
 there:∀b o,h.get? b=some o->∃o',h'.get? b=some o'
theorem Ch.refl{g:Heap}{H:Hp}{fs:List Addr}{h:Heap}:Ch g H fs h h:=⟨fun _ _ e _ _=>e,fun b o _ e=>⟨o.slots,e⟩,fun b o e=>⟨o,e⟩⟩
theorem Ch.trans{g:Heap}{H:Hp}{fs:List Addr}{h h1 h2:Heap}(x:Ch g H fs h h1)(y:Ch g H fs h1 h2):Ch g H fs h h2 where
 keep:=fun b o e q n=>y.keep b o (x.keep b o e q n) q n
 slot:=fun b o m e=>let⟨_,e1⟩:=x.slot b o m e;let⟨sl,e2⟩:=y.slot b _ m e1;⟨sl,e2⟩
 there:=fun b o e=>let⟨o1,e1⟩:=x.there b o e;y.there b o1 e1
theorem bC.some_of{P:Program}{w:World}{H:Hp}{h:Heap}(k:bC P w H h){b:Addr}(e:h.get? b=none):H b=none:=by
 cases q:H b with
 | none=>rfl
 | some u=>
  exfalso;have x:=k b u q;have:∀(u:HO),cJ P w H h b u->∃o,h.get? b=some o:=by
   intro u
   induction u with
   | lst d=>exact fun⟨_,_,_,_,e⟩=>⟨_,e⟩
   | tup d=>exact fun⟨_,_,_,o,e,_⟩=>⟨_,e⟩
   | dK a=>exact fun⟨_,_,_,_,o,_,_,e,_⟩=>⟨_,e⟩
   | dT a=>exact fun⟨_,_,_,_,o,_,_,e,_⟩=>⟨_,e⟩
   | set S n=>exact fun⟨o,_,_,_,e,_⟩=>⟨_,e⟩
   | ins C g fs=>exact fun⟨_,_,_,e,_⟩=>⟨_,e⟩
   | own y=>exact fun⟨_,e⟩=>⟨_,e⟩
   | xd fs=>exact fun⟨_,⟨_,_,_,e,_⟩,_⟩=>⟨_,e⟩
   | rng lo i=>exact fun⟨_,_,_,e⟩=>⟨_,e⟩
   | frz ob u _=>exact fun⟨e,_⟩=>⟨_,e⟩
   | tbl j=>exact fun e=>⟨_,e⟩
   | met f y=>exact fun e=>⟨_,e⟩
   | ext φ=>exact fun⟨_,⟨_,e⟩,_⟩=>⟨_,e⟩
  obtain⟨o,c⟩:=this u x;rw[e] at c;cases c
theorem AG{h base a:Heap}:∀{l:List Env},(∀b∈bV l,a.get? b=none)->h.FunFrames base l->h.FunFrames a l
 | [],_,_=>trivial
 | c::r,hb,⟨f,⟨L,o,d,_,ho,hd⟩,g⟩=>by
  have e:bV (c::r)=L::bV r:=by unfold bV;rw[List.filterMap_cons,d]
  exact⟨f,⟨L,o,d,hb L (by rw[e];exact List.mem_cons_self),ho,hd⟩,AG (fun b h=>hb b (by rw[e];exact bL _ h)) g⟩
section
variable{P:Program}{w:World}{M:Model}{A:Around}{E:Value->Shared->Prop}{s:Shared}{g base:Heap}{H:Hp}{env:Env}{outer:List Env}{L a:Addr}{C fv:Value}{fl:Option Value}
theorem AH{t:Obj}{u:Array Value}{head O:Value}{d:Bool}{Q:Unit->Shared->Prop}(v:A.frames=some (env::outer))(y:s.heap.FunFrames base (env::outer))(hf:env.frame=some L)(hk:∀b,s.heap.get? b=none->H b=none)
  (gh:∀b o,g.get? b=some o->∃i,s.heap.get? b=some i) (lo:g.get? a=none) (un:H a=none) (he:s.heap.get? a=some t) (hc:t.cls=C) (hd:t.data=.fields u) (B:1<u.size) (h0:u[0]? = some O)
  (h:∀f,Ch g H (bV (env::outer)) s.heap f->eZ g H f a C (some (rawInt L))->Q () { s with heap:=f }) :
  wpAny M A (do let x <-frameOf env;let pl <-entryPlaceOf L d;let b <-EntryCells.newEntry head x .none (rawInt L) .none pl;setField (.ref a) 1 b) Q E s:=by
 refine wpAny_entryW (base:=PySem.W.hideAll s.heap (a::bV (env::outer))) v (AG (fun b l=>PySem.W.hideAll_none _ (bL _ l)) y) hf he (fun b o e=>PySem.W.of_hideAll _ e) (PySem.W.hideAll_none _ List.mem_cons_self) hd B h0 fun f ⟨k1,k2,k3,k4⟩=>?_;obtain⟨D,G,T,oT,R,S,⟨e2,I⟩,e3,e4,U,X,Y,Z,e9⟩:=k3;have m:∀b o,b∈bV (env::outer)->s.heap.get? b=some o->∃m,f.get? b=some { o with slots:=m }:=fun b o l e=>by obtain⟨_,i,c,J⟩:=y.mem l;rw[e] at c;cases c;exact k4 b o e J
 have kp:∀b o,s.heap.get? b=some o->b≠a->b∉bV (env::outer)->f.get? b=some o:=fun b o e p r=>k1 b o (PySem.W.hideAll_get _ e fun z=>(List.mem_cons.mp z).elim p r);have hT:g.get? T=none/\H T=none:=by
  cases q:s.heap.get? T with
  | some o=>
   exfalso
   by_cases j:T∈bV (env::outer)
   ·obtain⟨_,i,c,J⟩:=y.mem j;rw[q] at c;cases c;obtain⟨N,k⟩:=m T o j q;rw[Y] at k;cases k;exact J R Z
   ·rw[PySem.W.hideAll_get _ q (fun z=>(List.mem_cons.mp z).elim X j)] at U;cases U
  | none=>
   refine⟨?_,hk T q⟩;cases q2:g.get? T with
   | none=>rfl
   | some o=>obtain⟨i,c⟩:=gh T o q2;rw[q] at c;cases c
 have ch:Ch g H (bV (env::outer)) s.heap f:=⟨fun b o e q n=>kp b o e (fun z=>?_) n,fun b o l e=>m b o l e,fun b o e=>?_⟩
 ·refine h f ch ⟨fun b o e=>?_,lo,un,D,G,O,S,e2.trans hc,e3,I,.inr ⟨T,oT,R,_,rfl,e4,hT.1,hT.2,X,Y,Z,e9⟩⟩;obtain⟨i,c⟩:=gh b o e;exact ch.there b i c
 ·subst z;rcases q with⟨i,q⟩ | q
  ·rw[lo] at q;cases q
  ·exact q un
 ·by_cases r:b∈bV (env::outer)
  ·obtain⟨N,c⟩:=m b o r e;exact⟨_,c⟩
  ·by_cases p:b=a
   ·subst p;exact⟨_,S⟩
   ·exact⟨o,kp b o e p r⟩
theorem Ke{h:Heap}{l:List Env}{T:Addr}{d:Obj}{e:Array Value}{f:Obj->Obj}(i:h.FunFrames base l)(j:h.get? T=some d)(hd:d.data=.fields e):(h.update T f).FunFrames base l:=
 i.of_keeps fun b o c k=>⟨o,by rw[Heap.get?_update_other _ _ (fun z=>k e (by subst z;rw[j] at c;cases c;exact hd))];exact c,rfl⟩
theorem AI{h:Heap}{fs:List Addr}{T:Addr}{c:Obj}{i:Array Value}{f:Array Value->Array Value}(j:h.get? T=some c)(hd:c.data=.fields i)(k:g.get? T=none)(l:H T=none)(d:T∉fs):Ch g H fs h (h.update T (Obj.mapFields f)):=by
 have self:(h.update T (Obj.mapFields f)).get? T=some (c.mapFields f):=Heap.get?_update_self _ j (Obj.isFreed_of_fields (Obj.data_mapFields hd f));refine⟨fun b o e q n=>?_,fun b o m e=>⟨o.slots,?_⟩,fun b o e=>?_⟩
 ·rw[Heap.get?_update_other _ _ (fun z=>?_)]
  ·exact e
  ·subst z;rcases q with⟨p,q⟩ | q
   ·rw[k] at q;cases q
   ·exact q l
 ·rw[Heap.get?_update_other _ _ (fun z=>d (by rw[z];exact m))];exact e
 ·by_cases z:b=T
  ·subst z;exact⟨_,self⟩
  ·exact⟨o,by rw[Heap.get?_update_other _ _ (Ne.symm z)];exact e⟩
theorem AJ{Q:Unit->Shared->Prop}(k:A.frames=some (env::outer))(t:s.heap.FunFrames base (env::outer))(u:env.frame=some L)(J:∀b,s.heap.get? b=none->H b=none)(x:eZ g H s.heap a C fl)
  (h:∀l,Ch g H (bV (env::outer)) s.heap l->eZ g H l a C (some (rawInt L))->Q () { s with heap:=l }):wpAny M A (noteFrame (.ref a) env) Q E s:=by
 obtain⟨I,lo,un,N,R,S,m,v,hd,y,U⟩:=x;unfold noteFrame;simp only[u];rcases U with⟨_,h1⟩ | ⟨T,X,O,f,_,h1,n,p,r,j,c,h3⟩
 ·refine ak (wpAny_field m hd h1 ?_);rw[if_neg (by decide)];exact AH k t u J I lo un m v hd (Array.getElem?_eq_some_iff.mp h1).1 y h
 ·refine ak (wpAny_field m hd h1 ?_);rw[if_pos (show(Value.ref T != Value.none)=true from by simp)];refine ak (wpAny_field j c h3 ?_)
  by_cases d:(f==rawInt L)=true
  ·rw[if_pos d];have e:f=rawInt L:=by simpa using d
   subst e;exact bc (h s.heap .refl ⟨I,lo,un,N,R,S,m,v,hd,y,.inr ⟨T,X,O,_,rfl,h1,n,p,r,j,c,h3⟩⟩)
  ·rw[if_neg d];refine ak (wpAny_setField j c (Array.getElem?_eq_some_iff.mp h3).1 ?_);have B:T∉bV (env::outer):=fun z=>by obtain⟨_,D,i,Y⟩:=t.mem z;rw[j] at i;cases i;exact Y O c
   have G:=AI (g:=g) (H:=H) (f:=(·.setIfInBounds 3 Value.none)) j c n p B;refine AH (s:={ s with heap:=s.heap.update T (Obj.mapFields (·.setIfInBounds 3 Value.none)) }) k (Ke t j c) u (fun b e=>?_) (fun b o e=>?_) lo un ?_ v hd (Array.getElem?_eq_some_iff.mp h1).1 y fun l ch Z=>h l (G.trans ch) Z
   ·refine J b ?_;cases q:s.heap.get? b with
    | none=>rfl
    | some o=>obtain⟨D,i⟩:=G.there b o q;rw[show({ s with heap:=s.heap.update T (Obj.mapFields (·.setIfInBounds 3 Value.none)) }:Shared).heap=s.heap.update T (Obj.mapFields (·.setIfInBounds 3 Value.none)) from rfl] at e;rw[e] at i;cases i
   ·obtain⟨D,i⟩:=I b o e;exact G.there b D i
   ·show(s.heap.update T _).get? a=some N;rw[Heap.get?_update_other _ _ r];exact m
theorem vT{Q:Unit->Shared->Prop}{fs:List Addr}(m:Option Addr)(n:∀b∈fs,∃o,s.heap.get? b=some o/\∀p,o.data≠.fields p)(x:eZ g H s.heap a C (some fv))
  (h:∀q,Ch g H fs s.heap q->eZ g H q a C (some (m.elim Value.none fun f=>rawInt f))->Q () { s with heap:=q }):wpAny M A (setFlight (.ref a) m) Q E s:=by
 obtain⟨S,lo,un,y,p,B,t,D,hd,G,I⟩:=x;rcases I with⟨z,_⟩ | ⟨T,U,J,f,_,h1,d,i,j,l,c,h3⟩
 ·cases z
 ·unfold setFlight;refine ak (wpAny_field t hd h1 ?_);rw[if_pos (show(Value.ref T != Value.none)=true from by simp)];have r:T∉fs:=fun z=>by obtain⟨o,u,N⟩:=n T z;rw[l] at u;cases u;exact N J c
  have k:=(Array.getElem?_eq_some_iff.mp h3).1;have v:=AI (g:=g) (H:=H) (f:=(·.setIfInBounds 3 (m.elim Value.none fun f=>rawInt f))) l c d i r;refine wpAny_setField l c k (h _ v ⟨fun b o e=>?_,lo,un,y,p,B,?_,D,hd,G,.inr ⟨T,_,_,_,rfl,h1,d,i,j,Heap.get?_update_self _ l (Obj.isFreed_of_fields (Obj.data_mapFields c _)),Obj.data_mapFields c _,?_⟩⟩)
  ·obtain⟨O,R⟩:=S b o e;exact v.there b O R
  ·rw[Heap.get?_update_other _ _ j];exact t
  ·simp[k]
theorem vU{h:Heap}{l:List Env}(c:h.FunFrames base l):∀b∈bV l,∃o,h.get? b=some o/\∀d,o.data≠.fields d:=fun b f=>let⟨_,o,e,n⟩:=c.mem f;⟨o,e,n⟩
theorem Ch.frames{fs:List Addr}{h d:Heap}{l:List Env}(c:Ch g H fs h d)(f:∀b∈bV l,b∈fs)(j:h.FunFrames base l):d.FunFrames base l:=by
 induction l with
 | nil=>trivial
 | cons env r k=>
  obtain⟨m,⟨L,o,i,n,ho,hd⟩,p⟩:=j;have e:bV (env::r)=L::bV r:=by unfold bV;rw[List.filterMap_cons,i]
  obtain⟨u,q⟩:=c.slot L o (f L (by rw[e];exact List.mem_cons_self)) ho;exact⟨m,⟨L,_,i,n,q,hd⟩,k (fun b t=>f b (by rw[e];exact bL _ t)) p⟩
theorem AK{Q:Unit->Shared->Prop}(c:A.frames=some (env::outer))(e:s.heap.FunFrames base (env::outer))(i:env.frame=some L)(j:∀b,s.heap.get? b=none->H b=none)(x:eZ g H s.heap a C fl)
  (h:∀d,Ch g H (bV (env::outer)) s.heap d->eZ g H d a C (some .none)->Q () { s with heap:=d }):wpAny M A (leaving env (.ref a)) Q E s:=by
 unfold leaving;refine ak (AJ c e i j x fun n f k=>?_);refine vT (s:={ s with heap:=n }) (fs:=bV (env::outer)) none (vU (f.frames (fun _ h=>h) e)) k fun o l m=>h o (f.trans l) m
end
structure kt (X:Cx) (pins:List (Addr×Obj)) (g:Heap):Prop where
 s0:∀b o,X.s₀.heap.get? b=some o->b∉X.ex->∃o',g.get? b=some o'
 loc:∃o,g.get? X.env.locals=some o
 cell:∀x c,X.env.cells.lookup x=some c->∃o,g.get? c=some o
 pin:∀p∈X.pn++pins,∃o,g.get? p.1=some o
section
variable{X:Cx}{pins:List (Addr×Obj)}{Y:St}{H:Hp}{s:Shared}{g h':Heap}
theorem _root_.L2.Inv.cov(I:Inv X pins Y H s):kt X pins s.heap:=by
 refine⟨fun b o e n=>I.base.there b o e n,?_,fun x c e=>?_,fun p a=>⟨_,(I.pin p a).1⟩⟩
 ·obtain⟨m,⟨o,d,f,ho,_⟩,_⟩:=I.loc;exact⟨o,ho⟩
 ·obtain⟨v,o,ho,_⟩:=I.cell x c e;exact⟨o,ho⟩
theorem _root_.L2.Inv.stkIn(I:Inv X pins Y H s){b:Addr}(h:b∉bV X.stack):b∉X.fs:=by
 rcases I.ok.stk with e | ⟨e,a⟩
 ·rw[e] at h;exact h
 ·rw[e] at h;unfold bV at h;rw[List.filterMap_cons,a] at h;exact fun z=>h (bL _ z)
theorem _root_.L2.Inv.stkOut(I:Inv X pins Y H s){b:Addr}(h:b∉X.fs)(a:b≠X.env.locals):b∉bV X.stack:=fun z=>(List.mem_cons.mp (I.stkSub b z)).elim a h
theorem Kf{h h':Heap}{a:Addr}{m:Str->Option Value}(k:∀o,h.get? a=some o->∃b,h'.get? a=some { o with slots:=b })(c:h.Ns a m):h'.Ns a m:=by obtain⟨o,d,e,ho,hd,r⟩:=c;obtain⟨b,f⟩:=k o ho;exact⟨_,d,e,f,hd,r⟩
theorem _root_.L2.Inv.ch(I:Inv X pins Y H s)(C:kt X pins g)(c:Ch g H (bV X.stack) s.heap h'):Inv X pins Y H { s with heap:=h' }:=by
 have M:∀b o,s.heap.get? b=some o->H b≠none->h'.get? b=some o:=fun b o e n=>c.keep b o e (.inr n) fun z=>n (I.stkFree b z);have G:∀x a,X.env.cells.lookup x=some a->∀o,s.heap.get? a=some o->∃A,h'.get? a=some A/\A.data=o.data:=fun x a e o h=>by
  by_cases t:a∈bV X.stack
  ·obtain⟨T,y⟩:=c.slot a o t h;exact⟨_,y,rfl⟩
  ·exact⟨o,c.keep a o h (.inl (C.cell x a e)) t,rfl⟩
 refine⟨I.ok,I.os,I.bare,⟨fun b o e n B w=>?_,fun b o e n B w=>?_,fun b o e n w=>I.base.free b o e n w,fun b o e w=>?_,I.base.tups,I.base.frzs,I.base.tbls⟩,?_,fun x a e=>?_,I.free,I.freeC,fun p J=>?_,fun b u e=>?_,I.len⟩
 ·have y:=I.base.keep b o e n B w;refine c.keep b o y (.inl (C.s0 b o e w)) (I.stkOut B fun z=>?_);have j:=I.ok.above;have f:b<X.s₀.heap.objs.size:=bw e;rw[z] at f;exact Nat.lt_irrefl _ (Nat.lt_of_lt_of_le f j)
 ·obtain⟨T,y⟩:=I.base.slot b o e n B w
  by_cases t:b∈bV X.stack
  ·obtain⟨E,N⟩:=c.slot b _ t y;exact⟨E,N⟩
  ·exact absurd B (I.stkIn t)
 ·obtain⟨O,y⟩:=I.base.there b o e w;exact c.there b O y
 ·obtain⟨m,Q,R⟩:=I.loc;refine⟨m,Kf (fun o h=>?_) Q,fun i x v j f D=>?_⟩
  ·by_cases t:X.env.locals∈bV X.stack
   ·exact c.slot _ o t h
   ·exact⟨o.slots,c.keep _ o h (.inl C.loc) t⟩
  ·obtain⟨u,r,l⟩:=R i x v j f D;refine⟨u,r,?_⟩;rcases l with l | ⟨k,a,e,o,h,hd⟩
   ·exact .inl l
   ·obtain⟨A,j,f⟩:=G x a e o h;exact .inr ⟨k,a,e,A,j,f.trans hd⟩
 ·obtain⟨v,o,h,hd⟩:=I.cell x a e;obtain⟨A,j,f⟩:=G x a e o h;exact⟨v,A,j,f.trans hd⟩
 ·obtain⟨j,f,D,L,S⟩:=I.pin p J;exact⟨c.keep _ _ j (.inl (C.pin p J)) (I.stkOut L D),f,D,L,S⟩
 ·refine(I.hok b u e).stay (fun d v hd q=>M d v q ?_) (fun _ q=>q) fun _ _ q=>q;rcases hd with rfl | hd
  ·rw[e];exact fun z=>by cases z
  ·rw[hd];exact fun z=>by cases z
noncomputable def ba(P:Program)(w:World):fP:=fun b H s E e c=>∃a C d,e=.ref a/\c.os=s.os/\AllBare c.gens/\Un (bV b) [] H d s.heap c.heap/\bC P w d c.heap/\eZ s.heap d c.heap a C (some .none)/\E C none d
structure Kg (X:Cx) (pins:List (Addr×Obj)) (Y:St) (H:Hp) (s:Shared) (e:Value) (c:Str):Prop where
 inv:Inv X pins Y H s
 ex:∃a C g fl,e=.ref a/\kt X pins g/\eZ g H s.heap a C fl/\X.mg c=some C
noncomputable def glob(x:Str):Option PyData:=if x="ANY_ZONE" then some (.tuple [.int 0,.tuple []]) else if x="NO_DEEDS" then some (.tuple []) else none
noncomputable def gm:HO->Bool
 | .tup _=>true
 | .frz _ (.tup _)=>true
 | _=>false
theorem Kh{u:HO}(h:gm u=true):¬ Mv u:=fun m=>by
 cases u with
 | tup _=>exact m
 | frz _ _=>exact m
 | _=>cases h
noncomputable def oC(H:Hp):Hp:=fun b=>match H b with
 | some u=>if gm u=true then some u else none
 | none=>none
theorem Ki{H:Hp}{b:Addr}{o:HO}(h:oC H b=some o):gm o=true/\H b=some o:=by
 unfold oC at h;split at h
 ·rename_i u e;split at h
  ·rename_i t;cases h;exact⟨t,e⟩
  ·cases h
 ·cases h
theorem Kj{H:Hp}{b:Addr}{u:HO}(t:gm u=true)(h:H b=some u):oC H b=some u:=by unfold oC;rw[h];exact if_pos t
def GH(a:Str->Option Value)(H:Hp):Prop:=∀x d u,glob x=some d->a x=some u->∃v,bp v u/\DV (oC H) v d
def GF(a:Str->Option Value)(F:Fx):Prop:=GH a fun b=>if b∈F.A₀ then none else F.H₀ b
theorem GH.mono{c:Str->Option Value}{H a:Hp}(g:GH c H)(k:∀b u,gm u=true->H b=some u->a b=some u):GH c a:=fun x d u i j=>by obtain⟨v,r,f⟩:=g x d u i j;exact⟨v,r,DV.mono (fun b o e=>by obtain⟨t,h⟩:=Ki e;exact Kj t (k b o t h)) f⟩
theorem GF.at{a:Str->Option Value}{K:Frag}{F:Fx}{H:Hp}{Y:St}{U:ao}{O:List Addr}(g:GF a F)(st:aE K F H Y U O):GH a H:=GH.mono g fun b d t e=>by
 obtain⟨W,st,rfl⟩:=st;split at e
 ·cases e
 ·rename_i c;exact st.kept b _ c e
theorem GH.frame{d:Str->Option Value}{H:Hp}{A O:List Addr}{io:Nat->Addr}(g:GH d H)(h:∀a∈A,∃o,H a=some o/\Mv o):GF d ⟨H,A,O,io⟩:=GH.mono g fun b f t e=>by show(if b∈A then none else H b)=_;rw[if_neg,e];intro z;obtain⟨o,c,m⟩:=h b z;rw[e] at c;cases c;exact Kh t m
theorem GF.into{b:Str->Option Value}{K:Frag}{F:Fx}{H:Hp}{Y:St}{U:ao}{O c:List Addr}{io:Nat->Addr}(g:GF b F)(st:aE K F H Y U O):GF b ⟨H,[],c,io⟩:=(g.at st).frame fun a h=>by cases h
def fb(X:Cx)(F:Fx)(E:Str->ao->Prop):Prop:=GF X.mg F/\∀(pins:List (Addr×Obj)) (Y:St) (H:Hp) (s:Shared) (e:Value) (c:Str) (U:ao) (O:List Addr),Kg X pins Y H s e c->aE X.K F H Y U O->E c U->X.xe e s
theorem eZ.weak{g c:Heap}{H:Hp}{h:Heap}{a:Addr}{C:Value}{j:Option Value}(x:eZ g H h a C j)(k:∀b o,c.get? b=some o->∃d,g.get? b=some d):eZ c H h a C j:=by
 have l:∀b,g.get? b=none->c.get? b=none:=fun b e=>by
  cases q:c.get? b with
  | none=>rfl
  | some o=>obtain⟨d,i⟩:=k b o q;rw[e] at i;cases i
 obtain⟨A,lo,un,m,n,p,r,t,hd,u,v⟩:=x;refine⟨fun b o e=>let⟨d,i⟩:=k b o e;A b d i,l a lo,un,m,n,p,r,t,hd,u,v.imp id ?_⟩;rintro⟨T,w,y,f,h1,h2,h3,z⟩;exact⟨T,w,y,f,h1,h2,l T h3,z⟩
theorem _root_.L2.Inv.flies{E:XK}{e:Value}{f:Shared}(I:Inv X pins Y H s)(h:ba X.prog X.w X.stack H s E e f):∃a C c,e=.ref a/\Inv X pins Y c f/\kt X pins s.heap/\eZ s.heap c f.heap a C (some .none)/\E C none c:=by obtain⟨a,C,c,j,os,bare,un,hok,ex,q⟩:=h;obtain⟨k,g,d,t,i⟩:=f;obtain rfl:i = s.os:=os;exact⟨a,C,c,j,I.call (h':=k) (g':=g) (d':=d) (t':=t) (ch:=[]) un hok bare (fun b z=>absurd z (by simp)),I.cov,ex,q⟩
end
theorem Kk{P:Program}{w:World}{K:Frag}{l:Str->Option Value}{base:Heap}{N:List Str}{i:Str}{d:Scope}{f:Addr}{j:Value}{A:Around}{h:List Env}{s:Shared}{H:Hp}{E:XK}{F:Fx}{n:Str->ao->Prop}
  (v:GF l F) (x:∀c C p y r B,l c=some C->aE K F r y p B->n c p->E C none r):fb (jE (ba P w) P w K l base N i d f j A h s H E) F n:=by
 refine⟨v,?_⟩;intro t Y k D e c U O ⟨I,a,C,g,R,G,u,ex,L⟩ st q;subst G;have M:(A.deeper (envOfC i d s.heap.objs.size f j)).frames=some (envOfC i d s.heap.objs.size f j::h):=I.ok.frames;have hb:∀b,D.heap.get? b=none->k b=none:=fun b z=>bC.some_of I.hok z;have stk:bV (envOfC i d s.heap.objs.size f j::h)=s.heap.objs.size::bV h:=rfl;refine AK (base:=base) M I.stack rfl hb ex fun S ch m=>?_;have J:=I.ch u ch;refine⟨a,C,k,rfl,J.os,J.bare,J.base,J.hok,m.weak fun b o Q=>u.s0 b o Q (by intro z;cases z),x c C U Y k O L st q⟩
noncomputable def Fx.plus(F:Fx)(a:List Addr):Fx:={ F with O₀:=a++F.O₀ }
theorem Fx.plus_plus{F:Fx}{l m:List Addr}:(F.plus l).plus m=F.plus (m++l):=by unfold Fx.plus;simp
section
variable{K:Frag}{F:Fx}{H H':Hp}{Y:St}{U:ao}{O O':List Addr}{W:List (List Addr)}{fp:List Addr}{v:V}{c:aj}
structure gF (K:Frag) (F:Fx) (H:Hp) (Y:St) (U:ao) (O:List Addr) (v:V) (c:aj) (fp:List Addr):Prop where
 st:aE K (F.plus fp) H Y U O
 at_:cX K H O v c fp
 new:∀a∈fp,a∈F.A₀\/F.H₀ a=none
theorem fC(h:∀a∈O',a∈O):aM O H O' H:=⟨fun _ _ _ e=>e,fun a z=>.inl (h a z)⟩
theorem cb.less{b:Fx}(st:cb K F H Y U W)(d:b.H₀=F.H₀)(f:b.A₀=F.A₀)(g:b.I₀=F.I₀)(m:b.O₀.Sublist F.O₀):cb K b H Y U W:=by have sub:(W.flatten++b.O₀).Sublist (W.flatten++F.O₀):=List.Sublist.append (List.Sublist.refl _) m;have mem:∀a∈W.flatten++b.O₀,a∈W.flatten++F.O₀:=fun a h=>sub.subset h;refine⟨fun i c e=>?_,st.nd.sublist sub,by rw[d,f];exact st.kept,by rw[d,f];exact st.new,fun a h=>st.live a (mem a h),st.len,st.lw,by rw[g];exact st.io⟩;obtain⟨v,fp,j,k,l⟩:=st.at_ i c e;exact⟨v,fp,j,k,l.keep (fC mem) (fun _ _=>rfl) (fun _ _ _ e=>e)⟩
theorem aE.unplus(st:aE K (F.plus fp) H Y U O):∃O',aE K F H Y U O'/\aM O H O' H/\(∀a∈fp,a∉O'):=by
 obtain⟨W,st,rfl⟩:=st;have b:cb K F H Y U W:=st.less rfl rfl rfl (List.sublist_append_right _ _);refine⟨_,⟨W,b,rfl⟩,fC fun a h=>?_,fun a d z=>?_⟩
 ·rcases List.mem_append.mp h with h | h
  ·exact bt _ h
  ·exact bo _ (bo _ h)
 ·have nd:(W.flatten++(fp++F.O₀)).Nodup:=st.nd;obtain⟨_,e,f⟩:=List.nodup_append.mp nd;rcases List.mem_append.mp z with z | z
  ·exact f a z a (bt _ d) rfl
  ·exact(List.nodup_append.mp e).2.2 a d a z rfl
theorem gF.drop(r:gF K F H Y U O v c fp):∃O',aE K F H Y U O'/\aM O H O' H:=let⟨O',h1,h2,_⟩:=r.st.unplus;⟨O',h1,h2⟩
@[simp] noncomputable def frz:aj->Option PyData
 | .dat d=>some d
 | .own _ (.l ds)=>some (.list ds)
 | _=>none
theorem gF.frz{d:PyData}(r:gF K F H Y U O v c fp)(e:frz c=some d):∃O',aE K F H Y U O'/\aM O H O' H/\DV (aw O' H) v d:=by
 obtain⟨O',h1,h2,h3⟩:=r.st.unplus;refine⟨O',h1,h2,?_⟩;have f:=r.at_;cases c with
 | dat x=>cases e;exact DV.mono h2.hid f
 | scr ns=>cases e
 | exc c=>cases e
 | vw c=>cases e
 | own io b=>
  cases b with
  | l ds=>cases e;obtain⟨a,rfl,rfl,i,g,h⟩:=f;exact .lst (ie g (h3 a (by simp))) (aK.mono h2.hid h)
  | m _ _=>cases e
  | o _ _=>cases e
  | sd _=>cases e
  | ll _=>cases e
  | pr _ _ _=>cases e
theorem Kl(st:aE K F H Y U O){d:PyData}(h:DV (aw O H) v d):gF K F H Y U O v (.dat d) []:=⟨st,h,fun a h=>by cases h⟩
theorem aE.put1{io:Bool}(st:aE K (F.plus fp) H Y U O)(s:cX K H O v c fp)(new:∀a∈fp,a∈F.A₀\/F.H₀ a=none){i:Nat}(n:i<U.length)(o:∀b,c=.own true b->v=.ref (F.I₀ i)) :
  ∃O',aE K F H (Y.set i (some v)) (U.set i (some c)) O'/\aM O H O' H:=by
 obtain⟨W,st,rfl⟩:=st;have nd:(W.flatten++(fp++F.O₀)).Nodup:=st.nd;obtain⟨t,u,r⟩:=List.nodup_append.mp nd;obtain⟨x,y,A⟩:=List.nodup_append.mp u;have p:i<W.length:=by rw[st.lw];exact n
 have sub:∀a∈(W.set i fp).flatten++F.O₀,a∈W.flatten++(fp++F.O₀):=fun a h=>by
  rcases List.mem_append.mp h with h | h
  ·rcases fz h with h | ⟨j,l,_,e,q⟩
   ·exact bo _ (bt _ h)
   ·exact bt _ (bY e q)
  ·exact bo _ (bo _ h)
 have f:=fC (H:=H) sub;refine⟨_,⟨W.set i fp,⟨fun j d e=>?_,ox (List.nodup_append.mpr ⟨t,y,fun a k b B=>r a k b (bo _ B)⟩) x fun a k=>⟨fun j l _ e z=>r a (bY e z) a (bt _ k) rfl,fun z=>A a k a z rfl⟩,st.kept,fun a h=>?_,fun a h=>st.live a (sub a h),by rw[List.length_set,List.length_set,st.len],by rw[List.length_set,List.length_set,st.lw],fun j b e=>?_⟩,rfl⟩,f⟩
 ·rcases gk e with⟨rfl,g,_⟩ | ⟨m,g⟩
  ·cases g;exact⟨v,fp,List.getElem?_set_self (by rw[<-st.len];exact n),List.getElem?_set_self p,s.keep f (fun _ _=>rfl) (fun _ _ _ e=>e)⟩
  ·obtain⟨w,l,h1,h2,h3⟩:=st.at_ j d g;exact⟨w,l,by rw[List.getElem?_set_ne (Ne.symm m)];exact h1,by rw[List.getElem?_set_ne (Ne.symm m)];exact h2,h3.keep f (fun _ _=>rfl) (fun _ _ _ e=>e)⟩
 ·rcases fz h with h | ⟨j,l,_,e,q⟩
  ·exact new a h
  ·exact st.new a (bY e q)
 ·rcases gk e with⟨rfl,g,_⟩ | ⟨m,g⟩
  ·rw[List.getElem?_set_self (by rw[<-st.len];exact n),o b (Option.some.inj g).symm]
  ·rw[List.getElem?_set_ne (Ne.symm m)];exact st.io j b g
theorem aE.take(st:aE K F H Y U O){i:Nat}{io:Bool}{b:Bx}(e:U[i]? = some (some (.own io b))):∃a fp O',Y[i]? = some (some (.ref a))/\aE K (F.plus fp) H Y (U.set i none) O'/\fy (aw O' H) H a b fp/\aM O H O' H/\aM O' H O H/\(∀a∈fp,a∈F.A₀\/F.H₀ a=none)/\(io=true->a=F.I₀ i):=by
 obtain⟨W,st,rfl⟩:=st;obtain⟨v,fp,h1,h2,a,rfl,h3⟩:=st.at_ i _ e;have G:i<U.length:=(List.getElem?_eq_some_iff.mp e).1;have I:i<W.length:=by rw[st.lw];exact G
 obtain⟨D,J,L⟩:=List.nodup_append.mp st.nd;have E:∀x∈(W.set i []).flatten++(fp++F.O₀),x∈W.flatten++F.O₀:=fun x h=>by
  rcases List.mem_append.mp h with h | h
  ·rcases fz h with h | ⟨j,l,_,g,m⟩
   ·cases h
   ·exact bt _ (bY g m)
  ·rcases List.mem_append.mp h with h | h
   ·exact bt _ (bY h2 h)
   ·exact bo _ h
 have M:∀x∈W.flatten++F.O₀,x∈(W.set i []).flatten++(fp++F.O₀):=fun x h=>by
  rcases List.mem_append.mp h with h | h
  ·obtain⟨l,m,f⟩:=List.mem_flatten.mp h;obtain⟨j,n⟩:=List.getElem?_of_mem m
   by_cases s:j=i
   ·subst s;rw[h2] at n;cases n;exact bo _ (bt _ f)
   ·exact bt _ (Jy s n f)
  ·exact bo _ (bo _ h)
 have t:fp.Nodup:=by
  have:∀{W:List (List Addr)}{i:Nat}{l:List Addr},W.flatten.Nodup->W[i]? = some l->l.Nodup:=fun {W i l} R m=>R.sublist (by
   have:=List.mem_of_getElem? m;exact List.sublist_flatten_of_mem this)
  exact this D h2
 have u:((W.set i []).flatten++(fp++F.O₀)).Nodup:=by
  have q:((W.set i []).flatten++([]++F.O₀)).Nodup:=ox (fp:=[]) (O:=F.O₀) st.nd List.nodup_nil (fun a h=>by cases h);obtain⟨A,_,B⟩:=List.nodup_append.mp q;refine List.nodup_append.mpr ⟨A,List.nodup_append.mpr ⟨t,J,fun x f y o z=>L x (bY h2 f) y o z⟩,fun x f y o z=>?_⟩;subst z;rcases List.mem_append.mp o with o | o
  ·rcases fz f with f | ⟨j,l,n,g,m⟩
   ·cases f
   ·exact km D h2 g (Ne.symm n) o m
  ·exact B x f x o rfl
 have p:=fC (H:=H) E;have k:=fC (H:=H) M;refine⟨a,fp,_,h1,⟨W.set i [],⟨fun j d g=>?_,u,st.kept,fun x h=>?_,fun x h=>st.live x (E x h),by rw[List.length_set,st.len],by rw[List.length_set,List.length_set,st.lw],fun j N g=>?_⟩,rfl⟩,h3.keep (fun _ _=>rfl) p.hid,p,k,fun x f=>st.new x (bY h2 f),fun C=>?_⟩
 ·rcases gk g with⟨rfl,r,_⟩ | ⟨n,r⟩
  ·cases r
  ·obtain⟨w,l,A,Q,B⟩:=st.at_ j d r;exact⟨w,l,A,by rw[List.getElem?_set_ne (Ne.symm n)];exact Q,B.keep p (fun _ _=>rfl) (fun _ _ _ e=>e)⟩
 ·rcases fz h with h | ⟨j,l,_,g,m⟩
  ·cases h
  ·exact st.new x (bY g m)
 ·rcases gk g with⟨rfl,r,_⟩ | ⟨n,r⟩
  ·cases r
  ·exact st.io j N r
 ·subst C;have:=st.io i b e;rw[h1] at this;cases this;rfl
theorem aE.swap{L L':List Addr}(st:aE K (F.plus L) H Y U O)(keep:∀b o,b∉L->H b=some o->H' b=some o)(D:L'.Nodup)(new:∀a∈L',a∈L\/H a=none)(t:∀a∈L,a∈F.A₀\/F.H₀ a=none)(l:∀a∈L',∃o,H' a=some o/\Mv o) :
  ∃O',aE K (F.plus L') H' Y U O'/\aM O H O' H'/\(∀a∈L',a∈O')/\(∀a∈O',a∈L'\/a∈O/\a∉L)/\∀a∈O,a∉L->a∈O':=by
 obtain⟨W,st,rfl⟩:=st;have m:(W.flatten++(L++F.O₀)).Nodup:=st.nd;obtain⟨w,x,p⟩:=List.nodup_append.mp m;obtain⟨E,y,A⟩:=List.nodup_append.mp x;have wl:∀a∈W.flatten,a∉L:=fun a h z=>p a h a (bt _ z) rfl;have ol:∀a∈F.O₀,a∉L:=fun a h z=>A a z a h rfl;have j:∀a∈W.flatten++F.O₀,∃o,H a=some o/\Mv o:=fun a h=>st.live a (by
  rcases List.mem_append.mp h with h | h
  ·exact bt _ h
  ·exact bo _ (bo _ h))
 have kp:∀a∈W.flatten++F.O₀,H' a=H a:=fun a h=>by obtain⟨o,e,_⟩:=j a h;rw[e];exact keep a o ((List.mem_append.mp h).elim (wl a) (ol a)) e
 have ap:∀a∈L',a∉W.flatten++F.O₀:=fun a h z=>by
  rcases new a h with q | q
  ·rcases List.mem_append.mp z with z | z
   ·exact wl a z q
   ·exact ol a z q
  ·obtain⟨o,e,_⟩:=j a z;rw[q] at e;cases e
 have f:aM (W.flatten++(L++F.O₀)) H (W.flatten++(L'++F.O₀)) H':=⟨fun b o d e=>keep b o (fun z=>d (bo _ (bt _ z))) e,fun a h=>by
  rcases List.mem_append.mp h with h | h
  ·exact .inl (bt _ h)
  ·rcases List.mem_append.mp h with h | h
   ·exact(new a h).imp (fun z=>bo _ (bt _ z)) id
   ·exact .inl (bo _ (bo _ h))⟩
 have B:∀b o u,H b=some (.frz o u)->H' b=some (.frz o u):=fun b o u e=>keep b _ (fun z=>st.nofrz (bo _ (bt _ z)) e) e;refine⟨_,⟨W,⟨fun i c e=>?_,?_,fun b o d e=>?_,st.new,fun a h=>?_,st.len,st.lw,st.io⟩,rfl⟩,f,fun a h=>bo _ (bt _ h),fun a h=>?_,fun a h C=>?_⟩
 ·obtain⟨v,fp,h1,h2,h3⟩:=st.at_ i c e;exact⟨v,fp,h1,h2,h3.keep f (fun b d=>kp b (bt _ (bY h2 d))) B⟩
 ·refine List.nodup_append.mpr ⟨w,List.nodup_append.mpr ⟨D,y,fun a k b d z=>?_⟩,fun a k b d z=>?_⟩
  ·subst z;exact ap a k (bo _ d)
  ·subst z;rcases List.mem_append.mp d with d | d
   ·exact ap a d (bt _ k)
   ·exact p a k a (bo _ d) rfl
 ·have g:=st.kept b o d e
  by_cases r:b∈L
  ·rcases t b r with q | q
   ·exact absurd q d
   ·have s:F.H₀ b=some o:=e;rw[q] at s;cases s
  ·exact keep b o r g
 ·rcases List.mem_append.mp h with h | h
  ·obtain⟨o,g,n⟩:=j a (bt _ h);exact⟨o,by rw[kp a (bt _ h)];exact g,n⟩
  ·rcases List.mem_append.mp h with h | h
   ·exact l a h
   ·obtain⟨o,g,n⟩:=j a (bo _ h);exact⟨o,by rw[kp a (bo _ h)];exact g,n⟩
 ·rcases List.mem_append.mp h with h | h
  ·exact .inr ⟨bt _ h,wl a h⟩
  ·rcases List.mem_append.mp h with h | h
   ·exact .inl h
   ·exact .inr ⟨bo _ (bo _ h),ol a h⟩
 ·rcases List.mem_append.mp h with h | h
  ·exact bt _ h
  ·rcases List.mem_append.mp h with h | h
   ·exact absurd h C
   ·exact bo _ (bo _ h)
end
abbrev ig:=ao->(aj->ao->Prop)->Prop
def AL(t:ig):Prop:=∀U Q a,(∀c b,Q c b->a c b)->t U Q->t U a
noncomputable def Km(K:Frag)(F:Fx)(t:ig):TE:=fun Y H Q=>∃U O,aE K F H Y U O/\t U fun c d=>∀v a b e,gF K F a Y d b v c e->aM O H b a->Q v a
structure DO (X:Cx) (F:Fx) (e:Expr) (t:ig):Prop where
 mn:AL t
 pe:PE X e (Km X.K F t)
section
variable{X:Cx}{F:Fx}{e:Expr}{te:DT}{to:ig}
noncomputable def Kn(t:ig):DT:=fun U Q=>t U fun c a=>∃d,frz c=some d/\Q d a
theorem DO.de(h:DO X F e to):DE X F e (Kn to):=
 ⟨fun _ _ _ k q=>h.mn _ _ _ (fun _ _ ⟨d,e,q⟩=>⟨d,e,k _ _ q⟩) q,h.pe.imp fun Y H Q ⟨U,O,st,q⟩=>⟨U,O,st,h.mn _ _ _ (fun c j ⟨d,e,q⟩ v b l m r s=>by
  obtain⟨f,a,g,i⟩:=r.frz e;exact q v b f a (s.trans g) i) q⟩⟩
end
abbrev eh:=PyData->ao->(ao->Prop)->Prop
noncomputable def mO(K:Frag)(F:Fx)(t:eh):TG:=fun v Y H Q=>∃U O d,aE K F H Y U O/\DV (aw O H) v d/\t d U fun e=>∀b a c,aE K F a b e c->aM O H c a->Q b a
structure DG (X:Cx) (F:Fx) (tg:Expr) (t:eh):Prop where
 mn:∀d U Q Q',(∀U',Q U'->Q' U')->t d U Q->t d U Q'
 pg:PG X tg (mO X.K F t)
abbrev ku:=List PyData->ao->(ao->Prop)->Prop
noncomputable def Ko(K:Frag)(F:Fx)(t:ku):jD:=fun e Y H Q=>∃U O d,aE K F H Y U O/\aK (aw O H) e d/\t d U fun f=>∀b a c,aE K F a b f c->aM O H c a->Q b a
structure oD (X:Cx) (F:Fx) (tg:List Expr) (t:ku):Prop where
 mn:∀d U Q Q',(∀U',Q U'->Q' U')->t d U Q->t d U Q'
 pg:PGs X tg (Ko X.K F t)
theorem _root_.L2.PG.imp{X:Cx}{e:Expr}{t t':TG}(h:PG X e t)(k:∀v Y H Q,t' v Y H Q->t v Y H Q):PG X e t':=fun a s Y H v u Q I r q=>h a s Y H v u Q I r (k v Y H Q q)
theorem _root_.L2.PGs.imp{X:Cx}{e:List Expr}{t t':jD}(h:PGs X e t)(k:∀v Y H Q,t' v Y H Q->t v Y H Q):PGs X e t':=fun a s Y H v u Q I r q=>h a s Y H v u Q I r (k v Y H Q q)
section
variable{X:Cx}{F:Fx}{e:Expr}{es:List Expr}{pos:Pos}{x:Str}{t:eh}{ts:ku}
noncomputable def gN(i:Nat):eh:=fun d U Q=>Q (U.set i (some (.dat d)))
theorem Kp{i:Nat}(h:PG X (.Name x pos) (qA i)):DG X F (.Name x pos) (gN i):=⟨fun _ _ _ _ k q=>k _ q,h.imp fun v Y H Q ⟨U,O,d,st,hd,q⟩=>q _ H O (st.set hd) .refl⟩
noncomputable def Kq:ku:=fun a U Q=>a=[]/\Q U
noncomputable def Kr(t:eh)(u:ku):ku:=fun b U Q=>∃d r,b=d::r/\t d U fun a=>u r a Q
theorem Ks:oD X F [] Kq:=⟨fun _ _ _ _ k q=>⟨q.1,k _ q.2⟩,GC.imp fun a Y H Q ⟨U,O,ds,st,hd,e,q⟩=>by
 subst e;cases hd;exact⟨rfl,q _ H O st .refl⟩⟩
theorem Kt(f:DG X F e t)(g:oD X F es ts)(i:(assignEach (e::es) X.env).map (·.2)=assign e X.env::(assignEach es X.env).map (·.2):=by rfl):oD X F (e::es) (Kr t ts):=
 ⟨fun _ _ _ _ k ⟨d,r,e,q⟩=>⟨d,r,e,f.mn _ _ _ _ (fun _ a=>g.mn _ _ _ _ k a) q⟩,(GD f.pg g.pg i).imp fun v Y H Q ⟨U,O,ds,st,hd,d,r,e,q⟩=>by
  subst e;cases hd with
  | cons hd j=>
   exact⟨_,_,rfl,U,O,d,st,hd,f.mn _ _ _ _ (fun l a w y m b h=>⟨l,m,r,b,aK.mono h.hid j,g.mn _ _ _ _ (fun z n o p s c u=>n o p s c (h.trans u)) a⟩) q⟩⟩
noncomputable def Ku(n:Nat)(t:ku):eh:=fun d U Q=>∃a,d=.tuple a/\a.length=n/\t a U Q
theorem Kv{k n:Nat}(g:X.calm=true)(h:oD X F es ts)(i:(assignEach es X.env).length=n:=by rfl)(b:(assignEach es X.env).findIdx? (·.1)=none:=by rfl):DG X F (.Tuple es k pos) (Ku n ts):=
 ⟨fun _ _ _ _ k ⟨c,e,l,q⟩=>⟨c,e,l,h.mn _ _ _ _ k q⟩,(GI g h.pg i b).imp fun v Y H Q ⟨U,O,d,st,hd,c,e,l,q⟩=>by
  subst e;obtain⟨a,j,rfl,m,f⟩:=hd.tup_inv;exact⟨a,j,rfl,.inl (jH m).1,by rw[f.length];exact l,U,O,c,st,f,q⟩⟩
end
structure et where
 nx:ao->Prop
 rt:aj->ao->Prop
 bk:ao->Prop:=fun _=>False
 ct:ao->Prop:=fun _=>False
abbrev ei:=et->ao->Prop
structure fU (K:Frag) (F:Fx) (O:List Addr) (H:Hp) (D:eW) (DD:et):Prop where
 nx:∀Y' H' U' O',aE K F H' Y' U' O'->aM O H O' H'->DD.nx U'->D.nx Y' H'
 rt:∀v Y' H' c U' O' fp,gF K F H' Y' U' O' v c fp->aM O H O' H'->DD.rt c U'->D.rt v H'
 bk:∀Y' H' U' O',aE K F H' Y' U' O'->aM O H O' H'->DD.bk U'->D.bk Y' H'
 ct:∀Y' H' U' O',aE K F H' Y' U' O'->aM O H O' H'->DD.ct U'->D.ct Y' H'
theorem fU.later{K:Frag}{F:Fx}{O b:List Addr}{H d:Hp}{D:eW}{e:et}(f:fU K F O H D e)(s:aM O H b d):fU K F b d D e:=
 ⟨fun Y H U O st a q=>f.nx Y H U O st (s.trans a) q,fun v Y H c U O g r a q=>f.rt v Y H c U O g r (s.trans a) q,fun Y H U O st a q=>f.bk Y H U O st (s.trans a) q,fun Y H U O st a q=>f.ct Y H U O st (s.trans a) q⟩
noncomputable def AM(K:Frag)(F:Fx)(t:ei):TS:=fun D Y H=>∃U O a,aE K F H Y U O/\t a U/\fU K F O H D a
def DS(X:Cx)(F:Fx)(s:Stmt)(t:ei):Prop:=PS X s (AM X.K F t)
def gG(X:Cx)(F:Fx)(s:List Stmt)(t:ei):Prop:=PSs X s (AM X.K F t)
section
variable{X:Cx}{F:Fx}{e:Expr}{es:List Expr}{st:Stmt}{rest:List Stmt}{t u:ei}{te:DT}{to:ig}{tA:eg}{tc:cG}{tg:eh}{pos:Pos}{x:Str}
noncomputable def Kw:ei:=fun D U=>D.nx U
noncomputable def Kx(t u:ei):ei:=fun D U=>t { D with nx:=fun a=>u D a } U
theorem Ky:gG X F [] Kw:=Gr.imp fun D Y H ⟨U,O,a,st,q,f⟩=>f.nx Y H U O st .refl q
theorem Kz(i:DS X F st t)(j:gG X F rest u):gG X F (st::rest) (Kx t u):=
 (Gs i j).imp fun D Y H ⟨U,O,b,s,q,f⟩=>⟨U,O,_,s,q,⟨fun k l c d a g h=>⟨c,d,b,a,h,f.later g⟩,f.rt,f.bk,f.ct⟩⟩
theorem KA(h:DS X F st t):gG X F [st] t:=Gu h
noncomputable def vV(te:DT)(tg:eh):ei:=fun D U=>te U fun d a=>tg d a D.nx
theorem KB{i:Nat}{a:Pos}(g:X.N.Nodup)(h:X.N[i]? = some x)(j:gC X.env.scope x)(c:DE X F e te)(k:swapsWith e (some (.Name x a)) pos.line X.env=pure false:=by rfl)
  (l:X.fn x=true\/X.env.scope.names.lookup x=some .local:=by first | exact .inl rfl | exact .inr rfl | assumption):DS X F (.Assign [.Name x a] e pos) (vV te (gN i)):=
 (zm g h j c.pe k l).imp fun D Y H ⟨U,O,s,st,q,f⟩=>⟨U,O,st,c.mn _ _ _ (fun d w m v n o b p r=>f.nx _ n _ o (b.set r) p m) q⟩
noncomputable def KC(te:DT):ei:=fun D U=>te U fun d a=>D.rt (.dat d) a
theorem AN(b:DE X F e te):DS X F (.Return (some e) pos) (KC te):=
 (vd b.pe).imp fun D Y H ⟨U,O,l,st,q,f⟩=>⟨U,O,st,b.mn _ _ _ (fun d c g v h i a j k=>f.rt v Y h (.dat d) c i [] (Kl a k) j g) q⟩
noncomputable def KD(to:ig):ei:=fun D U=>to U fun c a=>D.rt c a
theorem KE(a:DO X F e to):DS X F (.Return (some e) pos) (KD to):=
 (vd a.pe).imp fun D Y H ⟨U,O,k,st,q,f⟩=>⟨U,O,st,a.mn _ _ _ (fun c b d v g h i r j=>f.rt v Y g c b h i r j d) q⟩
noncomputable def KG(i:Nat):ei:=fun D U=>∃b,U[i]? = some (some (.own false b))/\D.rt (.own false b) (U.set i none)
theorem KH{i:Nat}{c:Pos}(d:PE X (.Name x c) (bS i)):DS X F (.Return (some (.Name x c)) pos) (KG i):=
 (vd d).imp fun D Y H ⟨U,O,l,st,⟨b,e,q⟩,f⟩=>by obtain⟨a,g,h,h1,h2,h3,j,m,k,_⟩:=st.take e;exact⟨_,h1,f.rt _ Y H (.own false b) _ h g ⟨h2,⟨a,rfl,h3⟩,k⟩ j q⟩
noncomputable def KJ(i:Nat)(to:ig):ei:=fun D U=>to U fun c a=>i<a.length/\(∀b,c≠.own true b)/\D.nx (a.set i (some c))
theorem KL{i:Nat}{a:Pos}(h:X.N.Nodup)(j:X.N[i]? = some x)(k:gC X.env.scope x)(g:DO X F e to)(l:swapsWith e (some (.Name x a)) pos.line X.env=pure false:=by rfl)
  (m:X.fn x=true\/X.env.scope.names.lookup x=some .local:=by first | exact .inl rfl | exact .inr rfl | assumption):DS X F (.Assign [.Name x a] e pos) (KJ i to):=
 (zm h j k g.pe l m).imp fun D Y H ⟨U,O,B,st,q,f⟩=>⟨U,O,st,g.mn _ _ _ (fun c C ⟨n,o,p⟩ v s E G r w=>by
  obtain⟨y,d,A⟩:=aE.put1 (io:=true) r.st r.at_ r.new n (fun b z=>absurd z (o b));exact f.nx _ s _ y d (w.trans A) p) q⟩
noncomputable def KM(to:ig):ei:=fun D U=>to U fun _ a=>D.nx a
theorem KN(b:DO X F e to)(d:swapsWith e none pos.line X.env=pure false:=by rfl):DS X F (.Expr e pos) (KM to):=
 (qz b.pe d).imp fun D Y H ⟨U,O,j,st,q,f⟩=>⟨U,O,st,b.mn _ _ _ (fun c k g v l m n r h=>by
  obtain⟨o,a,i⟩:=r.drop;exact f.nx _ _ _ _ a (h.trans i) g) q⟩
noncomputable def KO(tc:cG)(t u:ei):ei:=fun D U=>tc U fun b a=>if b=true then t D a else u D a
theorem KP{c:Expr}{a b:List Stmt}(g:DB X F c tc)(m:gG X F a t)(n:gG X F b u):DS X F (.If c a b pos) (KO tc t u):=
 (Gy g.pt m n).imp fun D Y H ⟨U,O,h,st,q,f⟩=>⟨U,O,st,g.mn _ _ _ (fun b i j o k d l=>by
  cases b with
  | true=>exact en ⟨i,k,h,d,jb j,f.later l⟩
  | false=>exact em ⟨i,k,h,d,jc j,f.later l⟩) q⟩
end
inductive vW where
 | rt (c:aj) (outs:List Bx) | ex (c:Str) (outs:List Bx) | bad
noncomputable abbrev FM:=List aj->vW
inductive aX (K:Frag) (H:Hp) (O:List Addr):List V->List aj->List (List Addr)->Prop where
 | nil:aX K H O [] [] []
 | dat {v:V}{d:PyData}{vs:List V}{cs:List aj}{fps:List (List Addr)}:DV (aw O H) v d->aX K H O vs cs fps->aX K H O (v::vs) (.dat d::cs) ([]::fps)
 | oth {v:V}{c:aj}{vs:List V}{cs:List aj}{fps:List (List Addr)}:(∀d,c≠.dat d)->(∀io b,c≠.own io b)->cX K H O v c []->aX K H O vs cs fps->aX K H O (v::vs) (c::cs) ([]::fps)
 | own {a:Addr}{b:Bx}{fp:List Addr}{vs:List V}{cs:List aj}{fps:List (List Addr)}:fy (aw O H) H a b fp->aX K H O vs cs fps->aX K H O (.ref a::vs) (.own true b::cs) (fp::fps)
inductive aV (H:Hp) (O:List Addr):List V->List aj->List Bx->List (List Addr)->Prop where
 | nil:aV H O [] [] [] []
 | skip {v:V}{c:aj}{vs:List V}{cs:List aj}{bs:List Bx}{fps:List (List Addr)}:(∀io b,c≠.own io b)->aV H O vs cs bs fps->aV H O (v::vs) (c::cs) bs fps
 | own {a:Addr}{io:Bool}{b b':Bx}{fp:List Addr}{vs:List V}{cs:List aj}{bs:List Bx}{fps:List (List Addr)}:fy (aw O H) H a b' fp->aV H O vs cs bs fps->aV H O (.ref a::vs) (.own io b::cs) (b'::bs) (fp::fps)
structure gn (H H':Hp) (L L' O₀:List Addr):Prop where
 nd:(L'++O₀).Nodup
 live:∀a∈L',∃o,H' a=some o/\Mv o
 keep:∀b o,b∉L->H b=some o->H' b=some o
 new:∀a∈L',a∈L\/H a=none
noncomputable def be(K:Frag)(l:Str->Option Value)(f:FM):Sp:=fun k H Q E=>GH l H/\∃(i:List aj) (d:List (List Addr)) (h:List Addr),aX K H (d.flatten++h) k i d/\(d.flatten++h).Nodup/\(∀a∈d.flatten++h,∃o,H a=some o/\Mv o)/\
 match f i with
 | .rt c e=>∀v g j b,cX K g (b.flatten++j++h) v c j->aV g (b.flatten++j++h) k i e b->gn H g d.flatten (b.flatten++j) h->Q v g
 | .ex c e=>∀C g b,l c=some C->aV g (b.flatten++h) k i e b->gn H g d.flatten b.flatten h->E C none g
 | .bad=>False
theorem aX.len{K:Frag}{H:Hp}{O:List Addr}{d:List V}{c:List aj}{b:List (List Addr)}(h:aX K H O d c b):d.length=c.length/\b.length=c.length:=by
 induction h with
 | nil=>exact⟨rfl,rfl⟩
 | dat _ _ a=>exact⟨congrArg Nat.succ a.1,congrArg Nat.succ a.2⟩
 | oth _ _ _ _ a=>exact⟨congrArg Nat.succ a.1,congrArg Nat.succ a.2⟩
 | own _ _ a=>exact⟨congrArg Nat.succ a.1,congrArg Nat.succ a.2⟩
theorem aX.get{K:Frag}{H:Hp}{O:List Addr}{d:List V}{f:List aj}{a:List (List Addr)}(h:aX K H O d f a):∀(i:Nat) (c:aj),f[i]? = some c->∃v g,d[i]? = some v/\a[i]? = some g/\cX K H O v c g:=by
 induction h with
 | nil=>intro i c e;simp at e
 | dat h _ b=>
  intro i c e;cases i with
  | zero=>simp at e;subst e;exact⟨_,_,rfl,rfl,h⟩
  | succ i=>exact b i c (by simpa using e)
 | oth _ _ h _ b=>
  intro i c e;cases i with
  | zero=>simp at e;subst e;exact⟨_,_,rfl,rfl,h⟩
  | succ i=>exact b i c (by simpa using e)
 | own h _ b=>
  intro i c e;cases i with
  | zero=>simp at e;subst e;exact⟨_,_,rfl,rfl,⟨_,rfl,h⟩⟩
  | succ i=>exact b i c (by simpa using e)
theorem aX.mono{K:Frag}{H:Hp}{O c:List Addr}{d:List V}{f:List aj}{a:List (List Addr)}(h:aX K H O d f a)(s:aM O H c H):aX K H c d f a:=by
 induction h with
 | nil=>exact .nil
 | dat h _ b=>exact .dat (DV.mono s.hid h) b
 | oth h1 h2 h _ b=>exact .oth h1 h2 (h.keep s (fun _ _=>rfl) (fun _ _ _ e=>e)) b
 | own h _ b=>exact .own (h.keep (fun _ _=>rfl) s.hid) b
theorem aV.mono{H:Hp}{O c:List Addr}{d:List V}{e:List aj}{bs:List Bx}{a:List (List Addr)}(h:aV H O d e bs a)(s:aM O H c H):aV H c d e bs a:=by
 induction h with
 | nil=>exact .nil
 | skip h1 _ b=>exact .skip h1 b
 | own h _ b=>exact .own (h.keep (fun _ _=>rfl) s.hid) b
inductive gH where
 | nx (U:ao) | rt (c:aj) (U:ao) | bk (U:ao) | ct (U:ao) | ex (c:Str) (U:ao) | bad
noncomputable abbrev SM:=ao->gH
noncomputable def cq(E:Str->ao->Prop)(m:SM):ei:=fun D U=>match m U with
 | .nx a=>D.nx a
 | .rt c a=>D.rt c a
 | .bk a=>D.bk a
 | .ct a=>D.ct a
 | .ex c a=>E c a
 | .bad=>False
@[simp] noncomputable def cK:List aj->ao->Option (List Bx)
 | [],_=>some []
 | .own _ _::a,some (.own true b)::U=>(cK a U).map (b::·)
 | .own _ _::_,_=>none
 | _::a,_::U=>cK a U
 | _::_,[]=>none
@[simp] noncomputable def bi(n N:Nat)(m:SM):FM:=fun a=>if a.length=n then(match m (a.map some++List.replicate (N - n) none) with
 | .nx U=>(match cK a U with | some o=>.rt (.dat .none) o | none=>.bad)
 | .rt c U=>(match cK a U with | some o=>.rt c o | none=>.bad)
 | .ex c U=>(match cK a U with | some o=>.ex c o | none=>.bad)
 | _=>.bad) else .bad
section
variable{K:Frag}{F:Fx}{H:Hp}{Y:St}{U:ao}{W:List (List Addr)}
theorem vX{α:Type}{l:List α}{k:Nat}{x:α}{r:List α}(h:l.drop k=x::r):l[k]? = some x/\l.drop (k+1)=r:=by
 constructor
 ·rw[<-List.head?_drop,h];rfl
 ·rw[<-List.drop_drop,h];rfl
theorem rf(st:cb K F H Y U W):∀(l:List aj) (m:List V) (k:Nat) (g:List Bx),m.length=l.length->(∀(i:Nat) io b,l[i]? = some (.own io b)->m[i]? = some (.ref (F.I₀ (k+i))))->cK l (U.drop k)=some g->
  ∃j,aV H (W.flatten++F.O₀) m l g j/\j.flatten.Sublist (W.drop k).flatten
 | [],[],k,g,_,_,e=>by cases e;exact⟨[],.nil,by simp⟩
 | [],_::_,_,_,p,_,_=>by cases p
 | _::_,[],_,_,p,_,_=>by cases p
 | c::l,v::m,k,g,p,G,e=>by
  have t:m.length=l.length:=Nat.succ.inj p;have y:∀(i:Nat) io b,l[i]? = some (.own io b)->m[i]? = some (.ref (F.I₀ (k+1+i))):=fun i io b h=>by have:=G (i+1) io b (by simpa using h);rw[show k+1+i=k+(i+1) by omega];simpa using this
  have A:(W.drop (k+1)).flatten.Sublist (W.drop k).flatten:=by
   cases B:W.drop k with
   | nil=>rw[show W.drop (k+1)=[] from by rw[<-List.drop_drop,B];rfl];exact List.Sublist.refl _
   | cons w r=>rw[(vX B).2,List.flatten_cons];exact List.sublist_append_right _ _
  cases hd:U.drop k with
  | nil=>
   rw[hd] at e;cases c with
   | own io b=>cases e
   | dat d=>cases e
   | scr n=>cases e
   | exc n=>cases e
   | vw n=>cases e
  | cons x r=>
   obtain⟨J,h2⟩:=vX hd;rw[hd] at e;have f:(∀io b,c≠.own io b)->cK l r=some g->∃j,aV H (W.flatten++F.O₀) (v::m) (c::l) g j/\j.flatten.Sublist (W.drop k).flatten:=fun M N=>by obtain⟨j,o,s⟩:=rf st l m (k+1) g t y (by rw[h2];exact N);exact⟨j,.skip M o,s.trans A⟩
   cases c with
   | dat d=>exact f (fun _ _ z=>by cases z) e
   | scr n=>exact f (fun _ _ z=>by cases z) e
   | exc n=>exact f (fun _ _ z=>by cases z) e
   | vw n=>exact f (fun _ _ z=>by cases z) e
   | own io b=>
    cases x with
    | none=>cases e
    | some x=>
     cases x with
     | dat d=>cases e
     | scr n=>cases e
     | exc n=>cases e
     | vw n=>cases e
     | own C O=>
      cases C with
      | false=>cases e
      | true=>
       cases q:cK l r with
       | none=>simp[cK,q] at e
       | some Q=>
        simp[cK,q] at e;subst e;obtain⟨j,o,s⟩:=rf st l m (k+1) Q t y (by rw[h2];exact q);obtain⟨u,R,S,D,a,rfl,T⟩:=st.at_ k _ J;have I:=st.io k O J;rw[S] at I;have X:a=F.I₀ k:=by cases I;rfl
        have Z:=G 0 io b rfl;have E:v=.ref a:=by rw[X];simpa using Z
        subst E;refine⟨R::j,.own T o,?_⟩;cases B:W.drop k with
        | nil=>rw[<-List.head?_drop,B] at D;cases D
        | cons w wr=>obtain⟨L,w2⟩:=vX B;rw[D] at L;cases L;rw[List.flatten_cons,List.flatten_cons];rw[w2] at s;exact List.Sublist.append (List.Sublist.refl _) s
end
theorem kv{α:Type}(n:Nat):(List.replicate n ([]:List α)).flatten=[]:=by induction n with | zero=>rfl | succ n a=>rw[List.replicate_succ,List.flatten_cons,a];rfl
noncomputable def gJ(N n:Nat)(a:List aj):ao:=a.map some++List.replicate (N - n) none
section
variable{P:Program}{w:World}{K:Frag}{mg:Str->Option Value}{base:Heap}{x qual:Str}{st:Stmt}{f:Addr}{fd:FuncData}{N ps:List Str}{k:Nat}{m:SM}
noncomputable def lK(b:List V)(i:Nat):Addr:=match b[i]? with
 | some (.ref a)=>a
 | _=>0
theorem AO{H:Hp}{l:List V}{j:List aj}{g:List (List Addr)}{p:List Addr}(q:aX K H (g.flatten++p) l j g)(s:(g.flatten++p).Nodup)(live:∀a∈g.flatten++p,∃o,H a=some o/\Mv o)(u:j.length<=N.length) :
  cb K ⟨H,g.flatten,p,lK l⟩ H (start N l) (gJ N.length j.length j) (g++List.replicate (N.length - j.length) []):=by
 have n:(g++List.replicate (N.length - j.length) ([]:List Addr)).flatten=g.flatten:=by rw[List.flatten_append,kv,List.append_nil]
 obtain⟨t,l2⟩:=q.len;have get:∀(i:Nat) c,(gJ N.length j.length j)[i]? = some (some c)->j[i]? = some c:=fun i c e=>by
  unfold gJ at e
  by_cases h:i<j.length
  ·rw[List.getElem?_append_left (by simpa using h),List.getElem?_map] at e;obtain⟨d,h1,h2⟩:=Option.map_eq_some_iff.mp e;cases h2;exact h1
  ·rw[List.getElem?_append_right (by simpa using Nat.le_of_not_lt h),List.getElem?_replicate] at e;split at e<;>cases e
 have put:∀(i:Nat) v,l[i]? = some v->(start N l)[i]? = some (some v):=fun i v e=>by unfold start;rw[List.getElem?_append_left (by simpa using(List.getElem?_eq_some_iff.mp e).1),List.getElem?_map,e];rfl
 refine⟨fun i c e=>?_,by rw[n];exact s,fun _ _ _ h=>h,fun a h=>.inl (by rw[n] at h;exact h),by rw[n];exact live,?_,?_,fun i b e=>?_⟩
 ·obtain⟨v,r,h1,h2,h3⟩:=q.get i c (get i c e);exact⟨v,r,put i v h1,by rw[List.getElem?_append_left (List.getElem?_eq_some_iff.mp h2).1];exact h2,by rw[n];exact h3⟩
 ·unfold gJ start;rw[List.length_append,List.length_append,List.length_map,List.length_map,List.length_replicate,List.length_replicate,t]
 ·unfold gJ;rw[List.length_append,List.length_append,List.length_map,List.length_replicate,List.length_replicate,l2]
 ·obtain⟨v,r,h1,h2,a,rfl,h3⟩:=q.get i _ (get i _ e);rw[put i _ h1];show _=some (some (V.ref (lK l i)));unfold lK;rw[h1]
theorem aX.ios{H:Hp}{O:List Addr}{c:List V}{g:List aj}{d:List (List Addr)}(h:aX K H O c g d):∀(i:Nat) io b,g[i]? = some (.own io b)->c[i]? = some (.ref (lK c (0+i))):=fun i io b e=>by obtain⟨v,j,h1,_,a,rfl,_⟩:=h.get i _ e;rw[Nat.zero_add];unfold lK;rw[h1]
theorem bE(Fn:lG K x qual st f fd)(S:aa N ps (bf st))(hN:ps.length<=N.length)
  (Z:∀(y:Value) (A:Around) (t:List Env) (s:Shared) (H:Hp) (E:XK) (F:Fx) (Y:Str->ao->Prop),bz k (A.deeper (envOfC qual (bf st) s.heap.objs.size f y))->fb (jE (ba P w) P w K mg base N qual (bf st) f y A t s H E) F Y->
   gG (jE (ba P w) P w K mg base N qual (bf st) f y A t s H E) F (iB st) (cq Y m)):az P w K mg base (ba P w) (k+1) f fd ps (be K mg (bi ps.length N.length m)):=by
 obtain⟨oc,od,kV,a3,pm,an,y,ct,a4,rfl,lk,a0⟩:=Fn.ex;have G:∀B H Q E,be K mg (bi ps.length N.length m) B H Q E->B.length=ps.length:=fun B H Q E ⟨_,l,u,O₀,L,_,_,q⟩=>by
  rw[L.len.1];unfold bi at q
  by_cases h:l.length=ps.length
  ·exact h
  ·rw[if_neg h] at q;exact q.elim
 refine HK lk a0 S G fun A t s H B Q E hr M=>?_;have a5:=G B H Q E M;obtain⟨gh,l,u,O₀,L,nd,live,q⟩:=M;obtain⟨l1,l2⟩:=L.len;have O:l.length=ps.length:=by omega
 let F:Fx:=⟨H,u.flatten,O₀,lK B⟩
 have R:=AO (N:=N) L nd live (by omega);have fin:∀{T:St}{j:Hp}{n:ao}{J:List Addr}{fp:List Addr}{g:List Bx},aE K (F.plus fp) j T n J->(∀a∈fp,a∈F.A₀\/F.H₀ a=none)->cK l n = some g->∃d,aV j (d.flatten++fp++O₀) B l g d/\gn H j u.flatten (d.flatten++fp) O₀/\aM J j (d.flatten++fp++O₀) j:=by
  rintro T j n J fp g ⟨W,p,rfl⟩ a1 ho;obtain⟨d,o,sb⟩:=rf p l B 0 g l1 (fun i io b e=>L.ios i io b e) ho;have X:d.flatten.Sublist W.flatten:=sb;have sub:(d.flatten++fp++O₀).Sublist (W.flatten++(fp++O₀)):=by rw[List.append_assoc];exact List.Sublist.append X (List.Sublist.refl _)
  have D:aM (W.flatten++(fp++O₀)) j (d.flatten++fp++O₀) j:=fC fun a h=>sub.subset h;refine⟨d,o.mono D,⟨p.nd.sublist sub,fun a h=>p.live a (sub.subset (bt _ h)),fun b o hb e=>p.kept b o hb e,fun a h=>?_⟩,D⟩;rcases List.mem_append.mp h with h | h
  ·exact p.new a (X.subset h)
  ·exact a1 a h
 have a2:bi ps.length N.length m l=(match m (gJ N.length ps.length l) with
  | .nx U=>(match cK l U with | some o=>.rt (.dat .none) o | none=>.bad)
  | .rt c U=>(match cK l U with | some o=>.rt c o | none=>.bad)
  | .ex c U=>(match cK l U with | some o=>.ex c o | none=>.bad)
  | _=>.bad):=by unfold bi gJ;rw[if_pos O]
 rw[a2] at q;rw[O] at R;let Y:Str->ao->Prop:=fun c n=>∃g,cK l n = some g/\∀C j d,mg c=some C->aV j (d.flatten++O₀) B l g d->gn H j u.flatten d.flatten O₀->E C none j;refine⟨_,Z y A t s H E F Y hr (Kk (gh.frame fun a h=>live a (bt _ h)) fun c C n T j J I p ⟨g,ho,k⟩=>?_),?_⟩
 ·obtain⟨d,o,b,_⟩:=fin (fp:=[]) p (fun a h=>by cases h) ho;rw[List.append_nil] at o b;exact k C j d I o b
 ·refine⟨gJ N.length ps.length l,_,⟨fun n=>∃g,cK l n = some g/\∀j d,aV j (d.flatten++[]++O₀) B l g d->gn H j u.flatten (d.flatten++[]) O₀->Q .non j,fun c n=>∃g,cK l n = some g/\∀v j fp d,cX K j (d.flatten++fp++O₀) v c fp->aV j (d.flatten++fp++O₀) B l g d->gn H j u.flatten (d.flatten++fp) O₀->Q v j,fun _=>False,fun _=>False⟩,⟨_,R,rfl⟩,?_,?_⟩
  ·unfold cq;cases I:m (gJ N.length ps.length l) with
   | nx n=>
    rw[I] at q;cases ho:cK l n with
    | none=>simp[ho] at q
    | some g=>simp only[ho] at q;exact⟨g,ho,fun j d o b=>q .non j [] d .non o b⟩
   | rt c n=>
    rw[I] at q;cases ho:cK l n with
    | none=>simp[ho] at q
    | some g=>simp only[ho] at q;exact⟨g,ho,q⟩
   | ex c n=>
    rw[I] at q;cases ho:cK l n with
    | none=>simp[ho] at q
    | some g=>simp only[ho] at q;exact⟨g,ho,q⟩
   | bk n=>rw[I] at q;exact q
   | ct n=>rw[I] at q;exact q
   | bad=>rw[I] at q;exact q
  ·refine⟨fun T j n J p s' ⟨g,ho,k⟩=>?_,fun v T j c n J fp r s' ⟨g,ho,k⟩=>?_,fun _ _ _ _ _ _ z=>z.elim,fun _ _ _ _ _ _ z=>z.elim⟩
   ·obtain⟨d,o,b,_⟩:=fin (fp:=[]) p (fun a h=>by cases h) ho;exact k j d o b
   ·obtain⟨d,o,b,D⟩:=fin r.st r.new ho;exact k v j fp d (r.at_.keep D (fun _ _=>rfl) (fun _ _ _ e=>e)) o b
end
inductive AX where
 | d (x:PyData) | s (j:Nat)
inductive cQ (Y:St) (G:Hp):List V->List AX->Prop where
 | nil:cQ Y G [] []
 | d {v:V}{x:PyData}{vs:List V}{as:List AX}:DV G v x->cQ Y G vs as->cQ Y G (v::vs) (.d x::as)
 | s {v:V}{j:Nat}{vs:List V}{as:List AX}:Y[j]? = some (some v)->cQ Y G vs as->cQ Y G (v::vs) (.s j::as)
abbrev gK:=ao->(List AX->ao->Prop)->Prop
def AQ(t:gK):Prop:=∀U Q a,(∀d b,Q d b->a d b)->t U Q->t U a
noncomputable def KQ(K:Frag)(F:Fx)(t:gK):TA:=fun Y H Q=>∃U O,aE K F H Y U O/\t U fun as d=>∀c a b,aE K F a Y d b->aM O H b a->cQ Y (aw b a) c as->Q c a
structure DX (X:Cx) (F:Fx) (es:List Expr) (t:gK):Prop where
 mn:AQ t
 pa:PA X es (KQ X.K F t)
section
variable{X:Cx}{F:Fx}{e:Expr}{es:List Expr}{te:DT}{tX:gK}{x:Str}{p:Pos}{j:Nat}
noncomputable def KR:gK:=fun U Q=>Q [] U
noncomputable def KS(te:DT)(t:gK):gK:=fun U Q=>te U fun d a=>t a fun as b=>Q (.d d::as) b
noncomputable def KU(j:Nat)(t:gK):gK:=fun U Q=>(∃c,U[j]? = some (some c))/\t U fun as a=>Q (.s j::as) a
theorem KW:DX X F [] KR:=⟨fun _ _ _ k q=>k _ _ q,ed.imp fun Y H Q ⟨U,O,st,q⟩=>q [] H O st .refl .nil⟩
theorem KY(a:DE X F e te)(b:DX X F es tX)(l:starEach (e::es) X.env=(false,eval e X.env)::starEach es X.env:=by rfl):DX X F (e::es) (KS te tX):=
 ⟨fun _ _ _ k q=>a.mn _ _ _ (fun _ _ c=>b.mn _ _ _ (fun _ _ f=>k _ _ f) c) q,(df a.pe b.pa l).imp fun Y H Q ⟨U,O,st,q⟩=>
  ⟨U,O,st,a.mn _ _ _ (fun d m c v y n g o r=>⟨m,n,g,b.mn _ _ _ (fun as z f s t u h i w=>f (v::s) t u h (o.trans i) (.d (DV.mono i.hid r) w)) c⟩) q⟩⟩
theorem KZ(f:PE X (.Name x p) (bS j))(a:DX X F es tX)(g:starEach (.Name x p::es) X.env=(false,eval (.Name x p) X.env)::starEach es X.env:=by rfl):DX X F (.Name x p::es) (KU j tX):=
 ⟨fun _ _ _ k ⟨h,q⟩=>⟨h,a.mn _ _ _ (fun _ _ b=>k _ _ b) q⟩,(df f a.pa g).imp fun Y H Q ⟨U,O,st,⟨c,i⟩,q⟩=>by
  obtain⟨W,h,rfl⟩:=id st;obtain⟨v,t,h1,h2,h3⟩:=h.at_ j c i;exact⟨v,h1,U,_,st,a.mn _ _ _ (fun as u b l m n d o r=>b (v::l) m n d o (.s h1 r)) q⟩⟩
end
@[simp] noncomputable def gL(U:ao):List AX->Option (List aj×List (Nat×Bool))
 | []=>some ([],[])
 | .d x::as=>(match gL U as with | some (e,a)=>some (.dat x::e,a) | none=>none)
 | .s j::as=>(match gL U as with
  | some (e,a)=>(match U[j]? with
   | some (some (.own io b))=>if a.any (fun p=>p.1==j) then none else some (.own true b::e,(j,io)::a)
   | some (some c)=>some (c::e,a)
   | _=>none)
  | none=>none)
@[simp] noncomputable def fc:List (Nat×Bool)->ao->ao
 | [],U=>U
 | (j,_)::r,U=>(fc r U).set j none
@[simp] noncomputable def eL:List (Nat×Bool)->List Bx->ao->ao
 | (j,io)::r,b::bs,U=>eL r bs (U.set j (some (.own io b)))
 | _,_,U=>U
theorem rg{a:List (Nat×Bool)}{U:ao}:(fc a U).length=U.length:=by
 induction a with
 | nil=>rfl
 | cons p r b=>obtain⟨j,io⟩:=p;rw[fc,List.length_set,b]
theorem La{a:List (Nat×Bool)}{U:ao}{i:Nat}(h:∀p∈a,p.1≠i):(fc a U)[i]? = U[i]?:=by
 induction a with
 | nil=>rfl
 | cons p r b=>obtain⟨j,io⟩:=p;rw[fc,List.getElem?_set_ne (h (j,io) List.mem_cons_self),b fun q c=>h q (bL _ c)]
inductive fe (Y:St) (F:Fx) (n:Nat):List V->List aj->List (Nat×Bool)->Prop where
 | nil:fe Y F n [] [] []
 | skip {v:V}{c:aj}{vs:List V}{cs:List aj}{js:List (Nat×Bool)}:(∀io b,c≠.own io b)->fe Y F n vs cs js->fe Y F n (v::vs) (c::cs) js
 | own {a:Addr}{io:Bool}{b:Bx}{j:Nat}{vs:List V}{cs:List aj}{js:List (Nat×Bool)}:Y[j]? = some (some (.ref a))->(io=true->a=F.I₀ j)->j<n->fe Y F n vs cs js->fe Y F n (.ref a::vs) (.own true b::cs) ((j,io)::js)
section
variable{K:Frag}{F:Fx}{H H':Hp}{Y:St}{U:ao}{O O':List Addr}
theorem rh(st:aE K F H Y U O):∀(as:List AX) (l:List V) (t:List aj) (u:List (Nat×Bool)),gL U as=some (t,u)->cQ Y (aw O H) l as->
  ∃f O',aE K (F.plus f.flatten) H Y (fc u U) O'/\aX K H O' l t f/\aM O H O' H/\aM O' H O H/\(∀a∈f.flatten,a∈F.A₀\/F.H₀ a=none)/\fe Y F U.length l t u
 | [],l,t,u,e,h=>by cases e;cases h;refine⟨[],O,st,.nil,.refl,.refl,?_,.nil⟩;intro a h;cases h
 | .d x::as,l,t,u,e,h=>by
  cases h with
  | d y G=>
   unfold gL at e;cases q:gL U as with
   | none=>rw[q] at e;cases e
   | some p=>obtain⟨k,g⟩:=p;rw[q] at e;simp only[Option.some.injEq,Prod.mk.injEq] at e;obtain⟨X,Z⟩:=e;obtain⟨f,O',m,r,o,B,C,D⟩:=rh st as _ k g q G;subst X Z;exact⟨[]::f,O',m,.dat (DV.mono o.hid y) r,o,B,C,.skip (fun _ _ z=>by cases z) D⟩
 | .s j::as,l,t,u,e,h=>by
  cases h with
  | @s v _ l _ y G=>
   unfold gL at e;cases q:gL U as with
   | none=>rw[q] at e;cases e
   | some p=>
    obtain⟨k,g⟩:=p;rw[q] at e;obtain⟨f,O',m,r,o,B,C,D⟩:=rh st as _ k g q G;cases w:U[j]? with
    | none=>rw[w] at e;cases e
    | some oc=>
     cases oc with
     | none=>rw[w] at e;cases e
     | some c=>
      rw[w] at e;obtain⟨W,I,J⟩:=id st;obtain⟨E,a0,h1,h2,h3⟩:=I.at_ j c w;rw[y] at h1;have L:E = v:=by cases h1;rfl
      subst L;rw[<-J] at h3;have other:(∀io b,c≠.own io b)->∃f O',aE K (F.plus f.flatten) H Y (fc g U) O'/\aX K H O' (E::l) (c::k) f/\aM O H O' H/\aM O' H O H/\(∀a∈f.flatten,a∈F.A₀\/F.H₀ a=none)/\fe Y F U.length (E::l) (c::k) g:=fun Q=>by
       refine⟨[]::f,O',m,?_,o,B,C,.skip Q D⟩;cases c with
       | dat d=>exact .dat (DV.mono o.hid h3) r
       | own io b=>exact absurd rfl (Q io b)
       | scr ns=>exact .oth (fun _ z=>by cases z) (fun _ _ z=>by cases z) (cX.keep (c:=.scr ns) (fp:=[]) h3 o (fun _ _=>rfl) (fun _ _ _ e=>e)) r
       | exc n=>exact .oth (fun _ z=>by cases z) (fun _ _ z=>by cases z) (cX.keep (c:=.exc n) (fp:=[]) h3 o (fun _ _=>rfl) (fun _ _ _ e=>e)) r
       | vw n=>exact .oth (fun _ z=>by cases z) (fun _ _ z=>by cases z) (cX.keep (c:=.vw n) (fp:=[]) h3 o (fun _ _=>rfl) (fun _ _ _ e=>e)) r
      cases c with
      | dat d=>simp only[Option.some.injEq,Prod.mk.injEq] at e;rw[<-e.1,<-e.2];exact other (fun _ _ z=>by cases z)
      | scr ns=>simp only[Option.some.injEq,Prod.mk.injEq] at e;rw[<-e.1,<-e.2];exact other (fun _ _ z=>by cases z)
      | exc n=>simp only[Option.some.injEq,Prod.mk.injEq] at e;rw[<-e.1,<-e.2];exact other (fun _ _ z=>by cases z)
      | vw n=>simp only[Option.some.injEq,Prod.mk.injEq] at e;rw[<-e.1,<-e.2];exact other (fun _ _ z=>by cases z)
      | own io b=>
       by_cases M:g.any (fun p=>p.1==j)=true
       ·simp only[if_pos M] at e;cases e
       ·simp only[if_neg M,Option.some.injEq,Prod.mk.injEq] at e;rw[<-e.1,<-e.2];have N:∀p∈g,p.1≠j:=fun p hp z=>M (List.any_eq_true.mpr ⟨p,hp,by simp[z]⟩);obtain⟨a,fp,O2,R,S,t3,T,t5,t6,t7⟩:=m.take (i:=j) (io:=io) (b:=b) (by rw[La N];exact w);rw[y] at R;have L:E = .ref a:=by cases R;rfl
        subst L;rw[Fx.plus_plus] at S;refine⟨fp::f,O2,S,.own t3 (r.mono T),o.trans T,t5.trans B,fun x A=>?_,.own y t7 (List.getElem?_eq_some_iff.mp w).1 D⟩;rcases List.mem_append.mp A with A | A
        ·exact t6 x A
        ·exact C x A
theorem ri{fp:List Addr}{n:Nat}{m:List V}{o:List aj}{p:List (Nat×Bool)}(u:fe Y F n m o p):∀{d:List Bx}{e:List (List Addr)}{U:ao}{O:List Addr},U.length=n->aE K (F.plus (e.flatten++fp)) H Y U O->aV H O m o d e->(∀a∈e.flatten,a∈F.A₀\/F.H₀ a=none)->
  ∃O',aE K (F.plus fp) H Y (eL p d U) O'/\aM O H O' H:=by
 induction u with
 | nil=>intro d e U O h st f k;cases f;exact⟨O,st,.refl⟩
 | skip g _ q=>
  intro d e U O h st f k;cases f with
  | skip _ f=>exact q h st f k
  | own _ _=>exact absurd rfl (g _ _)
 | @own a io b j m o p h1 h2 h3 u q=>
  intro d e U O h st f k;cases f with
  | skip g _=>exact absurd rfl (g _ _)
  | @own _ _ _ A f1 _ _ bs B hb f=>
   have r:aE K ((F.plus (B.flatten++fp)).plus f1) H Y U O:=by rw[Fx.plus_plus,<-List.append_assoc];exact st
   obtain⟨G,l,w⟩:=aE.put1 (io:=true) (c:=.own io A) (v:=.ref a) (i:=j) r ⟨a,rfl,hb⟩ (fun x s=>k x (by rw[List.flatten_cons];exact bt _ s)) (by rw[h];exact h3) (fun b z=>by cases z;rw[h2 rfl];rfl);have C:Y.set j (some (.ref a))=Y:=by
    apply List.ext_getElem?;intro i
    by_cases y:i=j
    ·subst y;rw[List.getElem?_set_self (List.getElem?_eq_some_iff.mp h1).1,h1]
    ·rw[List.getElem?_set_ne (Ne.symm y)]
   rw[C] at l;obtain⟨D,t,E⟩:=q (by rw[List.length_set];exact h) l (f.mono w) (fun x s=>k x (by rw[List.flatten_cons];exact bo _ s));exact⟨D,t,w.trans E⟩
end
def gp(f:FM)(E:Str->ao->Prop)(Q:aj->ao->Prop)(as:List AX)(U:ao):Prop:=match gL U as with
 | some (d,b)=>(match f d with
  | .rt c a=>Q c (eL b a (fc b U))
  | .ex c a=>E c (eL b a (fc b U))
  | .bad=>False)
 | none=>False
noncomputable def vY(f:FM)(E:Str->ao->Prop)(t:gK):ig:=fun U Q=>t U fun as a=>gp f E Q as a
section
variable{X:Cx}{F:Fx}{e:Expr}{es:List Expr}{tX:gK}{E:Str->ao->Prop}{pos p:Pos}{x:Str}{f:FM}{k:Nat}{g:Addr}{fd:FuncData}{ps:List Str}
theorem AR{Q b:aj->ao->Prop}{as:List AX}{U:ao}(h:∀c d,Q c d->b c d)(q:gp f E Q as U):gp f E b as U:=by
 unfold gp at q ⊢;split
 ·rename_i i j e;rw[e] at q;simp only at q;split
  ·rename_i a;rw[a] at q;exact h _ _ q
  ·rename_i a;rw[a] at q;exact q
  ·rename_i a;rw[a] at q;exact q
 ·rename_i e;rw[e] at q;exact q
theorem vZ{m:List (Addr×Obj)}{Y:St}{H:Hp}{s:Shared}{Q:VK}{us:List Value}{vs:List V}{as:List AX}{U:ao}{O:List Addr}{QC:aj->ao->Prop}(hx:fb X F E)(G:az X.prog X.w X.K X.mg X.base (ba X.prog X.w) k g fd ps (be X.K X.mg f))(hr:bz k X.A)(hb:ic X.K fd ps [])
  (I:Inv X m Y H s) (r:bq vs us) (st:aE X.K F H Y U O) (ax:cQ Y (aw O H) vs as) (q:gp f E QC as U) (hQ:∀c L,QC c L->∀v b S M,gF X.K F b Y L S v c M->aM O H S b->Q v b) :
  wpAny (model X.prog X.w) X.A (call (.ref g) us) (EP X m Y Q) X.xe s:=by
 unfold gp at q;cases hc:gL U as with
 | none=>rw[hc] at q;exact q.elim
 | some p=>
  obtain⟨cs,js⟩:=p;rw[hc] at q;simp only at q;obtain⟨i,O2,T,ar,s1,a6,nw,ja⟩:=rh st as vs cs js hc ax;obtain⟨W,y,Z⟩:=id T;have a2:(W.flatten++(i.flatten++F.O₀)).Nodup:=y.nd;have l:∀a,a∈O2↔a∈i.flatten++(W.flatten++F.O₀):=fun a=>by
   rw[Z];show a∈W.flatten++(i.flatten++F.O₀)↔_;simp only[List.mem_append];constructor
   ·rintro(h | h | h)<;>simp[h]
   ·rintro(h | h | h)<;>simp[h]
  have perm:(i.flatten++(W.flatten++F.O₀)).Perm (W.flatten++(i.flatten++F.O₀)):=by rw[<-List.append_assoc,<-List.append_assoc];exact List.Perm.append_right _ List.perm_append_comm
  have a0:(i.flatten++(W.flatten++F.O₀)).Nodup:=perm.nodup_iff.mpr a2;have a3:aM O2 H (i.flatten++(W.flatten++F.O₀)) H:=fC fun a h=>(l a).mpr h;have N:∀(b:Hp) (n:List Addr) (a:Addr),(a∈n++(W.flatten++F.O₀))->a∈n\/(a∈O2/\a∉i.flatten):=fun b n a h=>by
   rcases List.mem_append.mp h with h | h
   ·exact .inl h
   ·refine .inr ⟨(l a).mpr (bo _ h),fun z=>?_⟩;exact(List.nodup_append.mp a0).2.2 a z a h rfl
  have j:∀(b:Hp) (n:List Addr),gn H b i.flatten n (W.flatten++F.O₀)->∃B,aE X.K (F.plus n) b Y (fc js U) B/\aM O2 H B b/\∀a,a∈B↔a∈n++(W.flatten++F.O₀):=fun b n t=>by
   obtain⟨B,t1,t2,t3,t4,t5⟩:=T.swap (H':=b) (L':=n) t.keep (List.nodup_append.mp t.nd).1 t.new nw t.live;refine⟨B,t1,t2,fun a=>⟨fun h=>?_,fun h=>?_⟩⟩
   ·rcases t4 a h with z | ⟨z1,z2⟩
    ·exact bt _ z
    ·rcases List.mem_append.mp ((l a).mp z1) with z | z
     ·exact absurd z z2
     ·exact bo _ z
   ·rcases N b n a h with z | ⟨z1,z2⟩
    ·exact t3 a z
    ·exact t5 a z1 z2
  have r2:bq (vs++[]) (us++[]):=by rw[List.append_nil,List.append_nil];exact r
  let EX:XK:=fun C _ b=>∃c L S,X.mg c=some C/\aE X.K F b Y L S/\E c L;have sp:be X.K X.mg f vs H Q EX:=by
   refine⟨hx.1.at st,cs,i,W.flatten++F.O₀,ar.mono a3,a0,fun a h=>?_,?_⟩
   ·exact y.live a (by have:=(l a).mpr h;rw[Z] at this;exact this)
   ·cases hf:f cs with
    | bad=>rw[hf] at q;exact q
    | rt c a1=>
     rw[hf] at q;simp only at q ⊢;intro v b M d a4 R t;obtain⟨B,t1,t2,t3⟩:=j b (d.flatten++M) t;have D:aM (d.flatten++M++(W.flatten++F.O₀)) b B b:=fC fun a h=>(t3 a).mp h;have J:∀a∈d.flatten++M,a∈F.A₀\/F.H₀ a=none:=fun a h=>by
      rcases t.new a h with z | z
      ·exact nw a z
      ·by_cases hA:a∈F.A₀
       ·exact .inl hA
       ·refine .inr ?_;cases e:F.H₀ a with
        | none=>rfl
        | some o=>have:=y.kept a o hA e;rw[z] at this;cases this
     have lj:(fc js U).length=U.length:=rg;obtain⟨O4,u1,u2⟩:=ri (fp:=M) ja lj t1 (R.mono D) fun a h=>J a (bt _ h);exact hQ c _ q v b O4 M ⟨u1,a4.keep (D.trans u2) (fun _ _=>rfl) (fun _ _ _ e=>e),fun a h=>J a (bo _ h)⟩ (s1.trans (t2.trans u2))
    | ex c a1=>
     rw[hf] at q;simp only at q ⊢;intro C b d hm R t;obtain⟨B,t1,t2,t3⟩:=j b d.flatten t;have D:aM (d.flatten++(W.flatten++F.O₀)) b B b:=fC fun a h=>(t3 a).mp h;have J:∀a∈d.flatten,a∈F.A₀\/F.H₀ a=none:=fun a h=>by
      rcases t.new a h with z | z
      ·exact nw a z
      ·by_cases hA:a∈F.A₀
       ·exact .inl hA
       ·refine .inr ?_;cases e:F.H₀ a with
        | none=>rfl
        | some o=>have:=y.kept a o hA e;rw[z] at this;cases this
     have lj:(fc js U).length=U.length:=rg;obtain⟨O4,u1,u2⟩:=ri (fp:=[]) ja lj (by rw[List.append_nil];exact t1) (R.mono D) J;exact⟨c,_,O4,hm,u1,q⟩
  have hl:(us++[]).length=ps.length:=by rw[List.append_nil,<-r.length];exact G.len _ _ _ _ sp
  refine wpAny_call (codeAny_mono (G.run X.A X.stack s H ⟨us,[]⟩ us vs Q EX hr I.env0 (by have:=hb s us I.kIn hl;rw[List.append_nil] at this;exact this) r sp) fun r s' hq=>?_);cases r with
  | error e=>obtain⟨a,C,b,e1,I',cv,ex,c,L,S,hm,a5,hE⟩:=I.flies hq;exact hx.2 m Y b s' e c L S ⟨I',a,C,s.heap,_,e1,cv,ex,hm⟩ a5 hE
  | ok fl=>
   cases fl with
   | ret u=>exact I.after hq
   | next=>exact False.elim hq
   | brk=>exact False.elim hq
   | cont=>exact False.elim hq
theorem Lb(L:fb X F E)(G:az X.prog X.w X.K X.mg X.base (ba X.prog X.w) k g fd ps (be X.K X.mg f))(M:bz k X.A)(N:Gl X x)(R:X.mg x=some (.ref g))(S:keepIn X.K (.ref g)=true)(hb:ic X.K fd ps [])
  (o:DX X F (e::es) tX) (t:(x==("__debug__":Str))=false:=by decide) (T:starEach (e::es) X.env=(false,eval e X.env)::starEach es X.env:=by rfl) (u:(backTo pos (starEach es X.env)).any (·.1)=false:=by rfl) :
  DO X F (.Call (.Name x p) (e::es) [] pos) (vY f E tX):=by
 refine⟨fun U Q Q' k q=>o.mn _ _ _ (fun as b i=>AR k i) q,fun j s Y H Q I ⟨U,O,st,q⟩=>?_⟩;refine wpAny_Call_Name_kw (mG I N R ?_ t);refine PySem.W.callWith_K (h₀:=X.base) I.ok.mod.kin S (aU (o.pa pos j s Y H (fun y l=>∃as b d,aE X.K F l Y b d/\aM O H d l/\cQ Y (aw d l) y as/\gp f E (fun c D=>∀v m n z,gF X.K F m Y D n v c z->aM O H n m->Q v m) as b) I ⟨U,O,st,o.mn _ _ _ (fun as b i y l d a J B=>⟨as,b,d,a,J,B,i⟩) q⟩) fun us J ⟨y,l,I1,r,as,b,d,a,C,B,i⟩=>⟨I1.kIn,?_⟩) T u;exact vZ L G M hb I1 r a B i fun c D h v m n z res Z=>h v m n z res (C.trans Z)
end
def jL(H:Hp)(O:List Addr):Prop:=∀a∈O,∃o,H a=some o/\Mv o
theorem jL.nofree{H:Hp}{O:List Addr}(h:jL H O):∀p,H p=none->p∉O:=fun p a z=>by obtain⟨o,e,_⟩:=h p z;rw[a] at e;cases e
theorem aE.live{K:Frag}{F:Fx}{H:Hp}{Y:St}{U:ao}{O:List Addr}(st:aE K F H Y U O):jL H O:=by obtain⟨W,h,rfl⟩:=st;exact h.live
abbrev dW:=ao->(List PyData->ao->Prop)->Prop
def Wk(O:List Addr)(H:Hp)(J:It)(c:List PyData):Prop:=∀e b,aM O H e b->jL b e->
 (∀i d,c[i]? = some d->J.go i b/\∀x a,J.yld i b x a->bW b a/\DV (aw e a) x d)/\J.stop c.length b
noncomputable def oE(K:Frag)(F:Fx)(s:dW):TI:=fun Y H R=>∃U O,aE K F H Y U O/\s U fun b d=>∀J a c,aE K F a Y d c->aM O H c a->Wk c a J b->R J a
structure DI (X:Cx) (F:Fx) (tg iter:Expr) (s:dW):Prop where
 mn:∀U Q Q',(∀d U',Q d U'->Q' d U')->s U Q->s U Q'
 pi:PI X tg iter (oE X.K F s)
theorem _root_.L2.PI.imp{X:Cx}{b e:Expr}{t t':TI}(h:PI X b e t)(k:∀Y H Q,t' Y H Q->t Y H Q):PI X b e t':=fun a s Y H Q I q=>h a s Y H Q I (k Y H Q q)
section
variable{X:Cx}{F:Fx}{tg e a b:Expr}{te:DT}{tA:eg}{pos p:Pos}
noncomputable def iL(te:DT):dW:=fun U Q=>te U fun d f=>∃c,d=.list c/\Q c f
noncomputable def iT(te:DT):dW:=fun U Q=>te U fun d f=>∃c,d=.tuple c/\Q c f
theorem Lc{K:Frag}{O:List Addr}{H:Hp}{a:Addr}{c:List V}{j:List PyData}(k:aw O H a=some (.lst c))(hd:aK (aw O H) c j):Wk O H (vh K a) j:=fun t u s ok=>by obtain⟨r,l⟩:=cW k;have h2:=s.keep a _ l r;have f:=aK.mono s.hid hd;refine⟨fun i d e=>?_,⟨c,.of h2,by rw[hd.length];exact bI _⟩⟩;obtain⟨v,g,m⟩:=f.get e;refine⟨⟨c,v,.of h2,g⟩,fun x n ⟨o,q⟩=>?_⟩;subst o;have:=q c (.of h2);rw[g] at this;cases this;exact⟨fun _ _ h=>h,m⟩
theorem Ld{K:Frag}{O:List Addr}{H:Hp}{a:Addr}{c:List V}{k:List PyData}(l:Rd (aw O H) a (.tup c))(hd:aK (aw O H) c k):Wk O H (vi K a) k:=fun w m s ok=>by
 obtain⟨u,g⟩:=jH l;have h2:Rd m a (.tup c):=u.imp (fun e=>s.keep a _ g e) fun⟨o,e⟩=>⟨o,s.keep a _ g e⟩
 have f:=aK.mono s.hid hd;refine⟨fun i d e=>?_,⟨c,.inl h2,by rw[hd.length];exact bI _⟩⟩;obtain⟨v,j,n⟩:=f.get e;refine⟨⟨c,v,.inl h2,j⟩,fun x q ⟨r,t⟩=>?_⟩;subst r;have:=t c (.inl h2);rw[j] at this;cases this;exact⟨fun _ _ h=>h,n⟩
theorem Le(h:DE X F e te):DI X F tg e (iL te):=
 ⟨fun _ _ _ k q=>h.mn _ _ _ (fun _ _ ⟨g,e,q⟩=>⟨g,e,k _ _ q⟩) q,(GR h.pe).imp fun Y H R ⟨U,O,st,q⟩=>
  ⟨U,O,st,h.mn _ _ _ (fun d r ⟨g,e,i⟩ v j l c m n=>by
   subst e;obtain⟨a,o,rfl,f,hd⟩:=n.lst_inv;exact⟨a,rfl,⟨o,.of (cW f).1⟩,i _ j l c m (Lc f hd)⟩) q⟩⟩
theorem Lf(h:DE X F e te):DI X F tg e (iT te):=
 ⟨fun _ _ _ k q=>h.mn _ _ _ (fun _ _ ⟨g,e,q⟩=>⟨g,e,k _ _ q⟩) q,(GS h.pe).imp fun Y H R ⟨U,O,st,q⟩=>
  ⟨U,O,st,h.mn _ _ _ (fun d r ⟨g,e,i⟩ v j l c m n=>by
   subst e;obtain⟨a,o,rfl,f,hd⟩:=n.tup_inv;exact⟨a,rfl,⟨o,.inl (jH f).1⟩,i _ j l c m (Ld f hd)⟩) q⟩⟩
noncomputable def intsFrom(lo:Int)(n:Nat):List PyData:=(List.range n).map fun(i:Nat)=>PyData.int (lo+i)
theorem rk(lo:Int)(n:Nat):(intsFrom lo n).length=n:=by unfold intsFrom;rw[List.length_map,List.length_range]
theorem Lg{O:List Addr}{H:Hp}{lo:Int}{n:Nat}:Wk O H (qC lo n) (intsFrom lo n):=fun q r s ok=>by refine⟨fun i d e=>?_,by show n<=(intsFrom lo n).length;rw[rk];exact bI _⟩;unfold intsFrom at e;rw[List.getElem?_map] at e;obtain⟨j,g,k⟩:=Option.map_eq_some_iff.mp e;obtain⟨c,f⟩:=List.getElem?_eq_some_iff.mp g;rw[List.length_range] at c;rw[List.getElem_range] at f;subst f k;exact⟨c,fun x l ⟨m,o⟩=>by subst m o;exact⟨fun _ _ h=>h,.int _⟩⟩
noncomputable def AS(t:eg):dW:=fun U Q=>t U fun d c=>∃j:Int,d=[.int j]/\-(2 ^ 62)<=j/\j<2 ^ 62/\Q (intsFrom 0 j.toNat) c
theorem kw(g:Gl X "range")(h:X.mg "range" = none)(c:DA X F [a] tA)(i:starEach [a] X.env=[(false,eval a X.env)]:=by rfl):DI X F tg (.Call (.Name "range" p) [a] [] pos) (AS tA):=
 ⟨fun _ _ _ k q=>c.mn _ _ _ (fun _ _ ⟨j,e,h1,h2,q⟩=>⟨j,e,h1,h2,k _ _ q⟩) q,(GW g h c.pa i).imp fun Y H R ⟨U,O,st,q⟩=>
  ⟨U,O,st,c.mn _ _ _ (fun v t ⟨j,e,h1,h2,l⟩ u m n f o s=>by
   subst e;cases s with
   | cons d r=>
    cases r;obtain rfl:=d.int_inv;exact⟨j,rfl,h1,h2,l _ m n f o Lg⟩) q⟩⟩
noncomputable def numbered(c:List PyData):List PyData:=c.mapIdx fun i d=>PyData.tuple [.int i,d]
noncomputable def iE(t:eg):dW:=fun U Q=>t U fun f d=>∃c,f=[.list c]/\Q (numbered c) d
theorem Lh{c:List Expr}{z:Nat}{f:Pos}(A:Gl X "enumerate")(B:X.mg "enumerate" = none)(l:DA X F [a] tA)(C:starEach [a] X.env=[(false,eval a X.env)]:=by rfl):DI X F (.Tuple c z f) (.Call (.Name "enumerate" p) [a] [] pos) (iE tA):=
 ⟨fun _ _ _ k q=>l.mn _ _ _ (fun _ _ ⟨j,e,q⟩=>⟨j,e,k _ _ q⟩) q,(Jw A B l.pa C).imp fun Y H R ⟨U,O,st,q⟩=>
  ⟨U,O,st,l.mn _ _ _ (fun ds U1 ⟨es,e,m⟩ vs D E n G I=>by
   subst e;cases I with
   | cons d r=>
    cases r;obtain⟨a,h,rfl,J,hd⟩:=d.lst_inv;obtain⟨g,o⟩:=cW J;refine⟨a,h,rfl,.of g,m _ D E n G fun O' H' s ok=>?_⟩;have h2:=s.keep a _ o g;have t:=aK.mono s.hid hd;refine⟨fun i d e=>?_,⟨h,.of h2,by unfold numbered;rw[List.length_mapIdx,hd.length];exact bI _⟩⟩;unfold numbered at e;rw[List.getElem?_mapIdx] at e;obtain⟨d0,L,M⟩:=Option.map_eq_some_iff.mp e;subst M;obtain⟨v,w,N⟩:=t.get L;refine⟨⟨h,v,.of h2,w⟩,fun x Q ⟨T,y,m,u,S,Z⟩=>?_⟩;subst m S;have:=Z h (.of h2);rw[w] at this;cases this;exact⟨bX u,kr u (ok.nofree T u) (.cons (.int _) (.cons N .nil))⟩) q⟩⟩
noncomputable def cm(d c:List PyData):List PyData:=(d.zip c).map fun q=>PyData.tuple [q.1,q.2]
end
noncomputable def Li(s:dW)(g:eh)(c:ei):ei:=fun D U=>s U fun a e=>∃b:Nat->ao->Prop,b 0 e/\(∀i d U,a[i]? = some d->b i U->g d U fun f=>c { D with nx:=b (i+1),ct:=b (i+1),bk:=D.nx } f)/\∀U,b a.length U->D.nx U
section
variable{X:Cx}{F:Fx}{tg iter:Expr}{body:List Stmt}{s:dW}{g:eh}{tb:ei}{pos:Pos}
theorem Lj(hp:PassesOwn (model X.prog X.w) X.A X.env X.xe)(hc:X.calm=true)(hi:DI X F tg iter s)(hg:DG X F tg g)(hb:gG X F body tb)(hs:∀x,foldedSetIterable iter X.env x=pure x:=by intro _;rfl):DS X F (.For tg iter body [] pos) (Li s g tb):=
 (GZ hp hc hi.pi hg.pg hb hs).imp fun D Y H ⟨U,O,DD,st,q,f⟩=>by
  refine⟨U,O,st,hi.mn _ _ _ (fun a U1 ⟨I,i0,step,fin⟩ J L y M N wk=>?_) q⟩;refine⟨fun i m Q z=>∃l u,aE X.K F z Q l u/\aM y L u z/\I i l/\i<=a.length/\m=a.length - i,⟨a.length,U1,y,M,.refl,i0,Nat.zero_le _,rfl⟩,?_⟩;rintro i m Q z ⟨l,u,n,R,iv,a2,rfl⟩;obtain⟨w1,w2⟩:=wk u z R n.live
  by_cases o:i<a.length
  ·obtain⟨go,yld⟩:=w1 i a[i] (List.getElem?_eq_getElem o);refine .inr ⟨go,fun Y2 B=>∃c p,aE X.K F B Y2 c p/\aM y L p B/\I (i+1) c,fun Y2 B ⟨c,p,S,s2,T⟩=>⟨a.length - (i+1),by omega,c,p,S,s2,T,o,rfl⟩,fun x B hy=>?_⟩;obtain⟨sm,dv⟩:=yld x B hy;refine⟨l,u,a[i],n.grow sm,dv,hg.mn _ _ _ _ (fun c q2 Y3 H3 Z a0 s3=>?_) (step i a[i] l (List.getElem?_eq_getElem o) iv)⟩;have r:aM y L Z H3:=R.trans ((aM.same sm).trans s3);have C:∀t h j k,aE X.K F h t j k->aM Z H3 k h->I (i+1) j->∃c p,aE X.K F h t c p/\aM y L p h/\I (i+1) c:=fun t h j k b E G=>⟨j,k,b,r.trans E,G⟩
   exact⟨c,Z,_,a0,q2,⟨C,fun v t h d j k a1 b E G=>f.rt v t h d j k a1 b (N.trans (r.trans E)) G,fun t h j k b E G=>f.nx t h j k b (N.trans (r.trans E)) G,C⟩⟩
  ·have e:i=a.length:=by omega
   subst e;exact .inl ⟨w2,f.nx Q z l u n (N.trans R) (fin l iv)⟩
end
@[simp] noncomputable def mP:Option (Option aj)->Option aj
 | some (some (.dat d))=>some (.dat d)
 | some (some (.scr ns))=>some (.scr ns)
 | some (some (.vw b))=>some (.vw b)
 | _=>none
noncomputable def cL(own:List Str)(a:List Nat)(U:ao):ao:=own.map (fun _=>none)++a.map fun j=>mP U[j]?
noncomputable def oF(own:List Str)(f:List Nat)(s:dW)(g:eh)(l:cG)(m:DT):DT:=fun U Q=>s U fun c j=>∃e:Nat->List PyData->ao->Prop,e 0 [] (cL own f j)/\
 (∀i d a h,c[i]? = some d->e i a h->g d h fun n=>l n fun b k=>if b=true then m k fun y o=>a.length<sizeLine/\e (i+1) (a++[y]) o else e (i+1) a k)/\
 ∀a h,e c.length a h->a.length<=sizeLine/\Q (.list a) j
def ky(s:dW):Prop:=∀U Q a,(∀d b,Q d b->a d b)->s U Q->s U a
section
variable{K:Frag}{F:Fx}{own:List Str}{caps:List Nat}{s:dW}{g:eh}{tc:cG}{te:DT}
theorem wa(c:ky s):Mn (oF own caps s g tc te):=fun _ _ _ k q=>c _ _ _ (fun _ _ ⟨d,e,h1,h2⟩=>⟨d,e,h1,fun a b h=>⟨(h2 a b h).1,k _ _ (h2 a b h).2⟩⟩) q
theorem AU{N:Fx->Prop}(Z:∀r Y w k O2,aE K F r Y w k->N ⟨r,[],O2,fun _=>0⟩)(hs:ky s)(hg:∀d U Q Q',(∀t,Q t->Q' t)->g d U Q->g d U Q')(ht:jd tc)(he:Mn te):∀Y H Q,gl K F (oF own caps s g tc te) Y H Q->
  kj own caps (oE K F s) (fun v Y H Q=>∃A,N A/\mO K A g v Y H Q) (fun Y H Q=>∃A,N A/\jI K A tc Y H Q) (fun Y H Q=>∃A,N A/\gl K A te Y H Q) Y H Q:=fun Y H Q ⟨U,O,st,q⟩=>by
 refine⟨U,O,st,hs _ _ _ (fun f w ⟨Iv,i0,step,fin⟩ J r k l s1 wk=>?_) q⟩;refine⟨fun i m ys Y' G=>∃t D C,aE K ⟨r,[],k,fun _=>0⟩ G Y' t D/\Iv i C t/\aK (aw D G) ys C/\i<=f.length/\m=f.length - i,⟨f.length,cL own caps w,k,[],?_,i0,.nil,Nat.zero_le _,rfl⟩,?_⟩
 ·have cell:∀(i:Nat) (c:aj),(cL own caps w)[i]? = some (some c)->(∀io b,c≠.own io b)/\∃v,(dH own caps Y)[i]? = some (some v)/\cX K r k v c []:=fun i c e=>by
   unfold cL at e;unfold dH
   by_cases R:i<own.length
   ·rw[List.getElem?_append_left (by simpa using R),List.getElem?_map] at e;cases h:own[i]? with
    | none=>rw[h] at e;cases e
    | some y=>rw[h] at e;cases e
   ·rw[List.getElem?_append_right (by simpa using Nat.le_of_not_lt R),List.length_map,List.getElem?_map] at e;rw[List.getElem?_append_right (by simpa using Nat.le_of_not_lt R),List.length_map,List.getElem?_map];obtain⟨j,h1,h2⟩:=Option.map_eq_some_iff.mp e;rw[h1];show _/\∃v,some ((Y[j]?).getD none)=some (some v)/\_;cases h3:w[j]? with
    | none=>rw[h3] at h2;cases h2
    | some o=>
     cases o with
     | none=>rw[h3] at h2;cases h2
     | some c'=>
      rw[h3] at h2;obtain⟨W,E,rfl⟩:=id l;obtain⟨v,fp,e1,_,I⟩:=E.at_ j c' h3;rw[e1];cases c' with
      | dat d=>cases h2;exact⟨(fun _ _ z=>by cases z),v,rfl,I⟩
      | scr ns=>cases h2;exact⟨(fun _ _ z=>by cases z),v,rfl,I⟩
      | own _ _=>cases h2
      | exc _=>cases h2
      | vw b=>cases h2;exact⟨(fun _ _ z=>by cases z),v,rfl,I⟩
  obtain⟨W,E,a0⟩:=id l;have ln:(cL own caps w).length=(dH own caps Y).length:=by unfold cL dH;simp
  have S:(List.replicate (cL own caps w).length ([]:List Addr)).flatten++k=k:=by rw[kv];rfl
  refine⟨List.replicate (cL own caps w).length [],⟨fun i c e=>?_,by show(_++k).Nodup;rw[S,a0];exact E.nd,fun _ _ _ h=>h,fun a h=>?_,by show jL r (_++k);rw[S];exact l.live,ln,by simp,fun i b e=>absurd rfl ((cell i _ e).1 true b)⟩,S.symm⟩
  ·obtain⟨_,v,e1,I⟩:=cell i c e;refine⟨v,[],e1,?_,by show cX K r (_++k) v c [];rw[S];exact I⟩;rw[List.getElem?_replicate,if_pos (List.getElem?_eq_some_iff.mp e).1]
  ·rw[kv] at h;cases h
 ·rintro i m ys Y' G ⟨t,D,C,n,iv,dv,R,rfl⟩;have sm:bW r G:=fun b o e=>by obtain⟨W',T,_⟩:=id n;exact T.kept b o (by simp) e
  have a1:aM k r D G:=⟨fun b o _ e=>sm b o e,fun a h=>by
   obtain⟨W',T,rfl⟩:=id n;rcases List.mem_append.mp h with h | h
   ·exact(T.new a h).elim (fun z=>absurd z (by simp)) .inr
   ·exact .inl h⟩
  have B:∀a∈k,a∈D:=fun a h=>by obtain⟨W',T,rfl⟩:=id n;exact bo _ h
  obtain⟨w1,w2⟩:=wk D G a1 n.live
  by_cases u:i<f.length
  ·obtain⟨go,yld⟩:=w1 i f[i] (List.getElem?_eq_getElem u);refine .inr ⟨go,fun x H2 hy=>?_⟩;obtain⟨L,dx⟩:=yld x H2 hy;refine⟨⟨r,[],k,fun _=>0⟩,Z _ _ _ _ _ l,t,D,f[i],n.grow L,dx,hg _ _ _ _ (fun U2 q2 Y3 H3 O3 a2 s3=>?_) (step i f[i] C t (List.getElem?_eq_getElem u) iv)⟩;refine⟨⟨r,[],k,fun _=>0⟩,Z _ _ _ _ _ l,U2,O3,a2,ht _ _ _ (fun b U3 q3 H4 O4 M s4=>?_) q2⟩;have d4:aK (aw O4 H4) ys C:=aK.mono s4.hid (aK.mono s3.hid (aK.mono (kl L) dv));cases b with
   | false=>exact em ⟨f.length - (i+1),by omega,U3,O4,C,M,jc q3,d4,u,rfl⟩
   | true=>refine en ⟨⟨r,[],k,fun _=>0⟩,Z _ _ _ _ _ l,U3,O4,M,he _ _ _ (fun y U4 q4 v H5 O5 a3 s5 dy=>?_) (jb q3)⟩;refine⟨by rw[d4.length];exact q4.1,f.length - (i+1),by omega,U4,O5,C++[y],a3,q4.2,(aK.mono s5.hid d4).append (.cons dy .nil),u,rfl⟩
  ·have e:i=f.length:=by omega
   subst e;obtain⟨hz,q⟩:=fin C t iv;refine .inl ⟨w2,by rw[dv.length];exact hz,fun p X=>?_⟩;have a4:=n.nofree p X;exact q _ _ k (l.grow fun b o e=>bX X _ _ (sm b o e)) (s1.trans (.same fun b o e=>bX X _ _ (sm b o e))) (kq X (fun z=>a4 (B p z)) (aK.mono (ow B) dv))
end
def lL(X:Cx)(F:Fx)(a:List Expr)(t:cG):Prop:=jd t/\mJ X a (jI X.K F t)
noncomputable def Lk:cG:=fun U Q=>Q true U
theorem Ll{X:Cx}{F:Fx}:lL X F [] Lk:=⟨fun _ _ _ k q=>k _ _ q,fun a s Y H Q I ⟨U,O,st,q⟩=>Jd a s Y H Q I (q H O st .refl)⟩
theorem Lm{X:Cx}{F:Fx}{c:Expr}{t:cG}(h:DB X F c t):lL X F [c] t:=⟨h.mn,Je h.pt⟩
section
variable{X:Cx}{F:Fx}{scope:Scope}{own capN:List Str}{caps:List Nat}{tg iter elt:Expr}{ifs:List Expr}{s:dW}{g:eh}{tc:cG}{te:DT}{pos:Pos}
theorem Ln(k:GF X.mg F)(S:ag X scope own capN caps)(l:X.calm=true)(j:DI X F tg iter s)
  (c:∀C d e f h b,GF X.mg b->DG (bP X scope (own++capN) C d e f h) b tg g/\lL (bP X scope (own++capN) C d e f h) b ifs tc/\DE (bP X scope (own++capN) C d e f h) b elt te)
  (m:∀x,foldedSetIterable iter X.env x=pure x:=by intro _;rfl):DE X F (.ListComp elt [⟨tg,iter,ifs,0⟩] scope pos) (oF own caps s g tc te):=by
 have t:Fx:=F;obtain⟨n,o,p⟩:=c 0 [] (PySem.start X.prog).1 (fun _=>none) [] F k;refine⟨wa j.mn,(qW S l j.pi (fun C d e f h=>⟨fun a s Y H v u Q I r ⟨b,i,q⟩=>(c C d e f h b i).1.pg a s Y H v u Q I r q,fun a s Y H Q I ⟨b,i,q⟩=>(c C d e f h b i).2.1.2 a s Y H Q I q,fun a s Y H Q I ⟨b,i,q⟩=>(c C d e f h b i).2.2.pe a s Y H Q I q⟩) m).imp (AU (fun _ _ _ _ _ st=>k.into st) j.mn n.mn o.1 p.mn)⟩
theorem Lo{i:Nat}{y:Str}{py e:Pos}(z:X.N.Nodup)(n:X.N[i]? = some y)(A:gC X.env.scope y)(w:GF X.mg F)(S:ag X scope own capN caps)(B:X.calm=true)(o:DI X F tg iter s)
  (c:∀C h j k l b,GF X.mg b->DG (bP X scope (own++capN) C h j k l) b tg g/\lL (bP X scope (own++capN) C h j k l) b ifs tc/\DE (bP X scope (own++capN) C h j k l) b elt te)
  (p:swapsWith (.ListComp elt [⟨tg,iter,ifs,0⟩] scope pos) (some (.Name y py)) e.line X.env=pure true:=by rfl)
  (E:∀x,foldedSetIterable iter X.env x=pure x:=by intro _;rfl) (G:X.fn y=true\/X.env.scope.names.lookup y=some .local:=by first | exact .inl rfl | exact .inr rfl | assumption) :
  DS X F (.Assign [.Name y py] (.ListComp elt [⟨tg,iter,ifs,0⟩] scope pos) e) (vV (oF own caps s g tc te) (gN i)):=by
 obtain⟨J,L,M⟩:=c 0 [] (PySem.start X.prog).1 (fun _=>none) [] F w;refine(Ak z n A S B o.pi (fun C h j k l=>⟨fun a s Y H v u Q I r ⟨b,m,q⟩=>(c C h j k l b m).1.pg a s Y H v u Q I r q,fun a s Y H Q I ⟨b,m,q⟩=>(c C h j k l b m).2.1.2 a s Y H Q I q,fun a s Y H Q I ⟨b,m,q⟩=>(c C h j k l b m).2.2.pe a s Y H Q I q⟩) p E G).imp
  fun D Y H ⟨U,O,DD,st,q,f⟩=>AU (fun _ _ _ _ _ st=>w.into st) o.mn J.mn L.1 M.mn Y H _ ⟨U,O,st,wa o.mn _ _ _ (fun d U1 R v T Z t s1 d1=>f.nx _ T _ Z (t.set d1) s1 R) q⟩
end
end L2.L3
namespace L2
open PySem PySem.Spec PyProof.Rows
section
variable{X:Cx}{pins:List (Addr×Obj)}{Y:St}{H:Hp}{s:Shared}
theorem Inv.track{a:Addr}{o:HO}(I:Inv X pins Y H s)(f:hV X pins H a)(new:cJ X.prog X.w (aQ H a o) s.heap a o):Inv X pins Y (aQ H a o) s:=by
 have g:=f.1;refine I.step (h':=s.heap) (g':=s.gens) (d':=s.drawn) (t':=s.toks) (ch:=[a]) (fun b h=>by obtain rfl:=List.mem_singleton.mp h;exact⟨f.2.2.2.1,f.2.1,f.2.2.2.2.1,f.2.2.2.2.2⟩) (fun b d _ _ _ e _=>e) (fun b d _ _ _ e _=>⟨d.slots,e⟩)
  (fun b d i _ n=>by rw[bv (fun z=>i (by simp[z]))];exact n) (fun b d _ e=>⟨d,e⟩) (fun b j e=>bX g b _ e) (fun b d u e=>bX g b _ e) (fun b l e=>⟨#[],by rw[bX g b _ e];simp⟩) (fun m k=>k) (fun b u e=>?_) I.bare
 by_cases h:b=a
 ·subst h;rw[cF] at e;cases e;exact new
 ·rw[bv h] at e;exact(I.hok b u e).stay (fun _ _ _ q=>q) (fun c q=>bX g c _ q) fun c j q=>bX g c _ q
end
theorem oG{x y z:V}{a:List Value}(r:bq [x,y,z] a):∃u v w,a=[u,v,w]/\bp x u/\bp y v/\bp z w:=by
 cases r with
 | cons b r=>cases r with
  | cons c r=>cases r with
   | cons d r=>cases r;exact⟨_,_,_,rfl,b,c,d⟩
section
variable{X:Cx}{a b c:Expr}{t:TA}{pos p1 p2 pos2:Pos}
noncomputable def Lp(t:TA):TE:=fun Y H Q=>t Y H fun n d=>∃k l m e g h,n=[.ref k,.ref l,.ref m]/\d k=some (.lst e)/\d l=some (.lst g)/\d m=some (.lst h)/\g.length=e.length/\h.length=e.length/\0<e.length/\
 ∀p f (j:List Addr),bW d f->d p=none->f p=some (.lst (j.map V.ref))->j.length=e.length->(∀(i:Nat) (q:Addr),j[i]? = some q->∃x y z,e[i]? = some x/\g[i]? = some y/\h[i]? = some z/\d q=none/\f q=some (.tup [x,y,z]))->Q (.ref p) f
theorem AV:∀{acc:List Value},(∀(j:Nat) (w:Value),acc[j]? = some w->∃T,w=Value.ref T)->∃d:List Addr,acc=d.map Value.ref
 | [],_=>⟨[],rfl⟩
 | v::r,h=>by obtain⟨T,e⟩:=h 0 v rfl;obtain⟨d,f⟩:=AV (acc:=r) fun j w e=>h (j+1) w (by simpa using e);exact⟨T::d,by rw[f,e];rfl⟩
theorem Lq{h:Heap}{n:Addr}{f g i:Array Value}{d:List Value}(t:qX h n f g i d):∃k:List Addr,d=k.map Value.ref:=
 AV fun j w e=>by obtain⟨T,_,_,_,e,_⟩:=t j w e;exact⟨T,e⟩
theorem Lr(hc:X.calm=true)(c1:Gl X "list")(c2:X.mg "list" = none)(c3:Gl X "zip")(c4:X.mg "zip" = none)(ha:PA X [a,b,c] t)
  (he:starEach [.Call (.Name "zip" p2) [a,b,c] [] pos2] X.env=[(false,eval (.Call (.Name "zip" p2) [a,b,c] [] pos2) X.env)]:=by rfl)
  (hs:starEach [a,b,c] X.env=(false,eval a X.env)::starEach [b,c] X.env:=by rfl) (c5:(backTo pos2 (starEach [b,c] X.env)).any (·.1)=false:=by rfl) :
  PE X (.Call (.Name "list" p1) [.Call (.Name "zip" p2) [a,b,c] [] pos2] [] pos) (Lp t):=by
 intro g s Y H Q I h;refine wpAny_Call_Name_kw (jC I c1 c2 (show bootBuiltins "list" = some (.type "list") by decide +kernel) ?_ (by decide) (by decide));refine PyProof.Rows.callWith_type1 ?_ (by rw[he];rfl) rfl;rw[he];show wpAny _ _ (spliced [(false,eval (.Call (.Name "zip" p2) [a,b,c] [] pos2) X.env)]) _ _ s;refine Calls.spliced_cons ?_;refine wpAny_Call_Name_kw (jC I c3 c4 boot_zip ?_ (by decide) (by decide));refine PyProof.Rows.callWith_type1 (aU (ha pos2 g s Y H _ I h) fun us d ⟨vs,B,I1,r1,q1⟩=>?_) hs c5;obtain⟨l1,l2,l3,A,R,S,rfl,h1,N,h3,e2,e3,e5,q⟩:=q1;obtain⟨u1,u2,u3,rfl,c6,c7,c8⟩:=oG r1;cases c6;cases c7;cases c8;obtain⟨z1,U,n1,Z,g1⟩:=I1.hok _ _ h1;obtain⟨z2,a0,n2,a6,g2⟩:=I1.hok _ _ N;obtain⟨z3,a7,n3,a8,g3⟩:=I1.hok _ _ h3;have L1:d.heap.IsList l1 U.toArray:=⟨_,g1,rfl,_,rfl⟩
 have a9:d.heap.IsList l2 a0.toArray:=⟨_,g2,rfl,_,rfl⟩
 have b0:d.heap.IsList l3 a7.toArray:=⟨_,g3,rfl,_,rfl⟩
 have b1:=Z.length;have e6:=a6.length;have e7:=a8.length;refine Jn L1 a9 b0 fun v hz c9 d0 rA d1 d2 d3 hk=>?_;refine Calls.spliced_nil ?_;have b2:l1<d.heap.objs.size:=bw g1;have b3:l2<d.heap.objs.size:=bw g2;have b4:l3<d.heap.objs.size:=bw g3;have nd:[d.heap.objs.size+5,d.heap.objs.size+3,d.heap.objs.size+4,d.heap.objs.size,d.heap.objs.size+1,d.heap.objs.size+2].Nodup:=by generalize d.heap.objs.size=n;simp only[List.nodup_cons,List.mem_cons,List.not_mem_nil,or_false,not_or,not_false_eq_true,and_true,List.nodup_nil];refine⟨⟨?_,?_,?_,?_,?_⟩,⟨?_,?_,?_,?_⟩,⟨?_,?_,?_⟩,⟨?_,?_⟩,?_⟩<;>exact(by intro e;exact absurd (show(_:Nat)=_ from e) (by omega))
 have ge:∀j∈[d.heap.objs.size+5,d.heap.objs.size+3,d.heap.objs.size+4,d.heap.objs.size,d.heap.objs.size+1,d.heap.objs.size+2],d.heap.objs.size<=j:=fun j w=>by
  simp only[List.mem_cons,List.not_mem_nil,or_false] at w;rcases w with rfl | rfl | rfl | rfl | rfl | rfl
  ·exact Nat.le_add_right _ _
  ·exact Nat.le_add_right _ _
  ·exact Nat.le_add_right _ _
  ·exact bI _
  ·exact Nat.le_add_right _ _
  ·exact Nat.le_add_right _ _
 have I2:Inv X g Y B { d with heap:=v }:=I1.kept (t':=d.toks) hk;refine Jo (s:={ d with heap:=v }) (I1.ok.hd hc) nd (fun l hl j w=>?_) (fun j w=>?_) hz c9 d0 rA d1 d2 (L1.at fun o e=>hk _ _ e) (a9.at fun o e=>hk _ _ e) (b0.at fun o e=>hk _ _ e)
  (by simp only[List.size_toArray];omega) (by simp only[List.size_toArray];omega) (by simp only[List.size_toArray];omega) (by simp only[List.size_toArray];omega) fun N e8 cc rB hS hl tr=>?_
 ·simp only[List.mem_cons,List.not_mem_nil,or_false] at hl;rcases hl with rfl | rfl | rfl
  ·exact Nat.ne_of_lt (Nat.lt_of_lt_of_le b2 (ge j w))
  ·exact Nat.ne_of_lt (Nat.lt_of_lt_of_le b3 (ge j w))
  ·exact Nat.ne_of_lt (Nat.lt_of_lt_of_le b4 (ge j w))
 ·show j<v.objs.size;rw[d3];simp only[List.mem_cons,List.not_mem_nil,or_false] at w;generalize d.heap.objs.size=n at *;rcases w with rfl | rfl | rfl | rfl | rfl | rfl | rfl | rfl | rfl
  ·exact Nat.lt_succ_self _
  ·exact Nat.add_lt_add_left (show(3:Nat)<6 by decide) _
  ·exact Nat.add_lt_add_left (show(4:Nat)<6 by decide) _
  ·exact Nat.lt_add_of_pos_right (by decide)
  ·exact Nat.add_lt_add_left (show(1:Nat)<6 by decide) _
  ·exact Nat.add_lt_add_left (show(2:Nat)<6 by decide) _
  ·exact Nat.lt_of_lt_of_le b2 (Nat.le_add_right _ _)
  ·exact Nat.lt_of_lt_of_le b3 (Nat.le_add_right _ _)
  ·exact Nat.lt_of_lt_of_le b4 (Nat.le_add_right _ _)
 ·
  have kp:∀b ob,d.heap.get? b=some ob->N.get? b=some ob:=fun b ob e=>rB b ob (fun z=>absurd (ge b (by
   simp only[List.mem_cons,List.not_mem_nil,or_false] at z ⊢;rcases z with z | z | z | z | z<;>simp[z])) (Nat.not_le.mpr (bw e))) (hk b ob e)
  have I3:Inv X g Y B { d with heap:=N }:=I1.kept (t':=d.toks) kp;obtain⟨f,C⟩:=Lq tr;have big:∀b,v.objs.size<=b->hV X g B b:=fun b O=>I2.fpOk O (I2.hok.fresh O);have D:f.length=A.length:=by have:=congrArg List.length C;rw[List.length_map] at this;rw[<-this,hl,List.size_toArray];exact b1.symm
  have vq:∀f:List Addr,bq (f.map V.ref) (f.map Value.ref):=fun f=>by
   induction f with
   | nil=>exact .nil
   | cons q r ih=>exact .cons rfl ih
  have I4:Inv X g Y (aQ B v.objs.size (.lst (f.map V.ref))) { d with heap:=N }:=I3.track (big _ (bI _)) ⟨by rw[List.length_map,D];exact z1,_,_,vq f,by rw[<-C];exact hS⟩;have all:∀k,k<=f.length->∃u,bW B u/\Inv X g Y u { d with heap:=N }/\u v.objs.size=some (.lst (f.map V.ref))/\(∀b,v.objs.size<b->u b=none\/∃row,u b=some (.tup row))/\
    ∀(i:Nat) (q:Addr),i<k->f[i]? = some q->∃x y z,A[i]? = some x/\R[i]? = some y/\S[i]? = some z/\B q=none/\u q=some (.tup [x,y,z]):=fun k=>by
   induction k with
   | zero=>exact fun _=>⟨_,bX (big _ (bI _)).1,I4,cF,fun b O=>.inl (by rw[bv (Nat.ne_of_gt O)];exact(big b (Nat.le_of_lt O)).1),fun i q h=>absurd h (Nat.not_lt_zero _)⟩
   | succ k ih=>
    intro b5;obtain⟨u,sm,J,hp,E,m⟩:=ih (Nat.le_of_succ_le b5);have b6:k<f.length:=b5;have G:f[k]? = some f[k]:=List.getElem?_eq_getElem b6;obtain⟨T,x',y',u',eT,hT,b7,ex,ey,eu⟩:=tr k (.ref f[k]) (by rw[C,List.getElem?_map,G];rfl);cases eT;have p:v.objs.size<f[k]:=hT;have kx:k<A.length:=by rw[<-D];exact b6
    have vx:A[k]? = some A[k]:=List.getElem?_eq_getElem kx;have vy:R[k]? = some (R[k]'(by omega)):=List.getElem?_eq_getElem (by omega);have vz:S[k]? = some (S[k]'(by omega)):=List.getElem?_eq_getElem (by omega);obtain⟨w1,d4,d5⟩:=Z.get vx;obtain⟨w2,d6,d7⟩:=a6.get vy;obtain⟨w3,d8,d9⟩:=a8.get vz;have e1:x' = w1:=by simp only[List.getElem?_toArray] at ex;rw[d4] at ex;exact(Option.some.inj ex).symm
    have e0:y' = w2:=by simp only[List.getElem?_toArray] at ey;rw[d6] at ey;exact(Option.some.inj ey).symm
    have e4:u' = w3:=by simp only[List.getElem?_toArray] at eu;rw[d8] at eu;exact(Option.some.inj eu).symm
    subst e1 e0 e4;have rel:bq [A[k],R[k]'(by omega),S[k]'(by omega)] [x',y',u']:=.cons d5 (.cons d7 (.cons d9 .nil));have b8:B f[k]=none:=(big _ (Nat.le_of_lt p)).1;rcases E f[k] p with hn | ⟨row,hr⟩
    ·refine⟨aQ u f[k] (.tup [A[k],R[k]'(by omega),S[k]'(by omega)]),fun b o e=>bX hn _ _ (sm b o e),J.track ⟨hn,(big _ (Nat.le_of_lt p)).2⟩ ⟨by show 3<=sizeLine;decide,_,rel,⟨_,b7,rfl,_,rfl⟩⟩,
      by rw[bv (Nat.ne_of_lt p)];exact hp,fun b O=>?_,fun i q L M=>?_⟩
     ·by_cases e:b=f[k]
      ·subst e;exact .inr ⟨_,cF⟩
      ·rw[bv e];exact E b O
     ·rcases Nat.lt_succ_iff_lt_or_eq.mp L with L | rfl
      ·obtain⟨x,y,z,a1,a2,a3,a4,a5⟩:=m i q L M;exact⟨x,y,z,a1,a2,a3,a4,bX hn _ _ a5⟩
      ·rw[G] at M;cases M;exact⟨_,_,_,vx,vy,vz,b8,cF⟩
    ·have same:row=[A[k],R[k]'(by omega),S[k]'(by omega)]:=by
      obtain⟨_,b9,rv,o,eo,co,n,dn⟩:=J.hok _ _ hr;have c0:N.get? f[k]=some o:=eo;rw[b7] at c0;cases c0;have d':(#[x',y',u']:Array Value)=b9.toArray:=by injection dn
      have:b9=[x',y',u']:=by have:=congrArg Array.toList d';simpa using this.symm
      subst this;exact rv.inj rel
     refine⟨u,sm,J,hp,E,fun i q L M=>?_⟩;rcases Nat.lt_succ_iff_lt_or_eq.mp L with L | rfl
     ·exact m i q L M
     ·rw[G] at M;cases M;exact⟨_,_,_,vx,vy,vz,b8,by rw[hr,same]⟩
  obtain⟨u,sm,J,hp,_,m⟩:=all f.length (bI _);exact⟨.ref v.objs.size,u,J,rfl,q v.objs.size u f sm (big _ (bI _)).1 hp D fun i qq e=>m i qq (List.getElem?_eq_some_iff.mp e).1 e⟩
theorem Ls(E:X.calm=true):ia X (.builtin "all") (fun p H Q=>∃(l:Addr) (bs:List Bool),p=[.ref l]/\H l=some (.lst (bs.map V.bl))/\Q (.bl (bs.all id)) H):=by
 intro y s Y H p U Q I r h;obtain⟨l,bs,rfl,G,q⟩:=h;obtain⟨u,rfl,ru⟩:=dj r;cases ru;obtain⟨z,d,n,B,e⟩:=I.hok _ _ G;have L:s.heap.IsList l d.toArray:=⟨_,e,rfl,_,rfl⟩
 have f:l<s.heap.objs.size:=bw e;have len:=B.length;rw[List.length_map] at len;refine call_all_walk (wpAny_pyIter_list L ?_);refine⟨s.heap.objs.size,_,_,_,_,_,fun i=>bs.getD i true,rfl,Walks.list (A:=X.A.in1) (show X.A.in1.handled=none from I.ok.hd E) s.heap.objs.size l (Nat.ne_of_lt f) d.toArray,⟨⟨_,Heap.get?_push_size _ rfl,rfl,rfl⟩,L.push _⟩,?_,fun Z tk J=>?_⟩
 ·intro i v M N E' O k;have g:d[i]? = some v:=by simpa using O
  have f:i<bs.length:=by rw[len];exact(List.getElem?_eq_some_iff.mp g).1
  obtain⟨w,C,m⟩:=B.get (i:=i) (x:=.bl bs[i]) (by rw[List.getElem?_map,List.getElem?_eq_getElem f];rfl);rw[g] at C;cases C;cases m;refine wpAny_truthy_bool ?_;have:bs.getD i true=bs[i]:=by simp[List.getD,f]
  have k:N (bs.getD i true) M:=k;rw[this] at k;exact k
 ·have R:(List.range d.toArray.size).all (fun i=>bs.getD i true)=bs.all id:=by
   rw[List.size_toArray,<-len];rw[Bool.eq_iff_iff,List.all_eq_true,List.all_eq_true];constructor
   ·intro h b T;obtain⟨i,g,rfl⟩:=List.getElem_of_mem T;have:=h i (List.mem_range.mpr g);simpa[List.getD,g] using this
   ·intro h i g;have j:=List.mem_range.mp g;have:=h bs[i] (List.getElem_mem j);simpa[List.getD,j] using this
  rw[R];exact⟨.bl (bs.all id),H,I.kept fun b o D=>J b o (fun S=>absurd (bw D) (by rw[List.mem_singleton.mp S];exact Nat.lt_irrefl _)) (bn _ D),rfl,q⟩
end
end L2
namespace L2.L3
open PySem PySem.Spec PyProof.Rows
noncomputable def AW:DN:=fun b Q=>∃a,(b=[.list a]\/b=[.tuple a])/\Q (.int a.length)
theorem iD{K:Frag}:jJ (fun xs H Q=>∃p ys,xs=[.ref p]/\(cU K H p ys\/gf K H p ys)/\Q (.int ys.length) H) AW where
 mn:=fun _ _ _ k ⟨ds,e,q⟩=>⟨ds,e,k _ q⟩
 ok:=fun O H vs xs Q hO hd ⟨ds,e,q⟩=>by
  rcases e with rfl | rfl
  ·cases hd with
   | cons d r=>cases r;obtain⟨a,ys,rfl,ha,hy⟩:=d.lst_inv;exact⟨a,ys,rfl,.inl (.of (cW ha).1),by rw[hy.length];exact q _ H (fun _ _ h=>h) (.int _)⟩
  ·cases hd with
   | cons d r=>cases r;obtain⟨a,ys,rfl,ha,hy⟩:=d.tup_inv;exact⟨a,ys,rfl,.inr (.inl (jH ha).1),by rw[hy.length];exact q _ H (fun _ _ h=>h) (.int _)⟩
theorem wb{H:Hp}{c:List V}{a b:PyData}(h:aK H c [a,b]):∃x y,c=[x,y]/\DV H x a/\DV H y b:=by cases h with | cons d r=>cases r with | cons e r=>cases r;exact⟨_,_,rfl,d,e⟩
theorem jM{H:Hp}{b:List V}{a:PyData}(h:aK H b [a]):∃x,b=[x]/\DV H x a:=by cases h with | cons d r=>cases r;exact⟨_,rfl,d⟩
theorem wc{H:Hp}{f:List V}{a b c:PyData}(h:aK H f [a,b,c]):∃x y z,f=[x,y,z]/\DV H x a/\DV H y b/\DV H z c:=by cases h with | cons d r=>cases r with | cons g r=>cases r with | cons e r=>cases r;exact⟨_,_,_,rfl,d,g,e⟩
noncomputable def AY:DN:=fun a Q=>∃i j:Int,a=[.int i,.int j]/\Q (.int (max i j))
theorem we:jJ (fun xs H Q=>∃i j,xs=[.int i,.int j]/\Q (.int (if j>i then j else i)) H) AY where
 mn:=fun _ _ _ k ⟨i,j,e,q⟩=>⟨i,j,e,k _ q⟩
 ok:=fun O H vs xs Q hO hd ⟨i,j,e,q⟩=>by
  subst e;obtain⟨x,y,rfl,h1,h2⟩:=wb hd;have e:(if j>i then j else i)=max i j:=by split<;>omega
  exact⟨i,j,by rw[h1.int_inv,h2.int_inv],by rw[e];exact q _ H (fun _ _ h=>h) (.int _)⟩
noncomputable def AZ:DN:=fun b Q=>(∃a,b=[.list a]/\Q (.tuple a))\/∃a,b=[.tuple a]/\Q (.tuple a)
theorem Ba{K:Frag}:jJ (fun xs H Q=>∃p ys,xs=[.ref p]/\((cU K H p ys/\∀l,H l=none->Q (.ref l) (aQ H l (.tup ys)))\/(gf K H p ys/\Q (.ref p) H))) AZ where
 mn:=fun _ _ _ k q=>q.imp (fun⟨i,e,q⟩=>⟨i,e,k _ q⟩) fun⟨i,e,q⟩=>⟨i,e,k _ q⟩
 ok:=fun O H vs xs Q hO hd q=>by
  rcases q with⟨ds,e,q⟩ | ⟨ds,e,q⟩
  ·subst e;obtain⟨x,rfl,h1⟩:=jM hd;obtain⟨a,ys,rfl,ha,hy⟩:=h1.lst_inv;exact⟨a,ys,rfl,.inl ⟨.of (cW ha).1,fun p hp=>q _ _ (bX hp) (kr hp (hO p hp) hy)⟩⟩
  ·subst e;obtain⟨x,rfl,h1⟩:=jM hd;obtain⟨a,ys,e,ha,hy⟩:=h1.tup_inv;subst e;exact⟨a,ys,rfl,.inr ⟨.inl (jH ha).1,q _ H (fun _ _ h=>h) h1⟩⟩
noncomputable def Bb:DN:=fun a Q=>∃bs:List Bool,a=[.list (bs.map .bool)]/\Q (.bool (bs.all id))
theorem Bc{H:Hp}:∀{bs:List Bool}{a:List V},aK H a (bs.map PyData.bool)->a=bs.map V.bl
 | [],_,h=>by cases h;rfl
 | b::r,_,h=>by
  cases h with
  | cons d q=>rw[d.bl_inv,Bc q];rfl
theorem Lu:jJ (fun xs H Q=>∃(l:Addr) (bs:List Bool),xs=[.ref l]/\H l=some (.lst (bs.map V.bl))/\Q (.bl (bs.all id)) H) Bb where
 mn:=fun _ _ _ k ⟨bs,e,q⟩=>⟨bs,e,k _ q⟩
 ok:=fun O H vs xs Q hO hd ⟨bs,e,q⟩=>by subst e;obtain⟨x,rfl,h1⟩:=jM hd;obtain⟨a,ys,rfl,ha,hy⟩:=h1.lst_inv;exact⟨a,bs,rfl,by rw[(cW ha).1,Bc hy],q _ H (fun _ _ h=>h) (.bl _)⟩
noncomputable def oH(as bs a:List PyData):List PyData:=(as.zip (bs.zip a)).map fun q=>PyData.tuple [q.1,q.2.1,q.2.2]
noncomputable def Be(t:eg):DT:=fun U Q=>t U fun c b=>∃as bs a,c=[.list as,.list bs,.list a]/\bs.length=as.length/\a.length=as.length/\0<as.length/\Q (.list (oH as bs a)) b
theorem Bf:∀{H:Hp}{a:List V}{b:List PyData},a.length=b.length->(∀(i:Nat) v d,a[i]? = some v->b[i]? = some d->DV H v d)->aK H a b
 | _,[],[],_,_=>.nil
 | _,[],_::_,e,_=>by cases e
 | _,_::_,[],e,_=>by cases e
 | H,v::a,d::b,e,h=>.cons (h 0 v d rfl rfl) (Bf (by simpa using e) fun i c f g j=>h (i+1) c f (by simpa using g) (by simpa using j))
section
variable{X:Cx}{F:Fx}{a b c e:Expr}{te:DT}{tA:eg}{pos p1 p2 pos2:Pos}
theorem Lv(T:X.calm=true)(o:Gl X "list")(r:X.mg "list" = none)(s:Gl X "zip")(t:X.mg "zip" = none)(u:DA X F [a,b,c] tA)
  (Z:starEach [.Call (.Name "zip" p2) [a,b,c] [] pos2] X.env=[(false,eval (.Call (.Name "zip" p2) [a,b,c] [] pos2) X.env)]:=by rfl)
  (hs:starEach [a,b,c] X.env=(false,eval a X.env)::starEach [b,c] X.env:=by rfl) (w:(backTo pos2 (starEach [b,c] X.env)).any (·.1)=false:=by rfl) :
  DE X F (.Call (.Name "list" p1) [.Call (.Name "zip" p2) [a,b,c] [] pos2] [] pos) (Be tA):=
 ⟨fun _ _ _ k q=>u.mn _ _ _ (fun _ _ ⟨x,y,z,e,h1,h2,h3,q⟩=>⟨x,y,z,e,h1,h2,h3,k _ _ q⟩) q,(Lr T o r s t u.pa Z hs w).imp fun Y H Q ⟨U,O,st,q⟩=>
  ⟨U,O,st,u.mn _ _ _ (fun ds U1 ⟨as,bs,cs,e,l1,l2,l3,q1⟩ vs H1 A g s1 B=>by
   subst e;obtain⟨x,y,z,rfl,h1,h2,h3⟩:=wc B;obtain⟨a1,xs,rfl,C,h⟩:=h1.lst_inv;obtain⟨a2,ys,rfl,D,L⟩:=h2.lst_inv;obtain⟨a3,zs,rfl,E,M⟩:=h3.lst_inv;refine⟨a1,a2,a3,xs,ys,zs,rfl,(cW C).1,(cW D).1,(cW E).1,by rw[h.length,L.length];exact l1,by rw[h.length,M.length];exact l2,by rw[h.length];exact l3,fun p H2 qs G hp I hl j=>?_⟩;have N:∀b,H1 b=none->b∉A:=g.nofree;refine q1 _ H2 A (g.grow G) (s1.trans (.same G)) (.lst (ie I (N p hp)) (Bf ?_ fun i v d R J=>?_))
   ·unfold oH;rw[List.length_map,List.length_map,List.length_zip,List.length_zip,hl,h.length];omega
   ·rw[List.getElem?_map] at R;obtain⟨S,e3,e4⟩:=Option.map_eq_some_iff.mp R;subst e4;obtain⟨x,y,z,g1,g2,g3,g4,g5⟩:=j i S e3;unfold oH at J;rw[List.getElem?_map] at J;obtain⟨⟨d0,B,d2⟩,e5,e6⟩:=Option.map_eq_some_iff.mp J;subst e6;obtain⟨e7,e8⟩:=List.getElem?_zip_eq_some.mp e5;obtain⟨e9,dA⟩:=List.getElem?_zip_eq_some.mp e8;obtain⟨dx,k1,k2⟩:=h.get' g1;obtain⟨dy,k3,k4⟩:=L.get' g2;obtain⟨dz,k5,k6⟩:=M.get' g3;have l:as[i]? = some d0:=e7;have n:bs[i]? = some B:=e9;have f:cs[i]? = some d2:=dA;rw[k1] at l;rw[k3] at n;rw[k5] at f;cases l;cases n;cases f;have m:=kl (O:=A) G;exact .tup (.inl (ie g5 (N S g4))) (.cons (DV.mono m k2) (.cons (DV.mono m k4) (.cons (DV.mono m k6) .nil)))) q⟩⟩
noncomputable def Bg(te:DT)(k:Nat):DT:=fun U Q=>te U fun d g=>∃f,d=.list f/\Q (.list (f.drop k)) g
theorem Lw{k j:Nat}{x n:Pos}(l:DE X F e te):DE X F (.Subscript e (.Slice (some (.Constant (.int (k:Int)) j x)) none none n) pos) (Bg te k):=
 ⟨fun _ _ _ k q=>l.mn _ _ _ (fun _ _ ⟨m,e,q⟩=>⟨m,e,k _ _ q⟩) q,(HZ Il l.pe (HX vc) HW).imp fun Y H Q ⟨U,O,st,q⟩=>
  ⟨U,O,st,l.mn _ _ _ (fun d y ⟨m,e,o⟩ v z r f s t=>by
   subst e;obtain⟨a,g,rfl,u,w⟩:=t.lst_inv;refine⟨(k:Int),rfl,a,g,rfl,.of (cW u).1,fun p i=>o _ _ r (f.grow (bX i)) (s.trans (.same (bX i))) (kq i (f.nofree p i) ?_)⟩;have:mI g (some (k:Int)) none=g.drop k:=by
    unfold mI;rw[HT.sIx_none,HT.sIx_nat]
    by_cases h:k<=g.length
    ·rw[Nat.min_eq_left h,List.take_of_length_le (by rw[List.length_drop];exact bI _)]
    ·rw[Nat.min_eq_right (by omega),List.drop_of_length_le (bI _),List.drop_of_length_le (by omega)];simp
   rw[this];exact w.drop k) q⟩⟩
end
section
variable{X:Cx}{F:Fx}{a b c e:Expr}{te:DT}{tA:eg}{pos p p1 p2 pos2:Pos}{x:Str}{i:Nat}
noncomputable def Bh(i:Nat):DT:=fun U Q=>∃d,U[i]? = some (some (.scr d))/\(d.length<=63->Q (.int d.length) U)
theorem Bi(l:Gl X "len")(m:X.mg "len" = none)(h:PE X (.Name x p1) (bS i))(g:starEach [.Name x p1] X.env=(false,eval (.Name x p1) X.env)::starEach [] X.env:=by rfl)(d:(backTo pos (starEach [] X.env)).any (·.1)=false:=by rfl) :
  DE X F (.Call (.Name "len" p) [.Name x p1] [] pos) (Bh i):=
 ⟨fun _ _ _ k ⟨f,e,q⟩=>⟨f,e,fun h=>k _ _ (q h)⟩,(mH gE l m PySem.boot_len (df h ed g) (by decide) (by decide) g d).imp fun Y H Q ⟨U,O,st,f,e,q⟩=>by
  obtain⟨o,n,j⟩:=st.scr e;refine⟨_,n,o,f.map V.int,rfl,.inl j.sq,?_⟩;rw[List.length_map];exact q j.1 _ H O st .refl (.int _)⟩
noncomputable def Bj(i:Nat)(te:DT):DT:=fun U Q=>∃f,U[i]? = some (some (.scr f))/\te U fun d g=>∃k n,d=.int k/\bT f k=some n/\Q (.int n) g
theorem Lx{α β:Type}{g:α->β}{l:List α}{k:Int}{n:α}(h:bT l k=some n):bT (l.map g) k=some (g n):=by
 unfold bT at h ⊢;rw[List.length_map];cases q:dG l.length k with
 | none=>rw[q] at h;cases h
 | some j=>rw[q] at h;show(l.map g)[j]? = some (g n);rw[List.getElem?_map];have h:l[j]? = some n:=h;rw[h];rfl
theorem Bk(h:PE X (.Name x p1) (bS i))(g:DE X F e te)(j:ot e):DE X F (.Subscript (.Name x p1) e pos) (Bj i te):=
 ⟨fun _ _ _ k ⟨f,e,q⟩=>⟨f,e,g.mn _ _ _ (fun _ _ ⟨B,n,l,r,q⟩=>⟨B,n,l,r,k _ _ q⟩) q⟩,(vu vB h g.pe j).imp fun Y H Q ⟨U,O,st,f,e,q⟩=>by
  obtain⟨A,C,j⟩:=st.scr e;refine⟨_,C,U,O,st,g.mn _ _ _ (fun d I ⟨k,n,l,r,D⟩ w v E s y G=>?_) q⟩;subst l;have t:iY X.K v A f:=j.mono fun o u q=>y.keep _ _ (fun z=>by obtain⟨J,e,m⟩:=st.live _ z;rw[q] at e;cases e;exact m) q;exact⟨A,f.map V.int,k,.int n,rfl,G.int_inv,t.sq,Lx r,D _ v E s y (.int _)⟩⟩
noncomputable def Lz(K:Frag):R2:=fun x y H Q=>∃a b d,x=.ref a/\y=.ref b/\cU K H a (d.map V.int)/\H b=some (.lst [])/\Q (.bl (decide (d=[]))) H
theorem Bl{h:Heap}:∀{d:List Int}{f:List Value},bq (d.map V.int) f->∃as,ReadsAll h f (d.map PyData.int) as
 | [],_,r=>by cases r;exact⟨_,.nil⟩
 | n::d,_,r=>by
  cases r with
  | cons g r=>obtain⟨t,rfl⟩:=g;obtain⟨as,q⟩:=Bl r;exact⟨_,.cons (.int n t) q⟩
theorem LA(l:X.A.units+64<cLine):cV X (compareOp .Eq) (Lz X.K):=by
 intro g s Y H x y v u Q I m t h;obtain⟨a,b,d,rfl,rfl,h1,h2,q⟩:=h;cases m;cases t;obtain⟨w,z,⟨o,n,e,B,_,C⟩,L⟩:=I.list h1;obtain⟨_,j,M,f,D⟩:=I.hok _ _ h2;cases f;obtain⟨as,E⟩:=Bl (h:=s.heap) z;have G:PyData.eqv (.list (d.map .int)) (.list [])=decide (d=[]):=by cases d<;>rfl
 refine eq_dataH (reads_list_at e B C (by simpa using E)) (reads_list_at (xs:=[]) D rfl rfl .nil) ?_ (by decide) l (by rw[G];exact⟨.bl _,H,I,rfl,q⟩);unfold SeqAt.shaped;have J:PyData.canLay0 (.list (d.map .int))=true:=by
  have:∀d:List Int,PyData.canLayAll0 (d.map .int)=true:=fun d=>by
   induction d with
   | nil=>rfl
   | cons n r k=>rw[List.map_cons];simp only[PyData.canLayAll0,PyData.canLay0,k,Bool.and_self]
  simp only[PyData.canLay0,this]
 have dp:PyData.depth (.list (d.map .int))<=64:=by
  have:∀d:List Int,PyData.depthAll (d.map .int)<=1:=fun d=>by
   induction d with
   | nil=>simp[PyData.depthAll]
   | cons n r k=>rw[List.map_cons];simp only[PyData.depthAll,PyData.depth];omega
  have:=this d;simp only[PyData.depth];omega
 rw[J,Bool.true_and];exact decide_eq_true dp
noncomputable def Bm(i:Nat):cG:=fun U Q=>∃d,U[i]? = some (some (.scr d))/\Q (decide (d=[])) U
theorem LB{g:Pos}(j:X.A.units+64<cLine)(h:PE X (.Name x p1) (bS i)):DB X F (.Compare (.Name x p1) [.Eq] [.List [] g] pos) (Bm i):=
 ⟨fun _ _ _ k ⟨f,e,q⟩=>⟨f,e,k _ _ q⟩,(zv (LA j) h (qJ ed) (bD _)).imp fun Y H Q ⟨U,O,st,f,e,q⟩=>by
  obtain⟨n,l,m⟩:=st.scr e;refine⟨_,l,Nat.zero_le _,fun p d=>⟨n,p,f,rfl,rfl,(bX d).seq m.sq,cF,_,rfl,q _ O (st.grow (bX d)) (.same (bX d))⟩⟩⟩
end
structure FD (K:Frag) (mg:Str->Option Value) (x:Str) (st:Stmt) (ps:List Str) (g:Addr) (fd:FuncData):Prop where
 fn:lG K x x st g fd
 mgf:mg x=some (.ref g)
 b:ic K fd ps []
section
variable{X:Cx}{scope:Scope}{own capN:List Str}{caps:List Nat}
theorem ag.of(h1:scope.kind=.function:=by rfl)(h2:(scope.names.all fun y=>scope.names.lookup y.1==some y.2)=true:=by rfl)
  (h3:(scope.names.all fun y=>y.2 != .free||(X.env.kindOf y.1==some .cell||X.env.kindOf y.1==some .free))=true:=by rfl)
  (h4:(scope.names.all fun y=>y.2 != .local||scope.names.lookup y.1==some .local)=true:=by rfl) (h5:caps.map (fun j=>X.N[j]?)=capN.map some:=by rfl)
  (h6:(capN.all fun x=>scope.names.lookup x==some .free)=true:=by rfl):ag X scope own capN caps where
 kind:=h1
 one:=fun y hy=>eq_of_beq (List.all_eq_true.mp h2 y hy)
 free:=fun y hy e=>by
  have:=List.all_eq_true.mp h3 y hy;rw[e] at this;rw[Bool.or_eq_true] at this;rcases this with z | z
  ·exact absurd z (by decide)
  ·rw[Bool.or_eq_true] at z;exact z.imp (fun z=>eq_of_beq z) fun z=>eq_of_beq z
 loc:=fun y hy e=>by
  have:=List.all_eq_true.mp h4 y hy;rw[e] at this;rw[Bool.or_eq_true] at this;rcases this with z | z
  ·exact absurd z (by decide)
  ·exact eq_of_beq z
 caps:=h5
 capf:=fun x hx=>eq_of_beq (List.all_eq_true.mp h6 x hx)
end
section
variable{X:Cx}{F:Fx}{a b c e:Expr}{ta tb tc:DT}{pos:Pos}
noncomputable abbrev qI(g:Int->Int->Int):D2:=fI (fun _ _=>True) fun i j=>.int (g i j)
noncomputable abbrev qB(g:Int->Int->Bool):D2:=fI (fun _ _=>True) fun i j=>.bool (g i j)
theorem LC(d:DE X F a ta)(f:DE X F b tb):DE X F (.BinOp a .Add b pos) (dg (qI fun i j=>i+j) ta tb):=lI Hd (ko fun _ _ _=>.int _) d f
theorem LD(d:DE X F a ta)(f:DE X F b tb):DE X F (.BinOp a .Sub b pos) (dg (qI fun i j=>i - j) ta tb):=lI He (ko fun _ _ _=>.int _) d f
theorem LF(d:DE X F a ta)(f:DE X F b tb):DE X F (.BinOp a .Mult b pos) (dg (fI oo fun i j=>.int (i * j)) ta tb):=lI Hf (vO fun _ _ _=>.int _) d f
theorem LG(d:DE X F a ta)(f:DE X F b tb):DE X F (.BinOp a .FloorDiv b pos) (dg (fI vn fun i j=>.int (i / j)) ta tb):=lI Hg (vO fun _ _ _=>.int _) d f
theorem LH(d:DE X F a ta)(f:DE X F b tb):DE X F (.BinOp a .Mod b pos) (dg (fI (fun _ j=>0<j) fun i j=>.int (i % j)) ta tb):=lI Hh (vO fun _ _ _=>.int _) d f
theorem LI(d:DE X F a ta)(f:DE X F b tb):DE X F (.BinOp a .Add b pos) (dg vR ta tb):=lI Ix JB d f
theorem LJ(d:DE X F a ta)(f:DE X F b tb):DE X F (.Compare a [.Lt] [b] pos) (dg (qB fun i j=>decide (i<j)) ta tb):=mM zq (ko fun _ _ _=>.bl _) d f (bD _)
theorem LL(d:DE X F a ta)(f:DE X F b tb):DE X F (.Compare a [.LtE] [b] pos) (dg (qB fun i j=>decide (i<=j)) ta tb):=mM qE (ko fun _ _ _=>.bl _) d f (bD _)
theorem LM(d:DE X F a ta)(f:DE X F b tb):DE X F (.Compare a [.Gt] [b] pos) (dg (qB fun i j=>decide (j<i)) ta tb):=mM zr (ko fun _ _ _=>.bl _) d f (bD _)
theorem LN(d:DE X F a ta)(f:DE X F b tb):DB X F (.Compare a [.Lt] [b] pos) (fT (dg (qB fun i j=>decide (i<j)) ta tb)):=lJ zq (ko fun _ _ _=>.bl _) d f (bD _)
theorem LO(d:DE X F a ta)(f:DE X F b tb):DB X F (.Compare a [.LtE] [b] pos) (fT (dg (qB fun i j=>decide (i<=j)) ta tb)):=lJ qE (ko fun _ _ _=>.bl _) d f (bD _)
theorem LP(d:DE X F a ta)(f:DE X F b tb):DB X F (.Compare a [.Gt] [b] pos) (fT (dg (qB fun i j=>decide (j<i)) ta tb)):=lJ zr (ko fun _ _ _=>.bl _) d f (bD _)
theorem LQ(d:X.A.units+64<cLine)(f:DE X F a ta)(g:DE X F b tb):DE X F (.Compare a [.Eq] [b] pos) (dg (oA false) ta tb):=mM (An d) vP f g (bD _)
theorem LR(d:X.A.units+64<cLine)(f:DE X F a ta)(g:DE X F b tb):DB X F (.Compare a [.Eq] [b] pos) (fT (dg (oA false) ta tb)):=lJ (An d) vP f g (bD _)
theorem LS(d:X.A.units+64<cLine)(f:DE X F a ta)(g:DE X F b tb):DB X F (.Compare a [.NotEq] [b] pos) (fT (dg (oA true) ta tb)):=lJ (Jr d) vP f g (bD _)
theorem LU(d:DE X F a ta)(f:DE X F b tb):DE X F (.Compare a [.Is] [b] pos) (dg rb ta tb):=mM zt As d f (bD _)
theorem LV(d:DE X F a ta)(f:DE X F b tb):DB X F (.Compare a [.Is] [b] pos) (fT (dg rb ta tb)):=lJ zt As d f (bD _)
theorem LW(d:DE X F a ta)(f:DE X F b tb):DB X F (.Compare a [.IsNot] [b] pos) (fT (dg vQ ta tb)):=lJ zu At d f (bD _)
theorem LX(d:DE X F a ta)(h:DE X F b tb)(f:DE X F c tc)(g:lastMarks [.LtE,.LtE] [b,c]=false:=by with_unfolding_all rfl):DE X F (.Compare a [.LtE,.LtE] [b,c] pos) (vS (fun i j=>decide (i<=j)) (fun i j=>decide (i<=j)) ta tb tc):=JT qE qE d h f g
theorem dI{x:Str}{i:Int}{t:Tok}(d:Gl X x)(f:X.mg x=some (.int i t))(hd:(x==("__debug__":Str))=false:=by decide):DE X F (.Name x pos) (dC (.int i)):=oy (v:=.int i) (zk d f ⟨t,rfl⟩ hd) fun _=>.int i
mutual
theorem Bn:∀(d:PyData),d.canLay0=true->PyData.eqv d d=true
 | .none,_=>rfl
 | .bool b,_=>by simp[PyData.eqv]
 | .int i,_=>by simp[PyData.eqv]
 | .str s,_=>by simp[PyData.eqv]
 | .list xs,h=>by rw[PyData.eqv];exact wg xs (by simpa[PyData.canLay0] using h)
 | .tuple xs,h=>by rw[PyData.eqv];exact wg xs (by simpa[PyData.canLay0] using h)
 | .dict kvs,h=>by simp[PyData.canLay0] at h
theorem wg:∀(ds:List PyData),PyData.canLayAll0 ds=true->PyData.eqvAll ds ds=true
 | [],_=>rfl
 | x::xs,h=>by simp only[PyData.canLayAll0,Bool.and_eq_true] at h;rw[PyData.eqvAll,Bn x h.1,wg xs h.2];rfl
end
theorem Bo{d:PyData}(h:SeqAt.shaped d=true):PyData.eqv d d=true:=Bn d (SeqAt.canLay_of_shaped h)
end
section
variable{X:Cx}{F:Fx}{a b:Expr}{ta tb:DT}{pos:Pos}{q:PyData->Prop}
theorem Bp{H:Hp}:∀{e:List Int}{c:List V},aK H c (e.map PyData.int)->c=e.map V.int
 | [],_,h=>by cases h;rfl
 | b::r,_,h=>by
  cases h with
  | cons d q=>rw[d.int_inv,Bp q];rfl
end
section
variable{X:Cx}{F:Fx}{a b:Expr}{ta tb:DT}{pos:Pos}{q:PyData->Prop}
noncomputable def wh:D2:=fun x y Q=>∃c k,x=.list c/\y=.int k/\(-(2 ^ 63)<=k/\k<2 ^ 63/\c.length * k.toNat<=sizeLine)/\Q (.list (List.replicate k.toNat c).flatten)
theorem Bq{H:Hp}{c:List V}{d:List PyData}(r:aK H c d):∀k:Nat,aK H (List.replicate k c).flatten (List.replicate k d).flatten
 | 0=>.nil
 | k+1=>by rw[List.replicate_succ,List.replicate_succ,List.flatten_cons,List.flatten_cons];exact r.append (Bq r k)
theorem LY:fA Aa wh where
 mn:=fun _ _ _ _ k ⟨ds,n,e1,e2,e3,q⟩=>⟨ds,n,e1,e2,e3,k _ q⟩
 ok:=fun O H u v x y Q hO h1 h2 ⟨ds,k,e1,e2,⟨e3,e4,e5⟩,q⟩=>by subst e1 e2;obtain⟨a,xs,rfl,ha,hd⟩:=h1.lst_inv;refine⟨a,k,xs,rfl,h2.int_inv,(cW ha).1,e3,e4,by rw[hd.length];exact e5,fun p hp=>q _ _ (bX hp) (kq hp (hO p hp) (Bq hd _))⟩
theorem LZ(c:DE X F a ta)(d:DE X F b tb):DE X F (.BinOp a .Mult b pos) (dg wh ta tb):=lI Iz LY c d
end
end L2.L3
namespace L2
open PySem PySem.Spec PyProof.Rows
section
variable{X:Cx}
noncomputable def Br:List V->Hp->VK->Prop:=fun c H Q=>∃(l:Addr) (b:List Int),c=[.ref l]/\H l=some (.lst (b.map V.int))/\b≠[]/\∀M,M∈b->(∀a,a∈b->a<=M)->Q (.int M) H
theorem Ma(J:X.calm=true):ia X (.builtin "max") Br:=by
 intro y s Y H Z us Q I r h;obtain⟨l,ns,rfl,M,f,q⟩:=h;obtain⟨u,rfl,ru⟩:=dj r;cases ru;obtain⟨z,d,n,B,e⟩:=I.hok _ _ M;have L:s.heap.IsList l d.toArray:=⟨_,e,rfl,_,rfl⟩
 have c:l<s.heap.objs.size:=bw e;have len:=B.length;rw[List.length_map] at len;have N:0<ns.length:=List.length_pos_iff.mpr f;have at_:∀(i:Nat) (v:Value),d.toArray[i]? = some v->∃t,v=.int (ns.getD i 0) t:=by
  intro i v O;have C:d[i]? = some v:=by simpa using O
  have c:i<ns.length:=by rw[len];exact(List.getElem?_eq_some_iff.mp C).1
  obtain⟨w,D,g⟩:=B.get (i:=i) (x:=.int ns[i]) (by rw[List.getElem?_map,List.getElem?_eq_getElem c];rfl);rw[C] at D;cases D;cases g;rename_i k m;refine⟨k,m.trans ?_⟩
  congr 1
  simp[List.getD,c]
 refine call_max_walk (wpAny_pyIter_list L ?_);refine⟨s.heap.objs.size,_,_,_,_,_,_,rfl,Walks.list (A:=X.A.in1) (show X.A.in1.handled=none from I.ok.hd J) s.heap.objs.size l (Nat.ne_of_lt c) d.toArray,⟨⟨_,Heap.get?_push_size _ rfl,rfl,rfl⟩,L.push _⟩,?_,?_,CmpOf.ints_gt (fun i=>ns.getD i 0) at_,fun v h' tk E R=>?_⟩
 ·intro b p;rcases List.mem_cons.mp p with rfl | p
  ·show _<(s.heap.push _).objs.size;rw[Heap.size_push];exact Nat.lt_succ_self _
  ·rw[List.mem_singleton.mp p];show _<(s.heap.push _).objs.size;rw[Heap.size_push];exact Nat.lt_succ_of_lt c
 ·rw[List.size_toArray,<-len];exact N
 ·rw[List.size_toArray,<-len] at E;obtain⟨t,rfl⟩:=at_ _ _ E;obtain⟨h1,h2⟩:=argBest_gt (fun i=>ns.getD i 0) (ns.length - 1);refine⟨.int _,H,I.kept fun b o G=>R b o (fun S=>absurd (bw G) (by rw[List.mem_singleton.mp S];exact Nat.lt_irrefl _)) (bn _ G),⟨_,rfl⟩,q _ ?_ fun a T=>?_⟩
  ·rw[PySem.getD_at (by omega)];exact List.getElem_mem _
  ·obtain⟨j,U,rfl⟩:=List.getElem_of_mem T;have:=h2 j (by omega);simp only[PySem.getD_at U] at this;exact this
end
end L2
namespace L2.L3
open PySem PySem.Spec PyProof.Rows
section
variable{q:PyData->Prop}
noncomputable def Bs:DN:=fun c Q=>∃b:List Int,c=[.list (b.map .int)]/\b≠[]/\∀M,M∈b->(∀a,a∈b->a<=M)->Q (.int M)
theorem Mb:jJ Br Bs where
 mn:=fun _ _ _ k ⟨bs,e,h,q⟩=>⟨bs,e,h,fun M h1 h2=>k _ (q M h1 h2)⟩
 ok:=fun O H vs xs Q hO hd ⟨ns,e,h,q⟩=>by subst e;obtain⟨x,rfl,h1⟩:=jM hd;obtain⟨a,ys,rfl,ha,hy⟩:=h1.lst_inv;exact⟨a,ns,rfl,by rw[(cW ha).1,Bp hy],h,fun M h1 h2=>q M h1 h2 _ H (fun _ _ h=>h) (.int _)⟩
end
inductive fV (α:Type) where
 | ok (a:α) (U:ao) | ex (c:Str) (U:ao) | bad
@[simp] noncomputable def fV.bind{α β:Type}(o:fV α)(k:α->ao->fV β):fV β:=match o with
 | .ok a U=>k a U
 | .ex c U=>.ex c U
 | .bad=>.bad
@[simp] noncomputable def lift{α:Type}(o:Option α)(U:ao):fV α:=match o with
 | some a=>.ok a U
 | none=>.bad
noncomputable abbrev XM(α:Type):=ao->fV α
noncomputable def wp{α:Type}(E:Str->ao->Prop)(m:XM α):ao->(α->ao->Prop)->Prop:=fun U Q=>match m U with
 | .ok a b=>Q a b
 | .ex c b=>E c b
 | .bad=>False
section
variable{α β:Type}{E:Str->ao->Prop}
theorem aL{m:XM α}:∀U (Q e:α->ao->Prop),(∀d b,Q d b->e d b)->wp E m U Q->wp E m U e:=fun U Q e k q=>by
 unfold wp at q ⊢;generalize m U=o at q ⊢;cases o with
 | ok a b=>exact k _ _ q
 | ex c b=>exact q
 | bad=>exact q
theorem cg{m:XM α}{k:α->XM β}{U:ao}{Q:β->ao->Prop}(h:wp E (fun U=>(m U).bind k) U Q):wp E m U fun a b=>wp E (k a) b Q:=by
 unfold wp at h ⊢;unfold fV.bind at h;simp only at h;generalize m U=o at h ⊢;cases o with
 | ok a b=>exact h
 | ex c b=>exact h
 | bad=>exact h
theorem dm{o:Option α}{U:ao}{Q:α->ao->Prop}(h:wp E (lift o) U Q):∃a,o=some a/\Q a U:=by
 unfold wp lift at h;cases o with
 | some a=>exact⟨a,rfl,h⟩
 | none=>exact h.elim
end
section
variable{X:Cx}{F:Fx}{E:Str->ao->Prop}{e a b c:Expr}{es:List Expr}{pos:Pos}
theorem DE.imp{t t':DT}(h:DE X F e t)(d:Mn t')(k:∀U Q,t' U Q->t U Q):DE X F e t':=⟨d,h.pe.imp fun Y H Q ⟨U,O,st,q⟩=>⟨U,O,st,k U _ q⟩⟩
theorem DO.imp{t t':ig}(h:DO X F e t)(d:AL t')(k:∀U Q,t' U Q->t U Q):DO X F e t':=⟨d,h.pe.imp fun Y H Q ⟨U,O,st,q⟩=>⟨U,O,st,k U _ q⟩⟩
theorem DA.imp{t t':eg}(h:DA X F es t)(d:rc t')(k:∀U Q,t' U Q->t U Q):DA X F es t':=⟨d,h.pa.imp fun Y H Q ⟨U,O,st,q⟩=>⟨U,O,st,k U _ q⟩⟩
theorem DX.imp{t t':gK}(h:DX X F es t)(d:AQ t')(k:∀U Q,t' U Q->t U Q):DX X F es t':=⟨d,h.pa.imp fun Y H Q ⟨U,O,st,q⟩=>⟨U,O,st,k U _ q⟩⟩
theorem DB.imp{t t':cG}(h:DB X F e t)(d:jd t')(k:∀U Q,t' U Q->t U Q):DB X F e t':=⟨d,h.pt.imp fun Y H Q ⟨U,O,st,q⟩=>⟨U,O,st,k U _ q⟩⟩
theorem DW.imp{t t':cG}(h:DW X F e t)(d:jd t')(k:∀U Q,t' U Q->t U Q):DW X F e t':=⟨d,h.pw.imp fun Y H Q ⟨U,O,st,q⟩=>⟨U,O,st,k U _ q⟩⟩
theorem gG.imp{d:List Stmt}{t t':ei}(h:gG X F d t)(k:∀D U,t' D U->t D U):gG X F d t':=PSs.imp h fun D Y H ⟨U,O,g,st,q,f⟩=>⟨U,O,g,st,k g U q,f⟩
theorem DS.imp{s:Stmt}{t t':ei}(h:DS X F s t)(k:∀D U,t' D U->t D U):DS X F s t':=PS.imp h fun D Y H ⟨U,O,d,st,q,f⟩=>⟨U,O,d,st,k d U q,f⟩
abbrev FE(X:Cx)(F:Fx)(E:Str->ao->Prop)(e:Expr)(m:XM PyData):Prop:=DE X F e (wp E m)
abbrev FO(X:Cx)(F:Fx)(E:Str->ao->Prop)(e:Expr)(m:XM aj):Prop:=DO X F e (wp E m)
abbrev FB(X:Cx)(F:Fx)(E:Str->ao->Prop)(e:Expr)(m:XM Bool):Prop:=DB X F e (wp E m)
abbrev FW(X:Cx)(F:Fx)(E:Str->ao->Prop)(e:Expr)(m:XM Bool):Prop:=DW X F e (wp E m)
abbrev FA(X:Cx)(F:Fx)(E:Str->ao->Prop)(es:List Expr)(m:XM (List PyData)):Prop:=DA X F es (wp E m)
abbrev FX(X:Cx)(F:Fx)(E:Str->ao->Prop)(es:List Expr)(m:XM (List AX)):Prop:=DX X F es (wp E m)
abbrev FI(X:Cx)(F:Fx)(E:Str->ao->Prop)(d iter:Expr)(m:XM (List PyData)):Prop:=DI X F d iter (wp E m)
noncomputable abbrev GM:=PyData->ao->Option ao
noncomputable def ez(g:GM):eh:=fun d U Q=>match g d U with
 | some f=>Q f
 | none=>False
abbrev FG(X:Cx)(F:Fx)(d:Expr)(g:GM):Prop:=DG X F d (ez g)
abbrev FS(X:Cx)(F:Fx)(E:Str->ao->Prop)(s:Stmt)(m:SM):Prop:=DS X F s (cq E m)
abbrev jN(X:Cx)(F:Fx)(E:Str->ao->Prop)(s:List Stmt)(m:SM):Prop:=gG X F s (cq E m)
@[simp] noncomputable def xC(d:PyData):XM PyData:=fun U=>.ok d U
@[simp] noncomputable def xV(i:Nat):XM PyData:=fun U=>match U[i]? with
 | some (some (.dat d))=>.ok d U
 | some (some (.own false (.l ds)))=>.ok (.list ds) (U.set i (some (.dat (.list ds))))
 | _=>.bad
theorem ae{d:PyData}(h:DE X F e (dC d)):FE X F E e (xC d):=h.imp aL fun _ _ q=>q
theorem Mc{i:Nat}(h:DE X F e (dV i)):FE X F E e (xV i):=h.imp aL fun U Q q=>by
 unfold wp xV at q;unfold dV;cases h:U[i]? with
 | none=>rw[h] at q;exact q.elim
 | some o=>
  rw[h] at q;cases o with
  | none=>exact q.elim
  | some c=>
   cases c with
   | dat d=>exact .inl ⟨d,rfl,q⟩
   | scr n=>exact q.elim
   | exc n=>exact q.elim
   | vw n=>exact q.elim
   | own io f=>
    cases io with
    | true=>exact q.elim
    | false=>
     cases f with
     | l ds=>exact .inr ⟨ds,rfl,q⟩
     | m _ _=>exact q.elim
     | o _ _=>exact q.elim
     | sd _=>exact q.elim
     | ll _=>exact q.elim
     | pr _ _ _=>exact q.elim
@[simp] noncomputable def af(g:PyData->PyData->Option PyData)(a b:XM PyData):XM PyData:=fun U=>(a U).bind fun x d=>(b d).bind fun y=>lift (g x y)
def F2(f:D2)(g:PyData->PyData->Option PyData):Prop:=∀x y d Q,g x y=some d->Q d->f x y Q
theorem gq{f:D2}{g:PyData->PyData->Option PyData}{i j:XM PyData}(k:F2 f g)(h:DE X F e (dg f (wp E i) (wp E j))):FE X F E e (af g i j):=h.imp aL fun U Q q=>by refine aL _ _ _ (fun x p l=>?_) (cg q);refine aL _ _ _ (fun y r m=>?_) (cg l);obtain⟨d,n,o⟩:=dm m;exact k x y d _ n o
@[simp] noncomputable def aZ(m:XM PyData):XM Bool:=fun U=>(m U).bind fun d=>lift (match d with | .bool b=>some b | _=>none)
theorem wj{U:ao}{Q:Bool->ao->Prop}{m:XM PyData}(q:wp E (aZ m) U Q):fT (wp E m) U Q:=aL _ _ _ (fun d i g=>by
 obtain⟨b,f,h⟩:=dm g;cases d with
 | bool j=>cases f;exact⟨_,rfl,h⟩
 | _=>cases f) (cg q)
theorem lM{f:D2}{g:PyData->PyData->Option PyData}{i j:XM PyData}(k:F2 f g)(h:DB X F e (fT (dg f (wp E i) (wp E j)))):FB X F E e (aZ (af g i j)):=h.imp aL fun U Q q=>by have l:=wj q;refine aL _ _ _ (fun x r m=>?_) (cg l);refine aL _ _ _ (fun y s n=>?_) (cg m);obtain⟨d,o,p⟩:=dm n;exact k x y d _ o p
theorem dE{m:XM PyData}(h:DB X F e (fT (wp E m))):FB X F E e (aZ m):=h.imp aL fun U Q q=>wj q
@[simp] noncomputable def gI(g:Int->Int->PyData):PyData->PyData->Option PyData:=fun x y=>match x,y with
 | .int i,.int j=>some (g i j)
 | _,_=>none
@[simp] noncomputable def oI(C:Int->Int->Bool)(g:Int->Int->PyData):PyData->PyData->Option PyData:=fun x y=>match x,y with
 | .int i,.int j=>if C i j=true then some (g i j) else none
 | _,_=>none
theorem kz{g:Int->Int->PyData}:F2 (fI (fun _ _=>True) g) (gI g):=fun x y d Q e q=>by
 unfold gI at e;split at e
 ·cases e;exact⟨_,_,rfl,rfl,trivial,q⟩
 ·cases e
theorem wm{C:Int->Int->Bool}{P:Int->Int->Prop}{g:Int->Int->PyData}(h:∀i j,C i j=true->P i j):F2 (fI P g) (oI C g):=fun x y d Q e q=>by
 unfold oI at e;split at e
 ·split at e
  ·rename_i f;cases e;exact⟨_,_,rfl,rfl,h _ _ f,q⟩
  ·cases e
 ·cases e
noncomputable def kA(i j:Int):Bool:=(decide (-(2 ^ 64)<i)&&decide (i<2 ^ 64))||(decide (-(2 ^ 64)<j)&&decide (j<2 ^ 64))
noncomputable def mQ(_ j:Int):Bool:=decide (0<j)&&decide (j<1073741824)
noncomputable def mR(_ j:Int):Bool:=decide (0<j)
theorem Md(i j:Int)(h:kA i j=true):oo i j:=by unfold kA at h;simp only[Bool.or_eq_true,Bool.and_eq_true,decide_eq_true_eq] at h;exact h
theorem Me(i j:Int)(h:mQ i j=true):vn i j:=by unfold mQ at h;simp only[Bool.and_eq_true,decide_eq_true_eq] at h;exact h
theorem Mf(i j:Int)(h:mR i j=true):0<j:=by unfold mR at h;simpa using h
noncomputable def aS(neg:Bool):PyData->PyData->Option PyData:=fun x y=>if (SeqAt.shaped x&&SeqAt.shaped y)=true then some (.bool (PyData.eqv x y != neg)) else none
theorem wn{neg:Bool}:F2 (oA neg) (aS neg):=fun x y d Q e q=>by
 unfold aS at e;split at e
 ·rename_i h;cases e;exact⟨(Bool.and_eq_true_iff.mp h).1,(Bool.and_eq_true_iff.mp h).2,q⟩
 ·cases e
@[simp] noncomputable def jO:PyData->PyData->Option PyData:=fun x y=>match y with | .none=>some (.bool (isNone x)) | _=>none
@[simp] noncomputable def gM:PyData->PyData->Option PyData:=fun x y=>match y with | .none=>some (.bool (!isNone x)) | _=>none
theorem Bt:F2 rb jO:=fun x y d Q e q=>by
 unfold jO at e;split at e
 ·cases e;exact⟨rfl,q⟩
 ·cases e
theorem Bu:F2 vQ gM:=fun x y d Q e q=>by
 unfold gM at e;split at e
 ·cases e;exact⟨rfl,q⟩
 ·cases e
@[simp] noncomputable def mS:PyData->PyData->Option PyData:=fun x y=>match x,y with
 | .list ds,.list es=>if ds.length+es.length<=sizeLine then some (.list (ds++es)) else none
 | _,_=>none
theorem Mg:F2 vR mS:=fun x y d Q e q=>by
 unfold mS at e;split at e
 ·split at e
  ·rename_i h;cases e;exact⟨_,_,rfl,rfl,h,q⟩
  ·cases e
 ·cases e
@[simp] noncomputable def rm:PyData->PyData->Option PyData:=fun x y=>match x,y with
 | .list ds,.int k=>if (decide (-(2 ^ 63)<=k)&&decide (k<2 ^ 63)&&decide (ds.length * k.toNat<=sizeLine))=true then some (.list (List.replicate k.toNat ds).flatten) else none
 | _,_=>none
theorem Mh:F2 wh rm:=fun x y d Q e q=>by
 unfold rm at e;split at e
 ·split at e
  ·rename_i h;cases e;simp only[Bool.and_eq_true,decide_eq_true_eq] at h;exact⟨_,_,rfl,rfl,⟨h.1.1,h.1.2,h.2⟩,q⟩
  ·cases e
 ·cases e
@[simp] noncomputable def wo(a:XM PyData):XM PyData:=fun U=>(a U).bind fun d=>lift (match d with | .int i=>some (.int (-i)) | _=>none)
theorem Bv{f:XM PyData}(h:FE X F E a f):FE X F E (.UnaryOp .USub a pos) (wo f):=(JL h).imp aL fun U Q q=>aL _ _ _ (fun d l j=>by
 obtain⟨y,g,k⟩:=dm j;cases d with
 | int i=>cases g;exact⟨i,rfl,k⟩
 | _=>cases g) (cg q)
@[simp] noncomputable def Bw(a:XM PyData):XM PyData:=fun U=>(a U).bind fun d=>lift (match d with | .bool b=>some (.bool (!b)) | _=>none)
theorem Mi{f:XM PyData}(h:FE X F E a f):FE X F E (.UnaryOp .Not a pos) (Bw f):=(JN h).imp aL fun U Q q=>aL _ _ _ (fun d k i=>by
 obtain⟨y,g,j⟩:=dm i;cases d with
 | bool b=>cases g;exact⟨b,rfl,j⟩
 | _=>cases g) (cg q)
@[simp] noncomputable def By(b:XM PyData)(d:PyData):XM PyData:=fun f=>match d with
 | .bool true=>b f
 | .bool false=>.ok (.bool false) f
 | _=>.bad
@[simp] noncomputable def Bz(b:XM PyData)(d:PyData):XM PyData:=fun f=>match d with
 | .bool true=>.ok (.bool true) f
 | .bool false=>b f
 | _=>.bad
@[simp] noncomputable def ff(a b:XM PyData):XM PyData:=fun U=>(a U).bind (By b)
@[simp] noncomputable def wq(a b:XM PyData):XM PyData:=fun U=>(a U).bind (Bz b)
theorem fE{rest:List Expr}{h f:XM PyData}(i:FE X F E a h)(j:FE X F E (.BoolOp .And (b::rest) pos) f):FE X F E (.BoolOp .And (a::b::rest) pos) (ff h f):=(JR i j).imp aL fun U Q q=>aL _ _ _ (fun d l g=>by
 cases d with
 | bool b=>cases b with
  | true=>exact⟨true,rfl,en g⟩
  | false=>exact⟨false,rfl,em g⟩
 | _=>exact g.elim) (cg (k:=By f) q)
theorem BA{rest:List Expr}{h f:XM PyData}(i:FE X F E a h)(j:FE X F E (.BoolOp .Or (b::rest) pos) f):FE X F E (.BoolOp .Or (a::b::rest) pos) (wq h f):=(JS i j).imp aL fun U Q q=>aL _ _ _ (fun d l g=>by
 cases d with
 | bool b=>cases b with
  | true=>exact⟨true,rfl,en g⟩
  | false=>exact⟨false,rfl,em g⟩
 | _=>exact g.elim) (cg (k:=Bz f) q)
theorem gO{op}{d:XM PyData}(h:FE X F E a d):FE X F E (.BoolOp op [a] pos) d:=JQ h
@[simp] noncomputable def wt(p f:Int->Int->Bool)(a b c:XM PyData):XM PyData:=fun U=>(a U).bind fun x g=>(b g).bind fun y d=>match x,y with
 | .int i,.int j=>if p i j=true then(c d).bind (fun z=>lift (match z with | .int k=>some (.bool (f j k)) | _=>none)) else .ok (.bool false) d
 | _,_=>.bad
theorem Mj{p l:Int->Int->Bool}{o r n:XM PyData}(h:DE X F e (vS p l (wp E o) (wp E r) (wp E n))):FE X F E e (wt p l o r n):=h.imp aL fun U Q q=>by
 refine aL _ _ _ (fun x w t=>?_) (cg q);refine aL _ _ _ (fun y A f=>?_) (cg t);unfold wp at f;cases x with
 | int i=>cases y with
  | int j=>
   refine⟨i,j,rfl,rfl,?_⟩
   by_cases g:p i j=true
   ·simp only[if_pos g] at f;rw[if_pos g];refine aL _ _ _ (fun z B u=>?_) (cg (m:=n) (k:=fun z=>lift (match z with | .int k=>some (PyData.bool (l j k)) | _=>none)) f);obtain⟨d,s,v⟩:=dm u;cases z with
    | int k=>cases s;exact⟨k,rfl,v⟩
    | _=>cases s
   ·simp only[if_neg g] at f;rw[if_neg g];exact f
  | _=>exact f.elim
 | _=>exact f.elim
@[simp] noncomputable def eM(a:XM Bool):XM Bool:=fun U=>(a U).bind fun b d=>.ok (!b) d
theorem fg{f:XM Bool}(h:FB X F E a f):FB X F E (.UnaryOp .Not a pos) (eM f):=(JV h).imp aL fun U Q q=>aL _ _ _ (fun d g i=>i) (cg (k:=fun b g=>.ok (!b) g) q)
@[simp] noncomputable def oJ(a b:XM Bool):XM Bool:=fun U=>(a U).bind fun x d=>if x=true then b d else .ok false d
@[simp] noncomputable def jP(a b:XM Bool):XM Bool:=fun U=>(a U).bind fun x d=>if x=true then .ok true d else b d
theorem wu{d:XM Bool}(h:FB X F E a d):FW X F E (.BoolOp .And [a] pos) d:=JY h
theorem lN{d:XM Bool}(h:FB X F E a d):FW X F E (.BoolOp .Or [a] pos) d:=JZ h
theorem wv{rest:List Expr}{h f:XM Bool}(j:FB X F E a h)(l:FW X F E (.BoolOp .And (b::rest) pos) f):FW X F E (.BoolOp .And (a::b::rest) pos) (oJ h f):=(Ka j l).imp aL fun U Q q=>aL _ _ _ (fun d g i=>by
 cases d with
 | true=>exact en i
 | false=>exact em i) (cg (k:=fun x g=>if x=true then f g else .ok false g) q)
theorem lO{rest:List Expr}{h f:XM Bool}(j:FB X F E a h)(l:FW X F E (.BoolOp .Or (b::rest) pos) f):FW X F E (.BoolOp .Or (a::b::rest) pos) (jP h f):=(Kb j l).imp aL fun U Q q=>aL _ _ _ (fun d g i=>by
 cases d with
 | true=>exact en i
 | false=>exact em i) (cg (k:=fun x g=>if x=true then .ok true g else f g) q)
theorem je{d:XM Bool}(h:FW X F E e d):FB X F E e d:=h.db
@[simp] noncomputable def lP{α:Type}(t:XM Bool)(a b:XM α):XM α:=fun U=>(t U).bind fun x d=>if x=true then a d else b d
theorem mT{mt:XM Bool}{f g:XM PyData}(j:FB X F E c mt)(l:FE X F E a f)(m:FE X F E b g):FE X F E (.IfExp c a b pos) (lP mt f g):=(Kd j l m).imp aL fun U Q q=>aL _ _ _ (fun d h i=>by
 cases d with
 | true=>exact en i
 | false=>exact em i) (cg (k:=fun x h=>if x=true then f h else g h) q)
@[simp] noncomputable def aP:XM (List PyData):=fun U=>.ok [] U
@[simp] noncomputable def aq(a:XM PyData)(r:XM (List PyData)):XM (List PyData):=fun U=>(a U).bind fun d f=>(r f).bind fun h g=>.ok (d::h) g
theorem bh:FA X F E [] aP:=JE.imp aL fun _ _ q=>q
theorem Ml{i:XM PyData}{h:XM (List PyData)}(l:FE X F E e i)(m:FA X F E es h)(n:starEach (e::es) X.env=(false,eval e X.env)::starEach es X.env:=by rfl):FA X F E (e::es) (aq i h):=(JF l m n).imp aL fun U Q q=>aL _ _ _ (fun d j o=>aL _ _ _ (fun g f p=>p) (cg (k:=fun g f=>.ok (d::g) f) o)) (cg (k:=fun d j=>(h j).bind fun g f=>.ok (d::g) f) q)
@[simp] noncomputable def cY(a:XM (List PyData)):XM PyData:=fun U=>(a U).bind fun d=>lift (if d.length<=sizeLine then some (.tuple d) else none)
@[simp] noncomputable def fF(a:XM (List PyData)):XM PyData:=fun U=>(a U).bind fun d=>lift (if d.length<=sizeLine then some (.list d) else none)
theorem dq{i}{g:XM (List PyData)}(h:FA X F E es g):FE X F E (.Tuple es i pos) (cY g):=(JI h).imp aL fun U Q q=>aL _ _ _ (fun m l j=>by
 obtain⟨d,f,k⟩:=dm j;split at f
 ·rename_i h;cases f;exact⟨h,k⟩
 ·cases f) (cg q)
theorem gr{g:XM (List PyData)}(h:FA X F E es g):FE X F E (.List es pos) (fF g):=(JJ h).imp aL fun U Q q=>aL _ _ _ (fun l k i=>by
 obtain⟨d,f,j⟩:=dm i;split at f
 ·rename_i h;cases f;exact⟨h,j⟩
 ·cases f) (cg q)
@[simp] noncomputable def cR(g:List PyData->Option PyData)(a:XM (List PyData)):XM PyData:=fun U=>(a U).bind fun d=>lift (g d)
def FN(f:DN)(g:List PyData->Option PyData):Prop:=∀h d Q,g h=some d->Q d->f h Q
theorem eR{f:DN}{g:List PyData->Option PyData}{i:XM (List PyData)}(j:FN f g)(h:DE X F e (oB f (wp E i))):FE X F E e (cR g i):=h.imp aL fun U Q q=>aL _ _ _ (fun n o k=>by
 obtain⟨d,l,m⟩:=dm k;exact j n d _ l m) (cg q)
end
section
variable{X:Cx}{F:Fx}{E:Str->ao->Prop}{e a b c:Expr}{es:List Expr}{st:Stmt}{rest:List Stmt}{pos:Pos}{x:Str}
@[simp] noncomputable def ej:List PyData->Option PyData:=fun d=>match d with
 | [.list ds]=>some (.int ds.length)
 | [.tuple ds]=>some (.int ds.length)
 | _=>none
theorem iF:FN AW ej:=fun f d Q e q=>by
 unfold ej at e;split at e
 ·cases e;exact⟨_,.inl rfl,q⟩
 ·cases e;exact⟨_,.inr rfl,q⟩
 ·cases e
@[simp] noncomputable def oK:List PyData->Option PyData:=fun d=>match d with
 | [.int i,.int j]=>some (.int (max i j))
 | _=>none
theorem ww:FN AY oK:=fun f d Q e q=>by
 unfold oK at e;split at e
 ·cases e;exact⟨_,_,rfl,q⟩
 ·cases e
@[simp] noncomputable def rn:List PyData->Option PyData:=fun d=>match d with
 | [.list ds]=>some (.tuple ds)
 | [.tuple ds]=>some (.tuple ds)
 | _=>none
theorem BB:FN AZ rn:=fun f d Q e q=>by
 unfold rn at e;split at e
 ·cases e;exact .inl ⟨_,rfl,q⟩
 ·cases e;exact .inr ⟨_,rfl,q⟩
 ·cases e
noncomputable def ints?:List PyData->Option (List Int)
 | []=>some []
 | .int i::r=>(ints? r).map (i::·)
 | _::_=>none
noncomputable def bools?:List PyData->Option (List Bool)
 | []=>some []
 | .bool i::r=>(bools? r).map (i::·)
 | _::_=>none
theorem BC:∀{g:List PyData}{f:List Int},ints? g=some f->g=f.map .int
 | [],_,e=>by cases e;rfl
 | d::r,f,e=>by
  cases d with
  | int i=>
   cases q:ints? r with
   | none=>simp[ints?,q] at e
   | some l=>simp[ints?,q] at e;subst e;rw[BC q];rfl
  | _=>cases e
theorem BD:∀{g:List PyData}{f:List Bool},bools? g=some f->g=f.map .bool
 | [],_,e=>by cases e;rfl
 | d::r,f,e=>by
  cases d with
  | bool i=>
   cases q:bools? r with
   | none=>simp[bools?,q] at e
   | some l=>simp[bools?,q] at e;subst e;rw[BD q];rfl
  | _=>cases e
theorem Mm(d:List Int):ints? (d.map .int)=some d:=by
 induction d with
 | nil=>rfl
 | cons i r f=>simp[ints?,f]
noncomputable def mU:List PyData->Option PyData:=fun d=>match d with
 | [.list ds]=>(bools? ds).map fun bs=>.bool (bs.all id)
 | _=>none
theorem Mo:FN Bb mU:=fun h d Q e q=>by
 unfold mU at e;split at e
 ·obtain⟨bs,f,g⟩:=Option.map_eq_some_iff.mp e;rw[BD f];subst g;exact⟨bs,rfl,q⟩
 ·cases e
noncomputable def wx:List Int->Option Int
 | []=>none
 | i::r=>some (r.foldl max i)
theorem Mp(r:List Int):∀i,i<=r.foldl max i/\(∀a∈r,a<=r.foldl max i)/\(r.foldl max i=i\/r.foldl max i∈r):=by
 induction r with
 | nil=>intro i;exact⟨Int.le_refl _,fun a h=>(by cases h),.inl rfl⟩
 | cons j r f=>
  intro i;obtain⟨d,h2,h3⟩:=f (max i j);refine⟨Int.le_trans (Int.le_max_left _ _) d,fun a h=>?_,?_⟩
  ·rcases List.mem_cons.mp h with rfl | h
   ·exact Int.le_trans (Int.le_max_right _ _) d
   ·exact h2 a h
  ·rcases h3 with h3 | h3
   ·rw[List.foldl_cons,h3];rcases Int.le_total i j with q | q
    ·exact .inr (by rw[Int.max_eq_right q];exact List.mem_cons_self)
    ·exact .inl (Int.max_eq_left q)
   ·exact .inr (bL _ h3)
noncomputable def mV:List PyData->Option PyData:=fun d=>match d with
 | [.list ds]=>((ints? ds).bind wx).map .int
 | _=>none
theorem Mq:∀j d (Q:PyData->Prop),mV j=some d->Q d->∃f:List Int,j=[.list (f.map .int)]/\f≠[]/\∃M,d=.int M/\M∈f/\(∀a∈f,a<=M):=fun o d Q e q=>by
 unfold mV at e;split at e
 ·obtain⟨M,k,l⟩:=Option.map_eq_some_iff.mp e;obtain⟨f,m,g⟩:=Option.bind_eq_some_iff.mp k;cases f with
  | nil=>cases g
  | cons i r=>
   cases g;obtain⟨n,h2,h3⟩:=Mp r i;refine⟨i::r,by rw[BC m],by simp,_,l.symm,?_,fun a h=>?_⟩
   ·rcases h3 with h3 | h3
    ·rw[h3];exact List.mem_cons_self
    ·exact bL _ h3
   ·rcases List.mem_cons.mp h with rfl | h
    ·exact n
    ·exact h2 a h
 ·cases e
theorem Mr:FN Bs mV:=fun k d Q e q=>by obtain⟨l,h1,h2,M,h3,g,h⟩:=Mq k d Q e q;refine⟨l,h1,h2,fun f i j=>?_⟩;have:f = M:=Int.le_antisymm (h f i) (j M g);rw[this,<-h3];exact q
@[simp] noncomputable def ro(i:Nat):XM PyData:=fun U=>match U[i]? with
 | some (some (.scr ns))=>if ns.length<=63 then .ok (.int ns.length) U else .bad
 | _=>.bad
@[simp] noncomputable def rp(i:Nat)(a:XM PyData):XM PyData:=fun U=>match U[i]? with
 | some (some (.scr ns))=>(a U).bind fun d=>lift (match d with | .int k=>(bT ns k).map .int | _=>none)
 | _=>.bad
@[simp] noncomputable def wy(i:Nat):XM Bool:=fun U=>match U[i]? with
 | some (some (.scr ns))=>.ok (decide (ns=[])) U
 | _=>.bad
theorem BE{i:Nat}(h:DE X F e (Bh i)):FE X F E e (ro i):=h.imp aL fun U Q q=>by
 unfold wp ro at q;cases h:U[i]? with
 | none=>rw[h] at q;exact q.elim
 | some o=>
  rw[h] at q;cases o with
  | none=>exact q.elim
  | some c=>
   cases c with
   | scr ns=>
    simp only at q
    by_cases d:ns.length<=63
    ·rw[if_pos d] at q;exact⟨ns,h,fun _=>q⟩
    ·rw[if_neg d] at q;exact q.elim
   | _=>exact q.elim
theorem BF{i:Nat}{f:XM PyData}(h:DE X F e (Bj i (wp E f))):FE X F E e (rp i f):=h.imp aL fun U Q q=>by
 unfold wp rp at q;cases h:U[i]? with
 | none=>rw[h] at q;exact q.elim
 | some o=>
  rw[h] at q;cases o with
  | none=>exact q.elim
  | some c=>
   cases c with
   | scr ns=>
    refine⟨ns,h,aL _ _ _ (fun d s j=>?_) (cg (m:=f) (k:=fun d=>lift (match d with | .int k=>(bT ns k).map PyData.int | _=>none)) q)⟩;obtain⟨y,g,l⟩:=dm j;cases d with
    | int k=>obtain⟨n,p,r⟩:=Option.map_eq_some_iff.mp g;subst r;exact⟨k,n,rfl,p,l⟩
    | _=>cases g
   | _=>exact q.elim
theorem Ms{i:Nat}(h:DB X F e (Bm i)):FB X F E e (wy i):=h.imp aL fun U Q q=>by
 unfold wp wy at q;cases h:U[i]? with
 | none=>rw[h] at q;exact q.elim
 | some o=>
  rw[h] at q;cases o with
  | none=>exact q.elim
  | some c=>
   cases c with
   | scr ns=>exact⟨ns,h,q⟩
   | _=>exact q.elim
@[simp] noncomputable def aF(i:Nat):GM:=fun d U=>some (U.set i (some (.dat d)))
theorem Mt{i:Nat}(h:DG X F e (gN i)):FG X F e (aF i):=⟨fun d U Q f k q=>k _ q,h.pg.imp fun v Y H Q ⟨U,O,d,st,hd,q⟩=>⟨U,O,d,st,hd,q⟩⟩
noncomputable abbrev jQ:=List PyData->ao->Option ao
noncomputable def mW(g:jQ):ku:=fun d U Q=>match g d U with
 | some f=>Q f
 | none=>False
abbrev rq(X:Cx)(F:Fx)(d:List Expr)(g:jQ):Prop:=oD X F d (mW g)
@[simp] noncomputable def fW:jQ:=fun d U=>match d with | []=>some U | _=>none
@[simp] noncomputable def cH(t:GM)(u:jQ):jQ:=fun g U=>match g with | d::r=>(t d U).bind fun f=>u r f | []=>none
theorem Mu{g:GM}:∀d U (Q f:ao->Prop),(∀h,Q h->f h)->ez g d U Q->ez g d U f:=fun d U Q f k q=>by
 unfold ez at q ⊢;generalize g d U=o at q ⊢;cases o with
 | some h=>exact k _ q
 | none=>exact q
theorem BG{g:jQ}:∀d U (Q f:ao->Prop),(∀h,Q h->f h)->mW g d U Q->mW g d U f:=fun d U Q f k q=>by
 unfold mW at q ⊢;generalize g d U=o at q ⊢;cases o with
 | some h=>exact k _ q
 | none=>exact q
theorem oM:rq X F [] fW:=⟨BG,Ks.pg.imp fun v Y H Q ⟨U,O,d,st,hd,q⟩=>⟨U,O,d,st,hd,by
 unfold mW fW at q;cases d with
 | nil=>exact⟨rfl,q⟩
 | cons _ _=>exact q.elim⟩⟩
theorem ij{g:GM}{f:jQ}(j:FG X F e g)(k:rq X F es f)(i:(assignEach (e::es) X.env).map (·.2)=assign e X.env::(assignEach es X.env).map (·.2):=by rfl):rq X F (e::es) (cH g f):=⟨BG,(Kt j k i).pg.imp fun v Y H Q ⟨U,O,d,st,hd,q⟩=>⟨U,O,d,st,hd,by
 unfold mW cH at q;cases d with
 | nil=>exact q.elim
 | cons d r=>
  refine⟨d,r,rfl,?_⟩;unfold ez;simp only at q;cases h:g d U with
  | none=>rw[h] at q;exact q
  | some l=>rw[h] at q;exact q⟩⟩
@[simp] noncomputable def fX(n:Nat)(t:jQ):GM:=fun d U=>match d with | .tuple ds=>if ds.length=n then t ds U else none | _=>none
theorem oN{k n:Nat}{i:jQ}(j:X.calm=true)(h:rq X F es i)(l:(assignEach es X.env).length=n:=by rfl)(f:(assignEach es X.env).findIdx? (·.1)=none:=by rfl):FG X F (.Tuple es k pos) (fX n i):=⟨Mu,(Kv j h l f).pg.imp fun v Y H Q ⟨U,O,d,st,hd,q⟩=>⟨U,O,d,st,hd,by
 unfold ez fX at q;cases d with
 | tuple ds=>
  simp only at q
  by_cases g:ds.length=n
  ·rw[if_pos g] at q;exact⟨ds,rfl,g,q⟩
  ·rw[if_neg g] at q;exact q.elim
 | _=>exact q.elim⟩⟩
@[simp] noncomputable def aC:XM (List AX):=fun U=>.ok [] U
@[simp] noncomputable def al(a:XM PyData)(r:XM (List AX)):XM (List AX):=fun U=>(a U).bind fun d f=>(r f).bind fun as g=>.ok (.d d::as) g
@[simp] noncomputable def aN(j:Nat)(r:XM (List AX)):XM (List AX):=fun U=>match U[j]? with
 | some (some _)=>(r U).bind fun as d=>.ok (.s j::as) d
 | _=>.bad
theorem aH:FX X F E [] aC:=KW.imp aL fun _ _ q=>q
theorem Mw{g:XM PyData}{h:XM (List AX)}(j:FE X F E e g)(l:FX X F E es h)(n:starEach (e::es) X.env=(false,eval e X.env)::starEach es X.env:=by rfl):FX X F E (e::es) (al g h):=(KY j l n).imp aL fun U Q q=>aL _ _ _ (fun d i o=>aL _ _ _ (fun r f p=>p) (cg (k:=fun as f=>fV.ok (AX.d d::as) f) o)) (cg (m:=g) (k:=fun d i=>(h i).bind fun as f=>fV.ok (AX.d d::as) f) q)
theorem Mx{p:Pos}{j:Nat}{d:XM (List AX)}(g:PE X (.Name x p) (bS j))(i:FX X F E es d)(l:starEach (.Name x p::es) X.env=(false,eval (.Name x p) X.env)::starEach es X.env:=by rfl):FX X F E (.Name x p::es) (aN j d):=(KZ g i l).imp aL fun U Q q=>by
 unfold wp aN at q;cases h:U[j]? with
 | none=>rw[h] at q;exact q.elim
 | some o=>
  rw[h] at q;cases o with
  | none=>exact q.elim
  | some c=>exact⟨⟨c,h⟩,aL _ _ _ (fun as f n=>n) (cg (m:=d) (k:=fun as f=>fV.ok (AX.s j::as) f) (show wp E (fun U=>(d U).bind fun as f=>fV.ok (AX.s j::as) f) U Q from q))⟩
@[simp] noncomputable def lQ(f:FM)(as:List AX):XM aj:=fun U=>match gL U as with
 | some (h,g)=>(match f h with
  | .rt c d=>.ok c (eL g d (fc g U))
  | .ex c d=>.ex c (eL g d (fc g U))
  | .bad=>.bad)
 | none=>.bad
@[simp] noncomputable def aI(f:FM)(a:XM (List AX)):XM aj:=fun U=>(a U).bind (lQ f)
theorem BH{g:FM}{j:XM (List AX)}(h:DO X F e (vY g E (wp E j))):FO X F E e (aI g j):=h.imp aL fun U Q q=>aL _ _ _ (fun as m d=>by
 unfold wp lQ at d;unfold gp;cases l:gL m as with
 | none=>rw[l] at d;exact d
 | some p=>
  obtain⟨n,o⟩:=p;rw[l] at d;simp only at d ⊢;cases i:g n with
  | rt c f=>rw[i] at d;exact d
  | ex c f=>rw[i] at d;exact d
  | bad=>rw[i] at d;exact d) (cg (k:=lQ g) q)
@[simp] noncomputable def aJ(a:XM aj):XM PyData:=fun U=>(a U).bind fun c=>lift (frz c)
theorem aR{d:XM aj}(h:FO X F E e d):FE X F E e (aJ d):=h.de.imp aL fun U Q q=>aL _ _ _ (fun c g f=>dm f) (cg q)
@[simp] noncomputable def bG:SM:=fun U=>.nx U
@[simp] noncomputable def aA(m k:SM):SM:=fun U=>match m U with
 | .nx d=>k d
 | o=>o
theorem bN:jN X F E [] bG:=Ky.imp fun _ _ q=>q
theorem aB{m k:SM}(d:FS X F E st m)(f:jN X F E rest k):jN X F E (st::rest) (aA m k):=(Kz d f).imp fun D U q=>by
 show cq E m _ U;unfold cq aA at q;unfold cq;generalize m U=o at q ⊢;cases o with
 | nx g=>exact q
 | _=>exact q
theorem aG{m:SM}(h:FS X F E st m):jN X F E [st] m:=KA h
@[simp] noncomputable def fh{α:Type}(o:fV α)(k:α->ao->gH):gH:=match o with
 | .ok a U=>k a U
 | .ex c U=>.ex c U
 | .bad=>.bad
theorem gP{α:Type}{m:XM α}{k:α->SM}{D:et}{U:ao}(q:cq E (fun U=>fh (m U) k) D U):wp E m U fun a d=>cq E (k a) D d:=by
 unfold cq fh at q;unfold wp;simp only at q;generalize m U=o at q ⊢;cases o with
 | ok a d=>exact q
 | ex c d=>exact q
 | bad=>exact q
@[simp] noncomputable def wz(o:Option ao):gH:=match o with
 | some U=>.nx U
 | none=>.bad
@[simp] noncomputable def bA(m:XM PyData)(g:GM):SM:=fun U=>fh (m U) fun d f=>wz (g d f)
theorem wA{m:XM PyData}{g:GM}{D:et}{U:ao}(q:cq E (bA m g) D U):vV (wp E m) (ez g) D U:=aL _ _ _ (fun d h f=>by
 unfold cq wz at f;unfold ez;simp only at f;generalize g d h=o at f ⊢;cases o with
 | some i=>exact f
 | none=>exact f) (gP (k:=fun d h=>wz (g d h)) q)
theorem bZ{i:Nat}{d:Pos}{m:XM PyData}(f:X.N.Nodup)(g:X.N[i]? = some x)(h:gC X.env.scope x)(j:FE X F E e m)(k:swapsWith e (some (.Name x d)) pos.line X.env=pure false:=by rfl)
  (l:X.fn x=true\/X.env.scope.names.lookup x=some .local:=by first | exact .inl rfl | exact .inr rfl | assumption):FS X F E (.Assign [.Name x d] e pos) (bA m (aF i)):=(KB f g h j k l).imp fun D U q=>wA q
@[simp] noncomputable def wB(i:Nat)(c:aj):SM:=fun d=>if i<d.length then(match c with | .own true _=>.bad | c=>.nx (d.set i (some c))) else .bad
@[simp] noncomputable def gu(i:Nat)(m:XM aj):SM:=fun U=>fh (m U) (wB i)
theorem jR{i:Nat}{g:Pos}{m:XM aj}(j:X.N.Nodup)(l:X.N[i]? = some x)(n:gC X.env.scope x)(o:FO X F E e m)(p:swapsWith e (some (.Name x g)) pos.line X.env=pure false:=by rfl)
  (r:X.fn x=true\/X.env.scope.names.lookup x=some .local:=by first | exact .inl rfl | exact .inr rfl | assumption):FS X F E (.Assign [.Name x g] e pos) (gu i m):=(KL j l n o p r).imp fun D U q=>aL _ _ _ (fun c s f=>by
 unfold cq wB at f
 by_cases h:i<s.length
 ·simp only[if_pos h] at f;cases c with
  | own io b=>cases io with
   | true=>exact f.elim
   | false=>exact⟨h,(fun _ z=>by cases z),f⟩
  | dat d=>exact⟨h,(fun _ z=>by cases z),f⟩
  | scr d=>exact⟨h,(fun _ z=>by cases z),f⟩
  | exc d=>exact⟨h,(fun _ z=>by cases z),f⟩
  | vw d=>exact⟨h,(fun _ z=>by cases z),f⟩
 ·simp only[if_neg h] at f) (gP (k:=wB i) q)
@[simp] noncomputable def br(m:XM PyData):SM:=fun U=>fh (m U) fun d f=>.rt (.dat d) f
@[simp] noncomputable def eN(m:XM aj):SM:=fun U=>fh (m U) fun c d=>.rt c d
@[simp] noncomputable def fY(m:XM aj):SM:=fun U=>fh (m U) fun _ d=>.nx d
theorem bu{m:XM PyData}(g:FE X F E e m):FS X F E (.Return (some e) pos) (br m):=(AN g).imp fun D U q=>aL _ _ _ (fun c f h=>h) (gP (k:=fun d f=>.rt (.dat d) f) q)
theorem eS{m:XM aj}(g:FO X F E e m):FS X F E (.Return (some e) pos) (eN m):=(KE g).imp fun D U q=>aL _ _ _ (fun c f h=>h) (gP (k:=fun d f=>.rt d f) q)
theorem gv{m:XM aj}(f:FO X F E e m)(g:swapsWith e none pos.line X.env=pure false:=by rfl):FS X F E (.Expr e pos) (fY m):=(KN f g).imp fun D U q=>aL _ _ _ (fun c d h=>h) (gP (k:=fun _ d=>.nx d) q)
@[simp] noncomputable def wC(i:Nat):SM:=fun U=>match U[i]? with
 | some (some (.own false b))=>.rt (.own false b) (U.set i none)
 | some (some (.dat d))=>.rt (.dat d) U
 | _=>.bad
@[simp] noncomputable def bF(t:XM Bool)(a b:SM):SM:=fun U=>fh (t U) fun x d=>if x=true then a d else b d
theorem bK{d:Expr}{l i:List Stmt}{mt:XM Bool}{f g:SM}(m:FB X F E d mt)(n:jN X F E l f)(o:jN X F E i g):FS X F E (.If d l i pos) (bF mt f g):=(KP m n o).imp fun D U q=>aL _ _ _ (fun x h j=>by
 cases x with
 | true=>exact en j
 | false=>exact em j) (gP (k:=fun x h=>if x=true then f h else g h) q)
end
noncomputable def cz(d n:String):Option Bool:=if d=n then some true else
 if d="bool"/\n="int" then some true else
 if (d="int"\/d="bool"\/d="str"\/d="list"\/d="tuple"\/d="NoneType")/\(n="int"\/n="bool"\/n="str"\/n="list"\/n="tuple") then some false else none
theorem My{d n:String}{b:Bool}(h:cz d n=some b)(K:Frag):kitOne K (.type d) (.type n)=some b:=by
 unfold cz at h;split at h
 ·rename_i e;cases h;subst e;unfold kitOne;rw[if_pos (by simp)]
 ·split at h
  ·rename_i e;cases h;obtain⟨rfl,rfl⟩:=e;rfl
  ·rename_i a c;split at h
   ·rename_i e;cases h;obtain⟨f,g⟩:=e;rcases f with rfl | rfl | rfl | rfl | rfl | rfl<;>rcases g with rfl | rfl | rfl | rfl | rfl<;>first | rfl | (exact absurd rfl a) | (exact absurd ⟨rfl,rfl⟩ c)
   ·cases h
@[simp] noncomputable def jf(n:String)(a:XM PyData):XM PyData:=fun U=>(a U).bind fun d=>lift ((cz (vN d) n).map .bool)
section
variable{X:Cx}{F:Fx}{E:Str->ao->Prop}{e a b c:Expr}{es:List Expr}{st:Stmt}{rest:List Stmt}{pos:Pos}{x:Str}
theorem jS{n:String}{f:XM PyData}(h:DE X F e (AF n (wp E f))):FE X F E e (jf n f):=h.imp aL fun U Q q=>aL _ _ _ (fun d m g=>by
 obtain⟨y,i,j⟩:=dm g;obtain⟨b,k,l⟩:=Option.map_eq_some_iff.mp i;subst l;exact⟨b,My k,j⟩) (cg q)
theorem Mz{i:Nat}{k:Pos}(l:PE X (.Name x k) (bS i)):FS X F E (.Return (some (.Name x k)) pos) (wC i):=fun g s Y H D I ⟨U,O,m,j,q,f⟩=>by
 unfold cq wC at q;cases h:U[i]? with
 | none=>rw[h] at q;exact q.elim
 | some o=>
  rw[h] at q;cases o with
  | none=>exact q.elim
  | some c=>
   cases c with
   | own io b=>cases io with
    | true=>exact q.elim
    | false=>exact KH l g s Y H D I ⟨U,O,m,j,⟨b,h,q⟩,f⟩
   | dat d=>exact AN (Aq i l) g s Y H D I ⟨U,O,m,j,.inl ⟨d,h,q⟩,f⟩
   | scr n=>exact q.elim
   | exc n=>exact q.elim
   | vw n=>exact q.elim
noncomputable def cA(g:GM)(b:SM):List PyData->SM
 | [],U=>.nx U
 | d::r,U=>(match g d U with
  | some h=>(match b h with
   | .nx f=>cA g b r f
   | .ct f=>cA g b r f
   | .bk f=>.nx f
   | o=>o)
  | none=>.bad)
@[simp] noncomputable def ik(s:XM (List PyData))(g:GM)(b:SM):SM:=fun U=>fh (s U) (cA g b)
theorem jT{n iter:Expr}{body:List Stmt}{s:XM (List PyData)}{g:GM}{l:SM}(t:PassesOwn (model X.prog X.w) X.A X.env X.xe)(u:X.calm=true)(f:FI X F E n iter s)(v:FG X F n g)(G:jN X F E body l)(y:∀x,foldedSetIterable iter X.env x=pure x:=by intro _;rfl):FS X F E (.For n iter body [] pos) (ik s g l):=
 (Lj t u f v G y).imp fun D U q=>aL _ _ _ (fun j p z=>by
  refine⟨fun i U=>cq E (cA g l (j.drop i)) D U,z,fun i d U hd f=>?_,fun U h=>?_⟩
  ·have e:j.drop i=d::j.drop (i+1):=by obtain⟨r,B⟩:=List.getElem?_eq_some_iff.mp hd;rw[<-B];exact List.drop_eq_getElem_cons r
   simp only[e] at f;unfold cq cA at f;unfold ez;generalize g d U=o at f ⊢;cases o with
   | none=>exact f
   | some p=>
    show cq E l _ p;simp only at f;unfold cq;generalize l p=C at f ⊢;cases C with
    | nx m=>exact f
    | ct m=>exact f
    | bk m=>exact f
    | rt c m=>exact f
    | ex c m=>exact f
    | bad=>exact f
  ·simp only[List.drop_length] at h;exact h) (gP (k:=cA g l) q)
@[simp] noncomputable def wD(a:XM PyData):XM (List PyData):=fun U=>(a U).bind fun d=>lift (match d with | .list ds=>some ds | _=>none)
@[simp] noncomputable def jU(a:XM PyData):XM (List PyData):=fun U=>(a U).bind fun d=>lift (match d with | .tuple ds=>some ds | _=>none)
theorem DI.imp{f iter:Expr}{t t':dW}(h:DI X F f iter t)(j:∀U Q g,(∀d i,Q d i->g d i)->t' U Q->t' U g)(k:∀U Q,t' U Q->t U Q):DI X F f iter t':=⟨j,h.pi.imp fun Y H Q ⟨U,O,st,q⟩=>⟨U,O,st,k U _ q⟩⟩
theorem BI{i:Expr}{f:XM PyData}(h:FE X F E e f):FI X F E i e (wD f):=(Le h).imp aL fun U Q q=>aL _ _ _ (fun d l j=>by
 obtain⟨y,g,k⟩:=dm j;cases d with
 | list ds=>cases g;exact⟨_,rfl,k⟩
 | _=>cases g) (cg q)
theorem kB{i:Expr}{f:XM PyData}(h:FE X F E e f):FI X F E i e (jU f):=(Lf h).imp aL fun U Q q=>aL _ _ _ (fun d l j=>by
 obtain⟨y,g,k⟩:=dm j;cases d with
 | tuple ds=>cases g;exact⟨_,rfl,k⟩
 | _=>cases g) (cg q)
@[simp] noncomputable def eA(g:List PyData->Option (List PyData))(a:XM (List PyData)):XM (List PyData):=fun U=>(a U).bind fun d=>lift (g d)
@[simp] noncomputable def bQ:List PyData->Option (List PyData):=fun d=>match d with
 | [.int j]=>if (decide (-(2 ^ 62)<=j)&&decide (j<2 ^ 62))=true then some (intsFrom 0 j.toNat) else none
 | _=>none
theorem kC{f:Expr}{g:XM (List PyData)}(h:DI X F f e (AS (wp E g))):FI X F E f e (eA bQ g):=h.imp aL fun U Q q=>aL _ _ _ (fun l k i=>by
 obtain⟨y,d,j⟩:=dm i;unfold bQ at d;split at d
 ·split at d
  ·rename_i h;cases d;simp only[Bool.and_eq_true,decide_eq_true_eq] at h;exact⟨_,rfl,h.1,h.2,j⟩
  ·cases d
 ·cases d) (cg q)
@[simp] noncomputable def lR:List PyData->Option (List PyData):=fun d=>match d with
 | [.list ds]=>some (numbered ds)
 | _=>none
theorem MA{f:Expr}{g:XM (List PyData)}(h:DI X F f e (iE (wp E g))):FI X F E f e (eA lR g):=h.imp aL fun U Q q=>aL _ _ _ (fun l k i=>by
 obtain⟨y,d,j⟩:=dm i;unfold lR at d;split at d
 ·cases d;exact⟨_,rfl,j⟩
 ·cases d) (cg q)
noncomputable def cn(g:GM)(t:XM Bool)(m:XM PyData):List PyData->List PyData->ao->Option (List PyData)
 | [],f,_=>some f
 | d::r,f,U=>(match g d U with
  | some i=>(match t i with
   | .ok true h=>(match m h with
    | .ok y j=>if f.length<sizeLine then cn g t m r (f++[y]) j else none
    | _=>none)
   | .ok false h=>cn g t m r f h
   | _=>none)
  | none=>none)
@[simp] noncomputable def jV(own:Nat)(d:List Nat)(U:ao):ao:=List.replicate own none++d.map fun j=>mP U[j]?
@[simp] noncomputable def BJ(own:Nat)(d:List Nat)(g:GM)(t:XM Bool)(m:XM PyData)(f:List PyData):XM PyData:=fun h=>lift ((cn g t m f [] (jV own d h)).bind fun i=>if i.length<=sizeLine then some (.list i) else none) h
@[simp] noncomputable def jg(own:Nat)(d:List Nat)(s:XM (List PyData))(g:GM)(t:XM Bool)(m:XM PyData):XM PyData:=fun U=>(s U).bind (BJ own d g t m)
noncomputable abbrev dJ:Str->ao->Prop:=fun _ _=>False
theorem BK{own:List Str}{j:List Nat}{s:XM (List PyData)}{g:GM}{t:XM Bool}{m:XM PyData}{U:ao}{Q:PyData->ao->Prop}(q:wp E (jg own.length j s g t m) U Q):oF own j (wp E s) (ez g) (wp dJ t) (wp dJ m) U Q:=aL _ _ _ (fun l r G=>by
 obtain⟨y,H,A⟩:=dm (o:=(cn g t m l [] (jV own.length j r)).bind fun p=>if p.length<=sizeLine then some (PyData.list p) else none) (U:=r) (E:=E) (Q:=Q) G;obtain⟨n,I,u⟩:=Option.bind_eq_some_iff.mp H;have B:n.length<=sizeLine/\y=.list n:=by
  split at u
  ·rename_i h;cases u;exact⟨h,rfl⟩
  ·cases u
 have J:cL own j r=jV own.length j r:=by unfold cL jV;rw[List.map_const']
 refine⟨fun i p U=>cn g t m (l.drop i) p U=some n,by rw[J];exact I,fun i d p U hd f=>?_,fun p U h=>?_⟩
 ·have e:l.drop i=d::l.drop (i+1):=by obtain⟨v,L⟩:=List.getElem?_eq_some_iff.mp hd;rw[<-L];exact List.drop_eq_getElem_cons v
  simp only[e] at f;unfold cn at f;unfold ez;cases C:g d U with
  | none=>rw[C] at f;cases f
  | some M=>
   rw[C] at f;simp only at f ⊢;unfold wp;cases w:t M with
   | ex c D=>rw[w] at f;cases f
   | bad=>rw[w] at f;cases f
   | ok b D=>
    rw[w] at f;cases b with
    | false=>exact em f
    | true=>
     refine en ?_;simp only at f ⊢;cases z:m D with
     | ex c N=>rw[z] at f;cases f
     | bad=>rw[z] at f;cases f
     | ok O N=>
      rw[z] at f;simp only at f ⊢;split at f
      ·rename_i h;exact⟨h,f⟩
      ·cases f
 ·simp only[List.drop_length] at h;have:p=n:=by unfold cn at h;exact Option.some.inj h
  subst this;rw[B.2] at A;exact⟨B.1,A⟩) (cg (k:=BJ own.length j g t m) q)
abbrev kD(X:Cx)(F:Fx)(E:Str->ao->Prop)(d:List Expr)(m:XM Bool):Prop:=lL X F d (wp E m)
noncomputable def cZ:XM Bool:=fun U=>.ok true U
theorem jW:kD X F E [] cZ:=⟨aL,fun d s Y H Q I ⟨U,O,st,q⟩=>Ll.2 d s Y H Q I ⟨U,O,st,q⟩⟩
theorem BL{d:XM Bool}(h:FB X F E c d):kD X F E [c] d:=Lm h
theorem oO{d:Scope}{own f:List Str}{h:List Nat}{l iter i:Expr}{j:List Expr}{s:XM (List PyData)}{g:GM}{t:XM Bool}{m:XM PyData}{n:Nat}(w:GF X.mg F)(S:ag X d own f h)(y:X.calm=true)(z:own.length=n)(A:FI X F E l iter s)
  (o:∀C p r u v k,GF X.mg k->FG (bP X d (own++f) C p r u v) k l g/\kD (bP X d (own++f) C p r u v) k dJ j t/\FE (bP X d (own++f) C p r u v) k dJ i m)
  (B:∀x,foldedSetIterable iter X.env x=pure x:=by intro _;rfl):FE X F E (.ListComp i [⟨l,iter,j,0⟩] d pos) (jg n h s g t m):=by
 subst z;exact(Ln w S y A o B).imp aL fun U Q q=>BK q
theorem BM{f:Scope}{own capN:List Str}{caps:List Nat}{o iter k:Expr}{l:List Expr}{s:XM (List PyData)}{g:GM}{t:XM Bool}{m:XM PyData}{n i:Nat}{y:Str}{py j:Pos}(H:X.N.Nodup)(r:X.N[i]? = some y)(I:gC X.env.scope y)(J:GF X.mg F)(S:ag X f own capN caps)(L:X.calm=true)(M:own.length=n)(O:FI X F E o iter s)
  (u:∀C v w z B p,GF X.mg p->FG (bP X f (own++capN) C v w z B) p o g/\kD (bP X f (own++capN) C v w z B) p dJ l t/\FE (bP X f (own++capN) C v w z B) p dJ k m)
  (A:swapsWith (.ListComp k [⟨o,iter,l,0⟩] f pos) (some (.Name y py)) j.line X.env=pure true:=by rfl)
  (R:∀x,foldedSetIterable iter X.env x=pure x:=by intro _;rfl) (T:X.fn y=true\/X.env.scope.names.lookup y=some .local:=by first | exact .inl rfl | exact .inr rfl | assumption) :
  FS X F E (.Assign [.Name y py] (.ListComp k [⟨o,iter,l,0⟩] f pos) j) (bA (jg n caps s g t m) (aF i)):=by
 subst M;exact(Lo H r I J S L O u A R T).imp fun D U q=>by have Y:=wA q;exact wa (s:=wp E s) aL U _ _ (fun d G h=>h) (BK (Q:=fun d G=>ez (aF i) d G D.nx) Y)
end
section
variable{K:Frag}{F:Fx}{H H':Hp}{Y:St}{U:ao}{O O':List Addr}
theorem aE.fresh(st:aE K F H Y U O){p:Addr}{o:HO}(c:H p=none)(d:Mv o):∃O',aE K (F.plus [p]) (aQ H p o) Y U O'/\aM O H O' (aQ H p o):=by obtain⟨O',h1,h2,_⟩:=aE.swap (L:=[]) (L':=[p]) (H':=aQ H p o) (F:=F) st (fun b u _ e=>bX c b u e) (by simp) (fun a h=>.inr (by obtain rfl:=List.mem_singleton.mp h;exact c)) (fun a h=>by cases h) (fun a h=>by obtain rfl:=List.mem_singleton.mp h;exact⟨o,cF,d⟩);exact⟨O',h1,h2⟩
theorem aE.new1(st:aE K F H Y U O){p:Addr}(c:H p=none):∀a∈[p],a∈F.A₀\/F.H₀ a=none:=fun a h=>by
 obtain rfl:=List.mem_singleton.mp h
 by_cases b:a∈F.A₀
 ·exact .inl b
 ·refine .inr ?_;cases e:F.H₀ a with
  | none=>rfl
  | some o=>obtain⟨W,h,_⟩:=st;have:=h.kept a o b e;rw[c] at this;cases this
end
section
variable{X:Cx}{F:Fx}{E:Str->ao->Prop}{e a b c:Expr}{es:List Expr}{st:Stmt}{rest:List Stmt}{pos:Pos}{x:Str}
noncomputable def MB(t:eg):ig:=fun U Q=>t U fun d f=>d.length<=sizeLine/\Q (.own false (.l d)) f
theorem MC{i:eg}(h:DA X F es i):DO X F (.List es pos) (MB i):=
 ⟨fun _ _ _ k q=>h.mn _ _ _ (fun _ _ d=>⟨d.1,k _ _ d.2⟩) q,(qJ h.pa).imp fun Y H Q ⟨U,O,st,q⟩=>
  ⟨U,O,st,h.mn _ _ _ (fun w t d j u v f r l=>⟨by rw[l.length];exact d.1,fun p m=>by
   obtain⟨s,g,n⟩:=f.fresh (o:=.lst j) m trivial;exact d.2 _ _ s [p] ⟨g,⟨p,rfl,rfl,j,cF,aK.mono n.hid l⟩,f.new1 m⟩ (r.trans n)⟩) q⟩⟩
@[simp] noncomputable def kE(a:XM (List PyData)):XM aj:=fun U=>(a U).bind fun d=>lift (if d.length<=sizeLine then some (.own false (.l d)) else none)
theorem oP{g:XM (List PyData)}(h:FA X F E es g):FO X F E (.List es pos) (kE g):=(MC h).imp aL fun U Q q=>aL _ _ _ (fun l k i=>by
 obtain⟨d,f,j⟩:=dm i;split at f
 ·rename_i h;cases f;exact⟨h,j⟩
 ·cases f) (cg q)
@[simp] noncomputable def wE(i:Nat)(d:PyData):SM:=fun f=>match f[i]? with
 | some (some (.own io (.l ds)))=>if ds.length<sizeLine then .nx (f.set i (some (.own io (.l (ds++[d]))))) else .bad
 | _=>.bad
@[simp] noncomputable def mY(i:Nat)(m:XM PyData):SM:=fun U=>match U[i]? with
 | some (some (.own _ (.l _)))=>fh (m U) (wE i)
 | _=>.bad
theorem rs{i:Nat}{m:XM PyData}{r apos g:Pos}(N:PE X (.Name x r) (bS i))(Q:FE X F E e m)(y:swapsWith (.Call (.Attribute (.Name x r) "append" apos) [e] [] g) none pos.line X.env=pure false:=by rfl)
  (n:attributeBase (.Name x r) "append" X.env (eval (.Name x r) X.env)=eval (.Name x r) X.env:=by rfl)
  (t:((backTo g (starEach [e] X.env)).all (fun x=>!x.1)&&(backToKw g (keywordEach [] X.env)).all (fun x=>x.1.isSome)&&decide (([e]:List Expr).length+([]:List Keyword).length+(if ([]:List Keyword).isEmpty then 0 else 1)<30))=true:=by rfl)
  (p:(apos.endLine==g.line)=true:=by rfl) (M:starEach [e] X.env=(false,eval e X.env)::starEach [] X.env:=by rfl) (j:(backTo g (starEach [] X.env)).any (·.1)=false:=by rfl) :
  FS X F E (.Expr (.Call (.Attribute (.Name x r) "append" apos) [e] [] g) pos) (mY i m):=
 (qz (qL PySem.F.plainAttrs_list PySem.F.slot_list_append PySem.F.type_list_append zY N (df Q.pe ed M) n t p M j) y).imp fun D Y H ⟨U,O,DD,st,q,f⟩=>by
  unfold cq mY at q;cases z:U[i]? with
  | none=>rw[z] at q;exact q.elim
  | some o=>
   rw[z] at q;cases o with
   | none=>exact q.elim
   | some R=>
    cases R with
    | dat d=>exact q.elim
    | scr d=>exact q.elim
    | exc d=>exact q.elim
    | vw d=>exact q.elim
    | own S T=>
     cases T with
     | m _ _=>exact q.elim
     | o _ _=>exact q.elim
     | sd _=>exact q.elim
     | ll _=>exact q.elim
     | pr _ _ _=>exact q.elim
     | l Z=>
      obtain⟨a,fp,u,⟨_,xs,hH,_⟩,_,_⟩:=st.box z;refine⟨_,u,.inl ⟨rfl,xs,.of hH⟩,U,O,st,aL _ _ _ (fun d U1 h w H1 O1 A s1 d1=>?_) (gP (m:=m) (k:=wE i) q)⟩;unfold cq wE at h;cases h1:U1[i]? with
      | none=>rw[h1] at h;exact h.elim
      | some o=>
       rw[h1] at h;cases o with
       | none=>exact h.elim
       | some c1=>
        cases c1 with
        | dat d=>exact h.elim
        | scr d=>exact h.elim
        | exc d=>exact h.elim
        | vw d=>exact h.elim
        | own a0 b1=>
         cases b1 with
         | m _ _=>exact h.elim
         | o _ _=>exact h.elim
         | sd _=>exact h.elim
         | ll _=>exact h.elim
         | pr _ _ _=>exact h.elim
         | l ds=>
          simp only at h;obtain⟨a1,a2,v,⟨e1,B,C,hd⟩,hO,up⟩:=A.box h1;rw[u] at v;cases v;subst e1
          by_cases I:ds.length<sizeLine
          ·rw[if_pos I] at h;refine⟨a,B,w,rfl,rfl,C,by rw[hd.length];exact I,?_⟩;obtain⟨O2,J,s2,_⟩:=up (aQ H1 a (.lst (B++[w]))) (.l (ds++[d])) [a] (fun c o L e=>by rw[bv (by simpa using L)];exact e) (by simp) (fun c L=>.inl L) (fun G O' s hG _=>by
            subst hG;exact⟨s.hid,rfl,B++[w],cF,(aK.mono s.hid hd).append (.cons (DV.mono s.hid d1) .nil)⟩)
           exact f.nx _ _ _ _ J (s1.trans s2) h
          ·rw[if_neg I] at h;exact h.elim
@[simp] noncomputable def ME:aj->Option PyData
 | .dat (.list ds)=>some (.int ds.length)
 | .dat (.tuple ds)=>some (.int ds.length)
 | .own _ (.l ds)=>some (.int ds.length)
 | _=>none
@[simp] noncomputable def wF(i:Nat):XM PyData:=fun U=>match U[i]? with
 | some (some c)=>lift (ME c) U
 | _=>.bad
theorem MG{i:Nat}{p j:Pos}(t:Gl X "len")(u:X.mg "len" = none)(h:PE X (.Name x j) (bS i))(s:starEach [.Name x j] X.env=(false,eval (.Name x j) X.env)::starEach [] X.env:=by rfl)(n:(backTo pos (starEach [] X.env)).any (·.1)=false:=by rfl) :
  FE X F E (.Call (.Name "len" p) [.Name x j] [] pos) (wF i):=
 ⟨aL,(mH gE t u PySem.boot_len (df h ed s) (by decide) (by decide) s n).imp fun Y H Q ⟨U,O,st,q⟩=>by
  unfold wp wF at q;cases k:U[i]? with
  | none=>rw[k] at q;exact q.elim
  | some o=>
   rw[k] at q;cases o with
   | none=>exact q.elim
   | some w=>
    unfold lift at q;cases w with
    | scr d=>exact q.elim
    | exc d=>exact q.elim
    | vw d=>exact q.elim
    | dat d=>
     obtain⟨v,m,hd⟩:=st.dat k;cases d with
     | list ds=>obtain⟨a,f,rfl,r,g⟩:=hd.lst_inv;exact⟨_,m,a,f,rfl,.inl (.of (cW r).1),by rw[g.length];exact q _ H O st .refl (.int _)⟩
     | tuple ds=>obtain⟨a,f,rfl,r,g⟩:=hd.tup_inv;exact⟨_,m,a,f,rfl,.inr (.inl (jH r).1),by rw[g.length];exact q _ H O st .refl (.int _)⟩
     | _=>exact q.elim
    | own io b=>
     cases b with
     | l ds=>obtain⟨a,z,m,⟨_,f,y,g⟩,_,_⟩:=st.box k;exact⟨_,m,a,f,rfl,.inl (.of y),by rw[g.length];exact q _ H O st .refl (.int _)⟩
     | _=>exact q.elim⟩
end
noncomputable def jh:PyData->Option bd
 | .int i=>some (.inl i)
 | .str x=>some (.inr x)
 | _=>none
noncomputable def ji:List PyData->Option (List bd)
 | []=>some []
 | d::r=>(match jh d,ji r with | some k,some l=>some (k::l) | _,_=>none)
noncomputable def iG:Bool->PyData->Option (List bd)
 | false,d=>(jh d).map fun k=>[k]
 | true,.tuple ds=>ji ds
 | true,_=>none
noncomputable abbrev jX:=List (PyData×PyData)
noncomputable def gw(a:Bool):jX->List bd->Option PyData
 | [],_=>none
 | p::r,k=>if iG a p.1=some k then some p.2 else gw a r k
noncomputable def lS(a:Bool)(k:List bd)(v:PyData):jX->jX
 | []=>[]
 | p::r=>(if iG a p.1=some k then(p.1,v) else p)::lS a k v r
noncomputable def kG(b:Bool)(a:jX)(d:PyData)(k:List bd)(v:PyData):jX:=if (gw b a k).isSome=true then lS b k v a else a++[(d,v)]
theorem wG{G:Hp}{v:V}{d:PyData}{k:bd}(h:DV G v d)(e:jh d=some k):v=kV k:=by
 cases d with
 | int i=>cases e;exact h.int_inv
 | str x=>cases e;exact h.str_inv
 | _=>cases e
theorem wH{k:bd}:jh (iC k)=some k:=by cases k<;>rfl
theorem BN{d:PyData}{k:bd}(e:jh d=some k):d=iC k:=by
 cases d with
 | int i=>cases e;rfl
 | str x=>cases e;rfl
 | _=>cases e
theorem BO:∀{a:List bd},ji (a.map iC)=some a
 | []=>rfl
 | k::r=>by show(match jh (iC k),ji (r.map iC) with | some k,some l=>some (k::l) | _,_=>none)=_;rw[wH,BO]
theorem ry:∀{b:List PyData}{a:List bd},ji b=some a->b=a.map iC
 | [],a,e=>by cases e;rfl
 | d::r,a,e=>by
  unfold ji at e;cases h1:jh d with
  | none=>rw[h1] at e;cases e
  | some k=>
   cases h2:ji r with
   | none=>rw[h1,h2] at e;cases e
   | some l=>rw[h1,h2] at e;cases e;rw[BN h1,ry h2];rfl
theorem wI{G:Hp}:∀{a:List V}{b:List bd},aK G a (b.map iC)->a=b.map kV
 | [],[],_=>rfl
 | _::_,k::r,.cons h1 h2=>by rw[wG h1 wH,wI h2];rfl
theorem rz{κ:Type}[DecidableEq κ]{R:κ->PyData->Prop}{G:Hp}{f:Bool}{inj:κ->List bd}(g:∀k d,R k d->iG f d=some (inj k))(j:∀a b,inj a=inj b->a=b) :
  ∀{i:List (κ×V)}{c:jX}(k:κ),Paired (fun(p:κ×V) (q:PyData×PyData)=>R p.1 q.1/\DV G p.2 q.2) i c->(fQ i k=none/\gw f c (inj k)=none)\/∃v d,fQ i k=some v/\gw f c (inj k)=some d/\DV G v d
 | [],[],k,_=>.inl ⟨rfl,rfl⟩
 | p::r,q::s,k,.cons h t=>by
  by_cases e:p.1=k
  ·refine .inr ⟨p.2,q.2,qN e,?_,h.2⟩;unfold gw;rw[if_pos (by rw[g _ _ h.1,e])]
  ·rw[qO e];unfold gw;rw[if_neg (by rw[g _ _ h.1];exact fun z=>e (j _ _ (Option.some.inj z)))];exact rz g j k t
theorem BP{κ:Type}[DecidableEq κ]{R:κ->PyData->Prop}{G:Hp}{i:Bool}{inj:κ->List bd}(f:∀k d,R k d->iG i d=some (inj k))(j:∀a b,inj a=inj b->a=b){v:V}{x:PyData}(l:DV G v x) :
  ∀{m:List (κ×V)}{c:jX}(k:κ),Paired (fun(p:κ×V) (q:PyData×PyData)=>R p.1 q.1/\DV G p.2 q.2) m c->Paired (fun(p:κ×V) (q:PyData×PyData)=>R p.1 q.1/\DV G p.2 q.2) (m.map fun g=>if g.1=k then(g.1,v) else g) (lS i (inj k) x c)
 | [],[],k,_=>.nil
 | p::r,q::s,k,.cons h t=>by
  refine .cons ?_ (BP f j l k t);dsimp only
  by_cases e:p.1=k
  ·rw[if_pos e,if_pos (by rw[f _ _ h.1,e])];exact⟨h.1,l⟩
  ·rw[if_neg e,if_neg (by rw[f _ _ h.1];exact fun z=>e (j _ _ (Option.some.inj z)))];exact h
theorem BQ{α β:Type}{R:α->β->Prop}:∀{a:List α}{b:List β}{c:List α}{d:List β},Paired R a b->Paired R c d->Paired R (a++c) (b++d)
 | _,_,_,_,.nil,h=>h
 | _,_,_,_,.cons h t,r=>.cons h (BQ t r)
theorem BR{κ:Type}[DecidableEq κ]{R:κ->PyData->Prop}{G:Hp}{g:Bool}{inj:κ->List bd}(i:∀k d,R k d->iG g d=some (inj k))(j:∀a b,inj a=inj b->a=b){v:V}{x d:PyData}(l:DV G v x)
  {m:List (κ×V)}{c:jX}{k:κ}(hd:R k d) (h:Paired (fun(p:κ×V) (q:PyData×PyData)=>R p.1 q.1/\DV G p.2 q.2) m c):Paired (fun(p:κ×V) (q:PyData×PyData)=>R p.1 q.1/\DV G p.2 q.2) (fu m k v) (kG g c d (inj k) x):=by
 rcases rz i j k h with⟨e,f⟩ | ⟨n,o,e,f,_⟩
 ·rw[IE v e];unfold kG;rw[f,if_neg (by simp)];exact BQ h (.cons ⟨hd,l⟩ .nil)
 ·unfold kG;rw[f,if_pos (by rfl)];unfold fu;rw[if_pos (by rw[qP,e];rfl)];exact BP i j l k h
theorem BS:∀(k:bd) (d:PyData),iC k=d->iG false d=some [k]:=fun k d e=>by subst e;show(jh (iC k)).map _=_;rw[wH];rfl
theorem rA:∀(a b:bd),[a]=[b]->a=b:=fun a b e=>by cases e;rfl
theorem rB:∀(k:List bd) (d:PyData),qY k=d->iG true d=some k:=fun k d e=>by subst e;exact BO
@[simp] noncomputable def jj(a:Bool)(d:PyData):Option (List bd):=match d with
 | .tuple []=>none
 | d=>iG a d
theorem BT{a:Bool}{d:PyData}{k:List bd}(e:jj a d=some k):iG a d=some k/\d≠.tuple []:=by
 unfold jj at e;split at e
 ·cases e
 ·rename_i h;exact⟨e,h⟩
theorem wJ:∀{ds:List PyData}{k:List bd},ji ds=some k->ds≠[]->cP ds=false
 | [],_,_,h=>absurd rfl h
 | [d],k,e,_=>by cases d<;>first | rfl | (simp[ji,jh] at e)
 | d::f::r,k,e,_=>by
  unfold ji at e;split at e
  ·rename_i g l a b;have c:=wJ (ds:=f::r) b (by simp);cases d<;>first | (exact(by simpa[cP] using c)) | (exfalso;simp[jh] at a)
  ·cases e
section
variable{G H:Hp}{a:Addr}{tk:Bool}{kvs:jX}
theorem BU(h:iZ G H a tk kvs)(j:bW G H){y:V}{d:PyData}{k:List bd}(g:DV G y d)(e:jj tk d=some k):∃o,iX H a y o/\((o=none/\gw tk kvs k=none)\/∃v x,o=some v/\gw tk kvs k=some x/\DV G v x):=by
 obtain⟨e,c⟩:=BT e;cases tk with
 | false=>obtain⟨l,f,pr⟩:=h;obtain⟨m,n,p⟩:=Option.map_eq_some_iff.mp e;subst p;obtain rfl:=wG g n;exact⟨_,.k f,rz BS rA m pr⟩
 | true=>
  obtain⟨l,f,pr⟩:=h;cases d with
  | tuple ds=>obtain⟨b,q,rfl,hb,i⟩:=g.tup_invK (wJ e fun z=>c (by rw[z]));rw[ry e] at i;rw[wI i] at hb;exact⟨_,.t f (j _ _ hb),rz (inj:=id) rB (fun _ _ z=>z) k pr⟩
  | _=>cases e
theorem MH(h:iZ G H a tk kvs)(p:bW G H){y v:V}{d x:PyData}{k:List bd}(i:DV G y d)(j:DV G v x)(e:jj tk d=some k)(l:kvs.length<sizeLine) :
  ∃o,lH H a y v (aQ H a o)/\Mv o/\∀c,bW G c->iZ c (aQ H a o) a tk (kG tk kvs d k x):=by
 obtain⟨e,f⟩:=BT e;cases tk with
 | false=>obtain⟨q,g,pr⟩:=h;obtain⟨u,m,r⟩:=Option.map_eq_some_iff.mp e;subst r;obtain rfl:=wG i m;refine⟨_,.k g (by rw[Paired.length pr];exact l),trivial,fun c s=>⟨_,cF,BR BS rA (DV.mono s j) (BN m).symm (Paired.mapP pr fun _ _ z=>⟨z.1,DV.mono s z.2⟩)⟩⟩
 | true=>
  obtain⟨q,g,pr⟩:=h;cases d with
  | tuple ds=>obtain⟨b,w,rfl,hb,n⟩:=i.tup_invK (wJ e fun z=>f (by rw[z]));rw[ry e] at n;rw[wI n] at hb;exact⟨_,.t g (p _ _ hb) (by rw[Paired.length pr];exact l),trivial,fun c s=>⟨_,cF,BR (inj:=id) rB (fun _ _ z=>z) (DV.mono s j) (show qY k=_ by unfold qY;rw[<-ry e]) (Paired.mapP pr fun _ _ z=>⟨z.1,DV.mono s z.2⟩)⟩⟩
  | _=>cases e
end
section
variable{X:Cx}{F:Fx}{E:Str->ao->Prop}{e a b c:Expr}{es:List Expr}{st:Stmt}{rest:List Stmt}{pos:Pos}{x:Str}
@[simp] noncomputable def wK:List PyData->Option PyData:=fun f=>match f with
 | [.list as,.list bs,.list d]=>if bs.length=as.length/\d.length=as.length/\0<as.length then some (.list (oH as bs d)) else none
 | _=>none
theorem MI{g:XM (List PyData)}(h:DE X F e (Be (wp E g))):FE X F E e (cR wK g):=h.imp aL fun U Q q=>aL _ _ _ (fun l k i=>by
 obtain⟨d,f,j⟩:=dm i;unfold wK at f;split at f
 ·split at f
  ·rename_i h;cases f;exact⟨_,_,_,rfl,h.1,h.2.1,h.2.2,j⟩
  ·cases f
 ·cases f) (cg q)
@[simp] noncomputable def BV(k:Nat):PyData->Option PyData:=fun d=>match d with | .list ds=>some (.list (ds.drop k)) | _=>none
@[simp] noncomputable def xU(g:PyData->Option PyData)(a:XM PyData):XM PyData:=fun U=>(a U).bind fun d=>lift (g d)
theorem MJ{k:Nat}{f:XM PyData}(h:DE X F e (Bg (wp E f) k)):FE X F E e (xU (BV k) f):=h.imp aL fun U Q q=>aL _ _ _ (fun d l i=>by
 obtain⟨y,g,j⟩:=dm i;cases d with
 | list ds=>cases g;exact⟨_,rfl,j⟩
 | _=>cases g) (cg q)
end
noncomputable abbrev oQ:List Value:=[.type "ValueError",.type "Exception",.type "BaseException",.type "object"]
def wL(h:Heap)(C:Addr):Prop:=∃c N e q bs a f sub g b n i j k l m d,h.get? C=some (excClassObj e q C N bs c a f sub g b n i j k l m "ValueError.__new__")/\h.Ns N d/\d "__init__" = none/\OwnTail h oQ c
theorem wM{K:Frag}{h:Heap}{C:Addr}(X:K.In h)(e:excIn K C oQ "ValueError.__new__" = true):wL h C:=by
 unfold excIn at e;split at e
 ·rename_i j k m n;split at e
  ·rename_i I o p q r s J t d a;have f:=e;simp only[Bool.and_eq_true,beq_iff_eq] at f;obtain⟨⟨⟨⟨⟨u,v⟩,g⟩,w⟩,b⟩,i⟩:=f;obtain⟨x,y,L,z,A,B,D,E,G,c,H⟩:=k;obtain⟨l⟩:=m;simp at g d a b i;subst u v g d a;exact⟨o,z,x,A,y,B,D,E,G,c,j,p,q,r,s,t,_,X _ _ n,.of_isNs (PySem.W.isNs_of_in X b),PySem.W.nsMap_none_of_in X b i,PySem.W.tail_of_in X w⟩
  ·cases e
 ·cases e
structure EC (K:Frag) (mg:Str->Option Value) (c:Str) (C:Addr):Prop where
 mg:mg c=some (.ref C)
 ns:nsIn K mainGlobals c=some (some (.ref C))
 ex:excIn K C oQ "ValueError.__new__" = true
@[simp] noncomputable def il(c:Str):SM:=fun U=>.ex c U
section
variable{X:Cx}{F:Fx}{E:Str->ao->Prop}
theorem _root_.L2.Inv.madeX{a:List (Addr×Obj)}{Y:St}{H:Hp}{s:Shared}{c:Heap}{e:Addr}{C:Value}{d:List Value}(I:Inv X a Y H s)(m:Heap.MadeExcOf s.heap c e C d):Inv X a Y H { s with heap:=c }/\kt X a s.heap/\eZ s.heap H c e C none:=by have hb:∀b,s.heap.get? b=none->H b=none:=fun b z=>bC.some_of I.hok z;obtain⟨t,h1,h2,h3⟩:=m.there;refine⟨I.ch I.cov ⟨fun b o q _ _=>m.keeps b o q,fun b o _ q=>⟨o.slots,m.keeps b o q⟩,fun b o q=>⟨o,m.keeps b o q⟩⟩,I.cov,⟨fun b o q=>⟨o,m.keeps b o q⟩,m.new,hb e m.new,_,_,_,h1,rfl,rfl,rfl,.inl ⟨rfl,rfl⟩⟩⟩
theorem jk{c g:Str}{C:Addr}{j:Nat}{np a pos h:Pos}(u:fb X F E)(hh:X.A.handled=none)(v:Gl X c)(i:EC X.K X.mg c C)(k:(c==("__debug__":Str))=false:=by decide)
  (l:starEach [.Constant (.str g) j h] X.env=(false,eval (.Constant (.str g) j h) X.env)::starEach [] X.env:=by rfl) :
  FS X F E (.Raise (some (.Call (.Name c np) [.Constant (.str g) j h] [] a)) none pos) (il c):=fun b s Y H D I ⟨U,O,DD,st,q,f⟩=>by
 obtain⟨x,N,y,z,bs,d,B,sub,G,n,dd,J,L,M,Q,R,S,Z,hN,o,T⟩:=wM I.ok.mod.kin i.ex;refine wpAny_Raise_call_subU (C:=C) (nm:=y) (q:=z) (N:=N) (bs:=bs) (bm:=x) (hdct:=d) (sn:=B) (sub:=sub) (ab:=G) (col:=n) (dd:=dd) (k0:=J) (k1:=L) (k2:=M) (k3:=Q) (k5:=R) (mN:=S)
  PySem.F.excBase_ValueError (by decide) PySem.F.excBase_ValueError (T.hasType (by decide)) hh (by rw[l];rfl) o (mG I v i.mg ⟨rfl,?_⟩ k)
 have pa:PA X [.Constant (.str g) j h] _:=df (zj (X:=X)) ed l;have w:=pa a b s Y H (fun p t=>p.length=1/\t=H) I (by exact⟨rfl,rfl⟩);rw[l] at w ⊢;refine Calls.evalArgs_plain (aU w fun us s2 ⟨p,t,I1,r,h1,h2⟩=>?_);subst h2;refine⟨rfl,by show us.length<=_;rw[<-r.length,h1];decide,I1.bk _ _ Z,hN.keeps I1.bk,T.keeps I1.bk,fun h' e m=>?_⟩;obtain⟨I2,cv,ex⟩:=I1.madeX m;exact u.2 b Y _ _ _ c U O ⟨I2,e,.ref C,s2.heap,none,rfl,cv,ex,i.mg⟩ st q
end
noncomputable def rC(K:Frag)(C D:Addr):Bool:=match K.lookup C with
 | some ⟨_,_,.cls a,_⟩=>a.mro.contains (.ref D)
 | _=>false
noncomputable def oR(K:Frag)(C:Addr):Bool:=findIn K (.ref C) "__getattribute__"==some (some (.builtin "BaseException.__getattribute__"))&&findIn K (.ref C) "__class__"==some (some (.builtin "object.__class__"))&&findIn K (.ref C) "__getattr__"==some none &&
 mroIn K C (.type "BaseException")==some true&&mroIn K C (.type "object")==some true
noncomputable def BW(K:Frag)(D:Addr)(l:List Str):Bool:=l.all fun c=>match nsIn K mainGlobals c with
 | some (some (.ref C))=>excIn K C oQ "ValueError.__new__"&&rC K C D&&oR K C&&(kitOne K (.ref C) (.type "ValueError")==some true)&&l.all fun d=>match nsIn K mainGlobals d with
  | some (some (.ref a))=>kitOne K (.ref C) (.ref a)==some (c==d)
  | _=>false
 | _=>false
structure XT (K:Frag) (mg:Str->Option Value) (l:List Str) (D:Addr):Prop where
 top:EC K mg "DueError" D
 tab:BW K D l=true
 mgs:∀c C,nsIn K mainGlobals c=some (some (.ref C))->mg c=some (.ref C)
theorem XT.at_{K:Frag}{b:Str->Option Value}{l:List Str}{D:Addr}(x:XT K b l D){c:Str}(h:c∈l):∃C,EC K b c C/\rC K C D=true/\oR K C=true/\kitOne K (.ref C) (.type "ValueError")=some true/\
  ∀d∈l,∃a,b d=some (.ref a)/\nsIn K mainGlobals d=some (some (.ref a))/\kitOne K (.ref C) (.ref a)=some (c==d):=by
 have t:=List.all_eq_true.mp x.tab c h;split at t
 ·rename_i C e;simp only[Bool.and_eq_true] at t;obtain⟨⟨⟨⟨g,i⟩,j⟩,k⟩,m⟩:=t;refine⟨C,⟨x.mgs c C e,e,g⟩,i,j,by simpa using k,fun d hd=>?_⟩;have u:=List.all_eq_true.mp m d hd;split at u
  ·rename_i a f;exact⟨a,x.mgs d a f,f,by simpa using u⟩
  ·cases u
 ·cases t
theorem MK{K:Frag}{h:Heap}{C D N:Addr}{f q:Str}{bs d:List Value}{b:Bool}{g:List Str}{sub:List Value}{i:Bool}{c:Option Bool}{r:Option Addr}{j k l m n:Option Value}{a:String}
  (X:K.In h) (e:rC K C D=true) (p:h.get? C=some (excClassObj f q C N bs d b g sub i c r j k l m n a)):(Value.ref C::d).contains (.ref D)=true:=by
 unfold rC at e;split at e
 ·rename_i o;have:=X _ _ o;rw[p] at this;cases this;exact e
 ·cases e
theorem ML{M:Model}{A:Around}{E:Value->Shared->Prop}{h:Heap}{g:Array GenState}{d:Drawn}{t:Nat}{os:OsState}{e C D:Addr}{n:Obj}{Q:Bool->Shared->Prop}
  (I:wL h C) (xd:wL h D) (J:∀{o q N bs k a p sub r i H s u v w x c},h.get? C=some (excClassObj o q C N bs k a p sub r i H s u v w x c)->(Value.ref C::k).contains (.ref D)=true)
  (L:h.get? e=some n) (j:n.cls=.ref C) (O:Q true ⟨h,g,d,t,os⟩):wpAny M A (excMatches (.ref e) (.ref D)) Q E ⟨h,g,d,t,os⟩:=by
 obtain⟨k,N,o,q,bs,a,p,sub,r,i,H,s,u,v,w,x,mN,y,_,_,_⟩:=I;obtain⟨l,N',R,q',S,m,T,z,U,B,Y,Z,a0,a1,a2,a3,a4,G,_,_,T'⟩:=xd;have cB:(Value.ref D::l).contains (.type "BaseException")=true:=by rw[List.contains_cons,T'.hasType (X:="BaseException") (b:=true) (by decide),Bool.or_true]
 have cC:=J y;have f:=tc_notTuple;unfold excMatches
 repeat (first | (with_reducible refine wpAny_loadPart_at L ?_;rw[j]) | with_reducible refine wpAny_loadPart_at G ?_ | (with_reducible refine wpAny_isSubtype_exc G ?_;rw[cB]) | (with_reducible refine wpAny_isSubtype_exc y ?_;rw[cC]) | wp_step)
 exact O
noncomputable abbrev lT(X:Cx)(A:Around)(b:Bool)(a:List (Addr×Obj))(c:Value->Shared->Prop):Cx:={ X with A:=A,calm:=b,pn:=a,xe:=c }
section
variable{X:Cx}{F:Fx}{E:Str->ao->Prop}{pins pins':List (Addr×Obj)}{Y:St}{H:Hp}{s:Shared}{A:Around}{b:Bool}{xe:Value->Shared->Prop}
theorem _root_.L2.Inv.re(I:Inv X pins Y H s)(A:Around)(b:Bool)(xe:Value->Shared->Prop)(a:A.frames=X.A.frames)(d:b=true->A.handled=none):Inv (lT X A b (X.pn++pins) xe) [] Y H s:=
 ⟨⟨I.ok.mod,I.ok.kind,I.ok.glob,I.ok.blt,I.ok.above,I.ok.inj,I.ok.has,I.ok.cab,d,a.trans I.ok.frames,I.ok.stk,I.ok.exf,I.ok.bs,I.ok.bsz,I.ok.noex,I.ok.exfs,I.ok.funs,I.ok.frf⟩,I.os,I.bare,I.base,I.loc,I.cell,I.free,I.freeC,fun p c=>I.pin p (by simpa using c),I.hok,I.len⟩
theorem _root_.L2.Inv.unre(ok:X.Ok)(I:Inv (lT X A b (X.pn++pins) xe) pins' Y H s):Inv X pins Y H s:=
 ⟨ok,I.os,I.bare,I.base,I.loc,I.cell,I.free,I.freeC,fun p a=>I.pin p (bt _ a),I.hok,I.len⟩
theorem rD(ok:X.Ok){D:eW}{f:Flow}{d:Shared}(h:SP (lT X A b (X.pn++pins) xe) pins' D f d):SP X pins D f d:=by
 cases f with
 | next=>obtain⟨a,c,I,q⟩:=h;exact⟨a,c,I.unre ok,q⟩
 | brk=>obtain⟨a,c,I,q⟩:=h;exact⟨a,c,I.unre ok,q⟩
 | cont=>obtain⟨a,c,I,q⟩:=h;exact⟨a,c,I.unre ok,q⟩
 | ret u=>obtain⟨v,a,c,I,r,q⟩:=h;exact⟨v,a,c,I.unre ok,r,q⟩
theorem _root_.L2.Inv.caught{g:Heap}{a:Addr}{C:Value}{M:Option Value}(I:Inv X pins Y H s)(j:kt X pins g)(t:eZ g H s.heap a C M):Inv X pins Y (aQ H a (.ext fun h=>∃o,h.get? a=some o/\o.cls=C)) s:=by
 have l:∀b o,g.get? b=some o->b≠a:=fun b o e z=>by subst z;rw[t.lo] at e;cases e
 obtain⟨w,S,T,y,N,_⟩:=t.ob;have i:bW H (aQ H a (.ext fun h=>∃o,h.get? a=some o/\o.cls=C)):=bX t.un;refine⟨I.ok,I.os,I.bare,⟨I.base.keep,I.base.slot,fun b o e n B=>?_,I.base.there,fun b D e=>i _ _ (I.base.tups b D e),fun b o u e=>i _ _ (I.base.frzs b o u e),fun b O e=>let⟨m,q⟩:=I.base.tbls b O e;⟨m,i _ _ q⟩⟩,I.loc,I.cell,?_,fun x c e=>?_,fun p G=>?_,fun b u e=>?_,I.len⟩
 ·obtain⟨r,f⟩:=j.s0 b o e B;rw[bv (l _ _ f)];exact I.base.free b o e n B
 ·obtain⟨r,f⟩:=j.loc;rw[bv (l _ _ f)];exact I.free
 ·obtain⟨r,f⟩:=j.cell x c e;rw[bv (l _ _ f)];exact I.freeC x c e
 ·obtain⟨r,f⟩:=j.pin p G;obtain⟨J,L,h3⟩:=I.pin p G;exact⟨J,by rw[bv (l _ _ f)];exact L,h3⟩
 ·by_cases z:b=a
  ·subst z;rw[cF] at e;cases e;refine⟨⟨w,y,N⟩,⟨w,y⟩,fun J L ⟨o,Q,R⟩ k=>⟨o,k o Q,R⟩⟩
  ·rw[bv z] at e;exact(I.hok b u e).stay (fun d v hd q=>q) (fun d q=>i _ _ q) fun d D q=>i _ _ q
theorem MM{M:Model}{A:Around}{E:Value->Shared->Prop}{i:Nat}{x:Str}{pos:Pos}{Q:Unit->Shared->Prop}(I:Inv X pins Y H s)(G:X.N.Nodup)(J:X.N[i]? = some x)(a:X.env.scope.names.lookup x=some .local)
  (h:∀B,Inv X pins (Y.set i none) H B->Q () B):wpAny M A (do bindName X.env x .none;unbindBehindTheSuite X.env x pos) Q E s:=by
 obtain⟨m,C,L⟩:=id I.loc;have l:(X.env.scope.kind==.class||(X.env.scope.kind==.module&&X.env.locals != X.env.globals))=false:=by rw[I.ok.kind];rfl
 have cne:=I.cne;obtain⟨oL,_,_,O,_⟩:=id C;refine wpAny_nameGoes_keeps a C l fun h' v t f=>h _ ⟨I.ok,I.os,I.bare,⟨fun b o e n w a=>?_,fun b o e n w a=>?_,I.base.free,fun b o e a=>?_,I.base.tups,I.base.frzs,I.base.tbls⟩,⟨_,t,fun j y R g S T=>?_⟩,fun y c e=>?_,I.free,I.freeC,fun p U=>?_,fun b ob e=>?_,?_⟩
 ·exact(f.2 b (Nat.ne_of_lt (Nat.lt_of_lt_of_le (bw e) I.ok.above))).trans (I.base.keep b o e n w a)
 ·obtain⟨sl,g⟩:=I.base.slot b o e n w a;exact⟨sl,(f.2 b (Nat.ne_of_lt (Nat.lt_of_lt_of_le (bw e) I.ok.above))).trans g⟩
 ·obtain⟨Z,g⟩:=I.base.there b o e a;exact⟨Z,(f.2 b (Nat.ne_of_lt (Nat.lt_of_lt_of_le (bw e) I.ok.above))).trans g⟩
 ·rcases gk S with⟨_,z,_⟩ | ⟨hj,u⟩
  ·cases z
  ·obtain⟨u',r',q⟩:=L j y R g u T;refine⟨u',r',?_⟩;rcases q with⟨k,e⟩ | ⟨k,c,e,z⟩
   ·refine .inl ⟨k,?_⟩;have:y≠x:=fun e=>hj (va G g (e▸J));simp[this,e]
   ·exact .inr ⟨k,c,e,z.sameBut f (cne y c e)⟩
 ·obtain⟨D,z⟩:=I.cell y c e;exact⟨D,z.sameBut f (cne y c e)⟩
 ·obtain⟨e,n,ne,nf,d⟩:=I.pin p U;exact⟨(f.2 p.1 ne).trans e,n,ne,nf,d⟩
 ·refine(I.hok b ob e).stay (fun c D r q=>(f.2 c ?_).trans q) (fun _ q=>q) fun _ _ q=>q;rintro rfl;rcases r with rfl | r
  ·rw[I.free] at e;cases e
  ·rw[I.free] at r;cases r
 ·rw[List.length_set];exact I.len
end
section
variable{K:Frag}{F:Fx}{H H':Hp}{Y Y':St}{U U':ao}{O O':List Addr}{W:List (List Addr)}
noncomputable def Fx.here(F:Fx)(H:Hp)(L:List Addr):Fx:=⟨H,L,F.O₀,F.I₀⟩
theorem cb.here(st:cb K F H Y U W):cb K (F.here H W.flatten) H Y U W:=⟨st.at_,st.nd,fun _ _ _ e=>e,fun _ h=>.inl h,st.live,st.len,st.lw,st.io⟩
theorem wN(st:cb K F H Y U W){a:Addr}(h:a∈W.flatten\/H a=none):a∈F.A₀\/F.H₀ a=none:=by
 rcases h with h | h
 ·exact st.new a h
 ·by_cases b:a∈F.A₀
  ·exact .inl b
  ·refine .inr ?_;cases e:F.H₀ a with
   | none=>rfl
   | some o=>have:=st.kept a o b e;rw[h] at this;cases this
theorem dQ{fp:List Addr}(st:cb K F H Y U W)(c:aE K ((F.here H W.flatten).plus fp) H' Y' U' O'):aE K (F.plus fp) H' Y' U' O':=by
 obtain⟨f,h,e⟩:=c;refine⟨f,⟨h.at_,h.nd,fun b o d e=>h.kept b o (fun z=>?_) (st.kept b o d e),fun a g=>wN st (h.new a g),h.live,h.len,h.lw,h.io⟩,e⟩;rcases st.new b z with q | q
 ·exact d q
 ·rw[show F.H₀ b=some o from e] at q;cases q
theorem MN(c:aE K (F.here H W.flatten) H' Y' U' O'):aM (W.flatten++F.O₀) H O' H':=by
 obtain⟨g,h,rfl⟩:=c;refine⟨fun b o f e=>h.kept b o (fun z=>f (bt _ z)) e,fun a d=>?_⟩;rcases List.mem_append.mp d with z | z
 ·exact(h.new a z).imp (bt _) id
 ·exact .inl (bo _ z)
theorem fU.here{D:eW}{e:et}(st:cb K F H Y U W)(f:fU K F O H D e):fU K (F.here H W.flatten) O H D e:=
 ⟨fun Y' H' U' O' d b q=>f.nx Y' H' U' O' (dQ (fp:=[]) st d) b q,fun v Y' H' c U' O' g r b q=>f.rt v Y' H' c U' O' g ⟨dQ st r.st,r.at_,fun a h=>wN st (r.new a h)⟩ b q,
  fun Y' H' U' O' d b q=>f.bk Y' H' U' O' (dQ (fp:=[]) st d) b q,fun Y' H' U' O' d b q=>f.ct Y' H' U' O' (dQ (fp:=[]) st d) b q⟩
theorem aE.clear(st:aE K F H Y U O)(i:Nat):∃O',aE K F H Y (U.set i none) O'/\aM O H O' H:=by
 obtain⟨W,h,rfl⟩:=st;have sub:∀a∈(W.set i []).flatten,a∈W.flatten:=fun a d=>by
  rcases fz d with z | ⟨j,l,_,e,m⟩
  ·cases z
  ·exact bY e m
 have f:aM (W.flatten++F.O₀) H ((W.set i []).flatten++F.O₀) H:=fC fun a d=>by
  rcases List.mem_append.mp d with z | z
  ·exact bt _ (sub a z)
  ·exact bo _ z
 refine⟨_,⟨W.set i [],⟨fun j c e=>?_,ox h.nd List.nodup_nil (fun a d=>by cases d),h.kept,fun a d=>h.new a (sub a d),fun a d=>h.live a ?_,by rw[List.length_set];exact h.len,by rw[List.length_set,List.length_set];exact h.lw,fun j b e=>?_⟩,rfl⟩,f⟩
 ·rcases gk e with⟨_,z,_⟩ | ⟨k,g⟩
  ·cases z
  ·obtain⟨v,n,h1,h2,h3⟩:=h.at_ j c g;exact⟨v,n,h1,by rw[List.getElem?_set_ne (Ne.symm k)];exact h2,h3.keep f (fun _ _=>rfl) fun _ _ _ e=>e⟩
 ·rcases List.mem_append.mp d with z | z
  ·exact bt _ (sub a z)
  ·exact bo _ z
 ·rcases gk e with⟨_,z,_⟩ | ⟨k,g⟩
  ·cases z
  ·exact h.io j b g
end
noncomputable def jl(l:List Str)(i:Nat)(b e:SM):SM:=fun U=>match b U with
 | .ex c f=>if c∈l then(match e (f.set i (some (.exc c))) with | .rt d a=>.rt d (a.set i none) | _=>.bad) else .bad
 | o=>o
section
variable{X:Cx}{F:Fx}{E:Str->ao->Prop}
theorem MO{l:List Str}{D a:Addr}{c:Str}{C:Value}{g:Heap}{O:Option Value}{np e:Pos}{p:Option Str}{G:Stmt}{i:List Stmt}{d:List (Addr×Obj)}{Y:St}{H:Hp}{s:Shared}{Q:Flow->Shared->Prop}{k:Value->Shared->Prop}
  (t:XT X.K X.mg l D) (R:Gl X "DueError") (j:X.stack=X.env::X.outer) (u:X.env.frame=some X.env.locals) (S:c∈l) (J:Inv X d Y H s) (T:kt X d g) (ex:eZ g H s.heap a C O) (U:X.mg c=some C)
  (h:∀v,Inv X d Y H v->eZ g H v.heap a C (some .none)->codeAny (model X.prog X.w) (X.A.mark (some (.ref a))) (.handlers (.ref a) [.ExceptHandler none p (G::i) e] X.env) (fun r m=>match r with
     | .ok f=>(match p with
      | none=>Q f m
      | some n=>wpAny (model X.prog X.w) X.A (do bindName X.env n .none;unbindBehindTheSuite X.env n e) (fun _ y=>Q f y) k m)
     | .error x=>cameBackBy (model X.prog X.w) X.A X.env k x m) v) :
  wpAny (model X.prog X.w) X.A (noteFrame (.ref a) X.env) (fun _ m=>wpAny (model X.prog X.w) X.A (setFlight (.ref a) none) (fun _ y=>wpAny (model X.prog X.w) X.A (handleBy (.ref a) X.env [.ExceptHandler (some (.Name "DueError" np)) p (G::i) e]) Q k y) k m) k s:=by
 have Z:X.A.frames=some (X.env::X.outer):=by rw[J.ok.frames,j]
 have stk:s.heap.FunFrames X.base (X.env::X.outer):=by have:=J.stack;rw[j] at this;exact this
 have hb:∀b,s.heap.get? b=none->H b=none:=fun b z=>bC.some_of J.hok z;refine AJ (base:=X.base) Z stk u hb ex fun h1 I x1=>?_;refine vT (s:={ s with heap:=h1 }) (fs:=bV (X.env::X.outer)) none (vU (I.frames (fun _ h=>h) stk)) x1 fun h2 c2 L=>?_;have o:Inv X d Y H { s with heap:=h2 }:=J.ch T (by rw[j];exact I.trans c2);refine wpAny_handleBy_cons (codeAny_handlers_test ?_) (by intro q;cases q);have J3:=o.re (X.A.mark (some (.ref a))) false X.xe rfl (fun z=>by cases z);refine mG (X:=lT X (X.A.mark (some (.ref a))) false (X.pn++d) X.xe) J3 R t.top.mg ?_ (by decide);obtain⟨M,N,hu,_⟩:=t.at_ S;have eC:C=.ref M:=Option.some.inj (U.symm.trans N.mg);obtain⟨oe,vs,a0,he,B,_⟩:=L.ob;refine ML (C:=M) (wM o.kIn N.ex) (wM o.kIn t.top.ex) (fun hC=>MK o.kIn hu hC) he (B.trans eC) ?_;exact h _ o L
theorem MP{l:List Str}{D:Addr}{i:Nat}{n:Str}{np M pos:Pos}{body k:List Stmt}{b₀:Stmt}{mb mh:SM}(xt:XT X.K X.mg l D)(hg:Gl X "DueError")(y:X.stack=X.env::X.outer)(a0:X.env.frame=some X.env.locals)(hN:X.N.Nodup)(hi:X.N[i]? = some n)(hn:X.env.scope.names.lookup n=some .local)
  (hG:GF X.mg F) (hb:∀Q pn Z R,fb (lT X X.A X.calm pn Z) Q R->PassesOwn (model X.prog X.w) X.A X.env Z->jN (lT X X.A X.calm pn Z) Q R body mb)
  (hs:∀Q e pn Z,GF X.mg Q->jN (lT X (X.A.mark (some e)) false pn Z) Q dJ (b₀::k) mh) :
  FS X F E (.Try body [.ExceptHandler (some (.Name "DueError" np)) (some n) (b₀::k) M] [] [] pos) (jl l i mb mh):=fun b s Y H D' I ⟨U,O,DD,st,q,f⟩=>by
 obtain⟨W,m,rfl⟩:=id st;have S:GF X.mg (F.here H W.flatten):=(hG.at st).frame fun a h=>m.live a (bt _ h);let R:Str->ao->Prop:=fun c T=>c∈l/\∃d j,mh (T.set i (some (.exc c)))=.rt d j/\DD.rt d (j.set i none);have q1:cq R mb DD U:=by
  unfold cq jl at q;unfold cq;generalize mb U=o at q ⊢;cases o with
  | ex c T=>
   simp only at q
   by_cases G:c∈l
   ·rw[if_pos G] at q;refine⟨G,?_⟩;generalize mh (T.set i (some (.exc c)))=o2 at q ⊢;cases o2 with
    | rt d j=>exact⟨d,j,rfl,q⟩
    | _=>exact q.elim
   ·rw[if_neg G] at q;exact q.elim
  | _=>exact q
 refine wpAny_Try_except ?_;refine aU (hb (F.here H W.flatten) (X.pn++b) _ R ?_ PassesOwn.looking [] s Y H D' (I.re X.A X.calm _ rfl I.ok.hd) ⟨U,_,DD,⟨W,m.here,rfl⟩,q1,f.here m⟩) fun fw s1 h=>?_
 ·refine⟨S,?_⟩;intro a1 Y' H' s' e c T O' ⟨J1,a,C,g,fl,e1,cv,ex,hm⟩ t ⟨G,d,j,a2,hd⟩;subst e1;have J:Inv X b Y' H' s':=J1.unre I.ok;have B:kt X b g:=⟨cv.s0,cv.loc,cv.cell,fun p hp=>cv.pin p (bt _ hp)⟩
  have a3:i<T.length:=by rw[t.lenE,J.len];exact(List.getElem?_eq_some_iff.mp hi).1
  refine MO xt hg y a0 G J B ex hm fun L J3 x3=>codeAny_handlers_suite_as ?_;have stk:L.heap.FunFrames X.base (X.env::X.outer):=by have:=J3.stack;rw[y] at this;exact this
  refine vT (s:=L) (fs:=bV (X.env::X.outer)) none (vU stk) x3 fun h4 c4 x4=>?_;have J4:Inv X b Y' H' { L with heap:=h4 }:=J3.ch B (by rw[y];exact c4);have J5:=J4.caught B x4;obtain⟨C',ec,_⟩:=xt.at_ G;have eC:C=.ref C':=Option.some.inj (hm.symm.trans ec.mg);refine vb J5 hN hi (.inl hn) (v:=.ref a) rfl (fun s5 J6=>?_) (.inr hn);have sm:=bX (o:=.ext fun h=>∃o,h.get? a=some o/\o.cls=C) ex.un;have na:a∉O':=t.nofree a ex.un;have cell:cX X.K (aQ H' a (.ext fun h=>∃o,h.get? a=some o/\o.cls=C)) O' (.ref a) (.exc c) []:=⟨a,_,rfl,ie cF na,fun h ⟨o,z1,z2⟩=>⟨C',o,ec.ns,z1,z2.trans eC⟩⟩
  obtain⟨O6,a4,s6⟩:=aE.put1 (io:=false) (F:=F.here H W.flatten) (fp:=[]) (i:=i) (t.grow sm) cell (fun _ z=>by cases z) a3 (fun _ z=>by cases z);have step:aM (W.flatten++F.O₀) H O6 _:=(MN t).trans ((aM.same sm).trans s6);refine aU (hs (F.here H W.flatten) (.ref a) (X.pn++b) _ S [] s5 _ _ ⟨fun _ _=>False,D'.rt,fun _ _=>False,fun _ _=>False⟩ (J6.re (X.A.mark (some (.ref a))) false _ rfl (fun z=>by cases z)) ⟨_,O6,⟨fun _=>False,fun d j=>DD.rt d (j.set i none),fun _=>False,fun _=>False⟩,a4,?_,?_⟩) fun fw s6 h6=>?_
  ·unfold cq;rw[a2];exact hd
  ·refine⟨fun _ _ _ _ _ _ z=>z.elim,fun v Y2 H2 c2 U2 O2 fp r s2 qq=>?_,fun _ _ _ _ _ _ z=>z.elim,fun _ _ _ _ _ _ z=>z.elim⟩;have r2:aE X.K (F.plus fp) H2 Y2 U2 O2:=dQ m r.st;obtain⟨O3,r3,L⟩:=r2.clear i;exact f.rt v Y2 H2 c2 _ O3 fp ⟨r3,r.at_.keep L (fun _ _=>rfl) (fun _ _ _ e=>e),fun x hx=>wN m (r.new x hx)⟩ (step.trans (s2.trans L)) qq
  ·cases fw with
   | next=>obtain⟨_,_,_,z⟩:=h6;exact z.elim
   | brk=>obtain⟨_,_,_,z⟩:=h6;exact z.elim
   | cont=>obtain⟨_,_,_,z⟩:=h6;exact z.elim
   | ret u=>obtain⟨v,Y7,H7,J8,r8,q8⟩:=h6;exact MM (J8.unre I.ok) hN hi hn fun s9 J9=>⟨v,_,H7,J9,r8,q8⟩
 ·cases fw with
  | next=>exact wpAny_execs_nil (rD I.ok h)
  | brk=>exact rD I.ok h
  | cont=>exact rD I.ok h
  | ret u=>exact rD I.ok h
end
structure cI (k:Nat) (A:Around):Prop where
 dp:A.depth+3 * k+5<recursionLimit
 un:A.units+16 * k+200<cLine
theorem bz.h{k:Nat}{A:Around}(r:bz k A)(v:Option Value):cI k (A.mark v):=⟨r.dp,r.un⟩
theorem cI.deeper{k:Nat}{A:Around}(r:cI (k+1) A)(a:Env):cI k (A.deeper a):=
 ⟨by have:=r.dp;show A.depth+1+3 * k+5<_;omega,by have:=r.un;show A.units+3+16 * k+200<_;omega⟩
structure fi (P:Program) (w:World) (K:Frag) (mg:Str->Option Value) (base:Heap) (CX:fP) (k:Nat) (f:Addr) (fd:FuncData) (ps:List Str) (sp:Sp):Prop where
 len:∀vs H Q E,sp vs H Q E->vs.length=ps.length
 run:∀(A:Around) (outer:List Env) (s:Shared) (H:Hp) (args:Args) (us:List Value) (vs:List V) (Q:VK) (E:XK),cI k A->ee P w K mg base A outer s H->BindsTo s fd args (ps.zip us)->bq vs us->sp vs H Q E->
  codeAny (model P w) A (.call (.ref f) args) (CR CX outer P w H s Q E) s
noncomputable abbrev lU(d:fP)(P:Program)(w:World)(K:Frag)(g:Str->Option Value)(base:Heap)(N:List Str)(c:Str)(a:Scope)(f:Addr)(e:Value)(A:Around)(b:List Env)(s:Shared)(H:Hp)(E:XK):Cx:=
 { jE d P w K g base N c a f e A b s H E with calm:=false }
theorem MQ{k:fP}{P:Program}{w:World}{K:Frag}{j:Str->Option Value}{base:Heap}{N e:List Str}{c:Str}{a:Scope}{f:Addr}{g:Value}{A:Around}{b:List Env}{s l:Shared}{H:Hp}{E:XK}{h:List Value}{i:List V}
  (S:aa N e a) (d:ee P w K j base A b s H) (m:i.length=e.length) (r:bq i h)
  (x:InCallC s s.heap.objs.size (bindL (envOfC c a s.heap.objs.size f g).kindOf (e.zip h) fun _=>none) (cellsFrom (s.heap.objs.size+1) a.names []) (bindC (envOfC c a s.heap.objs.size f g).kindOf (e.zip h) fun _=>none) l) :
  Inv (lU k P w K j base N c a f g A b s H E) [] (start N i) H l:=by
 have n:ee P w K j base { A with handled:=none } b s H:=⟨d.frames,d.mod,d.bs,d.bsz,d.funs,d.frf,d.hok,d.bare⟩
 have I:=zQ (CX:=k) (E:=E) (qual:=c) (f:=f) (cd:=g) S rfl n m r x;exact⟨⟨I.ok.mod,I.ok.kind,I.ok.glob,I.ok.blt,I.ok.above,I.ok.inj,I.ok.has,I.ok.cab,(fun z=>by cases z),I.ok.frames,I.ok.stk,I.ok.exf,I.ok.bs,I.ok.bsz,I.ok.noex,I.ok.exfs,I.ok.funs,I.ok.frf⟩,I.os,I.bare,I.base,I.loc,I.cell,I.free,I.freeC,I.pin,I.hok,I.len⟩
theorem MR{D:fP}{P:Program}{w:World}{K:Frag}{M:Str->Option Value}{base:Heap}{k:Nat}{f:Addr}{name d:Str}{h:Arguments}{body:List Stmt}{a:Scope}{dV kV z pm g ct oc:Value}{Z od:Option Addr}
  {O:Array (Option Value)}{N G:List Str}{R:Sp}(lk:K.lookup f=some ⟨oc,od,.func (fnOf name d h body a dV kV z pm Z g ct),O⟩) (T:codeIn K g d=true) (S:aa N G a)
  (len:∀i H Q E,R i H Q E->i.length=G.length)
  (l:∀(A:Around) (c:List Env) (s:Shared) (H:Hp) (i:List V) (Q:VK) (E:XK),cI k (A.deeper (envOfC d a s.heap.objs.size f g))->R i H Q E->
   ∃t,PSs (lU D P w K M base N d a f g A c s H E) body t/\t { nx:=fun _ j=>Q .non j,rt:=Q } (start N i) H) :
  fi P w K M base D (k+1) f (fnOf name d h body a dV kV z pm Z g ct) G R:=by
 refine⟨len,fun A c s H args us i Q E hr B hb r C=>?_⟩;have hl:=len _ _ _ _ C;have KX:K.In s.heap:=B.mod.kin.keeps fun b o e=>(B.bs b o e).1;have U:s.heap.NoLimit:=B.mod.nolimit.keeps fun b o e=>(B.bs b o e).1;have m:∀y∈G.zip us,a.names.lookup y.1=some .local\/(a.names.lookup y.1=some .cell/\((cellsFrom (s.heap.objs.size+1) a.names []).lookup y.1).isSome=true):=fun⟨n,v⟩ hy=>by
  rcases S.par n (List.of_mem_zip hy).1 with q | q
  ·exact .inl q
  ·exact .inr ⟨q,PySem.W.cellsFrom_some _ _ _ (.inl q)⟩
 refine codeAny_call_function (by have:=hr.dp;omega) (KX _ _ lk) rfl S.co S.gen rfl (PySem.W.codeRec_of KX T) (hb _ _ _ _ ?_);refine wpAny_newFunctionEnv_cells S.kind m fun a0 he s1 x=>?_;subst he;refine⟨U.keeps x.toInCall.keep,codeAny_func ?_⟩;obtain⟨t,ht,hq⟩:=l A c s H i Q E (hr.deeper _) C;have I:Inv (lU D P w K M base N d a f g A c s H E) [] (start N i) H s1:=MQ S B hl r x;refine wpAny_mono (ht [] s1 (start N i) H _ I hq) (fun fl X p=>?_) fun e X p=>p;have fin:∀{L:St}{j:Hp}{v:V}{u:Value},Inv (lU D P w K M base N d a f g A c s H E) [] L j X->bp v u->Q v j->CE c P w H s Q u X:=
  fun {L j v u} J Y q=>⟨v,j,J.os,J.bare,J.base,J.hok,Y,q⟩
 cases fl with
 | ret u=>obtain⟨v,L,j,J,Y,q⟩:=p;exact fin J Y q
 | next=>obtain⟨L,j,J,q⟩:=p;exact fin (v:=V.non) (u:=Value.none) J rfl q
 | brk=>obtain⟨_,_,_,q⟩:=p;exact False.elim q
 | cont=>obtain⟨_,_,_,q⟩:=p;exact False.elim q
theorem MS{P:Program}{w:World}{K:Frag}{l:Str->Option Value}{base:Heap}{N:List Str}{i:Str}{d:Scope}{f:Addr}{j:Value}{A:Around}{h:List Env}{s:Shared}{H:Hp}{E:XK}{F:Fx}{n:Str->ao->Prop}
  (v:GF l F) (x:∀c C p y r B,l c=some C->aE K F r y p B->n c p->E C none r):fb (lU (ba P w) P w K l base N i d f j A h s H E) F n:=by
 refine⟨v,?_⟩;intro t Y k D e c U O ⟨I,a,C,g,R,G,u,ex,L⟩ st q;subst G;have M:(A.deeper (envOfC i d s.heap.objs.size f j)).frames=some (envOfC i d s.heap.objs.size f j::h):=I.ok.frames;have hb:∀b,D.heap.get? b=none->k b=none:=fun b z=>bC.some_of I.hok z;have stk:bV (envOfC i d s.heap.objs.size f j::h)=s.heap.objs.size::bV h:=rfl;refine AK (base:=base) M I.stack rfl hb ex fun S ch m=>?_;have J:=I.ch u ch;refine⟨a,C,k,rfl,J.os,J.bare,J.base,J.hok,m.weak fun b o Q=>u.s0 b o Q (by intro z;cases z),x c C U Y k O L st q⟩
section
variable{P:Program}{w:World}{K:Frag}{mg:Str->Option Value}{base:Heap}{x qual:Str}{st:Stmt}{f:Addr}{fd:FuncData}{N ps:List Str}{k:Nat}{m:SM}
theorem MT(Fn:lG K x qual st f fd)(S:aa N ps (bf st))(hN:ps.length<=N.length)
  (Z:∀(y:Value) (A:Around) (t:List Env) (s:Shared) (H:Hp) (E:XK) (F:Fx) (Y:Str->ao->Prop),cI k (A.deeper (envOfC qual (bf st) s.heap.objs.size f y))->fb (lU (ba P w) P w K mg base N qual (bf st) f y A t s H E) F Y->
   gG (lU (ba P w) P w K mg base N qual (bf st) f y A t s H E) F (iB st) (cq Y m)):fi P w K mg base (ba P w) (k+1) f fd ps (be K mg (bi ps.length N.length m)):=by
 obtain⟨oc,od,kV,a3,pm,an,y,ct,a4,rfl,lk,a0⟩:=Fn.ex;have G:∀B H Q E,be K mg (bi ps.length N.length m) B H Q E->B.length=ps.length:=fun B H Q E ⟨_,l,u,O₀,L,_,_,q⟩=>by
  rw[L.len.1];unfold bi at q
  by_cases h:l.length=ps.length
  ·exact h
  ·rw[if_neg h] at q;exact q.elim
 refine MR lk a0 S G fun A t s H B Q E hr M=>?_;have a5:=G B H Q E M;obtain⟨gh,l,u,O₀,L,nd,live,q⟩:=M;obtain⟨l1,l2⟩:=L.len;have O:l.length=ps.length:=by omega
 let F:Fx:=⟨H,u.flatten,O₀,lK B⟩
 have R:=AO (N:=N) L nd live (by omega);have fin:∀{T:St}{j:Hp}{n:ao}{J:List Addr}{fp:List Addr}{g:List Bx},aE K (F.plus fp) j T n J->(∀a∈fp,a∈F.A₀\/F.H₀ a=none)->cK l n = some g->∃d,aV j (d.flatten++fp++O₀) B l g d/\gn H j u.flatten (d.flatten++fp) O₀/\aM J j (d.flatten++fp++O₀) j:=by
  rintro T j n J fp g ⟨W,p,rfl⟩ a1 ho;obtain⟨d,o,sb⟩:=rf p l B 0 g l1 (fun i io b e=>L.ios i io b e) ho;have X:d.flatten.Sublist W.flatten:=sb;have sub:(d.flatten++fp++O₀).Sublist (W.flatten++(fp++O₀)):=by rw[List.append_assoc];exact List.Sublist.append X (List.Sublist.refl _)
  have D:aM (W.flatten++(fp++O₀)) j (d.flatten++fp++O₀) j:=fC fun a h=>sub.subset h;refine⟨d,o.mono D,⟨p.nd.sublist sub,fun a h=>p.live a (sub.subset (bt _ h)),fun b o hb e=>p.kept b o hb e,fun a h=>?_⟩,D⟩;rcases List.mem_append.mp h with h | h
  ·exact p.new a (X.subset h)
  ·exact a1 a h
 have a2:bi ps.length N.length m l=(match m (gJ N.length ps.length l) with
  | .nx U=>(match cK l U with | some o=>.rt (.dat .none) o | none=>.bad)
  | .rt c U=>(match cK l U with | some o=>.rt c o | none=>.bad)
  | .ex c U=>(match cK l U with | some o=>.ex c o | none=>.bad)
  | _=>.bad):=by unfold bi gJ;rw[if_pos O]<;>rfl
 rw[a2] at q;rw[O] at R;let Y:Str->ao->Prop:=fun c n=>∃g,cK l n = some g/\∀C j d,mg c=some C->aV j (d.flatten++O₀) B l g d->gn H j u.flatten d.flatten O₀->E C none j;refine⟨_,Z y A t s H E F Y hr (MS (gh.frame fun a h=>live a (bt _ h)) fun c C n T j J I p ⟨g,ho,k⟩=>?_),?_⟩
 ·obtain⟨d,o,b,_⟩:=fin (fp:=[]) p (fun a h=>by cases h) ho;rw[List.append_nil] at o b;exact k C j d I o b
 ·refine⟨gJ N.length ps.length l,_,⟨fun n=>∃g,cK l n = some g/\∀j d,aV j (d.flatten++[]++O₀) B l g d->gn H j u.flatten (d.flatten++[]) O₀->Q .non j,fun c n=>∃g,cK l n = some g/\∀v j fp d,cX K j (d.flatten++fp++O₀) v c fp->aV j (d.flatten++fp++O₀) B l g d->gn H j u.flatten (d.flatten++fp) O₀->Q v j,fun _=>False,fun _=>False⟩,⟨_,R,rfl⟩,?_,?_⟩
  ·unfold cq;cases I:m (gJ N.length ps.length l) with
   | nx n=>
    rw[I] at q;cases ho:cK l n with
    | none=>simp[ho] at q
    | some g=>simp only[ho] at q;exact⟨g,ho,fun j d o b=>q .non j [] d .non o b⟩
   | rt c n=>
    rw[I] at q;cases ho:cK l n with
    | none=>simp[ho] at q
    | some g=>simp only[ho] at q;exact⟨g,ho,q⟩
   | ex c n=>
    rw[I] at q;cases ho:cK l n with
    | none=>simp[ho] at q
    | some g=>simp only[ho] at q;exact⟨g,ho,q⟩
   | bk n=>rw[I] at q;exact q
   | ct n=>rw[I] at q;exact q
   | bad=>rw[I] at q;exact q
  ·refine⟨fun T j n J p s' ⟨g,ho,k⟩=>?_,fun v T j c n J fp r s' ⟨g,ho,k⟩=>?_,fun _ _ _ _ _ _ z=>z.elim,fun _ _ _ _ _ _ z=>z.elim⟩
   ·obtain⟨d,o,b,_⟩:=fin (fp:=[]) p (fun a h=>by cases h) ho;exact k j d o b
   ·obtain⟨d,o,b,D⟩:=fin r.st r.new ho;exact k v j fp d (r.at_.keep D (fun _ _=>rfl) (fun _ _ _ e=>e)) o b
end
section
variable{X:Cx}{F:Fx}{e:Expr}{es:List Expr}{tX:gK}{E:Str->ao->Prop}{pos p:Pos}{x:Str}{f:FM}{k:Nat}{g:Addr}{fd:FuncData}{ps:List Str}
theorem MU{m:List (Addr×Obj)}{Y:St}{H:Hp}{s:Shared}{Q:VK}{L:List Value}{T:List V}{as:List AX}{U:ao}{O:List Addr}{QC:aj->ao->Prop}(hx:fb X F E)(G:fi X.prog X.w X.K X.mg X.base (ba X.prog X.w) k g fd ps (be X.K X.mg f))(hr:cI k X.A)(hb:ic X.K fd ps [])
  (I:Inv X m Y H s) (r:bq T L) (st:aE X.K F H Y U O) (ax:cQ Y (aw O H) T as) (q:gp f E QC as U) (hQ:∀c M,QC c M->∀v b Z N,gF X.K F b Y M Z v c N->aM O H Z b->Q v b) :
  wpAny (model X.prog X.w) X.A (call (.ref g) L) (EP X m Y Q) X.xe s:=by
 unfold gp at q;cases hc:gL U as with
 | none=>rw[hc] at q;exact q.elim
 | some p=>
  obtain⟨cs,js⟩:=p;rw[hc] at q;simp only at q;obtain⟨i,O2,a0,ar,s1,a8,nw,ja⟩:=rh st as T cs js hc ax;obtain⟨W,y,a1⟩:=id a0;have a4:(W.flatten++(i.flatten++F.O₀)).Nodup:=y.nd;have l:∀a,a∈O2↔a∈i.flatten++(W.flatten++F.O₀):=fun a=>by
   rw[a1];show a∈W.flatten++(i.flatten++F.O₀)↔_;simp only[List.mem_append];constructor
   ·rintro(h | h | h)<;>simp[h]
   ·rintro(h | h | h)<;>simp[h]
  have perm:(i.flatten++(W.flatten++F.O₀)).Perm (W.flatten++(i.flatten++F.O₀)):=by rw[<-List.append_assoc,<-List.append_assoc];exact List.Perm.append_right _ List.perm_append_comm
  have a2:(i.flatten++(W.flatten++F.O₀)).Nodup:=perm.nodup_iff.mpr a4;have a5:aM O2 H (i.flatten++(W.flatten++F.O₀)) H:=fC fun a h=>(l a).mpr h;have R:∀(b:Hp) (n:List Addr) (a:Addr),(a∈n++(W.flatten++F.O₀))->a∈n\/(a∈O2/\a∉i.flatten):=fun b n a h=>by
   rcases List.mem_append.mp h with h | h
   ·exact .inl h
   ·refine .inr ⟨(l a).mpr (bo _ h),fun z=>?_⟩;exact(List.nodup_append.mp a2).2.2 a z a h rfl
  have j:∀(b:Hp) (n:List Addr),gn H b i.flatten n (W.flatten++F.O₀)->∃B,aE X.K (F.plus n) b Y (fc js U) B/\aM O2 H B b/\∀a,a∈B↔a∈n++(W.flatten++F.O₀):=fun b n t=>by
   obtain⟨B,t1,t2,t3,t4,t5⟩:=a0.swap (H':=b) (L':=n) t.keep (List.nodup_append.mp t.nd).1 t.new nw t.live;refine⟨B,t1,t2,fun a=>⟨fun h=>?_,fun h=>?_⟩⟩
   ·rcases t4 a h with z | ⟨z1,z2⟩
    ·exact bt _ z
    ·rcases List.mem_append.mp ((l a).mp z1) with z | z
     ·exact absurd z z2
     ·exact bo _ z
   ·rcases R b n a h with z | ⟨z1,z2⟩
    ·exact t3 a z
    ·exact t5 a z1 z2
  have r2:bq (T++[]) (L++[]):=by rw[List.append_nil,List.append_nil];exact r
  let EX:XK:=fun C _ b=>∃c M Z,X.mg c=some C/\aE X.K F b Y M Z/\E c M;have sp:be X.K X.mg f T H Q EX:=by
   refine⟨hx.1.at st,cs,i,W.flatten++F.O₀,ar.mono a5,a2,fun a h=>?_,?_⟩
   ·exact y.live a (by have:=(l a).mpr h;rw[a1] at this;exact this)
   ·cases hf:f cs with
    | bad=>rw[hf] at q;exact q
    | rt c a3=>
     rw[hf] at q;simp only at q ⊢;intro v b N d a6 S t;obtain⟨B,t1,t2,t3⟩:=j b (d.flatten++N) t;have D:aM (d.flatten++N++(W.flatten++F.O₀)) b B b:=fC fun a h=>(t3 a).mp h;have J:∀a∈d.flatten++N,a∈F.A₀\/F.H₀ a=none:=fun a h=>by
      rcases t.new a h with z | z
      ·exact nw a z
      ·by_cases hA:a∈F.A₀
       ·exact .inl hA
       ·refine .inr ?_;cases e:F.H₀ a with
        | none=>rfl
        | some o=>have:=y.kept a o hA e;rw[z] at this;cases this
     have lj:(fc js U).length=U.length:=rg;obtain⟨O4,u1,u2⟩:=ri (fp:=N) ja lj t1 (S.mono D) fun a h=>J a (bt _ h);exact hQ c _ q v b O4 N ⟨u1,a6.keep (D.trans u2) (fun _ _=>rfl) (fun _ _ _ e=>e),fun a h=>J a (bo _ h)⟩ (s1.trans (t2.trans u2))
    | ex c a3=>
     rw[hf] at q;simp only at q ⊢;intro C b d hm S t;obtain⟨B,t1,t2,t3⟩:=j b d.flatten t;have D:aM (d.flatten++(W.flatten++F.O₀)) b B b:=fC fun a h=>(t3 a).mp h;have J:∀a∈d.flatten,a∈F.A₀\/F.H₀ a=none:=fun a h=>by
      rcases t.new a h with z | z
      ·exact nw a z
      ·by_cases hA:a∈F.A₀
       ·exact .inl hA
       ·refine .inr ?_;cases e:F.H₀ a with
        | none=>rfl
        | some o=>have:=y.kept a o hA e;rw[z] at this;cases this
     have lj:(fc js U).length=U.length:=rg;obtain⟨O4,u1,u2⟩:=ri (fp:=[]) ja lj (by rw[List.append_nil];exact t1) (S.mono D) J;exact⟨c,_,O4,hm,u1,q⟩
  have hl:(L++[]).length=ps.length:=by rw[List.append_nil,<-r.length];exact G.len _ _ _ _ sp
  refine wpAny_call (codeAny_mono (G.run X.A X.stack s H ⟨L,[]⟩ L T Q EX hr I.env0 (by have:=hb s L I.kIn hl;rw[List.append_nil] at this;exact this) r sp) fun r s' hq=>?_);cases r with
  | error e=>obtain⟨a,C,b,e1,I',cv,ex,c,M,Z,hm,a7,hE⟩:=I.flies hq;exact hx.2 m Y b s' e c M Z ⟨I',a,C,s.heap,_,e1,cv,ex,hm⟩ a7 hE
  | ok fl=>
   cases fl with
   | ret u=>exact I.after hq
   | next=>exact False.elim hq
   | brk=>exact False.elim hq
   | cont=>exact False.elim hq
theorem MV(L:fb X F E)(G:fi X.prog X.w X.K X.mg X.base (ba X.prog X.w) k g fd ps (be X.K X.mg f))(M:cI k X.A)(N:Gl X x)(R:X.mg x=some (.ref g))(S:keepIn X.K (.ref g)=true)(hb:ic X.K fd ps [])
  (o:DX X F (e::es) tX) (t:(x==("__debug__":Str))=false:=by decide) (T:starEach (e::es) X.env=(false,eval e X.env)::starEach es X.env:=by rfl) (u:(backTo pos (starEach es X.env)).any (·.1)=false:=by rfl) :
  DO X F (.Call (.Name x p) (e::es) [] pos) (vY f E tX):=by
 refine⟨fun U Q Q' k q=>o.mn _ _ _ (fun as b i=>AR k i) q,fun j s Y H Q I ⟨U,O,st,q⟩=>?_⟩;refine wpAny_Call_Name_kw (mG I N R ?_ t);refine PySem.W.callWith_K (h₀:=X.base) I.ok.mod.kin S (aU (o.pa pos j s Y H (fun y l=>∃as b d,aE X.K F l Y b d/\aM O H d l/\cQ Y (aw d l) y as/\gp f E (fun c D=>∀v m n z,gF X.K F m Y D n v c z->aM O H n m->Q v m) as b) I ⟨U,O,st,o.mn _ _ _ (fun as b i y l d a J B=>⟨as,b,d,a,J,B,i⟩) q⟩) fun us J ⟨y,l,I1,r,as,b,d,a,C,B,i⟩=>⟨I1.kIn,?_⟩) T u;exact MU L G M hb I1 r a B i fun c D h v m n z res Z=>h v m n z res (C.trans Z)
end
end L2.L3
namespace L2.L3
open PySem PySem.Spec PyProof.Rows Builtin Builtin.ObjectAttr Builtin.Getset_descriptor
section
variable{prog:Program}{w:World}{A:Around}{E:Value->Shared->Prop}{K:Frag}{h:Heap}{g:Array GenState}{d:Drawn}{t:Nat}{os:OsState}{a C:Addr}{o:Obj}
theorem MW{Q:Option Value->Shared->Prop}(X:K.In h)(e:h.get? a=some o)(f:o.cls=.ref C)(f1:findIn K (.ref C) "__getattribute__" = some (some (.builtin "BaseException.__getattribute__")))
  (f2:findIn K (.ref C) "__class__" = some (some (.builtin "object.__class__"))) (i:findIn K (.ref C) "__getattr__" = some none) (j:mroIn K C (.type "BaseException")=some true) (k:mroIn K C (.type "object")=some true)
  (q:Q (some (.ref C)) ⟨h,g,d,t+1,os⟩):wpAny (model prog w) A (getAttr? (.ref a) "__class__") Q E ⟨h,g,d,t,os⟩:=by
 have b:PySem.W.Looks (model prog w) h (typeOf (.ref a)) (.ref C):=f▸(PySem.W.Looks.ld e).andThen .now;have l:=PySem.W.looks_findIn (M:=model prog w) X f1;have L2:=PySem.W.looks_findIn (M:=model prog w) X i;have L3:=PySem.W.looks_findIn (M:=model prog w) X f2;have m:=PySem.W.looks_mroIn (M:=model prog w) X j;have c:=PySem.W.looks_mroIn (M:=model prog w) X k;have g3:=F.attrBase_ValueError.ga.bind (.ref a);unfold getAttr? getAttrBy? getAttrBy;refine ak (wpAny_mkText (ak (wpAny_attempt (wpAny_holding (ak (b.at (ak (l.at ?_))))))));show wpAny _ _ (getAttrByItsOwn _ _ _ _ _ _) _ _ _;unfold getAttrByItsOwn
 repeat (any_goals (first | assumption | with_reducible refine b.at ?_ | with_reducible refine L2.at ?_ | wp_step))
 refine codeAny_call_builtin F.attrBase_ValueError.ga.plain F.entry_bexc_ga ?_;have n:builtinKind "BaseException.__getattribute__" = some .slot:=by decide +kernel
 have p:splitId "BaseException.__getattribute__" = some ("BaseException","__getattribute__"):=by decide +kernel
 have r:=F.args_bexc_ga (.ref a) (.str "__class__" t);simp only[checkBuiltinCall,n,p];refine ak ?_;unfold isInstance
 repeat (any_goals (first | assumption | with_reducible refine b.at ?_ | with_reducible refine m.at ?_ | wp_step))
 have s:typeOf (.builtin "object.__class__")=pure (.type "getset_descriptor"):=PySem.W.KF.type_class;have u:=F.slot_gs_get.lookup;have v:=F.slot_gs_set.lookup
 repeat (any_goals (first | assumption | with_reducible refine b.at ?_ | with_reducible refine L3.at ?_ | wp_step))
 refine codeAny_call_builtin PySem.W.KF.slot_gs.plain PySem.W.KF.entry_gs (PySem.W.KF.slot_gs.check _ _ _ _ _ _ _ _ PySem.W.KF.type_class (PySem.W.KF.args_gs _ _ _) ?_);unfold Builtin.«getset_descriptor.__get__» descrGet;rw[PySem.W.dga_obj];refine ak (bc ?_);unfold descrGetter descrCheckInstance descrNameAndClass isInstance;simp only[PySem.W.KF.owner_class]
 repeat (any_goals (first | assumption | with_reducible refine b.at ?_ | with_reducible refine c.at ?_ | wp_step))
 refine⟨Code.quiet_builtin _ (by decide +kernel),codeAny_builtin PySem.W.KF.entry_class ?_⟩;unfold Builtin.«object.__class__» PySem.shownTypeOf
 repeat (any_goals (first | assumption | with_reducible refine b.at ?_ | with_reducible refine c.at ?_ | wp_step))
theorem MX(f:oR K C=true)(m:(clsIn K C).isSome=true):PySem.W.KitX K (.ref a) (.ref C) (fun h=>∃o,h.get? a=some o/\o.cls=.ref C):=by
 unfold oR at f;simp only[Bool.and_eq_true,beq_iff_eq] at f;obtain⟨⟨⟨⟨f1,f2⟩,p⟩,r⟩,u⟩:=f;obtain⟨z,b⟩:=Option.isSome_iff_exists.mp m;unfold clsIn at b;split at b
 ·rename_i B D G H l;refine⟨fun M h X ⟨o,c,i⟩=>i▸(PySem.W.Looks.ld c).andThen .now,fun M h X _=>?_,fun h v O x n R X j=>?_,fun {prog w A E Q s} X ⟨o,c,i⟩ k=>?_⟩
  ·intro I J L N k q;unfold isType loadHead;exact ak (wpAny_loadPart (k _ _ (X _ _ l)) (bc q))
  ·refine Bool.eq_false_iff.mpr fun q=>?_;have e:C=v:=Value.ref.inj (beq_iff_eq.mp q);subst e;have y:=(X _ _ l).symm.trans j;cases y
  ·obtain⟨S,g,d,t,os⟩:=s;exact MW X c i f1 f2 p r u k
 ·cases b
end
end L2.L3
namespace L2.L3
open PySem PySem.Spec PyProof.Rows
noncomputable def jn:Value->V
 | .bool b=>.bl b
 | .int i _=>.int i
 | .str x _=>.str x
 | _=>.non
theorem BX{v:V}{z:Value}(r:bp v z)(f:iA v=true):jn z=v:=by
 cases v with
 | non=>cases r;rfl
 | bl b=>cases r;rfl
 | int i=>obtain⟨t,rfl⟩:=r;rfl
 | str i=>obtain⟨t,rfl⟩:=r;rfl
 | _=>cases f
theorem wO{A:Around}{s:Shared}{y:V}{u:Value}(e:bp y u)(f:iA y=true):∀{c:List V}{a:List Value},bq c a->c.all iA=true->(∀z∈a,SeqAt.EqAt A s z u (eK (jn z) y))/\a.map jn=c
 | _,_,.nil,_=>⟨(fun _ h=>nomatch h),rfl⟩
 | _,_,.cons h t,b=>by
  rw[List.all_cons,Bool.and_eq_true] at b;obtain⟨g,h2⟩:=wO (A:=A) (s:=s) e f t b.2;refine⟨fun z d=>?_,?_⟩
  ·rcases List.mem_cons.mp d with rfl | d
   ·rw[BX h b.1];exact Im h e b.1 f
   ·exact g z d
  ·rw[List.map_cons,h2,BX h b.1]
section
variable{X:Cx}{F:Fx}{E:Str->ao->Prop}{e a b c:Expr}{es:List Expr}{st:Stmt}{rest:List Stmt}{pos:Pos}{x:Str}
noncomputable def BY:V->List V->Hp->VK->Prop:=fun x f H Q=>∃l d y,x=.ref l/\f=[y]/\H l=some (.lst d)/\d.all iA=true/\iA y=true/\Q (.int (d.countP fun z=>eK z y:Nat)) H
theorem MY:qK X "list.count" BY:=by
 intro f s Y H x w v B Q I g i h;obtain⟨l,j,y,rfl,rfl,k,m,o,q⟩:=h;cases g;obtain⟨u,rfl,ru⟩:=i.one;obtain⟨z,d,n,r,C,e⟩:=I.lstM k;obtain⟨t,h2⟩:=wO (A:=X.A.in1) (s:=s) ru o r m;refine call_meets F.slot_list_count ⟨_,e,rfl⟩ F.entry_list_count (F.args_list_count_2 _ _) (SeqAt.list_countAt l d.toArray n none #[] u fun z=>eK (jn z) y) ⟨e,fun z p=>t z (by simpa using p),?_⟩;refine⟨.int _,H,I.tok _,⟨_,rfl⟩,?_⟩;have:d.countP (fun z=>eK (jn z) y)=j.countP fun z=>eK z y:=by rw[<-h2,List.countP_map];rfl
 rw[this];exact q
noncomputable def BZ:V->List V->Hp->VK->Prop:=fun x f H Q=>∃l d y,x=.ref l/\f=[y]/\H l=some (.lst d)/\d.all iA=true/\iA y=true/\(d.findIdx fun z=>eK z y)<d.length/\Q (.int (d.findIdx fun z=>eK z y:Nat)) H
theorem MZ:qK X "list.index" BZ:=by
 intro k s Y H x J v L Q I o p h;obtain⟨l,f,y,rfl,rfl,t,B,C,g,q⟩:=h;cases o;obtain⟨u,rfl,ru⟩:=p.one;obtain⟨z,d,n,r,M,e⟩:=I.lstM t;obtain⟨G,h2⟩:=wO (A:=X.A.in1) (s:=s) ru C r B;have gt:∀m (i:m<d.length),eK (jn d[m]) y=eK (f[m]'(by omega)) y:=fun m i=>by
  have:f[m]'(by omega)=jn d[m]:=by subst h2;simp
  rw[this]
 have big:((f.findIdx fun z=>eK z y:Nat):Int)<2 ^ 63 - 1:=by
  have:sizeLine<2 ^ 62:=by decide
  omega
 refine call_meets F.slot_list_index ⟨_,e,rfl⟩ F.entry_list_index (F.args_list_index_2 _ _) (SeqAt.list_indexAt l d.toArray n none #[] u (fun z=>eK (jn z) y) (f.findIdx fun z=>eK z y) (by rw[List.size_toArray];omega) big ?_ ?_) ⟨e,fun z D=>G z (by simpa using D),?_⟩
 ·show eK (jn d[f.findIdx fun z=>eK z y]) y=true;rw[gt _ (by omega)];exact List.findIdx_getElem (w:=g)
 ·intro m i h;have j:m<d.length:=by simpa using i
  show eK (jn d[m]) y=false;rw[gt m j];have:=List.not_of_lt_findIdx h;simpa using this
 ·exact⟨.int _,H,I.tok _,⟨_,rfl⟩,q⟩
@[simp] noncomputable def Ca:aj->Option (List PyData)
 | .dat (.list ds)=>some ds
 | .own _ (.l ds)=>some ds
 | _=>none
@[simp] noncomputable def lV(U:ao)(i:Nat):Option (List PyData):=match U[i]? with
 | some (some c)=>Ca c
 | _=>none
theorem Cb{K:Frag}{H:Hp}{Y:St}{U:ao}{O:List Addr}{i:Nat}{k:List PyData}(st:aE K F H Y U O)(h:lV U i=some k):∃p j,Y[i]? = some (some (.ref p))/\H p=some (.lst j)/\aK (aw O H) j k:=by
 unfold lV at h;split at h
 ·rename_i c e;unfold Ca at h;split at h
  ·cases h;obtain⟨v,d,hd⟩:=st.dat e;obtain⟨p,f,rfl,l,g⟩:=hd.lst_inv;exact⟨p,f,d,(cW l).1,g⟩
  ·cases h;obtain⟨p,n,d,⟨_,f,m,g⟩,_⟩:=st.box e;exact⟨p,f,d,m,g⟩
  ·cases h
 ·cases h
@[simp] noncomputable def oS:PyData->Option V
 | .none=>some .non
 | .bool b=>some (.bl b)
 | .int i=>some (.int i)
 | .str x=>some (.str x)
 | _=>none
@[simp] noncomputable def mZ:List PyData->Option (List V)
 | []=>some []
 | d::r=>(match oS d,mZ r with | some v,some l=>some (v::l) | _,_=>none)
theorem wP{G:Hp}{v w:V}{d:PyData}(h:DV G v d)(e:oS d=some w):v=w/\iA v=true:=by
 cases d with
 | none=>cases e;rw[h.non_inv];exact⟨rfl,rfl⟩
 | bool b=>cases e;rw[h.bl_inv];exact⟨rfl,rfl⟩
 | int b=>cases e;rw[h.int_inv];exact⟨rfl,rfl⟩
 | str b=>cases e;rw[h.str_inv];exact⟨rfl,rfl⟩
 | _=>cases e
theorem wQ{G:Hp}:∀{f i:List V}{g:List PyData},aK G f g->mZ g=some i->f=i/\f.all iA=true
 | [],_,[],.nil,e=>by cases e;exact⟨rfl,rfl⟩
 | v::f,_,d::g,.cons h t,e=>by
  unfold mZ at e;cases h1:oS d with
  | none=>rw[h1] at e;cases e
  | some w=>
   cases h2:mZ g with
   | none=>rw[h1,h2] at e;cases e
   | some l=>rw[h1,h2] at e;cases e;obtain⟨j,f1⟩:=wP h h1;obtain⟨k,f2⟩:=wQ t h2;exact⟨by rw[j,k],by rw[List.all_cons,f1,f2];rfl⟩
@[simp] noncomputable def rE(f:List PyData)(y:PyData):Option PyData:=match mZ f,oS y with
 | some d,some w=>some (.int (d.countP fun z=>eK z w:Nat))
 | _,_=>none
@[simp] noncomputable def rF(f:List PyData)(y:PyData):Option PyData:=match mZ f,oS y with
 | some d,some w=>if (d.findIdx fun z=>eK z w)<d.length then some (.int (d.findIdx fun z=>eK z w:Nat)) else none
 | _,_=>none
@[simp] noncomputable def Cc(g:List PyData->PyData->Option PyData)(i:Nat)(d:PyData):XM PyData:=fun U=>lift (match lV U i with
 | some ds=>g ds d
 | none=>none) U
@[simp] noncomputable def rG(g:List PyData->PyData->Option PyData)(i:Nat)(m:XM PyData):XM PyData:=fun U=>match lV U i with
 | some _=>(m U).bind (Cc g i)
 | none=>.bad
theorem Cd{i:Nat}{m:XM PyData}{s apos f:Pos}{I:Str}{id:String}{r:V->List V->Hp->VK->Prop}{g:List PyData->PyData->Option PyData}(slot:Slot "list" I id)(J:typeOf (.builtin id)=pure (.type "method_descriptor"))(hm:qK X id r)
  (hg:∀G l Z D y d z H Q,H l=some (.lst Z)->aK G Z D->DV G y d->g D d=some z->(∀u,DV G u z->Q u H)->r (.ref l) [y] H Q)
  (hv:PE X (.Name x s) (bS i)) (he:FE X F E e m)
  (j:attributeBase (.Name x s) I X.env (eval (.Name x s) X.env)=eval (.Name x s) X.env:=by rfl)
  (t:((backTo f (starEach [e] X.env)).all (fun x=>!x.1)&&(backToKw f (keywordEach [] X.env)).all (fun x=>x.1.isSome)&&decide (([e]:List Expr).length+([]:List Keyword).length+(if ([]:List Keyword).isEmpty then 0 else 1)<30))=true:=by rfl)
  (n:(apos.endLine==f.line)=true:=by rfl) (hs:starEach [e] X.env=(false,eval e X.env)::starEach [] X.env:=by rfl) (h:(backTo f (starEach [] X.env)).any (·.1)=false:=by rfl) :
  FE X F E (.Call (.Attribute (.Name x s) I apos) [e] [] f) (rG g i m):=
 ⟨aL,(qL PySem.F.plainAttrs_list slot J hm hv (df he.pe ed hs) j t n hs h).imp fun Y H Q ⟨U,O,st,q⟩=>by
  unfold wp rG at q;cases L:lV U i with
  | none=>rw[L] at q;exact q.elim
  | some a0=>
   rw[L] at q;obtain⟨p,M,v,N,_⟩:=Cb st L;refine⟨_,v,.inl ⟨rfl,M,.of N⟩,U,O,st,aL _ _ _ (fun d R q1 w H1 O1 A s1 d1=>?_) (cg (m:=m) (k:=Cc g i) q)⟩;obtain⟨z,C,q2⟩:=dm (o:=match lV R i with | some D=>g D d | none=>none) (U:=R) (E:=E) q1;cases h1:lV R i with
   | none=>rw[h1] at C;cases C
   | some a1=>
    rw[h1] at C;obtain⟨p',a2,B,S,T⟩:=Cb A h1;rw[v] at B;cases B;exact hg _ _ _ _ _ _ _ _ _ S T d1 C fun u hu=>q2 u H1 O1 A s1 hu⟩
theorem Na:∀G l f g y d z H Q,H l=some (.lst f)->aK G f g->DV G y d->rE g d=some z->(∀u,DV G u z->Q u H)->BY (.ref l) [y] H Q:=fun G l f g y d z H Q h i j e q=>by
 unfold rE at e;split at e
 ·rename_i k w h1 h2;cases e;obtain⟨rfl,f1⟩:=wQ i h1;obtain⟨rfl,f2⟩:=wP j h2;exact⟨l,f,y,rfl,rfl,h,f1,f2,q _ (.int _)⟩
 ·cases e
theorem Nb:∀G l f g y d z H Q,H l=some (.lst f)->aK G f g->DV G y d->rF g d=some z->(∀u,DV G u z->Q u H)->BZ (.ref l) [y] H Q:=fun G l f g y d z H Q h i j e q=>by
 unfold rF at e;split at e
 ·rename_i m w h1 h2;split at e
  ·rename_i k;cases e;obtain⟨rfl,f1⟩:=wQ i h1;obtain⟨rfl,f2⟩:=wP j h2;exact⟨l,f,y,rfl,rfl,h,f1,f2,k,q _ (.int _)⟩
  ·cases e
 ·cases e
end
section
variable{X:Cx}{F:Fx}{E:Str->ao->Prop}{e a b c:Expr}{es:List Expr}{st:Stmt}{rest:List Stmt}{pos:Pos}{x:Str}
@[simp] noncomputable def jY(U:ao)(i:Nat):Option (Bool×List PyData):=match U[i]? with
 | some (some (.own io (.l ds)))=>some (io,ds)
 | _=>none
theorem wR{U:ao}{i:Nat}{io:Bool}{d:List PyData}(h:jY U i=some (io,d)):U[i]? = some (some (.own io (.l d))):=by
 unfold jY at h;split at h
 ·rename_i e;cases h;exact e
 ·cases h
@[simp] noncomputable def wS(i:Nat)(d:PyData):SM:=fun f=>match jY f i,d with
 | some (io,ds),.list g=>if ds.length+g.length<=sizeLine then .nx (f.set i (some (.own io (.l (ds++g))))) else .bad
 | _,_=>.bad
@[simp] noncomputable def rH(i:Nat)(m:XM PyData):SM:=fun U=>match jY U i with
 | some _=>fh (m U) (wS i)
 | none=>.bad
theorem Ce{i:Nat}{m:XM PyData}{n apos g:Pos}(Z:PE X (.Name x n) (bS i))(he:FE X F E e m)(B:swapsWith (.Call (.Attribute (.Name x n) "extend" apos) [e] [] g) none pos.line X.env=pure false:=by rfl)
  (r:attributeBase (.Name x n) "extend" X.env (eval (.Name x n) X.env)=eval (.Name x n) X.env:=by rfl)
  (u:((backTo g (starEach [e] X.env)).all (fun x=>!x.1)&&(backToKw g (keywordEach [] X.env)).all (fun x=>x.1.isSome)&&decide (([e]:List Expr).length+([]:List Keyword).length+(if ([]:List Keyword).isEmpty then 0 else 1)<30))=true:=by rfl)
  (t:(apos.endLine==g.line)=true:=by rfl) (S:starEach [e] X.env=(false,eval e X.env)::starEach [] X.env:=by rfl) (j:(backTo g (starEach [] X.env)).any (·.1)=false:=by rfl) :
  FS X F E (.Expr (.Call (.Attribute (.Name x n) "extend" apos) [e] [] g) pos) (rH i m):=
 (qz (qL PySem.F.plainAttrs_list PySem.F.slot_list_extend PySem.F.type_list_extend Iw Z (df he.pe ed S) r u t S j) B).imp fun D Y H ⟨U,O,DD,st,q,f⟩=>by
  unfold cq rH at q;cases C:jY U i with
  | none=>rw[C] at q;exact q.elim
  | some p0=>
   obtain⟨a0,a1⟩:=p0;rw[C] at q;obtain⟨p,fp,v,⟨_,xs,hH,_⟩,_,_⟩:=st.box (wR C);refine⟨_,v,.inl ⟨rfl,xs,.of hH⟩,U,O,st,aL _ _ _ (fun d U1 h w H1 O1 I s1 d1=>?_) (gP (m:=m) (k:=wS i) q)⟩;unfold cq wS at h;cases h1:jY U1 i with
   | none=>rw[h1] at h;exact h.elim
   | some n=>
    obtain⟨a2,y⟩:=n;rw[h1] at h;cases d with
    | list T=>
     simp only at h;obtain⟨p',a3,z,⟨e1,J,L,hd⟩,hO,up⟩:=I.box (wR h1);rw[v] at z;cases z;subst e1;obtain⟨b,M,rfl,hb,A⟩:=d1.lst_inv
     by_cases N:y.length+T.length<=sizeLine
     ·rw[if_pos N] at h;refine⟨p,b,J,M,rfl,rfl,L,(cW hb).1,by rw[hd.length,A.length];exact N,?_⟩;obtain⟨O2,Q,s2,_⟩:=up (aQ H1 p (.lst (J++M))) (.l (y++T)) [p] (fun c o R e=>by rw[bv (by simpa using R)];exact e) (by simp) (fun c R=>.inl R) (fun G O' s hG _=>by
       subst hG;exact⟨s.hid,rfl,J++M,cF,(aK.mono s.hid hd).append (aK.mono s.hid A)⟩)
      exact f.nx _ _ _ _ Q (s1.trans s2) h
     ·rw[if_neg N] at h;exact h.elim
    | _=>exact h.elim
noncomputable def Nc(K:Frag):List V->Hp->VK->Prop:=fun d H Q=>∃a φ C w b,d=[.ref a,w]/\H a=some (.ext φ)/\(∀h,φ h->∃o,h.get? a=some o/\o.cls=.ref C)/\oR K C=true/\(clsIn K C).isSome=true/\(∀u,bp w u->kitOne K (.ref C) u=some b)/\Q (.bl b) H
theorem Cf:ia X (.builtin "isinstance") (Nc X.K):=by
 intro d s Y H l m Q I r h;obtain⟨a,φ,C,w,b,rfl,f,g,at_,cl,e,q⟩:=h;obtain⟨u,n,rfl,i,j⟩:=gi r;cases i;obtain⟨p,_,_⟩:=(show cJ X.prog X.w H s.heap a (.ext φ) from I.hok a _ f)
 exact kia_one (MX at_ cl) I.kIn (g _ p) (e _ j) (fun z=>nomatch z) fun k=>⟨.bl b,H,I.tok k,rfl,q⟩
theorem Cg{K:Frag}{C:Addr}{l:List Value}{n:String}(h:excIn K C l n=true):(clsIn K C).isSome=true:=by
 unfold excIn at h;unfold clsIn;split at h
 ·rename_i e;rw[e];rfl
 ·cases h
@[simp] noncomputable def ng(U:ao)(i:Nat):Option Str:=match U[i]? with
 | some (some (.exc c))=>some c
 | _=>none
theorem Ci{U:ao}{i:Nat}{c:Str}(h:ng U i=some c):U[i]? = some (some (.exc c)):=by
 unfold ng at h;split at h
 ·rename_i e;cases h;exact e
 ·cases h
@[simp] noncomputable def gQ(i:Nat)(l:List Str)(cls:Str):XM PyData:=fun U=>match ng U i with
 | some c=>if c∈l/\cls∈l then .ok (.bool (c==cls)) U else .bad
 | none=>.bad
@[simp] noncomputable def wT(i:Nat)(l:List Str):XM PyData:=fun U=>match ng U i with
 | some c=>if c∈l then .ok (.bool true) U else .bad
 | none=>.bad
theorem Cj{K:Frag}{m:Str->Option Value}{H:Hp}{Y:St}{U:ao}{O:List Addr}{i:Nat}{c:Str}{C:Addr}(st:aE K F H Y U O)(h:U[i]? = some (some (.exc c)))(f:EC K m c C):∃a φ,Y[i]? = some (some (.ref a))/\H a=some (.ext φ)/\∀h,φ h->∃o,h.get? a=some o/\o.cls=.ref C:=by obtain⟨W,g,rfl⟩:=st;obtain⟨v,n,h1,h2,a,φ,rfl,h3,j⟩:=g.at_ i _ h;refine⟨a,φ,h1,(cW h3).1,fun h p=>?_⟩;obtain⟨q,o,d,k,l⟩:=j h p;rw[f.ns] at d;cases d;exact⟨o,k,l⟩
theorem iH{l:List Str}{D:Addr}{i:Nat}{cls:Str}{p f d:Pos}(t:XT X.K X.mg l D)(h:Gl X "isinstance")(j:X.mg "isinstance" = none)(B:PE X (.Name x f) (bS i))(k:Gl X cls)(m:cls∈l)(n:(cls==("__debug__":Str))=false:=by decide)
  (w:starEach [.Name x f,.Name cls d] X.env=(false,eval (.Name x f) X.env)::starEach [.Name cls d] X.env:=by rfl) (o:starEach [.Name cls d] X.env=(false,eval (.Name cls d) X.env)::starEach [] X.env:=by rfl) (r:(backTo pos (starEach [.Name cls d] X.env)).any (·.1)=false:=by rfl) :
  FE X F E (.Call (.Name "isinstance" p) [.Name x f,.Name cls d] [] pos) (gQ i l cls):=by
 obtain⟨y,z,_⟩:=t.at_ m;refine⟨aL,(mH Cf h j (show bootBuiltins "isinstance" = some (.builtin "isinstance") by decide +kernel) (df B (df (zk (v:=.ref y) k z.mg rfl n) ed o) w) (by decide) (by decide) w r).imp fun Y H Q ⟨U,O,st,q⟩=>?_⟩;unfold wp gQ at q;cases s:ng U i with
 | none=>rw[s] at q;exact q.elim
 | some c=>
  rw[s] at q
  by_cases g:c∈l/\cls∈l
  ·simp only[if_pos g] at q;obtain⟨C,A,_,at_,_,G⟩:=t.at_ g.1;obtain⟨D2,I,M,J⟩:=G cls g.2;have L:D2=y:=by have:=z.mg.symm.trans I;cases this;rfl
   subst L;obtain⟨a,φ,h1,h2,h3⟩:=Cj st (Ci s) A;exact⟨_,h1,a,φ,C,.ref D2,_,rfl,h2,h3,at_,Cg A.ex,fun u ru=>by cases ru;exact J,q _ H O st .refl (.bl _)⟩
  ·simp only[if_neg g] at q
theorem Nd{l:List Str}{D:Addr}{i:Nat}{p f d:Pos}(w:XT X.K X.mg l D)(g:Gl X "isinstance")(h:X.mg "isinstance" = none)(y:PE X (.Name x f) (bS i))(j:Gl X "ValueError")(k:X.mg "ValueError" = none)
  (s:starEach [.Name x f,.Name "ValueError" d] X.env=(false,eval (.Name x f) X.env)::starEach [.Name "ValueError" d] X.env:=by rfl) (m:starEach [.Name "ValueError" d] X.env=(false,eval (.Name "ValueError" d) X.env)::starEach [] X.env:=by rfl) (n:(backTo pos (starEach [.Name "ValueError" d] X.env)).any (·.1)=false:=by rfl) :
  FE X F E (.Call (.Name "isinstance" p) [.Name x f,.Name "ValueError" d] [] pos) (wT i l):=by
 refine⟨aL,(mH Cf g h (show bootBuiltins "isinstance" = some (.builtin "isinstance") by decide +kernel) (df y (df (iV (v:=.ty "ValueError") j k (show bootBuiltins "ValueError" = some (.type "ValueError") by decide +kernel) rfl) ed m) s) (by decide) (by decide) s n).imp fun Y H Q ⟨U,O,st,q⟩=>?_⟩;unfold wp wT at q;cases o:ng U i with
 | none=>rw[o] at q;exact q.elim
 | some c=>
  rw[o] at q
  by_cases r:c∈l
  ·simp only[if_pos r] at q;obtain⟨C,t,_,at_,z,A⟩:=w.at_ r;obtain⟨a,φ,h1,h2,h3⟩:=Cj st (Ci o) t;exact⟨_,h1,a,φ,C,.ty "ValueError",_,rfl,h2,h3,at_,Cg t.ex,fun u ru=>by cases ru;exact z,q _ H O st .refl (.bl _)⟩
  ·simp only[if_neg r] at q
end
section
variable{X:Cx}{F:Fx}{E:Str->ao->Prop}{e a b c:Expr}{es:List Expr}{st:Stmt}{rest:List Stmt}{pos:Pos}{x:Str}{ma mb mc:XM PyData}
@[simp] noncomputable def dL:=gI fun i j=>.int (i+j)
@[simp] noncomputable def eX:=gI fun i j=>.int (i - j)
@[simp] noncomputable def kH:=oI kA fun i j=>.int (i * j)
@[simp] noncomputable def rJ:=oI mQ fun i j=>.int (i / j)
@[simp] noncomputable def nh:=oI mR fun i j=>.int (i % j)
@[simp] noncomputable def jZ:=gI fun i j=>.bool (decide (i<j))
@[simp] noncomputable def lW:=gI fun i j=>.bool (decide (i<=j))
@[simp] noncomputable def kI:=gI fun i j=>.bool (decide (j<i))
theorem dX(d:FE X F E a ma)(f:FE X F E b mb):FE X F E (.BinOp a .Add b pos) (af dL ma mb):=gq kz (LC d f)
theorem gR(d:FE X F E a ma)(f:FE X F E b mb):FE X F E (.BinOp a .Sub b pos) (af eX ma mb):=gq kz (LD d f)
theorem lX(d:FE X F E a ma)(f:FE X F E b mb):FE X F E (.BinOp a .Mult b pos) (af kH ma mb):=gq (wm Md) (LF d f)
theorem wU(d:FE X F E a ma)(f:FE X F E b mb):FE X F E (.BinOp a .FloorDiv b pos) (af rJ ma mb):=gq (wm Me) (LG d f)
theorem oU(d:FE X F E a ma)(f:FE X F E b mb):FE X F E (.BinOp a .Mod b pos) (af nh ma mb):=gq (wm Mf) (LH d f)
theorem wV(d:FE X F E a ma)(f:FE X F E b mb):FE X F E (.BinOp a .Add b pos) (af mS ma mb):=gq Mg (LI d f)
theorem Nf(d:FE X F E a ma)(f:FE X F E b mb):FE X F E (.BinOp a .Mult b pos) (af rm ma mb):=gq Mh (LZ d f)
theorem Ck(d:FE X F E a ma)(f:FE X F E b mb):FE X F E (.Compare a [.Lt] [b] pos) (af jZ ma mb):=gq kz (LJ d f)
theorem Ng(d:FE X F E a ma)(f:FE X F E b mb):FE X F E (.Compare a [.LtE] [b] pos) (af lW ma mb):=gq kz (LL d f)
theorem Nh(d:FE X F E a ma)(f:FE X F E b mb):FE X F E (.Compare a [.Gt] [b] pos) (af kI ma mb):=gq kz (LM d f)
theorem oV(d:FE X F E a ma)(f:FE X F E b mb):FB X F E (.Compare a [.Lt] [b] pos) (aZ (af jZ ma mb)):=lM kz (LN d f)
theorem rK(d:FE X F E a ma)(f:FE X F E b mb):FB X F E (.Compare a [.LtE] [b] pos) (aZ (af lW ma mb)):=lM kz (LO d f)
theorem rL(d:FE X F E a ma)(f:FE X F E b mb):FB X F E (.Compare a [.Gt] [b] pos) (aZ (af kI ma mb)):=lM kz (LP d f)
theorem ni(d:X.A.units+64<cLine)(f:FE X F E a ma)(g:FE X F E b mb):FE X F E (.Compare a [.Eq] [b] pos) (af (aS false) ma mb):=gq wn (LQ d f g)
theorem gx(d:X.A.units+64<cLine)(f:FE X F E a ma)(g:FE X F E b mb):FB X F E (.Compare a [.Eq] [b] pos) (aZ (af (aS false) ma mb)):=lM wn (LR d f g)
theorem lY(d:X.A.units+64<cLine)(f:FE X F E a ma)(g:FE X F E b mb):FB X F E (.Compare a [.NotEq] [b] pos) (aZ (af (aS true) ma mb)):=lM wn (LS d f g)
theorem Ni(d:FE X F E a ma)(f:FE X F E b mb):FE X F E (.Compare a [.Is] [b] pos) (af jO ma mb):=gq Bt (LU d f)
theorem wW(d:FE X F E a ma)(f:FE X F E b mb):FE X F E (.Compare a [.IsNot] [b] pos) (af gM ma mb):=gq Bu (mM zu At d f (bD _))
theorem rM(d:FE X F E a ma)(f:FE X F E b mb):FB X F E (.Compare a [.Is] [b] pos) (aZ (af jO ma mb)):=lM Bt (LV d f)
theorem oW(d:FE X F E a ma)(f:FE X F E b mb):FB X F E (.Compare a [.IsNot] [b] pos) (aZ (af gM ma mb)):=lM Bu (LW d f)
theorem Nj(d:FE X F E a ma)(h:FE X F E b mb)(f:FE X F E c mc)(g:lastMarks [.LtE,.LtE] [b,c]=false:=by with_unfolding_all rfl):FE X F E (.Compare a [.LtE,.LtE] [b,c] pos) (wt (fun i j=>decide (i<=j)) (fun i j=>decide (i<=j)) ma mb mc):=Mj (LX d h f g)
@[simp] noncomputable def aD:PyData->PyData->Option PyData:=fun x y=>match x,y with
 | .tuple ds,.int i=>bT ds i
 | .list ds,.int i=>bT ds i
 | _,_=>none
noncomputable def Cm:D2:=fun x y Q=>Au x y Q\/Av x y Q
theorem Nk{K:Frag}:fA (fun x y H Q=>vA K x y H Q\/vv K x y H Q) Cm where
 mn:=fun x y Q Q' k h=>h.imp (Ax (K:=K).mn x y Q Q' k) (Ay (K:=K).mn x y Q Q' k)
 ok:=fun O H u v x y Q hO h1 h2 h=>h.imp (Ax.ok O H u v x y Q hO h1 h2) (Ay.ok O H u v x y Q hO h1 h2)
theorem Nl:F2 Cm aD:=fun x y d Q e q=>by
 unfold aD at e;split at e
 ·exact .inl ⟨_,_,_,rfl,rfl,e,q⟩
 ·exact .inr ⟨_,_,_,rfl,rfl,e,q⟩
 ·cases e
theorem aT(d:FE X F E a ma)(g:FE X F E b mb)(f:ot b:=by intro _ _;rfl):FE X F E (.Subscript a b pos) (af aD ma mb):=gq Nl (JA (jF.or Ib vB) Nk d g f)
end
noncomputable def wX:Expr->Bool
 | .Starred ..=>true
 | _=>false
theorem wY{e:Expr}{b:List Expr}{a:Env}(h:wX e=false):starEach (e::b) a=(false,eval e a)::starEach b a:=by cases e<;>first | rfl | cases h
section
variable{X:Cx}{F:Fx}{E:Str->ao->Prop}{e a b c:Expr}{es:List Expr}{pos:Pos}{x:Str}
theorem ay{d:XM PyData}{f:XM (List PyData)}(g:FE X F E e d)(h:FA X F E es f)(i:wX e=false:=by rfl):FA X F E (e::es) (aq d f):=Ml g h (wY i)
theorem au{d:XM PyData}{f:XM (List AX)}(g:FE X F E e d)(h:FX X F E es f)(i:wX e=false:=by rfl):FX X F E (e::es) (al d f):=Mw g h (wY i)
theorem bb{p:Pos}{j:Nat}{d:XM (List AX)}(f:PE X (.Name x p) (bS j))(g:FX X F E es d):FX X F E (.Name x p::es) (aN j d):=Mx f g (wY rfl)
end
end L2.L3
namespace L2
open PySem
abbrev dY(h:Heap)(T:Addr)(a b:Value):Prop:=h.get? T=some { cls:=.type "tuple",data:=.seq #[a,b] }
end L2
namespace L2.L3
open PySem PySem.Spec PyProof.Rows
noncomputable def bU(f:Str)(v:Fl):List (Str×Fl)->List (Str×Fl)
 | []=>[(f,v)]
 | (g,x)::r=>if g=f then(g,v)::r else(g,x)::bU f v r
noncomputable def fj:Option Fl->Bool
 | none=>true
 | some (.d _)=>true
 | _=>false
noncomputable def bJ(C:Addr)(U:ao)(i:Nat):Option (Bool×List (Str×Fl)):=match U[i]? with
 | some (some (.own io (.o a fs)))=>if a = C then some (io,fs) else none
 | _=>none
theorem ka{C:Addr}{U:ao}{i:Nat}{io:Bool}{fs:List (Str×Fl)}(h:bJ C U i=some (io,fs)):U[i]? = some (some (.own io (.o C fs))):=by
 unfold bJ at h;split at h
 ·rename_i e;split at h
  ·rename_i a;cases h;rw[e,a]
  ·cases h
 ·cases h
section
variable{G H:Hp}
theorem kJ{b:List (Str×V)}{fs:List (Str×Fl)}{a:List (List Addr)}(h:bx G H b fs a)(f:Str):(b.lookup f=none/\fs.lookup f=none)\/∃v x c,b.lookup f=some v/\fs.lookup f=some x/\gj G H v x c/\c∈a:=by
 induction h with
 | nil=>exact .inl ⟨rfl,rfl⟩
 | @cons n v x c b fs a h1 h2 g=>
  by_cases e:f=n
  ·subst e;exact .inr ⟨v,x,c,by simp[List.lookup],by simp[List.lookup],h1,List.mem_cons_self⟩
  ·have i:(f==n)=false:=by simpa using e
   rw[List.lookup_cons,List.lookup_cons,i];rcases g with q | ⟨j,k,d,l,m,o,p⟩
   ·exact .inl q
   ·exact .inr ⟨j,k,d,l,m,o,bL _ p⟩
end
theorem Cn{α:Type}:∀{W:List (List α)}{i:Nat}{l:List α},W.flatten.Nodup->W[i]? = some l->l.Nodup
 | w::W,0,l,nd,h=>by simp only[List.getElem?_cons_zero,Option.some.injEq] at h;subst h;rw[List.flatten_cons] at nd;exact(List.nodup_append.mp nd).1
 | w::W,i+1,l,nd,h=>by rw[List.flatten_cons] at nd;exact Cn (List.nodup_append.mp nd).2.1 (by simpa using h)
theorem aE.boxN{K:Frag}{F:Fx}{H:Hp}{Y:St}{U:ao}{O:List Addr}(st:aE K F H Y U O){i:Nat}{io:Bool}{b:Bx}(e:U[i]? = some (some (.own io b))):∃a n,Y[i]? = some (some (.ref a))/\fy (aw O H) H a b n/\(∀c∈n,c∈O)/\n.Nodup/\
  ∀(g:Hp) (w:Bx) (f:List Addr),(∀c o,c∉n->H c=some o->g c=some o)->f.Nodup->(∀c∈f,c∈n\/H c=none)->(∀G,(∀p,aM O H p g->G=aw p g->(∀c∈f,c∈p)->bW (aw O H) G/\fy G g a w f))->
   ∃p,aE K F g Y (U.set i (some (.own io w))) p/\aM O H p g/\(∀c∈p,c∈f\/c∈O):=by
 obtain⟨W,st,rfl⟩:=st;obtain⟨v,n,h1,h2,a,rfl,h3⟩:=st.at_ i _ e;have C:i<U.length:=(List.getElem?_eq_some_iff.mp e).1;have x:i<W.length:=by rw[st.lw];exact C
 refine⟨a,n,h1,h3,fun c d=>bt _ (bY h2 d),(Cn (List.nodup_append.mp st.nd).1 h2),fun g w f keep Q y R=>?_⟩;have s:W.flatten.Nodup:=(List.nodup_append.mp st.nd).1;have D:∀c∈n,c∉F.O₀:=fun c d z=>(List.nodup_append.mp st.nd).2.2 c (bY h2 d) c z rfl;have I:∀j l c,j≠i->W[j]? = some l->c∈l->g c=H c:=fun j l c r m d=>by obtain⟨o,k,_⟩:=st.live c (bt _ (bY m d));rw[k];exact keep c o (fun z=>km s m h2 r d z) k
 have J:∀c∈F.O₀,g c=H c:=fun c d=>by obtain⟨o,k,_⟩:=st.live c (bo _ d);rw[k];exact keep c o (fun z=>D c z d) k
 have ap:∀c∈f,(∀j l,j≠i->W[j]? = some l->c∉l)/\c∉F.O₀:=fun c d=>by
  rcases y c d with q | q
  ·exact⟨fun j l r m z=>km s h2 m (Ne.symm r) q z,D c q⟩
  ·refine⟨fun j l _ m z=>?_,fun z=>?_⟩
   ·obtain⟨o,k,_⟩:=st.live c (bt _ (bY m z));rw[q] at k;cases k
   ·obtain⟨o,k,_⟩:=st.live c (bo _ z);rw[q] at k;cases k
 have frz:∀c o,c∉W.flatten++F.O₀->H c=some o->g c=some o:=fun c o d L=>keep c o (fun z=>d (bt _ (bY h2 z))) L;have A:aM (W.flatten++F.O₀) H ((W.set i f).flatten++F.O₀) g:=⟨frz,fun c h=>by
  rcases List.mem_append.mp h with h | h
  ·rcases fz h with h | ⟨j,l,_,m,B⟩
   ·exact(y c h).imp (fun z=>bt _ (bY h2 z)) id
   ·exact .inl (bt _ (bY m B))
  ·exact .inl (bo _ h)⟩
 have t:∀c∈f,c∈(W.set i f).flatten++F.O₀:=fun c d=>bt _ (Ap x d);have u:=(R _ _ A rfl t).2;obtain⟨E,M⟩:=st.put (H':=g) (i:=i) (v:=.ref a) (c:=.own io w) (fp:=f) C I J frz Q ap (fun c d=>(y c d).imp (fun z=>bY h2 z) id) (fun c d=>u.live c d) (fun _=>⟨a,rfl,u⟩) (fun S z=>by cases z;have:=st.io i b e;rw[h1] at this;exact(Option.some.inj (Option.some.inj this)));have N:Y.set i (some (.ref a))=Y:=by
  apply List.ext_getElem?;intro j
  by_cases r:j=i
  ·subst r;rw[List.getElem?_set_self (List.getElem?_eq_some_iff.mp h1).1,h1]
  ·rw[List.getElem?_set_ne (Ne.symm r)]
 rw[N] at E;refine⟨_,⟨_,E,rfl⟩,M,fun c d=>?_⟩;rcases List.mem_append.mp d with d | d
 ·rcases fz d with d | ⟨j,l,_,m,B⟩
  ·exact .inl d
  ·exact .inr (bt _ (bY m B))
 ·exact .inr (bo _ d)
theorem bx.len{G H:Hp}{b:List (Str×V)}{fs:List (Str×Fl)}{a:List (List Addr)}(h:bx G H b fs a):b.length=fs.length:=by
 induction h with
 | nil=>rfl
 | cons _ _ c=>simp[c]
theorem bx.putD{G r H p:Hp}{s:List (Str×V)}{fs:List (Str×Fl)}{a:List (List Addr)}{f:Str}{v:V}{d:PyData}(h:bx G H s fs a)(i:fj (fs.lookup f)=true)(hd:DV r v d)(g:bW G r)(k:∀c∈a.flatten,p c=H c) :
  bx r p (cN f v s) (bU f (.d d) fs) (if (fs.lookup f).isSome=true then a else a++[[]]):=by
 induction h with
 | nil=>exact .cons ⟨rfl,hd⟩ .nil
 | @cons n w x D s fs a h1 h2 u=>
  unfold cN bU
  by_cases e:n=f
  ·subst e;have A:List.lookup n ((n,x)::fs)=some x:=by simp[List.lookup]
   rw[A] at i ⊢;rw[if_pos rfl,if_pos rfl];have t:=h2.keep (H':=p) (fun c j=>k c (by simp only[List.flatten_cons,List.mem_append];exact .inr j)) g;cases x with
   | d y=>obtain⟨rfl,_⟩:=h1;exact .cons ⟨rfl,hd⟩ t
   | l ds=>cases i
   | m E B=>cases i
  ·have C:(f==n)=false:=by simpa using fun z=>e z.symm
   rw[List.lookup_cons,C] at i ⊢;rw[if_neg e,if_neg e];have o:=h1.keep (H':=p) (fun c j=>k c (by simp only[List.flatten_cons,List.mem_append];exact .inl j)) g;have b:=u i fun c j=>k c (by simp only[List.flatten_cons,List.mem_append];exact .inr j);simp only at b ⊢;split
   ·rename_i q;rw[if_pos q] at b;exact .cons o b
   ·rename_i q;rw[if_neg q] at b;exact .cons o b
section
variable{X:Cx}{F:Fx}{E:Str->ao->Prop}{e a b c:Expr}{es:List Expr}{st:Stmt}{pos p1:Pos}{x f:Str}{C:Addr}{i:Nat}
noncomputable def bO(C:Addr)(i:Nat)(f:Str):XM PyData:=fun U=>match bJ C U i with
 | some (_,fs)=>(match fs.lookup f with
  | some (.d d)=>.ok d U
  | _=>.bad)
 | none=>.bad
theorem cj(cl:cO X.K C)(h:cx X.K C f)(j:PE X (.Name x p1) (bS i))(z:attributeBase (.Name x p1) f X.env (eval (.Name x p1) X.env)=eval (.Name x p1) X.env:=by rfl):FE X F E (.Attribute (.Name x p1) f pos) (bO C i f):=
 ⟨aL,(ib j z).imp fun Y H Q ⟨U,O,st,q⟩=>by
  unfold wp bO at q;cases ho:bJ C U i with
  | none=>rw[ho] at q;exact q.elim
  | some p=>
   obtain⟨io,fs⟩:=p;rw[ho] at q;simp only at q;obtain⟨k,A,g,⟨n,o,r,B,s,D,t⟩,_,_⟩:=st.box (ka ho);rcases kJ t f with⟨l1,l2⟩ | ⟨v,y,u,l1,l2,l3,_⟩
   ·rw[l2] at q;exact q.elim
   ·rw[l2] at q;cases y with
    | d d=>exact⟨_,g,k,C,n,o,v,rfl,s,cl,h,l1,q v H O st (.refl ..) l3.2⟩
    | l ds=>exact q.elim
    | m G w=>exact q.elim⟩
noncomputable def fk(C:Addr)(i:Nat)(f:Str)(d:PyData):SM:=fun U=>match bJ C U i with
 | some (io,fs)=>if fs.length<1000/\fj (fs.lookup f)=true then .nx (U.set i (some (.own io (.o C (bU f (.d d) fs))))) else .bad
 | none=>.bad
noncomputable def cu(C:Addr)(i:Nat)(f:Str)(m:XM PyData):SM:=fun U=>fh (m U) (fk C i f)
theorem ek{m:XM PyData}{h:Pos}(cl:cO X.K C)(L:cx X.K C f)(M:PE X (.Name x p1) (bS i))(N:FE X F E e m)(Q:swapsWith e (some (.Attribute (.Name x p1) f h)) pos.line X.env=pure false:=by rfl):FS X F E (.Assign [.Attribute (.Name x p1) f h] e pos) (cu C i f m):=
 (qG M N.pe Q).imp fun D Y H ⟨U,O,DD,st,q,R⟩=>⟨U,O,st,aL _ _ _ (fun d S g I T O1 t Z d1=>by
  unfold cq fk at g;cases ho:bJ C S i with
  | none=>rw[ho] at g;exact g.elim
  | some p=>
   obtain⟨io,fs⟩:=p;rw[ho] at g;simp only at g
   by_cases j:fs.length<1000/\fj (fs.lookup f)=true
   ·rw[if_pos j] at g;obtain⟨r,fp,u,⟨n,v,l,e1,e2,e3,J⟩,hO,nd,up⟩:=t.boxN (ka ho);subst e1;obtain⟨y,_⟩:n≠r/\True:=⟨fun z=>by subst z;simp at nd,trivial⟩
    refine⟨_,u,r,C,n,v,rfl,e2,cl,L,by rw[J.len];exact j.1,?_⟩;obtain⟨O3,A,s3,_⟩:=up (aQ T r (.ins C n (cN f I v))) (.o C (bU f (.d d) fs)) (r::n::l.flatten) (fun c o B e=>by rw[bv (fun z=>B (by simp[z]))];exact e) nd (fun c j=>.inl j) (fun G O' s hG _=>by
     subst hG;refine⟨s.hid,n,cN f I v,if (fs.lookup f).isSome=true then l else l++[[]],?_,cF,by rw[bv y];exact e3,?_⟩
     ·split
      ·rfl
      ·simp
     ·refine J.putD j.2 (DV.mono s.hid d1) s.hid fun c j=>bv (fun z=>?_);subst z;exact absurd j (by
       have:=(List.nodup_cons.mp nd).1;exact fun w=>this (bL _ w)))
    exact R.nx _ _ _ _ A (Z.trans s3) g
   ·rw[if_neg j] at g;exact g.elim) (gP (m:=m) (k:=fk C i f) q)⟩
end
section
variable{X:Cx}{F:Fx}{E:Str->ao->Prop}{e:Expr}{es:List Expr}{pos p1 apos p:Pos}{x m:Str}{C:Addr}{i:Nat}{k:Nat}{g:Addr}{fd:FuncData}{ps:List Str}{f:FM}{mX:XM (List AX)}
theorem Co{as:List AX}{d:ao}{Q:aj->ao->Prop}(a:wp E (lQ f as) d Q):gp f E Q as d:=by
 unfold wp lQ at a;unfold gp;cases j:gL d as with
 | none=>rw[j] at a;exact a
 | some p=>
  obtain⟨l,n⟩:=p;rw[j] at a;simp only at a ⊢;cases h:f l with
  | rt c b=>rw[h] at a;exact a
  | ex c b=>rw[h] at a;exact a
  | bad=>rw[h] at a;exact a
noncomputable def cM(f:FM)(i:Nat)(as:List AX):XM aj:=lQ f (.s i::as)
noncomputable def bR(C:Addr)(i:Nat)(m:Str)(f:FM)(mX:XM (List AX)):XM aj:=fun U=>match bJ C U i with
 | some (_,fs)=>if fs.lookup m=none then(mX U).bind (cM f i) else .bad
 | none=>.bad
theorem Nm{pl:Sem Bool}(hx:fb X F E)(cl:cO X.K C)(Z:iz X.K C m g)(G:az X.prog X.w X.K X.mg X.base (ba X.prog X.w) k g fd ps (be X.K X.mg f))(hr:bz k X.A)(hb:ic X.K fd ps [])(hv:PE X (.Name x p1) (bS i))(ha:FX X F E (e::es) mX)
  (J:starEach (e::es) X.env=(false,eval e X.env)::starEach es X.env:=by rfl) (L:(backTo pos (starEach es X.env)).any (·.1)=false:=by rfl)
  (ht:eval (.Call (.Attribute (.Name x p1) m apos) (e::es) [] pos) X.env=(do
   let ov <-eval (.Name x p1) X.env
   standAt apos.atName
   let(f,first) <-holding [ov] (getMethod ov m pl)
   callWith pos f first (backTo pos (starEach (e::es) X.env)) (backToKw pos (keywordEach [] X.env))):=by rfl) :
  FO X F E (.Call (.Attribute (.Name x p1) m apos) (e::es) [] pos) (bR C i m f mX):=by
 refine⟨aL,fun a s Y H Q I ⟨U,O,st,q⟩=>?_⟩;unfold wp bR at q;cases ho:bJ C U i with
 | none=>rw[ho] at q;exact q.elim
 | some p=>
  obtain⟨io,fs⟩:=p;rw[ho] at q;simp only at q
  by_cases M:fs.lookup m=none
  ·rw[if_pos M] at q;obtain⟨b,z,l,⟨dx,gs,a1,e1,e2,e3,e4⟩,_,_⟩:=st.box (ka ho);have hg:gs.lookup m=none:=by
    rcases kJ e4 m with⟨l1,_⟩ | ⟨_,_,_,_,l2,_⟩
    ·exact l1
    ·rw[M] at l2;cases l2
   refine PySem.W.methodCall_KW (pl:=pl) (aU (hv a s Y H (fun v n=>v=.ref b/\n=H) I ⟨_,l,rfl,rfl⟩) fun u N ⟨v,n,I1,rx,ex,eH⟩=>?_) ht;subst ex eH;obtain rfl:u=Value.ref b:=rx;refine zG I1 e2 cl Z hg ?_;have q':=cg (E:=E) (m:=mX) (k:=cM f i) (U:=U) q;refine PySem.W.callWith_K (first:=[.ref b]) (h₀:=X.base) I.ok.mod.kin Z.kp (aU (ha.pa pos a N Y n (fun B o=>∃as t j,aE X.K F o Y t j/\aM O n j o/\cQ Y (aw j o) B as/\gp f E (fun c U'=>∀v y D z,gF X.K F y Y U' D v c z->aM O n D y->Q v y) (.s i::as) t) I1 ⟨U,O,st,ha.mn _ _ _ (fun as t R B o j d N S=>⟨as,t,j,d,N,S,Co R⟩) q'⟩) fun us s2 ⟨B,o,I2,r,as,t,j,d,T,S,R⟩=>⟨I2.kIn,?_⟩) J L;exact vZ hx G hr hb I2 (vs:=V.ref b::B) (us:=Value.ref b::us) (.cons (show bp (.ref b) (.ref b) from rfl) r) d (cQ.s l S) R fun c U' h v y D z res s2=>h v y D z res (T.trans s2)
  ·rw[if_neg M] at q;exact q.elim
noncomputable def cD(C:Addr)(i:Nat)(m:Str)(f:FM):XM aj:=fun U=>match bJ C U i with
 | some (_,fs)=>if fs.lookup m=none then lQ f [.s i] U else .bad
 | none=>.bad
theorem Nn{pl:Sem Bool}(t:fb X F E)(cl:cO X.K C)(l:iz X.K C m g)(G:az X.prog X.w X.K X.mg X.base (ba X.prog X.w) k g fd ps (be X.K X.mg f))(y:bz k X.A)(hb:ic X.K fd ps [])(z:PE X (.Name x p1) (bS i))
  (B:eval (.Call (.Attribute (.Name x p1) m apos) [] [] pos) X.env=(do
   let n <-eval (.Name x p1) X.env
   standAt apos.atName
   let(f,first) <-holding [n] (getMethod n m pl)
   callWith pos f first (backTo pos (starEach [] X.env)) (backToKw pos (keywordEach [] X.env))):=by rfl) :
  FO X F E (.Call (.Attribute (.Name x p1) m apos) [] [] pos) (cD C i m f):=by
 refine⟨aL,fun b s Y H Q I ⟨U,O,st,q⟩=>?_⟩;unfold wp cD at q;cases ho:bJ C U i with
 | none=>rw[ho] at q;exact q.elim
 | some p=>
  obtain⟨io,fs⟩:=p;rw[ho] at q;simp only at q
  by_cases j:fs.lookup m=none
  ·rw[if_pos j] at q;obtain⟨a,o,d,⟨dx,D,J,e1,L,e3,M⟩,_,_⟩:=st.box (ka ho);have N:D.lookup m=none:=by
    rcases kJ M m with⟨l1,_⟩ | ⟨_,_,_,_,l2,_⟩
    ·exact l1
    ·rw[j] at l2;cases l2
   refine PySem.W.methodCall_KW (pl:=pl) (aU (z b s Y H (fun v r=>v=.ref a/\r=H) I ⟨_,d,rfl,rfl⟩) fun u s1 ⟨v,r,I1,R,ex,S⟩=>?_) B;subst ex S;obtain rfl:u=Value.ref a:=R;refine zG I1 L cl l N ?_;refine PySem.W.callWith_K0 (first:=[.ref a]) I1.kIn l.kp ?_;exact vZ (vs:=[V.ref a]) (us:=[Value.ref a]) (as:=[.s i]) t G y hb I1 (.cons (show bp (.ref a) (.ref a) from rfl) .nil) st (cQ.s d .nil) (Co q) fun c U' h v T Z o res s2=>h v T Z o res s2
  ·rw[if_neg j] at q;exact q.elim
noncomputable def nj(C:Addr)(f:FM)(a:List PyData):XM aj:=fun U=>match f (.own true (.o C [])::a.map .dat) with
 | .rt (.dat .none) [b]=>.ok (.own false b) U
 | .ex c _=>.ex c U
 | _=>.bad
noncomputable def oX(C:Addr)(f:FM)(a:XM (List PyData)):XM aj:=fun U=>(a U).bind (nj C f)
theorem Cp{K:Frag}{H:Hp}{O:List Addr}:∀{b:List V}{a:List PyData},aK (aw O H) b a->aX K H O b (a.map .dat) (a.map fun _=>[])
 | _,_,.nil=>.nil
 | _,_,.cons h t=>.dat h (Cp t)
theorem Cq{H:Hp}{O:List Addr}{a:Addr}{b:Bx}:∀{j:List PyData}{l:List V}{bs:List Bx}{c:List (List Addr)},aV H O l (j.map aj.dat) bs c->bs=[]/\c=[]
 | [],_,_,_,.nil=>⟨rfl,rfl⟩
 | d::j,_,_,_,.skip _ h=>Cq (a:=a) (b:=b) h
theorem wZ{α β:Type}:∀l:List α,(l.map fun _=>([]:List β)).flatten=[]
 | []=>rfl
 | _::r=>by simp[wZ r]
theorem Cr{mA:XM (List PyData)}(hx:fb X F E)(M:Mk X.K C g)(G:az X.prog X.w X.K X.mg X.base (ba X.prog X.w) k g fd ps (be X.K X.mg f))(hr:bz (k+1) X.A)(hg:Gl X x)(hm:X.mg x=some (.ref C))(hb:ic X.K fd ps [])(j:FA X F E (e::es) mA)
  (b3:(x==("__debug__":Str))=false:=by decide) (he:starEach (e::es) X.env=(false,eval e X.env)::starEach es X.env:=by rfl) (b4:(backTo pos (starEach es X.env)).any (·.1)=false:=by rfl) :
  FO X F E (.Call (.Name x p) (e::es) [] pos) (oX C f mA):=by
 refine⟨aL,fun T s Y H Q I ⟨U,O,st,q⟩=>?_⟩;refine wpAny_Call_Name_kw (mG I hg hm ?_ b3);have q':=cg (E:=E) (m:=mA) (k:=nj C f) (U:=U) q;refine PySem.W.callWith_K (h₀:=X.base) I.ok.mod.kin M.kp (aU (j.pa pos T s Y H (fun vs t=>∃R Z n,aE X.K F t Y Z n/\aM O H n t/\aK (aw n t) vs R/\wp E (nj C f R) Z (fun c U'=>∀v l O' fp,gF X.K F l Y U' O' v c fp->aM O H O' l->Q v l)) I ⟨U,O,st,j.mn _ _ _ (fun R Z B vs t n D J dv=>⟨R,Z,n,D,J,dv,B⟩) q'⟩) fun us J ⟨vs,t,I1,r,R,Z,n,D,b5,dv,B⟩=>⟨I1.kIn,?_⟩) he b4;let EX:XK:=fun C _ l=>∃c U' O',X.mg c=some C/\aE X.K F l Y U' O'/\E c U';have h:∀x d,t x=none->t d=none->d≠x->be X.K X.mg f (.ref x::vs) (aQ (aQ t d (.own x)) x (.ins C d [])) (fun v H2=>v=.non/\Q (.ref x) H2) EX:=fun x d h1 h2 a1=>by
  obtain⟨W,a2,a8⟩:=id D;have a3:∀a∈n,∃o,t a=some o/\Mv o:=fun a h=>a2.live a (by rw[<-a8];exact h);have nx:x∉n:=fun z=>by obtain⟨o,e,_⟩:=a3 x z;rw[h1] at e;cases e
  have b6:d∉n:=fun z=>by obtain⟨o,e,_⟩:=a3 d z;rw[h2] at e;cases e
  have a4:n.Nodup:=by rw[a8];exact a2.nd
  have up:∀b o,t b=some o->aQ (aQ t d (.own x)) x (.ins C d []) b=some o:=fun b o e=>by rw[bv (fun z=>by subst z;rw[h1] at e;cases e),bv (fun z=>by subst z;rw[h2] at e;cases e)];exact e
  have fl:(([x,d]::R.map fun _=>([]:List Addr)).flatten++n)=x::d::n:=by rw[List.flatten_cons,wZ];rfl
  have hid:bW (aw n t) (aw (x::d::n) (aQ (aQ t d (.own x)) x (.ins C d []))):=fun b o e=>by
   obtain⟨S,n1⟩:=cW e;refine ie (up b o S) fun z=>?_;rcases List.mem_cons.mp z with z | z
   ·subst z;rw[h1] at S;cases S
   ·rcases List.mem_cons.mp z with z | z
    ·subst z;rw[h2] at S;cases S
    ·exact n1 z
  refine⟨(hx.1.at D).mono fun b u _ e=>up b u e,.own true (.o C [])::R.map .dat,[x,d]::R.map fun _=>[],n,?_,?_,?_,?_⟩
  ·rw[fl];exact .own ⟨d,[],[],rfl,cF,by rw[bv a1,cF],.nil⟩ (Cp (aK.mono hid dv))
  ·rw[fl];refine List.nodup_cons.mpr ⟨fun z=>?_,List.nodup_cons.mpr ⟨b6,a4⟩⟩;rcases List.mem_cons.mp z with z | z
   ·exact a1 z.symm
   ·exact nx z
  ·rw[fl];intro a j;rcases List.mem_cons.mp j with rfl | j
   ·exact⟨.ins C d [],cF,trivial⟩
   ·rcases List.mem_cons.mp j with rfl | j
    ·exact⟨.own x,by rw[bv a1,cF],trivial⟩
    ·obtain⟨o,S,e2⟩:=a3 a j;exact⟨o,up a o S,e2⟩
  ·unfold wp nj at B;have hL:([x,d]::R.map fun _=>([]:List Addr)).flatten=[x,d]:=by rw[List.flatten_cons,wZ];rfl
   have a9:aE X.K (F.plus []) t Y Z n:=D;have lift:∀(l:Hp) (L':List Addr),gn (aQ (aQ t d (.own x)) x (.ins C d [])) l [x,d] L' n->∃N,aE X.K (F.plus L') l Y Z N/\aM n t N l/\(∀a∈L',a∈N)/\(∀a∈N,a∈L'\/a∈n)/\∀a∈L',a∈F.A₀\/F.H₀ a=none:=fun l L' y=>by
    have new1:∀a∈L',t a=none:=fun a j=>by
     rcases y.new a j with z | z
     ·simp only[List.mem_cons,List.not_mem_nil,or_false] at z;rcases z with rfl | rfl
      ·exact h1
      ·exact h2
     ·cases e:t a with
      | none=>rfl
      | some o=>rw[up a o e] at z;cases z
    obtain⟨N,t1,t2,t3,t4,_⟩:=a9.swap (L':=L') (H':=l) (fun b o _ e=>y.keep b o (fun z=>by
     simp only[List.mem_cons,List.not_mem_nil,or_false] at z;rcases z with rfl | rfl
     ·rw[h1] at e;cases e
     ·rw[h2] at e;cases e) (up b o e)) (List.nodup_append.mp y.nd).1 (fun a j=>.inr (new1 a j)) (fun a h=>by cases h) y.live
    refine⟨N,t1,t2,t3,fun a j=>(t4 a j).imp id (·.1),fun a j=>?_⟩
    by_cases hA:a∈F.A₀
    ·exact .inl hA
    ·refine .inr ?_;cases e:F.H₀ a with
     | none=>rfl
     | some o=>have:=a2.kept a o hA e;rw[new1 a j] at this;cases this
   cases hf:f (.own true (.o C [])::R.map .dat) with
   | bad=>rw[hf] at B;exact B
   | ex c a0=>rw[hf] at B;intro C' l b0 a5 b1 y;rw[hL] at y;obtain⟨N,t1,t2,t3,t4,t5⟩:=lift l [] ⟨a4,fun a h=>(by cases h),y.keep,fun a h=>(by cases h)⟩;exact⟨c,Z,N,a5,t1,B⟩
   | rt c a0=>
    rw[hf] at B;intro v l fp b0 b7 b1 y;rw[hL] at y
    match c,a0,B with
    | .dat .none,[b'],B=>
     have hv:v=.non:=DV.non_inv b7;cases b1 with
     | skip b8 _=>exact absurd rfl (b8 _ _)
     | @own _ _ _ _ a6 _ _ _ c1 b2 a7=>
      obtain⟨_,rfl⟩:=Cq (a:=0) (b:=b') a7;refine⟨hv,?_⟩;simp only[List.flatten_cons,List.flatten_nil,List.append_nil] at b2 y;have b9:gn (aQ (aQ t d (.own x)) x (.ins C d [])) l [x,d] a6 n:=⟨by
       have n1:=y.nd;rw[List.append_assoc] at n1;obtain⟨m1,m2,m3⟩:=List.nodup_append.mp n1;exact List.nodup_append.mpr ⟨m1,a4,fun a j b hb=>m3 a j b (bo _ hb)⟩,fun a j=>y.live a (bt _ j),y.keep,fun a j=>y.new a (bt _ j)⟩
      obtain⟨N,t1,t2,t3,t4,t5⟩:=lift l a6 b9;refine B (.ref x) l N a6 ⟨t1,⟨x,rfl,b2.keep (fun _ _=>rfl) (ow fun a j=>?_)⟩,t5⟩ (b5.trans t2);rcases t4 a j with z | z
      ·exact bt _ (bt _ z)
      ·exact bo _ z
 have hq:=h (J.heap.objs.size+1) J.heap.objs.size (I1.hok.fresh (Nat.le_succ _)) (I1.hok.fresh (bI _)) (Nat.ne_of_lt (Nat.lt_succ_self _));have I2:=Inv.made (C:=C) I1;have r2:bq (V.ref (J.heap.objs.size+1)::vs) (Value.ref (J.heap.objs.size+1)::us):=.cons rfl r;have hl:(Value.ref (J.heap.objs.size+1)::us++[]).length=ps.length:=by have e:=r2.length;rw[G.len _ _ _ _ hq] at e;rw[List.append_nil];exact e.symm
 refine wpAny_call (Hu (f:=g) I1.kIn M.makes M.init (beq_iff_eq.mp M.fn) (codeAny_mono (G.run _ X.stack _ _ ⟨Value.ref (J.heap.objs.size+1)::us,[]⟩ (Value.ref (J.heap.objs.size+1)::us) _ _ EX (hr.make C us [])
  (I2.env0.make C us []) (by have:=hb _ (Value.ref (J.heap.objs.size+1)::us) I2.kIn hl;rw[List.append_nil] at this;exact this) r2 hq) fun r s' L=>?_))
 cases r with
 | error e=>obtain⟨a,C',l,S,I',cv,ex,c,U',O',a5,c0,hE⟩:=I2.flies L;exact hx.2 T Y l s' e c U' O' ⟨I',a,C',_,_,S,cv,ex,a5⟩ c0 hE
 | ok fl=>
  cases fl with
  | ret u=>obtain⟨v,l,I3,rv,ev,q3⟩:=I2.after L;subst ev;exact⟨rv,⟨V.ref (J.heap.objs.size+1),l,I3,rfl,q3⟩⟩
  | next=>exact False.elim L
  | brk=>exact False.elim L
  | cont=>exact False.elim L
end
noncomputable def xa:Fl->Bool
 | .d _=>false
 | _=>true
theorem No{G H:Hp}{v:V}{x:Fl}{f:List Addr}(h:gj G H v x f)(i:xa x=true):∃b,v=.ref b/\f=[b]:=by
 cases x with
 | d _=>cases i
 | l ds=>obtain⟨a,j,c,e,_⟩:=h;exact⟨a,c,e⟩
 | m k g=>obtain⟨a,c,e,_⟩:=h;exact⟨a,c,e⟩
theorem Cs{G H:Hp}{f:Str}{x:Fl}(t:xa x=true):∀{o:List (Str×V)}{fs:List (Str×Fl)}{a:List (List Addr)},bx G H o fs a->fs.lookup f=some x->a.flatten.Nodup->
  ∃b,o.lookup f=some (.ref b)/\gj G H (.ref b) x [b]/\b∈a.flatten/\∀(i j:Hp) (l:Fl),bW G i->(∀c∈a.flatten,c≠b->j c=H c)->gj i j (.ref b) l [b]->bx i j o (bU f l fs) a
 | _,_,_,.nil,m,_=>by cases m
 | (n,v)::o,(_,y)::fs,D::a,.cons h1 h2,m,nd=>by
  rw[List.flatten_cons] at nd;obtain⟨E,u,q⟩:=List.nodup_append.mp nd
  by_cases e:f=n
  ·subst e;have w:y=x:=by simpa[List.lookup] using m
   subst w;obtain⟨b,rfl,rfl⟩:=No h1 t;refine⟨b,by simp[List.lookup],h1,by simp,fun i j l g k d=>?_⟩;unfold bU;rw[if_pos rfl];refine .cons d (h2.keep (fun c h=>k c (by rw[List.flatten_cons];exact bo _ h) fun z=>?_) g);exact q b (by simp) c h z.symm
  ·have r:(f==n)=false:=by simpa using e
   rw[List.lookup_cons,r] at m;obtain⟨b,A,B,s,C⟩:=Cs t h2 m u;refine⟨b,by rw[List.lookup_cons,r];exact A,B,by rw[List.flatten_cons];exact bo _ s,fun i j l g k d=>?_⟩;unfold bU;rw[if_neg (fun z=>e z.symm)];refine .cons (h1.keep (fun c h=>k c (by rw[List.flatten_cons];exact bt _ h) fun z=>?_) g) (C i j l g (fun c h p=>k c (by rw[List.flatten_cons];exact bo _ h) p) d);exact q c h b s z
theorem aE.fldUp{K:Frag}{F:Fx}{H:Hp}{Y:St}{U:ao}{O:List Addr}{C:Addr}{i:Nat}{io:Bool}{fs:List (Str×Fl)}{f:Str}{x:Fl}(st:aE K F H Y U O)(T:bJ C U i=some (io,fs))(lk:fs.lookup f=some x)(w:xa x=true) :
  ∃a d h b,Y[i]? = some (some (.ref a))/\H a=some (.ins C d h)/\h.lookup f=some (.ref b)/\gj (aw O H) H (.ref b) x [b]/\
   ∀(g:HO) (j:Fl),Mv g->(∀G,bW (aw O H) G->gj G (aQ H b g) (.ref b) j [b])->∃k,aE K F (aQ H b g) Y (U.set i (some (.own io (.o C (bU f j fs))))) k/\aM O H k (aQ H b g):=by
 obtain⟨a,X,n,⟨d,h,l,y,v,A,B⟩,Z,nd,up⟩:=st.boxN (ka T);subst y;have m:=nd;rw[List.nodup_cons,List.nodup_cons] at m;obtain⟨D,p,E⟩:=m;obtain⟨b,I,J,q,L⟩:=Cs w B lk E;have M:a≠b:=fun z=>D (by rw[z];exact bL _ q);have N:d≠b:=fun z=>p (by rw[z];exact q);refine⟨a,d,h,b,n,v,I,J,fun g j hM Q=>?_⟩;obtain⟨k,r,R,_⟩:=up (aQ H b g) (.o C (bU f j fs)) (a::d::l.flatten) (fun c o t e=>by rw[bv (fun z=>t (by rw[z];exact bL _ (bL _ q)))];exact e) nd (fun c t=>.inl t) (fun G k s S _=>by
  subst S;exact⟨s.hid,d,h,l,rfl,by rw[bv M];exact v,by rw[bv N];exact A,L _ _ j s.hid (fun c _ u=>bv u) (Q _ s.hid)⟩)
 exact⟨k,r,R⟩
section
variable{X:Cx}{F:Fx}{E:Str->ao->Prop}{e a b c:Expr}{es:List Expr}{st:Stmt}{pos p1 apos cpos fpos:Pos}{x f:Str}{C:Addr}{i:Nat}{m:XM PyData}
noncomputable def nk(C:Addr)(i:Nat)(f:Str)(d:PyData):SM:=fun U=>match bJ C U i with
 | some (io,fs)=>(match fs.lookup f with
  | some (.l ds)=>if ds.length<sizeLine then .nx (U.set i (some (.own io (.o C (bU f (.l (ds++[d])) fs))))) else .bad
  | _=>.bad)
 | none=>.bad
noncomputable def dh(U:ao)(j:Nat):Option PyData:=match U[j]? with
 | some (some (.dat d))=>some d
 | _=>none
theorem kb{U:ao}{j:Nat}{d:PyData}(h:dh U j=some d):U[j]? = some (some (.dat d)):=by
 unfold dh at h;split at h
 ·rename_i e;cases h;exact e
 ·cases h
noncomputable def lZ(C:Addr)(i:Nat)(f:Str)(j:Nat):SM:=fun U=>match dh U j with
 | some d=>nk C i f d U
 | none=>.bad
theorem Np{y:Str}{k:Pos}{j:Nat}(cl:cO X.K C)(R:cx X.K C f)(S:PE X (.Name x p1) (bS i))(T:PE X (.Name y k) (bS j))(hb:attributeBase (.Name x p1) f X.env (eval (.Name x p1) X.env)=eval (.Name x p1) X.env:=by rfl)
  (A:swapsWith (.Call (.Attribute (.Attribute (.Name x p1) f fpos) "append" apos) [.Name y k] [] cpos) none pos.line X.env=pure false:=by rfl)
  (n:attributeBase (.Attribute (.Name x p1) f fpos) "append" X.env (eval (.Attribute (.Name x p1) f fpos) X.env)=eval (.Attribute (.Name x p1) f fpos) X.env:=by rfl)
  (t:((backTo cpos (starEach [.Name y k] X.env)).all (fun x=>!x.1)&&(backToKw cpos (keywordEach [] X.env)).all (fun x=>x.1.isSome)&&decide (([.Name y k]:List Expr).length+([]:List Keyword).length+(if ([]:List Keyword).isEmpty then 0 else 1)<30))=true:=by rfl)
  (o:(apos.endLine==cpos.line)=true:=by rfl) (N:starEach [.Name y k] X.env=(false,eval (.Name y k) X.env)::starEach [] X.env:=by rfl) (h:(backTo cpos (starEach [] X.env)).any (·.1)=false:=by rfl) :
  FS X F E (.Expr (.Call (.Attribute (.Attribute (.Name x p1) f fpos) "append" apos) [.Name y k] [] cpos) pos) (lZ C i f j):=
 (qz (qL PySem.F.plainAttrs_list PySem.F.slot_list_append PySem.F.type_list_append zY (ib S hb) (df T ed N) n t o N h) A).imp fun D Y H ⟨U,O,DD,st,q,Z⟩=>by
  unfold cq lZ at q;cases r:dh U j with
  | none=>rw[r] at q;exact q.elim
  | some d=>
   have hd:=kb r;rw[r] at q;simp only at q;unfold nk at q;cases ho:bJ C U i with
   | none=>rw[ho] at q;exact q.elim
   | some p=>
    obtain⟨io,fs⟩:=p;rw[ho] at q;simp only at q;cases s:fs.lookup f with
    | none=>rw[s] at q;exact q.elim
    | some z=>
     rw[s] at q;cases z with
     | d _=>exact q.elim
     | m _ _=>exact q.elim
     | l ds=>
      simp only at q
      by_cases B:ds.length<sizeLine
      ·rw[if_pos B] at q;obtain⟨a0,dx,gs,I,J,e2,q1,⟨b1,v,eb,_,Q,u⟩,up⟩:=st.fldUp ho s rfl;cases eb;obtain⟨w,hw,L⟩:=st.dat hd;obtain⟨O2,M,s2⟩:=up (.lst (v++[w])) (.l (ds++[d])) trivial (fun G g=>⟨I,v++[w],rfl,rfl,cF,(aK.mono g u).append (.cons (DV.mono g L) .nil)⟩);exact⟨_,J,a0,C,dx,gs,.ref I,rfl,e2,cl,R,q1,.inl ⟨rfl,v,.of Q⟩,w,hw,I,v,w,rfl,rfl,Q,by rw[u.length];exact B,Z.nx _ _ _ _ M s2 q⟩
      ·rw[if_neg B] at q;exact q.elim
noncomputable def me(C:Addr)(i:Nat)(f:Str)(j l:Nat)(v:PyData):SM:=fun U=>match bJ C U i,dh U j,dh U l with
 | some (io,fs),some y,some z=>(match fs.lookup f,jj true (.tuple [y,z]) with
  | some (.m true d),some k=>if d.length<sizeLine then .nx (U.set i (some (.own io (.o C (bU f (.m true (kG true d (.tuple [y,z]) k v)) fs))))) else .bad
  | _,_=>.bad)
 | _,_,_=>.bad
noncomputable def nq(C:Addr)(i:Nat)(f:Str)(j l:Nat)(m:XM PyData):SM:=fun U=>fh (m U) (me C i f j l)
theorem Nq{y z:Str}{w s p4 r:Pos}{j l kx:Nat}(hu:X.A.units+1<cLine)(cl:cO X.K C)(na:cx X.K C f)(hv:PE X (.Name x p1) (bS i))(hy:PE X (.Name y w) (bS j))(hz:PE X (.Name z s) (bS l))(he:FE X F E e m)(hb:attributeBase (.Name x p1) f X.env (eval (.Name x p1) X.env)=eval (.Name x p1) X.env:=by rfl)
  (h1:starEach [.Name y w,.Name z s] X.env=(false,eval (.Name y w) X.env)::starEach [.Name z s] X.env:=by rfl) (h2:starEach [.Name z s] X.env=(false,eval (.Name z s) X.env)::starEach [] X.env:=by rfl)
  (hs:swapsWith e (some (.Subscript (.Attribute (.Name x p1) f fpos) (.Tuple [.Name y w,.Name z s] kx p4) r)) pos.line X.env=pure false:=by rfl) :
  FS X F E (.Assign [.Subscript (.Attribute (.Name x p1) f fpos) (.Tuple [.Name y w,.Name z s] kx p4) r] e pos) (nq C i f j l m):=
 (IV hu (ib hv hb) (qH (df hy (df hz ed h2) h1)) he.pe hs).imp fun D Y H ⟨U,O,DD,st,q,fD⟩=>⟨U,O,st,aL _ _ _ (fun v N h vy H1 O1 n s1 d1=>by
  unfold cq me at h;cases ho:bJ C N i with
  | none=>rw[ho] at h;exact h.elim
  | some p=>
   obtain⟨io,fs⟩:=p;cases L:dh N j with
   | none=>rw[ho,L] at h;exact h.elim
   | some y0=>
    cases Q:dh N l with
    | none=>rw[ho,L,Q] at h;exact h.elim
    | some z0=>
     rw[ho,L,Q] at h;simp only at h;cases o:fs.lookup f with
     | none=>rw[o] at h;exact h.elim
     | some t=>
      rw[o] at h;cases t with
      | d _=>exact h.elim
      | l _=>exact h.elim
      | m tk B=>
       cases tk with
       | false=>exact h.elim
       | true=>
        cases R:jj true (.tuple [y0,z0]) with
        | none=>rw[R] at h;exact h.elim
        | some k=>
         rw[R] at h;simp only at h
         by_cases u:B.length<sizeLine
         ·rw[if_pos u] at h;obtain⟨a0,dx,gs,S,I,e2,l1,_,_⟩:=n.fldUp ho o rfl;obtain⟨w1,T,Z⟩:=n.dat (kb L);obtain⟨w2,a2,a3⟩:=n.dat (kb Q);refine⟨_,I,a0,C,dx,gs,.ref S,rfl,e2,cl,na,l1,w1,T,w2,a2,show 2<=sizeLine by decide,fun p hp=>?_⟩;have M:bW H1 (aQ H1 p (.tup [w1,w2])):=bX hp;have a4:=n.grow M;have hd:=kl (O:=O1) M;obtain⟨a1,a7,a8,b1,J,e3,l2,⟨b2,eb,_,a5⟩,up⟩:=a4.fldUp ho o rfl;rw[I] at J;cases J;rw[M _ _ e2] at e3;cases e3;rw[l1] at l2;cases l2;cases eb;obtain⟨o',g1,mv,g2⟩:=MH a5 mL (kr hp (n.nofree p hp) (.cons Z (.cons a3 .nil))) (DV.mono hd d1) R u;obtain⟨O3,a6,s3⟩:=up o' (.m true (kG true B (.tuple [y0,z0]) k v)) mv (fun G g=>⟨S,rfl,rfl,g2 G g⟩);exact⟨S,_,rfl,g1,fD.nx _ _ _ _ a6 (s1.trans ((aM.same M).trans s3)) h⟩
         ·rw[if_neg u] at h;exact h.elim) (gP (m:=m) (k:=me C i f j l) q)⟩
end
section
variable{X:Cx}{F:Fx}{E:Str->ao->Prop}{e a b c:Expr}{es:List Expr}{st:Stmt}{pos p1 apos cpos fpos:Pos}{x f:Str}{C:Addr}{i:Nat}{m:XM PyData}
noncomputable def oY(C:Addr)(i:Nat)(f:Str)(j:Nat):XM PyData:=fun U=>match bJ C U i,dh U j with
 | some (_,fs),some (.int k)=>(match fs.lookup f with
  | some (.l ds)=>lift (bT ds k) U
  | some (.d (.list ds))=>lift (bT ds k) U
  | some (.d (.tuple ds))=>.bad
  | _=>.bad)
 | _,_=>.bad
theorem Ct{G:Hp}{l:List V}{g:List PyData}{k:Int}{d:PyData}(h:aK G l g)(e:bT g k=some d):∃v,bT l k=some v/\DV G v d:=by
 unfold bT at e ⊢;rw[h.length];cases n:dG g.length k with
 | none=>rw[n] at e;cases e
 | some j=>rw[n] at e;exact h.get e
theorem Nr{y:Str}{s:Pos}{j:Nat}(cl:cO X.K C)(R:cx X.K C f)(Z:PE X (.Name x p1) (bS i))(hy:PE X (.Name y s) (bS j))(hb:attributeBase (.Name x p1) f X.env (eval (.Name x p1) X.env)=eval (.Name x p1) X.env:=by rfl)(hs:ot (.Name y s):=by intro _ _;rfl) :
  FE X F E (.Subscript (.Attribute (.Name x p1) f fpos) (.Name y s) pos) (oY C i f j):=
 ⟨aL,(vu vB (ib Z hb) hy hs).imp fun Y H Q ⟨U,O,st,q⟩=>by
  unfold wp oY at q;cases ho:bJ C U i with
  | none=>rw[ho] at q;exact q.elim
  | some p=>
   obtain⟨io,fs⟩:=p;cases u:dh U j with
   | none=>rw[ho,u] at q;exact q.elim
   | some y0=>
    rw[ho,u] at q;cases y0 with
    | int k=>
     simp only at q;obtain⟨w,S,dw⟩:=st.dat (kb u);obtain rfl:=dw.int_inv;cases g:fs.lookup f with
     | none=>rw[g] at q;exact q.elim
     | some t=>
      rw[g] at q;cases t with
      | m _ _=>exact q.elim
      | l ds=>obtain⟨z,A,B,T,h,D,l1,⟨G,I,eb,_,J,n⟩,_⟩:=st.fldUp ho g rfl;cases eb;obtain⟨d,r,L⟩:=dm (o:=bT ds k) (U:=U) (E:=E) q;obtain⟨v,M,N⟩:=Ct n r;exact⟨_,h,z,C,A,B,.ref T,rfl,D,cl,R,l1,_,S,T,I,k,v,rfl,rfl,.of J,M,L v H O st .refl N⟩
      | d x0=>
       cases x0 with
       | list ds=>
        obtain⟨z,fp,h,⟨A,B,a1,r,D,e3,e4⟩,_,_⟩:=st.box (ka ho);rcases kJ e4 f with⟨_,l2⟩ | ⟨v,y1,a2,l1,l2,l3,_⟩
        ·rw[g] at l2;cases l2
        ·rw[g] at l2;cases l2;obtain⟨G,I,rfl,J,n⟩:=l3.2.lst_inv;obtain⟨d,r,L⟩:=dm (o:=bT ds k) (U:=U) (E:=E) q;obtain⟨v,M,N⟩:=Ct n r;exact⟨_,h,z,C,A,B,.ref G,rfl,D,cl,R,l1,_,S,G,I,k,v,rfl,rfl,.of (cW J).1,M,L v H O st .refl N⟩
       | _=>exact q.elim
    | _=>exact q.elim⟩
noncomputable def mf(C:Addr)(i:Nat)(f:Str)(j:Nat)(v:PyData):SM:=fun U=>match bJ C U i,dh U j with
 | some (io,fs),some (.int k)=>(match fs.lookup f with
  | some (.l ds)=>(match dG ds.length k with
   | some n=>.nx (U.set i (some (.own io (.o C (bU f (.l (ds.set n v)) fs)))))
   | none=>.bad)
  | _=>.bad)
 | _,_=>.bad
noncomputable def nr(C:Addr)(i:Nat)(f:Str)(j:Nat)(m:XM PyData):SM:=fun U=>fh (m U) (mf C i f j)
theorem Cu{G:Hp}{v:V}{d:PyData}(hd:DV G v d):∀{g:List V}{j:List PyData}(n:Nat),aK G g j->aK G (g.set n v) (j.set n d)
 | _,_,_,.nil=>.nil
 | _,_,0,.cons _ t=>.cons hd t
 | _,_,n+1,.cons h t=>.cons h (Cu hd n t)
theorem Nt{y:Str}{r h:Pos}{j:Nat}(cl:cO X.K C)(Z:cx X.K C f)(hv:PE X (.Name x p1) (bS i))(hy:PE X (.Name y r) (bS j))(he:FE X F E e m)(hb:attributeBase (.Name x p1) f X.env (eval (.Name x p1) X.env)=eval (.Name x p1) X.env:=by rfl)
  (hs:swapsWithSole [.Subscript (.Attribute (.Name x p1) f fpos) (.Name y r) h] e pos.line X.env=pure false:=by rfl) (hw:swappedStores [.Subscript (.Attribute (.Name x p1) f fpos) (.Name y r) h] e X.env=pure none:=by rfl)
  (h1:(assignEach [.Subscript (.Attribute (.Name x p1) f fpos) (.Name y r) h] X.env).map (·.2)=[assign (.Subscript (.Attribute (.Name x p1) f fpos) (.Name y r) h) X.env]:=by rfl)
  (hq:∀v,assign (.Subscript (.Attribute (.Name x p1) f fpos) (.Name y r) h) X.env v=(do
   let A <-holding [v] (eval (.Attribute (.Name x p1) f fpos) X.env);let B <-holding [v,A] (eval (.Name y r) X.env)
   standAt h
   holding [v,A,B] (setItem A B v)
   release [v,A,B] []):=by intro _;rfl) :
  FS X F E (.Assign [.Subscript (.Attribute (.Name x p1) f fpos) (.Name y r) h] e pos) (nr C i f j m):=
 (GK he.pe (GJ (ib hv hb) hy Ih hq) hs hw h1).imp fun D Y H ⟨U,O,DD,st,q,fD⟩=>⟨U,O,st,aL _ _ _ (fun v S o T H1 O1 u s1 d1=>by
  unfold cq mf at o;cases ho:bJ C S i with
  | none=>rw[ho] at o;exact o.elim
  | some p=>
   obtain⟨io,fs⟩:=p;cases I:dh S j with
   | none=>rw[ho,I] at o;exact o.elim
   | some y0=>
    rw[ho,I] at o;cases y0 with
    | int k=>
     simp only at o;cases s:fs.lookup f with
     | none=>rw[s] at o;exact o.elim
     | some t=>
      rw[s] at o;cases t with
      | d _=>exact o.elim
      | m _ _=>exact o.elim
      | l ds=>
       simp only at o;cases J:dG ds.length k with
       | none=>rw[J] at o;exact o.elim
       | some n=>rw[J] at o;obtain⟨w,L,dw⟩:=u.dat (kb I);obtain rfl:=dw.int_inv;obtain⟨a0,dx,gs,M,N,e2,l1,⟨b1,Q,eb,_,hH,z⟩,up⟩:=u.fldUp ho s rfl;cases eb;obtain⟨O2,R,s2⟩:=up (.lst (Q.set n T)) (.l (ds.set n v)) trivial (fun G g=>⟨M,Q.set n T,rfl,rfl,cF,Cu (DV.mono g d1) n (aK.mono g z)⟩);exact⟨_,N,a0,C,dx,gs,.ref M,rfl,e2,cl,Z,l1,_,L,M,Q,k,n,rfl,rfl,hH,by rw[z.length];exact J,fD.nx _ _ _ _ R (s1.trans s2) o⟩
    | _=>exact o.elim) (gP (m:=m) (k:=mf C i f j) q)⟩
noncomputable def rN(C:Addr)(i:Nat)(f:Str)(n:Int):SM:=fun U=>match bJ C U i with
 | some (io,fs)=>(match fs.lookup f with
  | some (.d (.int v))=>if fs.length<1000 then .nx (U.set i (some (.own io (.o C (bU f (.d (.int (v+n))) fs))))) else .bad
  | _=>.bad)
 | none=>.bad
theorem Nu{n:Int}{k:Pos}(cl:cO X.K C)(R:cx X.K C f)(S:PE X (.Name x p1) (bS i))(T:PE X e (fun Y H Q=>Q (.int n) H)):FS X F E (.AugAssign (.Attribute (.Name x p1) f k) .Add e pos) (rN C i f n):=
 (HA S T HD).imp fun D Y H ⟨U,O,DD,st,q,Z⟩=>by
  unfold cq rN at q;cases ho:bJ C U i with
  | none=>rw[ho] at q;exact q.elim
  | some p=>
   obtain⟨io,fs⟩:=p;rw[ho] at q;simp only at q;cases g:fs.lookup f with
   | none=>rw[g] at q;exact q.elim
   | some t=>
    rw[g] at q;cases t with
    | l _=>exact q.elim
    | m _ _=>exact q.elim
    | d x0=>
     cases x0 with
     | int v0=>
      simp only at q
      by_cases y:fs.length<1000
      ·rw[if_pos y] at q;obtain⟨r,fp,A,⟨j,u,h,e1,N,e3,B⟩,hO,nd,up⟩:=st.boxN (ka ho);subst e1;have I:j≠r:=fun z=>by subst z;simp at nd
       rcases kJ B f with⟨_,l2⟩ | ⟨v,y1,a1,l1,l2,l3,_⟩
       ·rw[g] at l2;cases l2
       ·rw[g] at l2;cases l2;obtain rfl:=l3.2.int_inv;obtain⟨O3,J,s3,_⟩:=up (aQ H r (.ins C j (cN f (.int (v0+n)) u))) (.o C (bU f (.d (.int (v0+n))) fs)) (r::j::h.flatten) (fun c o L e=>by rw[bv (fun z=>L (by simp[z]))];exact e) nd (fun c M=>.inl M) (fun G O' s hG _=>by
         subst hG;refine⟨s.hid,j,cN f (.int (v0+n)) u,if (fs.lookup f).isSome=true then h else h++[[]],?_,cF,by rw[bv I];exact e3,?_⟩
         ·split
          ·rfl
          ·simp
         ·refine B.putD (by rw[g];rfl) (.int _) s.hid fun c M=>bv (fun z=>?_);subst z;exact absurd M (fun w=>(List.nodup_cons.mp nd).1 (bL _ w)))
        exact⟨_,A,r,C,j,u,_,rfl,N,cl,R,l1,v0,n,rfl,rfl,j,u,N,by rw[B.len];exact y,Z.nx _ _ _ _ J s3 q⟩
      ·rw[if_neg y] at q;exact q.elim
     | _=>exact q.elim
end
theorem Cv{G b H d:Hp}{f:Str}{p:Addr}{y:Fl}:∀{i:List (Str×V)}{fs:List (Str×Fl)}{a:List (List Addr)},bx G H i fs a->fs.lookup f=none->bW G b->(∀c∈a.flatten,d c=H c)->gj b d (.ref p) y [p]->bx b d (cN f (.ref p) i) (bU f y fs) (a++[[p]])
 | _,_,_,.nil,_,_,_,h=>.cons h .nil
 | (n,v)::i,(_,z)::fs,o::a,.cons h1 h2,j,g,k,h=>by
  by_cases e:f=n
  ·subst e;simp[List.lookup] at j
  ·have m:(f==n)=false:=by simpa using e
   rw[List.lookup_cons,m] at j;unfold cN bU;rw[if_neg (fun z=>e z.symm),if_neg (fun z=>e z.symm)];exact .cons (h1.keep (fun c l=>k c (by rw[List.flatten_cons];exact bt _ l)) g) (Cv h2 j g (fun c l=>k c (by rw[List.flatten_cons];exact bo _ l)) h)
theorem aE.fldNew{K:Frag}{F:Fx}{H:Hp}{Y:St}{U:ao}{O:List Addr}{C:Addr}{i:Nat}{io:Bool}{fs:List (Str×Fl)}{f:Str}(st:aE K F H Y U O)(S:bJ C U i=some (io,fs))(lk:fs.lookup f=none) :
  ∃a d g,Y[i]? = some (some (.ref a))/\H a=some (.ins C d g)/\g.length=fs.length/\
   ∀(p:Addr) (h:HO) (y:Fl),H p=none->Mv h->(∀G,bW (aw O H) G->gj G (aQ (aQ H p h) a (.ins C d (cN f (.ref p) g))) (.ref p) y [p])->aQ H p h a=some (.ins C d g)/\∃l,aE K F (aQ (aQ H p h) a (.ins C d (cN f (.ref p) g))) Y (U.set i (some (.own io (.o C (bU f y fs))))) l/\aM O H l (aQ (aQ H p h) a (.ins C d (cN f (.ref p) g))):=by
 obtain⟨a,T,n,⟨d,g,j,D,q,v,w⟩,E,nd,up⟩:=st.boxN (ka S);subst D;have m:=nd;rw[List.nodup_cons,List.nodup_cons] at m;obtain⟨r,t,I⟩:=m;have ad:d≠a:=fun z=>r (by rw[z];exact List.mem_cons_self);refine⟨a,d,g,n,q,w.len,fun p h y k X J=>?_⟩;have pa:a≠p:=fun z=>by subst z;rw[q] at k;cases k
 have A:d≠p:=fun z=>by subst z;rw[v] at k;cases k
 have L:=st.live;have B:p∉j.flatten:=fun z=>by exact absurd (E p (bL _ (bL _ z))) (st.nofree p k)
 refine⟨by rw[bv pa];exact q,?_⟩;obtain⟨l,u,M,_⟩:=up (aQ (aQ H p h) a (.ins C d (cN f (.ref p) g))) (.o C (bU f y fs)) (a::d::(j++[[p]]).flatten) (fun c o b e=>by
   rw[bv (fun z=>b (by simp[z])),bv (fun z=>by subst z;rw[k] at e;cases e)];exact e) (by
   rw[List.flatten_append];simp only[List.flatten_cons,List.flatten_nil,List.append_nil];refine List.nodup_cons.mpr ⟨fun z=>?_,List.nodup_cons.mpr ⟨fun z=>?_,List.nodup_append.mpr ⟨I,by simp,fun x N y Q=>?_⟩⟩⟩
   ·rcases List.mem_cons.mp z with z | z
    ·exact ad z.symm
    ·rcases List.mem_append.mp z with z | z
     ·exact r (bL _ z)
     ·exact pa (List.mem_singleton.mp z)
   ·rcases List.mem_append.mp z with z | z
    ·exact t z
    ·exact A (List.mem_singleton.mp z)
   ·rw[List.mem_singleton.mp Q];exact fun z=>B (by rw[<-z];exact N)) (fun c b=>by
   rw[List.flatten_append] at b;simp only[List.flatten_cons,List.flatten_nil,List.append_nil] at b;rcases List.mem_cons.mp b with rfl | b
   ·exact .inl List.mem_cons_self
   ·rcases List.mem_cons.mp b with rfl | b
    ·exact .inl (by simp)
    ·rcases List.mem_append.mp b with b | b
     ·exact .inl (bL _ (bL _ b))
     ·exact .inr (by rw[List.mem_singleton.mp b];exact k)) (fun G l s R _=>by
  subst R;refine⟨s.hid,d,cN f (.ref p) g,j++[[p]],rfl,cF,by rw[bv ad,bv A];exact v,Cv w lk s.hid (fun c b=>?_) (J _ s.hid)⟩;rw[bv (fun z=>r (by rw[<-z];exact bL _ b)),bv (fun z=>B (by rw[<-z];exact b))])
 exact⟨l,u,M⟩
section
variable{X:Cx}{F:Fx}{E:Str->ao->Prop}{e a b c:Expr}{es:List Expr}{st:Stmt}{pos p1 p2 apos cpos fpos pos':Pos}{x f:Str}{C:Addr}{i:Nat}{m:XM PyData}
noncomputable def mi(C:Addr)(i:Nat)(f:Str)(y:Fl):SM:=fun U=>match bJ C U i with
 | some (io,fs)=>if fs.lookup f=none/\fs.length<1000 then .nx (U.set i (some (.own io (.o C (bU f y fs))))) else .bad
 | none=>.bad
theorem Nv(cl:cO X.K C)(o:cx X.K C f)(r:PE X (.Name x p1) (bS i))(s:swapsWith (.List [] p2) (some (.Attribute (.Name x p1) f pos')) pos.line X.env=pure false:=by rfl):FS X F E (.Assign [.Attribute (.Name x p1) f pos'] (.List [] p2) pos) (mi C i f (.l [])):=
 (qG r (qJ ed) s).imp fun D Y H ⟨U,O,J,st,q,t⟩=>by
  unfold cq mi at q;cases ho:bJ C U i with
  | none=>rw[ho] at q;exact q.elim
  | some p=>
   obtain⟨io,fs⟩:=p;rw[ho] at q;simp only at q
   by_cases d:fs.lookup f=none/\fs.length<1000
   ·rw[if_pos d] at q;obtain⟨n,u,v,h,w,y,A⟩:=st.fldNew ho d.1;refine⟨Nat.zero_le _,fun p j=>?_⟩;have pa:n≠p:=fun z=>by subst z;rw[w] at j;cases j
    obtain⟨I,L,k,B⟩:=A p (.lst []) (.l []) j trivial (fun G g=>⟨p,[],rfl,rfl,by rw[bv (fun z=>pa z.symm),cF],.nil⟩);exact⟨_,h,n,C,u,v,rfl,I,cl,o,by rw[y];exact d.2,t.nx _ _ _ _ k B q⟩
   ·rw[if_neg d] at q;exact q.elim
theorem Nw(cl:cO X.K C)(n:cx X.K C f)(o:PE X (.Name x p1) (bS i))(r:swapsWith (.Dict [] [] p2) (some (.Attribute (.Name x p1) f pos')) pos.line X.env=pure false:=by rfl):FS X F E (.Assign [.Attribute (.Name x p1) f pos'] (.Dict [] [] p2) pos) (mi C i f (.m true [])):=
 (qG o IY r).imp fun D Y H ⟨U,O,J,st,q,s⟩=>by
  unfold cq mi at q;cases ho:bJ C U i with
  | none=>rw[ho] at q;exact q.elim
  | some p=>
   obtain⟨io,fs⟩:=p;rw[ho] at q;simp only at q
   by_cases d:fs.lookup f=none/\fs.length<1000
   ·rw[if_pos d] at q;obtain⟨l,t,u,h,v,w,y⟩:=st.fldNew ho d.1;intro p j;have B:l≠p:=fun z=>by subst z;rw[v] at j;cases j
    obtain⟨I,L,k,A⟩:=y p (.dT []) (.m true []) j trivial (fun G g=>⟨p,rfl,rfl,[],by rw[bv (fun z=>B z.symm),cF],.nil⟩);exact⟨_,h,l,C,t,u,rfl,I,cl,n,by rw[w];exact d.2,s.nx _ _ _ _ k A q⟩
   ·rw[if_neg d] at q;exact q.elim
noncomputable def rO(C:Addr)(i:Nat)(f:Str):XM PyData:=fun U=>match bJ C U i with
 | some (_,fs)=>(match fs.lookup f with
  | some (.l ds)=>.ok (.list ds) U
  | _=>.bad)
 | none=>.bad
theorem Nx{s:Pos}(u:Gl X "list")(v:X.mg "list" = none)(cl:cO X.K C)(w:cx X.K C f)(y:PE X (.Name x p1) (bS i))(L:attributeBase (.Name x p1) f X.env (eval (.Name x p1) X.env)=eval (.Name x p1) X.env:=by rfl)
  (o:starEach [.Attribute (.Name x p1) f fpos] X.env=(false,eval (.Attribute (.Name x p1) f fpos) X.env)::starEach [] X.env:=by rfl) (j:(backTo pos (starEach [] X.env)).any (·.1)=false:=by rfl) :
  FE X F E (.Call (.Name "list" s) [.Attribute (.Name x p1) f fpos] [] pos) (rO C i f):=
 ⟨aL,(vt Io u v (show bootBuiltins "list" = some (.type "list") by decide +kernel) (df (ib y L) ed o) (by decide) (by decide) o j).imp fun Y H Q ⟨U,O,st,q⟩=>by
  unfold wp rO at q;cases ho:bJ C U i with
  | none=>rw[ho] at q;exact q.elim
  | some p=>
   obtain⟨io,fs⟩:=p;rw[ho] at q;simp only at q;cases g:fs.lookup f with
   | none=>rw[g] at q;exact q.elim
   | some t=>
    rw[g] at q;cases t with
    | d _=>exact q.elim
    | m _ _=>exact q.elim
    | l ds=>
     obtain⟨z,A,B,r,k,D,l1,⟨M,G,I,_,J,n⟩,_⟩:=st.fldUp ho g rfl;cases I;exact⟨_,k,z,C,A,B,.ref r,rfl,D,cl,w,l1,r,G,rfl,.inl (.of J),fun p h=>q _ _ O (st.grow (bX h)) (.same (bX h)) (kq h (st.nofree p h) n)⟩⟩
end
end L2.L3
namespace L2
open PySem
section
variable{prog:Program}{w:World}{A:Around}{E:Value->Shared->Prop}{s:Shared}
theorem Cw(a d:Value):argsOk "min" ⟨[a],[("default",d)]⟩:=by unfold argsOk;kernel_rfl
theorem Cy{id:String}{b:Builtin}{args:List Value}{d:List (Str×Value)}{Q:Value->Shared->Prop}(k:builtinKind id=none)(l:plainId id=true)(n:entryFor table id=some b)(m:argsOk id ⟨args,d⟩)
  (i:wpAny (model prog w) A.in1 (b ⟨args,d⟩) (fun fin a=>match fin with
   | .done f=>(match (Except.ok f:Result) with | .ok (.ret v)=>Q v a | .ok _=>False | .error e=>E e a)
   | .again j=>j.quiet=true/\codeAny (model prog w) A j (fun r a=>match r with | .ok (.ret v)=>Q v a | .ok _=>False | .error e=>E e a) a) E s):wpAny (model prog w) A (call (.builtin id) args d) Q E s:=by
 refine wpAny_call (codeAny_call_builtin l n ?_);simp only[checkBuiltinCall,k];cases c:Manifest.signature? id with
 | none=>exact bc i
 | some g=>
  have h:Bind.checkArgs id g ⟨args,d⟩=pure ():=by simpa only[argsOk,c] using m
  simp only[h];exact bc i
theorem Ny{l:Addr}{d:Value}{Q:Value->Shared->Prop}(t:A.handled=none)(k:s.heap.IsList l #[])(p:∀c,(∀b o,s.heap.get? b=some o->c.get? b=some o)->Q d { s with heap:=c }) :
  wpAny (model prog w) A (call (.builtin "min") [.ref l] [("default",d)]) Q E s:=by
 refine Cy F.kind_min F.plain_min F.entry_min (Cw _ _) ?_;show wpAny _ A.in1 (Builtin.Builtins.bindParams "min" ["key","default"] 0 ⟨[],[("default",d)]⟩ >>= _) _ _ s;refine ak (wpAny_of_eq (show Builtin.Builtins.bindParams "min" ["key","default"] 0 ⟨[],[("default",d)]⟩=pure [none,some d] from rfl) ?_);refine ak (bc ?_);refine ak (wpAny_pyIter_list k ?_);refine ak (wpAny_newObj_type ?_);have a:(toString "min"++toString ".loop":String)="min.loop":=by decide
 rw[a];obtain⟨ol,f,g,nl,h⟩:=id k;generalize m:(s.heap.push { cls:=.type "list_iterator",data:=.fields #[.ref l,.int 0 0] })=h1;have q:h1.get? s.heap.objs.size=some { cls:=.type "list_iterator",data:=.fields #[.ref l,.int 0 0] }:=by rw[<-m];exact Heap.get?_push_size _ rfl
 have n:∀b o,s.heap.get? b=some o->h1.get? b=some o:=fun b o e=>by rw[<-m];exact bn _ e
 refine bc ⟨plainId_quiet F.plain_min_loop _,?_⟩;refine codeAny_builtin F.entry_min_loop ?_;rw[Around.under_plainId F.plain_min_loop _];have r:(h1.push { cls:=.type "list",data:=.seq #[] }).get? h1.objs.size=some { cls:=.type "list",data:=.seq #[] }:=Heap.get?_push_size _ rfl;show wpAny _ A.in1 (seqItems? (.ref h1.objs.size) >>= _) _ _ _;refine ak (wpAny_seqItems r rfl ?_);show wpAny _ A.in1 (tryCatch (pyNext (.ref s.heap.objs.size)) _ >>= _) _ _ _;refine ak (wpAny_tryCatch (wpAny_pyNext_list_end (i:=0) (l:=l) (items:=#[]) t ⟨_,bn _ q,rfl,rfl⟩ ⟨ol,bn _ (n _ _ f),g,nl,h⟩ rfl fun c j=>?_));refine ak (wpAny_rule (bc ?_));exact p c fun b o e=>j b o (Nat.ne_of_lt (bw e)) (bn _ (n b o e))
end
section
variable{prog:Program}{w:World}{A:Around}{E:Value->Shared->Prop}{s:Shared}
theorem Nz{it t:Addr}{i:Nat}{items:Array Value}{x:Value}{Q:Value->Shared->Prop}(hit:s.heap.IsTupleIter it t i)(d:s.heap.IsTuple t items)(e:items[i]? = some x)
  (f:∀a,a.IsTupleIter it t (i+1)->Heap.SameBut it s.heap a->Q x { s with heap:=a }):wpAny (model prog w) A (Builtin.SmallTypes.nextOf (.ref it)) Q E s:=by
 obtain⟨o,ho,g,hd⟩:=id hit;obtain⟨ol,b,_,nl,c⟩:=d;unfold Builtin.SmallTypes.nextOf;refine ak (wpAny_callSpecial?_slot (name:=Str.ofString "__next__") hit.typeIs F.slot_tuple_iterator_next (wpAny_call_entry F.slot_tuple_iterator_next hit.typeIs F.entry_tuple_iterator_next ?_ (F.args_tuple_iterator_next_1 _)));show wpAny _ _ (field (.ref it) 0 >>= _) _ _ s;refine ak (wpAny_field ho hd (x:=.ref t) rfl ?_);show wpAny _ _ (if (Value.ref t==Value.none)=true then _ else _) _ _ s;rw[if_neg (by exact Bool.false_ne_true)];show wpAny _ _ (field (.ref it) 1 >>= _) _ _ s;refine ak (wpAny_field ho hd (x:=.int i 0) rfl ?_);show wpAny _ _ (seqItems? (.ref t) >>= _) _ _ s;refine ak (wpAny_seqItems b c ?_);simp only[Int.toNat_natCast,e];refine ak (wpAny_setField ho hd (by simp) (bc ⟨x,rfl,bc (f _ ⟨_,Heap.get?_update_self _ ho (Obj.isFreed_of_fields (Obj.data_mapFields hd _)),(Obj.cls_mapFields ..).trans g,?_⟩ (Heap.SameBut.update ..))⟩));rw[Obj.data_mapFields hd];simp[rawInt]
theorem NA{it t:Addr}{i:Nat}{items:Array Value}{Q:Value->Shared->Prop}(f:A.handled=none)(hit:s.heap.IsTupleIter it t i)(g:s.heap.IsTuple t items)(h:items[i]? = none)
  (j:∀b e,Heap.ExtBut it s.heap b->(∃o,b.get? e=some o/\o.cls=.type "StopIteration")->E (.ref e) { s with heap:=b }):wpAny (model prog w) A (Builtin.SmallTypes.nextOf (.ref it)) Q E s:=by
 obtain⟨o,ho,k,hd⟩:=id hit;obtain⟨ol,c,_,nl,d⟩:=g;unfold Builtin.SmallTypes.nextOf;refine ak (wpAny_callSpecial?_slot (name:=Str.ofString "__next__") hit.typeIs F.slot_tuple_iterator_next (wpAny_call_entry F.slot_tuple_iterator_next hit.typeIs F.entry_tuple_iterator_next ?_ (F.args_tuple_iterator_next_1 _)));show wpAny _ _ (field (.ref it) 0 >>= _) _ _ s;refine ak (wpAny_field ho hd (x:=.ref t) rfl ?_);show wpAny _ _ (if (Value.ref t==Value.none)=true then _ else _) _ _ s;rw[if_neg (by exact Bool.false_ne_true)];show wpAny _ _ (field (.ref it) 1 >>= _) _ _ s;refine ak (wpAny_field ho hd (x:=.int i 0) rfl ?_);show wpAny _ _ (seqItems? (.ref t) >>= _) _ _ s;refine ak (wpAny_seqItems c d ?_);simp only[Int.toNat_natCast,h];refine ak (wpAny_rule (ak (wpAny_setField ho hd (by simp) ?_)));show wpAny _ _ (newExc (.type "StopIteration") [] >>= _) _ _ _;refine ak ?_;simp only[newExc,newTuple];refine ak (wpAny_newObj_type ?_ (by size_fits));refine ak (m:=firstArgMember _ _) (wpAny_of_eq (a:=Value.none) (by first | rfl | (simp only[firstArgMember];rfl)) ?_);refine wpAny_newObj_type ?_ (by size_fits);simp only[raiseNew];refine ak (wpAny_handled ?_)
 first | rw[show A.in1.handled=none from f] | rw[f]
 exact ak (bc (wpAny_throw (j _ _ (((Heap.SameBut.update ..).extBut.push _).push _) ⟨_,Heap.get?_push_size _ rfl,rfl⟩)))
end
theorem Cz{prog:Program}{w:World}{A:Around}(hh:A.handled=none)(it l:Addr)(hne:l≠it)(items:Array Value):Draws prog w A it [it,l] items.size (fun i v=>items[i]? = some v) (fun i h=>h.IsTupleIter it l i/\h.IsTuple l items) where
 live:=fun _ _ st=>let⟨o,ho,_⟩:=st.1;⟨o,ho⟩
 frame:=fun _ _ _ st hk=>⟨let⟨o,ho,r⟩:=st.1;⟨o,hk it (by simp) o ho,r⟩,let⟨o,ho,r⟩:=st.2;⟨o,hk l (by simp) o ho,r⟩⟩
 item:=fun i s Q E hi st hQ=>Nz st.1 st.2 (x:=items[i]) (by simp[hi]) fun h' hit' hs'=>hQ _ h' s.toks (by simp[hi]) ⟨hit',st.2.extBut hs'.extBut hne⟩ hs'
 done:=fun s Q E st hE=>NA hh st.1 st.2 (by simp) hE
section
variable{prog:Program}{w:World}{A:Around}{E:Value->Shared->Prop}{s:Shared}
theorem NB{z TI TO t u:Addr}{f1 f2:List Addr}{k n1 n2:Nat}{P1 P2:Nat->Value->Prop}{T U:Nat->Heap->Prop}{a b:Value}{Q:Value->Shared->Prop}(X:Draws prog w A t f1 n1 P1 T)(D2:Draws prog w A u f2 n2 P2 U)
  (nd:[z,TI,TO,t,u].Nodup) (g1:∀c∈f1,c≠z/\c≠TO/\c≠u) (g2:∀c∈f2,c≠z/\c≠TO/\c≠t) (I:IsZip s.heap z TI TO .none) (Y:dY s.heap TI (.ref t) (.ref u)) (Z:dY s.heap TO a b) (h1:T k s.heap) (h2:U k s.heap) (l1:k<n1) (l2:k<n2)
  (hQ:∀x y B tk,P1 k x->P2 k y->IsZip B z TI TO (rawInt s.heap.objs.size)->dY B TO x y->T (k+1) B->U (k+1) B->dY B s.heap.objs.size x y->B.objs.size=s.heap.objs.size+1->
   (∀c o,c∉[z,TO,t,u]->s.heap.get? c=some o->B.get? c=some o)->Q (.ref s.heap.objs.size) { s with heap:=B,toks:=tk }) :
  wpAny (model prog w) A (Builtin.«zip.__next__» ⟨[.ref z],[]⟩) (fun fin s'=>∃v,fin=.done (.ret v)/\Q v s') E s:=by
 simp only[List.nodup_cons,List.mem_cons,List.not_mem_nil,or_false,not_or,not_false_eq_true,and_true,List.nodup_nil] at nd;obtain⟨⟨a4,p,z1,z2⟩,⟨a3,a5,a6⟩,⟨a0,a1⟩,a7⟩:=nd;obtain⟨hp,g,d,a8,os⟩:=s;show wpAny _ _ (field (.ref z) 2 >>= _) _ _ _;refine ak (wpAny_field I rfl (x:=.bool false) rfl ?_);show wpAny _ _ (field (.ref z) 3 >>= _) _ _ _;refine ak (wpAny_field I rfl (x:=.ref TI) rfl ?_);refine ak (wpAny_seqItems Y rfl ?_);show wpAny _ _ (Builtin.SmallTypes.ownedTupleIsFree (.ref z) >>= _) _ _ _;refine ak ?_;unfold Builtin.SmallTypes.ownedTupleIsFree;refine ak (wpAny_field I rfl (x:=.none) rfl (bc ?_));simp only[if_true];refine ak (wpAny_rule ?_);refine ak (wpAny_field I rfl (x:=.ref TO) rfl ?_);refine ak (wpAny_setField_rec I (by simp) fun hA C h=>?_)
 replace C:IsZip hA z TI TO .ellipsis:=C
 replace h:Heap.SameBut z hp hA:=h
 refine ak ?_;simp only[List.zipIdx_cons,List.zipIdx_nil,List.forIn_cons,List.forIn_nil];refine ak (ak (wpAny_onRaise ?_));show wpAny _ _ (Builtin.SmallTypes.nextOf (.ref t) >>= _) _ _ _;refine ak (X.item k _ _ _ l1 (X.frame _ _ _ h1 fun c f o e=>h.extBut _ _ (g1 c f).1 e) fun x hB a9 px sB i=>bc ?_)
 replace i:Heap.SameBut t hA hB:=i
 have tB:dY hB TO a b:=i.extBut _ _ a0 (h.extBut _ _ (Ne.symm p) Z);refine ak (wpAny_seqItems tB rfl ?_);refine ak (wpAny_updateSeq_pair tB fun hC tC j=>?_)
 replace tC:dY hC TO x b:=tC
 replace j:Heap.SameBut TO hB hC:=j
 refine ak (wpAny_letGo (bc ?_));refine ak (ak (wpAny_onRaise ?_));show wpAny _ _ (Builtin.SmallTypes.nextOf (.ref u) >>= _) _ _ _;refine ak (D2.item k _ _ _ l2 (D2.frame _ _ _ h2 fun c f o e=>j.extBut _ _ (g2 c f).2.1 (i.extBut _ _ (g2 c f).2.2 (h.extBut _ _ (g2 c f).1 e))) fun y hD b0 py sD l=>bc ?_)
 replace l:Heap.SameBut u hC hD:=l
 have tD:dY hD TO x b:=l.extBut _ _ a1 tC;refine ak (wpAny_seqItems tD rfl ?_);refine ak (wpAny_updateSeq_pair tD fun n R m=>?_)
 replace R:dY n TO x y:=R
 replace m:Heap.SameBut TO hD n:=m
 refine ak (wpAny_letGo (bc (bc ?_)));refine ak (wpAny_seqItems R rfl ?_);refine ak (wpAny_newTuple ?_);have J:n.objs.size=hp.objs.size:=by rw[m.1,l.1,j.1,i.1,h.1]
 have L:IsZip n z TI TO .ellipsis:=m.extBut _ _ p (l.extBut _ _ z2 (j.extBut _ _ p (i.extBut _ _ z1 C)));have kF:∀c o,c∉[z,TO,t,u]->hp.get? c=some o->n.get? c=some o:=fun c o f e=>by simp only[List.mem_cons,List.not_mem_nil,or_false,not_or] at f;obtain⟨S,c2,c3,c4⟩:=f;exact m.extBut _ _ c2 (l.extBut _ _ c4 (j.extBut _ _ c2 (i.extBut _ _ c3 (h.extBut _ _ S e))))
 have M:z<n.objs.size:=bw L;show wpAny _ _ (Builtin.SmallTypes.ownedTupleHandOut (.ref z) (.ref n.objs.size) >>= _) _ _ _;refine ak ?_;unfold Builtin.SmallTypes.ownedTupleHandOut;have a2:IsZip (n.push { cls:=.type "tuple",data:=.seq #[x,y] }) z TI TO .ellipsis:=bn _ L;refine ak (wpAny_setField_rec a2 (by simp) fun hI D G=>?_)
 replace D:IsZip hI z TI TO (rawInt n.objs.size):=D
 refine wpAny_setField_rec D (by simp) fun N r H=>?_
 replace r:IsZip N z TI TO (rawInt n.objs.size):=r
 have up:∀c o,c≠z->n.get? c=some o->N.get? c=some o:=fun c o S e=>H.extBut _ _ S (G.extBut _ _ S (bn _ e));have tJ:dY N n.objs.size x y:=H.extBut _ _ (Nat.ne_of_gt M) (G.extBut _ _ (Nat.ne_of_gt M) (Heap.get?_push_size _ rfl));have O:N.objs.size=n.objs.size+1:=by rw[H.1,G.1,Heap.size_push]
 rw[J] at r tJ O;refine bc ⟨_,rfl,?_⟩;show Q (.ref n.objs.size) _;rw[J];exact hQ x y N _ px py r (up _ _ (Ne.symm p) R) (X.frame _ _ _ sB fun c f o e=>up c o (g1 c f).1 (m.extBut _ _ (g1 c f).2.1 (l.extBut _ _ (g1 c f).2.2 (j.extBut _ _ (g1 c f).2.1 e)))) (D2.frame _ _ _ sD fun c f o e=>up c o (g2 c f).1 (m.extBut _ _ (g2 c f).2.1 e)) tJ O
  fun c o f e=>up c o (fun q=>f (by simp[q])) (kF c o f e)
theorem NC{z TI TO t u:Addr}{f1 f2:List Addr}{k M Y:Nat}{P1 P2:Nat->Value->Prop}{Z S2:Nat->Heap->Prop}{a b:Value}{Q:Fin->Shared->Prop}(N:Draws prog w A t f1 M P1 Z)(D2:Draws prog w A u f2 Y P2 S2)
  (nd:[z,TI,TO,t,u].Nodup) (g1:∀c∈f1,c≠z/\c≠TO/\c≠u) (g2:∀c∈f2,c≠z/\c≠TO/\c≠t) (y:IsZip s.heap z TI TO .none) (O:dY s.heap TI (.ref t) (.ref u)) (R:dY s.heap TO a b) (h1:Z k s.heap) (h2:S2 k s.heap) (he:k=M\/k<M/\k=Y)
  (hE:∀S e tk,(∀c o,c∉[z,TO,t,u]->s.heap.get? c=some o->S.get? c=some o)->(∃o,S.get? e=some o/\o.cls=.type "StopIteration")->E (.ref e) { s with heap:=S,toks:=tk }) :
  wpAny (model prog w) A (Builtin.«zip.__next__» ⟨[.ref z],[]⟩) Q E s:=by
 simp only[List.nodup_cons,List.mem_cons,List.not_mem_nil,or_false,not_or,not_false_eq_true,and_true,List.nodup_nil] at nd;obtain⟨⟨a1,B,z1,z2⟩,⟨a0,a2,a3⟩,⟨T,a4⟩,a5⟩:=nd;obtain⟨hp,g,d,a6,os⟩:=s;show wpAny _ _ (field (.ref z) 2 >>= _) _ _ _;refine ak (wpAny_field y rfl (x:=.bool false) rfl ?_);show wpAny _ _ (field (.ref z) 3 >>= _) _ _ _;refine ak (wpAny_field y rfl (x:=.ref TI) rfl ?_);refine ak (wpAny_seqItems O rfl ?_);show wpAny _ _ (Builtin.SmallTypes.ownedTupleIsFree (.ref z) >>= _) _ _ _;refine ak ?_;unfold Builtin.SmallTypes.ownedTupleIsFree;refine ak (wpAny_field y rfl (x:=.none) rfl (bc ?_));simp only[if_true];refine ak (wpAny_rule ?_);refine ak (wpAny_field y rfl (x:=.ref TO) rfl ?_);refine ak (wpAny_setField_rec y (by simp) fun J p l=>?_)
 replace p:IsZip J z TI TO .ellipsis:=p
 replace l:Heap.SameBut z hp J:=l
 refine ak ?_;simp only[List.zipIdx_cons,List.zipIdx_nil,List.forIn_cons,List.forIn_nil];refine ak (ak (wpAny_onRaise ?_));show wpAny _ _ (Builtin.SmallTypes.nextOf (.ref t) >>= _) _ _ _;have C:=N.frame _ _ _ h1 fun c h o e=>l.extBut _ _ (g1 c h).1 e;rcases he with rfl | ⟨U,rfl⟩
 ·refine ak (N.done _ _ _ C fun hB e f v=>?_);obtain⟨D,m,n⟩:=v
  replace f:Heap.ExtBut t J hB:=f
  have G:IsZip hB z TI TO .ellipsis:=f _ _ z1 p;have ne:e≠z:=fun q=>by subst q;have i:hB.get? e=some D:=m;rw[G] at i;cases i;simp at n
  refine wpAny_setField_rec G (by simp) fun L _ j=>hE L e _ (fun c o h q=>?_) ⟨D,j.extBut _ _ ne m,n⟩;simp only[List.mem_cons,List.not_mem_nil,or_false,not_or] at h;exact j.extBut _ _ h.1 (f _ _ h.2.2.1 (l.extBut _ _ h.1 q))
 ·refine ak (N.item k _ _ _ U C fun x hB a7 px sB f=>bc ?_)
  replace f:Heap.SameBut t J hB:=f
  have tB:dY hB TO a b:=f.extBut _ _ T (l.extBut _ _ (Ne.symm B) R);refine ak (wpAny_seqItems tB rfl ?_);refine ak (wpAny_updateSeq_pair tB fun L tC j=>?_)
  replace j:Heap.SameBut TO hB L:=j
  refine ak (wpAny_letGo (bc ?_));refine ak (ak (wpAny_onRaise ?_));show wpAny _ _ (Builtin.SmallTypes.nextOf (.ref u) >>= _) _ _ _;refine ak (D2.done _ _ _ (D2.frame _ _ _ h2 fun c h o e=>j.extBut _ _ (g2 c h).2.1 (f.extBut _ _ (g2 c h).2.2 (l.extBut _ _ (g2 c h).1 e))) fun X e r v=>?_);obtain⟨D,m,n⟩:=v
  replace r:Heap.ExtBut u L X:=r
  have H:IsZip X z TI TO .ellipsis:=r _ _ z2 (j.extBut _ _ B (f.extBut _ _ z1 p));have ne:e≠z:=fun q=>by subst q;have i:X.get? e=some D:=m;rw[H] at i;cases i;simp at n
  refine wpAny_setField_rec H (by simp) fun hF _ I=>hE hF e _ (fun c o h q=>?_) ⟨D,I.extBut _ _ ne m,n⟩;simp only[List.mem_cons,List.not_mem_nil,or_false,not_or] at h;exact I.extBut _ _ h.1 (r _ _ h.2.2.2 (j.extBut _ _ h.2.1 (f.extBut _ _ h.2.2.1 (l.extBut _ _ h.1 q))))
theorem ND{z TI TO e f:Addr}{f1 f2:List Addr}{k m n:Nat}{p q:Nat->Value->Prop}{g h:Nat->Heap->Prop}{a b:Value}{Q:Option Value->Shared->Prop}(u:Draws prog w A.in1 e f1 m p g)(D2:Draws prog w A.in1 f f2 n q h)
  (N:[z,TI,TO,e,f].Nodup) (g1:∀c∈f1,c≠z/\c≠TO/\c≠f) (g2:∀c∈f2,c≠z/\c≠TO/\c≠e) (r:IsZip s.heap z TI TO .none) (i:dY s.heap TI (.ref e) (.ref f)) (j:dY s.heap TO a b) (O:g k s.heap) (R:h k s.heap) (S:k<m) (T:k<n)
  (v:∀x y d l,p k x->q k y->IsZip d z TI TO (rawInt s.heap.objs.size)->dY d TO x y->g (k+1) d->h (k+1) d->dY d s.heap.objs.size x y->d.objs.size=s.heap.objs.size+1->
   (∀c o,c∉[z,TO,e,f]->s.heap.get? c=some o->d.get? c=some o)->Q (some (.ref s.heap.objs.size)) { s with heap:=d,toks:=l }) :
  wpAny (model prog w) A (pyNext (.ref z)) Q E s:=by
 have t:s.TypeIs (.ref z) "zip":=⟨_,r,rfl⟩
 unfold pyNext;exact ak (wpAny_attempt (wpAny_callSpecial?_slot (name:=Str.ofString "__next__") t F.slot_zip_next (wpAny_call_entry F.slot_zip_next t F.entry_zip_next
   (NB u D2 N g1 g2 r i j O R S T fun x y d l B C D G H I J L M=>bc (v x y d l B C D G H I J L M)) (F.args_zip_next_1 _))))
theorem NE{z TI TO d f:Addr}{f1 f2:List Addr}{k g m:Nat}{u v:Nat->Value->Prop}{n p:Nat->Heap->Prop}{a b:Value}{Q:Option Value->Shared->Prop}(x:Draws prog w A.in1 d f1 g u n)(D2:Draws prog w A.in1 f f2 m v p)
  (G:[z,TI,TO,d,f].Nodup) (g1:∀c∈f1,c≠z/\c≠TO/\c≠f) (g2:∀c∈f2,c≠z/\c≠TO/\c≠d) (q:IsZip s.heap z TI TO .none) (h:dY s.heap TI (.ref d) (.ref f)) (i:dY s.heap TO a b) (H:n k s.heap) (I:p k s.heap) (y:k=g\/k<g/\k=m)
  (B:∀j r,(∀c o,c∉[z,TO,d,f]->s.heap.get? c=some o->j.get? c=some o)->Q none { s with heap:=j,toks:=r }):wpAny (model prog w) A (pyNext (.ref z)) Q E s:=by
 have t:s.TypeIs (.ref z) "zip":=⟨_,q,rfl⟩
 unfold pyNext;refine ak (wpAny_attempt (wpAny_callSpecial?_slot (name:=Str.ofString "__next__") t F.slot_zip_next (wpAny_call_entry F.slot_zip_next t F.entry_zip_next (NC x D2 G g1 g2 q h i H I y fun j e r C l=>?_) (F.args_zip_next_1 _))));obtain⟨o,ho,D⟩:=l;exact ak (wpAny_isInstance (T:="StopIteration") (b:=true) ⟨o,ho,D⟩ isSubtype_stop (bc (B _ _ C)))
end
noncomputable abbrev rP(h:Heap)(a:Addr):Heap:=h.push { cls:=.type "tuple_iterator",data:=.fields #[.ref a,.int 0 0] }
noncomputable abbrev rQ(h:Heap)(a b:Addr):Heap:=(rP h a).push { cls:=.type "list_iterator",data:=.fields #[.ref b,.int 0 0] }
noncomputable abbrev rR(h:Heap)(a b:Addr):Heap:=(rQ h a b).push { cls:=.type "tuple",data:=.seq #[.ref h.objs.size,.ref (rP h a).objs.size] }
noncomputable abbrev rS(h:Heap)(a b:Addr):Heap:=(rR h a b).push { cls:=.type "tuple",data:=.seq #[.none,.none] }
noncomputable abbrev nt(h:Heap)(a b:Addr):Heap:=(rS h a b).push { cls:=.type "zip",data:=.fields #[.none,.bool false,.bool false,.ref (rQ h a b).objs.size,.ref (rR h a b).objs.size] }
theorem NF(a b:Addr)(j k:Array Value) :
  Meets (Builtin.«zip.__new__» ⟨[.type "zip",.ref a,.ref b],[]⟩) (fun _ R s=>s.heap.IsTuple a j/\s.heap.IsList b k/\R (.ok (.ret (.ref (rS s.heap a b).objs.size))) { s with heap:=nt s.heap a b }):=
 .of_wp fun o w A R s h=>by
  obtain⟨l,g,d,m,os⟩:=s;obtain⟨c,e,h⟩:=h;have n:=sub_zip;have f:Heap.IsTuple (Shared.heap ⟨l,g,d,m,os⟩) a j:=c;have i:Heap.IsList (Shared.heap ⟨l.push { cls:=.type "tuple_iterator",data:=.fields #[.ref a,.int 0 0] },g,d,m,os⟩) b k:=Heap.IsList.push e _
  wp_walk using wpAny_pyIter_tuple f,wpAny_pyIter_list i
  exact⟨_,rfl,h⟩
section
variable{prog:Program}{w:World}{A:Around}{E:Value->Shared->Prop}{s:Shared}
theorem NG{a b:Addr}{l m:Array Value}{Q:Value->Shared->Prop}(e:s.heap.IsTuple a l)(f:s.heap.IsList b m)
  (h:∀d,IsZip d (s.heap.objs.size+4) (s.heap.objs.size+2) (s.heap.objs.size+3) .none->dY d (s.heap.objs.size+2) (.ref s.heap.objs.size) (.ref (s.heap.objs.size+1))->
   dY d (s.heap.objs.size+3) .none .none->d.IsTupleIter s.heap.objs.size a 0->d.IsListIter (s.heap.objs.size+1) b 0->(∀c o,s.heap.get? c=some o->d.get? c=some o)->Q (.ref (s.heap.objs.size+4)) { s with heap:=d }) :
  wpAny (model prog w) A (call (.type "zip") [.ref a,.ref b]) Q E s:=by
 refine callType_new F.called_zip (by decide) (F.typeCall_zip_2 _ _) (F.newCall_zip_2 _ _) (fun obj=>F.args_object_init_3 obj _ _) F.entry_zip_new (NF a b l m) ⟨e,f,?_⟩;have g:(rP s.heap a).objs.size=s.heap.objs.size+1:=Heap.size_push ..;have i:(rQ s.heap a b).objs.size=s.heap.objs.size+2:=by rw[Heap.size_push,g]
 have j:(rR s.heap a b).objs.size=s.heap.objs.size+3:=by rw[Heap.size_push,i]
 have n:(rS s.heap a b).objs.size=s.heap.objs.size+4:=by rw[Heap.size_push,j]
 have k:(nt s.heap a b).get? (rS s.heap a b).objs.size=some _:=Heap.get?_push_size _ rfl;have p:(nt s.heap a b).get? (rR s.heap a b).objs.size=some _:=bn _ (Heap.get?_push_size _ rfl);have g3:(nt s.heap a b).get? (rQ s.heap a b).objs.size=some _:=bn _ (bn _ (Heap.get?_push_size _ rfl));have g2:(nt s.heap a b).get? (rP s.heap a).objs.size=some _:=bn _ (bn _ (bn _ (Heap.get?_push_size _ rfl)));have g1:(nt s.heap a b).get? s.heap.objs.size=some _:=bn _ (bn _ (bn _ (bn _ (Heap.get?_push_size _ rfl))));show _/\_;rw[i,j,n] at k;rw[g,i] at g3;rw[j] at p;rw[g] at g2;rw[n];exact⟨⟨_,k,rfl⟩,h _ k g3 p ⟨_,g1,rfl,rfl⟩ ⟨_,g2,rfl,rfl⟩ fun c o x=>bn _ (bn _ (bn _ (bn _ (bn _ x))))⟩
end
end L2
namespace L2
open PySem PySem.Spec PyProof.Rows
noncomputable def CA(a b:Addr):It:=
 ⟨fun i H=>∃c x d y,Rd H a (.tup c)/\c[i]? = some x/\H b=some (.lst d)/\d[i]? = some y,fun i H v e=>∃T x y,v=.ref T/\H T=none/\e = aQ H T (.tup [x,y])/\(∀c,Rd H a (.tup c)->c[i]? = some x)/\∀d,H b=some (.lst d)->d[i]? = some y,
  fun i H=>∃c d,Rd H a (.tup c)/\H b=some (.lst d)/\(c.length=i\/i<c.length/\d.length=i)⟩
theorem NH{P:Program}{w:World}{K:Frag}{elts:List Expr}{kk:Nat}{tpos:Pos}(a b z TI TO i1 i2:Addr)(nd:[z,TI,TO,i1,i2].Nodup) :
  gD P w K (.Tuple elts kk tpos) (CA a b) [z,TI,TO,i1,i2] z (fun i h=>IsZip h z TI TO .none/\dY h TI (.ref i1) (.ref i2)/\(∃u v,dY h TO u v)/\h.IsTupleIter i1 a i/\h.IsListIter i2 b i) where
 mem:=by simp
 obj:=fun i h st c hc=>by
  obtain⟨h0,h1,⟨u,v,h2⟩,⟨o3,e3,c3,d3⟩,⟨o4,e4,c4,d4⟩⟩:=st;simp only[List.mem_cons,List.not_mem_nil,or_false] at hc;rcases hc with rfl | rfl | rfl | rfl | rfl
  ·exact⟨_,h0,fun v z=>by cases z⟩
  ·exact⟨_,h1,fun v z=>by cases z⟩
  ·exact⟨_,h2,fun v z=>by cases z⟩
  ·exact⟨_,e3,fun v z=>by rw[d3] at z;cases z⟩
  ·exact⟨_,e4,fun v z=>by rw[d4] at z;cases z⟩
 keep:=fun i h h' st k=>by obtain⟨h0,h1,⟨u,v,h2⟩,h3,h4⟩:=st;exact⟨k _ (by simp) _ h0,k _ (by simp) _ h1,⟨u,v,k _ (by simp) _ h2⟩,(let⟨o,e,r⟩:=h3;⟨o,k _ (by simp) o e,r⟩),h4.at fun o e=>k _ (by simp) o e⟩
 item:=by
  intro X hP hw hK hc i pins s Y H E I hf st hg;subst hP hw hK;obtain⟨h0,h1,⟨p1,p2,h2⟩,h3,h4⟩:=st;obtain⟨xs,x,ys,y,hq1,hx,hq2,hy⟩:=hg;obtain⟨hz,its,rv,p⟩:=hq1.ok I.hok;obtain⟨u,hu,ru⟩:=rv.get hx;obtain⟨hz',jts,nn,rw',p'⟩:=I.hok _ _ hq2;obtain⟨v,hv,rv'⟩:=rw'.get hy;have e3:=h3;have e4:=h4;obtain⟨o3,e3,c3,_⟩:=e3;obtain⟨o4,e4,c4,_⟩:=e4;have nd':=nd;simp only[List.nodup_cons,List.mem_cons,List.not_mem_nil,or_false,not_or,not_false_eq_true,and_true,List.nodup_nil] at nd';obtain⟨⟨zTI,zTO,z1,z2⟩,⟨TITO,TI1,TI2⟩,⟨TO1,TO2⟩,i12⟩:=nd';have na:∀c∈[z,TI,TO,i1,i2],a≠c:=fun c hc q=>by rw[q] at hq1;exact Am (hf c hc).1 hq1
  have nb:∀c∈[z,TI,TO,i1,i2],b≠c:=fun c hc q=>by rw[q,(hf c hc).1] at hq2;cases hq2
  have hh:X.A.in1.handled=none:=I.ok.hd hc;refine ND (Cz hh i1 a (na i1 (by simp)) its.toArray) (Draws.list hh i2 b (nb i2 (by simp)) jts.toArray) nd (fun c hc'=>?_) (fun c hc'=>?_) h0 h1 h2 ⟨h3,p⟩ ⟨h4,⟨_,p',rfl,_,rfl⟩⟩ (by simpa using(List.getElem?_eq_some_iff.mp hu).1) (by simpa using(List.getElem?_eq_some_iff.mp hv).1) fun x' y' h' tk ex ey a1 a2 a3 a4 a5 a6 a7=>⟨_,rfl,?_⟩
  ·simp only[List.mem_cons,List.not_mem_nil,or_false] at hc';rcases hc' with rfl | rfl
   ·exact⟨Ne.symm z1,Ne.symm TO1,i12⟩
   ·exact⟨na z (by simp),na TO (by simp),na i2 (by simp)⟩
  ·simp only[List.mem_cons,List.not_mem_nil,or_false] at hc';rcases hc' with rfl | rfl
   ·exact⟨Ne.symm z2,Ne.symm TO2,Ne.symm i12⟩
   ·exact⟨nb z (by simp),nb TO (by simp),nb i1 (by simp)⟩
  have ex':x' = u:=by simp only[List.getElem?_toArray] at ex;rw[hu] at ex;exact(Option.some.inj ex).symm
  have ey':y' = v:=by simp only[List.getElem?_toArray] at ey;rw[hv] at ey;exact(Option.some.inj ey).symm
  subst ex' ey';refine wpAny_letOwnedTupleGo_zip (s:={ s with heap:=h',toks:=tk }) a1 fun hh b1 hs2=>?_;have k2:∀c ob,c∉[z,TO,i1,i2]->s.heap.get? c=some ob->hh.get? c=some ob:=fun c ob hc q=>by have hc':=hc;simp only[List.mem_cons,List.not_mem_nil,or_false,not_or] at hc';exact(hs2.2 c hc'.1).trans (a7 c ob hc q)
  have up:∀c o,c≠z->h'.get? c=some o->hh.get? c=some o:=fun c o hc q=>(hs2.2 c hc).trans q;have I1:Inv X pins Y (aQ H s.heap.objs.size (.tup [x,y])) { s with heap:=hh,toks:=tk }:=by
   refine I.turnedNew (ch:=[z,TO,i1,i2]) (t':=tk) (fun c hc=>hf c (by simp only[List.mem_cons,List.not_mem_nil,or_false] at hc ⊢;rcases hc with q | q | q | q<;>simp[q])) k2 (bI _) (fun c hc ob q=>?_) ?_
   ·simp only[List.mem_cons,List.not_mem_nil,or_false] at hc;rcases hc with rfl | rfl | rfl | rfl
    ·exact⟨_,b1⟩
    ·exact⟨_,up _ _ (Ne.symm zTO) a2⟩
    ·obtain⟨o,e1,_⟩:=a3.1;exact⟨o,up _ _ (Ne.symm z1) e1⟩
    ·obtain⟨o,e1,_⟩:=a4.1;exact⟨o,up _ _ (Ne.symm z2) e1⟩
   ·exact⟨by show 2<=sizeLine;decide,[_,_],.cons ru (.cons rv' .nil),⟨_,up _ _ (Nat.ne_of_gt (bw h0)) a5,rfl,_,rfl⟩⟩
  refine⟨.ref s.heap.objs.size,_,I1,rfl,⟨_,x,y,rfl,I.hok.fresh (bI _),rfl,fun zs hy'=>by rw[Jq hy' hq1];exact hx,fun zs hy'=>by rw[hq2] at hy';cases hy';exact hy⟩,
   ⟨b1,k2 _ _ (by simp only[List.mem_cons,List.not_mem_nil,or_false,not_or];exact⟨Ne.symm zTI,TITO,TI1,TI2⟩) h1,⟨_,_,up _ _ (Ne.symm zTO) a2⟩,(let⟨o,e,r⟩:=a3.1;⟨o,up _ _ (Ne.symm z1) e,r⟩),a4.1.at fun o e1=>up _ _ (Ne.symm z2) e1⟩,fun c hc=>?_⟩
  have hb':c<s.heap.objs.size:=by
   simp only[List.mem_cons,List.not_mem_nil,or_false] at hc;rcases hc with rfl | rfl | rfl | rfl | rfl
   ·exact bw h0
   ·exact bw h1
   ·exact bw h2
   ·exact bw e3
   ·exact bw e4
  rw[bv (Nat.ne_of_lt hb')];exact(hf c hc).1
 done:=by
  intro X hP hw hK hc i pins s Y H E I hf st hg;subst hP hw hK;obtain⟨h0,h1,⟨p1,p2,h2⟩,h3,h4⟩:=st;obtain⟨xs,ys,hq1,hq2,hx⟩:=hg;obtain⟨hz,its,rv,p⟩:=hq1.ok I.hok;obtain⟨hz',jts,nn,rw',p'⟩:=I.hok _ _ hq2;have nd':=nd;simp only[List.nodup_cons,List.mem_cons,List.not_mem_nil,or_false,not_or,not_false_eq_true,and_true,List.nodup_nil] at nd';obtain⟨⟨zTI,zTO,z1,z2⟩,⟨TITO,TI1,TI2⟩,⟨TO1,TO2⟩,i12⟩:=nd';have l1:=rv.length;have l2:=rw'.length;have na:∀c∈[z,TI,TO,i1,i2],a≠c:=fun c hc q=>by rw[q] at hq1;exact Am (hf c hc).1 hq1
  have nb:∀c∈[z,TI,TO,i1,i2],b≠c:=fun c hc q=>by rw[q,(hf c hc).1] at hq2;cases hq2
  have hh:X.A.in1.handled=none:=I.ok.hd hc;refine NE (Cz hh i1 a (na i1 (by simp)) its.toArray) (Draws.list hh i2 b (nb i2 (by simp)) jts.toArray) nd (fun c hc'=>?_) (fun c hc'=>?_) h0 h1 h2 ⟨h3,p⟩ ⟨h4,⟨_,p',rfl,_,rfl⟩⟩ (hx.imp (fun q=>by simp;omega) fun q=>by simp;omega) fun h' tk hk=>⟨rfl,?_⟩
  ·simp only[List.mem_cons,List.not_mem_nil,or_false] at hc';rcases hc' with rfl | rfl
   ·exact⟨Ne.symm z1,Ne.symm TO1,i12⟩
   ·exact⟨na z (by simp),na TO (by simp),na i2 (by simp)⟩
  ·simp only[List.mem_cons,List.not_mem_nil,or_false] at hc';rcases hc' with rfl | rfl
   ·exact⟨Ne.symm z2,Ne.symm TO2,Ne.symm i12⟩
   ·exact⟨nb z (by simp),nb TO (by simp),nb i1 (by simp)⟩
  refine I.step (g':=s.gens) (d':=s.drawn) (t':=tk) (ch:=[z,TO,i1,i2]) (fun c hc=>?_) (fun c o _ _ hc e _=>hk c o hc e) (fun c o _ _ hc e _=>⟨o.slots,hk c o hc e⟩) (fun _ _ _ _ n=>n) (fun c o hc e=>⟨o,hk c o hc e⟩) (fun _ _ e=>e) (fun _ _ _ e=>e) (fun c ps e=>⟨#[],by rw[e];simp⟩) (fun m hm=>?_) (fun c u e=>?_) I.bare
  ·obtain⟨f0,f1,f2,f3,f4,f5⟩:=hf c (by simp only[List.mem_cons,List.not_mem_nil,or_false] at hc ⊢;rcases hc with q | q | q | q<;>simp[q]);exact⟨f3,f1,f4,f5⟩
  ·obtain⟨oL,es,ep,ho,r⟩:=hm;refine⟨oL,es,ep,hk _ oL (fun zz=>?_) ho,r⟩;exact(hf _ (by simp only[List.mem_cons,List.not_mem_nil,or_false] at zz ⊢;rcases zz with q | q | q | q<;>simp[q])).2.1 rfl
  ·have nch:∀b u,H b=some u->b∉[z,TO,i1,i2]:=fun b u e zz=>by rw[(hf b (by simp only[List.mem_cons,List.not_mem_nil,or_false] at zz ⊢;rcases zz with q | q | q | q<;>simp[q])).1] at e;cases e
   refine(I.hok c u e).stay (fun d v hd q=>hk d v ?_ q) (fun _ q=>q) fun _ _ q=>q;rcases hd with q | q
   ·rw[q];exact nch c u e
   ·exact nch d _ q
 self:=fun _ _ _ _ _ st h=>wpAny_pyIter_zip st.1 h
section
variable{X:Cx}{elts:List Expr}{kk:Nat}{tpos:Pos}
noncomputable def NJ(d:TA):TI:=fun Y H R=>d Y H fun e c=>∃a b f g,e=[.ref a,.ref b]/\Rd c a (.tup f)/\c b=some (.lst g)/\R (CA a b) c
theorem NK{a b:Expr}{k:TA}{p pos:Pos}(t:Gl X "zip")(w:X.mg "zip" = none)(x:PA X [a,b] k)(y:starEach [a,b] X.env=[(false,eval a X.env),(false,eval b X.env)]:=by rfl)(d:starEach [b] X.env=[(false,eval b X.env)]:=by rfl) :
  PI X (.Tuple elts kk tpos) (.Call (.Name "zip" p) [a,b] [] pos) (NJ k):=by
 intro f s Y H R I h;refine Call_ (jC I t w boot_zip (PyProof.Rows.callWith_type1 (aU (x pos f s Y H _ I h) fun T c ⟨U,z,I1,A,B⟩=>?_) (by rw[y,d]) (by rw[d];rfl)));obtain⟨l,m,Z,ys,rfl,C,g,q⟩:=B;obtain⟨u,v,rfl,ru,i⟩:=gi A;cases ru;cases i;obtain⟨hz,j,rv,p⟩:=C.ok I1.hok;obtain⟨D,E,nn,G,J⟩:=I1.hok _ _ g;refine NG (show c.heap.IsTuple l j.toArray from p) ⟨_,J,rfl,_,rfl⟩ fun L o O Q S M N=>?_;refine wpAny_pyIter_zip (s:={ c with heap:=L }) o ?_;have nd:[c.heap.objs.size+4,c.heap.objs.size+2,c.heap.objs.size+3,c.heap.objs.size,c.heap.objs.size+1].Nodup:=by generalize c.heap.objs.size=n;simp only[List.nodup_cons,List.mem_cons,List.not_mem_nil,or_false,not_or,not_false_eq_true,and_true,List.nodup_nil];refine⟨⟨?_,?_,?_,?_⟩,⟨?_,?_,?_⟩,⟨?_,?_⟩,?_⟩<;>exact(by intro e;exact absurd (show(_:Nat)=_ from e) (by omega))
 refine⟨c.heap.objs.size+4,[c.heap.objs.size+4,c.heap.objs.size+2,c.heap.objs.size+3,c.heap.objs.size,c.heap.objs.size+1],_,_,z,rfl,I1.kept (t':=c.toks) N,NH l m _ _ _ _ _ nd,⟨o,O,⟨_,_,Q⟩,S,M⟩,fun b r=>?_,q⟩;have hb':c.heap.objs.size<=b:=by
  simp only[List.mem_cons,List.not_mem_nil,or_false] at r;rcases r with rfl | rfl | rfl | rfl | rfl
  ·exact Nat.le_add_right _ _
  ·exact Nat.le_add_right _ _
  ·exact Nat.le_add_right _ _
  ·exact bI _
  ·exact Nat.le_add_right _ _
 exact I1.fpOk hb' (I1.hok.fresh hb')
end
end L2
namespace L2.L3
open PySem PySem.Spec PyProof.Rows
def NL(O:List Addr)(H:Hp)(J:It)(c:List PyData):Prop:=∀e a,aM O H e a->bW H a->jL a e->
 (∀i d,c[i]? = some d->J.go i a/\∀x b,J.yld i a x b->bW a b/\DV (aw e b) x d)/\J.stop c.length a
noncomputable def CB(K:Frag)(F:Fx)(s:dW):TI:=fun Y H R=>∃U O,aE K F H Y U O/\s U fun b d=>∀J a c,aE K F a Y d c->aM O H c a->NL c a J b->R J a
structure xb (X:Cx) (F:Fx) (tg iter:Expr) (s:dW):Prop where
 mn:ky s
 pi:PI X tg iter (CB X.K F s)
@[simp] noncomputable def xc:Option (Option aj)->Option aj
 | some (some (.own _ b))=>some (.vw b)
 | some (some (.exc _))=>none
 | some o=>o
 | none=>none
noncomputable def jo(own:List Str)(a:List Nat)(U:ao):ao:=own.map (fun _=>none)++a.map fun j=>xc U[j]?
mutual
@[simp] noncomputable def iI:PyData->Bool
 | .int _=>true
 | .bool _=>true
 | .none=>true
 | .str _=>true
 | .tuple ds=>nu ds
 | .list _=>false
 | .dict _=>false
@[simp] noncomputable def nu:List PyData->Bool
 | []=>true
 | d::ds=>iI d&&nu ds
end
theorem CC:∀a:List PyData,a.all iI=nu a
 | []=>rfl
 | d::a=>by rw[List.all_cons,CC a,nu]
mutual
theorem NM{G G':Hp}(k:∀a u,¬ Mv u->G a=some u->G' a=some u):∀{v:V}{d:PyData},DV G v d->iI d=true->DV G' v d
 | _,_,.non,_=>.non
 | _,_,.bl b,_=>.bl b
 | _,_,.int i,_=>.int i
 | _,_,.str x,_=>.str x
 | _,_,.tup h r,f=>.tup (h.imp (fun e=>k _ _ id e) fun⟨⟨o,e⟩,z⟩=>⟨⟨o,k _ _ id e⟩,z⟩) (xf k r (by simpa[iI] using f))
theorem xf{G G':Hp}(k:∀a u,¬ Mv u->G a=some u->G' a=some u):∀{vs:List V}{ds:List PyData},aK G vs ds->nu ds=true->aK G' vs ds
 | _,_,.nil,_=>.nil
 | _,_,.cons h t,f=>by rw[nu,Bool.and_eq_true] at f;exact .cons (NM k h f.1) (xf k t f.2)
end
theorem NN{G c:Hp}(k:∀a u,¬ Mv u->G a=some u->c a=some u){d:List V}{b:List PyData}(h:aK G d b)(f:b.all iI=true):aK c d b:=xf k h (by rw[<-CC];exact f)
noncomputable def rT(own:List Str)(f:List Nat)(s:dW)(g:eh)(l:cG)(m:DT):DT:=fun U Q=>s U fun c j=>∃e:Nat->List PyData->ao->Prop,e 0 [] (jo own f j)/\
 (∀i d a h,c[i]? = some d->e i a h->g d h fun n=>l n fun b k=>if b=true then m k fun y o=>a.length<sizeLine/\e (i+1) (a++[y]) o else e (i+1) a k)/\
 ∀a h,e c.length a h->a.length<=sizeLine/\a.all iI=true/\Q (.list a) j
section
variable{K:Frag}{F:Fx}{own:List Str}{caps:List Nat}{s:dW}{g:eh}{tc:cG}{te:DT}
theorem NO(c:ky s):Mn (rT own caps s g tc te):=fun _ _ _ k q=>c _ _ _ (fun _ _ ⟨d,e,h1,h2⟩=>⟨d,e,h1,fun a b h=>⟨(h2 a b h).1,(h2 a b h).2.1,k _ _ (h2 a b h).2.2⟩⟩) q
theorem NP{PF:Fx->Prop}(hP:∀k Y A I O2,aE K F k Y A I->PF ⟨k,[],O2,fun _=>0⟩)(hs:ky s)(hg:∀d U Q Q',(∀B,Q B->Q' B)->g d U Q->g d U Q')(ht:jd tc)(he:Mn te):∀Y H Q,gl K F (rT own caps s g tc te) Y H Q->
  kj own caps (CB K F s) (fun v Y H Q=>∃L,PF L/\mO K L g v Y H Q) (fun Y H Q=>∃L,PF L/\jI K L tc Y H Q) (fun Y H Q=>∃L,PF L/\gl K L te Y H Q) Y H Q:=fun Y H Q ⟨U,O,st,q⟩=>by
 refine⟨U,O,st,hs _ _ _ (fun f A ⟨Iv,i0,step,fin⟩ J k I n s1 wk=>?_) q⟩;obtain⟨W,T,X⟩:=id n;let V:List Addr:=(caps.map fun j=>(W[j]?).getD []).flatten;let r:List Addr:=I.filter fun a=>decide (a∉V);have sub:∀a∈r,a∈I:=fun a h=>(List.mem_filter.mp h).1;have a2:r.Nodup:=by
  have:I.Nodup:=by rw[X];exact T.nd
  exact this.filter _
 have a3:∀j∈caps,∀l,W[j]? = some l->∀a∈l,a∉r:=fun j hj l hl a ha z=>by have h1:=(List.mem_filter.mp z).2;simp only[decide_eq_true_eq] at h1;exact h1 (List.mem_flatten.mpr ⟨l,List.mem_map.mpr ⟨j,hj,by rw[hl];rfl⟩,ha⟩)
 have Z:∀j∈caps,∀c,xc A[j]? = some c->(∀io b,c≠.own io b)/\∃v,Y[j]? = some (some v)/\cX K k r v c []:=fun j hj c w=>by
  cases h3:A[j]? with
  | none=>rw[h3] at w;cases w
  | some o=>
   cases o with
   | none=>rw[h3] at w;cases w
   | some c'=>
    rw[h3] at w;obtain⟨v,fp,t,e0,C⟩:=T.at_ j c' h3;rw[<-X] at C;have D:aM I k r k:=fC sub;cases c' with
    | dat d=>cases w;exact⟨(fun _ _ z=>by cases z),v,t,cX.keep (c:=.dat d) (fp:=[]) C D (fun _ _=>rfl) fun _ _ _ e=>e⟩
    | scr ns=>cases w;exact⟨(fun _ _ z=>by cases z),v,t,cX.keep (c:=.scr ns) (fp:=[]) C D (fun _ _=>rfl) fun _ _ _ e=>e⟩
    | exc _=>cases w
    | vw b=>cases w;exact⟨(fun _ _ z=>by cases z),v,t,cX.keep (c:=.vw b) (fp:=[]) C D (fun _ _=>rfl) fun _ _ _ e=>e⟩
    | own io b=>cases w;obtain⟨a,ev,q2⟩:=C;refine⟨(fun _ _ z=>by cases z),v,t,a,fp,ev,q2.keep (fun c hc=>?_) D.hid⟩;obtain⟨o,eo,_⟩:=q2.live c hc;rw[eo];exact ie eo (a3 j hj fp e0 c hc)
 refine⟨fun i m ys Y' N=>∃B R M,aE K ⟨k,[],r,fun _=>0⟩ N Y' B R/\Iv i M B/\aK (aw R N) ys M/\i<=f.length/\m=f.length - i,⟨f.length,jo own caps A,r,[],?_,i0,.nil,Nat.zero_le _,rfl⟩,?_⟩
 ·have cell:∀(i:Nat) (c:aj),(jo own caps A)[i]? = some (some c)->(∀io b,c≠.own io b)/\∃v,(dH own caps Y)[i]? = some (some v)/\cX K k r v c []:=fun i c e=>by
   unfold jo at e;unfold dH
   by_cases hi:i<own.length
   ·rw[List.getElem?_append_left (by simpa using hi),List.getElem?_map] at e;cases h:own[i]? with
    | none=>rw[h] at e;cases e
    | some y=>rw[h] at e;cases e
   ·rw[List.getElem?_append_right (by simpa using Nat.le_of_not_lt hi),List.length_map,List.getElem?_map] at e;rw[List.getElem?_append_right (by simpa using Nat.le_of_not_lt hi),List.length_map,List.getElem?_map];obtain⟨j,h1,w⟩:=Option.map_eq_some_iff.mp e;rw[h1];show _/\∃v,some ((Y[j]?).getD none)=some (some v)/\_;obtain⟨n1,v,t,C⟩:=Z j (List.mem_of_getElem? h1) c w;rw[t];exact⟨n1,v,rfl,C⟩
  have ln:(jo own caps A).length=(dH own caps Y).length:=by unfold jo dH;simp
  have fl:(List.replicate (jo own caps A).length ([]:List Addr)).flatten++r=r:=by rw[kv];rfl
  refine⟨List.replicate (jo own caps A).length [],⟨fun i c e=>?_,by show(_++r).Nodup;rw[fl];exact a2,fun _ _ _ h=>h,fun a h=>?_,by show jL k (_++r);rw[fl];exact fun a ha=>n.live a (sub a ha),ln,by simp,fun i b e=>absurd rfl ((cell i _ e).1 true b)⟩,fl.symm⟩
  ·obtain⟨_,v,t,C⟩:=cell i c e;refine⟨v,[],t,?_,by show cX K k (_++r) v c [];rw[fl];exact C⟩;rw[List.getElem?_replicate,if_pos (List.getElem?_eq_some_iff.mp e).1]
  ·rw[kv] at h;cases h
 ·rintro i m ys Y' N ⟨B,R,M,E,iv,dv,hi,rfl⟩;have S:bW k N:=fun b o e=>by obtain⟨W',h',_⟩:=id E;exact h'.kept b o (by simp) e
  have a4:aM I k R N:=⟨fun b o _ e=>S b o e,fun a h=>by
   obtain⟨W',h',rfl⟩:=id E;rcases List.mem_append.mp h with h | h
   ·exact(h'.new a h).elim (fun z=>absurd z (by simp)) .inr
   ·exact .inl (sub a h)⟩
  obtain⟨w1,w2⟩:=wk R N a4 S E.live
  by_cases G:i<f.length
  ·obtain⟨go,yld⟩:=w1 i f[i] (List.getElem?_eq_getElem G);refine .inr ⟨go,fun x H2 hy=>?_⟩;obtain⟨a0,dx⟩:=yld x H2 hy;refine⟨⟨k,[],r,fun _=>0⟩,hP _ _ _ _ _ n,B,R,f[i],E.grow a0,dx,hg _ _ _ _ (fun U2 q2 Y3 H3 O3 a5 s3=>?_) (step i f[i] M B (List.getElem?_eq_getElem G) iv)⟩;refine⟨⟨k,[],r,fun _=>0⟩,hP _ _ _ _ _ n,U2,O3,a5,ht _ _ _ (fun b U3 q3 H4 O4 a1 s4=>?_) q2⟩;have d4:aK (aw O4 H4) ys M:=aK.mono s4.hid (aK.mono s3.hid (aK.mono (kl a0) dv));cases b with
   | false=>exact em ⟨f.length - (i+1),by omega,U3,O4,M,a1,jc q3,d4,G,rfl⟩
   | true=>refine en ⟨⟨k,[],r,fun _=>0⟩,hP _ _ _ _ _ n,U3,O4,a1,he _ _ _ (fun y U4 q4 v H5 O5 a6 s5 dy=>?_) (jb q3)⟩;refine⟨by rw[d4.length];exact q4.1,f.length - (i+1),by omega,U4,O5,M++[y],a6,q4.2,(aK.mono s5.hid d4).append (.cons dy .nil),G,rfl⟩
  ·have e:i=f.length:=by omega
   subst e;obtain⟨hz,a7,q⟩:=fin M B iv;refine .inl ⟨w2,by rw[dv.length];exact hz,fun p hp=>?_⟩;have a8:k p=none:=by
    cases e:k p with
    | none=>rfl
    | some o=>rw[S p o e] at hp;cases hp
   exact q _ _ I (n.grow fun b o e=>bX hp _ _ (S b o e)) (s1.trans (.same fun b o e=>bX hp _ _ (S b o e))) (kq hp (n.nofree p a8) (NN (fun a u nm e=>by
    obtain⟨t,_⟩:=cW e;refine ie t fun z=>?_;obtain⟨o,eo,mo⟩:=n.live a z;rw[S a o eo] at t;cases t;exact nm mo) dv a7))
end
section
variable{X:Cx}{F:Fx}{scope:Scope}{own capN:List Str}{caps:List Nat}{tg iter elt:Expr}{ifs:List Expr}{s:dW}{g:eh}{tc:cG}{te:DT}{pos:Pos}
theorem NQ(k:GF X.mg F)(S:ag X scope own capN caps)(l:X.calm=true)(j:xb X F tg iter s)
  (c:∀C d e f h b,GF X.mg b->DG (bP X scope (own++capN) C d e f h) b tg g/\lL (bP X scope (own++capN) C d e f h) b ifs tc/\DE (bP X scope (own++capN) C d e f h) b elt te)
  (m:∀x,foldedSetIterable iter X.env x=pure x:=by intro _;rfl):DE X F (.ListComp elt [⟨tg,iter,ifs,0⟩] scope pos) (rT own caps s g tc te):=by
 obtain⟨n,o,p⟩:=c 0 [] (PySem.start X.prog).1 (fun _=>none) [] F k;refine⟨NO j.mn,(qW S l j.pi (fun C d e f h=>⟨fun a s Y H v u Q I r ⟨b,i,q⟩=>(c C d e f h b i).1.pg a s Y H v u Q I r q,fun a s Y H Q I ⟨b,i,q⟩=>(c C d e f h b i).2.1.2 a s Y H Q I q,fun a s Y H Q I ⟨b,i,q⟩=>(c C d e f h b i).2.2.pe a s Y H Q I q⟩) m).imp (NP (fun _ _ _ _ _ st=>k.into st) j.mn n.mn o.1 p.mn)⟩
end
@[simp] noncomputable def oZ(own:Nat)(a:List Nat)(U:ao):ao:=List.replicate own none++a.map fun j=>xc U[j]?
@[simp] noncomputable def xg(own:Nat)(a:List Nat)(g:GM)(t:XM Bool)(m:XM PyData)(b:List PyData):XM PyData:=fun d=>lift ((cn g t m b [] (oZ own a d)).bind fun c=>if c.length<=sizeLine/\c.all iI=true then some (.list c) else none) d
@[simp] noncomputable def nv(own:Nat)(a:List Nat)(s:XM (List PyData))(g:GM)(t:XM Bool)(m:XM PyData):XM PyData:=fun U=>(s U).bind (xg own a g t m)
section
variable{X:Cx}{F:Fx}{E:Str->ao->Prop}{pos:Pos}
theorem NR{own:List Str}{f:List Nat}{s:XM (List PyData)}{g:GM}{t:XM Bool}{m:XM PyData}{U:ao}{Q:PyData->ao->Prop}(q:wp E (nv own.length f s g t m) U Q):rT own f (wp E s) (ez g) (wp dJ t) (wp dJ m) U Q:=aL _ _ _ (fun l p C=>by
 obtain⟨y,D,z⟩:=dm (o:=(cn g t m l [] (oZ own.length f p)).bind fun n=>if n.length<=sizeLine/\n.all iI=true then some (PyData.list n) else none) (U:=p) (E:=E) (Q:=Q) C;obtain⟨j,G,r⟩:=Option.bind_eq_some_iff.mp D;have u:(j.length<=sizeLine/\j.all iI=true)/\y=.list j:=by
  split at r
  ·rename_i h;cases r;exact⟨h,rfl⟩
  ·cases r
 have H:jo own f p=oZ own.length f p:=by unfold jo oZ;rw[List.map_const']
 refine⟨fun i n U=>cn g t m (l.drop i) n U=some j,by rw[H];exact G,fun i d n U hd a=>?_,fun n U h=>?_⟩
 ·have e:l.drop i=d::l.drop (i+1):=by obtain⟨v,I⟩:=List.getElem?_eq_some_iff.mp hd;rw[<-I];exact List.drop_eq_getElem_cons v
  simp only[e] at a;unfold cn at a;unfold ez;cases A:g d U with
  | none=>rw[A] at a;cases a
  | some J=>
   rw[A] at a;simp only at a ⊢;unfold wp;cases w:t J with
   | ex c B=>rw[w] at a;cases a
   | bad=>rw[w] at a;cases a
   | ok b B=>
    rw[w] at a;cases b with
    | false=>exact em a
    | true=>
     refine en ?_;simp only at a ⊢;cases x:m B with
     | ex c L=>rw[x] at a;cases a
     | bad=>rw[x] at a;cases a
     | ok M L=>
      rw[x] at a;simp only at a ⊢;split at a
      ·rename_i h;exact⟨h,a⟩
      ·cases a
 ·simp only[List.drop_length] at h;have:n=j:=by unfold cn at h;exact Option.some.inj h
  subst this;rw[u.2] at z;exact⟨u.1.1,u.1.2,z⟩) (cg (k:=xg own.length f g t m) q)
theorem DE.imp'{e:Expr}{t t':DT}(h:DE X F e t)(a:Mn t')(k:∀U Q,t' U Q->t U Q):DE X F e t':=⟨a,h.pe.imp fun Y H Q ⟨U,O,st,q⟩=>⟨U,O,st,k U _ q⟩⟩
theorem NS{a:Scope}{own b:List Str}{c:List Nat}{h iter d:Expr}{e:List Expr}{s:XM (List PyData)}{g:GM}{t:XM Bool}{m:XM PyData}{n:Nat}(p:GF X.mg F)(S:ag X a own b c)(r:X.calm=true)(u:own.length=n)(v:xb X F h iter (wp E s))
  (i:∀C j k l o f,GF X.mg f->FG (bP X a (own++b) C j k l o) f h g/\kD (bP X a (own++b) C j k l o) f dJ e t/\FE (bP X a (own++b) C j k l o) f dJ d m)
  (w:∀x,foldedSetIterable iter X.env x=pure x:=by intro _;rfl):FE X F E (.ListComp d [⟨h,iter,e,0⟩] a pos) (nv n c s g t m):=by
 subst u;exact DE.imp' (NQ p S r v i w) aL fun U Q q=>NR q
noncomputable def kK(C:Addr)(i:Nat)(f g:Str):XM (List PyData):=fun U=>match bJ C U i with
 | some (_,fs)=>(match fs.lookup f,fs.lookup g with
  | some (.d (.tuple ds)),some (.l a)=>.ok (cm ds a) U
  | _,_=>.bad)
 | none=>.bad
theorem NT{C:Addr}{i:Nat}{f f2 x:Str}{k:List Expr}{kk:Nat}{n p j b o c:Pos}(hg:Gl X "zip")(hm:X.mg "zip" = none)(cl:cO X.K C)(na:cx X.K C f)(M:cx X.K C f2)(B:PE X (.Name x j) (bS i))(N:PE X (.Name x b) (bS i))
  (hb:attributeBase (.Name x j) f X.env (eval (.Name x j) X.env)=eval (.Name x j) X.env:=by rfl) (Q:attributeBase (.Name x b) f2 X.env (eval (.Name x b) X.env)=eval (.Name x b) X.env:=by rfl)
  (hs:starEach [.Attribute (.Name x j) f o,.Attribute (.Name x b) f2 c] X.env=[(false,eval (.Attribute (.Name x j) f o) X.env),(false,eval (.Attribute (.Name x b) f2 c) X.env)]:=by rfl)
  (r:starEach [.Attribute (.Name x b) f2 c] X.env=[(false,eval (.Attribute (.Name x b) f2 c) X.env)]:=by rfl) :
  xb X F (.Tuple k kk n) (.Call (.Name "zip" p) [.Attribute (.Name x j) f o,.Attribute (.Name x b) f2 c] [] pos) (wp E (kK C i f f2)):=
 ⟨aL,(NK hg hm (df (ib B hb) (df (ib N Q) ed r) hs) hs r).imp fun Y H R ⟨U,O,st,q⟩=>by
  unfold wp kK at q;cases ho:bJ C U i with
  | none=>rw[ho] at q;exact q.elim
  | some p=>
   obtain⟨io,fs⟩:=p;rw[ho] at q;simp only at q;cases a:fs.lookup f with
   | none=>rw[a] at q;exact q.elim
   | some S=>
    cases g:fs.lookup f2 with
    | none=>rw[a,g] at q;cases S<;>simp only at q<;>exact q.elim
    | some y2=>
     rw[a,g] at q;obtain⟨a0,fp,t,⟨dx,gs,a3,e1,D,e3,G⟩,_,_⟩:=st.box (ka ho);cases S with
     | l _=>exact q.elim
     | m _ _=>exact q.elim
     | d I=>
      cases y2 with
      | d _=>cases I<;>exact q.elim
      | m _ _=>cases I<;>exact q.elim
      | l es=>
       cases I with
       | tuple ds=>
        simp only at q;rcases kJ G f with⟨_,l2⟩ | ⟨v1,S,a4,l1,l2,l3,_⟩
        ·rw[a] at l2;cases l2
        rw[a] at l2;cases l2;rcases kJ G f2 with⟨_,u⟩ | ⟨v2,y2,a5,m1,u,m3,_⟩
        ·rw[g] at u;cases u
        rw[g] at u;cases u;obtain⟨a1,J,rfl,hx,hd⟩:=l3.2.tup_inv;obtain⟨b1,L,rfl,_,hy,he⟩:=m3;obtain⟨A,a6⟩:=jH hx;refine⟨_,t,a0,C,dx,gs,_,rfl,D,cl,na,l1,_,t,a0,C,dx,gs,_,rfl,D,cl,M,m1,a1,b1,J,L,rfl,A,hy,q _ H O st .refl fun O' H' s sm ok=>?_⟩;have h2:=Jp sm A;have h3:=sm _ _ hy;have Z:=aK.mono s.hid hd;have a2:=aK.mono s.hid he;refine⟨fun i d e=>?_,⟨J,L,h2,h3,?_⟩⟩
        ·unfold cm at e;rw[List.getElem?_map] at e;obtain⟨⟨d0,I⟩,e1,D⟩:=Option.map_eq_some_iff.mp e;subst D;obtain⟨e3,G⟩:=List.getElem?_zip_eq_some.mp e1;obtain⟨v,B,dv⟩:=Z.get e3;obtain⟨w,hw,dw⟩:=a2.get G;refine⟨⟨J,v,L,w,h2,B,h3,hw⟩,fun x a7 ⟨T,y,z,o,c,q3,q4,q5⟩=>?_⟩;subst o q3;have:=q4 J h2;rw[B] at this;cases this;have:=q5 L h3;rw[hw] at this;cases this;exact⟨bX c,kr c (ok.nofree T c) (.cons dv (.cons dw .nil))⟩
        ·unfold cm;rw[List.length_map,List.length_zip,hd.length,he.length];rcases Nat.lt_or_ge es.length ds.length with h | h
         ·exact .inr ⟨by omega,by omega⟩
         ·exact .inl (by omega)
       | _=>exact q.elim⟩
theorem aE.view{K:Frag}{H:Hp}{Y:St}{U:ao}{O:List Addr}(st:aE K F H Y U O){i:Nat}{b:Bx}(e:U[i]? = some (some (.vw b))):∃a d,Y[i]? = some (some (.ref a))/\fy (aw O H) (aw O H) a b d:=by obtain⟨W,h,rfl⟩:=st;obtain⟨v,d,h1,h2,a,c,rfl,h3⟩:=h.at_ i _ e;exact⟨a,c,h1,h3⟩
noncomputable def ny(C:Addr)(U:ao)(i:Nat):Option (List (Str×Fl)):=match U[i]? with
 | some (some (.vw (.o a fs)))=>if a = C then some fs else none
 | _=>none
theorem NU{C:Addr}{U:ao}{i:Nat}{fs:List (Str×Fl)}(h:ny C U i=some fs):U[i]? = some (some (.vw (.o C fs))):=by
 unfold ny at h;split at h
 ·rename_i e;split at h
  ·rename_i a;cases h;rw[e,a]
  ·cases h
 ·cases h
noncomputable def jq(C:Addr)(i:Nat)(f:Str):XM PyData:=fun U=>match ny C U i with
 | some fs=>(match fs.lookup f with
  | some (.d d)=>.ok d U
  | _=>.bad)
 | none=>.bad
theorem CD{C:Addr}{i:Nat}{f x:Str}{a:Pos}(cl:cO X.K C)(c:cx X.K C f)(e:PE X (.Name x a) (bS i))(s:attributeBase (.Name x a) f X.env (eval (.Name x a) X.env)=eval (.Name x a) X.env:=by rfl):FE X F E (.Attribute (.Name x a) f pos) (jq C i f):=
 ⟨aL,(ib e s).imp fun Y H Q ⟨U,O,st,q⟩=>by
  unfold wp jq at q;cases ho:ny C U i with
  | none=>rw[ho] at q;exact q.elim
  | some fs=>
   rw[ho] at q;simp only at q;obtain⟨g,t,b,⟨h,j,k,u,n,w,o⟩⟩:=st.view (NU ho);rcases kJ o f with⟨l1,l2⟩ | ⟨v,y,p,l1,l2,l3,_⟩
   ·rw[l2] at q;exact q.elim
   ·rw[l2] at q;cases y with
    | d d=>exact⟨_,b,g,C,h,j,v,rfl,(cW n).1,cl,c,l1,q v H O st (.refl ..) l3.2⟩
    | l ds=>exact q.elim
    | m z r=>exact q.elim⟩
end
section
variable{K:Frag}{F:Fx}{own:List Str}{caps:List Nat}{s:dW}{g:eh}{tc:cG}{te:DT}
theorem NW{T:Fx->Prop}(hP:∀u Y w k O2,aE K F u Y w k->T ⟨u,[],O2,fun _=>0⟩)(hs:ky s)(hg:∀d U Q Q',(∀n,Q n->Q' n)->g d U Q->g d U Q')(ht:jd tc)(he:Mn te):∀(Y:St) (H:Hp) (Q:VK),(∃U O,aE K F H Y U O/\s U fun f w=>∃G:Nat->List PyData->ao->Prop,G 0 [] (cL own caps w)/\
   (∀i d r n,f[i]? = some d->G i r n->g d n fun U2=>tc U2 fun b L=>if b=true then te L fun y U4=>r.length<sizeLine/\G (i+1) (r++[y]) U4 else G (i+1) r L)/\
   ∀r n,G f.length r n->r.length<=sizeLine/\∀t A vs p,aE K F t Y w A->aM O H A t->aK (aw A t) vs r->t p=none->Q (.ref p) (aQ t p (.lst vs)))->
  kj own caps (oE K F s) (fun v Y H Q=>∃D,T D/\mO K D g v Y H Q) (fun Y H Q=>∃D,T D/\jI K D tc Y H Q) (fun Y H Q=>∃D,T D/\gl K D te Y H Q) Y H Q:=fun Y H Q ⟨U,O,st,q⟩=>by
 refine⟨U,O,st,hs _ _ _ (fun f w ⟨G,i0,step,fin⟩ J u k l s1 wk=>?_) q⟩;refine⟨fun i m r Y' t=>∃n A E,aE K ⟨u,[],k,fun _=>0⟩ t Y' n A/\G i E n/\aK (aw A t) r E/\i<=f.length/\m=f.length - i,⟨f.length,cL own caps w,k,[],?_,i0,.nil,Nat.zero_le _,rfl⟩,?_⟩
 ·have cell:∀(i:Nat) (c:aj),(cL own caps w)[i]? = some (some c)->(∀io b,c≠.own io b)/\∃v,(dH own caps Y)[i]? = some (some v)/\cX K u k v c []:=fun i c e=>by
   unfold cL at e;unfold dH
   by_cases X:i<own.length
   ·rw[List.getElem?_append_left (by simpa using X),List.getElem?_map] at e;cases h:own[i]? with
    | none=>rw[h] at e;cases e
    | some y=>rw[h] at e;cases e
   ·rw[List.getElem?_append_right (by simpa using Nat.le_of_not_lt X),List.length_map,List.getElem?_map] at e;rw[List.getElem?_append_right (by simpa using Nat.le_of_not_lt X),List.length_map,List.getElem?_map];obtain⟨j,h1,h2⟩:=Option.map_eq_some_iff.mp e;rw[h1];show _/\∃v,some ((Y[j]?).getD none)=some (some v)/\_;cases h3:w[j]? with
    | none=>rw[h3] at h2;cases h2
    | some o=>
     cases o with
     | none=>rw[h3] at h2;cases h2
     | some c'=>
      rw[h3] at h2;obtain⟨W,I,rfl⟩:=id l;obtain⟨v,fp,e1,_,M⟩:=I.at_ j c' h3;rw[e1];cases c' with
      | dat d=>cases h2;exact⟨(fun _ _ z=>by cases z),v,rfl,M⟩
      | scr ns=>cases h2;exact⟨(fun _ _ z=>by cases z),v,rfl,M⟩
      | own _ _=>cases h2
      | exc _=>cases h2
      | vw b=>cases h2;exact⟨(fun _ _ z=>by cases z),v,rfl,M⟩
  obtain⟨W,I,a0⟩:=id l;have ln:(cL own caps w).length=(dH own caps Y).length:=by unfold cL dH;simp
  have Z:(List.replicate (cL own caps w).length ([]:List Addr)).flatten++k=k:=by rw[kv];rfl
  refine⟨List.replicate (cL own caps w).length [],⟨fun i c e=>?_,by show(_++k).Nodup;rw[Z,a0];exact I.nd,fun _ _ _ h=>h,fun a h=>?_,by show jL u (_++k);rw[Z];exact l.live,ln,by simp,fun i b e=>absurd rfl ((cell i _ e).1 true b)⟩,Z.symm⟩
  ·obtain⟨_,v,e1,M⟩:=cell i c e;refine⟨v,[],e1,?_,by show cX K u (_++k) v c [];rw[Z];exact M⟩;rw[List.getElem?_replicate,if_pos (List.getElem?_eq_some_iff.mp e).1]
  ·rw[kv] at h;cases h
 ·rintro i m r Y' t ⟨n,A,E,B,iv,dv,X,rfl⟩;have sm:bW u t:=fun b o e=>by obtain⟨W',h',_⟩:=id B;exact h'.kept b o (by simp) e
  have a1:aM k u A t:=⟨fun b o _ e=>sm b o e,fun a h=>by
   obtain⟨W',h',rfl⟩:=id B;rcases List.mem_append.mp h with h | h
   ·exact(h'.new a h).elim (fun z=>absurd z (by simp)) .inr
   ·exact .inl h⟩
  have N:∀a∈k,a∈A:=fun a h=>by obtain⟨W',h',rfl⟩:=id B;exact bo _ h
  obtain⟨w1,w2⟩:=wk A t a1 B.live
  by_cases C:i<f.length
  ·obtain⟨go,yld⟩:=w1 i f[i] (List.getElem?_eq_getElem C);refine .inr ⟨go,fun x H2 hy=>?_⟩;obtain⟨R,dx⟩:=yld x H2 hy;refine⟨⟨u,[],k,fun _=>0⟩,hP _ _ _ _ _ l,n,A,f[i],B.grow R,dx,hg _ _ _ _ (fun U2 q2 Y3 H3 O3 a2 s3=>?_) (step i f[i] E n (List.getElem?_eq_getElem C) iv)⟩;refine⟨⟨u,[],k,fun _=>0⟩,hP _ _ _ _ _ l,U2,O3,a2,ht _ _ _ (fun b L q3 H4 O4 S s4=>?_) q2⟩;have d4:aK (aw O4 H4) r E:=aK.mono s4.hid (aK.mono s3.hid (aK.mono (kl R) dv));cases b with
   | false=>exact em ⟨f.length - (i+1),by omega,L,O4,E,S,jc q3,d4,C,rfl⟩
   | true=>refine en ⟨⟨u,[],k,fun _=>0⟩,hP _ _ _ _ _ l,L,O4,S,he _ _ _ (fun y U4 q4 v H5 O5 a3 s5 dy=>?_) (jb q3)⟩;refine⟨by rw[d4.length];exact q4.1,f.length - (i+1),by omega,U4,O5,E++[y],a3,q4.2,(aK.mono s5.hid d4).append (.cons dy .nil),C,rfl⟩
  ·have e:i=f.length:=by omega
   subst e;obtain⟨hz,q⟩:=fin E n iv;exact .inl ⟨w2,by rw[dv.length];exact hz,fun p hp=>q t k r p (l.grow sm) (s1.trans (.same sm)) (aK.mono (ow N) dv) hp⟩
end
section
variable{X:Cx}{F:Fx}{E:Str->ao->Prop}{pos:Pos}
theorem NX{own:List Str}{k:List Nat}{s:XM (List PyData)}{g:GM}{t:XM Bool}{m:XM PyData}{U:ao}{P:List PyData->ao->Prop}(q:wp E s U fun f l=>∃j,cn g t m f [] (jV own.length k l)=some j/\j.length<=sizeLine/\P j l) :
  wp E s U fun f l=>∃n:Nat->List PyData->ao->Prop,n 0 [] (cL own k l)/\
   (∀i d j r,f[i]? = some d->n i j r->ez g d r fun u=>wp dJ t u fun b o=>if b=true then wp dJ m o fun y v=>j.length<sizeLine/\n (i+1) (j++[y]) v else n (i+1) j o)/\
   ∀j r,n f.length j r->j.length<=sizeLine/\P j l:=aL _ _ _ (fun f l ⟨p,B,C,D⟩=>by
 have G:cL own k l=jV own.length k l:=by unfold cL jV;rw[List.map_const']
 refine⟨fun i j U=>cn g t m (f.drop i) j U=some p,by rw[G];exact B,fun i d j U hd a=>?_,fun j U h=>?_⟩
 ·have e:f.drop i=d::f.drop (i+1):=by obtain⟨w,H⟩:=List.getElem?_eq_some_iff.mp hd;rw[<-H];exact List.drop_eq_getElem_cons w
  simp only[e] at a;unfold cn at a;unfold ez;cases A:g d U with
  | none=>rw[A] at a;cases a
  | some u=>
   rw[A] at a;simp only at a ⊢;unfold wp;cases x:t u with
   | ex c o=>rw[x] at a;cases a
   | bad=>rw[x] at a;cases a
   | ok b o=>
    rw[x] at a;cases b with
    | false=>exact em a
    | true=>
     refine en ?_;simp only at a ⊢;cases z:m o with
     | ex c v=>rw[z] at a;cases a
     | bad=>rw[z] at a;cases a
     | ok I v=>
      rw[z] at a;simp only at a ⊢;split at a
      ·rename_i h;exact⟨h,a⟩
      ·cases a
 ·simp only[List.drop_length] at h;have:j=p:=by unfold cn at h;exact Option.some.inj h
  subst this;exact⟨C,D⟩) q
noncomputable def rV(C:Addr)(i:Nat)(f:Str)(own:Nat)(a:List Nat)(g:GM)(t:XM Bool)(m:XM PyData)(b:List PyData):SM:=fun U=>match cn g t m b [] (jV own a U),bJ C U i with
 | some c,some (io,fs)=>if c.length<=sizeLine/\fs.lookup f=none/\fs.length<1000 then .nx (U.set i (some (.own io (.o C (bU f (.l c) fs))))) else .bad
 | _,_=>.bad
noncomputable def xh(C:Addr)(i:Nat)(f:Str)(own:Nat)(a:List Nat)(s:XM (List PyData))(g:GM)(t:XM Bool)(m:XM PyData):SM:=fun U=>fh (s U) (rV C i f own a g t m)
theorem NY{C:Addr}{i:Nat}{f x:Str}{T w y:Pos}{a:Scope}{own capN:List Str}{caps:List Nat}{N iter h:Expr}{j:List Expr}{s:XM (List PyData)}{g:GM}{t:XM Bool}{m:XM PyData}{n:Nat}(cl:cO X.K C)(na:cx X.K C f)(hv:PE X (.Name x T) (bS i))(hG:GF X.mg F)(S:ag X a own capN caps)(hc:X.calm=true)(hn:own.length=n)(hi:FI X F E N iter s)
  (o:∀C A B J M b,GF X.mg b->FG (bP X a (own++capN) C A B J M) b N g/\kD (bP X a (own++capN) C A B J M) b dJ j t/\FE (bP X a (own++capN) C A B J M) b dJ h m)
  (Z:swapsWith (.ListComp h [⟨N,iter,j,0⟩] a pos) (some (.Attribute (.Name x T) f w)) y.line X.env=pure false:=by rfl)
  (hs:∀x,foldedSetIterable iter X.env x=pure x:=by intro _;rfl):FS X F E (.Assign [.Attribute (.Name x T) f w] (.ListComp h [⟨N,iter,j,0⟩] a pos) y) (xh C i f n caps s g t m):=by
 subst hn;obtain⟨hg,ht,he⟩:=o 0 [] (PySem.start X.prog).1 (fun _=>none) [] F hG;have pe:PE X (.ListComp h [⟨N,iter,j,0⟩] a pos) (kj own caps (oE X.K F (wp E s)) (fun v Y H Q=>∃b,GF X.mg b/\mO X.K b (ez g) v Y H Q) (fun Y H Q=>∃b,GF X.mg b/\jI X.K b (wp dJ t) Y H Q) (fun Y H Q=>∃b,GF X.mg b/\gl X.K b (wp dJ m) Y H Q)):=qW S hc hi.pi (fun C A B J M=>⟨fun c s Y H v u Q I r ⟨b,R,q⟩=>(o C A B J M b R).1.pg c s Y H v u Q I r q,fun c s Y H Q I ⟨b,R,q⟩=>(o C A B J M b R).2.1.2 c s Y H Q I q,fun c s Y H Q I ⟨b,R,q⟩=>(o C A B J M b R).2.2.pe c s Y H Q I q⟩) hs;refine(qG hv pe Z).imp fun D Y H ⟨U,O,DD,st,q,fD⟩=>?_;refine NW (fun _ _ _ _ _ st=>hG.into st) hi.mn hg.mn ht.1 he.mn Y H _ ⟨U,O,st,NX (aL _ _ _ (fun a1 U1 e=>?_) (gP (m:=s) (k:=rV C i f own.length caps g t m) q))⟩;unfold cq rV at e;cases L:cn g t m a1 [] (jV own.length caps U1) with
 | none=>rw[L] at e;exact e.elim
 | some ys=>
  cases ho:bJ C U1 i with
  | none=>rw[L,ho] at e;exact e.elim
  | some p=>
   obtain⟨io,fs⟩:=p;rw[L,ho] at e;simp only at e
   by_cases d:ys.length<=sizeLine/\fs.lookup f=none/\fs.length<1000
   ·rw[if_pos d] at e;refine⟨ys,rfl,d.1,fun H' O' vs p a2 s' dv hp=>?_⟩;obtain⟨a0,dx,gs,a3,e2,hl,nw⟩:=a2.fldNew ho d.2.1;have pa:a0≠p:=fun z=>by subst z;rw[e2] at hp;cases hp
    obtain⟨h1,O3,a4,s3⟩:=nw p (.lst vs) (.l ys) hp trivial (fun G gg=>⟨p,vs,rfl,rfl,by rw[bv (fun z=>pa z.symm),cF],aK.mono gg dv⟩);exact⟨_,a3,a0,C,dx,gs,rfl,h1,cl,na,by rw[hl];exact d.2.2,fD.nx _ _ _ _ a4 (s'.trans s3) e⟩
   ·rw[if_neg d] at e;exact e.elim
end
end L2.L3
namespace L2
open PySem PyProof.Rows
def xi(h:Heap)(a:List Value)(rows:List (List Int)):Prop:=a.length=rows.length/\∀(i:Nat) (v:Value),a[i]? = some v->∃(T:Addr) (items:Array Value) (r:List Int),v=.ref T/\IsTup h T items/\rows[i]? = some r/\IntsAre items.toList r
noncomputable abbrev im(rows:List (List Int)):Nat->Nat->Bool:=fun i j=>HT.lexLt (rows.getD i []) (rows.getD j [])
section
variable{prog:Program}{w:World}{A:Around}{R:Result->Shared->Prop}{E:Value->Shared->Prop}{s:Shared}{h0:Heap}{I l S:Addr}{its:Array Value}{rows:List (List Int)}{d:Value}
theorem Oa{Q:Value->Shared->Prop}{i j:Nat}{u v:Value}(g:A.units<cLine)(a:xi h0 its.toList rows)(f:∀b o,h0.get? b=some o->s.heap.get? b=some o)(h:its[i]? = some u)(k:its[j]? = some v)(q:Q (.bool (im rows i j)) s):wpAny (model prog w) A (richCompare .Lt u v) Q E s:=by
 obtain⟨T,m,r,rfl,n,p,t⟩:=a.2 i u (by simpa using h);obtain⟨c,y,z,rfl,B,C,D⟩:=a.2 j v (by simpa using k);have G:rows.getD i []=r:=by rw[List.getD_eq_getElem?_getD,p];rfl
 have H:rows.getD j []=z:=by rw[List.getD_eq_getElem?_getD,C];rfl
 unfold im at q;rw[G,H] at q;have J:IsTup s.heap T m:=let⟨o,e,x⟩:=n;⟨o,f _ _ e,x⟩;have L:IsTup s.heap c y:=let⟨o,e,x⟩:=B;⟨o,f _ _ e,x⟩;exact(HT.lt_tupInts J L t D g q:wpAny (model prog w) A (compareOp .Lt (.ref T) (.ref c)) Q E s)
theorem Ob(hh:A.handled=none)(T:A.in1.units<cLine)(U:xi h0 its.toList rows)(L:h0.IsList l its)(X:h0.objs.size<=I)(Y:h0.objs.size<=S)(q:I≠S) :
  ∀(k j:Nat) (s:Shared) (n:Value) (c:Nat),its.size - (j+1)=k->j+1<=its.size->(∀b o,h0.get? b=some o->s.heap.get? b=some o)->s.heap.IsListIter I l (j+1)->its[argBest (im rows) j]? = some n->
  s.heap.get? S=some { cls:=.type "list",dict:=none,data:=.seq #[n,n] c,slots:=#[] }->
  (∀v u y,its[argBest (im rows) (its.size - 1)]? = some v->(∀b o,h0.get? b=some o->u.get? b=some o)->R (.ok (.ret v)) { s with heap:=u,toks:=y })->
  codeAny (model prog w) A (.builtin "min.loop" ⟨[.ref I,.none,.ref S],[("default",d)]⟩) R s:=by
 have a:(toString "min"++toString ".loop":String)="min.loop":=by decide
 have M:∀{b:Addr}{o:Obj},h0.get? b=some o->b≠I:=fun e z=>by subst z;exact absurd (bw e) (Nat.not_lt.mpr X)
 have N:∀{b:Addr}{o:Obj},h0.get? b=some o->S≠b:=fun e z=>by subst z;exact absurd (bw e) (Nat.not_lt.mpr Y)
 intro k
 induction k with
 | zero=>
  intro j s n c Z hj C hit G f D;have H:j+1=its.size:=by omega
  refine codeAny_builtin F.entry_min_loop ?_;rw[Around.under_plainId F.plain_min_loop _];show wpAny _ A.in1 (seqItems? (.ref S) >>= _) _ _ s;refine ak (wpAny_seqItems f rfl ?_);show wpAny _ A.in1 (tryCatch (pyNext (.ref I)) _ >>= _) _ _ s;refine ak (wpAny_tryCatch (wpAny_pyNext_list_end hh hit (L.at fun o e=>C _ _ e) (by simp;omega) fun Q g=>?_));have h:=g S _ (Ne.symm q) f;show wpAny _ A.in1 (updateSeq S (fun _=>#[]) >>= _) _ _ _;refine ak (wpAny_updateSeq h rfl (ak (wpAny_letGo (bc ?_))));refine D n _ _ (by rw[<-H];exact G) fun b o e=>?_;exact(Heap.get?_update_other _ _ (N e)).trans (g _ _ (M e) (C _ _ e))
 | succ k O=>
  intro j s n c Z hj C hit G f D;have m:j+1<its.size:=by omega
  refine codeAny_builtin F.entry_min_loop ?_;rw[Around.under_plainId F.plain_min_loop _];show wpAny _ A.in1 (seqItems? (.ref S) >>= _) _ _ s;refine ak (wpAny_seqItems f rfl ?_);show wpAny _ A.in1 (tryCatch (pyNext (.ref I)) _ >>= _) _ _ s;refine ak (wpAny_tryCatch (wpAny_pyNext_list_item hit (L.at fun o e=>C _ _ e) (x:=its[j+1]) (by simp[m]) fun Q p g=>?_));have h:=g.extBut S _ (Ne.symm q) f;have r:∀b o,h0.get? b=some o->Q.get? b=some o:=fun b o e=>g.extBut _ _ (M e) (C _ _ e);show wpAny _ A.in1 (tryCatch (holding [its[j+1],its[j+1]] (richCompare .Lt its[j+1] n >>= _)) _ >>= _) _ _ _;refine ak (wpAny_tryCatch (wpAny_holding (ak (Oa (i:=j+1) (j:=argBest (im rows) j) T U r (by simp[m]) G ?_))));refine ak (wpAny_holding (wpAny_truthy_bool ?_));refine ak (wpAny_letGo (bc ?_));cases B:im rows (j+1) (argBest (im rows) j) with
  | true=>simp only[if_true];refine ak (wpAny_updateSeq h rfl (ak (wpAny_letGo ?_)));rw[a];refine bc ⟨plainId_quiet F.plain_min_loop _,O (j+1) _ its[j+1] _ (by omega) m (fun b o e=>(Heap.get?_update_other _ _ (N e)).trans (r _ _ e)) (p.at fun o e=>(Heap.get?_update_other _ _ (Ne.symm q)).trans e) (by simp only[argBest,B,if_true];simp[m]) (Heap.get?_update_self _ h rfl) fun v u y J t=>D v u y J t⟩
  | false=>simp only[Bool.false_eq_true,if_false];refine ak (wpAny_letGo ?_);rw[a];exact bc ⟨plainId_quiet F.plain_min_loop _,O (j+1) _ n c (by omega) m r p (by simp only[argBest,B,Bool.false_eq_true,if_false];exact G) h fun v u y J t=>D v u y J t⟩
theorem Oc{Q:Value->Shared->Prop}(H:A.handled=none)(t:A.in1.units<cLine)(j:s.heap.IsList l its)(u:xi s.heap its.toList rows)(k:0<its.size)(y:∀v h m,its[argBest (im rows) (its.size - 1)]? = some v->(∀b o,s.heap.get? b=some o->h.get? b=some o)->Q v { s with heap:=h,toks:=m }) :
  wpAny (model prog w) A (call (.builtin "min") [.ref l] [("default",d)]) Q E s:=by
 refine Cy F.kind_min F.plain_min F.entry_min (Cw _ _) ?_;show wpAny _ A.in1 (Builtin.Builtins.bindParams "min" ["key","default"] 0 ⟨[],[("default",d)]⟩ >>= _) _ _ s;refine ak (wpAny_of_eq (show Builtin.Builtins.bindParams "min" ["key","default"] 0 ⟨[],[("default",d)]⟩=pure [none,some d] from rfl) ?_);refine ak (bc ?_);refine ak (wpAny_pyIter_list j ?_);refine ak (wpAny_newObj_type ?_);have a:(toString "min"++toString ".loop":String)="min.loop":=by decide
 rw[a];generalize n:(s.heap.push { cls:=.type "list_iterator",data:=.fields #[.ref l,.int 0 0] })=h1;have B:h1.get? s.heap.objs.size=some { cls:=.type "list_iterator",data:=.fields #[.ref l,.int 0 0] }:=by rw[<-n];exact Heap.get?_push_size _ rfl
 have C:∀b o,s.heap.get? b=some o->h1.get? b=some o:=fun b o e=>by rw[<-n];exact bn _ e
 have p:h1.objs.size=s.heap.objs.size+1:=by rw[<-n,Heap.size_push]
 refine bc ⟨plainId_quiet F.plain_min_loop _,?_⟩;refine codeAny_builtin F.entry_min_loop ?_;rw[Around.under_plainId F.plain_min_loop _];have q:(h1.push { cls:=.type "list",data:=.seq #[] }).get? h1.objs.size=some { cls:=.type "list",data:=.seq #[] }:=Heap.get?_push_size _ rfl;have r:∀b o,s.heap.get? b=some o->(h1.push { cls:=.type "list",data:=.seq #[] }).get? b=some o:=fun b o e=>bn _ (C b o e);show wpAny _ A.in1 (seqItems? (.ref h1.objs.size) >>= _) _ _ _;refine ak (wpAny_seqItems q rfl ?_);show wpAny _ A.in1 (tryCatch (pyNext (.ref s.heap.objs.size)) _ >>= _) _ _ _;refine ak (wpAny_tryCatch (wpAny_pyNext_list_item (i:=0) (l:=l) (items:=its) (x:=its[0]) ⟨_,bn _ B,rfl,rfl⟩ (j.at fun o e=>r _ _ e) (by simp[k]) fun J c f=>?_));have ne:s.heap.objs.size≠h1.objs.size:=by rw[p];exact Nat.ne_of_lt (Nat.lt_succ_self _)
 have g:=f.extBut _ _ (Ne.symm ne) q;have D:∀b o,s.heap.get? b=some o->J.get? b=some o:=fun b o e=>f.extBut _ _ (Nat.ne_of_lt (bw e)) (r _ _ e);show wpAny _ A.in1 (updateSeq h1.objs.size (fun _=>#[its[0],its[0]]) >>= _) _ _ _;refine ak (wpAny_updateSeq g rfl ?_);rw[a];refine bc ⟨plainId_quiet F.plain_min_loop _,Ob (h0:=s.heap) (its:=its) (rows:=rows) H t u j (bI _) (by rw[p];exact Nat.le_succ _) ne _ 0 _ its[0] _ rfl k (fun b o e=>(Heap.get?_update_other _ _ (fun z=>by subst z;exact absurd (bw e) (by rw[p];exact Nat.not_lt.mpr (Nat.le_succ _)))).trans (D _ _ e)) (c.at fun o e=>(Heap.get?_update_other _ _ (Ne.symm ne)).trans e) (by simp[argBest,k]) (Heap.get?_update_self _ g rfl) fun v h m G L=>y v h m G L⟩
end
end L2
namespace L2.L3
open PySem PySem.Spec PyProof.Rows
noncomputable def mj:List PyData->Option (List Int)
 | []=>some []
 | .int i::r=>(mj r).map (i::·)
 | _=>none
noncomputable def kL:List PyData->Option (List (List Int))
 | []=>some []
 | .tuple ds::r=>(match mj ds,kL r with | some x,some y=>some (x::y) | _,_=>none)
 | _=>none
theorem CF:∀{b:List PyData}{a:List Int},mj b=some a->b=a.map PyData.int
 | [],a,h=>by cases h;rfl
 | .int i::r,a,h=>by unfold mj at h;obtain⟨m,h1,h2⟩:=Option.map_eq_some_iff.mp h;subst h2;rw[CF h1];rfl
 | .none::_,_,h=>by cases h
 | .bool _::_,_,h=>by cases h
 | .str _::_,_,h=>by cases h
 | .list _::_,_,h=>by cases h
 | .tuple _::_,_,h=>by cases h
 | .dict _::_,_,h=>by cases h
theorem CG:∀{b:List PyData}{a:List (List Int)},kL b=some a->b=a.map fun r=>PyData.tuple (r.map PyData.int)
 | [],a,h=>by cases h;rfl
 | .tuple l::r,a,h=>by
  unfold kL at h;cases h1:mj l with
  | none=>rw[h1] at h;cases h
  | some x=>
   cases h2:kL r with
   | none=>rw[h1,h2] at h;cases h
   | some y=>rw[h1,h2] at h;cases h;rw[CG h2,CF h1];rfl
 | .none::_,_,h=>by cases h
 | .bool _::_,_,h=>by cases h
 | .str _::_,_,h=>by cases h
 | .list _::_,_,h=>by cases h
 | .int _::_,_,h=>by cases h
 | .dict _::_,_,h=>by cases h
theorem CH{H:Hp}:∀{b:List V}{a:List Int},aK H b (a.map PyData.int)->b=a.map V.int
 | _,[],.nil=>rfl
 | _,n::a,.cons h t=>by rw[h.int_inv,CH t];rfl
theorem CI:∀{a:List Int}{b:List Value},bq (a.map V.int) b->IntsAre b a
 | [],_,.nil=>.nil
 | n::a,_,.cons r t=>by obtain⟨c,rfl⟩:=r;exact .cons n c (CI t)
noncomputable def fZ:List (List Int)->List Int->List Int
 | [],b=>b
 | r::a,b=>fZ a (if HT.lexLt r b=true then r else b)
theorem CJ(rows:List (List Int)):∀(k j:Nat),j+1+k=rows.length->fZ (rows.drop (j+1)) (rows.getD (argBest (im rows) j) [])=rows.getD (argBest (im rows) (rows.length - 1)) []
 | 0,j,h=>by have e:rows.drop (j+1)=[]:=List.drop_eq_nil_of_le (by omega);rw[e,fZ,show rows.length - 1=j by omega]
 | k+1,j,h=>by
  have a:j+1<rows.length:=by omega
  rw[List.drop_eq_getElem_cons a,fZ,<-CJ rows k (j+1) (by omega)]
  congr 1
  have b:rows.getD (j+1) []=rows[j+1]:=by rw[List.getD_eq_getElem?_getD,List.getElem?_eq_getElem a];rfl
  simp only[argBest];unfold im;rw[b];split
  ·exact b.symm
  ·rfl
theorem Od{A:Around}(a:A.units+1<cLine):A.in1.units<cLine:=by
 have:A.in1.units<=A.units+1:=by first | exact bI _ | exact Nat.le_succ _
 exact Nat.lt_of_le_of_lt this a
section
variable{X:Cx}{F:Fx}{E:Str->ao->Prop}{pos p p1 kp kpos:Pos}{x:Str}{i:Nat}
noncomputable def kM(i:Nat):XM PyData:=fun U=>match jY U i with
 | some (_,ds)=>(match kL ds with
  | some []=>.ok .none U
  | some (r::a)=>.ok (.tuple ((fZ a r).map PyData.int)) U
  | none=>.bad)
 | none=>.bad
theorem Oe{N:Nat}(hu:X.A.units+1<cLine)(hc:X.calm=true)(hg:Gl X "min")(C:X.mg "min" = none)(R:PE X (.Name x p1) (bS i))
  (a0:starEach [.Name x p1] X.env=(false,eval (.Name x p1) X.env)::starEach [] X.env:=by rfl)
  (he:backTo pos (starEach [.Name x p1] X.env)=(false,eval (.Name x p1) X.env)::backTo pos (starEach [] X.env):=by rfl)
  (f:(backTo pos (starEach [.Name x p1] X.env)).any (·.1)=false:=by rfl)
  (D:(backToKw pos (keywordEach [⟨some "default",.Constant .none N kp,kpos⟩] X.env)).all (·.1.isSome)=true:=by rfl)
  (a1:(backToKw pos (keywordEach [⟨some "default",.Constant .none N kp,kpos⟩] X.env)).any (·.1.isNone)=false:=by rfl)
  (hn:(backToKw pos (keywordEach [⟨some "default",.Constant .none N kp,kpos⟩] X.env)).filterMap (·.1)=[("default":Str)]:=by rfl) :
  FE X F E (.Call (.Name "min" p) [.Name x p1] [⟨some "default",.Constant .none N kp,kpos⟩] pos) (kM i):=by
 refine⟨aL,fun h s Y H Q I ⟨U,O,st,q⟩=>?_⟩;unfold wp kM at q;cases ho:jY U i with
 | none=>rw[ho] at q;exact q.elim
 | some pr=>
  obtain⟨io,ds⟩:=pr;rw[ho] at q;simp only at q;cases hr:kL ds with
  | none=>rw[hr] at q;exact q.elim
  | some rows=>
   rw[hr] at q;obtain⟨a,fp,a2,⟨_,xs,hH,hd⟩,_,_⟩:=st.box (wR ho);refine wpAny_Call_Name_kw (jC I hg C PyProof.Rows.boot_min ?_ (by decide) (by decide));refine PyProof.Rows.callWith_kw ?_ he f D a1;refine aU ((df R ed a0) pos h s Y H (fun G S=>G=[.ref a]/\S=H) I ⟨_,a2,rfl,rfl⟩) fun us s1 ⟨G,S,I1,r1,t,y⟩=>?_;subst t y;obtain⟨u,rfl,ru⟩:=dj r1;cases ru;refine aU ((HJ (nm:=some "default") (kpos:=kpos) zi HI) pos h s1 Y S (fun G m=>G=[.non]/\m=S) I1 ⟨rfl,rfl⟩) fun us s2 ⟨G,m,z,r2,t,y⟩=>?_;subst t y;obtain⟨u,rfl,ru⟩:=dj r2;cases ru;rw[hn];obtain⟨z1,g,n1,rv,g1⟩:=z.hok _ _ hH;have n:=CG hr;have L:s2.heap.IsList a g.toArray:=⟨_,g1,rfl,_,rfl⟩
   cases rows with
   | nil=>subst n;cases hd;cases rv;simp only at q;refine Ny (l:=a) (d:=.none) (z.ok.hd hc) L fun h' j=>?_;exact⟨.non,m,z.kept (t':=s2.toks) j,rfl,q _ m O st .refl .non⟩
   | cons r e=>
    simp only at q;have c:g.length=(r::e).length:=by rw[<-rv.length,hd.length,n,List.length_map]
    have item:∀(k:Nat) (v:Value),g[k]? = some v->∃(T:Addr) (o:List Int) (b:List Value) (B:V),v=.ref T/\IsTup s2.heap T b.toArray/\(r::e)[k]? = some o/\IntsAre b o/\bp B v/\DV (aw O m) B (.tuple (o.map PyData.int)):=fun k v j=>by
     have J:k<(r::e).length:=by rw[<-c];exact(List.getElem?_eq_some_iff.mp j).1
     have a3:ds[k]? = some (.tuple (((r::e)[k]).map PyData.int)):=by rw[n,List.getElem?_map,List.getElem?_eq_getElem J];rfl
     obtain⟨B,a4,M⟩:=hd.get a3;obtain⟨w,hw,a5⟩:=rv.get a4;rw[j] at hw;cases hw;obtain⟨T,ys,rfl,hT,hy⟩:=M.tup_inv;obtain⟨_,b,rj,pj⟩:=(jH hT).1.ok z.hok;rw[CH hy] at rj;cases a5;exact⟨T,_,b,.ref T,rfl,pj,List.getElem?_eq_getElem J,CI rj,rfl,M⟩
    refine Oc (l:=a) (its:=g.toArray) (rows:=r::e) (d:=.none) (z.ok.hd hc) (Od hu) L ⟨c,fun k v j=>by
     obtain⟨T,o,b,B,t,y,Z,e4,_,_⟩:=item k v j;exact⟨T,b.toArray,o,t,y,Z,e4⟩⟩ (by simp only[List.size_toArray];rw[c];simp) fun v h' tk R j=>?_
    simp only[List.size_toArray,List.getElem?_toArray] at R;obtain⟨T,o,b,B,t,y,Z,e4,e5,e6⟩:=item _ v R;have C:=CJ (r::e) e.length 0 (by simp;omega);have a6:(r::e).getD (argBest (im (r::e)) 0) []=r:=by simp[argBest]
    rw[a6] at C;change fZ e r=_ at C;rw[c] at Z;have:o=fZ e r:=by rw[C,List.getD_eq_getElem?_getD,Z];rfl
    subst this;exact⟨B,m,z.kept (t':=tk) j,e5,q _ m O st .refl e6⟩
end
structure MD (K:Frag) (C:Addr) (m qual:Str) (st:Stmt) (ps:List Str) (g:Addr) (fd:FuncData):Prop where
 fn:lG K m qual st g fd
 mt:iz K C m g
 b:ic K fd ps []
theorem bB{N P:List Str}{a:Scope}(f:a.kind=.function:=by rfl)(g:a.isCoroutine=false:=by rfl)(h:a.isGenerator=false:=by rfl)(b:N.Nodup:=by decide +kernel)(c:N.take P.length=P:=by rfl)(d:∀x∈P,a.names.lookup x=some .local\/a.names.lookup x=some .cell:=by decide +kernel)(e:∀y∈a.names,y.2≠.free:=by decide +kernel):aa N P a:=⟨f,g,h,b,c,d,e⟩
section
variable{X:Cx}{F:Fx}{E:Str->ao->Prop}{e:Expr}{es:List Expr}{pos p p1 apos:Pos}{x m q:Str}{C:Addr}{i k j:Nat}{g:Addr}{fd:FuncData}{ps:List Str}{f:FM}{st:Stmt}{mX:XM (List AX)}
theorem fv(i:Nat)(b:X.N[i]? = some x:=by rfl)(c:qy X.env.scope x:=by first | exact Or.inl rfl | exact Or.inr (Or.inl rfl) | exact Or.inr (Or.inr rfl))(hd:(x==("__debug__":Str))=false:=by decide)(a:(x==("__classdict__":Str))=false:=by decide):FE X F E (.Name x pos) (xV i):=Mc (Aq i (pv i b c hd a))
theorem di(i:Nat)(a:X.N.Nodup)(b:X.N[i]? = some x:=by rfl)(c:gC X.env.scope x:=by first | exact Or.inl rfl | exact Or.inr rfl)(d:X.fn x=true\/X.env.scope.names.lookup x=some .local:=by first | exact .inl rfl | exact .inr rfl | assumption):FG X F (.Name x pos) (aF i):=Mt (Kp (Gz a b c d))
theorem aO(d:fb X F E)(G:az X.prog X.w X.K X.mg X.base (ba X.prog X.w) k g fd ps (be X.K X.mg f))(D:FD X.K X.mg x st ps g fd)(h:bz j X.A)(l:FX X F E (e::es) mX)(n:k<=j:=by decide)(o:Gl X x:=by rfl)(a:(x==("__debug__":Str))=false:=by decide)
  (r:starEach (e::es) X.env=(false,eval e X.env)::starEach es X.env:=by rfl) (c:(backTo pos (starEach es X.env)).any (·.1)=false:=by rfl):FO X F E (.Call (.Name x p) (e::es) [] pos) (aI f mX):=BH (Lb d G (h.mono n) o D.mgf D.fn.kp D.b l a r c)
theorem eU{t:Sem Bool}(h:fb X F E)(cl:cO X.K C)(G:az X.prog X.w X.K X.mg X.base (ba X.prog X.w) k g fd ps (be X.K X.mg f))(D:MD X.K C m q st ps g fd)(l:bz j X.A)(n:PE X (.Name x p1) (bS i))(o:FX X F E (e::es) mX)(r:k<=j:=by decide)
  (a:starEach (e::es) X.env=(false,eval e X.env)::starEach es X.env:=by rfl) (c:(backTo pos (starEach es X.env)).any (·.1)=false:=by rfl)
  (s:eval (.Call (.Attribute (.Name x p1) m apos) (e::es) [] pos) X.env=(do
   let d <-eval (.Name x p1) X.env
   standAt apos.atName
   let(f,first) <-holding [d] (getMethod d m t)
   callWith pos f first (backTo pos (starEach (e::es) X.env)) (backToKw pos (keywordEach [] X.env))):=by rfl) :
  FO X F E (.Call (.Attribute (.Name x p1) m apos) (e::es) [] pos) (bR C i m f mX):=Nm h cl D.mt G (l.mono r) D.b n o a c s
theorem dR{o:Sem Bool}(c:fb X F E)(cl:cO X.K C)(G:az X.prog X.w X.K X.mg X.base (ba X.prog X.w) k g fd ps (be X.K X.mg f))(D:MD X.K C m q st ps g fd)(d:bz j X.A)(h:PE X (.Name x p1) (bS i))(l:k<=j:=by decide)
  (n:eval (.Call (.Attribute (.Name x p1) m apos) [] [] pos) X.env=(do
   let a <-eval (.Name x p1) X.env
   standAt apos.atName
   let(f,first) <-holding [a] (getMethod a m o)
   callWith pos f first (backTo pos (starEach [] X.env)) (backToKw pos (keywordEach [] X.env))):=by rfl) :
  FO X F E (.Call (.Attribute (.Name x p1) m apos) [] [] pos) (cD C i m f):=Nn c cl D.mt G (d.mono l) D.b h n
end
section
variable{X:Cx}{F:Fx}{E:Str->ao->Prop}{e:Expr}{pos p2:Pos}{lo hi:Option Expr}
noncomputable def rW(C:Addr)(i:Nat)(f:Str):XM PyData:=fun U=>match bJ C U i with
 | some (_,fs)=>(match fs.lookup f with
  | some (.l ds)=>.ok (.tuple ds) U
  | _=>.bad)
 | none=>.bad
theorem Of{C:Addr}{i:Nat}{f x:Str}{r b a:Pos}(s:Gl X "tuple")(u:X.mg "tuple" = none)(cl:cO X.K C)(v:cx X.K C f)(w:PE X (.Name x b) (bS i))(J:attributeBase (.Name x b) f X.env (eval (.Name x b) X.env)=eval (.Name x b) X.env:=by rfl)
  (n:starEach [.Attribute (.Name x b) f a] X.env=(false,eval (.Attribute (.Name x b) f a) X.env)::starEach [] X.env:=by rfl) (h:(backTo pos (starEach [] X.env)).any (·.1)=false:=by rfl) :
  FE X F E (.Call (.Name "tuple" r) [.Attribute (.Name x b) f a] [] pos) (rW C i f):=
 ⟨aL,(vt vC s u (show bootBuiltins "tuple" = some (.type "tuple") by decide +kernel) (df (ib w J) ed n) (by decide) (by decide) n h).imp fun Y H Q ⟨U,O,st,q⟩=>by
  unfold wp rW at q;cases ho:bJ C U i with
  | none=>rw[ho] at q;exact q.elim
  | some p=>
   obtain⟨io,fs⟩:=p;rw[ho] at q;simp only at q;cases c:fs.lookup f with
   | none=>rw[c] at q;exact q.elim
   | some t=>
    rw[c] at q;cases t with
    | d _=>exact q.elim
    | m _ _=>exact q.elim
    | l ds=>
     obtain⟨y,z,A,o,j,B,l1,⟨L,D,G,_,I,k⟩,_⟩:=st.fldUp ho c rfl;cases G;exact⟨_,j,y,C,z,A,.ref o,rfl,B,cl,v,l1,o,D,rfl,.inl ⟨.of I,fun p g=>q _ _ O (st.grow (bX g)) (.same (bX g)) (kr g (st.nofree p g) k)⟩⟩⟩
end
end L2.L3
namespace L2.L3
open PySem
theorem Og{c:Str->Option Value}(e:c "ANY_ZONE" = none)(f:c "NO_DEEDS" = none)(H:Hp):GH c H:=fun x d u a b=>by
 unfold glob at a;split at a
 ·rename_i h;subst h;rw[e] at b;cases b
 ·split at a
  ·rename_i h;subst h;rw[f] at b;cases b
  ·cases a
end L2.L3
namespace L2.L3
open PySem PySem.Spec PyProof.Rows
theorem CK{α:Type}{a:List α}:∀{n k:Nat},k<n->((List.replicate n ([]:List α)).set k a).flatten=a
 | 0,_,h=>by omega
 | n+1,0,_=>by rw[List.replicate_succ,List.set_cons_zero,List.flatten_cons,kv,List.append_nil]
 | n+1,k+1,h=>by rw[List.replicate_succ,List.set_cons_succ,List.flatten_cons,CK (by omega)];rfl
noncomputable def kN(own:List Str)(a:List Nat)(k:Nat)(b:Bx)(U:ao):ao:=(cL own a U).set (own.length+k) (some (.own true b))
noncomputable def rX(own:List Str)(h:List Nat)(k l:Nat)(s:dW)(g:eh)(o:cG)(p:DT):DT:=fun U Q=>s U fun c j=>∃io b,j[l]? = some (some (.own io b))/\∃e:Nat->List PyData->ao->Prop,e 0 [] (kN own h k b j)/\
 (∀i d a f,c[i]? = some d->e i a f->g d f fun q=>o q fun b m=>if b=true then p m fun y r=>a.length<sizeLine/\e (i+1) (a++[y]) r else e (i+1) a m)/\
 ∀a f,e c.length a f->∃n,f[own.length+k]? = some (some (.own true n))/\a.length<=sizeLine/\Q (.list a) (j.set l (some (.own io n)))
section
variable{K:Frag}{F:Fx}{own:List Str}{caps:List Nat}{k jm:Nat}{s:dW}{g:eh}{tc:cG}{te:DT}
theorem CL(a:ky s):Mn (rX own caps k jm s g tc te):=fun _ _ _ c q=>a _ _ _ (fun _ _ ⟨io,b,hb,d,f,h1,h2⟩=>⟨io,b,hb,d,f,h1,fun i j h=>let⟨m,e,l,q⟩:=h2 i j h;⟨m,e,l,c _ _ q⟩⟩) q
theorem CM{PF:Fx->Prop}(hP:∀B Y M N A O2 I,aE K F B Y M N->(∀a∈A,∃o,B a=some o/\Mv o)->PF ⟨B,A,O2,I⟩)(a6:caps[k]? = some jm)(hs:ky s)(hg:∀d U Q Q',(∀U',Q U'->Q' U')->g d U Q->g d U Q')(ht:jd tc)(he:Mn te):∀Y H Q,gl K F (rX own caps k jm s g tc te) Y H Q->
  kj own caps (oE K F s) (fun v Y H Q=>∃E,PF E/\mO K E g v Y H Q) (fun Y H Q=>∃E,PF E/\jI K E tc Y H Q) (fun Y H Q=>∃E,PF E/\gl K E te Y H Q) Y H Q:=fun Y H Q ⟨U,O,st,q⟩=>by
 refine⟨U,O,st,hs _ _ _ (fun n M ⟨io,b0,a5,Iv,i0,step,fin⟩ J B N R s1 wk=>?_) q⟩;obtain⟨W,C,u⟩:=id R;obtain⟨v0,r,hY,hW,a,rfl,a7⟩:=C.at_ jm _ a5;rw[<-u] at a7;have b8:jm<M.length:=(List.getElem?_eq_some_iff.mp a5).1;have b9:N.Nodup:=by rw[u];exact C.nd
 have a8:W.flatten.Nodup:=(List.nodup_append.mp C.nd).1;have c0:r.Nodup:=a8.sublist (List.sublist_flatten_of_mem (List.mem_of_getElem? hW));have S:∀c∈r,c∈N:=fun c f=>by rw[u];exact bt _ (bY hW f)
 have c1:∀c∈r,∃o,B c=some o/\Mv o:=fun c f=>R.live c (S c f);let t:List Addr:=N.filter fun c=>decide (c∉r);have w:∀c∈t,c∈N/\c∉r:=fun c h=>by obtain⟨h1,G⟩:=List.mem_filter.mp h;exact⟨h1,by simpa using G⟩
 have inc:∀c∈N,c∉r->c∈t:=fun c h G=>List.mem_filter.mpr ⟨h,by simpa using G⟩;have a2:∀c,c∈r++t↔c∈N:=fun c=>⟨fun h=>(List.mem_append.mp h).elim (S c) fun z=>(w c z).1,fun h=>by
  by_cases z:c∈r
  ·exact bt _ z
  ·exact bo _ (inc c h z)⟩
 have c2:(r++t).Nodup:=List.nodup_append.mpr ⟨c0,b9.filter _,fun x hx y hy e=>by subst e;exact(w x hy).2 hx⟩;have a9:aM N B (r++t) B:=fC fun c h=>(a2 c).mp h;let E:Fx:=⟨B,r,t,fun _=>a⟩
 have pf:PF E:=hP _ _ _ _ _ _ _ R c1;have kn:own.length+k<(cL own caps M).length:=by have:=(List.getElem?_eq_some_iff.mp a6).1;unfold cL;simp;omega
 have ln:(cL own caps M).length=(dH own caps Y).length:=by unfold cL dH;simp
 have fl:((List.replicate (cL own caps M).length ([]:List Addr)).set (own.length+k) r).flatten=r:=CK kn;have Yk:(dH own caps Y)[own.length+k]? = some (some (.ref a)):=by unfold dH;rw[List.getElem?_append_right (by simp),List.length_map,Nat.add_sub_cancel_left,List.getElem?_map,a6];show some ((Y[jm]?).getD none)=_;rw[hY];rfl
 refine⟨fun i m ys Y' H'=>∃U' O' ds,aE K E H' Y' U' O'/\Iv i ds U'/\aK (aw O' H') ys ds/\i<=n.length/\m=n.length - i,⟨n.length,kN own caps k b0 M,r++t,[],?_,i0,.nil,Nat.zero_le _,rfl⟩,?_⟩
 ·have cell:∀(i:Nat) (c:aj),(cL own caps M)[i]? = some (some c)->(∀io b,c≠.own io b)/\∃v,(dH own caps Y)[i]? = some (some v)/\cX K B N v c []:=fun i c e=>by
   unfold cL at e;unfold dH
   by_cases hi:i<own.length
   ·rw[List.getElem?_append_left (by simpa using hi),List.getElem?_map] at e;cases h:own[i]? with
    | none=>rw[h] at e;cases e
    | some y=>rw[h] at e;cases e
   ·rw[List.getElem?_append_right (by simpa using Nat.le_of_not_lt hi),List.length_map,List.getElem?_map] at e;rw[List.getElem?_append_right (by simpa using Nat.le_of_not_lt hi),List.length_map,List.getElem?_map];obtain⟨j,h1,G⟩:=Option.map_eq_some_iff.mp e;rw[h1];show _/\∃v,some ((Y[j]?).getD none)=some (some v)/\_;cases h3:M[j]? with
    | none=>rw[h3] at G;cases G
    | some o=>
     cases o with
     | none=>rw[h3] at G;cases G
     | some c'=>
      rw[h3] at G;obtain⟨v,D,Z,_,e2⟩:=C.at_ j c' h3;rw[<-u] at e2;rw[Z];cases c' with
      | dat d=>cases G;exact⟨(fun _ _ z=>by cases z),v,rfl,e2⟩
      | scr ns=>cases G;exact⟨(fun _ _ z=>by cases z),v,rfl,e2⟩
      | own _ _=>cases G
      | exc _=>cases G
      | vw b=>cases G;exact⟨(fun _ _ z=>by cases z),v,rfl,e2⟩
  refine⟨(List.replicate (cL own caps M).length []).set (own.length+k) r,⟨fun i c e=>?_,by show(_++t).Nodup;rw[fl];exact c2,fun _ _ _ h=>h,fun c h=>?_,?_,?_,?_,fun i b e=>?_⟩,by show r++t=_++t;rw[fl]⟩
  ·unfold kN at e;rcases gk e with⟨rfl,Z,hl⟩ | ⟨hi,Z⟩
   ·cases Z;refine⟨.ref a,r,Yk,List.getElem?_set_self (by simpa using hl),a,rfl,?_⟩;show fy (aw (_++t) B) B a b0 r;rw[fl];exact a7.keep (fun _ _=>rfl) a9.hid
   ·obtain⟨_,v,e2,e3⟩:=cell i c Z;refine⟨v,[],e2,?_,?_⟩
    ·rw[List.getElem?_set_ne (Ne.symm hi),List.getElem?_replicate,if_pos (List.getElem?_eq_some_iff.mp Z).1]
    ·show cX K B (_++t) v c [];rw[fl];exact e3.keep a9 (fun _ _=>rfl) fun _ _ _ e=>e
  ·rw[fl] at h;exact .inl h
  ·show jL B (_++t);rw[fl];exact fun c h=>R.live c ((a2 c).mp h)
  ·unfold kN;rw[List.length_set];exact ln
  ·unfold kN;rw[List.length_set,List.length_set,List.length_replicate]
  ·unfold kN at e;rcases gk e with⟨rfl,_,_⟩ | ⟨hi,Z⟩
   ·exact Yk
   ·exact absurd rfl ((cell i _ Z).1 true b)
 ·rintro i m ys Y' H' ⟨U',O',ds,a0,iv,dv,hi,rfl⟩;obtain⟨W',h',L⟩:=id a0;have kp:∀b o,b∉r->B b=some o->H' b=some o:=fun b o hb e=>h'.kept b o hb e;have c3:aM N B O' H':=⟨fun b o hb e=>kp b o (fun z=>hb (S b z)) e,fun c h=>by
   rw[L] at h;rcases List.mem_append.mp h with h | h
   ·exact(h'.new c h).imp (S c) id
   ·exact .inl (w c h).1⟩
  obtain⟨w1,w2⟩:=wk O' H' c3 a0.live
  by_cases a1:i<n.length
  ·obtain⟨go,yld⟩:=w1 i n[i] (List.getElem?_eq_getElem a1);refine .inr ⟨go,fun x H2 hy=>?_⟩;obtain⟨b1,dx⟩:=yld x H2 hy;refine⟨E,pf,U',O',n[i],a0.grow b1,dx,hg _ _ _ _ (fun U2 q2 Y3 H3 O3 c4 s3=>?_) (step i n[i] ds U' (List.getElem?_eq_getElem a1) iv)⟩;refine⟨E,pf,U2,O3,c4,ht _ _ _ (fun b U3 q3 H4 O4 b3 s4=>?_) q2⟩;have d4:aK (aw O4 H4) ys ds:=aK.mono s4.hid (aK.mono s3.hid (aK.mono (kl b1) dv));cases b with
   | false=>exact em ⟨n.length - (i+1),by omega,U3,O4,ds,b3,jc q3,d4,a1,rfl⟩
   | true=>refine en ⟨E,pf,U3,O4,b3,he _ _ _ (fun y U4 q4 v H5 O5 c5 s5 dy=>?_) (jb q3)⟩;refine⟨by rw[d4.length];exact q4.1,n.length - (i+1),by omega,U4,O5,ds++[y],c5,q4.2,(aK.mono s5.hid d4).append (.cons dy .nil),a1,rfl⟩
  ·have e:i=n.length:=by omega
   subst e;obtain⟨b',b4,hz,q⟩:=fin ds U' iv;refine .inl ⟨w2,by rw[dv.length];exact hz,fun p hp=>?_⟩;obtain⟨v',D,g1,g2,a',ea,g3⟩:=h'.at_ _ _ b4;have g4:=h'.io _ _ b4;rw[g1] at g4;obtain rfl:a' = a:=by cases ea;cases g4;rfl
   rw[<-L] at g3;have a3:∀c∈D,c∈O':=fun c f=>by rw[L];exact bt _ (bY g2 f)
   have a4:(W'.flatten++t).Nodup:=h'.nd;have b5:D.Nodup:=(List.nodup_append.mp a4).1.sublist (List.sublist_flatten_of_mem (List.mem_of_getElem? g2));have oth:∀j l,j≠jm->W[j]? = some l->∀c∈l,c∈t:=fun j l hj e c f=>inc c (by rw[u];exact bt _ (bY e f)) (km a8 e hW hj f);have T:∀c∈F.O₀,c∈t:=fun c f=>inc c (by rw[u];exact bo _ f) fun z=>(List.nodup_append.mp C.nd).2.2 c (bY hW z) c f rfl;have b6:∀c∈D,c∉t:=fun c f z=>(List.nodup_append.mp a4).2.2 c (bY g2 f) c z rfl;have b7:∀c∈t,H' c=B c:=fun c f=>by obtain⟨o,e,_⟩:=R.live c (w c f).1;rw[e];exact kp c o (w c f).2 e
   have X:∀c∈(W.set jm D).flatten++F.O₀,c∈O':=fun c h=>by
    rcases List.mem_append.mp h with h | h
    ·rcases fz h with h | ⟨j,l,hj,e,hl⟩
     ·exact a3 c h
     ·rw[L];exact bo _ (oth j l hj e c hl)
    ·rw[L];exact bo _ (T c h)
   obtain⟨s2,s3⟩:=C.put (H':=H') (i:=jm) (v:=.ref a') (c:=.own io b') (fp:=D) b8 (fun j l c hj e f=>b7 c (oth j l hj e c f)) (fun c f=>b7 c (T c f)) (fun c o f e=>kp c o (fun z=>f (by rw[<-u];exact S c z)) e) b5
    (fun c f=>⟨fun j l hj e z=>b6 c f (oth j l hj e c z),fun z=>b6 c f (T c z)⟩) (fun c f=>(h'.new c (bY g2 f)).imp (fun z=>bY hW z) id) (fun c f=>h'.live c (by rw[<-L];exact a3 c f)) (fun _=>⟨a',rfl,g3.keep (fun _ _=>rfl) (ow X)⟩) (fun b2 z=>by
     have Z:io=true:=by cases z;rfl
     subst Z;have:=C.io jm b0 a5;rw[hY] at this;exact Option.some.inj (Option.some.inj this))
   have eY:Y.set jm (some (.ref a'))=Y:=by
    apply List.ext_getElem?;intro j
    by_cases hj:j=jm
    ·subst hj;rw[List.getElem?_set_self (List.getElem?_eq_some_iff.mp hY).1,hY]
    ·rw[List.getElem?_set_ne (Ne.symm hj)]
   rw[eY] at s2;have stN:aE K F H' Y (M.set jm (some (.own io b'))) ((W.set jm D).flatten++F.O₀):=⟨_,s2,rfl⟩
   rw[<-u] at s3;have c6:=a0.nofree p hp;exact q _ _ _ (stN.grow (bX hp)) (s1.trans (s3.trans (.same (bX hp)))) (kq hp (fun z=>c6 (X p z)) (aK.mono (ow X) dv))
end
section
variable{X:Cx}{F:Fx}{scope:Scope}{own capN:List Str}{caps:List Nat}{k jm:Nat}{tg iter elt:Expr}{ifs:List Expr}{s:dW}{g:eh}{tc:cG}{te:DT}{pos:Pos}
theorem Oh(m:GF X.mg F)(S:ag X scope own capN caps)(j:caps[k]? = some jm)(n:X.calm=true)(l:DI X F tg iter s)
  (c:∀C d e f h b,GF X.mg b->DG (bP X scope (own++capN) C d e f h) b tg g/\lL (bP X scope (own++capN) C d e f h) b ifs tc/\DE (bP X scope (own++capN) C d e f h) b elt te)
  (o:∀x,foldedSetIterable iter X.env x=pure x:=by intro _;rfl):DE X F (.ListComp elt [⟨tg,iter,ifs,0⟩] scope pos) (rX own caps k jm s g tc te):=by
 obtain⟨p,t,w⟩:=c 0 [] (PySem.start X.prog).1 (fun _=>none) [] F m;refine⟨CL l.mn,(qW S n l.pi (fun C d e f h=>⟨fun a s Y H v u Q I r ⟨b,i,q⟩=>(c C d e f h b i).1.pg a s Y H v u Q I r q,fun a s Y H Q I ⟨b,i,q⟩=>(c C d e f h b i).2.1.2 a s Y H Q I q,fun a s Y H Q I ⟨b,i,q⟩=>(c C d e f h b i).2.2.pe a s Y H Q I q⟩) o).imp (CM (fun _ _ _ _ _ _ _ st y=>(m.at st).frame y) j l.mn p.mn t.1 w.mn)⟩
end
noncomputable def gS(g:GM)(t:XM Bool)(m:XM PyData):List PyData->List PyData->ao->Option (List PyData×ao)
 | [],a,U=>some (a,U)
 | d::r,a,U=>(match g d U with
  | some c=>(match t c with
   | .ok true b=>(match m b with
    | .ok y e=>if a.length<sizeLine then gS g t m r (a++[y]) e else none
    | _=>none)
   | .ok false b=>gS g t m r a b
   | _=>none)
  | none=>none)
noncomputable def pb(own:Nat)(a:List Nat)(k e:Nat)(g:GM)(t:XM Bool)(m:XM PyData)(c:List PyData):XM PyData:=fun d=>match d[e]? with
 | some (some (.own io b))=>(match gS g t m c [] ((List.replicate own none++a.map fun j=>mP d[j]?).set (own+k) (some (.own true b))) with
  | some (f,h)=>(match h[own+k]? with
   | some (some (.own true i))=>if f.length<=sizeLine then .ok (.list f) (d.set e (some (.own io i))) else .bad
   | _=>.bad)
  | none=>.bad)
 | _=>.bad
noncomputable def kO(own:Nat)(a:List Nat)(k b:Nat)(s:XM (List PyData))(g:GM)(t:XM Bool)(m:XM PyData):XM PyData:=fun U=>(s U).bind (pb own a k b g t m)
section
variable{X:Cx}{F:Fx}{E:Str->ao->Prop}{pos:Pos}
theorem CN{own:List Str}{f:List Nat}{k u:Nat}{s:XM (List PyData)}{g:GM}{t:XM Bool}{m:XM PyData}{U:ao}{Q:PyData->ao->Prop}(q:wp E (kO own.length f k u s g t m) U Q):rX own f k u (wp E s) (ez g) (wp dJ t) (wp dJ m) U Q:=aL _ _ _ (fun n z o=>by
 unfold wp pb at o;split at o
 ·rename_i l
  revert o l
  split
  ·rename_i io b hb;split
   ·rename_i p A v;split
    ·rename_i D hb';split
     ·rename_i G;intro l o;cases l;have H:kN own f k b z=(List.replicate own.length none++f.map fun j=>mP z[j]?).set (own.length+k) (some (.own true b)):=by unfold kN cL;rw[List.map_const']
      refine⟨io,b,hb,fun i r U=>gS g t m (n.drop i) r U=some (p,A),by rw[H];exact v,fun i d r U hd a=>?_,fun r U h=>?_⟩
      ·have e:n.drop i=d::n.drop (i+1):=by obtain⟨w,I⟩:=List.getElem?_eq_some_iff.mp hd;rw[<-I];exact List.drop_eq_getElem_cons w
       simp only[e] at a;unfold gS at a;unfold ez;cases B:g d U with
       | none=>rw[B] at a;cases a
       | some J=>
        rw[B] at a;simp only at a ⊢;unfold wp;cases x:t J with
        | ex c C=>rw[x] at a;cases a
        | bad=>rw[x] at a;cases a
        | ok b C=>
         rw[x] at a;cases b with
         | false=>exact em a
         | true=>
          refine en ?_;simp only at a ⊢;cases y:m C with
          | ex c L=>rw[y] at a;cases a
          | bad=>rw[y] at a;cases a
          | ok M L=>
           rw[y] at a;simp only at a ⊢;split at a
           ·rename_i h;exact⟨h,a⟩
           ·cases a
      ·simp only[List.drop_length] at h;have e:r=p/\U=A:=by unfold gS at h;cases h;exact⟨rfl,rfl⟩
       obtain⟨rfl,rfl⟩:=e;exact⟨D,hb',G,o⟩
     ·intro l _;cases l
    ·intro l _;cases l
   ·intro l _;cases l
  ·intro l _;cases l
 ·rename_i l
  revert l
  repeat (first | (split) | (intro l;cases l))
 ·exact o.elim) (cg (k:=pb own.length f k u g t m) q)
theorem Oi{a:Scope}{own b:List Str}{c:List Nat}{k jm:Nat}{h iter d:Expr}{e:List Expr}{s:XM (List PyData)}{g:GM}{t:XM Bool}{m:XM PyData}{n:Nat}(u:GF X.mg F)(S:ag X a own b c)(i:c[k]? = some jm)(v:X.calm=true)(w:own.length=n)(y:FI X F E h iter s)
  (j:∀C l o p r f,GF X.mg f->FG (bP X a (own++b) C l o p r) f h g/\kD (bP X a (own++b) C l o p r) f dJ e t/\FE (bP X a (own++b) C l o p r) f dJ d m)
  (z:∀x,foldedSetIterable iter X.env x=pure x:=by intro _;rfl):FE X F E (.ListComp d [⟨h,iter,e,0⟩] a pos) (kO n c k jm s g t m):=by
 subst w;exact DE.imp' (Oh u S i v y j z) aL fun U Q q=>CN q
theorem Oj{a:Scope}{own capN:List Str}{caps:List Nat}{k jm:Nat}{B iter j:Expr}{l:List Expr}{s:XM (List PyData)}{g:GM}{t:XM Bool}{m:XM PyData}{n i:Nat}{y:Str}{py h:Pos}(Z:X.N.Nodup)(G:X.N[i]? = some y)(hx:gC X.env.scope y)(T:GF X.mg F)(S:ag X a own capN caps)(J:caps[k]? = some jm)(hc:X.calm=true)(hn:own.length=n)(L:FI X F E B iter s)
  (e:∀C o p w z c,GF X.mg c->FG (bP X a (own++capN) C o p w z) c B g/\kD (bP X a (own++capN) C o p w z) c dJ l t/\FE (bP X a (own++capN) C o p w z) c dJ j m)
  (M:swapsWith (.ListComp j [⟨B,iter,l,0⟩] a pos) (some (.Name y py)) h.line X.env=pure true:=by rfl)
  (hs:∀x,foldedSetIterable iter X.env x=pure x:=by intro _;rfl) (hf:X.fn y=true\/X.env.scope.names.lookup y=some .local:=by first | exact .inl rfl | exact .inr rfl | assumption) :
  FS X F E (.Assign [.Name y py] (.ListComp j [⟨B,iter,l,0⟩] a pos) h) (bA (kO n caps k jm s g t m) (aF i)):=by
 subst hn;obtain⟨hg,ht,he⟩:=e 0 [] (PySem.start X.prog).1 (fun _=>none) [] F T;refine(Ak Z G hx S hc L.pi (fun C o p w z=>⟨fun b s Y H v u Q I r ⟨c,A,q⟩=>(e C o p w z c A).1.pg b s Y H v u Q I r q,fun b s Y H Q I ⟨c,A,q⟩=>(e C o p w z c A).2.1.2 b s Y H Q I q,fun b s Y H Q I ⟨c,A,q⟩=>(e C o p w z c A).2.2.pe b s Y H Q I q⟩) M hs hf).imp
  fun D Y H ⟨U,O,DD,st,q,f⟩=>CM (fun _ _ _ _ _ _ _ st hA=>(T.at st).frame hA) J L.mn hg.mn ht.1 he.mn Y H _ ⟨U,O,st,CL L.mn _ _ _ (fun d U1 q1 v H1 O1 R s1 d1=>f.nx _ H1 _ O1 (R.set d1) s1 q1) (CN (Q:=fun d U'=>ez (aF i) d U' DD.nx) (wA q))⟩
end
noncomputable def iJ(C:Addr)(i:Nat)(f:Str)(j l:Nat)(U:ao):Option (List (PyData×PyData)×PyData):=match bJ C U i,dh U j,dh U l with
 | some (_,fs),some y,some z=>(match fs.lookup f with
  | some (.m true a)=>some (a,.tuple [y,z])
  | _=>none)
 | _,_,_=>none
noncomputable def kP(C:Addr)(i:Nat)(f:Str)(j l:Nat):XM PyData:=fun U=>match iJ C i f j l U with
 | some (a,d)=>lift ((jj true d).map fun k=>PyData.bool (gw true a k).isSome) U
 | none=>.bad
noncomputable def kQ(C:Addr)(i:Nat)(f:Str)(j l:Nat):XM PyData:=fun U=>match iJ C i f j l U with
 | some (a,d)=>lift ((jj true d).bind fun k=>gw true a k) U
 | none=>.bad
section
variable{X:Cx}{F:Fx}{E:Str->ao->Prop}{pos p1 p2 p3 p4 fpos:Pos}{x y z f:Str}{C:Addr}{i j l kx:Nat}
theorem CO{U:ao}{a:List (PyData×PyData)}{d:PyData}(h:iJ C i f j l U=some (a,d)):∃io fs b c,bJ C U i=some (io,fs)/\fs.lookup f=some (.m true a)/\dh U j=some b/\dh U l=some c/\d=.tuple [b,c]:=by
 unfold iJ at h;split at h
 ·rename_i io fs b c h1 h2 h3;split at h
  ·rename_i g e;cases h;exact⟨_,_,_,_,h1,e,h2,h3,rfl⟩
  ·cases h
 ·cases h
theorem Ol(S:X.A.units+1<cLine)(cl:cO X.K C)(T:cx X.K C f)(Z:PE X (.Name x p1) (bS i))(hy:PE X (.Name y p2) (bS j))(hz:PE X (.Name z p3) (bS l))(hb:attributeBase (.Name x p1) f X.env (eval (.Name x p1) X.env)=eval (.Name x p1) X.env:=by rfl)
  (h1:starEach [.Name y p2,.Name z p3] X.env=(false,eval (.Name y p2) X.env)::starEach [.Name z p3] X.env:=by rfl) (h2:starEach [.Name z p3] X.env=(false,eval (.Name z p3) X.env)::starEach [] X.env:=by rfl)
  (hs:vE (.Tuple [.Name y p2,.Name z p3] kx p4):=by intro _ _;rfl) :
  FE X F E (.Subscript (.Attribute (.Name x p1) f fpos) (.Tuple [.Name y p2,.Name z p3] kx p4) pos) (kQ C i f j l):=
 ⟨aL,(IT S (ib Z hb) (qH (df hy (df hz ed h2) h1)) hs).imp fun Y H Q ⟨U,O,st,q⟩=>by
  unfold wp kQ at q;cases a:iJ C i f j l U with
  | none=>rw[a] at q;exact q.elim
  | some p=>
   obtain⟨s,d⟩:=p;rw[a] at q;obtain⟨io,fs,y0,z0,ho,b,hj,hl,rfl⟩:=CO a;obtain⟨dd,e1,q2⟩:=dm (o:=(jj true (.tuple [y0,z0])).bind fun k=>gw true s k) (U:=U) (E:=E) q;obtain⟨k,hk,n⟩:=Option.bind_eq_some_iff.mp e1;obtain⟨a0,dx,gs,J,c,L,l1,_,_⟩:=st.fldUp ho b rfl;obtain⟨N,t,u⟩:=st.dat (kb hj);obtain⟨R,w,B⟩:=st.dat (kb hl);refine⟨_,c,a0,C,dx,gs,.ref J,rfl,L,cl,T,l1,N,t,R,w,show 2<=sizeLine by decide,fun p D=>?_⟩;have G:bW H (aQ H p (.tup [N,R])):=bX D;have h:=st.grow G;obtain⟨a1,a2,a3,b1,m,M,l2,⟨b2,eb,_,I⟩,_⟩:=h.fldUp ho b rfl;rw[c] at m;cases m;rw[G _ _ L] at M;cases M;rw[l1] at l2;cases l2;cases eb;obtain⟨o,g,r⟩:=BU I mL (kr D (st.nofree p D) (.cons u (.cons B .nil))) hk;rcases r with⟨rfl,e⟩ | ⟨v,x,rfl,e,hx⟩
   ·rw[e] at n;cases n
   ·rw[e] at n;cases n;exact⟨J,v,rfl,g,q2 v _ O h (aM.same G) hx⟩⟩
theorem Om(T:X.A.units+1<cLine)(cl:cO X.K C)(Z:cx X.K C f)(hv:PE X (.Name x p1) (bS i))(hy:PE X (.Name y p2) (bS j))(hz:PE X (.Name z p3) (bS l))(hb:attributeBase (.Name x p1) f X.env (eval (.Name x p1) X.env)=eval (.Name x p1) X.env:=by rfl)
  (h1:starEach [.Name y p2,.Name z p3] X.env=(false,eval (.Name y p2) X.env)::starEach [.Name z p3] X.env:=by rfl) (h2:starEach [.Name z p3] X.env=(false,eval (.Name z p3) X.env)::starEach [] X.env:=by rfl)
  (hm:behindInMarks .In (.Attribute (.Name x p1) f fpos)=false:=by rfl) :
  FB X F E (.Compare (.Tuple [.Name y p2,.Name z p3] kx p4) [.In] [.Attribute (.Name x p1) f fpos] pos) (aZ (kP C i f j l)):=
 ⟨aL,(FR (IU T (qH (df hy (df hz ed h2) h1)) (ib hv hb)) hm).imp fun Y H Q ⟨U,O,st,q⟩=>by
  have h:=wj q;unfold fT wp kP at h;cases a:iJ C i f j l U with
  | none=>rw[a] at h;exact h.elim
  | some p=>
   obtain⟨n,d⟩:=p;rw[a] at h;obtain⟨io,fs,y0,z0,ho,s,hj,hl,rfl⟩:=CO a;obtain⟨dd,e1,q2⟩:=dm (o:=(jj true (.tuple [y0,z0])).map fun k=>PyData.bool (gw true n k).isSome) (U:=U) (E:=E) h;obtain⟨k,hk,e3⟩:=Option.map_eq_some_iff.mp e1;subst e3;obtain⟨R,t,u⟩:=st.dat (kb hj);obtain⟨S,w,B⟩:=st.dat (kb hl);refine⟨R,t,S,w,show 2<=sizeLine by decide,fun p D=>?_⟩;have G:bW H (aQ H p (.tup [R,S])):=bX D;have c:=st.grow G;obtain⟨a1,I,J,N,L,e4,l2,⟨b2,eb,_,M⟩,_⟩:=c.fldUp ho s rfl;cases eb;obtain⟨o,g,r⟩:=BU M mL (kr D (st.nofree p D) (.cons u (.cons B .nil))) hk;obtain⟨b,hb',m⟩:=q2;cases hb';refine⟨_,L,a1,C,I,J,.ref N,rfl,e4,cl,Z,l2,N,o,rfl,g,o.isSome,rfl,?_⟩;rcases r with⟨rfl,e⟩ | ⟨v,x,rfl,e,hx⟩
   ·rw[e] at m;exact m _ O c (aM.same G)
   ·rw[e] at m;exact m _ O c (aM.same G)⟩
end
def DF(K:Frag)(x:Str)(st:Stmt):Prop:=∃(f:Addr) (b:Value) (c d:Option Addr) (g:Array (Option Value)) (kV e pm a h:Value),nsIn K mainGlobals x=some (some (.ref f))/\
 K.lookup f=some ⟨b,c,.func (fnOf x x (jG st) (iB st) (bf st) .none kV e pm d a h),g⟩/\codeIn K a x=true/\keepIn K (.ref f)=true
def MF(K:Frag)(C:Addr)(m q:Str)(st:Stmt):Prop:=∃(f:Addr) (b:Value) (c d:Option Addr) (g:Array (Option Value)) (kV e pm a h:Value),findIn K (.ref C) m=some (some (.ref f))/\PySem.W.isFn K (.ref f)=true/\
 K.lookup f=some ⟨b,c,.func (fnOf m q (jG st) (iB st) (bf st) .none kV e pm d a h),g⟩/\codeIn K a q=true/\keepIn K (.ref f)=true
theorem dt{P:List Value->Prop}(h:∀a,P [a]):∀b:List Value,b.length=1->P b
 | [a],_=>h a
theorem gy{P:List Value->Prop}(h:∀a b,P [a,b]):∀c:List Value,c.length=2->P c
 | [a,b],_=>h a b
theorem fm{P:List Value->Prop}(h:∀a b c,P [a,b,c]):∀d:List Value,d.length=3->P d
 | [a,b,c],_=>h a b c
theorem xj{P:List Value->Prop}(h:∀a b c d,P [a,b,c,d]):∀e:List Value,e.length=4->P e
 | [a,b,c,d],_=>h a b c d
section
variable{K:Frag}{h:Heap}{mg:Str->Option Value}{x m q:Str}{st:Stmt}{C:Addr}{ps:List Str}
abbrev Bd(x q:Str)(st:Stmt)(ps:List Str):Prop:=∀(kV a pm:Value) (d:Option Addr) (b e:Value) (c:List Value),c.length=ps.length->bindArgs (fnOf x q (jG st) (iB st) (bf st) .none kV a pm d b e) ⟨c,[]⟩=pure (ps.zip c)
theorem DF.fd(D:DF K x st)(X:K.In h)(G:h.Ns mainGlobals mg)(b:Bd x x st ps):∃g fd,FD K mg x st ps g fd:=by obtain⟨f,_,_,_,_,_,_,_,_,_,a,l,c,k⟩:=D;exact⟨f,_,ou l c k,mg_of X G a,(ou l c k).binds b⟩
theorem MF.md(D:MF K C m q st)(b:Bd m q st ps):∃g fd,MD K C m q st ps g fd:=by obtain⟨f,_,_,_,_,_,_,_,_,_,a,i,l,c,k⟩:=D;exact⟨f,_,ou l c k,⟨a,i,k⟩,(ou l c k).binds b⟩
end
end L2.L3
namespace Due
noncomputable abbrev Sh:=List (Int×Int)
noncomputable def gz(a:Int):Sh->Int->Int
 | [],_=>a
 | (b,c)::r,m=>gz (if b<=m then c else a) r m
noncomputable def dS(a:Int)(b:Sh)(m:Int):Int:=m+gz a b m
noncomputable def fG:Int->Sh->Prop
 | _,[]=>True
 | lo,(b,_)::r=>lo<b/\fG b r
theorem xk{a m:Int}:∀{d:Sh}{lo:Int},fG lo d->m<=lo->gz a d m=a
 | [],_,_,_=>rfl
 | (b,c)::r,lo,⟨h1,h2⟩,e=>by unfold gz;rw[if_neg (by omega)];exact xk h2 (by omega)
noncomputable def gA(g:Int):Int->Int->Sh->Int
 | s,a,[]=>max s (g - a)
 | s,a,(b,c)::r=>if max s (g - a)<b then max s (g - a) else gA g b c r
theorem nz{g:Int}:∀{f:Sh}{s a:Int},fG s f->s<=gA g s a f/\g<=dS a f (gA g s a f)/\∀m,s<=m->m<gA g s a f->dS a f m<g
 | [],s,a,_=>by unfold gA dS gz;refine⟨by omega,by omega,fun m k j=>?_⟩;omega
 | (b,c)::r,s,a,⟨k,j⟩=>by
  unfold gA;have d:∀m,m<b->dS a ((b,c)::r) m=m+a:=fun m i=>by unfold dS gz;rw[if_neg (by omega),xk j (by omega)]
  have h:∀m,b<=m->dS a ((b,c)::r) m=dS c r m:=fun m i=>by unfold dS;rw[gz,if_pos i]
  by_cases e:max s (g - a)<b
  ·rw[if_pos e];refine⟨by omega,?_,fun m k j=>?_⟩
   ·rw[d _ e];omega
   ·rw[d _ (by omega)];omega
  ·rw[if_neg e];obtain⟨l,n,o⟩:=nz (g:=g) (a:=c) j;refine⟨by omega,?_,fun m q p=>?_⟩
   ·rw[h _ l];exact n
   ·by_cases i:m<b
    ·rw[d _ i];omega
    ·rw[h _ (by omega)];exact o m (by omega) p
theorem Oo{g b:Int}(h:g<=b){d:Sh}{s a:Int}(e:fG s d):gA g s a d<=gA b s a d:=by obtain⟨j,k,f⟩:=nz (g:=g) (a:=a) e;obtain⟨i,l,m⟩:=nz (g:=b) (a:=a) e;refine Int.not_lt.mp fun c=>?_;have:=f _ i c;omega
def rY(a:Int)(b:Sh):Prop:=(-12<=a/\a<=14)/\∀p∈b,-12<=p.2/\p.2<=14
theorem xl{m:Int}:∀{d:Sh}{a:Int},rY a d->-12<=gz a d m/\gz a d m<=14
 | [],a,h=>h.1
 | (b,c)::r,a,h=>by
  unfold gz;refine xl ⟨?_,fun p e=>h.2 p (bL _ e)⟩;split
  ·exact h.2 (b,c) List.mem_cons_self
  ·exact h.1
noncomputable def bj(s a:Int):Sh->List (Int×Option Int×Int)
 | []=>[(s,none,a)]
 | (b,c)::r=>(s,some b,a)::bj b c r
noncomputable def fH(m:Int):Option Int->Bool
 | none=>true
 | some e=>decide (m<e)
noncomputable def nA(g:Int)(l:List (Int×Option Int×Int)):List Int:=(l.filter fun p=>fH (max p.1 (g - p.2.2)) p.2.1).map fun p=>max p.1 (g - p.2.2)
theorem CP(g:Int):∀(d:Sh) (s a:Int),∃t,nA g (bj s a d)=gA g s a d::t
 | [],s,a=>⟨[],rfl⟩
 | (b,c)::r,s,a=>by
  obtain⟨t,e⟩:=CP g r b c;unfold bj gA nA;rw[List.filter_cons]
  by_cases h:max s (g - a)<b
  ·rw[if_pos (by show decide (max s (g - a)<b)=true;exact decide_eq_true h),if_pos h];exact⟨_,rfl⟩
  ·rw[if_neg (by show ¬ decide (max s (g - a)<b)=true;simpa using h),if_neg h];exact⟨t,e⟩
noncomputable def gT(a:Int)(b:Sh)(h:Int):Int:=-((h - dS a b 0) / 24)
theorem CQ{a h:Int}{ss:Sh}:dS a ss 0<=24 * gT a ss h+h/\24 * gT a ss h+h<dS a ss 0+24:=by unfold gT;omega
noncomputable def gU(a:Int)(b:Sh)(h:Int)(c:Nat):Int:=gA ((gT a b h+c) * 24+h) 0 a b
inductive cw where
 | once (m:Int) | every (f s:Int) | daily (h:Int)
noncomputable def cp(a:Int)(b:Sh):cw->Nat->Option Int
 | .once m,c=>if c=0 then some m else none
 | .every f s,c=>some (f+c * s)
 | .daily h,c=>some (gU a b h c)
theorem Op{a h:Int}{b:Sh}{c:Nat}(d:fG 0 b):0<=gU a b h c:=(nz d).1
theorem Oq{a h:Int}{b:Sh}{c d:Nat}(e:fG 0 b)(f:c<=d):gU a b h c<=gU a b h d:=Oo (by omega) e
theorem Ot{a h:Int}{b:Sh}{c:Nat}(e:fG 0 b)(d:rY a b):24 * (c:Int) - 26<=gU a b h c:=by obtain⟨f,i,_⟩:=nz (g:=(gT a b h+c) * 24+h) (a:=a) e;have:=CQ (a:=a) (h:=h) (ss:=b);have j:=xl (m:=0) d;have k:=xl (m:=gA ((gT a b h+c) * 24+h) 0 a b) d;unfold dS at *;unfold gU;omega
structure iK (a:Int) (ss:Sh):Prop where
 len:ss.length<=6
 rise:fG 0 ss
 ah:rY a ss
 top:∀p∈ss,p.1<=9999
noncomputable def fJ:cw->Prop
 | .once m=>0<=m/\m<=9999
 | .every f s=>(0<=f/\f<=9999)/\1<=s/\s<=999
 | .daily h=>0<=h/\h<=23
noncomputable def CS(a:Int)(b:Sh)(p:cw)(c:Nat):Int:=(cp a b p c).getD 0
structure gV (a:Int) (ss:Sh) (p:cw) (last:Int) (n:Nat):Prop where
 le:n<=20000
 in_:∀c,c<n->∃v,cp a ss p c=some v/\v<=last
 out:cp a ss p n=none\/∃v,cp a ss p n=some v/\last<v
noncomputable def xm(a b c:Int):Nat:=(if a<b then(b - a - 1) / c+1 else 0).toNat
theorem iM{P:Nat->Prop}:∀N,P N->∃n,n<=N/\P n/\∀m,m<n->¬ P m
 | 0,h=>⟨0,bI _,h,fun m a=>absurd a (Nat.not_lt_zero m)⟩
 | N+1,h=>by
  by_cases e:∃m,m<=N/\P m
  ·obtain⟨m,a,pm⟩:=e;obtain⟨n,h1,h2,h3⟩:=iM m pm;exact⟨n,by omega,h2,h3⟩
  ·exact⟨N+1,bI _,h,fun m a pm=>e ⟨m,by omega,pm⟩⟩
theorem Ou{a h last:Int}{b:Sh}(z:iK a b)(e:last<=9999):∃n,gV a b (.daily h) last n:=by
 obtain⟨n,h1,h2,h3⟩:=iM (P:=fun c=>last<gU a b h c) 1000 (by
  have:=Ot (h:=h) (c:=1000) z.rise z.ah;show last<gU a b h 1000;omega)
 refine⟨n,by omega,fun c d=>⟨_,rfl,?_⟩,.inr ⟨_,rfl,h2⟩⟩;have:=h3 c d;omega
theorem Ov{a:Int}{i:Sh}{p:cw}(z:iK a i)(ok:fJ p){c d:Nat}{v w:Int}(h:c<=d)(b:cp a i p c=some v)(g:cp a i p d=some w):v<=w:=by
 cases p with
 | once m=>
  rw[cp] at b g
  by_cases e:c=0
  ·by_cases j:d=0
   ·rw[if_pos e] at b;rw[if_pos j] at g;cases b;cases g;exact Int.le_refl _
   ·rw[if_neg j] at g;cases g
  ·rw[if_neg e] at b;cases b
 | every f s=>rw[cp] at b g;cases b;cases g;have:=Int.mul_le_mul_of_nonneg_right (show(c:Int)<=d by omega) (show(0:Int)<=s by have:=ok.2.1;omega);omega
 | daily k=>rw[cp] at b g;cases b;cases g;exact Oq z.rise h
theorem Ow{a:Int}{d:Sh}{p:cw}(z:iK a d)(ok:fJ p){c:Nat}{v:Int}(b:cp a d p c=some v):0<=v:=by
 cases p with
 | once m=>
  rw[cp] at b
  by_cases e:c=0
  ·rw[if_pos e] at b;cases b;exact ok.1
  ·rw[if_neg e] at b;cases b
 | every f s=>rw[cp] at b;cases b;have:=Int.mul_nonneg (show(0:Int)<=c by omega) (show(0:Int)<=s by have:=ok.2.1;omega);have:=ok.1.1;omega
 | daily g=>rw[cp] at b;cases b;exact Op z.rise
theorem Ox{a last:Int}{d:Sh}{p:cw}(z:iK a d)(ok:fJ p)(g:last<=9999):∃n,gV a d p last n:=by
 cases p with
 | once m=>
  by_cases e:m<=last
  ·refine⟨1,by omega,fun c b=>⟨m,by rw[cp,if_pos (by omega)],e⟩,.inl (by rw[cp,if_neg (by omega)])⟩
  ·exact⟨0,by omega,fun c b=>absurd b (Nat.not_lt_zero c),.inr ⟨m,by rw[cp,if_pos rfl],by omega⟩⟩
 | every f s=>
  obtain⟨n,h1,h2,h3⟩:=iM (P:=fun(c:Nat)=>last<f+c * s) 10000 (by
   have:=ok.1.1;have:=Int.mul_le_mul_of_nonneg_left (show(1:Int)<=s from ok.2.1) (show(0:Int)<=((10000:Nat):Int) by omega);show last<f+((10000:Nat):Int) * s;omega)
  exact⟨n,by omega,fun c b=>⟨_,rfl,Int.not_lt.mp (h3 c b)⟩,.inr ⟨_,rfl,h2⟩⟩
 | daily h=>exact Ou z g
theorem Oy{a last:Int}{d:Sh}{p:cw}{n:Nat}(z:iK a d)(ok:fJ p)(u:gV a d p last n){c:Nat}{v:Int}(h:n<=c)(b:cp a d p c=some v):last<v:=by
 rcases u.out with e | ⟨w,e,i⟩
 ·cases p with
  | once m=>
   rw[cp] at e b
   by_cases g:n=0
   ·rw[if_pos g] at e;cases e
   ·rw[if_neg (by omega)] at b;cases b
  | every f s=>cases e
  | daily j=>cases e
 ·have:=Ov z ok h e b;omega
theorem Oz{a b s last:Int}{g:Sh}{n:Nat}(u:gV a g (.every b s) last n):(∀c:Nat,c<n->b+c * s<=last)/\last<b+n * s:=by
 refine⟨fun c d=>?_,?_⟩
 ·obtain⟨v,f,h⟩:=u.in_ c d;cases f;exact h
 ·rcases u.out with e | ⟨v,e,h⟩
  ·cases e
  ·cases e;exact h
theorem OA{a b s last:Int}{i:Sh}{n:Nat}(c:0<s)(u:gV a i (.every b s) last n):n=xm b (last+1) s:=by
 obtain⟨d,h2⟩:=Oz u;unfold xm
 by_cases h:b<last+1
 ·rw[if_pos h];have j:0<n:=by refine Nat.pos_of_ne_zero fun e=>?_;subst e;simp at h2;omega
  have h3:=d (n - 1) (by omega);have f:((n - 1:Nat):Int)=(n:Int) - 1:=by omega
  rw[f] at h3;have e:(last+1 - b - 1) / s=(n:Int) - 1:=by
   refine Int.le_antisymm ?_ ?_
   ·have:(last+1 - b - 1) / s<n:=Int.ediv_lt_of_lt_mul c (by omega);omega
   ·exact Int.le_ediv_of_mul_le c (by omega)
  rw[e];omega
 ·rw[if_neg h];have:n=0:=by refine Nat.eq_zero_of_not_pos fun g=>?_;have:=d 0 g;simp at this;omega
  rw[this];rfl
noncomputable def iN(m:Int)(l:List (Int×Option Int×Int)):List Int:=(l.filter fun p=>decide (p.1<=m)).map fun p=>(if fH m p.2.1=true then m else p.2.1.getD 0 - 1)+p.2.2
theorem CT{m:Int}:∀(j:Sh) (s a:Int),fG s j->(∀x,x∈iN m (bj s a j)->∃t,s<=t/\t<=m/\dS a j t=x)/\(∀t,s<=t->t<=m->∃x,x∈iN m (bj s a j)/\dS a j t<=x)
 | [],s,a,_=>by
  unfold bj iN
  by_cases h:s<=m
  ·rw[List.filter_cons,if_pos (decide_eq_true h),List.filter_nil,List.map_cons,List.map_nil];simp only[fH,if_true,List.mem_singleton];refine⟨fun x d=>⟨m,h,Int.le_refl _,by subst d;rfl⟩,fun t u l=>⟨_,rfl,by show t+a<=m+a;omega⟩⟩
  ·rw[List.filter_cons,if_neg (by simpa using h),List.filter_nil,List.map_nil];exact⟨fun x d=>(by cases d),fun t u l=>(by omega)⟩
 | (b,c)::r,s,a,⟨u,l⟩=>by
  obtain⟨n,o⟩:=CT (m:=m) r b c l;have g:∀t,t<b->dS a ((b,c)::r) t=t+a:=fun t k=>by unfold dS gz;rw[if_neg (by omega),xk l (by omega)]
  have i:∀t,b<=t->dS a ((b,c)::r) t=dS c r t:=fun t k=>by unfold dS;rw[gz,if_pos k]
  have e:iN m (bj s a ((b,c)::r))=(if s<=m then[(if m<b then m else b - 1)+a] else[])++iN m (bj b c r):=by
   rw[show bj s a ((b,c)::r)=(s,some b,a)::bj b c r from rfl];unfold iN;rw[List.filter_cons]
   by_cases h:s<=m
   ·rw[if_pos (decide_eq_true h),if_pos h,List.map_cons];show((if decide (m<b)=true then m else b - 1)+a)::_=[(if m<b then m else b - 1)+a]++_
    by_cases f:m<b
    ·rw[if_pos (decide_eq_true f),if_pos f];rfl
    ·rw[if_neg (by simpa using f),if_neg f];rfl
   ·rw[if_neg (by simpa using h),if_neg h];rfl
  rw[e];constructor
  ·intro x d;rcases List.mem_append.mp d with d | d
   ·by_cases h:s<=m
    ·rw[if_pos h,List.mem_singleton] at d
     by_cases f:m<b
     ·rw[if_pos f] at d;exact⟨m,h,Int.le_refl _,by rw[g m f,d]⟩
     ·rw[if_neg f] at d;exact⟨b - 1,by omega,by omega,by rw[g _ (by omega),d]⟩
    ·rw[if_neg h] at d;cases d
   ·obtain⟨t,q,p,v⟩:=n x d;exact⟨t,by omega,p,by rw[i _ q];exact v⟩
  ·intro t q p
   by_cases k:t<b
   ·refine⟨(if m<b then m else b - 1)+a,List.mem_append.mpr (.inl ?_),?_⟩
    ·rw[if_pos (by omega)];exact List.mem_singleton.mpr rfl
    ·rw[g t k]
     by_cases f:m<b
     ·rw[if_pos f];omega
     ·rw[if_neg f];omega
   ·obtain⟨x,w,y⟩:=o t (by omega) p;exact⟨x,List.mem_append.mpr (.inr w),by rw[i t (by omega)];exact y⟩
end Due
namespace K3
open PySem PySem.Spec L2 L2.L3 PyProof.Rows
noncomputable abbrev eB:List Str:=["NoZone","NoPlan","NoMoment","NoCount","NoDeeds","NoDeed","NoRunner","NoTerm","NotHolder","Nothing","NoCall"]
noncomputable def pc:SM:=(br (ff (jf "int" (xV 0)) (ff (Bw (jf "bool" (xV 0))) (wt (fun i j=>decide (i<=j)) (fun i j=>decide (i<=j)) (xV 1) (xV 0) (xV 2)))))
noncomputable def fK:FM:=bi 3 3 pc
noncomputable def rZ:SM:=(br (ff (jf "tuple" (xV 0)) (af (aS false) (cR ej (aq (xV 0) aP)) (xV 1))))
noncomputable def kR:FM:=bi 2 2 rZ
noncomputable def se:SM:=(bF (aZ (af lW (af aD (xV 3) (xC (.int 0))) (xV 1))) (bA (af aD (xV 3) (xC (.int 1))) (aF 2)) bG)
noncomputable def xn:SM:=(aA (bA (af aD (xV 0) (xC (.int 0))) (aF 2))
  (aA (ik (jU (af aD (xV 0) (xC (.int 1)))) (aF 3) se)
  (br (af dL (xV 1) (xV 2)))))
noncomputable def sf:FM:=bi 2 4 xn
noncomputable def xo:XM PyData:=(af aD (xV 0) (xC (.int 0)))
noncomputable def xp:XM PyData:=(af aD (xV 0) (xC (.int 1)))
noncomputable def xq:SM:=(aA (bA (af mS (fF (aq (xC (.int 0)) aP)) (jg 1 [] (jU (af aD (xV 0) (xC (.int 1)))) (aF 0) cZ xo)) (aF 1))
  (aA (bA (af mS (xU (BV 1) (xV 1)) (fF (aq (xC .none) aP))) (aF 2))
  (aA (bA (af mS (fF (aq (af aD (xV 0) (xC (.int 0))) aP)) (jg 1 [] (jU (af aD (xV 0) (xC (.int 1)))) (aF 0) cZ xp)) (aF 3))
  (br (cR wK (aq (xV 1) (aq (xV 2) (aq (xV 3) aP))))))))
noncomputable def pd:FM:=bi 1 4 xq
noncomputable def xu:SM:=(br (wq (af jO (xV 1) (xC .none)) (af jZ (xV 0) (xV 1))))
noncomputable def ph:FM:=bi 2 2 xu
noncomputable def pk:SM:=(aA (bF (aZ (af jZ (xV 1) (ro 0))) (br (rp 0 (xV 1))) bG)
  (aA (bF (wy 0) (br (xC (.int 0))) bG)
  (br (af dL (af kH (rp 0 (af nh (xV 1) (ro 0))) (xC (.int 31))) (xV 1)))))
noncomputable def nB:FM:=bi 2 2 pk
noncomputable def CU:SM:=(aA (gu 1 (kE (aq (gQ 0 eB "NoZone") (aq (gQ 0 eB "NoPlan") (aq (gQ 0 eB "NoMoment") (aq (gQ 0 eB "NoCount") aP))))))
  (aA (rH 1 (fF (aq (gQ 0 eB "NoDeeds") (aq (gQ 0 eB "NoDeed") (aq (gQ 0 eB "NoRunner") (aq (gQ 0 eB "NoTerm") aP))))))
  (aA (rH 1 (fF (aq (gQ 0 eB "NotHolder") (aq (gQ 0 eB "Nothing") (aq (gQ 0 eB "NoCall") aP)))))
  (aA (bF (jP (aZ (af (aS true) (rG rE 1 (xC (.bool true))) (xC (.int 1)))) (eM (aZ (wT 0 eB)))) (br (cY (aq (xC (.str "refused")) (aq (wo (xC (.int 1))) aP)))) bG)
  (br (cY (aq (xC (.str "refused")) (aq (rG rF 1 (xC (.bool true))) aP))))))))
noncomputable def ml:FM:=bi 1 2 CU
noncomputable def xv(C:Addr):SM:=(br (ff (af gM (bO C 0 "holder") (xC .none)) (af jZ (xV 1) (bO C 0 "until"))))
noncomputable def pp(C:Addr):FM:=bi 2 2 (xv C)
noncomputable def nC(C:Addr):SM:=(aA (bA (af aD (xV 1) (xC (.int 2))) (aF 2))
  (aA (bA (af aD (xV 1) (xC (.int 3))) (aF 3))
  (aA (bA (af aD (xV 1) (xC (.int 4))) (aF 4))
  (aA (lZ C 0 "rows" 1)
  (aA (nq C 0 "words" 3 4 (xV 2))
  (aA (bF (aZ (af (aS false) (xV 2) (xC (.str "begun")))) (cu C 0 "begun" (cY (aq (xV 3) (aq (xV 4) (aq (bO C 0 "holds") aP))))) (aA (cu C 0 "begun" (xC .none))
  (nr C 0 "settled" 3 (af dL (xV 4) (xC (.int 1))))))
  (br (cY (aq (xV 2) (aq (xV 3) (aq (xV 4) aP)))))))))))
noncomputable def gb(C:Addr):FM:=bi 2 5 (nC C)
noncomputable def sg(C:Addr):SM:=(br (ff (af gM (bO C 0 "begun") (xC .none)) (af (aS false) (af aD (bO C 0 "begun") (xC (.int 2))) (bO C 0 "holds"))))
noncomputable def nE(C:Addr):FM:=bi 1 1 (sg C)
noncomputable def xw(C:Addr):SM:=(br (cY (aq (bO C 0 "holder") (aq (bO C 0 "until") (aq (bO C 0 "holds") aP)))))
noncomputable def ip(C:Addr):FM:=bi 1 1 (xw C)
noncomputable def xx(C:Addr):SM:=(br (rO C 0 "rows"))
noncomputable def sh(C:Addr):FM:=bi 1 1 (xx C)
noncomputable def xy(C:Addr):SM:=(br (cY (aq (bO C 0 "zone") (aq (bO C 0 "deeds") (aq (bO C 0 "last") (aq (bO C 0 "holder") (aq (bO C 0 "until") (aq (bO C 0 "holds") (aq (bO C 0 "begun") (aq (rW C 0 "rows") aP))))))))))
noncomputable def pq(C:Addr):FM:=bi 1 1 (xy C)
noncomputable def xz:SM:=(eN (aI fK (al (xV 0) (al (xC (.int (-12))) (al (xC (.int (14))) aC)))))
noncomputable def pz:FM:=bi 1 1 xz
noncomputable def xA:SM:=(eN (aI fK (al (xV 0) (al (xC (.int 0)) (al (xC (.int (9999))) aC)))))
noncomputable def nF:FM:=bi 1 1 xA
noncomputable def xB:SM:=(eN (aI fK (al (xV 0) (al (xC (.int 0)) (al (xC (.int (3))) aC)))))
noncomputable def si:FM:=bi 1 1 xB
noncomputable def xD:SM:=(eN (aI fK (al (xV 0) (al (xC (.int 1)) (al (xC (.int (99))) aC)))))
noncomputable def sj:FM:=bi 1 1 xD
noncomputable def sk:SM:=(br (ff (aJ (aI kR (al (xV 0) (al (xV 2) aC)))) (ff (jf "str" (af aD (xV 0) (xC (.int 0)))) (af (aS false) (af aD (xV 0) (xC (.int 0))) (xV 1)))))
noncomputable def kS:FM:=bi 3 3 sk
noncomputable def xE:SM:=(bF (eM (aZ (aJ (aI fK (al (xV 0) (al (xC (.int 0)) (al (xC (.int (9999))) aC))))))) (il "NoCount") bG)
noncomputable def so:FM:=bi 1 1 xE
noncomputable def xF:XM Bool:=(aZ (aJ (aI ph (al (cR oK (aq (xV 0) (aq (af eX (xV 3) (xV 2)) aP))) (al (xV 1) aC)))))
noncomputable def xG:XM PyData:=(cR oK (aq (xV 0) (aq (af eX (xV 3) (xV 2)) aP)))
noncomputable def xH:SM:=(aA (bA (jg 3 [1] (wD (aJ (aI pd (al (xV 0) aC)))) (fX 3 (cH (aF 0) (cH (aF 1) (cH (aF 2) fW)))) xF xG) (aF 2))
  (br (af aD (xV 2) (xC (.int 0)))))
noncomputable def sr:FM:=bi 2 3 xH
noncomputable def xI:XM Bool:=(aZ (af lW (xV 0) (xV 3)))
noncomputable def pA:XM PyData:=(af dL (lP (aZ (aJ (aI ph (al (xV 3) (al (xV 1) aC))))) (xV 3) (af eX (xV 1) (xC (.int 1)))) (xV 2))
noncomputable def xJ:SM:=(br (cR mV (aq (jg 3 [1] (wD (aJ (aI pd (al (xV 0) aC)))) (fX 3 (cH (aF 0) (cH (aF 1) (cH (aF 2) fW)))) xI pA) aP)))
noncomputable def su:FM:=bi 2 2 xJ
noncomputable def xK:SM:=(br (wo (af rJ (af eX (xV 1) (aJ (aI sf (al (xV 0) (al (xC (.int 0)) aC))))) (xC (.int (24))))))
noncomputable def pB:FM:=bi 2 2 xK
noncomputable def xL:SM:=(aA (bA (af nh (af kH (af dL (af dL (aJ (aI nB (aN 0 (al (xV 1) aC)))) (af kH (xC (.int 7919)) (xV 1))) (xC (.int 1))) (xC (.int 48271))) (xC (.int 2147483647))) (aF 3))
  (br (af nh (af nh (af dL (af dL (af kH (xV 3) (xV 3)) (af kH (xC (.int 7)) (xV 3))) (xV 1)) (xC (.int 2147483629))) (xV 2))))
noncomputable def sv:FM:=bi 3 4 xL
noncomputable def sx(C:Addr):SM:=(aA (bA (af aD (bO C 0 "begun") (xC (.int 0))) (aF 3))
  (aA (bA (lP (aZ (af aD (af aD (bO C 0 "deeds") (xV 3)) (xC (.int (2))))) (xC (.str "begun")) (xC (.str "unsure"))) (aF 4))
  (eN (bR C 0 "add_row" (gb C) (al (cY (aq (xV 2) (aq (xV 1) (aq (xV 4) (aq (xV 3) (aq (af aD (bO C 0 "begun") (xC (.int 1))) aP)))))) aC)))))
noncomputable def pC(C:Addr):FM:=bi 3 5 (sx C)
noncomputable def pD:SM:=(aA (bF (jP (eM (aZ (aJ (aI kR (al (xV 2) (al (xC (.int 2)) aC)))))) (eM (aZ (aJ (aI pz (al (af aD (xV 2) (xC (.int 1))) aC)))))) (br (xC (.bool false))) bG)
  (aA (bF (eM (aZ (aJ (aI fK (al (af aD (xV 2) (xC (.int 0))) (al (xV 1) (al (xC (.int (9999))) aC))))))) (br (xC (.bool false))) bG)
  (bA (af dL (af aD (xV 2) (xC (.int 0))) (xC (.int 1))) (aF 1))))
noncomputable def xM:SM:=(aA (bF (jP (eM (aZ (jf "tuple" (xV 0)))) (aZ (af kI (cR ej (aq (xV 0) aP)) (xC (.int (6)))))) (br (xC (.bool false))) bG)
  (aA (bA (xC (.int 1)) (aF 1))
  (aA (ik (jU (xV 0)) (aF 2) pD)
  (br (xC (.bool true))))))
noncomputable def sy:FM:=bi 1 3 xM
noncomputable def pE:SM:=(aA (bF (aZ (aJ (aI kS (al (xV 0) (al (xC (.str "once")) (al (xC (.int 2)) aC)))))) (eN (aI nF (al (af aD (xV 0) (xC (.int 1))) aC))) bG)
  (aA (bF (aZ (aJ (aI kS (al (xV 0) (al (xC (.str "every")) (al (xC (.int 3)) aC)))))) (br (ff (aJ (aI nF (al (af aD (xV 0) (xC (.int 1))) aC))) (aJ (aI fK (al (af aD (xV 0) (xC (.int 2))) (al (xC (.int 1)) (al (xC (.int (999))) aC))))))) bG)
  (br (ff (aJ (aI kS (al (xV 0) (al (xC (.str "daily")) (al (xC (.int 2)) aC))))) (aJ (aI fK (al (af aD (xV 0) (xC (.int 1))) (al (xC (.int 0)) (al (xC (.int (23))) aC)))))))))
noncomputable def nG:FM:=bi 1 1 pE
noncomputable def pF:SM:=(aA (bF (aZ (jf "str" (xV 0))) (br (wq (af (aS false) (xV 0) (xC (.str "all"))) (af (aS false) (xV 0) (xC (.str "last"))))) bG)
  (br (ff (aJ (aI kS (al (xV 0) (al (xC (.str "within")) (al (xC (.int 2)) aC))))) (aJ (aI fK (al (af aD (xV 0) (xC (.int 1))) (al (xC (.int 0)) (al (xC (.int (999))) aC))))))))
noncomputable def nH:FM:=bi 1 1 pF
noncomputable def xN:SM:=(bF (eM (aZ (aJ (aI nF (al (xV 0) aC))))) (il "NoMoment") bG)
noncomputable def sA:FM:=bi 1 1 xN
noncomputable def xO:SM:=(bF (eM (aZ (aJ (aI si (al (xV 0) aC))))) (il "NoRunner") bG)
noncomputable def sC:FM:=bi 1 1 xO
noncomputable def xP:SM:=(bF (eM (aZ (aJ (aI sj (al (xV 0) aC))))) (il "NoTerm") bG)
noncomputable def sE:FM:=bi 1 1 xP
noncomputable def xQ:SM:=(aA (bA (af dL (aJ (aI pB (al (xV 0) (al (xV 1) aC)))) (xV 2)) (aF 3))
  (eN (aI sr (al (xV 0) (al (af dL (af kH (xV 3) (xC (.int (24)))) (xV 1)) aC)))))
noncomputable def sF:FM:=bi 3 4 xQ
noncomputable def mm:SM:=(aA (bF (aZ (af jZ (xV 2) (xC (.int 0)))) (br (xC (.int 0))) bG)
  (aA (bF (aZ (af (aS false) (af aD (xV 1) (xC (.int 0))) (xC (.str "once")))) (br (lP (aZ (af lW (af aD (xV 1) (xC (.int 1))) (xV 2))) (xC (.int 1)) (xC (.int 0)))) bG)
  (aA (bF (aZ (af (aS false) (af aD (xV 1) (xC (.int 0))) (xC (.str "every")))) (br (cR oK (aq (xC (.int 0)) (aq (af dL (af rJ (af eX (xV 2) (af aD (xV 1) (xC (.int 1)))) (af aD (xV 1) (xC (.int 2)))) (xC (.int 1))) aP)))) bG)
  (aA (bA (af rJ (af eX (aJ (aI su (al (xV 0) (al (xV 2) aC)))) (af aD (xV 1) (xC (.int 1)))) (xC (.int (24)))) (aF 3))
  (br (af dL (af eX (xV 3) (aJ (aI pB (al (xV 0) (al (af aD (xV 1) (xC (.int 1))) aC))))) (xC (.int 1))))))))
noncomputable def kT:FM:=bi 3 4 mm
noncomputable def xR:SM:=(aA (mY 1 (xC (.int 0)))
  (eN (aI sv (aN 0 (al (wF 1) (al (xV 2) aC))))))
noncomputable def da:FM:=bi 3 3 xR
noncomputable def xS:SM:=(br (ff (aJ (aI kR (al (xV 0) (al (xC (.int 2)) aC)))) (ff (aJ (aI pz (al (af aD (xV 0) (xC (.int 0))) aC))) (aJ (aI sy (al (af aD (xV 0) (xC (.int 1))) aC))))))
noncomputable def sG:FM:=bi 1 1 xS
noncomputable def xT:SM:=(br (ff (aJ (aI kR (al (xV 0) (al (xC (.int 3)) aC)))) (ff (aJ (aI nG (al (af aD (xV 0) (xC (.int 0))) aC))) (ff (aJ (aI nH (al (af aD (xV 0) (xC (.int 1))) aC))) (jf "bool" (af aD (xV 0) (xC (.int 2))))))))
noncomputable def sH:FM:=bi 1 1 xT
noncomputable def nI:SM:=(aA (bF (aZ (af (aS false) (af aD (xV 1) (xC (.int 0))) (xC (.str "once")))) (br (lP (aZ (af (aS false) (xV 2) (xC (.int 0)))) (af aD (xV 1) (xC (.int 1))) (xC .none))) bG)
  (aA (bF (aZ (af (aS false) (af aD (xV 1) (xC (.int 0))) (xC (.str "every")))) (br (af dL (af aD (xV 1) (xC (.int 1))) (af kH (xV 2) (af aD (xV 1) (xC (.int 2)))))) bG)
  (eN (aI sF (al (xV 0) (al (af aD (xV 1) (xC (.int 1))) (al (xV 2) aC)))))))
noncomputable def iq:FM:=bi 3 3 nI
noncomputable def xW:SM:=(br (af aD (xV 2) (aJ (aI da (aN 0 (aN 1 (al (cR ej (aq (xV 2) aP)) aC)))))))
noncomputable def ir:FM:=bi 3 3 xW
noncomputable def sI(C:Addr):SM:=(aA (fY (aI sC (al (xV 1) aC)))
  (aA (fY (aI sA (al (xV 2) aC)))
  (bF (oJ (aZ (af gM (bO C 0 "last") (xC .none))) (aZ (af jZ (xV 2) (bO C 0 "last")))) (il "NoMoment") bG)))
noncomputable def jr(C:Addr):FM:=bi 3 3 (sI C)
noncomputable def sJ(C:Addr):XM PyData:=(xC (.int 0))
noncomputable def nJ(C:Addr):XM PyData:=(af eX (aJ (aI kT (al (jq C 2 "zone") (al (af aD (xV 0) (xC (.int (0)))) (al (jq C 2 "last") aC))))) (xV 1))
noncomputable def pG(C:Addr):SM:=(aA (bF (aZ (af jO (bO C 0 "last") (xC .none))) (br (jg 1 [] (jU (bO C 0 "deeds")) (aF 0) cZ (sJ C))) bG)
  (br (nv 2 [0] (kK C 0 "deeds" "settled") (fX 2 (cH (aF 0) (cH (aF 1) fW))) cZ (nJ C))))
noncomputable def sK(C:Addr):FM:=bi 1 1 (pG C)
noncomputable def sL:XM PyData:=(aJ (aI sH (al (xV 0) aC)))
noncomputable def xX:SM:=(aA (bF (jP (eM (aZ (jf "tuple" (xV 0)))) (aZ (af kI (cR ej (aq (xV 0) aP)) (xC (.int (6)))))) (br (xC (.bool false))) bG)
  (br (cR mU (aq (jg 1 [] (jU (xV 0)) (aF 0) cZ sL) aP))))
noncomputable def xY:FM:=bi 1 1 xX
noncomputable def xZ:SM:=(bF (eM (aZ (aJ (aI sG (al (xV 0) aC))))) (il "NoZone") bG)
noncomputable def pH:FM:=bi 1 1 xZ
noncomputable def nK:SM:=(aA (bF (aZ (af (aS false) (af aD (xV 1) (xC (.int (1)))) (xC (.str "all")))) (br (xC (.bool false))) bG)
  (aA (bF (aZ (af (aS false) (af aD (xV 1) (xC (.int (1)))) (xC (.str "last")))) (aA (bA (aJ (aI iq (al (xV 0) (al (af aD (xV 1) (xC (.int (0)))) (al (af dL (xV 2) (xC (.int 1))) aC))))) (aF 4))
  (br (ff (af gM (xV 4) (xC .none)) (af lW (xV 4) (xV 3))))) bG)
  (br (af kI (af eX (xV 3) (aJ (aI iq (al (xV 0) (al (af aD (xV 1) (xC (.int (0)))) (al (xV 2) aC)))))) (af aD (af aD (xV 1) (xC (.int (1)))) (xC (.int 1)))))))
noncomputable def mq:FM:=bi 4 5 nK
noncomputable def pI:SM:=(aA (bA (af dL (af dL (xV 3) (xC (.int 1))) (aJ (aI da (aN 0 (aN 1 (al (aJ (aI ir (aN 0 (aN 1 (al (fF (aq (xC (.int 4)) (aq (xC (.int 40)) (aq (xC (.int 200)) aP)))) aC))))) aC)))))) (aF 3))
  (mY 2 (cY (aq (xV 3) (aq (af eX (aJ (aI da (aN 0 (aN 1 (al (xC (.int 27)) aC))))) (xC (.int 12))) aP)))))
noncomputable def ya:XM PyData:=(cY (aq (xV 1) (aq (af dL (xC (.int 1)) (af nh (xV 0) (xC (.int 2)))) aP)))
noncomputable def sM:SM:=(aA (gu 2 (kE aP))
  (aA (bA (xC (.int 0)) (aF 3))
  (aA (ik (eA bQ (aq (aJ (aI da (aN 0 (aN 1 (al (xC (.int 7)) aC))))) aP)) (aF 4) pI)
  (aA (bF (aZ (af (aS false) (aJ (aI da (aN 0 (aN 1 (al (xC (.int 2)) aC))))) (xC (.int 0)))) (bA (jg 3 [] (eA lR (aq (xV 2) aP)) (fX 2 (cH (aF 0) (cH (fX 2 (cH (aF 1) (cH (aF 2) fW))) fW))) cZ ya) (aF 2)) bG)
  (br (cY (aq (af eX (aJ (aI da (aN 0 (aN 1 (al (xC (.int 27)) aC))))) (xC (.int 12))) (aq (cR rn (aq (xV 2) aP)) aP))))))))
noncomputable def pJ:FM:=bi 2 5 sM
noncomputable def pK:SM:=(aA (bA (aJ (aI da (aN 0 (aN 1 (al (xC (.int 5)) aC))))) (aF 2))
  (aA (bF (aZ (af (aS false) (xV 2) (xC (.int 0)))) (br (cY (aq (xC (.str "once")) (aq (aJ (aI da (aN 0 (aN 1 (al (aJ (aI ir (aN 0 (aN 1 (al (fF (aq (xC (.int 100)) (aq (xC (.int 100)) (aq (xC (.int 2500)) aP)))) aC))))) aC))))) aP)))) bG)
  (aA (bF (aZ (af jZ (xV 2) (xC (.int 3)))) (aA (bA (af dL (xC (.int 1)) (aJ (aI da (aN 0 (aN 1 (al (aJ (aI ir (aN 0 (aN 1 (al (fF (aq (xC (.int 30)) (aq (xC (.int 30)) (aq (xC (.int 999)) aP)))) aC))))) aC)))))) (aF 3))
  (br (cY (aq (xC (.str "every")) (aq (aJ (aI da (aN 0 (aN 1 (al (xC (.int 50)) aC))))) (aq (xV 3) aP)))))) bG)
  (br (cY (aq (xC (.str "daily")) (aq (aJ (aI da (aN 0 (aN 1 (al (xC (.int 24)) aC))))) aP)))))))
noncomputable def nL:FM:=bi 2 4 pK
noncomputable def CV:SM:=(aA (bA (aJ (aI da (aN 0 (aN 1 (al (xC (.int 4)) aC))))) (aF 4))
  (aA (bF (oJ (aZ (af gM (xV 3) (xC .none))) (aZ (af kI (aJ (aI da (aN 0 (aN 1 (al (xC (.int 4)) aC))))) (xC (.int 0))))) (bA (xV 3) (aF 4)) bG)
  (aA (bA (af dL (xV 2) (aJ (aI ir (aN 0 (aN 1 (al (fF (aq (xC (.int 0)) (aq (xC (.int 0)) (aq (xC (.int 0)) (aq (xC (.int 1)) (aq (xC (.int 2)) (aq (aJ (aI da (aN 0 (aN 1 (al (xC (.int 30)) aC))))) aP))))))) aC)))))) (aF 5))
  (aA (bA (aJ (aI da (aN 0 (aN 1 (al (xC (.int 10)) aC))))) (aF 6))
  (aA (bF (jP (aZ (af jO (xV 3) (xC .none))) (aZ (af jZ (xV 6) (xC (.int 2))))) (br (cY (aq (xC (.str "take")) (aq (xV 4) (aq (xV 5) (aq (af dL (xC (.int 1)) (aJ (aI da (aN 0 (aN 1 (al (aJ (aI ir (aN 0 (aN 1 (al (fF (aq (xC (.int 4)) (aq (xC (.int 99)) aP))) aC))))) aC)))))) aP)))))) bG)
  (aA (bF (aZ (af (aS false) (xV 6) (xC (.int 2)))) (br (cY (aq (xC (.str "give")) (aq (xV 4) (aq (xV 5) aP))))) bG)
  (br (af aD (af rm (fF (aq (cY (aq (xC (.str "step")) (aq (xV 4) (aq (xV 5) aP)))) (aq (cY (aq (xC (.str "finish")) (aq (xV 4) (aq (xV 5) aP)))) aP))) (xC (.int 4))) (af eX (xV 6) (xC (.int 3)))))))))))
noncomputable def kU:FM:=bi 4 7 CV
noncomputable def pL(C:Addr):SM:=(aA (fY (bR C 0 "check_call" (jr C) (al (xV 1) (al (xV 2) aC))))
  (bF (jP (eM (aZ (aJ (bR C 0 "is_held" (pp C) (al (xV 2) aC))))) (aZ (af (aS true) (bO C 0 "holder") (xV 1)))) (il "NotHolder") bG))
noncomputable def eE(C:Addr):FM:=bi 3 3 (pL C)
noncomputable def pM(C:Addr):SM:=(aA (fY (bR C 0 "check_call" (jr C) (al (xV 1) (al (xV 2) aC))))
  (aA (fY (aI sE (al (xV 3) aC)))
  (aA (cu C 0 "last" (xV 2))
  (aA (bF (eM (aZ (aJ (bR C 0 "is_held" (pp C) (al (xV 2) aC))))) (rN C 0 "holds" 1) (bF (aZ (af (aS true) (bO C 0 "holder") (xV 1))) (br (xC (.bool false))) bG))
  (aA (cu C 0 "holder" (xV 1))
  (aA (cu C 0 "until" (af dL (xV 2) (xV 3)))
  (br (xC (.bool true)))))))))
noncomputable def mr(C:Addr):FM:=bi 4 4 (pM C)
noncomputable def kW(C:Addr):SM:=(aA (bA (oY C 0 "settled" 2) (aF 3))
  (aA (bA (aJ (aI iq (al (bO C 0 "zone") (al (af aD (af aD (bO C 0 "deeds") (xV 2)) (xC (.int (0)))) (al (xV 3) aC))))) (aF 4))
  (bF (aZ (af gM (xV 4) (xC .none))) (mY 1 (cY (aq (xV 4) (aq (xV 2) (aq (xV 3) aP))))) bG)))
noncomputable def CW(C:Addr):SM:=(aA (gu 1 (kE aP))
  (aA (ik (eA bQ (aq (cR ej (aq (bO C 0 "deeds") aP)) aP)) (aF 2) (kW C))
  (br (kM 1))))
noncomputable def yb(C:Addr):FM:=bi 1 5 (CW C)
noncomputable def pN(C:Addr):SM:=(aA (bF (eM (aZ (aJ (aI fK (al (xV 1) (al (xC (.int 0)) (al (af eX (cR ej (aq (bO C 0 "deeds") aP)) (xC (.int 1))) aC))))))) (il "NoDeed") bG)
  (aA (fY (aI so (al (xV 2) aC)))
  (aA (bF (aZ (kP C 0 "words" 1 2)) (br (kQ C 0 "words" 1 2)) bG)
  (aA (bA (aJ (aI iq (al (bO C 0 "zone") (al (af aD (af aD (bO C 0 "deeds") (xV 1)) (xC (.int (0)))) (al (xV 2) aC))))) (aF 3))
  (aA (bF (aZ (af jO (xV 3) (xC .none))) (br (xC (.str "none"))) bG)
  (br (lP (oJ (aZ (af gM (bO C 0 "last") (xC .none))) (aZ (af lW (xV 3) (bO C 0 "last")))) (xC (.str "due")) (xC (.str "coming")))))))))
noncomputable def yc(C:Addr):FM:=bi 3 4 (pN C)
noncomputable def yd:SM:=(bF (eM (aZ (aJ (aI xY (al (xV 0) aC))))) (il "NoDeeds") bG)
noncomputable def pO:FM:=bi 1 1 yd
noncomputable def pP:SM:=(aA (bA (aJ (aI da (aN 0 (aN 1 (al (aJ (aI ir (aN 0 (aN 1 (al (fF (aq (xC (.int 30)) (aq (xC (.int 30)) (aq (xC (.int 1000)) aP)))) aC))))) aC))))) (aF 4))
  (aA (bA (aJ (aI ir (aN 0 (aN 1 (al (fF (aq (xC (.str "all")) (aq (xC (.str "last")) (aq (cY (aq (xC (.str "within")) (aq (xV 4) aP))) aP)))) aC))))) (aF 5))
  (mY 2 (cY (aq (aJ (aI nL (aN 0 (aN 1 aC)))) (aq (xV 5) (aq (af (aS false) (aJ (aI da (aN 0 (aN 1 (al (xC (.int 2)) aC))))) (xC (.int 0))) aP)))))))
noncomputable def ye:SM:=(aA (gu 2 (kE aP))
  (aA (ik (eA bQ (aq (aJ (aI da (aN 0 (aN 1 (al (aJ (aI ir (aN 0 (aN 1 (al (fF (aq (xC (.int 5)) (aq (xC (.int 5)) (aq (xC (.int 7)) aP)))) aC))))) aC))))) aP)) (aF 3) pP)
  (br (cR rn (aq (xV 2) aP)))))
noncomputable def sN:FM:=bi 2 6 ye
noncomputable def sO(C:Addr):XM PyData:=(aJ (bR C 2 "state" (yc C) (al (xV 1) (al (xV 0) aC))))
noncomputable def sP(C:Addr):XM PyData:=(kO 1 [0,1] 1 1 (eA bQ (aq (xC (.int 12)) aP)) (aF 0) cZ (sO C))
noncomputable def yf(C:Addr):SM:=(aA (bA (kO 1 [0] 0 0 (eA bQ (aq (xV 1) aP)) (aF 0) cZ (sP C)) (aF 2))
  (br (cY (aq (xV 2) (aq (aJ (cD C 0 "held" (ip C))) (aq (aJ (cD C 0 "log" (sh C))) (aq (aJ (cD C 0 "waiting" (sK C))) (aq (aJ (cD C 0 "saved" (pq C))) aP))))))))
noncomputable def iO(C:Addr):FM:=bi 2 3 (yf C)
noncomputable def sQ(C:Addr):SM:=(aA (fY (bR C 0 "check_holder" (eE C) (al (xV 1) (al (xV 2) aC))))
  (aA (cu C 0 "last" (xV 2))
  (cu C 0 "holder" (xC .none))))
noncomputable def kX(C:Addr):FM:=bi 3 3 (sQ C)
noncomputable def nM(C:Addr):SM:=(aA (bA (aJ (cD C 0 "first_unsettled" (yb C))) (aF 3))
  (aA (bF (aZ (af jO (xV 3) (xC .none))) (br (cY (aq (xC (.str "idle")) (aq (xC .none) aP)))) bG)
  (aA (bF (aZ (af kI (af aD (xV 3) (xC (.int 0))) (xV 2))) (br (cY (aq (xC (.str "idle")) (aq (af aD (xV 3) (xC (.int 0))) aP)))) bG)
  (aA (bA (af aD (xV 3) (xC (.int 1))) (aF 4))
  (aA (bA (af aD (xV 3) (xC (.int 2))) (aF 5))
  (aA (bA (lP (aZ (aJ (aI mq (al (bO C 0 "zone") (al (af aD (bO C 0 "deeds") (xV 4)) (al (xV 5) (al (xV 2) aC))))))) (xC (.str "left")) (xC (.str "begun"))) (aF 6))
  (eN (bR C 0 "add_row" (gb C) (al (cY (aq (xV 2) (aq (xV 1) (aq (xV 6) (aq (xV 4) (aq (xV 5) aP)))))) aC)))))))))
noncomputable def ms(C:Addr):FM:=bi 3 7 (nM C)
noncomputable def pQ(C:Addr):SM:=(aA (fY (bR C 0 "check_holder" (eE C) (al (xV 1) (al (xV 2) aC))))
  (aA (bF (eM (aZ (aJ (cD C 0 "is_busy" (nE C))))) (il "Nothing") bG)
  (aA (cu C 0 "last" (xV 2))
  (eN (bR C 0 "add_row" (gb C) (al (cY (aq (xV 2) (aq (xV 1) (aq (xC (.str "done")) (aq (af aD (bO C 0 "begun") (xC (.int 0))) (aq (af aD (bO C 0 "begun") (xC (.int 1))) aP)))))) aC))))))
noncomputable def jt(C:Addr):FM:=bi 3 3 (pQ C)
noncomputable def sR(C:Addr):XM PyData:=(xC (.int 0))
noncomputable def yg(C:Addr):SM:=(aA (fY (aI pH (al (xV 1) aC)))
  (aA (fY (aI pO (al (xV 2) aC)))
  (aA (cu C 0 "zone" (xV 1))
  (aA (cu C 0 "deeds" (xV 2))
  (aA (cu C 0 "last" (xC .none))
  (aA (cu C 0 "holder" (xC .none))
  (aA (cu C 0 "until" (xC (.int 0)))
  (aA (cu C 0 "holds" (xC (.int 0)))
  (aA (cu C 0 "begun" (xC .none))
  (aA (mi C 0 "rows" (.l []))
  (aA (mi C 0 "words" (.m true []))
  (xh C 0 "settled" 1 [] (jU (xV 2)) (aF 0) cZ (sR C)))))))))))))
noncomputable def pR(C:Addr):FM:=bi 3 3 (yg C)
noncomputable def nN(C:Addr):SM:=(aA (fY (bR C 0 "check_holder" (eE C) (al (xV 1) (al (xV 2) aC))))
  (aA (cu C 0 "last" (xV 2))
  (aA (bF (aZ (aJ (cD C 0 "is_busy" (nE C)))) (br (cY (aq (xC (.str "busy")) (aq (af aD (bO C 0 "begun") (xC (.int 0))) (aq (af aD (bO C 0 "begun") (xC (.int 1))) aP))))) bG)
  (aA (bF (aZ (af gM (bO C 0 "begun") (xC .none))) (eN (bR C 0 "step_behind_a_fall" (pC C) (al (xV 1) (al (xV 2) aC)))) bG)
  (eN (bR C 0 "step_ahead" (ms C) (al (xV 1) (al (xV 2) aC))))))))
noncomputable def ju(C:Addr):FM:=bi 3 3 (nN C)
noncomputable def kc(C:Addr):SM:=(jl eB 2 (aA (bF (aZ (af (aS false) (af aD (xV 1) (xC (.int 0))) (xC (.str "take")))) (eN (bR C 0 "take" (mr C) (al (af aD (xV 1) (xC (.int 1))) (al (af aD (xV 1) (xC (.int 2))) (al (af aD (xV 1) (xC (.int 3))) aC))))) bG)
  (aA (bF (aZ (af (aS false) (af aD (xV 1) (xC (.int 0))) (xC (.str "give")))) (eN (bR C 0 "give" (kX C) (al (af aD (xV 1) (xC (.int 1))) (al (af aD (xV 1) (xC (.int 2))) aC)))) bG)
  (aA (bF (aZ (af (aS false) (af aD (xV 1) (xC (.int 0))) (xC (.str "step")))) (eN (bR C 0 "step" (ju C) (al (af aD (xV 1) (xC (.int 1))) (al (af aD (xV 1) (xC (.int 2))) aC)))) bG)
  (eN (bR C 0 "finish" (jt C) (al (af aD (xV 1) (xC (.int 1))) (al (af aD (xV 1) (xC (.int 2))) aC))))))) (eN (aI ml (aN 2 aC))))
noncomputable def dM(C:Addr):FM:=bi 2 3 (kc C)
noncomputable def sS(C:Addr):SM:=(fY (bR C 1 "add_row" (gb C) (al (xV 2) aC)))
noncomputable def yh(C:Addr):SM:=(aA (gu 1 (oX C (pR C) (aq (af aD (xV 0) (xC (.int 0))) (aq (af aD (xV 0) (xC (.int 1))) aP))))
  (aA (ik (jU (af aD (xV 0) (xC (.int 7)))) (aF 2) (sS C))
  (aA (cu C 1 "last" (af aD (xV 0) (xC (.int 2))))
  (aA (cu C 1 "holder" (af aD (xV 0) (xC (.int 3))))
  (aA (cu C 1 "until" (af aD (xV 0) (xC (.int 4))))
  (aA (cu C 1 "holds" (af aD (xV 0) (xC (.int 5))))
  (aA (cu C 1 "begun" (af aD (xV 0) (xC (.int 6))))
  (wC 1))))))))
noncomputable def pS(C:Addr):FM:=bi 1 3 (yh C)
noncomputable def yi(C:Addr):SM:=(gu 1 (kE aP))
noncomputable def yj(C:Addr):SM:=(bA (aJ (aI pJ (aN 0 (aN 1 aC)))) (aF 2))
noncomputable def yk(C:Addr):SM:=(bA (aJ (aI sN (aN 0 (aN 1 aC)))) (aF 3))
noncomputable def yl(C:Addr):SM:=(gu 4 (oX C (pR C) (aq (xV 2) (aq (xV 3) aP))))
noncomputable def ym(C:Addr):SM:=(bA (xC (.int 0)) (aF 5))
noncomputable def pT(C:Addr):SM:=(aA (bA (aJ (aI kU (aN 0 (aN 1 (al (xV 5) (al (af aD (aJ (cD C 4 "held" (ip C))) (xC (.int 0))) aC)))))) (aF 7))
  (aA (fY (aI (dM C) (aN 4 (al (xV 7) aC))))
  (bA (af aD (xV 7) (xC (.int 2))) (aF 5))))
noncomputable def yn(C:Addr):SM:=(ik (eA bQ (aq (aJ (aI da (aN 0 (aN 1 (al (xC (.int 31)) aC))))) aP)) (aF 6) (pT C))
noncomputable def yo(C:Addr):SM:=(bA (aJ (cD C 4 "saved" (pq C))) (aF 8))
noncomputable def yp(C:Addr):SM:=(gu 9 (aI (pS C) (al (xV 8) aC)))
noncomputable def yq(C:Addr):SM:=(gu 10 (aI (pS C) (al (xV 8) aC)))
noncomputable def yr(C:Addr):SM:=(bA (aJ (aI (iO C) (aN 4 (al (cR ej (aq (xV 3) aP)) aC)))) (aF 11))
noncomputable def yt(C:Addr):SM:=(bF (jP (eM (aZ (jf "tuple" (xV 8)))) (aZ (af (aS true) (aJ (aI (iO C) (aN 9 (al (cR ej (aq (xV 3) aP)) aC)))) (xV 11)))) (br (xC (.bool false))) bG)
noncomputable def yu(C:Addr):SM:=(bA (xV 5) (aF 12))
noncomputable def pU(C:Addr):SM:=(aA (bA (aJ (aI kU (aN 0 (aN 1 (al (xV 12) (al (af aD (aJ (cD C 10 "held" (ip C))) (xC (.int 0))) aC)))))) (aF 7))
  (aA (fY (aI (dM C) (aN 10 (al (xV 7) aC))))
  (bA (af aD (xV 7) (xC (.int 2))) (aF 12))))
noncomputable def yv(C:Addr):SM:=(ik (eA bQ (aq (xC (.int 8)) aP)) (aF 6) (pU C))
noncomputable def yw(C:Addr):SM:=(bF (aZ (af (aS true) (aJ (aI (iO C) (aN 4 (al (cR ej (aq (xV 3) aP)) aC)))) (xV 11))) (br (xC (.bool false))) bG)
noncomputable def pV(C:Addr):SM:=(aA (bA (aJ (aI kU (aN 0 (aN 1 (al (xV 5) (al (af aD (aJ (cD C 4 "held" (ip C))) (xC (.int 0))) aC)))))) (aF 7))
  (aA (bA (af aD (xV 7) (xC (.int 2))) (aF 5))
  (aA (bF (aZ (af (aS true) (aJ (aI (dM C) (aN 4 (al (xV 7) aC)))) (aJ (aI (dM C) (aN 9 (al (xV 7) aC)))))) (br (xC (.bool false))) bG)
  (bF (aZ (af (aS true) (aJ (aI (iO C) (aN 4 (al (cR ej (aq (xV 3) aP)) aC)))) (aJ (aI (iO C) (aN 9 (al (cR ej (aq (xV 3) aP)) aC)))))) (br (xC (.bool false))) bG))))
noncomputable def yx(C:Addr):SM:=(ik (eA bQ (aq (aJ (aI da (aN 0 (aN 1 (al (xC (.int 21)) aC))))) aP)) (aF 6) (pV C))
noncomputable def yy(C:Addr):SM:=(br (xC (.bool true)))
noncomputable def yz(C:Addr):SM:=(aA (yi C)
  (aA (yj C)
  (aA (yk C)
  (aA (yl C)
  (aA (ym C)
  (aA (yn C)
  (aA (yo C)
  (aA (yp C)
  (aA (yq C)
  (aA (yr C)
  (aA (yt C)
  (aA (yu C)
  (aA (yv C)
  (aA (yw C)
  (aA (yx C)
  (yy C))))))))))))))))
noncomputable def CY(C:Addr):FM:=bi 1 13 (yz C)
end K3
namespace K3
open PySem PySem.Spec L2 L2.L3 PyProof.Rows
noncomputable def top(i:Nat):Stmt:=PySem.Challenge.pw_duehall_k10_whole_saved.main.body.getD i (.Pass ⟨0,0,0,0⟩)
noncomputable abbrev sT:Stmt:=top 25
noncomputable abbrev sU:Stmt:=top 26
noncomputable abbrev sV:Stmt:=top 27
noncomputable abbrev sW:Stmt:=top 28
noncomputable abbrev sX:Stmt:=top 29
noncomputable abbrev sY:Stmt:=top 30
noncomputable abbrev sZ:Stmt:=top 31
noncomputable abbrev tf:Stmt:=top 32
noncomputable abbrev tj:Stmt:=top 33
noncomputable abbrev tm:Stmt:=top 34
noncomputable abbrev tp:Stmt:=top 35
noncomputable abbrev tq:Stmt:=top 36
noncomputable abbrev tt:Stmt:=top 37
noncomputable abbrev tu:Stmt:=top 38
noncomputable abbrev tw:Stmt:=top 39
noncomputable abbrev tx:Stmt:=top 40
noncomputable abbrev tz:Stmt:=top 41
noncomputable abbrev tE:Stmt:=top 42
noncomputable abbrev tF:Stmt:=top 43
noncomputable abbrev tG:Stmt:=top 46
noncomputable abbrev tH:Stmt:=top 47
noncomputable abbrev tI:Stmt:=top 48
noncomputable abbrev tK:Stmt:=top 49
noncomputable abbrev tL:Stmt:=top 50
noncomputable abbrev tM:Stmt:=top 52
noncomputable abbrev tN:Stmt:=top 53
noncomputable abbrev tO:Stmt:=top 54
noncomputable abbrev tP:Stmt:=top 55
noncomputable abbrev tQ:Stmt:=top 60
noncomputable abbrev tR:Stmt:=eQ (top 61) 0
noncomputable abbrev tS:Stmt:=eQ (top 61) 1
noncomputable abbrev tT:Stmt:=eQ (top 61) 2
noncomputable abbrev tU:Stmt:=eQ (top 61) 3
noncomputable abbrev tV:Stmt:=eQ (top 61) 4
noncomputable abbrev tW:Stmt:=eQ (top 61) 5
noncomputable abbrev tY:Stmt:=eQ (top 61) 6
noncomputable abbrev tZ:Stmt:=eQ (top 61) 7
noncomputable abbrev ua:Stmt:=eQ (top 61) 8
noncomputable abbrev ub:Stmt:=eQ (top 61) 9
noncomputable abbrev uc:Stmt:=eQ (top 61) 10
noncomputable abbrev ud:Stmt:=eQ (top 61) 11
noncomputable abbrev ue:Stmt:=eQ (top 61) 12
noncomputable abbrev uf:Stmt:=eQ (top 61) 13
noncomputable abbrev ug:Stmt:=eQ (top 61) 14
noncomputable abbrev uh:Stmt:=eQ (top 61) 15
noncomputable abbrev ui:Stmt:=eQ (top 61) 16
noncomputable abbrev uj:Stmt:=eQ (top 61) 17
noncomputable abbrev uk:Stmt:=top 62
noncomputable abbrev um:Stmt:=top 64
noncomputable abbrev uo:Stmt:=top 65
noncomputable abbrev uq:Stmt:=top 66
noncomputable abbrev ur:Stmt:=top 67
noncomputable abbrev uu:Stmt:=top 68
noncomputable abbrev uv:Stmt:=top 69
noncomputable abbrev uw:Stmt:=top 70
noncomputable abbrev ux:Stmt:=top 71
noncomputable abbrev uy:Stmt:=top 72
noncomputable abbrev uz:Stmt:=top 73
noncomputable abbrev uA:Stmt:=top 74
noncomputable abbrev kY:Stmt:=top 75
theorem OB:aa ["thing","least","most"] ["thing","least","most"] (bf sT):=bB
theorem OC:aa ["thing","length"] ["thing","length"] (bf sU):=bB
theorem OD:aa ["thing"] ["thing"] (bf sV):=bB
theorem OE:aa ["thing"] ["thing"] (bf sW):=bB
theorem OF:aa ["thing"] ["thing"] (bf sX):=bB
theorem OG:aa ["thing"] ["thing"] (bf sY):=bB
theorem uB:aa ["thing","earliest","shift"] ["thing"] (bf sZ):=bB
theorem OH:aa ["thing"] ["thing"] (bf tf):=bB
theorem OI:aa ["thing","word","length"] ["thing","word","length"] (bf tj):=bB
theorem OJ:aa ["thing"] ["thing"] (bf tm):=bB
theorem OK:aa ["thing"] ["thing"] (bf tp):=bB
theorem OL:aa ["thing"] ["thing"] (bf tq):=bB
theorem OM:aa ["thing"] ["thing"] (bf tt):=bB
theorem ON:aa ["thing"] ["thing"] (bf tu):=bB
theorem OO:aa ["thing"] ["thing"] (bf tw):=bB
theorem OP:aa ["thing"] ["thing"] (bf tx):=bB
theorem OQ:aa ["thing"] ["thing"] (bf tz):=bB
theorem OR:aa ["thing"] ["thing"] (bf tE):=bB
theorem OS:aa ["thing"] ["thing"] (bf tF):=bB
theorem uC:aa ["zone","moment","ahead","shift"] ["zone","moment"] (bf tG):=bB
theorem uD:aa ["zone","starts","ends","aheads"] ["zone"] (bf tH):=bB
theorem OT:aa ["moment","end"] ["moment","end"] (bf tI):=bB
theorem CZ:aa ["zone","hours","reached"] ["zone","hours"] (bf tK):=bB
theorem OU:aa ["zone","moment"] ["zone","moment"] (bf tL):=bB
theorem OV:aa ["zone","hour"] ["zone","hour"] (bf tM):=bB
theorem Db:aa ["zone","hour","count","day"] ["zone","hour","count"] (bf tN):=bB
theorem OW:aa ["zone","plan","count"] ["zone","plan","count"] (bf tO):=bB
theorem Dc:aa ["zone","plan","moment","last_day"] ["zone","plan","moment"] (bf tP):=bB
theorem Dd:aa ["zone","deed","count","now","later"] ["zone","deed","count","now"] (bf tQ):=bB
theorem OX:aa ["self","zone","deeds"] ["self","zone","deeds"] (bf tR):=bB
theorem OY:aa ["self","moment"] ["self","moment"] (bf tS):=bB
theorem OZ:aa ["self","runner","moment"] ["self","runner","moment"] (bf tT):=bB
theorem Pa:aa ["self","runner","moment"] ["self","runner","moment"] (bf tU):=bB
theorem Pb:aa ["self","runner","moment","term"] ["self","runner","moment","term"] (bf tV):=bB
theorem Pc:aa ["self","runner","moment"] ["self","runner","moment"] (bf tW):=bB
theorem uE:aa ["self","row","word","deed","count"] ["self","row"] (bf tY):=bB
theorem Pd:aa ["self"] ["self"] (bf tZ):=bB
theorem pW:aa ["self","found","deed","count","moment"] ["self"] (bf ua):=bB
theorem Pe:aa ["self","runner","moment"] ["self","runner","moment"] (bf ub):=bB
theorem yA:aa ["self","runner","moment","deed","word"] ["self","runner","moment"] (bf uc):=bB
theorem pX:aa ["self","runner","moment","found","deed","count","word"] ["self","runner","moment"] (bf ud):=bB
theorem Pf:aa ["self","runner","moment"] ["self","runner","moment"] (bf ue):=bB
theorem De:aa ["self","deed","count","moment"] ["self","deed","count"] (bf uf):=bB
theorem Pg:aa ["self"] ["self"] (bf ug):=bB
theorem Ph:aa ["self"] ["self"] (bf uh):=bB
theorem Pj:aa ["self"] ["self"] (bf ui):=bB
theorem Pk:aa ["self"] ["self"] (bf uj):=bB
theorem yB:aa ["thing","hall","row"] ["thing"] (bf uk):=bB
theorem Pl:aa ["_law_script","_law_k"] ["_law_script","_law_k"] (bf um):=bB
theorem Df:aa ["_law_script","_law_k","_law_many","_law_drawn"] ["_law_script","_law_k","_law_many"] (bf uo):=bB
theorem Pm:aa ["_law_script","_law_town","_law_many"] ["_law_script","_law_town","_law_many"] (bf uq):=bB
theorem Pn:aa ["_law_script","_law_town","_law_some"] ["_law_script","_law_town","_law_some"] (bf ur):=bB
theorem nO:aa ["_law_script","_law_town","_law_shifts","_law_moment","_law_k"] ["_law_script","_law_town"] (bf uu):=bB
theorem yC:aa ["_law_script","_law_town","_law_kind","_law_step"] ["_law_script","_law_town"] (bf uv):=bB
theorem pY:aa ["_law_script","_law_town","_law_made","_law_k","_law_hours","_law_late"] ["_law_script","_law_town"] (bf uw):=bB
theorem pZ:aa ["_law_script","_law_town","_law_now","_law_holder","_law_runner","_law_moment","_law_kind"] ["_law_script","_law_town","_law_now","_law_holder"] (bf ux):=bB
theorem Dg:aa ["_law_e","_law_own"] ["_law_e"] (bf uy):=bB
theorem Dh:aa ["_law_hall","_law_call_here","_law_e"] ["_law_hall","_law_call_here"] (bf uz):=bB
theorem Di:aa ["_law_hall","_law_many","_law_rows"] ["_law_hall","_law_many"] (bf uA):=bB
theorem eF:aa ["_law_script","_law_town","_law_zone_here","_law_deeds_here","_law_hall","_law_now","_law_k","_law_call_here","_law_thing","_law_other","_law_third","_law_before","_law_later"] ["_law_script"] (bf kY):=bB
structure Tx (K:Frag) (mg:Str->Option Value):Prop where
 d00:∃g fd,FD K mg "is_whole" sT ["thing","least","most"] g fd
 d01:∃g fd,FD K mg "is_tuple_of" sU ["thing","length"] g fd
 d02:∃g fd,FD K mg "is_ahead" sV ["thing"] g fd
 d03:∃g fd,FD K mg "is_moment" sW ["thing"] g fd
 d04:∃g fd,FD K mg "is_runner" sX ["thing"] g fd
 d05:∃g fd,FD K mg "is_term" sY ["thing"] g fd
 d06:∃g fd,FD K mg "are_shifts" sZ ["thing"] g fd
 d07:∃g fd,FD K mg "is_zone" tf ["thing"] g fd
 d08:∃g fd,FD K mg "has_word" tj ["thing","word","length"] g fd
 d09:∃g fd,FD K mg "is_plan" tm ["thing"] g fd
 d0a:∃g fd,FD K mg "is_late" tp ["thing"] g fd
 d0b:∃g fd,FD K mg "is_deed" tq ["thing"] g fd
 d0c:∃g fd,FD K mg "are_deeds" tt ["thing"] g fd
 d0d:∃g fd,FD K mg "check_zone" tu ["thing"] g fd
 d0e:∃g fd,FD K mg "check_moment" tw ["thing"] g fd
 d0f:∃g fd,FD K mg "check_count" tx ["thing"] g fd
 d0g:∃g fd,FD K mg "check_deeds" tz ["thing"] g fd
 d0h:∃g fd,FD K mg "check_runner" tE ["thing"] g fd
 d0i:∃g fd,FD K mg "check_term" tF ["thing"] g fd
 d0j:∃g fd,FD K mg "shown" tG ["zone","moment"] g fd
 d0k:∃g fd,FD K mg "stretches" tH ["zone"] g fd
 d0l:∃g fd,FD K mg "is_ahead_of" tI ["moment","end"] g fd
 d0m:∃g fd,FD K mg "first_showing" tK ["zone","hours"] g fd
 d0n:∃g fd,FD K mg "furthest_shown" tL ["zone","moment"] g fd
 d0o:∃g fd,FD K mg "first_day" tM ["zone","hour"] g fd
 d0p:∃g fd,FD K mg "daily_time" tN ["zone","hour","count"] g fd
 d0q:∃g fd,FD K mg "time_of" tO ["zone","plan","count"] g fd
 d0r:∃g fd,FD K mg "times_by" tP ["zone","plan","moment"] g fd
 d0s:∃g fd,FD K mg "is_left_out" tQ ["zone","deed","count","now"] g fd
 d0t:∃g fd,FD K mg "woken" uk ["thing"] g fd
 d0u:∃g fd,FD K mg "_law_cell_at" um ["_law_script","_law_k"] g fd
 d0v:∃g fd,FD K mg "_law_mixed" uo ["_law_script","_law_k","_law_many"] g fd
 d0w:∃g fd,FD K mg "_law_draw" uq ["_law_script","_law_town","_law_many"] g fd
 d0x:∃g fd,FD K mg "_law_pick" ur ["_law_script","_law_town","_law_some"] g fd
 d0y:∃g fd,FD K mg "_law_zone" uu ["_law_script","_law_town"] g fd
 d0z:∃g fd,FD K mg "_law_plan" uv ["_law_script","_law_town"] g fd
 d10:∃g fd,FD K mg "_law_deeds" uw ["_law_script","_law_town"] g fd
 d11:∃g fd,FD K mg "_law_call" ux ["_law_script","_law_town","_law_now","_law_holder"] g fd
 d12:∃g fd,FD K mg "_law_which" uy ["_law_e"] g fd
 d13:∃g fd,FD K mg "_law_do" uz ["_law_hall","_law_call_here"] g fd
 d14:∃g fd,FD K mg "_law_seen" uA ["_law_hall","_law_many"] g fd
 d15:∃t,mg "LAST_MOMENT" = some (.int (9999) t)
 d16:∃t,mg "LAST_COUNT" = some (.int (9999) t)
 d17:∃t,mg "LAST_HOUR" = some (.int (23) t)
 d18:∃t,mg "LEAST_AHEAD" = some (.int (-12) t)
 d19:∃t,mg "MOST_AHEAD" = some (.int (14) t)
 d1a:∃t,mg "MOST_SHIFTS" = some (.int (6) t)
 d1b:∃t,mg "MOST_STEP" = some (.int (999) t)
 d1c:∃t,mg "MOST_DEEDS" = some (.int (6) t)
 d1d:∃t,mg "MOST_WITHIN" = some (.int (999) t)
 d1e:∃t,mg "LAST_RUNNER" = some (.int (3) t)
 d1f:∃t,mg "MOST_TERM" = some (.int (99) t)
 d1g:∃t,mg "DAY_HOURS" = some (.int (24) t)
 d1h:∃t,mg "PLAN" = some (.int (0) t)
 d1i:∃t,mg "LATE" = some (.int (1) t)
 d1j:∃t,mg "AGAIN" = some (.int (2) t)
 d1k:mg "ValueError" = none
 d1l:mg "all" = none
 d1m:mg "bool" = none
 d1n:mg "enumerate" = none
 d1o:mg "int" = none
 d1p:mg "isinstance" = none
 d1q:mg "len" = none
 d1r:mg "list" = none
 d1s:mg "max" = none
 d1t:mg "min" = none
 d1u:mg "range" = none
 d1v:mg "str" = none
 d1w:mg "tuple" = none
 d1x:mg "zip" = none
 xt0:∃D,XT K mg eB D
structure dF (K:Frag) (mg:Str->Option Value) (C:Addr):Prop where
 cl:cO K C
 mg:mg "Hall" = some (.ref C)
 mks:PySem.W.makesIn K C=true
 kpC:keepIn K (.ref C)=true
 d1y:cx K C "begun"
 d1z:cx K C "deeds"
 d20:cx K C "holder"
 d21:cx K C "holds"
 d22:cx K C "last"
 d23:cx K C "rows"
 d24:cx K C "settled"
 d25:cx K C "until"
 d26:cx K C "words"
 d27:cx K C "zone"
 d28:∃g fd,MD K C "__init__" "Hall.__init__" tR ["self","zone","deeds"] g fd
 d29:∃g fd,MD K C "is_held" "Hall.is_held" tS ["self","moment"] g fd
 d2a:∃g fd,MD K C "check_call" "Hall.check_call" tT ["self","runner","moment"] g fd
 d2b:∃g fd,MD K C "check_holder" "Hall.check_holder" tU ["self","runner","moment"] g fd
 d2c:∃g fd,MD K C "take" "Hall.take" tV ["self","runner","moment","term"] g fd
 d2d:∃g fd,MD K C "give" "Hall.give" tW ["self","runner","moment"] g fd
 d2e:∃g fd,MD K C "add_row" "Hall.add_row" tY ["self","row"] g fd
 d2f:∃g fd,MD K C "is_busy" "Hall.is_busy" tZ ["self"] g fd
 d2g:∃g fd,MD K C "first_unsettled" "Hall.first_unsettled" ua ["self"] g fd
 d2h:∃g fd,MD K C "step" "Hall.step" ub ["self","runner","moment"] g fd
 d2i:∃g fd,MD K C "step_behind_a_fall" "Hall.step_behind_a_fall" uc ["self","runner","moment"] g fd
 d2j:∃g fd,MD K C "step_ahead" "Hall.step_ahead" ud ["self","runner","moment"] g fd
 d2k:∃g fd,MD K C "finish" "Hall.finish" ue ["self","runner","moment"] g fd
 d2l:∃g fd,MD K C "state" "Hall.state" uf ["self","deed","count"] g fd
 d2m:∃g fd,MD K C "held" "Hall.held" ug ["self"] g fd
 d2n:∃g fd,MD K C "log" "Hall.log" uh ["self"] g fd
 d2o:∃g fd,MD K C "waiting" "Hall.waiting" ui ["self"] g fd
 d2p:∃g fd,MD K C "saved" "Hall.saved" uj ["self"] g fd
theorem dF.make{K:Frag}{a:Str->Option Value}{C g:Addr}(h:dF K a C)(M:iz K C "__init__" g):Mk K C g:=⟨h.mks,M.at_,M.fn,h.kpC⟩
theorem Po:bootBuiltins "int" = some (.type "int"):=by decide +kernel
theorem Dj:bootBuiltins "bool" = some (.type "bool"):=by decide +kernel
theorem Dk:bootBuiltins "str" = some (.type "str"):=by decide +kernel
theorem nP:bootBuiltins "tuple" = some (.type "tuple"):=by decide +kernel
theorem Sc:bootBuiltins "list" = some (.type "list"):=by decide +kernel
theorem uF:bootBuiltins "max" = some (.builtin "max"):=by decide +kernel
theorem Sd:bootBuiltins "divmod" = some (.builtin "divmod"):=by decide +kernel
theorem Pp:bootBuiltins "all" = some (.builtin "all"):=by decide +kernel
theorem Se:bootBuiltins "any" = some (.builtin "any"):=by decide +kernel
theorem Sf:bootBuiltins "sum" = some (.builtin "sum"):=by decide +kernel
theorem Sg:bootBuiltins "min" = some (.builtin "min"):=by decide +kernel
theorem Si:bootBuiltins "sorted" = some (.builtin "sorted"):=by decide +kernel
theorem Pq{k:Nat}{A:Around}(r:cI k A):A.units+64<cLine:=by have:=r.un;omega
theorem gW{X:Cx}{F:Fx}(a:GF X.mg F):fb X F dJ:=⟨a,fun _ _ _ _ _ _ _ _ _ _ z=>z.elim⟩
end K3
namespace K3
open PySem PySem.Spec L2 L2.L3 PyProof.Rows
local macro_rules | `(tactic| walk_at "z")=>`(tactic| first|rfl|exact .inl rfl|exact .inr rfl|assumption|exact fun _=>rfl)
section
variable(P:Program)(w:World){K:Frag}{mg:Str->Option Value}(base:Heap)
theorem kd{g:Addr}{fd:FuncData}(T:Tx K mg)(D:FD K mg "is_whole" sT ["thing","least","most"] g fd):az P w K mg base (ba P w) 1 g fd ["thing","least","most"] (be K mg fK):=by
 refine bE D.fn OB (by decide) ?_;intro b A a s H E F c d e;unfold pc;refine aG ?_;refine bu ?_
 ·exact(fE (jS (jK rfl T.d1p (fv 0) (iV rfl T.d1o Po rfl))) (fE (Mi (jS (jK rfl T.d1p (fv 0) (iV rfl T.d1m Dj rfl)))) (gO (Nj (fv 1) (fv 0) (fv 2)))))
theorem uG{g:Addr}{fd:FuncData}(T:Tx K mg)(D:FD K mg "is_tuple_of" sU ["thing","length"] g fd):az P w K mg base (ba P w) 1 g fd ["thing","length"] (be K mg kR):=by
 refine bE D.fn OC (by decide) ?_;intro b A a s H E F d c e;unfold rZ;refine aG ?_;refine bu ?_
 ·exact(fE (jS (jK rfl T.d1p (fv 0) (iV rfl T.d1w nP rfl))) (gO (ni c.units (eR iF (fB gE iD rfl T.d1q PySem.boot_len (ay (fv 0) bh))) (fv 1))))
theorem Pr{g:Addr}{fd:FuncData}(T:Tx K mg)(D:FD K mg "shown" tG ["zone","moment"] g fd):az P w K mg base (ba P w) 1 g fd ["zone","moment"] (be K mg sf):=by
 refine bE D.fn uC (by decide) ?_;intro b A a s H E F c d e;unfold xn;refine aB ?_ ?_
 ·refine bZ (i:=2) ?_ ?_ ?_ ?_ ?_ ?_<;>try walk_at "z"
  ·exact uC.nd
  ·exact(aT (fv 0) (ae av))
 refine aB ?_ ?_
 ·refine jT ?_ ?_ ?_ ?_ ?_ ?_<;>try walk_at "z"
  ·exact PassesOwn.leaving
  ·exact(kB (aT (fv 0) (ae av)))
  ·exact(di 3 uC.nd)
  ·unfold se;refine aG ?_;refine bK ?_ ?_ ?_
   ·exact(rK (aT (fv 3) (ae av)) (fv 1))
   ·refine aG ?_;refine bZ (i:=2) ?_ ?_ ?_ ?_ ?_ ?_<;>try walk_at "z"
    ·exact uC.nd
    ·exact(aT (fv 3) (ae av))
   ·exact bN
 refine aG ?_;refine bu ?_
 ·exact(dX (fv 1) (fv 2))
theorem Dl{g:Addr}{fd:FuncData}(T:Tx K mg)(D:FD K mg "stretches" tH ["zone"] g fd):az P w K mg base (ba P w) 1 g fd ["zone"] (be K mg pd):=by
 refine bE D.fn uD (by decide) ?_;intro c A a s H E F e f b;unfold xq;refine aB ?_ ?_
 ·refine bZ (i:=1) ?_ ?_ ?_ ?_ ?_ ?_<;>try walk_at "z"
  ·exact uD.nd
  ·exact(wV (gr (ay (ae av) bh)) (oO b.1 (ag.of (own:=["shift"]) (capN:=[]) (caps:=[])) rfl rfl (kB (aT (fv 0) (ae av))) (fun _ _ _ _ _ _ d=>⟨(di 0 (show((["shift"]:List Str)++([]:List Str)).Nodup from by decide +kernel)),jW,(aT (fv 0) (ae av))⟩)))
 refine aB ?_ ?_
 ·refine bZ (i:=2) ?_ ?_ ?_ ?_ ?_ ?_<;>try walk_at "z"
  ·exact uD.nd
  ·exact(wV (MJ (Lw (k:=1) (fv 1))) (gr (ay (ae ef) bh)))
 refine aB ?_ ?_
 ·refine bZ (i:=3) ?_ ?_ ?_ ?_ ?_ ?_<;>try walk_at "z"
  ·exact uD.nd
  ·exact(wV (gr (ay (aT (fv 0) (ae av)) bh)) (oO b.1 (ag.of (own:=["shift"]) (capN:=[]) (caps:=[])) rfl rfl (kB (aT (fv 0) (ae av))) (fun _ _ _ _ _ _ d=>⟨(di 0 (show((["shift"]:List Str)++([]:List Str)).Nodup from by decide +kernel)),jW,(aT (fv 0) (ae av))⟩)))
 refine aG ?_;refine bu ?_
 ·exact(MI (Lv rfl rfl T.d1r rfl T.d1x (ay (fv 1) (ay (fv 2) (ay (fv 3) bh)))))
theorem Dm{g:Addr}{fd:FuncData}(T:Tx K mg)(D:FD K mg "is_ahead_of" tI ["moment","end"] g fd):az P w K mg base (ba P w) 1 g fd ["moment","end"] (be K mg ph):=by
 refine bE D.fn OT (by decide) ?_;intro b A a s H E F c d e;unfold xu;refine aG ?_;refine bu ?_
 ·exact(BA (Ni (fv 1) (ae ef)) (gO (Ck (fv 0) (fv 1))))
theorem Ps{g:Addr}{fd:FuncData}(T:Tx K mg)(D:FD K mg "_law_cell_at" um ["_law_script","_law_k"] g fd):az P w K mg base (ba P w) 1 g fd ["_law_script","_law_k"] (be K mg nB):=by
 refine bE D.fn Pl (by decide) ?_;intro b A a s H E F d c e;unfold pk;refine aB ?_ ?_
 ·refine bK ?_ ?_ ?_
  ·exact(oV (fv 1) (BE (Bi rfl T.d1q (pv 0))))
  ·refine aG ?_;refine bu ?_
   ·exact(BF (Bk (pv 0) (fv 1) (by intro _ _;rfl)))
  ·exact bN
 refine aB ?_ ?_
 ·refine bK ?_ ?_ ?_
  ·exact(Ms (LB c.units (pv 0)))
  ·refine aG ?_;refine bu ?_
   ·exact(ae av)
  ·exact bN
 refine aG ?_;refine bu ?_
 ·exact(dX (lX (BF (Bk (pv 0) (oU (fv 1) (BE (Bi rfl T.d1q (pv 0)))) (by intro _ _;rfl))) (ae av)) (fv 1))
theorem Pt{g:Addr}{fd:FuncData}(T:Tx K mg)(D:FD K mg "_law_which" uy ["_law_e"] g fd):fi P w K mg base (ba P w) 1 g fd ["_law_e"] (be K mg ml):=by
 obtain⟨c,a⟩:=T.xt0;refine MT D.fn Dg (by decide) ?_;intro d A b s H E F f e h;unfold CU;refine aB ?_ ?_
 ·refine jR (i:=1) ?_ ?_ ?_ ?_ ?_ ?_<;>try walk_at "z"
  ·exact Dg.nd
  ·exact(oP (ay (iH a rfl T.d1p (pv 0) rfl (by decide +kernel)) (ay (iH a rfl T.d1p (pv 0) rfl (by decide +kernel)) (ay (iH a rfl T.d1p (pv 0) rfl (by decide +kernel)) (ay (iH a rfl T.d1p (pv 0) rfl (by decide +kernel)) bh)))))
 refine aB ?_ ?_
 ·refine Ce ?_ ?_ ?_ ?_ ?_ ?_ ?_ ?_<;>try walk_at "z"
  ·exact(pv 1)
  ·exact(gr (ay (iH a rfl T.d1p (pv 0) rfl (by decide +kernel)) (ay (iH a rfl T.d1p (pv 0) rfl (by decide +kernel)) (ay (iH a rfl T.d1p (pv 0) rfl (by decide +kernel)) (ay (iH a rfl T.d1p (pv 0) rfl (by decide +kernel)) bh)))))
 refine aB ?_ ?_
 ·refine Ce ?_ ?_ ?_ ?_ ?_ ?_ ?_ ?_<;>try walk_at "z"
  ·exact(pv 1)
  ·exact(gr (ay (iH a rfl T.d1p (pv 0) rfl (by decide +kernel)) (ay (iH a rfl T.d1p (pv 0) rfl (by decide +kernel)) (ay (iH a rfl T.d1p (pv 0) rfl (by decide +kernel)) bh))))
 refine aB ?_ ?_
 ·refine bK ?_ ?_ ?_
  ·exact(je (lO (lY (Pq e) (Cd (g:=rE) PySem.F.slot_list_count PySem.F.type_list_count MY Na (pv 1) (ae fS)) (ae av)) (lN (fg (dE (dD (Nd a rfl T.d1p (pv 0) rfl T.d1k)))))))
  ·refine aG ?_;refine bu ?_
   ·exact(dq (ay (ae ck) (ay (Bv (ae av)) bh)))
  ·exact bN
 refine aG ?_;refine bu ?_
 ·exact(dq (ay (ae ck) (ay (Cd (g:=rF) PySem.F.slot_list_index PySem.F.type_list_index MZ Nb (pv 1) (ae fS)) bh)))
theorem Dn{C:Addr}{g:Addr}{fd:FuncData}(T:Tx K mg)(a:dF K mg C)(D:MD K C "is_held" "Hall.is_held" tS ["self","moment"] g fd):az P w K mg base (ba P w) 1 g fd ["self","moment"] (be K mg (pp C)):=by
 refine bE D.fn OY (by decide) ?_;intro c A b s H E F d e f;unfold xv;refine aG ?_;refine bu ?_
 ·exact(fE (wW (cj a.cl a.d20 (pv 0)) (ae ef)) (gO (Ck (fv 1) (cj a.cl a.d25 (pv 0)))))
theorem uH{C:Addr}{g:Addr}{fd:FuncData}(T:Tx K mg)(a:dF K mg C)(D:MD K C "add_row" "Hall.add_row" tY ["self","row"] g fd):az P w K mg base (ba P w) 1 g fd ["self","row"] (be K mg (gb C)):=by
 refine bE D.fn uE (by decide) ?_;intro d A b s H E F e c f;unfold nC;refine aB ?_ ?_
 ·refine bZ (i:=2) ?_ ?_ ?_ ?_ ?_ ?_<;>try walk_at "z"
  ·exact uE.nd
  ·exact(aT (fv 1) (ae av))
 refine aB ?_ ?_
 ·refine bZ (i:=3) ?_ ?_ ?_ ?_ ?_ ?_<;>try walk_at "z"
  ·exact uE.nd
  ·exact(aT (fv 1) (ae av))
 refine aB ?_ ?_
 ·refine bZ (i:=4) ?_ ?_ ?_ ?_ ?_ ?_<;>try walk_at "z"
  ·exact uE.nd
  ·exact(aT (fv 1) (ae av))
 refine aB ?_ ?_
 ·refine Np ?_ ?_ ?_ ?_ ?_ ?_ ?_ ?_ ?_ ?_ ?_<;>try walk_at "z"
  ·exact a.cl
  ·exact a.d23
  ·exact(pv 0)
  ·exact(pv 1)
 refine aB ?_ ?_
 ·refine Nq ?_ ?_ ?_ ?_ ?_ ?_ ?_ ?_ ?_ ?_ ?_<;>try walk_at "z"
  ·exact(qM c)
  ·exact a.cl
  ·exact a.d26
  ·exact(pv 0)
  ·exact(pv 3)
  ·exact(pv 4)
  ·exact(fv 2)
 refine aB ?_ ?_
 ·refine bK ?_ ?_ ?_
  ·exact(gx c.units (fv 2) (ae ck))
  ·refine aG ?_;refine ek ?_ ?_ ?_ ?_ ?_
   ·exact a.cl
   ·exact a.d1y
   ·exact(pv 0)
   ·exact(dq (ay (fv 3) (ay (fv 4) (ay (cj a.cl a.d21 (pv 0)) bh))))
   ·rfl
  ·refine aB ?_ ?_
   ·refine ek ?_ ?_ ?_ ?_ ?_
    ·exact a.cl
    ·exact a.d1y
    ·exact(pv 0)
    ·exact(ae ef)
    ·rfl
   refine aG ?_;refine Nt ?_ ?_ ?_ ?_ ?_ ?_ ?_ ?_ ?_ ?_<;>try walk_at "z"
   ·exact a.cl
   ·exact a.d24
   ·exact(pv 0)
   ·exact(pv 3)
   ·exact(dX (fv 4) (ae av))
 refine aG ?_;refine bu ?_
 ·exact(dq (ay (fv 2) (ay (fv 3) (ay (fv 4) bh))))
theorem Do{C:Addr}{g:Addr}{fd:FuncData}(T:Tx K mg)(a:dF K mg C)(D:MD K C "is_busy" "Hall.is_busy" tZ ["self"] g fd):az P w K mg base (ba P w) 1 g fd ["self"] (be K mg (nE C)):=by
 refine bE D.fn Pd (by decide) ?_;intro c A b s H E F e d f;unfold sg;refine aG ?_;refine bu ?_
 ·exact(fE (wW (cj a.cl a.d1y (pv 0)) (ae ef)) (gO (ni d.units (aT (cj a.cl a.d1y (pv 0)) (ae av)) (cj a.cl a.d21 (pv 0)))))
theorem Dp{C:Addr}{g:Addr}{fd:FuncData}(T:Tx K mg)(a:dF K mg C)(D:MD K C "held" "Hall.held" ug ["self"] g fd):az P w K mg base (ba P w) 1 g fd ["self"] (be K mg (ip C)):=by
 refine bE D.fn Pg (by decide) ?_;intro c A b s H E F d e f;unfold xw;refine aG ?_;refine bu ?_
 ·exact(dq (ay (cj a.cl a.d20 (pv 0)) (ay (cj a.cl a.d25 (pv 0)) (ay (cj a.cl a.d21 (pv 0)) bh))))
theorem Pu{C:Addr}{g:Addr}{fd:FuncData}(T:Tx K mg)(b:dF K mg C)(D:MD K C "log" "Hall.log" uh ["self"] g fd):az P w K mg base (ba P w) 1 g fd ["self"] (be K mg (sh C)):=by
 refine bE D.fn Ph (by decide) ?_;intro c A a s H E F d e f;unfold xx;refine aG ?_;refine bu ?_
 ·exact(Nx rfl T.d1r b.cl b.d23 (pv 0))
theorem Dq{C:Addr}{g:Addr}{fd:FuncData}(T:Tx K mg)(a:dF K mg C)(D:MD K C "saved" "Hall.saved" uj ["self"] g fd):az P w K mg base (ba P w) 1 g fd ["self"] (be K mg (pq C)):=by
 refine bE D.fn Pk (by decide) ?_;intro c A b s H E F d e f;unfold xy;refine aG ?_;refine bu ?_
 ·exact(dq (ay (cj a.cl a.d27 (pv 0)) (ay (cj a.cl a.d1z (pv 0)) (ay (cj a.cl a.d22 (pv 0)) (ay (cj a.cl a.d20 (pv 0)) (ay (cj a.cl a.d25 (pv 0)) (ay (cj a.cl a.d21 (pv 0)) (ay (cj a.cl a.d1y (pv 0)) (ay (Of rfl T.d1w a.cl a.d23 (pv 0)) bh)))))))))
theorem Dr{g:Addr}{fd:FuncData}(T:Tx K mg)(D:FD K mg "is_ahead" sV ["thing"] g fd):az P w K mg base (ba P w) 2 g fd ["thing"] (be K mg pz):=by
 obtain⟨l,m,f⟩:=T.d00;have h:=kd P w base T f;obtain⟨c,a⟩:=T.d18;obtain⟨d,b⟩:=T.d19;refine bE D.fn OD (by decide) ?_;intro i A e s H E F n j k;unfold xz;refine aG ?_;refine eS ?_
 ·exact(aO k h f j (au (fv 0) (au (ae (dI rfl a)) (au (ae (dI rfl b)) aH))))
theorem Ds{g:Addr}{fd:FuncData}(T:Tx K mg)(D:FD K mg "is_moment" sW ["thing"] g fd):az P w K mg base (ba P w) 2 g fd ["thing"] (be K mg nF):=by
 obtain⟨j,k,d⟩:=T.d00;have e:=kd P w base T d;obtain⟨b,a⟩:=T.d15;refine bE D.fn OE (by decide) ?_;intro f A c s H E F l h i;unfold xA;refine aG ?_;refine eS ?_
 ·exact(aO i e d h (au (fv 0) (au (ae av) (au (ae (dI rfl a)) aH))))
theorem Pw{g:Addr}{fd:FuncData}(T:Tx K mg)(D:FD K mg "is_runner" sX ["thing"] g fd):az P w K mg base (ba P w) 2 g fd ["thing"] (be K mg si):=by
 obtain⟨j,k,d⟩:=T.d00;have e:=kd P w base T d;obtain⟨b,a⟩:=T.d1e;refine bE D.fn OF (by decide) ?_;intro f A c s H E F l h i;unfold xB;refine aG ?_;refine eS ?_
 ·exact(aO i e d h (au (fv 0) (au (ae av) (au (ae (dI rfl a)) aH))))
theorem Px{g:Addr}{fd:FuncData}(T:Tx K mg)(D:FD K mg "is_term" sY ["thing"] g fd):az P w K mg base (ba P w) 2 g fd ["thing"] (be K mg sj):=by
 obtain⟨j,k,d⟩:=T.d00;have e:=kd P w base T d;obtain⟨b,a⟩:=T.d1f;refine bE D.fn OG (by decide) ?_;intro f A c s H E F l h i;unfold xD;refine aG ?_;refine eS ?_
 ·exact(aO i e d h (au (fv 0) (au (ae av) (au (ae (dI rfl a)) aH))))
theorem Dt{g:Addr}{fd:FuncData}(T:Tx K mg)(D:FD K mg "has_word" tj ["thing","word","length"] g fd):az P w K mg base (ba P w) 2 g fd ["thing","word","length"] (be K mg kS):=by
 obtain⟨h,i,b⟩:=T.d01;have d:=uG P w base T b;refine bE D.fn OI (by decide) ?_;intro e A a s H E F j c f;unfold sk;refine aG ?_;refine bu ?_
 ·exact(fE (aR (aO f d b c (au (fv 0) (au (fv 2) aH)))) (fE (jS (jK rfl T.d1p (aT (fv 0) (ae av)) (iV rfl T.d1v Dk rfl))) (gO (ni c.units (aT (fv 0) (ae av)) (fv 1)))))
theorem Py{g:Addr}{fd:FuncData}(T:Tx K mg)(D:FD K mg "check_count" tx ["thing"] g fd):az P w K mg base (ba P w) 2 g fd ["thing"] (be K mg so):=by
 obtain⟨o,p,h⟩:=T.d00;have k:=kd P w base T h;obtain⟨d,a⟩:=T.d16;obtain⟨l,m⟩:=T.xt0;obtain⟨e,b,_⟩:=m.at_ (c:="NoCount") (by decide +kernel);refine bE D.fn OP (by decide) ?_;intro n A f s H E F q i j;unfold xE;refine aG ?_;refine bK ?_ ?_ ?_
 ·exact(fg (dE (dD (aR (aO j k h i (au (fv 0) (au (ae av) (au (ae (dI rfl a)) aH))))))))
 ·refine aG ?_;exact(jk j i.hd rfl b)
 ·exact bN
theorem Pz{g:Addr}{fd:FuncData}(T:Tx K mg)(D:FD K mg "first_showing" tK ["zone","hours"] g fd):az P w K mg base (ba P w) 2 g fd ["zone","hours"] (be K mg sr):=by
 obtain⟨l,m,b⟩:=T.d0k;have f:=Dl P w base T b;obtain⟨g1,f1,c⟩:=T.d0l;have h:=Dm P w base T c;refine bE D.fn CZ (by decide) ?_;intro j A a s H E F o d e;unfold xH;refine aB ?_ ?_
 ·refine BM (i:=2) (own:=["start","end","ahead"]) (capN:=["hours"]) (caps:=[1]) ?_ ?_ ?_ ?_ ?_ ?_ ?_ ?_ ?_ ?_ ?_ ?_<;>try walk_at "z"
  ·exact CZ.nd
  ·exact e.1
  ·exact(ag.of (own:=["start","end","ahead"]) (capN:=["hours"]) (caps:=[1]))
  ·exact(BI (aR (aO e f b d (au (fv 0) aH))))
  ·exact(fun _ _ _ _ _ _ k=>⟨(oN (n:=3) rfl (ij (di 0 (show((["start","end","ahead"]:List Str)++(["hours"]:List Str)).Nodup from by decide +kernel)) (ij (di 1 (show((["start","end","ahead"]:List Str)++(["hours"]:List Str)).Nodup from by decide +kernel)) (ij (di 2 (show((["start","end","ahead"]:List Str)++(["hours"]:List Str)).Nodup from by decide +kernel)) oM)))),(BL (dE (dD (aR (aO (gW k) h c d (au (eR ww (fB (vo rfl) we rfl T.d1s uF (ay (fv 0) (ay (gR (fv 3) (fv 2)) bh)))) (au (fv 1) aH))))))),(eR ww (fB (vo rfl) we rfl T.d1s uF (ay (fv 0) (ay (gR (fv 3) (fv 2)) bh))))⟩)
 refine aG ?_;refine bu ?_
 ·exact(aT (fv 2) (ae av))
theorem PB{g:Addr}{fd:FuncData}(T:Tx K mg)(D:FD K mg "furthest_shown" tL ["zone","moment"] g fd):az P w K mg base (ba P w) 2 g fd ["zone","moment"] (be K mg su):=by
 obtain⟨k,l,b⟩:=T.d0k;have f:=Dl P w base T b;obtain⟨g1,f1,c⟩:=T.d0l;have h:=Dm P w base T c;refine bE D.fn OU (by decide) ?_;intro i A a s H E F m d e;unfold xJ;refine aG ?_;refine bu ?_
 ·exact(eR Mr (fB (Ma rfl) Mb rfl T.d1s uF (ay (oO e.1 (ag.of (own:=["start","end","ahead"]) (capN:=["moment"]) (caps:=[1])) rfl rfl (BI (aR (aO e f b d (au (fv 0) aH)))) (fun _ _ _ _ _ _ j=>⟨(oN (n:=3) rfl (ij (di 0 (show((["start","end","ahead"]:List Str)++(["moment"]:List Str)).Nodup from by decide +kernel)) (ij (di 1 (show((["start","end","ahead"]:List Str)++(["moment"]:List Str)).Nodup from by decide +kernel)) (ij (di 2 (show((["start","end","ahead"]:List Str)++(["moment"]:List Str)).Nodup from by decide +kernel)) oM)))),(BL (rK (fv 0) (fv 3))),(dX (mT (dE (dD (aR (aO (gW j) h c d (au (fv 3) (au (fv 1) aH)))))) (fv 3) (gR (fv 1) (ae av))) (fv 2))⟩)) bh)))
theorem Du{g:Addr}{fd:FuncData}(T:Tx K mg)(D:FD K mg "first_day" tM ["zone","hour"] g fd):az P w K mg base (ba P w) 2 g fd ["zone","hour"] (be K mg pB):=by
 obtain⟨j,k,d⟩:=T.d0j;have e:=Pr P w base T d;obtain⟨b,a⟩:=T.d1g;refine bE D.fn OV (by decide) ?_;intro f A c s H E F l h i;unfold xK;refine aG ?_;refine bu ?_
 ·exact(Bv (wU (gR (fv 1) (aR (aO i e d h (au (fv 0) (au (ae av) aH))))) (ae (dI rfl a))))
theorem PD{g:Addr}{fd:FuncData}(T:Tx K mg)(D:FD K mg "_law_mixed" uo ["_law_script","_law_k","_law_many"] g fd):az P w K mg base (ba P w) 2 g fd ["_law_script","_law_k","_law_many"] (be K mg sv):=by
 obtain⟨h,j,b⟩:=T.d0u;have c:=Ps P w base T b;refine bE D.fn Df (by decide) ?_;intro d A a s H E F k e f;unfold xL;refine aB ?_ ?_
 ·refine bZ (i:=3) ?_ ?_ ?_ ?_ ?_ ?_<;>try walk_at "z"
  ·exact Df.nd
  ·exact(oU (lX (dX (dX (aR (aO f c b e (bb (pv 0) (au (fv 1) aH)))) (lX (ae av) (fv 1))) (ae av)) (ae av)) (ae av))
 refine aG ?_;refine bu ?_
 ·exact(oU (oU (dX (dX (lX (fv 3) (fv 3)) (lX (ae av) (fv 3))) (fv 1)) (ae av)) (fv 2))
theorem PH{C:Addr}{g:Addr}{fd:FuncData}(T:Tx K mg)(b:dF K mg C)(D:MD K C "step_behind_a_fall" "Hall.step_behind_a_fall" uc ["self","runner","moment"] g fd):az P w K mg base (ba P w) 2 g fd ["self","runner","moment"] (be K mg (pC C)):=by
 obtain⟨l,m,e⟩:=b.d2e;have f:=uH P w base T b e;obtain⟨c,a⟩:=T.d1j;refine bE D.fn yA (by decide) ?_;intro h A d s H E F n j k;unfold sx;refine aB ?_ ?_
 ·refine bZ (i:=3) ?_ ?_ ?_ ?_ ?_ ?_<;>try walk_at "z"
  ·exact yA.nd
  ·exact(aT (cj b.cl b.d1y (pv 0)) (ae av))
 refine aB ?_ ?_
 ·refine bZ (i:=4) ?_ ?_ ?_ ?_ ?_ ?_<;>try walk_at "z"
  ·exact yA.nd
  ·exact(mT (dE (dD (aT (aT (cj b.cl b.d1z (pv 0)) (fv 3)) (ae (dI rfl a))))) (ae ck) (ae ck))
 refine aG ?_;refine eS ?_
 ·exact(eU k b.cl f e j (pv 0) (au (dq (ay (fv 2) (ay (fv 1) (ay (fv 4) (ay (fv 3) (ay (aT (cj b.cl b.d1y (pv 0)) (ae av)) bh)))))) aH))
theorem PJ{g:Addr}{fd:FuncData}(T:Tx K mg)(D:FD K mg "are_shifts" sZ ["thing"] g fd):az P w K mg base (ba P w) 3 g fd ["thing"] (be K mg sy):=by
 obtain⟨p,q,j⟩:=T.d00;have l:=kd P w base T j;obtain⟨g1,f1,k⟩:=T.d01;have m:=uG P w base T k;obtain⟨g2,f2,D2⟩:=T.d02;have n:=Dr P w base T D2;obtain⟨c,a⟩:=T.d15;obtain⟨d,b⟩:=T.d1a;refine bE D.fn uB (by decide) ?_;intro o A h s H E F r e f;unfold xM;refine aB ?_ ?_
 ·refine bK ?_ ?_ ?_
  ·exact(je (lO (fg (dE (dD (jS (jK rfl T.d1p (fv 0) (iV rfl T.d1w nP rfl)))))) (lN (rL (eR iF (fB gE iD rfl T.d1q PySem.boot_len (ay (fv 0) bh))) (ae (dI rfl b))))))
  ·refine aG ?_;refine bu ?_
   ·exact(ae fS)
  ·exact bN
 refine aB ?_ ?_
 ·refine bZ (i:=1) ?_ ?_ ?_ ?_ ?_ ?_<;>try walk_at "z"
  ·exact uB.nd
  ·exact(ae av)
 refine aB ?_ ?_
 ·refine jT ?_ ?_ ?_ ?_ ?_ ?_<;>try walk_at "z"
  ·exact PassesOwn.leaving
  ·exact(kB (fv 0))
  ·exact(di 2 uB.nd)
  ·unfold pD;refine aB ?_ ?_
   ·refine bK ?_ ?_ ?_
    ·exact(je (lO (fg (dE (dD (aR (aO f m k e (au (fv 2) (au (ae av) aH))))))) (lN (fg (dE (dD (aR (aO f n D2 e (au (aT (fv 2) (ae av)) aH)))))))))
    ·refine aG ?_;refine bu ?_
     ·exact(ae fS)
    ·exact bN
   refine aB ?_ ?_
   ·refine bK ?_ ?_ ?_
    ·exact(fg (dE (dD (aR (aO f l j e (au (aT (fv 2) (ae av)) (au (fv 1) (au (ae (dI rfl a)) aH))))))))
    ·refine aG ?_;refine bu ?_
     ·exact(ae fS)
    ·exact bN
   refine aG ?_;refine bZ (i:=1) ?_ ?_ ?_ ?_ ?_ ?_<;>try walk_at "z"
   ·exact uB.nd
   ·exact(dX (aT (fv 2) (ae av)) (ae av))
 refine aG ?_;refine bu ?_
 ·exact(ae fS)
theorem PL{g:Addr}{fd:FuncData}(T:Tx K mg)(D:FD K mg "is_plan" tm ["thing"] g fd):az P w K mg base (ba P w) 3 g fd ["thing"] (be K mg nG):=by
 obtain⟨o,p,h⟩:=T.d08;have i:=Dt P w base T h;obtain⟨g1,f1,j⟩:=T.d03;have l:=Ds P w base T j;obtain⟨g2,f2,D2⟩:=T.d00;have m:=kd P w base T D2;obtain⟨c,a⟩:=T.d17;obtain⟨d,b⟩:=T.d1b;refine bE D.fn OJ (by decide) ?_;intro n A k s H E F q e f;unfold pE;refine aB ?_ ?_
 ·refine bK ?_ ?_ ?_
  ·exact(dE (dD (aR (aO f i h e (au (fv 0) (au (ae ck) (au (ae av) aH)))))))
  ·refine aG ?_;refine eS ?_
   ·exact(aO f l j e (au (aT (fv 0) (ae av)) aH))
  ·exact bN
 refine aB ?_ ?_
 ·refine bK ?_ ?_ ?_
  ·exact(dE (dD (aR (aO f i h e (au (fv 0) (au (ae ck) (au (ae av) aH)))))))
  ·refine aG ?_;refine bu ?_
   ·exact(fE (aR (aO f l j e (au (aT (fv 0) (ae av)) aH))) (gO (aR (aO f m D2 e (au (aT (fv 0) (ae av)) (au (ae av) (au (ae (dI rfl b)) aH)))))))
  ·exact bN
 refine aG ?_;refine bu ?_
 ·exact(fE (aR (aO f i h e (au (fv 0) (au (ae ck) (au (ae av) aH))))) (gO (aR (aO f m D2 e (au (aT (fv 0) (ae av)) (au (ae av) (au (ae (dI rfl a)) aH)))))))
theorem PM{g:Addr}{fd:FuncData}(T:Tx K mg)(D:FD K mg "is_late" tp ["thing"] g fd):az P w K mg base (ba P w) 3 g fd ["thing"] (be K mg nH):=by
 obtain⟨l,m,e⟩:=T.d08;have i:=Dt P w base T e;obtain⟨g1,f1,f⟩:=T.d00;have j:=kd P w base T f;obtain⟨b,a⟩:=T.d1d;refine bE D.fn OK (by decide) ?_;intro k A d s H E F n c h;unfold pF;refine aB ?_ ?_
 ·refine bK ?_ ?_ ?_
  ·exact(dE (dD (jS (jK rfl T.d1p (fv 0) (iV rfl T.d1v Dk rfl)))))
  ·refine aG ?_;refine bu ?_
   ·exact(BA (ni c.units (fv 0) (ae ck)) (gO (ni c.units (fv 0) (ae ck))))
  ·exact bN
 refine aG ?_;refine bu ?_
 ·exact(fE (aR (aO h i e c (au (fv 0) (au (ae ck) (au (ae av) aH))))) (gO (aR (aO h j f c (au (aT (fv 0) (ae av)) (au (ae av) (au (ae (dI rfl a)) aH)))))))
theorem PN{g:Addr}{fd:FuncData}(T:Tx K mg)(D:FD K mg "check_moment" tw ["thing"] g fd):az P w K mg base (ba P w) 3 g fd ["thing"] (be K mg sA):=by
 obtain⟨m,n,e⟩:=T.d03;have i:=Ds P w base T e;obtain⟨j,k⟩:=T.xt0;obtain⟨b,a,_⟩:=k.at_ (c:="NoMoment") (by decide +kernel);refine bE D.fn OO (by decide) ?_;intro l A d s H E F o f h;unfold xN;refine aG ?_;refine bK ?_ ?_ ?_
 ·exact(fg (dE (dD (aR (aO h i e f (au (fv 0) aH))))))
 ·refine aG ?_;exact(jk h f.hd rfl a)
 ·exact bN
theorem PP{g:Addr}{fd:FuncData}(T:Tx K mg)(D:FD K mg "check_runner" tE ["thing"] g fd):az P w K mg base (ba P w) 3 g fd ["thing"] (be K mg sC):=by
 obtain⟨m,n,e⟩:=T.d04;have i:=Pw P w base T e;obtain⟨j,k⟩:=T.xt0;obtain⟨b,a,_⟩:=k.at_ (c:="NoRunner") (by decide +kernel);refine bE D.fn OR (by decide) ?_;intro l A d s H E F o f h;unfold xO;refine aG ?_;refine bK ?_ ?_ ?_
 ·exact(fg (dE (dD (aR (aO h i e f (au (fv 0) aH))))))
 ·refine aG ?_;exact(jk h f.hd rfl a)
 ·exact bN
theorem PQ{g:Addr}{fd:FuncData}(T:Tx K mg)(D:FD K mg "check_term" tF ["thing"] g fd):az P w K mg base (ba P w) 3 g fd ["thing"] (be K mg sE):=by
 obtain⟨m,n,e⟩:=T.d05;have i:=Px P w base T e;obtain⟨j,k⟩:=T.xt0;obtain⟨b,a,_⟩:=k.at_ (c:="NoTerm") (by decide +kernel);refine bE D.fn OS (by decide) ?_;intro l A d s H E F o f h;unfold xP;refine aG ?_;refine bK ?_ ?_ ?_
 ·exact(fg (dE (dD (aR (aO h i e f (au (fv 0) aH))))))
 ·refine aG ?_;exact(jk h f.hd rfl a)
 ·exact bN
theorem PR{g:Addr}{fd:FuncData}(T:Tx K mg)(D:FD K mg "daily_time" tN ["zone","hour","count"] g fd):az P w K mg base (ba P w) 3 g fd ["zone","hour","count"] (be K mg sF):=by
 obtain⟨m,n,d⟩:=T.d0m;have j:=Pz P w base T d;obtain⟨g1,f1,e⟩:=T.d0o;have k:=Du P w base T e;obtain⟨b,a⟩:=T.d1g;refine bE D.fn Db (by decide) ?_;intro l A c s H E F o f h;unfold xQ;refine aB ?_ ?_
 ·refine bZ (i:=3) ?_ ?_ ?_ ?_ ?_ ?_<;>try walk_at "z"
  ·exact Db.nd
  ·exact(dX (aR (aO h k e f (au (fv 0) (au (fv 1) aH)))) (fv 2))
 refine aG ?_;refine eS ?_
 ·exact(aO h j d f (au (fv 0) (au (dX (lX (fv 3) (ae (dI rfl a))) (fv 1)) aH)))
theorem PU{g:Addr}{fd:FuncData}(T:Tx K mg)(D:FD K mg "times_by" tP ["zone","plan","moment"] g fd):az P w K mg base (ba P w) 3 g fd ["zone","plan","moment"] (be K mg kT):=by
 obtain⟨m,n,e⟩:=T.d0n;have j:=PB P w base T e;obtain⟨g1,f1,f⟩:=T.d0o;have k:=Du P w base T f;obtain⟨b,a⟩:=T.d1g;refine bE D.fn Dc (by decide) ?_;intro l A d s H E F o c h;unfold mm;refine aB ?_ ?_
 ·refine bK ?_ ?_ ?_
  ·exact(oV (fv 2) (ae av))
  ·refine aG ?_;refine bu ?_
   ·exact(ae av)
  ·exact bN
 refine aB ?_ ?_
 ·refine bK ?_ ?_ ?_
  ·exact(gx c.units (aT (fv 1) (ae av)) (ae ck))
  ·refine aG ?_;refine bu ?_
   ·exact(mT (rK (aT (fv 1) (ae av)) (fv 2)) (ae av) (ae av))
  ·exact bN
 refine aB ?_ ?_
 ·refine bK ?_ ?_ ?_
  ·exact(gx c.units (aT (fv 1) (ae av)) (ae ck))
  ·refine aG ?_;refine bu ?_
   ·exact(eR ww (fB (vo rfl) we rfl T.d1s uF (ay (ae av) (ay (dX (wU (gR (fv 2) (aT (fv 1) (ae av))) (aT (fv 1) (ae av))) (ae av)) bh))))
  ·exact bN
 refine aB ?_ ?_
 ·refine bZ (i:=3) ?_ ?_ ?_ ?_ ?_ ?_<;>try walk_at "z"
  ·exact Dc.nd
  ·exact(wU (gR (aR (aO h j e c (au (fv 0) (au (fv 2) aH)))) (aT (fv 1) (ae av))) (ae (dI rfl a)))
 refine aG ?_;refine bu ?_
 ·exact(dX (gR (fv 3) (aR (aO h k f c (au (fv 0) (au (aT (fv 1) (ae av)) aH))))) (ae av))
theorem nQ{g:Addr}{fd:FuncData}(T:Tx K mg)(D:FD K mg "_law_draw" uq ["_law_script","_law_town","_law_many"] g fd):az P w K mg base (ba P w) 3 g fd ["_law_script","_law_town","_law_many"] (be K mg da):=by
 obtain⟨h,i,b⟩:=T.d0v;have c:=PD P w base T b;refine bE D.fn Pm (by decide) ?_;intro d A a s H E F j e f;unfold xR;refine aB ?_ ?_
 ·refine rs ?_ ?_ ?_ ?_ ?_ ?_ ?_ ?_<;>try walk_at "z"
  ·exact(pv 1)
  ·exact(ae av)
 refine aG ?_;refine eS ?_
 ·exact(aO f c b e (bb (pv 0) (au (MG rfl T.d1q (pv 1)) (au (fv 2) aH))))
theorem PV{g:Addr}{fd:FuncData}(T:Tx K mg)(D:FD K mg "is_zone" tf ["thing"] g fd):az P w K mg base (ba P w) 4 g fd ["thing"] (be K mg sG):=by
 obtain⟨k,l,d⟩:=T.d01;have f:=uG P w base T d;obtain⟨g1,f1,e⟩:=T.d02;have h:=Dr P w base T e;obtain⟨g2,f2,D2⟩:=T.d06;have i:=PJ P w base T D2;refine bE D.fn OH (by decide) ?_;intro j A c s H E F m a b;unfold xS;refine aG ?_;refine bu ?_
 ·exact(fE (aR (aO b f d a (au (fv 0) (au (ae av) aH)))) (fE (aR (aO b h e a (au (aT (fv 0) (ae av)) aH))) (gO (aR (aO b i D2 a (au (aT (fv 0) (ae av)) aH))))))
theorem PX{g:Addr}{fd:FuncData}(T:Tx K mg)(D:FD K mg "is_deed" tq ["thing"] g fd):az P w K mg base (ba P w) 4 g fd ["thing"] (be K mg sH):=by
 obtain⟨k,l,d⟩:=T.d01;have f:=uG P w base T d;obtain⟨g1,f1,e⟩:=T.d09;have h:=PL P w base T e;obtain⟨g2,f2,D2⟩:=T.d0a;have i:=PM P w base T D2;refine bE D.fn OL (by decide) ?_;intro j A c s H E F m a b;unfold xT;refine aG ?_;refine bu ?_
 ·exact(fE (aR (aO b f d a (au (fv 0) (au (ae av) aH)))) (fE (aR (aO b h e a (au (aT (fv 0) (ae av)) aH))) (fE (aR (aO b i D2 a (au (aT (fv 0) (ae av)) aH))) (gO (jS (jK rfl T.d1p (aT (fv 0) (ae av)) (iV rfl T.d1m Dj rfl)))))))
theorem yD{g:Addr}{fd:FuncData}(T:Tx K mg)(D:FD K mg "time_of" tO ["zone","plan","count"] g fd):az P w K mg base (ba P w) 4 g fd ["zone","plan","count"] (be K mg iq):=by
 obtain⟨h,i,c⟩:=T.d0p;have d:=PR P w base T c;refine bE D.fn OW (by decide) ?_;intro e A b s H E F j a f;unfold nI;refine aB ?_ ?_
 ·refine bK ?_ ?_ ?_
  ·exact(gx a.units (aT (fv 1) (ae av)) (ae ck))
  ·refine aG ?_;refine bu ?_
   ·exact(mT (gx a.units (fv 2) (ae av)) (aT (fv 1) (ae av)) (ae ef))
  ·exact bN
 refine aB ?_ ?_
 ·refine bK ?_ ?_ ?_
  ·exact(gx a.units (aT (fv 1) (ae av)) (ae ck))
  ·refine aG ?_;refine bu ?_
   ·exact(dX (aT (fv 1) (ae av)) (lX (fv 2) (aT (fv 1) (ae av))))
  ·exact bN
 refine aG ?_;refine eS ?_
 ·exact(aO f d c a (au (fv 0) (au (aT (fv 1) (ae av)) (au (fv 2) aH))))
theorem uI{g:Addr}{fd:FuncData}(T:Tx K mg)(D:FD K mg "_law_pick" ur ["_law_script","_law_town","_law_some"] g fd):az P w K mg base (ba P w) 4 g fd ["_law_script","_law_town","_law_some"] (be K mg ir):=by
 obtain⟨h,i,b⟩:=T.d0w;have c:=nQ P w base T b;refine bE D.fn Pn (by decide) ?_;intro d A a s H E F j e f;unfold xW;refine aG ?_;refine bu ?_
 ·exact(aT (fv 2) (aR (aO f c b e (bb (pv 0) (bb (pv 1) (au (eR iF (fB gE iD rfl T.d1q PySem.boot_len (ay (fv 2) bh))) aH))))))
theorem Dv{C:Addr}{g:Addr}{fd:FuncData}(T:Tx K mg)(d:dF K mg C)(D:MD K C "check_call" "Hall.check_call" tT ["self","runner","moment"] g fd):az P w K mg base (ba P w) 4 g fd ["self","runner","moment"] (be K mg (jr C)):=by
 obtain⟨p,q,i⟩:=T.d0h;have k:=PP P w base T i;obtain⟨g1,f1,j⟩:=T.d0e;have l:=PN P w base T j;obtain⟨m,n⟩:=T.xt0;obtain⟨b,a,_⟩:=n.at_ (c:="NoMoment") (by decide +kernel);refine bE D.fn OZ (by decide) ?_;intro o A h s H E F r e f;unfold sI;refine aB ?_ ?_
 ·refine gv ?_ ?_
  ·exact(aO f k i e (au (fv 1) aH))
  ·rfl
 refine aB ?_ ?_
 ·refine gv ?_ ?_
  ·exact(aO f l j e (au (fv 2) aH))
  ·rfl
 refine aG ?_;refine bK ?_ ?_ ?_
 ·exact(je (wv (oW (cj d.cl d.d22 (pv 0)) (ae ef)) (wu (oV (fv 2) (cj d.cl d.d22 (pv 0))))))
 ·refine aG ?_;exact(jk f e.hd rfl a)
 ·exact bN
theorem PY{C:Addr}{g:Addr}{fd:FuncData}(T:Tx K mg)(a:dF K mg C)(D:MD K C "waiting" "Hall.waiting" ui ["self"] g fd):az P w K mg base (ba P w) 4 g fd ["self"] (be K mg (sK C)):=by
 obtain⟨l,m,e⟩:=T.d0r;have i:=PU P w base T e;obtain⟨c,b⟩:=T.d1h;refine bE D.fn Pj (by decide) ?_;intro j A d s H E F o k f;unfold pG;refine aB ?_ ?_
 ·refine bK ?_ ?_ ?_
  ·exact(rM (cj a.cl a.d22 (pv 0)) (ae ef))
  ·refine aG ?_;refine bu ?_
   ·exact(oO f.1 (ag.of (own:=["deed"]) (capN:=[]) (caps:=[])) rfl rfl (kB (cj a.cl a.d1z (pv 0))) (fun _ _ _ _ _ _ h=>⟨(di 0 (show((["deed"]:List Str)++([]:List Str)).Nodup from by decide +kernel)),jW,(ae av)⟩))
  ·exact bN
 refine aG ?_;refine bu ?_
 ·exact(NS f.1 (ag.of (own:=["deed","many"]) (capN:=["self"]) (caps:=[0])) rfl rfl (NT rfl T.d1x a.cl a.d1z a.d24 (pv 0) (pv 0)) (fun _ _ _ _ _ _ h=>⟨(oN (n:=2) rfl (ij (di 0 (show((["deed","many"]:List Str)++(["self"]:List Str)).Nodup from by decide +kernel)) (ij (di 1 (show((["deed","many"]:List Str)++(["self"]:List Str)).Nodup from by decide +kernel)) oM))),jW,(gR (aR (aO (gW h) i e k (au (CD a.cl a.d27 (pv 2)) (au (aT (fv 0) (ae (dI rfl b))) (au (CD a.cl a.d22 (pv 2)) aH))))) (fv 1))⟩))
theorem PZ{g:Addr}{fd:FuncData}(T:Tx K mg)(D:FD K mg "are_deeds" tt ["thing"] g fd):az P w K mg base (ba P w) 5 g fd ["thing"] (be K mg xY):=by
 obtain⟨k,l,d⟩:=T.d0b;have e:=PX P w base T d;obtain⟨b,a⟩:=T.d1c;refine bE D.fn OM (by decide) ?_;intro f A c s H E F m h i;unfold xX;refine aB ?_ ?_
 ·refine bK ?_ ?_ ?_
  ·exact(je (lO (fg (dE (dD (jS (jK rfl T.d1p (fv 0) (iV rfl T.d1w nP rfl)))))) (lN (rL (eR iF (fB gE iD rfl T.d1q PySem.boot_len (ay (fv 0) bh))) (ae (dI rfl a))))))
  ·refine aG ?_;refine bu ?_
   ·exact(ae fS)
  ·exact bN
 refine aG ?_;refine bu ?_
 ·exact(eR Mo (fB (Ls rfl) Lu rfl T.d1l Pp (ay (oO i.1 (ag.of (own:=["deed"]) (capN:=[]) (caps:=[])) rfl rfl (kB (fv 0)) (fun _ _ _ _ _ _ j=>⟨(di 0 (show((["deed"]:List Str)++([]:List Str)).Nodup from by decide +kernel)),jW,(aR (aO (gW j) e d h (au (fv 0) aH)))⟩)) bh)))
theorem Qa{g:Addr}{fd:FuncData}(T:Tx K mg)(D:FD K mg "check_zone" tu ["thing"] g fd):az P w K mg base (ba P w) 5 g fd ["thing"] (be K mg pH):=by
 obtain⟨m,n,e⟩:=T.d07;have i:=PV P w base T e;obtain⟨j,k⟩:=T.xt0;obtain⟨b,a,_⟩:=k.at_ (c:="NoZone") (by decide +kernel);refine bE D.fn ON (by decide) ?_;intro l A d s H E F o f h;unfold xZ;refine aG ?_;refine bK ?_ ?_ ?_
 ·exact(fg (dE (dD (aR (aO h i e f (au (fv 0) aH))))))
 ·refine aG ?_;exact(jk h f.hd rfl a)
 ·exact bN
theorem Qb{g:Addr}{fd:FuncData}(T:Tx K mg)(D:FD K mg "is_left_out" tQ ["zone","deed","count","now"] g fd):az P w K mg base (ba P w) 5 g fd ["zone","deed","count","now"] (be K mg mq):=by
 obtain⟨m,n,f⟩:=T.d0q;have j:=yD P w base T f;obtain⟨c,b⟩:=T.d1h;obtain⟨d,a⟩:=T.d1i;refine bE D.fn Dd (by decide) ?_;intro l A h s H E F o e k;unfold nK;refine aB ?_ ?_
 ·refine bK ?_ ?_ ?_
  ·exact(gx e.units (aT (fv 1) (ae (dI rfl a))) (ae ck))
  ·refine aG ?_;refine bu ?_
   ·exact(ae fS)
  ·exact bN
 refine aB ?_ ?_
 ·refine bK ?_ ?_ ?_
  ·exact(gx e.units (aT (fv 1) (ae (dI rfl a))) (ae ck))
  ·refine aB ?_ ?_
   ·refine bZ (i:=4) ?_ ?_ ?_ ?_ ?_ ?_<;>try walk_at "z"
    ·exact Dd.nd
    ·exact(aR (aO k j f e (au (fv 0) (au (aT (fv 1) (ae (dI rfl b))) (au (dX (fv 2) (ae av)) aH)))))
   refine aG ?_;refine bu ?_
   ·exact(fE (wW (fv 4) (ae ef)) (gO (Ng (fv 4) (fv 3))))
  ·exact bN
 refine aG ?_;refine bu ?_
 ·exact(Nh (gR (fv 3) (aR (aO k j f e (au (fv 0) (au (aT (fv 1) (ae (dI rfl b))) (au (fv 2) aH)))))) (aT (aT (fv 1) (ae (dI rfl a))) (ae av)))
theorem Qc{g:Addr}{fd:FuncData}(T:Tx K mg)(D:FD K mg "_law_zone" uu ["_law_script","_law_town"] g fd):az P w K mg base (ba P w) 5 g fd ["_law_script","_law_town"] (be K mg pJ):=by
 obtain⟨k,l,c⟩:=T.d0w;have d:=nQ P w base T c;obtain⟨g1,f1,f⟩:=T.d0x;have h:=uI P w base T f;refine bE D.fn nO (by decide) ?_;intro j A e s H E F m a b;unfold sM;refine aB ?_ ?_
 ·refine jR (i:=2) ?_ ?_ ?_ ?_ ?_ ?_<;>try walk_at "z"
  ·exact nO.nd
  ·exact(oP bh)
 refine aB ?_ ?_
 ·refine bZ (i:=3) ?_ ?_ ?_ ?_ ?_ ?_<;>try walk_at "z"
  ·exact nO.nd
  ·exact(ae av)
 refine aB ?_ ?_
 ·refine jT ?_ ?_ ?_ ?_ ?_ ?_<;>try walk_at "z"
  ·exact PassesOwn.leaving
  ·exact(kC (kw rfl T.d1u (ay (aR (aO b d c a (bb (pv 0) (bb (pv 1) (au (ae av) aH))))) bh)))
  ·exact(di 4 nO.nd)
  ·unfold pI;refine aB ?_ ?_
   ·refine bZ (i:=3) ?_ ?_ ?_ ?_ ?_ ?_<;>try walk_at "z"
    ·exact nO.nd
    ·exact(dX (dX (fv 3) (ae av)) (aR (aO b d c a (bb (pv 0) (bb (pv 1) (au (aR (aO b h f a (bb (pv 0) (bb (pv 1) (au (gr (ay (ae av) (ay (ae av) (ay (ae av) bh)))) aH))))) aH))))))
   refine aG ?_;refine rs ?_ ?_ ?_ ?_ ?_ ?_ ?_ ?_<;>try walk_at "z"
   ·exact(pv 2)
   ·exact(dq (ay (fv 3) (ay (gR (aR (aO b d c a (bb (pv 0) (bb (pv 1) (au (ae av) aH))))) (ae av)) bh)))
 refine aB ?_ ?_
 ·refine bK ?_ ?_ ?_
  ·exact(gx a.units (aR (aO b d c a (bb (pv 0) (bb (pv 1) (au (ae av) aH))))) (ae av))
  ·refine aG ?_;refine BM (i:=2) (own:=["_law_k","_law_one","_law_more"]) (capN:=[]) (caps:=[]) ?_ ?_ ?_ ?_ ?_ ?_ ?_ ?_ ?_ ?_ ?_ ?_<;>try walk_at "z"
   ·exact nO.nd
   ·exact b.1
   ·exact(ag.of (own:=["_law_k","_law_one","_law_more"]) (capN:=[]) (caps:=[]))
   ·exact(MA (Lh rfl T.d1n (ay (fv 2) bh)))
   ·exact(fun _ _ _ _ _ _ o=>⟨(oN (n:=2) rfl (ij (di 0 (show((["_law_k","_law_one","_law_more"]:List Str)++([]:List Str)).Nodup from by decide +kernel)) (ij (oN (n:=2) rfl (ij (di 1 (show((["_law_k","_law_one","_law_more"]:List Str)++([]:List Str)).Nodup from by decide +kernel)) (ij (di 2 (show((["_law_k","_law_one","_law_more"]:List Str)++([]:List Str)).Nodup from by decide +kernel)) oM))) oM))),jW,(dq (ay (fv 1) (ay (dX (ae av) (oU (fv 0) (ae av))) bh)))⟩)
  ·exact bN
 refine aG ?_;refine bu ?_
 ·exact(dq (ay (gR (aR (aO b d c a (bb (pv 0) (bb (pv 1) (au (ae av) aH))))) (ae av)) (ay (eR BB (AE vC Ba rfl T.d1w nP (ay (fv 2) bh))) bh)))
theorem Qd{g:Addr}{fd:FuncData}(T:Tx K mg)(D:FD K mg "_law_plan" uv ["_law_script","_law_town"] g fd):az P w K mg base (ba P w) 5 g fd ["_law_script","_law_town"] (be K mg nL):=by
 obtain⟨k,l,c⟩:=T.d0w;have d:=nQ P w base T c;obtain⟨g1,f1,e⟩:=T.d0x;have h:=uI P w base T e;refine bE D.fn yC (by decide) ?_;intro j A f s H E F m a b;unfold pK;refine aB ?_ ?_
 ·refine bZ (i:=2) ?_ ?_ ?_ ?_ ?_ ?_<;>try walk_at "z"
  ·exact yC.nd
  ·exact(aR (aO b d c a (bb (pv 0) (bb (pv 1) (au (ae av) aH)))))
 refine aB ?_ ?_
 ·refine bK ?_ ?_ ?_
  ·exact(gx a.units (fv 2) (ae av))
  ·refine aG ?_;refine bu ?_
   ·exact(dq (ay (ae ck) (ay (aR (aO b d c a (bb (pv 0) (bb (pv 1) (au (aR (aO b h e a (bb (pv 0) (bb (pv 1) (au (gr (ay (ae av) (ay (ae av) (ay (ae av) bh)))) aH))))) aH))))) bh)))
  ·exact bN
 refine aB ?_ ?_
 ·refine bK ?_ ?_ ?_
  ·exact(oV (fv 2) (ae av))
  ·refine aB ?_ ?_
   ·refine bZ (i:=3) ?_ ?_ ?_ ?_ ?_ ?_<;>try walk_at "z"
    ·exact yC.nd
    ·exact(dX (ae av) (aR (aO b d c a (bb (pv 0) (bb (pv 1) (au (aR (aO b h e a (bb (pv 0) (bb (pv 1) (au (gr (ay (ae av) (ay (ae av) (ay (ae av) bh)))) aH))))) aH))))))
   refine aG ?_;refine bu ?_
   ·exact(dq (ay (ae ck) (ay (aR (aO b d c a (bb (pv 0) (bb (pv 1) (au (ae av) aH))))) (ay (fv 3) bh))))
  ·exact bN
 refine aG ?_;refine bu ?_
 ·exact(dq (ay (ae ck) (ay (aR (aO b d c a (bb (pv 0) (bb (pv 1) (au (ae av) aH))))) bh)))
theorem Qe{g:Addr}{fd:FuncData}(T:Tx K mg)(D:FD K mg "_law_call" ux ["_law_script","_law_town","_law_now","_law_holder"] g fd):az P w K mg base (ba P w) 5 g fd ["_law_script","_law_town","_law_now","_law_holder"] (be K mg kU):=by
 obtain⟨k,l,c⟩:=T.d0w;have d:=nQ P w base T c;obtain⟨g1,f1,e⟩:=T.d0x;have h:=uI P w base T e;refine bE D.fn pZ (by decide) ?_;intro j A f s H E F m a b;unfold CV;refine aB ?_ ?_
 ·refine bZ (i:=4) ?_ ?_ ?_ ?_ ?_ ?_<;>try walk_at "z"
  ·exact pZ.nd
  ·exact(aR (aO b d c a (bb (pv 0) (bb (pv 1) (au (ae av) aH)))))
 refine aB ?_ ?_
 ·refine bK ?_ ?_ ?_
  ·exact(je (wv (oW (fv 3) (ae ef)) (wu (rL (aR (aO b d c a (bb (pv 0) (bb (pv 1) (au (ae av) aH))))) (ae av)))))
  ·refine aG ?_;refine bZ (i:=4) ?_ ?_ ?_ ?_ ?_ ?_<;>try walk_at "z"
   ·exact pZ.nd
   ·exact(fv 3)
  ·exact bN
 refine aB ?_ ?_
 ·refine bZ (i:=5) ?_ ?_ ?_ ?_ ?_ ?_<;>try walk_at "z"
  ·exact pZ.nd
  ·exact(dX (fv 2) (aR (aO b h e a (bb (pv 0) (bb (pv 1) (au (gr (ay (ae av) (ay (ae av) (ay (ae av) (ay (ae av) (ay (ae av) (ay (aR (aO b d c a (bb (pv 0) (bb (pv 1) (au (ae av) aH))))) bh))))))) aH))))))
 refine aB ?_ ?_
 ·refine bZ (i:=6) ?_ ?_ ?_ ?_ ?_ ?_<;>try walk_at "z"
  ·exact pZ.nd
  ·exact(aR (aO b d c a (bb (pv 0) (bb (pv 1) (au (ae av) aH)))))
 refine aB ?_ ?_
 ·refine bK ?_ ?_ ?_
  ·exact(je (lO (rM (fv 3) (ae ef)) (lN (oV (fv 6) (ae av)))))
  ·refine aG ?_;refine bu ?_
   ·exact(dq (ay (ae ck) (ay (fv 4) (ay (fv 5) (ay (dX (ae av) (aR (aO b d c a (bb (pv 0) (bb (pv 1) (au (aR (aO b h e a (bb (pv 0) (bb (pv 1) (au (gr (ay (ae av) (ay (ae av) bh))) aH))))) aH)))))) bh)))))
  ·exact bN
 refine aB ?_ ?_
 ·refine bK ?_ ?_ ?_
  ·exact(gx a.units (fv 6) (ae av))
  ·refine aG ?_;refine bu ?_
   ·exact(dq (ay (ae ck) (ay (fv 4) (ay (fv 5) bh))))
  ·exact bN
 refine aG ?_;refine bu ?_
 ·exact(aT (Nf (gr (ay (dq (ay (ae ck) (ay (fv 4) (ay (fv 5) bh)))) (ay (dq (ay (ae ck) (ay (fv 4) (ay (fv 5) bh)))) bh))) (ae av)) (gR (fv 6) (ae av)))
theorem yE{C:Addr}{g:Addr}{fd:FuncData}(T:Tx K mg)(d:dF K mg C)(D:MD K C "check_holder" "Hall.check_holder" tU ["self","runner","moment"] g fd):az P w K mg base (ba P w) 5 g fd ["self","runner","moment"] (be K mg (eE C)):=by
 obtain⟨p,q,i⟩:=d.d2a;have k:=Dv P w base T d i;obtain⟨g1,f1,j⟩:=d.d29;have l:=Dn P w base T d j;obtain⟨m,n⟩:=T.xt0;obtain⟨b,a,_⟩:=n.at_ (c:="NotHolder") (by decide +kernel);refine bE D.fn Pa (by decide) ?_;intro o A h s H E F r e f;unfold pL;refine aB ?_ ?_
 ·refine gv ?_ ?_
  ·exact(eU f d.cl k i e (pv 0) (au (fv 1) (au (fv 2) aH)))
  ·rfl
 refine aG ?_;refine bK ?_ ?_ ?_
 ·exact(je (lO (fg (dE (dD (aR (eU f d.cl l j e (pv 0) (au (fv 2) aH)))))) (lN (lY e.units (cj d.cl d.d20 (pv 0)) (fv 1)))))
 ·refine aG ?_;exact(jk f e.hd rfl a)
 ·exact bN
theorem Qf{C:Addr}{g:Addr}{fd:FuncData}(T:Tx K mg)(a:dF K mg C)(D:MD K C "take" "Hall.take" tV ["self","runner","moment","term"] g fd):az P w K mg base (ba P w) 5 g fd ["self","runner","moment","term"] (be K mg (mr C)):=by
 obtain⟨l,m,e⟩:=a.d2a;have h:=Dv P w base T a e;obtain⟨g1,f1,f⟩:=T.d0i;have i:=PQ P w base T f;obtain⟨g2,f2,D2⟩:=a.d29;have j:=Dn P w base T a D2;refine bE D.fn Pb (by decide) ?_;intro k A d s H E F n b c;unfold pM;refine aB ?_ ?_
 ·refine gv ?_ ?_
  ·exact(eU c a.cl h e b (pv 0) (au (fv 1) (au (fv 2) aH)))
  ·rfl
 refine aB ?_ ?_
 ·refine gv ?_ ?_
  ·exact(aO c i f b (au (fv 3) aH))
  ·rfl
 refine aB ?_ ?_
 ·refine ek ?_ ?_ ?_ ?_ ?_
  ·exact a.cl
  ·exact a.d22
  ·exact(pv 0)
  ·exact(fv 2)
  ·rfl
 refine aB ?_ ?_
 ·refine bK ?_ ?_ ?_
  ·exact(fg (dE (dD (aR (eU c a.cl j D2 b (pv 0) (au (fv 2) aH))))))
  ·refine aG ?_;refine Nu ?_ ?_ ?_ ?_
   ·exact a.cl
   ·exact a.d21
   ·exact(pv 0)
   ·exact vc
  ·refine aG ?_;refine bK ?_ ?_ ?_
   ·exact(lY b.units (cj a.cl a.d20 (pv 0)) (fv 1))
   ·refine aG ?_;refine bu ?_
    ·exact(ae fS)
   ·exact bN
 refine aB ?_ ?_
 ·refine ek ?_ ?_ ?_ ?_ ?_
  ·exact a.cl
  ·exact a.d20
  ·exact(pv 0)
  ·exact(fv 1)
  ·rfl
 refine aB ?_ ?_
 ·refine ek ?_ ?_ ?_ ?_ ?_
  ·exact a.cl
  ·exact a.d25
  ·exact(pv 0)
  ·exact(dX (fv 2) (fv 3))
  ·rfl
 refine aG ?_;refine bu ?_
 ·exact(ae fS)
theorem Qg{C:Addr}{g:Addr}{fd:FuncData}(T:Tx K mg)(b:dF K mg C)(D:MD K C "first_unsettled" "Hall.first_unsettled" ua ["self"] g fd):az P w K mg base (ba P w) 5 g fd ["self"] (be K mg (yb C)):=by
 obtain⟨l,m,e⟩:=T.d0q;have h:=yD P w base T e;obtain⟨c,a⟩:=T.d1h;refine bE D.fn pW (by decide) ?_;intro j A d s H E F n f k;unfold CW;refine aB ?_ ?_
 ·refine jR (i:=1) ?_ ?_ ?_ ?_ ?_ ?_<;>try walk_at "z"
  ·exact pW.nd
  ·exact(oP bh)
 refine aB ?_ ?_
 ·refine jT ?_ ?_ ?_ ?_ ?_ ?_<;>try walk_at "z"
  ·exact PassesOwn.leaving
  ·exact(kC (kw rfl T.d1u (ay (eR iF (fB gE iD rfl T.d1q PySem.boot_len (ay (cj b.cl b.d1z (pv 0)) bh))) bh)))
  ·exact(di 2 pW.nd)
  ·unfold kW;refine aB ?_ ?_
   ·refine bZ (i:=3) ?_ ?_ ?_ ?_ ?_ ?_<;>try walk_at "z"
    ·exact pW.nd
    ·exact(Nr b.cl b.d24 (pv 0) (pv 2))
   refine aB ?_ ?_
   ·refine bZ (i:=4) ?_ ?_ ?_ ?_ ?_ ?_<;>try walk_at "z"
    ·exact pW.nd
    ·exact(aR (aO k h e f (au (cj b.cl b.d27 (pv 0)) (au (aT (aT (cj b.cl b.d1z (pv 0)) (fv 2)) (ae (dI rfl a))) (au (fv 3) aH)))))
   refine aG ?_;refine bK ?_ ?_ ?_
   ·exact(oW (fv 4) (ae ef))
   ·refine aG ?_;refine rs ?_ ?_ ?_ ?_ ?_ ?_ ?_ ?_<;>try walk_at "z"
    ·exact(pv 1)
    ·exact(dq (ay (fv 4) (ay (fv 2) (ay (fv 3) bh))))
   ·exact bN
 refine aG ?_;refine bu ?_
 ·exact(Oe (qM f) rfl rfl T.d1t (pv 1))
theorem Qh{C:Addr}{g:Addr}{fd:FuncData}(T:Tx K mg)(a:dF K mg C)(D:MD K C "state" "Hall.state" uf ["self","deed","count"] g fd):az P w K mg base (ba P w) 5 g fd ["self","deed","count"] (be K mg (yc C)):=by
 obtain⟨u,v,l⟩:=T.d0f;have n:=Py P w base T l;obtain⟨g1,f1,m⟩:=T.d0q;have o:=yD P w base T m;obtain⟨g2,f2,D2⟩:=T.d00;have p:=kd P w base T D2;obtain⟨h,d⟩:=T.d1h;obtain⟨q,r⟩:=T.xt0;obtain⟨e,b,_⟩:=r.at_ (c:="NoDeed") (by decide +kernel);refine bE D.fn De (by decide) ?_;intro t A k s H E F x f j;unfold pN;refine aB ?_ ?_
 ·refine bK ?_ ?_ ?_
  ·exact(fg (dE (dD (aR (aO j p D2 f (au (fv 1) (au (ae av) (au (gR (eR iF (fB gE iD rfl T.d1q PySem.boot_len (ay (cj a.cl a.d1z (pv 0)) bh))) (ae av)) aH))))))))
  ·refine aG ?_;exact(jk j f.hd rfl b)
  ·exact bN
 refine aB ?_ ?_
 ·refine gv ?_ ?_
  ·exact(aO j n l f (au (fv 2) aH))
  ·rfl
 refine aB ?_ ?_
 ·refine bK ?_ ?_ ?_
  ·exact(Om (qM f) a.cl a.d26 (pv 0) (pv 1) (pv 2))
  ·refine aG ?_;refine bu ?_
   ·exact(Ol (qM f) a.cl a.d26 (pv 0) (pv 1) (pv 2))
  ·exact bN
 refine aB ?_ ?_
 ·refine bZ (i:=3) ?_ ?_ ?_ ?_ ?_ ?_<;>try walk_at "z"
  ·exact De.nd
  ·exact(aR (aO j o m f (au (cj a.cl a.d27 (pv 0)) (au (aT (aT (cj a.cl a.d1z (pv 0)) (fv 1)) (ae (dI rfl d))) (au (fv 2) aH)))))
 refine aB ?_ ?_
 ·refine bK ?_ ?_ ?_
  ·exact(rM (fv 3) (ae ef))
  ·refine aG ?_;refine bu ?_
   ·exact(ae ck)
  ·exact bN
 refine aG ?_;refine bu ?_
 ·exact(mT (je (wv (oW (cj a.cl a.d22 (pv 0)) (ae ef)) (wu (rK (fv 3) (cj a.cl a.d22 (pv 0)))))) (ae ck) (ae ck))
theorem Qi{g:Addr}{fd:FuncData}(T:Tx K mg)(D:FD K mg "check_deeds" tz ["thing"] g fd):az P w K mg base (ba P w) 6 g fd ["thing"] (be K mg pO):=by
 obtain⟨m,n,e⟩:=T.d0c;have i:=PZ P w base T e;obtain⟨j,k⟩:=T.xt0;obtain⟨b,a,_⟩:=k.at_ (c:="NoDeeds") (by decide +kernel);refine bE D.fn OQ (by decide) ?_;intro l A d s H E F o f h;unfold yd;refine aG ?_;refine bK ?_ ?_ ?_
 ·exact(fg (dE (dD (aR (aO h i e f (au (fv 0) aH))))))
 ·refine aG ?_;exact(jk h f.hd rfl a)
 ·exact bN
theorem Qj{g:Addr}{fd:FuncData}(T:Tx K mg)(D:FD K mg "_law_deeds" uw ["_law_script","_law_town"] g fd):az P w K mg base (ba P w) 6 g fd ["_law_script","_law_town"] (be K mg sN):=by
 obtain⟨l,m,c⟩:=T.d0w;have e:=nQ P w base T c;obtain⟨g1,f1,d⟩:=T.d0x;have f:=uI P w base T d;obtain⟨g2,f2,D2⟩:=T.d0z;have j:=Qd P w base T D2;refine bE D.fn pY (by decide) ?_;intro k A h s H E F n a b;unfold ye;refine aB ?_ ?_
 ·refine jR (i:=2) ?_ ?_ ?_ ?_ ?_ ?_<;>try walk_at "z"
  ·exact pY.nd
  ·exact(oP bh)
 refine aB ?_ ?_
 ·refine jT ?_ ?_ ?_ ?_ ?_ ?_<;>try walk_at "z"
  ·exact PassesOwn.leaving
  ·exact(kC (kw rfl T.d1u (ay (aR (aO b e c a (bb (pv 0) (bb (pv 1) (au (aR (aO b f d a (bb (pv 0) (bb (pv 1) (au (gr (ay (ae av) (ay (ae av) (ay (ae av) bh)))) aH))))) aH))))) bh)))
  ·exact(di 3 pY.nd)
  ·unfold pP;refine aB ?_ ?_
   ·refine bZ (i:=4) ?_ ?_ ?_ ?_ ?_ ?_<;>try walk_at "z"
    ·exact pY.nd
    ·exact(aR (aO b e c a (bb (pv 0) (bb (pv 1) (au (aR (aO b f d a (bb (pv 0) (bb (pv 1) (au (gr (ay (ae av) (ay (ae av) (ay (ae av) bh)))) aH))))) aH)))))
   refine aB ?_ ?_
   ·refine bZ (i:=5) ?_ ?_ ?_ ?_ ?_ ?_<;>try walk_at "z"
    ·exact pY.nd
    ·exact(aR (aO b f d a (bb (pv 0) (bb (pv 1) (au (gr (ay (ae ck) (ay (ae ck) (ay (dq (ay (ae ck) (ay (fv 4) bh))) bh)))) aH)))))
   refine aG ?_;refine rs ?_ ?_ ?_ ?_ ?_ ?_ ?_ ?_<;>try walk_at "z"
   ·exact(pv 2)
   ·exact(dq (ay (aR (aO b j D2 a (bb (pv 0) (bb (pv 1) aH)))) (ay (fv 5) (ay (ni a.units (aR (aO b e c a (bb (pv 0) (bb (pv 1) (au (ae av) aH))))) (ae av)) bh))))
 refine aG ?_;refine bu ?_
 ·exact(eR BB (AE vC Ba rfl T.d1w nP (ay (fv 2) bh)))
theorem Qk{C:Addr}{g:Addr}{fd:FuncData}(T:Tx K mg)(a:dF K mg C)(D:FD K mg "_law_seen" uA ["_law_hall","_law_many"] g fd):az P w K mg base (ba P w) 6 g fd ["_law_hall","_law_many"] (be K mg (iO C)):=by
 obtain⟨t,u,f⟩:=a.d2m;have m:=Dp P w base T a f;obtain⟨g1,f1,h⟩:=a.d2n;have n:=Pu P w base T a h;obtain⟨g2,f2,D2⟩:=a.d2o;have o:=PY P w base T a D2;obtain⟨g3,v,j⟩:=a.d2p;have p:=Dq P w base T a j;obtain⟨x,y,l⟩:=a.d2l;have q:=Qh P w base T a l;refine bE D.fn Di (by decide) ?_;intro r A e s H E F z b c;unfold yf;refine aB ?_ ?_
 ·refine Oj (i:=2) (own:=["_law_deed"]) (capN:=["_law_hall"]) (caps:=[0]) (k:=0) (jm:=0) ?_ ?_ ?_ ?_ ?_ ?_ ?_ ?_ ?_ ?_ ?_ ?_ ?_<;>try walk_at "z"
  ·exact Di.nd
  ·exact c.1
  ·exact(ag.of (own:=["_law_deed"]) (capN:=["_law_hall"]) (caps:=[0]))
  ·exact(kC (kw rfl T.d1u (ay (fv 1) bh)))
  ·exact(fun _ _ _ _ _ _ d=>⟨(di 0 (show((["_law_deed"]:List Str)++(["_law_hall"]:List Str)).Nodup from by decide +kernel)),jW,(Oi (k:=1) (jm:=1) d (ag.of (own:=["_law_count"]) (capN:=["_law_deed","_law_hall"]) (caps:=[0,1])) rfl rfl rfl (kC (kw rfl T.d1u (ay (ae av) bh))) (fun _ _ _ _ _ _ d=>⟨(di 0 (show((["_law_count"]:List Str)++(["_law_deed","_law_hall"]:List Str)).Nodup from by decide +kernel)),jW,(aR (eU (gW d) a.cl q l b (pv 2) (au (fv 1) (au (fv 0) aH))))⟩))⟩)
 refine aG ?_;refine bu ?_
 ·exact(dq (ay (fv 2) (ay (aR (dR c a.cl m f b (pv 0))) (ay (aR (dR c a.cl n h b (pv 0))) (ay (aR (dR c a.cl o D2 b (pv 0))) (ay (aR (dR c a.cl p j b (pv 0))) bh))))))
theorem Ql{C:Addr}{g:Addr}{fd:FuncData}(T:Tx K mg)(a:dF K mg C)(D:MD K C "give" "Hall.give" tW ["self","runner","moment"] g fd):az P w K mg base (ba P w) 6 g fd ["self","runner","moment"] (be K mg (kX C)):=by
 obtain⟨i,j,c⟩:=a.d2b;have d:=yE P w base T a c;refine bE D.fn Pc (by decide) ?_;intro e A b s H E F k f h;unfold sQ;refine aB ?_ ?_
 ·refine gv ?_ ?_
  ·exact(eU h a.cl d c f (pv 0) (au (fv 1) (au (fv 2) aH)))
  ·rfl
 refine aB ?_ ?_
 ·refine ek ?_ ?_ ?_ ?_ ?_
  ·exact a.cl
  ·exact a.d22
  ·exact(pv 0)
  ·exact(fv 2)
  ·rfl
 refine aG ?_;refine ek ?_ ?_ ?_ ?_ ?_
 ·exact a.cl
 ·exact a.d20
 ·exact(pv 0)
 ·exact(ae ef)
 ·rfl
theorem Qm{C:Addr}{g:Addr}{fd:FuncData}(T:Tx K mg)(a:dF K mg C)(D:MD K C "step_ahead" "Hall.step_ahead" ud ["self","runner","moment"] g fd):az P w K mg base (ba P w) 6 g fd ["self","runner","moment"] (be K mg (ms C)):=by
 obtain⟨m,n,e⟩:=a.d2g;have h:=Qg P w base T a e;obtain⟨g1,f1,f⟩:=a.d2e;have j:=uH P w base T a f;obtain⟨g2,f2,D2⟩:=T.d0s;have k:=Qb P w base T D2;refine bE D.fn pX (by decide) ?_;intro l A d s H E F o b c;unfold nM;refine aB ?_ ?_
 ·refine bZ (i:=3) ?_ ?_ ?_ ?_ ?_ ?_<;>try walk_at "z"
  ·exact pX.nd
  ·exact(aR (dR c a.cl h e b (pv 0)))
 refine aB ?_ ?_
 ·refine bK ?_ ?_ ?_
  ·exact(rM (fv 3) (ae ef))
  ·refine aG ?_;refine bu ?_
   ·exact(dq (ay (ae ck) (ay (ae ef) bh)))
  ·exact bN
 refine aB ?_ ?_
 ·refine bK ?_ ?_ ?_
  ·exact(rL (aT (fv 3) (ae av)) (fv 2))
  ·refine aG ?_;refine bu ?_
   ·exact(dq (ay (ae ck) (ay (aT (fv 3) (ae av)) bh)))
  ·exact bN
 refine aB ?_ ?_
 ·refine bZ (i:=4) ?_ ?_ ?_ ?_ ?_ ?_<;>try walk_at "z"
  ·exact pX.nd
  ·exact(aT (fv 3) (ae av))
 refine aB ?_ ?_
 ·refine bZ (i:=5) ?_ ?_ ?_ ?_ ?_ ?_<;>try walk_at "z"
  ·exact pX.nd
  ·exact(aT (fv 3) (ae av))
 refine aB ?_ ?_
 ·refine bZ (i:=6) ?_ ?_ ?_ ?_ ?_ ?_<;>try walk_at "z"
  ·exact pX.nd
  ·exact(mT (dE (dD (aR (aO c k D2 b (au (cj a.cl a.d27 (pv 0)) (au (aT (cj a.cl a.d1z (pv 0)) (fv 4)) (au (fv 5) (au (fv 2) aH)))))))) (ae ck) (ae ck))
 refine aG ?_;refine eS ?_
 ·exact(eU c a.cl j f b (pv 0) (au (dq (ay (fv 2) (ay (fv 1) (ay (fv 6) (ay (fv 4) (ay (fv 5) bh)))))) aH))
theorem Qn{C:Addr}{g:Addr}{fd:FuncData}(T:Tx K mg)(a:dF K mg C)(D:MD K C "finish" "Hall.finish" ue ["self","runner","moment"] g fd):az P w K mg base (ba P w) 6 g fd ["self","runner","moment"] (be K mg (jt C)):=by
 obtain⟨q,r,i⟩:=a.d2b;have k:=yE P w base T a i;obtain⟨g1,f1,j⟩:=a.d2e;have l:=uH P w base T a j;obtain⟨g2,f2,D2⟩:=a.d2f;have m:=Do P w base T a D2;obtain⟨n,o⟩:=T.xt0;obtain⟨d,b,_⟩:=o.at_ (c:="Nothing") (by decide +kernel);refine bE D.fn Pf (by decide) ?_;intro p A h s H E F t e f;unfold pQ;refine aB ?_ ?_
 ·refine gv ?_ ?_
  ·exact(eU f a.cl k i e (pv 0) (au (fv 1) (au (fv 2) aH)))
  ·rfl
 refine aB ?_ ?_
 ·refine bK ?_ ?_ ?_
  ·exact(fg (dE (dD (aR (dR f a.cl m D2 e (pv 0))))))
  ·refine aG ?_;exact(jk f e.hd rfl b)
  ·exact bN
 refine aB ?_ ?_
 ·refine ek ?_ ?_ ?_ ?_ ?_
  ·exact a.cl
  ·exact a.d22
  ·exact(pv 0)
  ·exact(fv 2)
  ·rfl
 refine aG ?_;refine eS ?_
 ·exact(eU f a.cl l j e (pv 0) (au (dq (ay (fv 2) (ay (fv 1) (ay (ae ck) (ay (aT (cj a.cl a.d1y (pv 0)) (ae av)) (ay (aT (cj a.cl a.d1y (pv 0)) (ae av)) bh)))))) aH))
theorem Dw{C:Addr}{g:Addr}{fd:FuncData}(T:Tx K mg)(a:dF K mg C)(D:MD K C "__init__" "Hall.__init__" tR ["self","zone","deeds"] g fd):az P w K mg base (ba P w) 7 g fd ["self","zone","deeds"] (be K mg (pR C)):=by
 obtain⟨k,l,d⟩:=T.d0d;have h:=Qa P w base T d;obtain⟨g1,f1,e⟩:=T.d0g;have i:=Qi P w base T e;refine bE D.fn OX (by decide) ?_;intro j A c s H E F m f b;unfold yg;refine aB ?_ ?_
 ·refine gv ?_ ?_
  ·exact(aO b h d f (au (fv 1) aH))
  ·rfl
 refine aB ?_ ?_
 ·refine gv ?_ ?_
  ·exact(aO b i e f (au (fv 2) aH))
  ·rfl
 refine aB ?_ ?_
 ·refine ek ?_ ?_ ?_ ?_ ?_
  ·exact a.cl
  ·exact a.d27
  ·exact(pv 0)
  ·exact(fv 1)
  ·rfl
 refine aB ?_ ?_
 ·refine ek ?_ ?_ ?_ ?_ ?_
  ·exact a.cl
  ·exact a.d1z
  ·exact(pv 0)
  ·exact(fv 2)
  ·rfl
 refine aB ?_ ?_
 ·refine ek ?_ ?_ ?_ ?_ ?_
  ·exact a.cl
  ·exact a.d22
  ·exact(pv 0)
  ·exact(ae ef)
  ·rfl
 refine aB ?_ ?_
 ·refine ek ?_ ?_ ?_ ?_ ?_
  ·exact a.cl
  ·exact a.d20
  ·exact(pv 0)
  ·exact(ae ef)
  ·rfl
 refine aB ?_ ?_
 ·refine ek ?_ ?_ ?_ ?_ ?_
  ·exact a.cl
  ·exact a.d25
  ·exact(pv 0)
  ·exact(ae av)
  ·rfl
 refine aB ?_ ?_
 ·refine ek ?_ ?_ ?_ ?_ ?_
  ·exact a.cl
  ·exact a.d21
  ·exact(pv 0)
  ·exact(ae av)
  ·rfl
 refine aB ?_ ?_
 ·refine ek ?_ ?_ ?_ ?_ ?_
  ·exact a.cl
  ·exact a.d1y
  ·exact(pv 0)
  ·exact(ae ef)
  ·rfl
 refine aB ?_ ?_
 ·refine Nv ?_ ?_ ?_ ?_
  ·exact a.cl
  ·exact a.d23
  ·exact(pv 0)
  ·rfl
 refine aB ?_ ?_
 ·refine Nw ?_ ?_ ?_ ?_
  ·exact a.cl
  ·exact a.d26
  ·exact(pv 0)
  ·rfl
 refine aG ?_;refine NY (own:=["deed"]) (capN:=[]) (caps:=[]) ?_ ?_ ?_ ?_ ?_ ?_ ?_ ?_ ?_ ?_ ?_<;>try walk_at "z"
 ·exact a.cl
 ·exact a.d24
 ·exact(pv 0)
 ·exact b.1
 ·exact(ag.of (own:=["deed"]) (capN:=[]) (caps:=[]))
 ·exact(kB (fv 2))
 ·exact(fun _ _ _ _ _ _ n=>⟨(di 0 (show((["deed"]:List Str)++([]:List Str)).Nodup from by decide +kernel)),jW,(ae av)⟩)
theorem Qo{C:Addr}{g:Addr}{fd:FuncData}(T:Tx K mg)(a:dF K mg C)(D:MD K C "step" "Hall.step" ub ["self","runner","moment"] g fd):az P w K mg base (ba P w) 7 g fd ["self","runner","moment"] (be K mg (ju C)):=by
 obtain⟨n,o,e⟩:=a.d2b;have i:=yE P w base T a e;obtain⟨g1,f1,f⟩:=a.d2f;have j:=Do P w base T a f;obtain⟨g2,f2,D2⟩:=a.d2j;have k:=Qm P w base T a D2;obtain⟨g3,p,h⟩:=a.d2i;have l:=PH P w base T a h;refine bE D.fn Pe (by decide) ?_;intro m A d s H E F q b c;unfold nN;refine aB ?_ ?_
 ·refine gv ?_ ?_
  ·exact(eU c a.cl i e b (pv 0) (au (fv 1) (au (fv 2) aH)))
  ·rfl
 refine aB ?_ ?_
 ·refine ek ?_ ?_ ?_ ?_ ?_
  ·exact a.cl
  ·exact a.d22
  ·exact(pv 0)
  ·exact(fv 2)
  ·rfl
 refine aB ?_ ?_
 ·refine bK ?_ ?_ ?_
  ·exact(dE (dD (aR (dR c a.cl j f b (pv 0)))))
  ·refine aG ?_;refine bu ?_
   ·exact(dq (ay (ae ck) (ay (aT (cj a.cl a.d1y (pv 0)) (ae av)) (ay (aT (cj a.cl a.d1y (pv 0)) (ae av)) bh))))
  ·exact bN
 refine aB ?_ ?_
 ·refine bK ?_ ?_ ?_
  ·exact(oW (cj a.cl a.d1y (pv 0)) (ae ef))
  ·refine aG ?_;refine eS ?_
   ·exact(eU c a.cl l h b (pv 0) (au (fv 1) (au (fv 2) aH)))
  ·exact bN
 refine aG ?_;refine eS ?_
 ·exact(eU c a.cl k D2 b (pv 0) (au (fv 1) (au (fv 2) aH)))
theorem Qp{C:Addr}{g:Addr}{fd:FuncData}(T:Tx K mg)(a:dF K mg C)(D:FD K mg "_law_do" uz ["_law_hall","_law_call_here"] g fd):az P w K mg base (ba P w) 8 g fd ["_law_hall","_law_call_here"] (be K mg (dM C)):=by
 obtain⟨I,J,o⟩:=a.d2k;have r:=Qn P w base T a o;obtain⟨g1,f1,p⟩:=a.d2c;have t:=Qf P w base T a p;obtain⟨g2,f2,D2⟩:=a.d2d;have u:=Ql P w base T a D2;obtain⟨g3,L,q⟩:=a.d2h;have v:=Qo P w base T a q;obtain⟨M,N,e⟩:=T.d12;have x:=Pt P w base T e;obtain⟨f,O⟩:=T.xt0;refine bE D.fn Dh (by decide) ?_;intro y A n s H E F Q d z;unfold kc;refine aG ?_;refine MP (D:=f) (i:=2) ?_ ?_ ?_ ?_ ?_ ?_ ?_ ?_ ?_ ?_<;>try walk_at "z"
 ·exact Dh.nd
 ·exact z.1
 ·intro B k l R c G;refine aB ?_ ?_
  ·refine bK ?_ ?_ ?_
   ·exact(gx d.units (aT (fv 1) (ae av)) (ae ck))
   ·refine aG ?_;refine eS ?_
    ·exact(eU c a.cl t p d (pv 0) (au (aT (fv 1) (ae av)) (au (aT (fv 1) (ae av)) (au (aT (fv 1) (ae av)) aH))))
   ·exact bN
  refine aB ?_ ?_
  ·refine bK ?_ ?_ ?_
   ·exact(gx d.units (aT (fv 1) (ae av)) (ae ck))
   ·refine aG ?_;refine eS ?_
    ·exact(eU c a.cl u D2 d (pv 0) (au (aT (fv 1) (ae av)) (au (aT (fv 1) (ae av)) aH)))
   ·exact bN
  refine aB ?_ ?_
  ·refine bK ?_ ?_ ?_
   ·exact(gx d.units (aT (fv 1) (ae av)) (ae ck))
   ·refine aG ?_;refine eS ?_
    ·exact(eU c a.cl v q d (pv 0) (au (aT (fv 1) (ae av)) (au (aT (fv 1) (ae av)) aH)))
   ·exact bN
  refine aG ?_;refine eS ?_
  ·exact(eU c a.cl r o d (pv 0) (au (aT (fv 1) (ae av)) (au (aT (fv 1) (ae av)) aH)))
 ·intro B S k l m;refine aG ?_;refine eS ?_
  ·exact(BH (MV (gW m) x (bz.h (d.mono (j:=1) (by decide)) _) rfl e.mgf e.fn.kp e.b (bb (pv 2) aH)))
theorem Qq{C:Addr}{g:Addr}{fd:FuncData}(T:Tx K mg)(a:dF K mg C)(D:FD K mg "woken" uk ["thing"] g fd):az P w K mg base (ba P w) 9 g fd ["thing"] (be K mg (pS C)):=by
 obtain⟨m,n,c⟩:=a.d28;have j:=Dw P w base T a c;obtain⟨g1,f1,e⟩:=a.d2e;have k:=uH P w base T a e;refine bE D.fn yB (by decide) ?_;intro l A d s H E F o f h;unfold yh;refine aB ?_ ?_
 ·refine jR (i:=1) ?_ ?_ ?_ ?_ ?_ ?_<;>try walk_at "z"
  ·exact yB.nd
  ·exact(Cr h (a.make c.mt) j (f.mono (by decide)) rfl a.mg c.b (ay (aT (fv 0) (ae av)) (ay (aT (fv 0) (ae av)) bh)))
 refine aB ?_ ?_
 ·refine jT ?_ ?_ ?_ ?_ ?_ ?_<;>try walk_at "z"
  ·exact PassesOwn.leaving
  ·exact(kB (aT (fv 0) (ae av)))
  ·exact(di 2 yB.nd)
  ·unfold sS;refine aG ?_;refine gv ?_ ?_
   ·exact(eU h a.cl k e f (pv 1) (au (fv 2) aH))
   ·rfl
 refine aB ?_ ?_
 ·refine ek ?_ ?_ ?_ ?_ ?_
  ·exact a.cl
  ·exact a.d22
  ·exact(pv 1)
  ·exact(aT (fv 0) (ae av))
  ·rfl
 refine aB ?_ ?_
 ·refine ek ?_ ?_ ?_ ?_ ?_
  ·exact a.cl
  ·exact a.d20
  ·exact(pv 1)
  ·exact(aT (fv 0) (ae av))
  ·rfl
 refine aB ?_ ?_
 ·refine ek ?_ ?_ ?_ ?_ ?_
  ·exact a.cl
  ·exact a.d25
  ·exact(pv 1)
  ·exact(aT (fv 0) (ae av))
  ·rfl
 refine aB ?_ ?_
 ·refine ek ?_ ?_ ?_ ?_ ?_
  ·exact a.cl
  ·exact a.d21
  ·exact(pv 1)
  ·exact(aT (fv 0) (ae av))
  ·rfl
 refine aB ?_ ?_
 ·refine ek ?_ ?_ ?_ ?_ ?_
  ·exact a.cl
  ·exact a.d1y
  ·exact(pv 1)
  ·exact(aT (fv 0) (ae av))
  ·rfl
 refine aG ?_;refine Mz ?_
 ·exact(pv 1)
theorem Qr{C:Addr}{g:Addr}{fd:FuncData}(T:Tx K mg)(d:dF K mg C)(D:FD K mg "law" kY ["_law_script"] g fd):az P w K mg base (ba P w) 10 g fd ["_law_script"] (be K mg (CY C)):=by
 obtain⟨J,L,t⟩:=d.d2p;have y:=Dq P w base T d t;obtain⟨g1,f1,u⟩:=T.d0y;have z:=Qc P w base T u;obtain⟨g2,f2,D2⟩:=T.d10;have B:=Qj P w base T D2;obtain⟨g3,M,m⟩:=d.d28;have G:=Dw P w base T d m;obtain⟨N,O,n⟩:=T.d0t;have v:=Qq P w base T d n;obtain⟨Q,R,e⟩:=T.d14;have f:=Qk P w base T d e;obtain⟨S,U,o⟩:=T.d0w;have x:=nQ P w base T o;obtain⟨X,Y,j⟩:=T.d11;have p:=Qe P w base T j;obtain⟨Z,f8,h⟩:=T.d13;have k:=Qp P w base T d h;obtain⟨g9,f9,l⟩:=d.d2m;have q:=Dp P w base T d l;refine bE D.fn eF (by decide) ?_;intro I A r s H E F E' a c;unfold yz;refine aB ?_ ?_
 ·unfold yi;refine jR (i:=1) ?_ ?_ ?_ ?_ ?_ ?_<;>try walk_at "z"
  ·exact eF.nd
  ·exact(oP bh)
 refine aB ?_ ?_
 ·unfold yj;refine bZ (i:=2) ?_ ?_ ?_ ?_ ?_ ?_<;>try walk_at "z"
  ·exact eF.nd
  ·exact(aR (aO c z u a (bb (pv 0) (bb (pv 1) aH))))
 refine aB ?_ ?_
 ·unfold yk;refine bZ (i:=3) ?_ ?_ ?_ ?_ ?_ ?_<;>try walk_at "z"
  ·exact eF.nd
  ·exact(aR (aO c B D2 a (bb (pv 0) (bb (pv 1) aH))))
 refine aB ?_ ?_
 ·unfold yl;refine jR (i:=4) ?_ ?_ ?_ ?_ ?_ ?_<;>try walk_at "z"
  ·exact eF.nd
  ·exact(Cr c (d.make m.mt) G (a.mono (by decide)) rfl d.mg m.b (ay (fv 2) (ay (fv 3) bh)))
 refine aB ?_ ?_
 ·unfold ym;refine bZ (i:=5) ?_ ?_ ?_ ?_ ?_ ?_<;>try walk_at "z"
  ·exact eF.nd
  ·exact(ae av)
 refine aB ?_ ?_
 ·unfold yn;refine jT ?_ ?_ ?_ ?_ ?_ ?_<;>try walk_at "z"
  ·exact PassesOwn.leaving
  ·exact(kC (kw rfl T.d1u (ay (aR (aO c x o a (bb (pv 0) (bb (pv 1) (au (ae av) aH))))) bh)))
  ·exact(di 6 eF.nd)
  ·unfold pT;refine aB ?_ ?_
   ·refine bZ (i:=7) ?_ ?_ ?_ ?_ ?_ ?_<;>try walk_at "z"
    ·exact eF.nd
    ·exact(aR (aO c p j a (bb (pv 0) (bb (pv 1) (au (fv 5) (au (aT (aR (dR c d.cl q l a (pv 4))) (ae av)) aH))))))
   refine aB ?_ ?_
   ·refine gv ?_ ?_
    ·exact(aO c k h a (bb (pv 4) (au (fv 7) aH)))
    ·rfl
   refine aG ?_;refine bZ (i:=5) ?_ ?_ ?_ ?_ ?_ ?_<;>try walk_at "z"
   ·exact eF.nd
   ·exact(aT (fv 7) (ae av))
 refine aB ?_ ?_
 ·unfold yo;refine bZ (i:=8) ?_ ?_ ?_ ?_ ?_ ?_<;>try walk_at "z"
  ·exact eF.nd
  ·exact(aR (dR c d.cl y t a (pv 4)))
 refine aB ?_ ?_
 ·unfold yp;refine jR (i:=9) ?_ ?_ ?_ ?_ ?_ ?_<;>try walk_at "z"
  ·exact eF.nd
  ·exact(aO c v n a (au (fv 8) aH))
 refine aB ?_ ?_
 ·unfold yq;refine jR (i:=10) ?_ ?_ ?_ ?_ ?_ ?_<;>try walk_at "z"
  ·exact eF.nd
  ·exact(aO c v n a (au (fv 8) aH))
 refine aB ?_ ?_
 ·unfold yr;refine bZ (i:=11) ?_ ?_ ?_ ?_ ?_ ?_<;>try walk_at "z"
  ·exact eF.nd
  ·exact(aR (aO c f e a (bb (pv 4) (au (eR iF (fB gE iD rfl T.d1q PySem.boot_len (ay (fv 3) bh))) aH))))
 refine aB ?_ ?_
 ·unfold yt;refine bK ?_ ?_ ?_
  ·exact(je (lO (fg (dE (dD (jS (jK rfl T.d1p (fv 8) (iV rfl T.d1w nP rfl)))))) (lN (lY a.units (aR (aO c f e a (bb (pv 9) (au (eR iF (fB gE iD rfl T.d1q PySem.boot_len (ay (fv 3) bh))) aH)))) (fv 11)))))
  ·refine aG ?_;refine bu ?_
   ·exact(ae fS)
  ·exact bN
 refine aB ?_ ?_
 ·unfold yu;refine bZ (i:=12) ?_ ?_ ?_ ?_ ?_ ?_<;>try walk_at "z"
  ·exact eF.nd
  ·exact(fv 5)
 refine aB ?_ ?_
 ·unfold yv;refine jT ?_ ?_ ?_ ?_ ?_ ?_<;>try walk_at "z"
  ·exact PassesOwn.leaving
  ·exact(kC (kw rfl T.d1u (ay (ae av) bh)))
  ·exact(di 6 eF.nd)
  ·unfold pU;refine aB ?_ ?_
   ·refine bZ (i:=7) ?_ ?_ ?_ ?_ ?_ ?_<;>try walk_at "z"
    ·exact eF.nd
    ·exact(aR (aO c p j a (bb (pv 0) (bb (pv 1) (au (fv 12) (au (aT (aR (dR c d.cl q l a (pv 10))) (ae av)) aH))))))
   refine aB ?_ ?_
   ·refine gv ?_ ?_
    ·exact(aO c k h a (bb (pv 10) (au (fv 7) aH)))
    ·rfl
   refine aG ?_;refine bZ (i:=12) ?_ ?_ ?_ ?_ ?_ ?_<;>try walk_at "z"
   ·exact eF.nd
   ·exact(aT (fv 7) (ae av))
 refine aB ?_ ?_
 ·unfold yw;refine bK ?_ ?_ ?_
  ·exact(lY a.units (aR (aO c f e a (bb (pv 4) (au (eR iF (fB gE iD rfl T.d1q PySem.boot_len (ay (fv 3) bh))) aH)))) (fv 11))
  ·refine aG ?_;refine bu ?_
   ·exact(ae fS)
  ·exact bN
 refine aB ?_ ?_
 ·unfold yx;refine jT ?_ ?_ ?_ ?_ ?_ ?_<;>try walk_at "z"
  ·exact PassesOwn.leaving
  ·exact(kC (kw rfl T.d1u (ay (aR (aO c x o a (bb (pv 0) (bb (pv 1) (au (ae av) aH))))) bh)))
  ·exact(di 6 eF.nd)
  ·unfold pV;refine aB ?_ ?_
   ·refine bZ (i:=7) ?_ ?_ ?_ ?_ ?_ ?_<;>try walk_at "z"
    ·exact eF.nd
    ·exact(aR (aO c p j a (bb (pv 0) (bb (pv 1) (au (fv 5) (au (aT (aR (dR c d.cl q l a (pv 4))) (ae av)) aH))))))
   refine aB ?_ ?_
   ·refine bZ (i:=5) ?_ ?_ ?_ ?_ ?_ ?_<;>try walk_at "z"
    ·exact eF.nd
    ·exact(aT (fv 7) (ae av))
   refine aB ?_ ?_
   ·refine bK ?_ ?_ ?_
    ·exact(lY a.units (aR (aO c k h a (bb (pv 4) (au (fv 7) aH)))) (aR (aO c k h a (bb (pv 9) (au (fv 7) aH)))))
    ·refine aG ?_;refine bu ?_
     ·exact(ae fS)
    ·exact bN
   refine aG ?_;refine bK ?_ ?_ ?_
   ·exact(lY a.units (aR (aO c f e a (bb (pv 4) (au (eR iF (fB gE iD rfl T.d1q PySem.boot_len (ay (fv 3) bh))) aH)))) (aR (aO c f e a (bb (pv 9) (au (eR iF (fB gE iD rfl T.d1q PySem.boot_len (ay (fv 3) bh))) aH)))))
   ·refine aG ?_;refine bu ?_
    ·exact(ae fS)
   ·exact bN
 refine aG ?_;unfold yy;refine bu ?_
 ·exact(ae fS)
end
end K3
namespace K3
open PySem L2 L2.L3 Due
noncomputable def cE(d:PyData)(lo a:Int):Bool:=match d with
 | .int i=>decide (lo<=i)&&decide (i<=a)
 | _=>false
noncomputable def dU:PyData->Bool
 | .dict _=>false
 | _=>true
@[simp] theorem Sj:cz "int" "int" = some true:=by decide
@[simp] theorem Sk:cz "int" "bool" = some false:=by decide
@[simp] theorem Sl:cz "bool" "int" = some true:=by decide
@[simp] theorem Sm:cz "bool" "bool" = some true:=by decide
@[simp] theorem Sn:cz "NoneType" "int" = some false:=by decide
@[simp] theorem So:cz "str" "int" = some false:=by decide
@[simp] theorem Sq:cz "list" "int" = some false:=by decide
@[simp] theorem Sr:cz "tuple" "int" = some false:=by decide
@[simp] theorem Ss:cz "int" "tuple" = some false:=by decide
@[simp] theorem Su:cz "bool" "tuple" = some false:=by decide
@[simp] theorem Sv:cz "NoneType" "tuple" = some false:=by decide
@[simp] theorem Sw:cz "str" "tuple" = some false:=by decide
@[simp] theorem Sx:cz "list" "tuple" = some false:=by decide
@[simp] theorem Sy:cz "tuple" "tuple" = some true:=by decide
theorem qa(i j:Int):PyData.eqv (.int i) (.int j)=(i==j):=by rw[PyData.eqv]
theorem nR(i:Int):SeqAt.shaped (.int i)=true:=by rfl
theorem jv{d:PyData}{lo hi:Int}(h:dU d=true):fK [.dat d,.dat (.int lo),.dat (.int hi)]=.rt (.dat (.bool (cE d lo hi))) []:=by
 cases d with
 | dict _=>cases h
 | int i=>
  by_cases h1:lo<=i
  ·simp[aS,fK,pc,cE,h1]
  ·simp[aS,fK,pc,cE,h1]
 | _=>simp[aS,fK,pc,cE]
noncomputable def gm(d:PyData)(n:Int):Bool:=match d with
 | .tuple ds=>decide ((ds.length:Int)=n)
 | _=>false
theorem qb{d:PyData}{n:Int}(h:dU d=true):kR [.dat d,.dat (.int n)]=.rt (.dat (.bool (gm d n))) []:=by
 cases d with
 | dict _=>cases h
 | tuple ds=>simp[aS,kR,rZ,gm,nR,qa];rfl
 | _=>simp[aS,kR,rZ,gm]
theorem Dx{d:PyData}(h:dU d=true):pz [.dat d]=.rt (.dat (.bool (cE d (-12) 14))) []:=by simp[aS,pz,xz,jv h]
theorem yF{d:PyData}(h:dU d=true):nF [.dat d]=.rt (.dat (.bool (cE d 0 9999))) []:=by simp[aS,nF,xA,jv h]
theorem Dy{d:PyData}(h:dU d=true):sA [.dat d]=if cE d 0 9999=true then .rt (.dat .none) [] else .ex "NoMoment" []:=by simp only[sA,xN];cases a:cE d 0 9999<;>simp[aS,yF h,a]
noncomputable abbrev cS(p:Int×Int):PyData:=.tuple [.int p.1,.int p.2]
noncomputable abbrev dc(a:Int)(b:Sh):PyData:=.tuple [.int a,.tuple (b.map cS)]
@[simp] theorem Sz{x:PyData}{l:List PyData}:bT (x::l) 0=some x:=by unfold bT dG;rw[if_pos (by omega),if_pos (by simp<;>omega)];rfl
@[simp] theorem SA{x y:PyData}{l:List PyData}:bT (x::y::l) 1=some y:=by unfold bT dG;rw[if_pos (by omega),if_pos (by simp<;>omega)];rfl
@[simp] theorem SD{x:PyData}{l:List PyData}:bT (l++[x]) (-1)=some x:=by unfold bT dG;rw[if_neg (by omega),if_pos (by simp;omega)];simp;rw[show(-1+((l.length:Int)+1)).toNat=l.length by omega];simp
theorem Dz{c:Option aj}:∀{a:Sh}{lo:Int}{x:Option aj},fG lo a->(∀p∈a,p.1<=9999/\-12<=p.2/\p.2<=14)->∃e y,cA (aF 2) pD (a.map cS) [c,some (.dat (.int (lo+1))),x]=.nx [c,e,y]
 | [],_,_,_,_=>⟨_,_,rfl⟩
 | (b,k)::r,lo,x,⟨h1,h2⟩,ho=>by
  obtain⟨e,y,f⟩:=Dz (lo:=b) (c:=c) (x:=some (.dat (cS (b,k)))) h2 fun p g=>ho p (bL _ g);have hb:=ho (b,k) List.mem_cons_self;refine⟨e,y,?_⟩;rw[List.map_cons,cA,<-f];have:pD [c,some (.dat (.int (lo+1))),some (.dat (cS (b,k)))]=.nx [c,some (.dat (.int (b+1))),some (.dat (cS (b,k)))]:=by simp[aS,pD,qb (d:=.tuple [.int b,.int k]) rfl,gm,Dx (d:=.int k) rfl,jv (d:=.int b) rfl,cE,hb.2.1,hb.2.2,hb.1,show lo+1<=b by omega]
  simp[aS,this]
theorem Qs{a:Sh}(f:a.length<=6)(b:fG 0 a)(d:∀p∈a,p.1<=9999/\-12<=p.2/\p.2<=14):sy [.dat (.tuple (a.map cS))]=.rt (.dat (.bool true)) []:=by obtain⟨e,y,h⟩:=Dz (lo:=0) (c:=some (.dat (.tuple (a.map cS)))) (x:=none) b d;simp[aS,sy,xM,show ¬ (6:Int)<a.length by omega] at h ⊢;rw[h];simp
theorem Qt{a:Int}{b:Sh}(z:iK a b):sG [.dat (dc a b)]=.rt (.dat (.bool true)) []:=by have h1:=z.ah.1;simp[aS,sG,xS,qb (d:=dc a b) rfl,gm,Dx (d:=.int a) rfl,cE,h1.1,h1.2,Qs z.len z.rise fun p c=>⟨z.top p c,z.ah.2 p c⟩]
theorem DC{a:Int}{b:Sh}(z:iK a b):pH [.dat (dc a b)]=.rt (.dat .none) []:=by simp[aS,pH,xZ,Qt z]
theorem DH{m:Int}{z:Option aj}:∀{ss:Sh}{a:Int}{x:Option aj},∃y,cA (aF 3) se (ss.map cS) [z,some (.dat (.int m)),some (.dat (.int a)),x]=.nx [z,some (.dat (.int m)),some (.dat (.int (gz a ss m))),y]
 | [],_,_=>⟨_,rfl⟩
 | (b,c)::r,a,x=>by
  obtain⟨y,d⟩:=DH (m:=m) (z:=z) (ss:=r) (a:=if b<=m then c else a) (x:=some (.dat (cS (b,c))));refine⟨y,?_⟩;rw[List.map_cons,cA];unfold gz;rw[<-d]
  by_cases h:b<=m<;>simp[aS,se,h]
theorem Qu{a m:Int}{b:Sh}:sf [.dat (dc a b),.dat (.int m)]=.rt (.dat (.int (dS a b m))) []:=by obtain⟨y,h⟩:=DH (m:=m) (z:=some (.dat (dc a b))) (ss:=b) (a:=a) (x:=none);simp[aS,sf,xn] at h ⊢;rw[h];simp[aS,dS]
theorem uJ{e:XM PyData}{g:GM}{f:PyData->PyData}{P:ao->Prop}:∀{its ys:List PyData}{U:ao},P U->(∀d∈its,∀U,P U->∃a b,g d U=some a/\e a=.ok (f d) b/\P b)->ys.length+its.length<=sizeLine->cn g cZ e its ys U=some (ys++its.map f)
 | [],ys,U,_,_,_=>by simp[aS,cn]
 | d::r,ys,U,c,h,i=>by obtain⟨a,b,h1,h2,h3⟩:=h d List.mem_cons_self U c;simp only[List.length_cons] at i;unfold cn;rw[h1];simp only[cZ,h2];rw[if_pos (by omega),uJ h3 (fun d hd=>h d (bL _ hd)) (by simp;omega)];simp
theorem uK{t:XM Bool}{e:XM PyData}{g:GM}{p:PyData->Bool}{f:PyData->PyData}{P:ao->Prop}:∀{its ys:List PyData}{U:ao},P U->(∀d∈its,∀U,P U->∃b a c,g d U=some b/\t b=.ok (p d) a/\P a/\(p d=true->e a=.ok (f d) c/\P c))->ys.length+its.length<=sizeLine->cn g t e its ys U=some (ys++(its.filter p).map f)
 | [],ys,U,_,_,_=>by simp[aS,cn]
 | d::r,ys,U,j,h,k=>by
  obtain⟨b,a,c,h1,h2,h3,l⟩:=h d List.mem_cons_self U j;simp only[List.length_cons] at k;unfold cn;rw[h1];simp only[h2];cases i:p d with
  | true=>obtain⟨m,n⟩:=l i;simp only[m];rw[if_pos (by omega),uK n (fun d hd=>h d (bL _ hd)) (by simp;omega)];simp[aS,i]
  | false=>simp only;rw[uK h3 (fun d hd=>h d (bL _ hd)) (by omega)];simp[aS,i]
@[simp] theorem SE:(0:Nat)<=sizeLine:=by decide
@[simp] theorem DJ:(1:Nat)<=sizeLine:=by decide
@[simp] theorem DK:(2:Nat)<=sizeLine:=by decide
@[simp] theorem SF:(3:Nat)<=sizeLine:=by decide
@[simp] theorem SG:(4:Nat)<=sizeLine:=by decide
@[simp] theorem SH:(5:Nat)<=sizeLine:=by decide
@[simp] theorem SI:(6:Nat)<=sizeLine:=by decide
@[simp] theorem SJ:(7:Nat)<=sizeLine:=by decide
@[simp] theorem SK:(8:Nat)<=sizeLine:=by decide
@[simp] theorem SL:(9:Nat)<=sizeLine:=by decide
@[simp] theorem Qv:(10:Nat)<=sizeLine:=by decide
@[simp] theorem Qw:(11:Nat)<=sizeLine:=by decide
@[simp] theorem Qx:(12:Nat)<=sizeLine:=by decide
@[simp] theorem Qy:(13:Nat)<=sizeLine:=by decide
@[simp] theorem Qz:(14:Nat)<=sizeLine:=by decide
noncomputable def du:Option Int->PyData
 | none=>.none
 | some e=>.int e
noncomputable def fo(p:Int×Option Int×Int):PyData:=.tuple [.int p.1,du p.2.1,.int p.2.2]
theorem DL:∀(d:Sh) (s a:Int),oH (.int s::d.map fun p=>.int p.1) ((d.map fun p=>PyData.int p.1)++[.none]) (.int a::d.map fun p=>.int p.2)=(bj s a d).map fo
 | [],s,a=>rfl
 | (b,c)::r,s,a=>by have e:=DL r b c;simp only[List.map_cons,List.cons_append,bj];rw[<-e];rfl
theorem DM{a:Int}{b:Sh}(l:b.length<=6):pd [.dat (dc a b)]=.rt (.dat (.list ((bj 0 a b).map fo))) []:=by
 have sz:1000<sizeLine:=by decide
 have c:=uJ (e:=xo) (g:=aF 0) (f:=fun d=>match d with | .tuple (x::_)=>x | _=>.none) (P:=fun U=>U.length=1) (its:=b.map cS) (ys:=[]) (U:=[none]) rfl (fun d hd U h=>by
  obtain⟨p,_,rfl⟩:=List.mem_map.mp hd
  match U,h with
  | [y],_=>exact⟨_,_,rfl,by simp[aS,xo];rfl,rfl⟩) (by simp;omega)
 have i:=uJ (e:=xp) (g:=aF 0) (f:=fun d=>match d with | .tuple (_::x::_)=>x | _=>.none) (P:=fun U=>U.length=1) (its:=b.map cS) (ys:=[]) (U:=[none]) rfl (fun d hd U h=>by
  obtain⟨p,_,rfl⟩:=List.mem_map.mp hd
  match U,h with
  | [y],_=>exact⟨_,_,rfl,by simp[aS,xp];rfl,rfl⟩) (by simp;omega)
 simp only[List.nil_append,List.map_map] at c i;have j:List.map ((fun d=>match d with | .tuple (x::_)=>x | _=>PyData.none)∘cS) b=b.map fun p=>PyData.int p.1:=by apply List.map_congr_left;intro p _;rfl
 have k:List.map ((fun d=>match d with | .tuple (_::x::_)=>x | _=>PyData.none)∘cS) b=b.map fun p=>PyData.int p.2:=by apply List.map_congr_left;intro p _;rfl
 rw[j] at c;rw[k] at i;have z:=DL b 0 a;simp[aS,pd,xq,c,i,show b.length<=sizeLine by omega,show b.length+1<=sizeLine by omega,show 1+b.length<=sizeLine by omega,z]
theorem uL{m:Int}{e:Option Int}:ph [.dat (.int m),.dat (du e)]=.rt (.dat (.bool (fH m e))) []:=by cases e<;>simp[aS,ph,xu,du,fH]
theorem qc:∀(d:Sh) (s a:Int),(bj s a d).length=d.length+1
 | [],s,a=>rfl
 | (b,c)::r,s,a=>by simp[aS,bj,qc r b c]
theorem QA{a:List Int}{k:Int}(d:a.length<=63)(e:0<=k):∃v,nB [.scr a,.dat (.int k)]=.rt (.dat (.int v)) []:=by
 by_cases h:k<a.length
 ·have:∃v,bT a k=some v:=by unfold bT dG;rw[if_pos e,if_pos h];exact⟨a[k.toNat]'(by omega),by simp⟩
  obtain⟨v,c⟩:=this;exact⟨v,by simp[aS,nB,pk,d,h,c]⟩
 ·by_cases b:a=[]
  ·subst b;exact⟨0,by simp[aS,nB,pk] at h ⊢;simp[aS,show ¬ k<0 by omega]⟩
  ·have f:0<(a.length:Int):=by have:=List.length_pos_iff.mpr b;omega
   have:∃v,bT a (k % a.length)=some v:=by have h1:=Int.emod_nonneg k (show(a.length:Int)≠0 by omega);have h2:=Int.emod_lt_of_pos k f;unfold bT dG;rw[if_pos h1,if_pos h2];exact⟨a[(k % a.length).toNat]'(by omega),by simp⟩
   obtain⟨v,c⟩:=this;exact⟨v * 31+k,by simp[aS,nB,pk,d,h,b,c,mR,kA,List.length_pos_iff.mpr b]⟩
theorem QB{b:List Int}{k many:Int}(c:b.length<=63)(d:0<=k)(a:0<many):∃v,0<=v/\v<many/\sv [.scr b,.dat (.int k),.dat (.int many)]=.rt (.dat (.int v)) []:=by
 obtain⟨v,e⟩:=QA (k:=k) c d;generalize hd:(v+7919 * k+1) * 48271 % 2147483647=dr;have f:0<=dr:=by omega
 have g:dr<2147483647:=by omega
 refine⟨(dr * dr+7 * dr+k) % 2147483629 % many,Int.emod_nonneg _ (by omega),Int.emod_lt_of_pos _ a,?_⟩;simp[aS,sv,xL,e,kA,mR,hd,a,show -18446744073709551616<dr by omega,show dr<18446744073709551616 by omega]
theorem el{ns:List Int}{many:Int}{t:List PyData}(a:ns.length<=63)(c:t.length<1000)(b:0<many):∃v,0<=v/\v<many/\da [.scr ns,.own true (.l t),.dat (.int many)]=.rt (.dat (.int v)) [.l (t++[.int 0])]:=by
 have sz:1000<sizeLine:=by decide
 obtain⟨v,h1,h2,h3⟩:=QB (k:=((t++[PyData.int 0]).length:Int)) a (by omega) b;refine⟨v,h1,h2,?_⟩;simp at h3;simp[aS,da,xR,show t.length<sizeLine by omega,h3]
theorem kZ{ns:List Int}{ds t:List PyData}(a:ns.length<=63)(b:t.length<1000)(hd:ds≠[])(c:ds.length<=1000):∃d∈ds,ir [.scr ns,.own true (.l t),.dat (.list ds)]=.rt (.dat d) [.l (t++[.int 0])]:=by
 have e:=List.length_pos_iff.mpr hd;obtain⟨v,h1,h2,h3⟩:=el (many:=ds.length) a b (by omega);have:bT ds v=some (ds[v.toNat]'(by omega)):=by unfold bT dG;rw[if_pos h1,if_pos h2];simp
 refine⟨ds[v.toNat]'(by omega),List.getElem_mem _,?_⟩;simp[aS,ir,xW,h3,this]
theorem DP(i:Int):SeqAt.shaped (.int i)=true:=by rfl
theorem QD{ns:List Int}{t:List PyData}{ss:Sh}{m:Int}{k:Option aj}(a:ns.length<=63)(h:t.length<900)(j:ss.length<=100):∃d c,0<=d/\d<200/\-12<=c/\c<=14/\
  pI [some (.scr ns),some (.own true (.l t)),some (.own false (.l (ss.map cS))),some (.dat (.int m)),k]=.nx [some (.scr ns),some (.own true (.l (t++[.int 0]++[.int 0]++[.int 0]))),some (.own false (.l ((ss++[(m+1+d,c)]).map cS))),some (.dat (.int (m+1+d))),k]:=by
 have sz:1000<sizeLine:=by decide
 obtain⟨w,b,h1⟩:=kZ (ns:=ns) (t:=t) (ds:=[.int 4,.int 40,.int 200]) a (by omega) (by simp) (by simp);have:∃i:Int,w=.int i/\0<i/\i<=200:=by
  simp at b;rcases b with rfl | rfl | rfl
  ·exact⟨4,rfl,by omega,by omega⟩
  ·exact⟨40,rfl,by omega,by omega⟩
  ·exact⟨200,rfl,by omega,by omega⟩
 obtain⟨i,rfl,f,n⟩:=this;obtain⟨d,g,o,h2⟩:=el (ns:=ns) (t:=t++[.int 0]) (many:=i) a (by simp;omega) f;obtain⟨e,p,q,h3⟩:=el (ns:=ns) (t:=t++[.int 0]++[.int 0]) (many:=27) a (by simp;omega) (by omega);refine⟨d,e - 12,g,by omega,by omega,by omega,?_⟩;simp only[List.append_assoc,List.cons_append,List.nil_append] at h1 h2 h3;simp[aS,pI,h1,h2,h3,show ss.length<sizeLine by omega]
theorem DQ{ns:List Int}(g:ns.length<=63):∀{its t:List PyData}{ss:Sh}{m:Int}{k:Option aj},t.length+3 * its.length<900->ss.length+its.length<=100->∃new t' b f,cA (aF 4) pI its [some (.scr ns),some (.own true (.l t)),some (.own false (.l (ss.map cS))),some (.dat (.int m)),k]=.nx [some (.scr ns),some (.own true (.l t')),some (.own false (.l ((ss++new).map cS))),some (.dat (.int b)),f]/\
  fG m new/\(∀p∈new,p.1<=m+200 * its.length/\-12<=p.2/\p.2<=14)/\new.length=its.length/\t'.length=t.length+3 * its.length
 | [],t,ss,m,k,_,_=>⟨[],t,m,k,by simp[aS,cA],trivial,fun p a=>(by cases a),rfl,rfl⟩
 | x::r,t,ss,m,k,h1,h2=>by
  simp only[List.length_cons] at h1 h2;obtain⟨d,c,o,q,h,i,e⟩:=QD (ns:=ns) (t:=t) (ss:=ss) (m:=m) (k:=some (.dat x)) g (by omega) (by omega);obtain⟨new,t',b,f,g1,g2,g3,j,n⟩:=DQ g (its:=r) (t:=t++[.int 0]++[.int 0]++[.int 0]) (ss:=ss++[(m+1+d,c)]) (m:=m+1+d) (k:=some (.dat x)) (by simp;omega) (by simp;omega);refine⟨(m+1+d,c)::new,t',b,f,?_,⟨by omega,g2⟩,fun p a=>?_,by simp[aS,j],by rw[n];simp;omega⟩
  ·rw[cA];simp only[aF,List.set_cons_succ,List.set_cons_zero,e];rw[g1];simp
  ·simp only[List.length_cons];rcases List.mem_cons.mp a with rfl | a
   ·exact⟨by simp;omega,h,i⟩
   ·have:=g3 p a;exact⟨by omega,this.2⟩
noncomputable def jw:Nat->Sh->Sh
 | _,[]=>[]
 | i,(b,_)::r=>(b,1+(i:Int) % 2)::jw (i+1) r
theorem DR:∀{a:Sh}{i:Nat}{lo:Int},fG lo a->fG lo (jw i a)
 | [],_,_,_=>trivial
 | (b,c)::r,i,lo,⟨h1,h2⟩=>⟨h1,DR h2⟩
theorem yG:∀{d:Sh}{i:Nat}{T:Int},(∀p∈d,p.1<=T)->∀p∈jw i d,p.1<=T/\-12<=p.2/\p.2<=14
 | [],_,_,_,p,a=>by cases a
 | (b,c)::r,i,T,h,p,a=>by
  rcases List.mem_cons.mp a with rfl | a
  ·exact⟨h (b,c) List.mem_cons_self,by simp;omega,by simp;omega⟩
  ·exact yG (fun q e=>h q (bL _ e)) p a
theorem yH:∀(a:Sh) (i:Nat),(jw i a).length=a.length
 | [],_=>rfl
 | (b,c)::r,i=>by simp[aS,jw,yH r (i+1)]
noncomputable def qd(d:PyData):PyData:=match d with
 | .tuple [.int i,.tuple [b,_]]=>.tuple [b,.int (1+i % 2)]
 | _=>.none
theorem DU:∀(a:Sh) (k:Nat),((a.map cS).mapIdx fun i d=>qd (.tuple [.int ((i+k:Nat):Int),d]))=(jw k a).map cS
 | [],k=>rfl
 | (b,c)::r,k=>by
  rw[List.map_cons,List.mapIdx_cons];have e:=DU r (k+1);simp only[jw,List.map_cons];rw[<-e]
  congr 1
  ·simp[aS,qd,cS]
  ·congr 1
   funext i d;rw[show i+1+k=i+(k+1) by omega]
theorem QE{ns:List Int}{t:List PyData}(j:ns.length<=63)(H:t.length<=100):∃a h t',pJ [.scr ns,.own true (.l t)]=.rt (.dat (dc a h)) [.l t']/\h.length<=6/\fG 0 h/\rY a h/\(∀p∈h,p.1<=1200)/\t'.length<=t.length+30:=by
 have sz:1000<sizeLine:=by decide
 obtain⟨n,z,I,r⟩:=el (ns:=ns) (t:=t) (many:=7) j (by omega) (by omega);obtain⟨new,o,J,L,g1,g2,g3,D,A⟩:=DQ (ns:=ns) j (its:=intsFrom 0 n.toNat) (t:=t++[.int 0]) (ss:=[]) (m:=0) (k:=none) (by simp[aS,rk];omega) (by simp[aS,rk];omega);rw[rk] at g3 D A;simp only[List.length_append,List.length_cons,List.length_nil] at A;obtain⟨x,M,N,s⟩:=el (ns:=ns) (t:=o) (many:=2) j (by omega) (by omega);obtain⟨y,O,Q,h3⟩:=el (ns:=ns) (t:=o++[.int 0]) (many:=27) j (by simp;omega) (by omega);simp only[List.map_nil,List.nil_append,List.append_assoc,List.cons_append] at g1 h3;have nl:new.length<=6:=by omega
 have top:∀p∈new,p.1<=1200:=fun p b=>by have:=(g3 p b).1;omega
 by_cases B:x=0
 ·refine⟨y - 12,jw 0 new,o++[.int 0,.int 0],?_,by rw[yH];exact nl,DR g2,⟨⟨by omega,by omega⟩,fun p b=>(yG top p b).2⟩,fun p b=>(yG top p b).1,by simp;omega⟩;have c:=uJ (e:=ya) (g:=fX 2 (cH (aF 0) (cH (fX 2 (cH (aF 1) (cH (aF 2) fW))) fW))) (f:=qd) (P:=fun U=>U.length=3) (its:=L3.numbered (new.map cS)) (ys:=[]) (U:=[none,none,none]) rfl (fun d hd U E=>by
   unfold L3.numbered at hd;obtain⟨i,C,rfl⟩:=List.mem_mapIdx.mp hd
   match U,E with
   | [u,v,w],_=>
    have G:(new.map cS)[i]=cS (new[i]'(by simpa using C)):=by simp
    rw[G];generalize new[i]'(by simpa using C)=q;refine⟨[some (.dat (.int i)),some (.dat (.int q.1)),some (.dat (.int q.2))],[some (.dat (.int i)),some (.dat (.int q.1)),some (.dat (.int q.2))],by simp,?_,rfl⟩;simp[aS,ya,qd,cS,mR]) (by unfold L3.numbered;simp;omega)
  have rd:(L3.numbered (new.map cS)).map qd=(jw 0 new).map cS:=by
   unfold L3.numbered;rw[<-DU new 0];apply List.ext_getElem
   ·simp
   ·intro i r s;simp
  rw[rd] at c;simp only[List.nil_append] at c;have l2:(jw 0 new).length<=sizeLine:=by rw[yH];omega
  subst B;simp[aS,pJ,sM,r,z,show n<4611686018427387904 by omega,show -4611686018427387904<=n by omega,g1,s,h3,DP,qa,c,l2]
 ·refine⟨y - 12,new,o++[.int 0,.int 0],?_,nl,g2,⟨⟨by omega,by omega⟩,fun p b=>(g3 p b).2⟩,top,by simp;omega⟩;simp[aS,pJ,sM,r,z,show n<4611686018427387904 by omega,show -4611686018427387904<=n by omega,g1,s,h3,DP,qa,B]
@[simp] theorem nU:("NotHolder":Str)∈eB:=by decide +kernel
@[simp] theorem DY:("Nothing":Str)∈eB:=by decide +kernel
theorem QF{d:PyData}(h:SeqAt.shaped d=true):aS false d d=some (.bool true):=by simp[aS,h,Bo h]
theorem qe{d:PyData}(h:SeqAt.shaped d=true):aS true d d=some (.bool false):=by simp[aS,h,Bo h]
theorem QG(i j:Int):aS true (.int i) (.int j)=some (.bool (!decide (i=j))):=by
 by_cases h:i=j
 ·subst h;simp[qe (nR i)]
 ·simp[aS,nR,qa,h]
theorem lb(i j:Int):aS false (.int i) (.int j)=some (.bool (decide (i=j))):=by
 by_cases h:i=j
 ·subst h;simp[QF (nR i)]
 ·simp[aS,nR,qa,h]
theorem lc{m k:SM}{U a:ao}(h:m U=.nx a):aA m k U=k a:=by simp[h]
theorem QH(i j:Str):PyData.eqv (.str i) (.str j)=(i==j):=by rw[PyData.eqv]
theorem yI{x:Str}(h:PyData.strOk x=true):SeqAt.shaped (.str x)=true:=by unfold SeqAt.shaped;simp[PyData.canLay0,PyData.depth,h]
theorem cf{x y:Str}(a:PyData.strOk x=true)(b:PyData.strOk y=true):aS false (.str x) (.str y)=some (.bool (x==y)):=by simp[aS,yI a,yI b,QH]
theorem fq:PyData.strOk "once" = true:=by decide +kernel
theorem gX:PyData.strOk "every" = true:=by decide +kernel
theorem ke:PyData.strOk "daily" = true:=by decide +kernel
@[simp] theorem SN:(("every":Str)==("once":Str))=false:=by decide +kernel
@[simp] theorem SO:(("daily":Str)==("once":Str))=false:=by decide +kernel
@[simp] theorem SQ:(("daily":Str)==("every":Str))=false:=by decide +kernel
@[simp] theorem SR:cz "str" "str" = some true:=by decide
noncomputable abbrev gc:cw->PyData
 | .once m=>.tuple [.str "once",.int m]
 | .every f s=>.tuple [.str "every",.int f,.int s]
 | .daily h=>.tuple [.str "daily",.int h]
@[simp] theorem SS{x y w:PyData}{l:List PyData}:bT (x::y::w::l) 2=some w:=by unfold bT dG;rw[if_pos (by omega),if_pos (by simp<;>omega)];rfl
theorem mu{x w:Str}{rest:List PyData}{n:Int}(a:PyData.strOk x=true)(b:PyData.strOk w=true):kS [.dat (.tuple (.str x::rest)),.dat (.str w),.dat (.int n)]=.rt (.dat (.bool (decide (((rest.length+1:Nat):Int)=n)&&(x==w)))) []:=by
 by_cases h:(((rest.length+1:Nat):Int)=n)
 ·simp[kS,sk,qb (d:=.tuple (.str x::rest)) rfl,gm,cf a b];simp at h;simp[h]
 ·simp[kS,sk,qb (d:=.tuple (.str x::rest)) rfl,gm,cf a b];simp at h;simp[h]
theorem QI{p:cw}(ok:fJ p):nG [.dat (gc p)]=.rt (.dat (.bool true)) []:=by
 cases p with
 | once m=>simp[nG,pE,mu fq fq,yF (d:=.int m) rfl,cE,ok.1,ok.2]
 | every f s=>simp[nG,pE,mu gX fq,mu gX gX,yF (d:=.int f) rfl,jv (d:=.int s) rfl,cE,ok.1.1,ok.1.2,ok.2.1,ok.2.2]
 | daily h=>simp[nG,pE,mu ke fq,mu ke gX,mu ke ke,jv (d:=.int h) rfl,cE,ok.1,ok.2]
noncomputable def uM(g:Int)(d:PyData):Bool:=match d with
 | .tuple [.int s,.none,.int a]=>fH (max s (g - a)) none
 | .tuple [.int s,.int e,.int a]=>fH (max s (g - a)) (some e)
 | _=>false
noncomputable def uN(g:Int)(d:PyData):PyData:=match d with
 | .tuple [.int s,_,.int a]=>.int (max s (g - a))
 | _=>.none
theorem DZ(g:Int)(p:Int×Option Int×Int):uM g (fo p)=fH (max p.1 (g - p.2.2)) p.2.1:=by obtain⟨s,e,a⟩:=p;cases e<;>rfl
theorem Ea(g:Int)(p:Int×Option Int×Int):uN g (fo p)=.int (max p.1 (g - p.2.2)):=by obtain⟨s,e,a⟩:=p;cases e<;>rfl
theorem QJ{a g:Int}{b:Sh}(h:b.length<=6):sr [.dat (dc a b),.dat (.int g)]=.rt (.dat (.int (gA g 0 a b))) []:=by
 have sz:1000<sizeLine:=by decide
 have c:=uK (t:=xF) (e:=xG) (g:=fX 3 (cH (aF 0) (cH (aF 1) (cH (aF 2) fW)))) (p:=uM g) (f:=uN g) (P:=fun U=>∃x y z,U=[x,y,z,some (.dat (.int g))]) (its:=(bj 0 a b).map fo) (ys:=[]) (U:=[none,none,none,some (.dat (.int g))]) ⟨_,_,_,rfl⟩ (fun d hd U i=>by
  obtain⟨p,_,rfl⟩:=List.mem_map.mp hd;obtain⟨x,y,z,rfl⟩:=i;refine⟨[some (.dat (.int p.1)),some (.dat (du p.2.1)),some (.dat (.int p.2.2)),some (.dat (.int g))],[some (.dat (.int p.1)),some (.dat (du p.2.1)),some (.dat (.int p.2.2)),some (.dat (.int g))],[some (.dat (.int p.1)),some (.dat (du p.2.1)),some (.dat (.int p.2.2)),some (.dat (.int g))],by simp[fo],by simp[xF,uL,DZ],⟨_,_,_,rfl⟩,fun _=>⟨by simp[xG,Ea],⟨_,_,_,rfl⟩⟩⟩) (by simp[qc];omega)
 have f1:(((bj 0 a b).map fo).filter (uM g)).map (uN g)=(nA g (bj 0 a b)).map PyData.int:=by unfold nA;have j:uN g∘fo=fun p=>.int (max p.1 (g - p.2.2)):=funext (Ea g);have k:uM g∘fo=fun p=>fH (max p.1 (g - p.2.2)) p.2.1:=funext (DZ g);rw[List.filter_map,List.map_map,List.map_map,j,k];rfl
 have l:(nA g (bj 0 a b)).length<=7:=by unfold nA;rw[List.length_map];exact Nat.le_trans (List.length_filter_le _ _) (by rw[qc];omega)
 obtain⟨t,e⟩:=CP g b 0 a;rw[f1,e] at c;rw[e,List.length_cons] at l;simp only[List.nil_append,List.map_cons] at c;simp[sr,xH,DM h,c,show t.length+1<=sizeLine by omega]
theorem Eb{a h:Int}{b:Sh}:pB [.dat (dc a b),.dat (.int h)]=.rt (.dat (.int (gT a b h))) []:=by simp[pB,xK,Qu,gT,mQ]
theorem QK{a h:Int}{b:Sh}{c:Nat}(d:b.length<=6):sF [.dat (dc a b),.dat (.int h),.dat (.int c)]=.rt (.dat (.int (gU a b h c))) []:=by simp[sF,xQ,Eb,QJ d,gU,kA]
theorem QL{i j:Int}(a:-1000000<=j)(b:j<=1000000):kA i j=true:=by unfold kA;rw[decide_eq_true (show -(2 ^ 64)<j by omega),decide_eq_true (show j<2 ^ 64 by omega)];simp
theorem QM{z:PyData}{f s c:Int}(a:1<=s)(b:s<=999):iq [.dat z,.dat (gc (.every f s)),.dat (.int c)]=.rt (.dat (.int (f+c * s))) []:=by simp[iq,nI,cf gX fq,cf gX gX,QL (i:=c) (show -1000000<=s by omega) (show s<=1000000 by omega)]
theorem Ec{a:Int}{ss:Sh}{p:cw}{c:Nat}(b:ss.length<=6)(ok:fJ p):iq [.dat (dc a ss),.dat (gc p),.dat (.int c)]=.rt (.dat (du (cp a ss p c))) []:=by
 cases p with
 | once m=>
  by_cases e:c=0
  ·subst e;simp[iq,nI,cf fq fq,lb,cp,du]
  ·simp[iq,nI,cf fq fq,lb,cp,du,e]
 | every f s=>exact QM ok.2.1 ok.2.2
 | daily h=>simp[iq,nI,cf ke fq,cf ke gX,cp,du,QK b]
theorem QN{l:List Int}(h:l≠[]):∃M,M∈l/\(∀x∈l,x<=M)/\mV [.list (l.map PyData.int)]=some (.int M):=by
 have key:∀(r:List Int) (i:Int),(∀x∈i::r,x<=r.foldl max i)/\r.foldl max i∈i::r:=fun r=>by
  induction r with
  | nil=>intro i;simp
  | cons j r c=>
   intro i;obtain⟨b,h2⟩:=c (max i j);have h3:=b (max i j) List.mem_cons_self;refine⟨fun x a=>?_,?_⟩
   ·simp only[List.foldl_cons];rcases List.mem_cons.mp a with rfl | a
    ·omega
    ·rcases List.mem_cons.mp a with rfl | a
     ·omega
     ·exact b x (bL _ a)
   ·simp only[List.foldl_cons];rcases List.mem_cons.mp h2 with e | e
    ·rw[e];rcases Int.le_total i j with q | q
     ·rw[Int.max_eq_right q];simp
     ·rw[Int.max_eq_left q];simp
    ·exact bL _ (bL _ e)
 cases l with
 | nil=>exact absurd rfl h
 | cons i r=>obtain⟨b,h2⟩:=key r i;exact⟨_,h2,b,by unfold mV;simp only[Mm];rfl⟩
noncomputable def uO(m:Int)(d:PyData):Bool:=match d with
 | .tuple (.int s::_)=>decide (s<=m)
 | _=>false
noncomputable def qf(m:Int)(d:PyData):PyData:=match d with
 | .tuple [.int _,.none,.int a]=>.int (m+a)
 | .tuple [.int _,.int e,.int a]=>.int ((if decide (m<e)=true then m else e - 1)+a)
 | _=>.none
theorem Ed(m:Int)(p:Int×Option Int×Int):uO m (fo p)=decide (p.1<=m):=rfl
theorem Ee(m:Int)(p:Int×Option Int×Int):qf m (fo p)=.int ((if fH m p.2.1=true then m else p.2.1.getD 0 - 1)+p.2.2):=by obtain⟨s,e,a⟩:=p;cases e<;>simp[qf,fo,du,fH]
theorem QO{a m:Int}{i:Sh}(j:i.length<=6)(k:fG 0 i)(l:0<=m):∃f,su [.dat (dc a i),.dat (.int m)]=.rt (.dat (.int f)) []/\(∃t,0<=t/\t<=m/\dS a i t=f)/\∀t,0<=t->t<=m->dS a i t<=f:=by
 have sz:1000<sizeLine:=by decide
 have c:=uK (t:=xI) (e:=pA) (g:=fX 3 (cH (aF 0) (cH (aF 1) (cH (aF 2) fW)))) (p:=uO m) (f:=qf m) (P:=fun U=>∃x y z,U=[x,y,z,some (.dat (.int m))]) (its:=(bj 0 a i).map fo) (ys:=[]) (U:=[none,none,none,some (.dat (.int m))]) ⟨_,_,_,rfl⟩ (fun d hd U n=>by
  obtain⟨p,_,rfl⟩:=List.mem_map.mp hd;obtain⟨x,y,z,rfl⟩:=n;refine⟨[some (.dat (.int p.1)),some (.dat (du p.2.1)),some (.dat (.int p.2.2)),some (.dat (.int m))],[some (.dat (.int p.1)),some (.dat (du p.2.1)),some (.dat (.int p.2.2)),some (.dat (.int m))],[some (.dat (.int p.1)),some (.dat (du p.2.1)),some (.dat (.int p.2.2)),some (.dat (.int m))],by simp[fo],by simp[xI,Ed],⟨_,_,_,rfl⟩,fun _=>⟨?_,⟨_,_,_,rfl⟩⟩⟩;rw[Ee];obtain⟨s,e,b⟩:=p;cases e with
  | none=>simp[pA,uL,fH]
  | some e=>
   by_cases h:m<e
   ·simp[pA,uL,fH,h]
   ·have h1:=uL (m:=m) (e:=some e);simp only[du,fH] at h1;simp[pA,h1,fH,h,du]) (by simp[qc];omega)
 have f1:(((bj 0 a i).map fo).filter (uO m)).map (qf m)=(iN m (bj 0 a i)).map PyData.int:=by unfold iN;have o:qf m∘fo=fun p=>.int ((if fH m p.2.1=true then m else p.2.1.getD 0 - 1)+p.2.2):=funext (Ee m);have q:uO m∘fo=fun p=>decide (p.1<=m):=funext (Ed m);rw[List.filter_map,List.map_map,List.map_map,o,q];rfl
 obtain⟨g1,g2⟩:=CT (m:=m) i 0 a k;obtain⟨B,r,_⟩:=g2 0 (Int.le_refl _) l;obtain⟨M,h1,h2,h3⟩:=QN (List.ne_nil_of_mem r);rw[f1] at c;simp only[List.nil_append] at c;have C:(iN m (bj 0 a i)).length<=7:=by unfold iN;rw[List.length_map];exact Nat.le_trans (List.length_filter_le _ _) (by rw[qc];omega)
 refine⟨M,by simp[su,xJ,DM j,c,h3,show(iN m (bj 0 a i)).length<=sizeLine by omega],g1 M h1,fun t u v=>?_⟩;obtain⟨x,w,A⟩:=g2 t u v;exact Int.le_trans A (h2 x w)
theorem QP{a m:Int}{b:Sh}{p:cw}{n:Nat}(z:iK a b)(ok:fJ p)(u:gV a b p m n):kT [.dat (dc a b),.dat (gc p),.dat (.int m)]=.rt (.dat (.int n)) []:=by
 by_cases j:m<0
 ·have i:n=0:=by refine Nat.eq_zero_of_not_pos fun h=>?_;obtain⟨v,d,o⟩:=u.in_ 0 h;have:=Ow z ok d;omega
  subst i;simp[kT,mm,j]
 cases p with
 | once x=>
  by_cases e:x<=m
  ·have i:n=1:=by
    rcases Nat.lt_trichotomy n 1 with h | h | h
    ·have q:n=0:=by omega
     subst q;rcases u.out with h | ⟨v,h,d⟩
     ·rw[cp,if_pos rfl] at h;cases h
     ·rw[cp,if_pos rfl] at h;cases h;omega
    ·exact h
    ·obtain⟨v,d,_⟩:=u.in_ 1 h;rw[cp,if_neg (by decide)] at d;cases d
   subst i;simp[kT,mm,j,cf fq fq,e]
  ·have i:n=0:=by refine Nat.eq_zero_of_not_pos fun h=>?_;obtain⟨v,d,o⟩:=u.in_ 0 h;rw[cp,if_pos rfl] at d;cases d;omega
   subst i;simp[kT,mm,j,cf fq fq,e]
 | every f s=>
  obtain⟨C,D,E⟩:=id ok;have r:=OA (by omega) u;have w:max 0 ((m - f) / s+1)=(n:Int):=by
   rw[r];unfold xm;rw[show m+1 - f - 1=m - f by omega]
   by_cases h:f<m+1
   ·rw[if_pos h];have:=Int.ediv_nonneg (show 0<=m - f by omega) (show 0<=s by omega);omega
   ·rw[if_neg h];have:(m - f) / s<0:=Int.ediv_neg_of_neg_of_pos (by omega) (by omega);omega
  simp[kT,mm,j,cf gX fq,cf gX gX,mQ,show 0<s by omega,show s<1073741824 by omega,w]
 | daily hh=>
  obtain⟨f,y,⟨t,A,B,G⟩,f2⟩:=QO (a:=a) z.len z.rise (show 0<=m by omega);have key:∀c:Nat,gU a b hh c<=m↔(gT a b hh+c) * 24+hh<=f:=fun c=>by
   obtain⟨g1,g2,g3⟩:=nz (g:=(gT a b hh+c) * 24+hh) (a:=a) z.rise;have e:gU a b hh c=gA ((gT a b hh+c) * 24+hh) 0 a b:=rfl;rw[e];constructor
   ·intro h;exact Int.le_trans g2 (f2 _ g1 h)
   ·intro h;refine Int.le_trans (Int.not_lt.mp fun k=>?_) B;have:=g3 t A k;omega
  have fd:=CQ (a:=a) (h:=hh) (ss:=b);have H:=f2 0 (Int.le_refl _) (by omega);have i:(f - hh) / 24 - gT a b hh+1=((n:Nat):Int):=by
   have h1:¬ (gT a b hh+n) * 24+hh<=f:=fun h=>by have o:=(key n).mpr h;have:=Oy (p:=.daily hh) (v:=gU a b hh n) z ok u (bI _) rfl;omega
   by_cases I:0<n
   ·obtain⟨v,d,l⟩:=u.in_ (n - 1) (by omega);cases d;have h2:=(key (n - 1)).mp l;omega
   ·omega
  simp[kT,mm,j,cf ke fq,cf ke gX,y,mQ,Eb,i]
def yJ(o:gH):Prop:=∃x r,o=.rt (.dat (.bool true)) (x::r)
theorem gd{m k:SM}{U U':ao}(h:m U=.nx U')(q:yJ (k U')):yJ (aA m k U):=by rw[lc h];exact q
theorem QQ{m:SM}{n:Nat}{a:List Int}(h:yJ (m (some (.scr a)::List.replicate n none))):bi 1 (n+1) m [.scr a]=.rt (.dat (.bool true)) []:=by obtain⟨x,r,e⟩:=h;simp[e]
theorem mw(i:Int)(r:Nat):L3.intsFrom i (r+1)=.int i::L3.intsFrom (i+1) r:=by
 unfold L3.intsFrom;rw[List.range_succ_eq_map,List.map_cons,List.map_map]
 congr 1
 ·simp
 ·apply List.map_congr_left;intro k _;simp;omega
theorem QR{ns:List Int}{t:List PyData}(b:ns.length<=63)(o:t.length<=900):∃p t',fJ p/\t'.length<=t.length+4/\nL [.scr ns,.own true (.l t)]=.rt (.dat (gc p)) [.l t']:=by
 obtain⟨k,q,r,h1⟩:=el (ns:=ns) (t:=t) (many:=5) b (by omega) (by omega)
 by_cases e:k=0
 ·obtain⟨w,a,h2⟩:=kZ (ns:=ns) (t:=t++[.int 0]) (ds:=[.int 100,.int 100,.int 2500]) b (by simp;omega) (by simp) (by simp);have:∃i:Int,w=.int i/\0<i/\i<=2500:=by simp only[List.mem_cons,List.not_mem_nil,or_false] at a;rcases a with rfl | rfl | rfl<;>exact⟨_,rfl,by omega,by omega⟩
  obtain⟨i,rfl,c,j⟩:=this;obtain⟨m,d,n,h3⟩:=el (ns:=ns) (t:=t++[.int 0]++[.int 0]) (many:=i) b (by simp;omega) c;refine⟨.once m,t++[.int 0]++[.int 0]++[.int 0],⟨d,by omega⟩,by simp,?_⟩;simp only[List.append_assoc,List.cons_append,List.nil_append] at h1 h2 h3;simp[nL,pK,h1,h2,h3,lb,e]
 ·by_cases g:k<3
  ·obtain⟨w,a,h2⟩:=kZ (ns:=ns) (t:=t++[.int 0]) (ds:=[.int 30,.int 30,.int 999]) b (by simp;omega) (by simp) (by simp);have:∃i:Int,w=.int i/\0<i/\i<=999:=by simp only[List.mem_cons,List.not_mem_nil,or_false] at a;rcases a with rfl | rfl | rfl<;>exact⟨_,rfl,by omega,by omega⟩
   obtain⟨i,rfl,c,j⟩:=this;obtain⟨s,u,v,h3⟩:=el (ns:=ns) (t:=t++[.int 0]++[.int 0]) (many:=i) b (by simp;omega) c;obtain⟨f,f1,f2,h⟩:=el (ns:=ns) (t:=t++[.int 0]++[.int 0]++[.int 0]) (many:=50) b (by simp;omega) (by omega);refine⟨.every f (1+s),t++[.int 0]++[.int 0]++[.int 0]++[.int 0],⟨⟨f1,by omega⟩,by omega,by omega⟩,by simp,?_⟩;simp only[List.append_assoc,List.cons_append,List.nil_append] at h1 h2 h3 h;simp[nL,pK,h1,h2,h3,h,lb,e,g]
  ·obtain⟨m,d,n,h2⟩:=el (ns:=ns) (t:=t++[.int 0]) (many:=24) b (by simp;omega) (by omega);refine⟨.daily m,t++[.int 0]++[.int 0],⟨d,by omega⟩,by simp,?_⟩;simp only[List.append_assoc,List.cons_append,List.nil_append] at h1 h2;simp[nL,pK,h1,h2,lb,e,g]
@[simp] theorem SU:dU .none=true:=by simp only[dU]
@[simp] theorem SV(i:Int):dU (.int i)=true:=by simp only[dU]
@[simp] theorem SW(b:Bool):dU (.bool b)=true:=by simp only[dU]
@[simp] theorem SX(x:Str):dU (.str x)=true:=by simp only[dU]
@[simp] theorem SY(l:List PyData):dU (.tuple l)=true:=by simp only[dU]
@[simp] theorem SZ(l:List PyData):dU (.list l)=true:=by simp only[dU]
theorem nV:ml [.exc "NotHolder"]=.rt (.dat (.tuple [.str "refused",.int 8])) []:=by kernel_rfl
theorem Ef:ml [.exc "Nothing"]=.rt (.dat (.tuple [.str "refused",.int 9])) []:=by kernel_rfl
inductive gY where
 | all | last | within (n:Int)
structure ca where
 plan:cw
 late:gY
 again:Bool
noncomputable abbrev lg:gY->PyData
 | .all=>.str "all"
 | .last=>.str "last"
 | .within n=>.tuple [.str "within",.int n]
noncomputable abbrev bH(d:ca):PyData:=.tuple [gc d.plan,lg d.late,.bool d.again]
@[irreducible] noncomputable def eG(a:List ca):PyData:=.tuple (a.map bH)
noncomputable def bM:Option Int->PyData
 | none=>.none
 | some i=>.int i
noncomputable def fL:Option (Nat×Nat×Int)->PyData
 | none=>.none
 | some (d,c,h)=>.tuple [.int d,.int c,.int h]
inductive Wd where
 | begun | done | left | unsure
deriving DecidableEq
noncomputable abbrev iP:Wd->Str
 | .begun=>"begun"
 | .done=>"done"
 | .left=>"left"
 | .unsure=>"unsure"
structure iu where
 mo:Int
 ru:Int
 wd:Wd
 dd:Nat
 ct:Nat
noncomputable abbrev eO(r:iu):PyData:=.tuple [.int r.mo,.int r.ru,.str (iP r.wd),.int r.dd,.int r.ct]
noncomputable abbrev aW(n:Nat):PyData:=.int n
noncomputable def eI(a:List ((Nat×Nat)×Wd)):List (PyData×PyData):=a.map fun p=>(.tuple [aW p.1.1,aW p.1.2],.str (iP p.2))
structure Hl where
 a:Int
 ss:Sh
 ds:List ca
 last:Option Int
 holder:Option Int
 til:Int
 holds:Int
 begun:Option (Nat×Nat×Int)
 rows:List iu
 words:List ((Nat×Nat)×Wd)
 settled:List Nat
@[irreducible] noncomputable def ai(S:Hl):List (Str×Fl):=[("zone",.d (dc S.a S.ss)),("deeds",.d (eG S.ds)),("last",.d (bM S.last)),("holder",.d (bM S.holder)),("until",.d (.int S.til)),("holds",.d (.int S.holds)),("begun",.d (fL S.begun)),("rows",.l (S.rows.map eO)),("words",.m true (eI S.words)),("settled",.l (S.settled.map aW))]
noncomputable abbrev hB(C:Addr)(S:Hl):Bx:=.o C (ai S)
@[simp] theorem Ta(S:Hl):List.lookup ("zone":Str) (ai S)=some (.d (dc S.a S.ss)):=by unfold ai;kernel_rfl
@[simp] theorem Eg(S:Hl):List.lookup ("deeds":Str) (ai S)=some (.d (eG S.ds)):=by unfold ai;kernel_rfl
@[simp] theorem Tb(S:Hl):List.lookup ("last":Str) (ai S)=some (.d (bM S.last)):=by unfold ai;kernel_rfl
@[simp] theorem Tc(S:Hl):List.lookup ("holder":Str) (ai S)=some (.d (bM S.holder)):=by unfold ai;kernel_rfl
@[simp] theorem Td(S:Hl):List.lookup ("until":Str) (ai S)=some (.d (.int S.til)):=by unfold ai;kernel_rfl
@[simp] theorem Te(S:Hl):List.lookup ("holds":Str) (ai S)=some (.d (.int S.holds)):=by unfold ai;kernel_rfl
@[simp] theorem Tf(S:Hl):List.lookup ("begun":Str) (ai S)=some (.d (fL S.begun)):=by unfold ai;kernel_rfl
@[simp] theorem Tg(S:Hl):List.lookup ("rows":Str) (ai S)=some (.l (S.rows.map eO)):=by unfold ai;kernel_rfl
@[simp] theorem Th(S:Hl):List.lookup ("words":Str) (ai S)=some (.m true (eI S.words)):=by unfold ai;kernel_rfl
@[simp] theorem Ti(S:Hl):List.lookup ("settled":Str) (ai S)=some (.l (S.settled.map aW)):=by unfold ai;kernel_rfl
@[simp] theorem Tj(S:Hl):List.lookup ("is_held":Str) (ai S)=none:=by unfold ai;kernel_rfl
@[simp] theorem Tk(S:Hl):List.lookup ("check_call":Str) (ai S)=none:=by unfold ai;kernel_rfl
@[simp] theorem Tl(S:Hl):List.lookup ("check_holder":Str) (ai S)=none:=by unfold ai;kernel_rfl
@[simp] theorem Tn(S:Hl):List.lookup ("take":Str) (ai S)=none:=by unfold ai;kernel_rfl
@[simp] theorem To(S:Hl):List.lookup ("give":Str) (ai S)=none:=by unfold ai;kernel_rfl
@[simp] theorem Tp(S:Hl):List.lookup ("add_row":Str) (ai S)=none:=by unfold ai;kernel_rfl
@[simp] theorem Tq(S:Hl):List.lookup ("is_busy":Str) (ai S)=none:=by unfold ai;kernel_rfl
@[simp] theorem Tr(S:Hl):List.lookup ("first_unsettled":Str) (ai S)=none:=by unfold ai;kernel_rfl
@[simp] theorem Ts(S:Hl):List.lookup ("step":Str) (ai S)=none:=by unfold ai;kernel_rfl
@[simp] theorem Tt(S:Hl):List.lookup ("step_behind_a_fall":Str) (ai S)=none:=by unfold ai;kernel_rfl
@[simp] theorem Tu(S:Hl):List.lookup ("step_ahead":Str) (ai S)=none:=by unfold ai;kernel_rfl
@[simp] theorem Tv(S:Hl):List.lookup ("finish":Str) (ai S)=none:=by unfold ai;kernel_rfl
@[simp] theorem Tw(S:Hl):List.lookup ("state":Str) (ai S)=none:=by unfold ai;kernel_rfl
@[simp] theorem Tz(S:Hl):List.lookup ("held":Str) (ai S)=none:=by unfold ai;kernel_rfl
@[simp] theorem TB(S:Hl):List.lookup ("log":Str) (ai S)=none:=by unfold ai;kernel_rfl
@[simp] theorem TC(S:Hl):List.lookup ("waiting":Str) (ai S)=none:=by unfold ai;kernel_rfl
@[simp] theorem TD(S:Hl):List.lookup ("saved":Str) (ai S)=none:=by unfold ai;kernel_rfl
@[simp] theorem TF(S:Hl):(ai S).length=10:=by unfold ai;kernel_rfl
theorem yK(S:Hl)(x:Option Int):bU ("last":Str) (.d (bM x)) (ai S)=ai { S with last:=x }:=by unfold ai;kernel_rfl
theorem yL(S:Hl)(x:Option Int):bU ("holder":Str) (.d (bM x)) (ai S)=ai { S with holder:=x }:=by unfold ai;kernel_rfl
theorem QS(S:Hl)(x:Int):bU ("until":Str) (.d (.int x)) (ai S)=ai { S with til:=x }:=by unfold ai;kernel_rfl
theorem QT(S:Hl)(x:Int):bU ("holds":Str) (.d (.int x)) (ai S)=ai { S with holds:=x }:=by unfold ai;kernel_rfl
theorem yM(S:Hl)(x:Option (Nat×Nat×Int)):bU ("begun":Str) (.d (fL x)) (ai S)=ai { S with begun:=x }:=by unfold ai;kernel_rfl
theorem QU(S:Hl)(x:List iu):bU ("rows":Str) (.l (x.map eO)) (ai S)=ai { S with rows:=x }:=by unfold ai;kernel_rfl
theorem uP(S:Hl)(x:List ((Nat×Nat)×Wd)):bU ("words":Str) (.m true (eI x)) (ai S)=ai { S with words:=x }:=by unfold ai;kernel_rfl
theorem yN(S:Hl)(x:List Nat):bU ("settled":Str) (.l (x.map aW)) (ai S)=ai { S with settled:=x }:=by unfold ai;kernel_rfl
@[simp] theorem TH(S:Hl):bU ("last":Str) (.d .none) (ai S)=ai { S with last:=none }:=yK S none
@[simp] theorem TJ(S:Hl)(i:Int):bU ("last":Str) (.d (.int i)) (ai S)=ai { S with last:=some i }:=yK S (some i)
@[simp] theorem TK(S:Hl):bU ("holder":Str) (.d .none) (ai S)=ai { S with holder:=none }:=yL S none
@[simp] theorem TL(S:Hl)(i:Int):bU ("holder":Str) (.d (.int i)) (ai S)=ai { S with holder:=some i }:=yL S (some i)
@[simp] theorem TM(S:Hl)(i:Int):bU ("until":Str) (.d (.int i)) (ai S)=ai { S with til:=i }:=QS S i
@[simp] theorem TN(S:Hl)(i:Int):bU ("holds":Str) (.d (.int i)) (ai S)=ai { S with holds:=i }:=QT S i
@[simp] theorem TQ(S:Hl):bU ("begun":Str) (.d .none) (ai S)=ai { S with begun:=none }:=yM S none
@[simp] theorem TR(S:Hl)(d c:Nat)(h:Int):bU ("begun":Str) (.d (.tuple [.int d,.int c,.int h])) (ai S)=ai { S with begun:=some (d,c,h) }:=yM S (some (d,c,h))
section
variable{C:Addr}{io:Bool}{S:Hl}{U:ao}
@[simp] theorem TU{fs:List (Str×Fl)}:bJ C (some (.own io (.o C fs))::U) 0=some (io,fs):=by simp[bJ]
@[simp] theorem TV{x y:Option aj}{fs:List (Str×Fl)}:bJ C (x::y::some (.own io (.o C fs))::U) 2=some (io,fs):=by simp[bJ]
@[simp] theorem TW{f:Str}{d:PyData}{fs:List (Str×Fl)}(h:fs.lookup f=some (.d d)):bO C 0 f (some (.own io (.o C fs))::U)=.ok d (some (.own io (.o C fs))::U):=by simp[bO,h]
@[simp] theorem TX:isNone .none=true:=by simp only[isNone]
@[simp] theorem TY(i:Int):isNone (.int i)=false:=by simp only[isNone]
@[simp] theorem TZ(b:Bool):isNone (.bool b)=false:=by simp only[isNone]
@[simp] theorem Ua(x:Str):isNone (.str x)=false:=by simp only[isNone]
@[simp] theorem Ub(l:List PyData):isNone (.tuple l)=false:=by simp only[isNone]
@[simp] theorem Uc(l:List PyData):isNone (.list l)=false:=by simp only[isNone]
@[simp] theorem Ud(x:Option Int):isNone (bM x)=x.isNone:=by cases x<;>simp[bM]
@[simp] theorem Ue(x:Option (Nat×Nat×Int)):isNone (fL x)=x.isNone:=by rcases x with _ | ⟨_,_,_⟩<;>simp[fL]
end
theorem QV{d:PyData}(h:dU d=true):si [.dat d]=.rt (.dat (.bool (cE d 0 3))) []:=by simp[aS,si,xB,jv h]
theorem QW{d:PyData}(h:dU d=true):sj [.dat d]=.rt (.dat (.bool (cE d 1 99))) []:=by simp[aS,sj,xD,jv h]
theorem Eh{d:PyData}(h:dU d=true):sC [.dat d]=if cE d 0 3=true then .rt (.dat .none) [] else .ex "NoRunner" []:=by simp only[sC,xO];cases a:cE d 0 3<;>simp[aS,QV h,a]
theorem yO{d:PyData}(h:dU d=true):sE [.dat d]=if cE d 1 99=true then .rt (.dat .none) [] else .ex "NoTerm" []:=by simp only[sE,xP];cases a:cE d 1 99<;>simp[aS,QW h,a]
noncomputable def gZ(S:Hl)(m:Int):Bool:=S.holder.isSome&&decide (m<S.til)
noncomputable def uQ(S:Hl)(m:Int):Bool:=match S.last with
 | some l=>decide (m<l)
 | none=>false
section
variable{C:Addr}{S:Hl}{r m:Int}{d:PyData}
theorem nW:pp C [.own true (hB C S),.dat (.int m)]=.rt (.dat (.bool (gZ S m))) [hB C S]:=by unfold gZ;cases h:S.holder<;>simp[pp,xv,h,bM]
theorem QX{r:PyData}(b:dU r=true)(c:cE r 0 3=true)(e:cE (.int m) 0 9999=true)(a:uQ S m=false):jr C [.own true (hB C S),.dat r,.dat (.int m)]=.rt (.dat .none) [hB C S]:=by
 unfold uQ at a;cases h:S.last with
 | none=>simp[jr,sI,Eh b,c,Dy (d:=.int m) rfl,e,h,bM]
 | some l=>rw[h] at a;simp at a;simp[jr,sI,Eh b,c,Dy (d:=.int m) rfl,e,h,bM,show ¬ m<l by omega]
theorem uR(x:Option Int)(r:Int):aS true (bM x) (.int r)=some (.bool (!decide (x=some r))):=by
 cases x with
 | none=>simp[bM,aS,nR,show SeqAt.shaped .none=true from rfl,PyData.eqv]
 | some i=>simp[bM,QG]
theorem Ei(h:jr C [.own true (hB C S),.dat (.int r),.dat (.int m)]=.rt (.dat .none) [hB C S])(a:(gZ S m&&decide (S.holder=some r))=false):eE C [.own true (hB C S),.dat (.int r),.dat (.int m)]=.ex "NotHolder" [hB C S]:=by
 cases hh:gZ S m with
 | false=>simp[eE,pL,bR,cM,h,nW,hh]
 | true=>rw[hh] at a;simp at a;simp[eE,pL,bR,cM,h,nW,hh,uR,a]
theorem Ej(h:jr C [.own true (hB C S),.dat (.int r),.dat (.int m)]=.rt (.dat .none) [hB C S])(a:gZ S m=true)(b:S.holder=some r):eE C [.own true (hB C S),.dat (.int r),.dat (.int m)]=.rt (.dat .none) [hB C S]:=by simp[eE,pL,bR,cM,h,nW,a,uR,b]
noncomputable def qg(S:Hl)(r m t:Int):Hl×Bool:=if gZ S m=false then({ S with last:=some m,holds:=S.holds+1,holder:=some r,til:=m+t },true) else if S.holder=some r then({ S with last:=some m,holder:=some r,til:=m+t },true) else({ S with last:=some m },false)
theorem Ek{t:Int}(h:jr C [.own true (hB C S),.dat (.int r),.dat (.int m)]=.rt (.dat .none) [hB C S])(b:cE (.int t) 1 99=true):mr C [.own true (hB C S),.dat (.int r),.dat (.int m),.dat (.int t)]=.rt (.dat (.bool (qg S r m t).2)) [hB C (qg S r m t).1]:=by
 unfold qg;have hh:gZ { S with last:=some m } m=gZ S m:=rfl;cases a:gZ S m with
 | false=>simp[mr,pM,bR,cM,h,yO (d:=.int t) rfl,b,cu,fk,fj,nW,hh,a,rN]
 | true=>
  by_cases c:S.holder=some r
  ·have e:m<S.til:=by unfold gZ at a;simp[c] at a;exact a
   simp[mr,pM,bR,cM,h,yO (d:=.int t) rfl,b,cu,fk,fj,nW,gZ,e,uR,c]
  ·simp[mr,pM,bR,cM,h,yO (d:=.int t) rfl,b,cu,fk,fj,nW,hh,a,uR,c]
theorem El{c:Str}{m:PyData}(h:eE C [.own true (hB C S),.dat d,.dat m]=.ex c [hB C S]):kX C [.own true (hB C S),.dat d,.dat m]=.ex c [hB C S]:=by simp[kX,sQ,bR,cM,h]
theorem Em{r m:Int}(h:eE C [.own true (hB C S),.dat (.int r),.dat (.int m)]=.rt (.dat .none) [hB C S]):kX C [.own true (hB C S),.dat (.int r),.dat (.int m)]=.rt (.dat .none) [hB C { S with last:=some m,holder:=none }]:=by simp[kX,sQ,bR,cM,h,cu,fk,fj]
theorem En{c:Str}{m:PyData}(h:eE C [.own true (hB C S),.dat d,.dat m]=.ex c [hB C S]):ju C [.own true (hB C S),.dat d,.dat m]=.ex c [hB C S]:=by simp[ju,nN,bR,cM,h]
theorem Eo{c:Str}{m:PyData}(h:eE C [.own true (hB C S),.dat d,.dat m]=.ex c [hB C S]):jt C [.own true (hB C S),.dat d,.dat m]=.ex c [hB C S]:=by simp[jt,pQ,bR,cM,h]
noncomputable abbrev hJ(S:Hl):PyData:=.tuple [bM S.holder,.int S.til,.int S.holds]
theorem uS:ip C [.own true (hB C S)]=.rt (.dat (hJ S)) [hB C S]:=by simp[ip,xw,show(3:Nat)<=sizeLine from by decide]
theorem QY:sh C [.own true (hB C S)]=.rt (.dat (.list (S.rows.map eO))) [hB C S]:=by simp[sh,xx,rO]
end
@[irreducible] noncomputable def lh(z d:PyData):List (Str×Fl):=[]
@[irreducible] noncomputable def li(z d:PyData):List (Str×Fl):=[("zone",.d z)]
@[irreducible] noncomputable def lm(z d:PyData):List (Str×Fl):=[("zone",.d z),("deeds",.d d)]
@[irreducible] noncomputable def lp(z d:PyData):List (Str×Fl):=[("zone",.d z),("deeds",.d d),("last",.d .none)]
@[irreducible] noncomputable def lq(z d:PyData):List (Str×Fl):=[("zone",.d z),("deeds",.d d),("last",.d .none),("holder",.d .none)]
@[irreducible] noncomputable def lr(z d:PyData):List (Str×Fl):=[("zone",.d z),("deeds",.d d),("last",.d .none),("holder",.d .none),("until",.d (.int 0))]
@[irreducible] noncomputable def ls(z d:PyData):List (Str×Fl):=[("zone",.d z),("deeds",.d d),("last",.d .none),("holder",.d .none),("until",.d (.int 0)),("holds",.d (.int 0))]
@[irreducible] noncomputable def lu(z d:PyData):List (Str×Fl):=[("zone",.d z),("deeds",.d d),("last",.d .none),("holder",.d .none),("until",.d (.int 0)),("holds",.d (.int 0)),("begun",.d .none)]
@[irreducible] noncomputable def lv(z d:PyData):List (Str×Fl):=[("zone",.d z),("deeds",.d d),("last",.d .none),("holder",.d .none),("until",.d (.int 0)),("holds",.d (.int 0)),("begun",.d .none),("rows",.l [])]
@[irreducible] noncomputable def lx(z d:PyData):List (Str×Fl):=[("zone",.d z),("deeds",.d d),("last",.d .none),("holder",.d .none),("until",.d (.int 0)),("holds",.d (.int 0)),("begun",.d .none),("rows",.l []),("words",.m true [])]
@[simp] theorem Uf(z d:PyData):List.lookup ("zone":Str) (lh z d)=none:=by unfold lh;kernel_rfl
@[simp] theorem Ug(z d:PyData):(lh z d).length=0:=by unfold lh;kernel_rfl
@[simp] theorem Uh(z d:PyData):bU ("zone":Str) (.d z) (lh z d)=li z d:=by unfold lh li;kernel_rfl
@[simp] theorem Ui(z d:PyData):List.lookup ("deeds":Str) (li z d)=none:=by unfold li;kernel_rfl
@[simp] theorem Uj(z d:PyData):(li z d).length=1:=by unfold li;kernel_rfl
@[simp] theorem Uk(z d:PyData):bU ("deeds":Str) (.d d) (li z d)=lm z d:=by unfold li lm;kernel_rfl
@[simp] theorem Ul(z d:PyData):List.lookup ("last":Str) (lm z d)=none:=by unfold lm;kernel_rfl
@[simp] theorem Um(z d:PyData):(lm z d).length=2:=by unfold lm;kernel_rfl
@[simp] theorem Uo(z d:PyData):bU ("last":Str) (.d .none) (lm z d)=lp z d:=by unfold lm lp;kernel_rfl
@[simp] theorem Up(z d:PyData):List.lookup ("holder":Str) (lp z d)=none:=by unfold lp;kernel_rfl
@[simp] theorem Uq(z d:PyData):(lp z d).length=3:=by unfold lp;kernel_rfl
@[simp] theorem Ur(z d:PyData):bU ("holder":Str) (.d .none) (lp z d)=lq z d:=by unfold lp lq;kernel_rfl
@[simp] theorem Us(z d:PyData):List.lookup ("until":Str) (lq z d)=none:=by unfold lq;kernel_rfl
@[simp] theorem Ut(z d:PyData):(lq z d).length=4:=by unfold lq;kernel_rfl
@[simp] theorem Uu(z d:PyData):bU ("until":Str) (.d (.int 0)) (lq z d)=lr z d:=by unfold lq lr;kernel_rfl
@[simp] theorem Uv(z d:PyData):List.lookup ("holds":Str) (lr z d)=none:=by unfold lr;kernel_rfl
@[simp] theorem Uw(z d:PyData):(lr z d).length=5:=by unfold lr;kernel_rfl
@[simp] theorem Ux(z d:PyData):bU ("holds":Str) (.d (.int 0)) (lr z d)=ls z d:=by unfold lr ls;kernel_rfl
@[simp] theorem Uy(z d:PyData):List.lookup ("begun":Str) (ls z d)=none:=by unfold ls;kernel_rfl
@[simp] theorem Uz(z d:PyData):(ls z d).length=6:=by unfold ls;kernel_rfl
@[simp] theorem UA(z d:PyData):bU ("begun":Str) (.d .none) (ls z d)=lu z d:=by unfold ls lu;kernel_rfl
@[simp] theorem UB(z d:PyData):List.lookup ("rows":Str) (lu z d)=none:=by unfold lu;kernel_rfl
@[simp] theorem UC(z d:PyData):(lu z d).length=7:=by unfold lu;kernel_rfl
@[simp] theorem UD(z d:PyData):bU ("rows":Str) (.l []) (lu z d)=lv z d:=by unfold lu lv;kernel_rfl
@[simp] theorem UE(z d:PyData):List.lookup ("words":Str) (lv z d)=none:=by unfold lv;kernel_rfl
@[simp] theorem UF(z d:PyData):(lv z d).length=8:=by unfold lv;kernel_rfl
@[simp] theorem UG(z d:PyData):bU ("words":Str) (.m true []) (lv z d)=lx z d:=by unfold lv lx;kernel_rfl
@[simp] theorem UH(z d:PyData):List.lookup ("settled":Str) (lx z d)=none:=by unfold lx;kernel_rfl
@[simp] theorem UI(z d:PyData):(lx z d).length=9:=by unfold lx;kernel_rfl
noncomputable def dZ(a:Int)(c:Sh)(b:List ca):Hl:=⟨a,c,b,none,none,0,0,none,[],[],List.replicate b.length 0⟩
theorem QZ(a:Int)(c:Sh)(b:List ca):bU ("settled":Str) (.l ((List.replicate b.length (0:Nat)).map aW)) (lx (dc a c) (eG b))=ai (dZ a c b):=by unfold lx ai dZ;kernel_rfl
theorem Ep{C:Addr}:∀(l a:List PyData) (U:ao),(∃x,U=[x])->a.length+l.length<=sizeLine->cn (aF 0) cZ (sR C) l a U=some (a++(List.replicate l.length (0:Nat)).map aW)
 | [],a,U,_,_=>by simp[cn]
 | d::l,a,U,⟨x,b⟩,c=>by
  subst b;simp only[List.length_cons] at c;have e:=Ep (C:=C) l (a++[.int 0]) [some (.dat d)] ⟨_,rfl⟩ (by simp;omega);have f:sR C [some (.dat d)]=.ok (.int 0) [some (.dat d)]:=by simp[sR]
  rw[cn];simp[cZ,f,show a.length<sizeLine by omega,e,List.replicate_succ]
theorem Er{C:Addr}{a:Int}{c:Sh}{b:List ca}(e:pH [.dat (dc a c)]=.rt (.dat .none) [])(hd:pO [.dat (eG b)]=.rt (.dat .none) [])(i:b.length<=6):pR C [.own true (.o C []),.dat (dc a c),.dat (eG b)]=.rt (.dat .none) [hB C (dZ a c b)]:=by
 have sz:1000<sizeLine:=by decide
 have f:([]:List (Str×Fl))=lh (dc a c) (eG b):=by unfold lh;rfl
 have g:=Ep (C:=C) (b.map bH) [] [none] ⟨_,rfl⟩ (by simp;omega);rw[List.nil_append,List.length_map] at g;have h:eG b=.tuple (b.map bH):=by unfold eG;rfl
 have d:=QZ a c b;rw[f];simp[pR,yg,e,hd,cu,fk,fj,mi,xh,rV];rw[h] at *;simp[g,show b.length<=sizeLine by omega] at d ⊢;exact d
def mx(p:cw):Prop:=fJ p
theorem mx.plan{p:cw}(h:mx p):fJ p:=h
theorem yP{a:Int}{ss:Sh}{p:cw}{c:Nat}(b:ss.length<=6)(ok:mx p):iq [.dat (dc a ss),.dat (gc p),.dat (.int c)]=.rt (.dat (du (cp a ss p c))) []:=Ec b ok
theorem kf:PyData.strOk "all" = true:=by decide +kernel
theorem iQ:PyData.strOk "last" = true:=by decide +kernel
theorem uT:PyData.strOk "within" = true:=by decide +kernel
theorem qh:PyData.strOk "begun" = true:=by decide +kernel
theorem Ra:PyData.strOk "done" = true:=by decide +kernel
theorem Rb:PyData.strOk "left" = true:=by decide +kernel
theorem Rc:PyData.strOk "unsure" = true:=by decide +kernel
theorem Es:(("all":Str)==("all":Str))=true:=by decide +kernel
theorem yQ:(("last":Str)==("all":Str))=false:=by decide +kernel
theorem yR:(("last":Str)==("last":Str))=true:=by decide +kernel
theorem Re:(("begun":Str)==("begun":Str))=true:=by decide +kernel
theorem Rf:(("done":Str)==("begun":Str))=false:=by decide +kernel
theorem Rg:(("left":Str)==("begun":Str))=false:=by decide +kernel
theorem Rh:(("unsure":Str)==("begun":Str))=false:=by decide +kernel
theorem Et{l:List PyData}{x:Str}(h:SeqAt.shaped (.tuple l)=true)(a:PyData.strOk x=true):aS false (.tuple l) (.str x)=some (.bool false):=by simp[aS,h,yI a,PyData.eqv]
theorem Eu(n:Int):SeqAt.shaped (.tuple [.str "within",.int n])=true:=by unfold SeqAt.shaped;simp[PyData.canLay0,PyData.canLayAll0,PyData.depth,PyData.depthAll,uT]
noncomputable def nX(a:Int)(e:Sh)(d:ca)(c:Nat)(b:Int):Bool:=match d.late with
 | .all=>false
 | .last=>(match cp a e d.plan (c+1) with | some v=>decide (v<=b) | none=>false)
 | .within n=>decide (b - CS a e d.plan c>n)
theorem Ri{a now:Int}{ss:Sh}{d:ca}{c:Nat}(f:ss.length<=6)(ok:mx d.plan)(g:∃v,cp a ss d.plan c=some v):mq [.dat (dc a ss),.dat (bH d),.dat (.int c),.dat (.int now)]=.rt (.dat (.bool (nX a ss d c now))) []:=by
 obtain⟨p,la,h⟩:=d;obtain⟨v,e⟩:=g;simp only at ok e;unfold nX;cases la with
 | all=>simp[mq,nK,cf kf kf,Es]
 | last=>
  have rt:=yP (a:=a) (ss:=ss) (p:=p) (c:=c+1) f ok;simp at rt;cases b:cp a ss p (c+1) with
  | none=>rw[b] at rt;simp[mq,nK,cf iQ kf,cf iQ iQ,yQ,yR,rt,du,b]
  | some w=>rw[b] at rt;simp[mq,nK,cf iQ kf,cf iQ iQ,yQ,yR,rt,du,b]
 | within n=>have rt:=yP (a:=a) (ss:=ss) (p:=p) (c:=c) f ok;rw[e] at rt;simp[mq,nK,Et (Eu n) kf,Et (Eu n) iQ,rt,du,CS,e]
noncomputable def fr:List ((Nat×Nat)×Wd)->(Nat×Nat)->Wd->List ((Nat×Nat)×Wd)
 | [],k,w=>[(k,w)]
 | (a,v)::r,k,w=>if a = k then(a,w)::r else(a,v)::fr r k w
theorem nY(d c:Nat):iG true (.tuple [aW d,aW c])=some [Sum.inl (d:Int),Sum.inl (c:Int)]:=rfl
theorem qi{d c a b:Nat}:(iG true (.tuple [aW a,aW b])=some [Sum.inl (d:Int),Sum.inl (c:Int)])↔(a,b)=(d,c):=by
 rw[nY];constructor
 ·intro h;simp only[Option.some.injEq,List.cons.injEq,Sum.inl.injEq,and_true] at h;have h1:=h.1;have h2:=h.2;have e:a = d:=by omega
  have f:b = c:=by omega
  rw[e,f]
 ·intro h;cases h;rfl
theorem yS(d c:Nat):∀e:List ((Nat×Nat)×Wd),gw true (eI e) [Sum.inl (d:Int),Sum.inl (c:Int)]=(e.lookup (d,c)).map fun w=>.str (iP w)
 | []=>rfl
 | ((a,b),w)::r=>by
  unfold eI;rw[List.map_cons,gw];have f:=yS d c r;unfold eI at f
  by_cases h:(a,b)=(d,c)
  ·rw[if_pos (qi.mpr h)];cases h;simp[List.lookup]
  ·rw[if_neg (fun z=>h (qi.mp z)),f];have:((d,c)==(a,b))=false:=by simpa using fun z:(d=a/\c=b)=>h (by rw[z.1,z.2])
   rw[List.lookup_cons,this]
theorem Ev(d c:Nat)(w:Wd):∀a:List ((Nat×Nat)×Wd),(a.map (·.1)).Nodup->(a.lookup (d,c)).isSome=true->lS true [Sum.inl (d:Int),Sum.inl (c:Int)] (.str (iP w)) (eI a)=eI (fr a (d,c) w)
 | [],_,h=>by cases h
 | ((b,f),v)::r,nd,h=>by
  unfold eI;rw[List.map_cons,lS];have tail:∀a:List ((Nat×Nat)×Wd),(d,c)∉a.map (·.1)->lS true [Sum.inl (d:Int),Sum.inl (c:Int)] (.str (iP w)) (eI a)=eI a:=by
   intro a
   induction a with
   | nil=>intro _;rfl
   | cons p r i=>intro g;obtain⟨⟨k,l⟩,m⟩:=p;simp only[List.map_cons,List.mem_cons,not_or] at g;unfold eI;rw[List.map_cons,lS,if_neg (fun z=>g.1 (qi.mp z).symm)];have:=i g.2;unfold eI at this;rw[this]
  by_cases e:(b,f)=(d,c)
  ·cases e;rw[if_pos (qi.mpr rfl),fr,if_pos rfl,List.map_cons];have:=tail r (by simpa using(List.nodup_cons.mp nd).1);unfold eI at this;rw[this]
  ·have j:(r.lookup (d,c)).isSome=true:=by
    have:((d,c)==(b,f))=false:=by simpa using fun z:(d=b/\c=f)=>e (by rw[z.1,z.2])
    rw[List.lookup_cons,this] at h;exact h
   rw[if_neg (fun z=>e (qi.mp z)),fr,if_neg e,List.map_cons];have:=Ev d c w r (List.nodup_cons.mp nd).2 j;unfold eI at this;rw[this]
theorem Ew(k:Nat×Nat)(w:Wd):∀a:List ((Nat×Nat)×Wd),a.lookup k=none->fr a k w=a++[(k,w)]
 | [],_=>rfl
 | (b,v)::r,h=>by
  rw[List.lookup_cons] at h
  by_cases e:k=b
  ·subst e;simp at h
  ·have:(k==b)=false:=by simpa using e
   rw[this] at h;rw[fr,if_neg (fun z=>e z.symm),Ew k w r h];rfl
theorem Rj{ws:List ((Nat×Nat)×Wd)}{d c:Nat}{w:Wd}(a:(ws.map (·.1)).Nodup):kG true (eI ws) (.tuple [aW d,aW c]) [Sum.inl (d:Int),Sum.inl (c:Int)] (.str (iP w))=eI (fr ws (d,c) w):=by
 unfold kG;rw[yS];cases h:ws.lookup (d,c) with
 | none=>rw[Ew _ _ _ h];simp[eI]
 | some v=>simp only[Option.map_some,Option.isSome_some,if_true];exact Ev d c w ws a (by rw[h];rfl)
theorem yT(k:Nat×Nat)(w:Wd):∀a:List ((Nat×Nat)×Wd),(fr a k w).map (·.1)=if k∈a.map (·.1) then a.map (·.1) else a.map (·.1)++[k]
 | []=>by simp[fr]
 | (b,v)::r=>by
  rw[fr]
  by_cases e:b = k
  ·subst e;simp
  ·rw[if_neg e,List.map_cons,yT k w r]
   by_cases h:k∈r.map (·.1)
   ·rw[if_pos h];rw[if_pos (by simp[h])];rfl
   ·rw[if_neg h,if_neg (by
     simp only[List.map_cons,List.mem_cons,not_or];exact⟨fun z=>e z.symm,h⟩)];rfl
theorem Rk{k:Nat×Nat}{w:Wd}{c:List ((Nat×Nat)×Wd)}(d:(c.map (·.1)).Nodup):((fr c k w).map (·.1)).Nodup:=by
 rw[yT];split
 ·exact d
 ·rename_i h;exact List.nodup_append.mpr ⟨d,by simp,fun a f b e z=>by simp at e;subst e;subst z;exact h f⟩
theorem Ex(k:Nat×Nat)(w:Wd)(a:List ((Nat×Nat)×Wd)):(fr a k w).length<=a.length+1:=by have:=congrArg List.length (yT k w a);rw[List.length_map] at this;rw[this];split<;>simp
noncomputable def dN(S:Hl)(r:iu):Hl:={ S with rows:=S.rows++[r],words:=fr S.words (r.dd,r.ct) r.wd,begun:=if r.wd=.begun then some (r.dd,r.ct,S.holds) else none,settled:=if r.wd=.begun then S.settled else S.settled.set r.dd (r.ct+1) }
theorem iR{x y z v:PyData}{l:List PyData}:bT (x::y::z::v::l) 3=some v:=by unfold bT dG;rw[if_pos (by omega),if_pos (by simp<;>omega)];rfl
theorem kg{x y z v u:PyData}{l:List PyData}:bT (x::y::z::v::u::l) 4=some u:=by unfold bT dG;rw[if_pos (by omega),if_pos (by simp<;>omega)];rfl
theorem Rl(S:Hl)(r:iu):bU ("rows":Str) (.l (S.rows.map eO++[eO r])) (ai S)=ai { S with rows:=S.rows++[r] }:=by rw[show S.rows.map eO++[eO r]=(S.rows++[r]).map eO by simp];exact QU S _
theorem nZ{C:Addr}{S:Hl}{r:iu}(i:S.rows.length<1000000)(j:S.words.length<1000000)(h:(S.words.map (·.1)).Nodup)(hd:r.dd<S.settled.length):gb C [.own true (hB C S),.dat (eO r)]=.rt (.dat (.tuple [.str (iP r.wd),aW r.dd,aW r.ct])) [hB C (dN S r)]:=by
 have sz:1000000<sizeLine:=by decide
 obtain⟨mo,ru,wd,a,g⟩:=r;have b:=Rj (ws:=S.words) (d:=a) (c:=g) (w:=wd) h;have l1:(eI S.words).length<sizeLine:=by unfold eI;rw[List.length_map];omega
 have e:=Rl S ⟨mo,ru,wd,a,g⟩;simp only at hd;have f:dG S.settled.length (a:Int)=some a:=by unfold dG;rw[if_pos (by omega),if_pos (by omega)];simp
 have st:(S.settled.map aW).set a (.int ((g:Int)+1))=(S.settled.set a (g+1)).map aW:=by rw[List.map_set];simp[aW]
 unfold dN;cases wd
 ·simp[gb,nC,iR,kg,lZ,dh,nk,show S.rows.length<sizeLine by omega,e,nq,me,nY,l1,b,uP,cu,fk,fj,show(3:Nat)<=sizeLine by omega,nr,mf,f,st,cf qh qh,Re]
 ·simp[gb,nC,iR,kg,lZ,dh,nk,show S.rows.length<sizeLine by omega,e,nq,me,nY,l1,b,uP,cu,fk,fj,show(3:Nat)<=sizeLine by omega,nr,mf,f,st,cf Ra qh,Rf];rw[<-List.map_set];exact yN _ _
 ·simp[gb,nC,iR,kg,lZ,dh,nk,show S.rows.length<sizeLine by omega,e,nq,me,nY,l1,b,uP,cu,fk,fj,show(3:Nat)<=sizeLine by omega,nr,mf,f,st,cf Rb qh,Rg];rw[<-List.map_set];exact yN _ _
 ·simp[gb,nC,iR,kg,lZ,dh,nk,show S.rows.length<sizeLine by omega,e,nq,me,nY,l1,b,uP,cu,fk,fj,show(3:Nat)<=sizeLine by omega,nr,mf,f,st,cf Rc qh,Rh];rw[<-List.map_set];exact yN _ _
structure bC (S:Hl):Prop where
 z:iK S.a S.ss
 dl:S.ds.length<=6
 pl:∀d∈S.ds,mx d.plan
 sl:S.settled.length=S.ds.length
 nd:(S.words.map (·.1)).Nodup
 bg:∀d c h,S.begun=some (d,c,h)->d<S.ds.length
noncomputable def kh(S:Hl):Bool:=match S.begun with
 | some (_,_,h)=>decide (h=S.holds)
 | none=>false
theorem iw{n N:Nat}{m:SM}{a:List aj}{c:aj}{U:ao}{o:List Bx}(b:a.length=n)(d:m (a.map some++List.replicate (N - n) none)=.rt c U)(e:cK a U=some o):bi n N m a=.rt c o:=by unfold bi;rw[if_pos b,d];simp only[e]
theorem Rm{j:Int}(a:-4611686018427387904<=j)(b:j<4611686018427387904):bQ [.int j]=some (L3.intsFrom 0 j.toNat):=by show(if _ then _ else _)=_;rw[if_pos (by rw[decide_eq_true (show -(2 ^ 62)<=j by omega),decide_eq_true (show j<2 ^ 62 by omega)];rfl)]
section
variable{C:Addr}{S:Hl}
theorem yU:nE C [.own true (hB C S)]=.rt (.dat (.bool (kh S))) [hB C S]:=by
 unfold kh;cases h:S.begun with
 | none=>simp[nE,sg,h,fL]
 | some p=>obtain⟨d,c,k⟩:=p;simp[nE,sg,h,fL,lb]
theorem Ey{a:List ca}{k:Nat}(h:k<a.length):aD (eG a) (.int k)=some (bH a[k]):=by
 unfold eG;have:bT (a.map bH) (k:Int)=some (bH a[k]):=by unfold bT dG;rw[if_pos (by omega),if_pos (by simp;omega)];simp[h]
 simp[aD,this]
theorem Rn{l:List Nat}{k:Nat}(h:k<l.length):bT (l.map aW) (k:Int)=some (aW l[k]):=by unfold bT dG;rw[if_pos (by omega),if_pos (by simp;omega)];simp[h]
noncomputable def dk(S:Hl)(k:Nat):Nat:=S.settled.getD k 0
noncomputable def qj(S:Hl)(k:Nat):Option (List Int):=match S.ds[k]? with
 | some d=>(cp S.a S.ss d.plan (dk S k)).map fun v=>[v,(k:Int),(dk S k:Int)]
 | none=>none
noncomputable def fM(S:Hl):List (List Int):=(List.range S.ds.length).filterMap (qj S)
noncomputable abbrev cT(r:List Int):PyData:=.tuple (r.map PyData.int)
theorem yV(ok:bC S):∀(n k:Nat) (b:List (List Int)) (m f g:Option aj),k+n=S.ds.length->b.length<=k->∃h i j,cA (aF 2) (kW C) (L3.intsFrom (k:Int) n) [some (.own true (hB C S)),some (.own false (.l (b.map cT))),m,f,g]=.nx [some (.own true (hB C S)),some (.own false (.l ((b++(List.range' k n).filterMap (qj S)).map cT))),h,i,j]
 | 0,k,b,m,f,g,_,_=>⟨m,f,g,by simp[L3.intsFrom,cA]⟩
 | n+1,k,b,m,f,g,w,x=>by
  have sz:1000<sizeLine:=by decide
  have d:k<S.ds.length:=by omega
  have q:k<S.settled.length:=by rw[ok.sl];exact d
  have dl:=ok.dl;have s:mx (S.ds[k]).plan:=ok.pl _ (List.getElem_mem d);have t:dk S k=S.settled[k]:=by unfold dk;rw[List.getD_eq_getElem?_getD,List.getElem?_eq_getElem q];rfl
  have rt:=yP (a:=S.a) (ss:=S.ss) (p:=(S.ds[k]).plan) (c:=S.settled[k]) ok.z.len s;have as:=Rn (l:=S.settled) q;have u:qj S k=(cp S.a S.ss (S.ds[k]).plan S.settled[k]).map fun v=>[v,(k:Int),((S.settled[k]:Nat):Int)]:=by unfold qj;rw[List.getElem?_eq_getElem d,<-t]
  rw[mw,cA,List.range'_succ,List.filterMap_cons,u];cases r:cp S.a S.ss (S.ds[k]).plan S.settled[k] with
  | none=>
   rw[r] at rt;have e:kW C [some (.own true (hB C S)),some (.own false (.l (b.map cT))),some (.dat (.int k)),f,g]=.nx [some (.own true (hB C S)),some (.own false (.l (b.map cT))),some (.dat (.int k)),some (.dat (aW S.settled[k])),some (.dat .none)]:=by simp[-aD,kW,oY,dh,as,Ey d];simp[rt,du]
   obtain⟨h,i,j,o⟩:=yV ok n (k+1) b (some (.dat (.int k))) (some (.dat (aW S.settled[k]))) (some (.dat .none)) (by omega) (by omega);refine⟨h,i,j,?_⟩;simp only[Option.map_none];rw[<-o];simp[e]
  | some v=>
   rw[r] at rt;have e:kW C [some (.own true (hB C S)),some (.own false (.l (b.map cT))),some (.dat (.int k)),f,g]=.nx [some (.own true (hB C S)),some (.own false (.l ((b++[[v,(k:Int),((S.settled[k]:Nat):Int)]]).map cT))),some (.dat (.int k)),some (.dat (aW S.settled[k])),some (.dat (.int v))]:=by simp[-aD,kW,oY,dh,as,Ey d];simp[rt,du,show b.length<sizeLine by omega,show(3:Nat)<=sizeLine by omega]
   obtain⟨h,i,j,o⟩:=yV ok n (k+1) (b++[[v,(k:Int),((S.settled[k]:Nat):Int)]]) (some (.dat (.int k))) (some (.dat (aW S.settled[k]))) (some (.dat (.int v))) (by omega) (by simp;omega);refine⟨h,i,j,?_⟩;simp only[Option.map_some];rw[List.append_assoc,List.singleton_append] at o;rw[<-o];simp[e]
theorem Ez:∀a:List Int,mj (a.map PyData.int)=some a
 | []=>rfl
 | n::a=>by rw[List.map_cons,mj,Ez a];rfl
theorem EA:∀a:List (List Int),kL (a.map cT)=some a
 | []=>rfl
 | r::a=>by rw[List.map_cons,kL,Ez,EA a]
noncomputable def oa:List (List Int)->PyData
 | []=>.none
 | r::a=>cT (fZ a r)
theorem Ro:(cR ej (aq (bO C 0 "deeds") aP)) [some (.own true (hB C S)),some (.own false (.l [])),none,none,none]=.ok (.int S.ds.length) [some (.own true (hB C S)),some (.own false (.l [])),none,none,none]:=by simp[eG]
theorem Rp{U:ao}{a:List (List Int)}(h:U[1]? = some (some (.own false (.l (a.map cT))))):kM 1 U=.ok (oa a) U:=by unfold kM jY;rw[h];simp only[EA];cases a<;>rfl
theorem Rq{n:Int}(h:0<=n)(i:n<=1000){m:XM PyData}{g:GM}{b:SM}{U a:ao}(c:m U=.ok (.int n) U)(d:cA g b (L3.intsFrom 0 n.toNat) U=.nx a):ik (eA bQ (aq m aP)) g b U=.nx a:=by
 have e:(aq m aP) U=.ok [.int n] U:=by show fV.bind (m U) _=_;rw[c];rfl
 have f:eA bQ (aq m aP) U=.ok (L3.intsFrom 0 n.toNat) U:=by show fV.bind ((aq m aP) U) _=_;rw[e];show L3.lift (bQ [.int n]) U=_;rw[Rm (by omega) (by omega)];rfl
 show fh (eA bQ (aq m aP) U) _=_;rw[f];exact d
theorem Rr(ok:bC S):yb C [.own true (hB C S)]=.rt (.dat (oa (fM S))) [hB C S]:=by
 have dl:=ok.dl;obtain⟨a,b,c,g⟩:=yV (C:=C) ok S.ds.length 0 [] none none none (by omega) (by simp);rw[List.nil_append,<-List.range_eq_range'] at g;change cA _ _ (L3.intsFrom 0 S.ds.length) [_,some (.own false (.l [])),_,_,_]=gH.nx [_,some (.own false (.l ((fM S).map cT))),_,_,_] at g;have d:=Rq (m:=cR ej (aq (bO C 0 "deeds") aP)) (by omega) (by omega) (Ro (C:=C) (S:=S)) (by rw[Int.toNat_natCast];exact g);have e:gu 1 (kE aP) [some (.own true (hB C S)),none,none,none,none]=.nx [some (.own true (hB C S)),some (.own false (.l [])),none,none,none]:=by simp
 have f:br (kM 1) [some (.own true (hB C S)),some (.own false (.l ((fM S).map cT))),a,b,c]=.rt (.dat (oa (fM S))) [some (.own true (hB C S)),some (.own false (.l ((fM S).map cT))),a,b,c]:=by show fh (kM 1 _) _=_;rw[Rp rfl];rfl
 have h:(aA (gu 1 (kE aP)) (aA (ik (eA bQ (aq (cR ej (aq (bO C 0 "deeds") aP)) aP)) (aF 2) (kW C)) (br (kM 1)))) [some (.own true (hB C S)),none,none,none,none]=.rt (.dat (oa (fM S))) [some (.own true (hB C S)),some (.own false (.l ((fM S).map cT))),a,b,c]:=by rw[lc e,lc d,f]
 exact iw (n:=1) (N:=5) rfl h rfl
end
theorem yW:∀(a:List (List Int)) (r:List Int),fZ a r=r\/fZ a r∈a
 | [],r=>.inl rfl
 | x::a,r=>by
  rw[fZ];rcases yW a (if HT.lexLt x r=true then x else r) with h | h
  ·rw[h];split
   ·exact .inr List.mem_cons_self
   ·exact .inl rfl
  ·exact .inr (bL _ h)
theorem iS(a:List ca):eG a=.tuple (a.map bH):=by unfold eG;rfl
theorem qk{a:List ca}{k:Nat}(h:k<a.length):bT (a.map bH) (k:Int)=some (bH a[k]):=by unfold bT dG;rw[if_pos (by omega),if_pos (by simp;omega)];simp[h]
section
variable{C:Addr}{S:Hl}{r m:Int}
theorem EB{x:List Int}(h:x∈fM S):∃k v,∃c:k<S.ds.length,cp S.a S.ss (S.ds[k]).plan (dk S k)=some v/\x=[v,(k:Int),(dk S k:Int)]:=by unfold fM at h;obtain⟨k,c,e⟩:=List.mem_filterMap.mp h;have b:=List.mem_range.mp c;unfold qj at e;rw[List.getElem?_eq_getElem b] at e;obtain⟨v,d,f⟩:=Option.map_eq_some_iff.mp e;exact⟨k,v,b,d,f.symm⟩
noncomputable def my(S:Hl):Option (Int×Nat):=match fM S with
 | []=>none
 | x::a=>(match fZ a x with
  | [v,k,_]=>some (v,k.toNat)
  | _=>none)
theorem Rs(h:my S=none):fM S=[]:=by
 unfold my at h;cases a:fM S with
 | nil=>rfl
 | cons x b=>
  rw[a] at h;have c:fZ b x∈fM S:=by
   rw[a];rcases yW b x with e | e
   ·rw[e];exact List.mem_cons_self
   ·exact bL _ e
  obtain⟨k,v,d,_,e⟩:=EB c;simp only[e] at h;cases h
theorem ED{v:Int}{k:Nat}(h:my S=some (v,k)):∃d:k<S.ds.length,cp S.a S.ss (S.ds[k]).plan (dk S k)=some v/\∃x b,fM S=x::b/\fZ b x=[v,(k:Int),(dk S k:Int)]:=by
 unfold my at h;cases c:fM S with
 | nil=>rw[c] at h;cases h
 | cons x b=>
  rw[c] at h;have f:fZ b x∈fM S:=by
   rw[c];rcases yW b x with e | e
   ·rw[e];exact List.mem_cons_self
   ·exact bL _ e
  obtain⟨i,j,d,g,e⟩:=EB f;simp only[e,Option.some.injEq,Prod.mk.injEq,Int.toNat_natCast] at h;obtain⟨rfl,rfl⟩:=h;exact⟨d,g,x,b,rfl,e⟩
noncomputable def mz(S:Hl)(r m:Int):Hl×PyData:=match my S with
 | none=>(S,.tuple [.str "idle",.none])
 | some (v,k)=>if m<v then(S,.tuple [.str "idle",.int v]) else
  (match S.ds[k]? with
  | some d=>(dN S ⟨m,r,if nX S.a S.ss d (dk S k) m=true then .left else .begun,k,dk S k⟩,.tuple [.str (iP (if nX S.a S.ss d (dk S k) m=true then .left else .begun)),aW k,aW (dk S k)])
  | none=>(S,.none))
theorem Rt(ok:bC S)(j:S.rows.length<1000000)(l:S.words.length<1000000):ms C [.own true (hB C S),.dat (.int r),.dat (.int m)]=.rt (.dat (mz S r m).2) [hB C (mz S r m).1]:=by
 have sz:1000000<sizeLine:=by decide
 have b:=Rr (C:=C) ok;unfold mz;cases n:my S with
 | none=>rw[Rs n] at b;simp[ms,nM,cD,b,oa,show(2:Nat)<=sizeLine by omega]
 | some p=>
  obtain⟨v,k⟩:=p;obtain⟨g,q,x,t,s,e⟩:=ED n;rw[s,oa,e] at b;simp only[cT,List.map_cons,List.map_nil] at b
  by_cases h:m<v
  ·simp[ms,nM,cD,b,h,show(2:Nat)<=sizeLine by omega]
  ·have lo:=Ri (a:=S.a) (ss:=S.ss) (d:=S.ds[k]) (c:=dk S k) (now:=m) ok.z.len (ok.pl _ (List.getElem_mem g)) ⟨v,q⟩;simp only[List.getElem?_eq_getElem g];rw[if_neg h];cases o:nX S.a S.ss S.ds[k] (dk S k) m with
   | true=>rw[o] at lo;have i:=nZ (C:=C) (S:=S) (r:=⟨m,r,.left,k,dk S k⟩) j l ok.nd (by rw[ok.sl];exact g);have f:gb C [.own true (hB C S),.dat (.tuple [.int m,.int r,.str "left",.int k,.int (dk S k)])]=.rt (.dat (.tuple [.str "left",.int k,.int (dk S k)])) [hB C (dN S ⟨m,r,.left,k,dk S k⟩)]:=i;simp[ms,nM,cD,bR,cM,b,iS,qk g,lo,h,f,show(5:Nat)<=sizeLine by omega]
   | false=>rw[o] at lo;have i:=nZ (C:=C) (S:=S) (r:=⟨m,r,.begun,k,dk S k⟩) j l ok.nd (by rw[ok.sl];exact g);have f:gb C [.own true (hB C S),.dat (.tuple [.int m,.int r,.str "begun",.int k,.int (dk S k)])]=.rt (.dat (.tuple [.str "begun",.int k,.int (dk S k)])) [hB C (dN S ⟨m,r,.begun,k,dk S k⟩)]:=i;simp[ms,nM,cD,bR,cM,b,iS,qk g,lo,h,f,show(5:Nat)<=sizeLine by omega]
noncomputable def mB(S:Hl)(r m:Int)(d c:Nat):Hl×PyData:=match S.ds[d]? with
 | some x=>(dN S ⟨m,r,if x.again=true then .begun else .unsure,d,c⟩,.tuple [.str (iP (if x.again=true then .begun else .unsure)),aW d,aW c])
 | none=>(S,.none)
theorem Ru{d c:Nat}{h:Int}(ok:bC S)(f:S.rows.length<1000000)(g:S.words.length<1000000)(e:S.begun=some (d,c,h)):pC C [.own true (hB C S),.dat (.int r),.dat (.int m)]=.rt (.dat (mB S r m d c).2) [hB C (mB S r m d c).1]:=by
 have sz:1000000<sizeLine:=by decide
 have hd:=ok.bg d c h e;unfold mB;simp only[List.getElem?_eq_getElem hd];cases i:(S.ds[d]).again with
 | true=>have b:=nZ (C:=C) (S:=S) (r:=⟨m,r,.begun,d,c⟩) f g ok.nd (by rw[ok.sl];exact hd);have a:gb C [.own true (hB C S),.dat (.tuple [.int m,.int r,.str "begun",.int d,.int c])]=.rt (.dat (.tuple [.str "begun",.int d,.int c])) [hB C (dN S ⟨m,r,.begun,d,c⟩)]:=b;simp[pC,sx,bR,cM,e,fL,iS,qk hd,i,a,show(5:Nat)<=sizeLine by omega]
 | false=>have b:=nZ (C:=C) (S:=S) (r:=⟨m,r,.unsure,d,c⟩) f g ok.nd (by rw[ok.sl];exact hd);have a:gb C [.own true (hB C S),.dat (.tuple [.int m,.int r,.str "unsure",.int d,.int c])]=.rt (.dat (.tuple [.str "unsure",.int d,.int c])) [hB C (dN S ⟨m,r,.unsure,d,c⟩)]:=b;simp[pC,sx,bR,cM,e,fL,iS,qk hd,i,a,show(5:Nat)<=sizeLine by omega]
theorem bC.last(ok:bC S)(x:Option Int):bC { S with last:=x }:=⟨ok.z,ok.dl,ok.pl,ok.sl,ok.nd,ok.bg⟩
noncomputable def eV(S:Hl)(r m:Int):Hl×PyData:=match S.begun with
 | some (d,c,h)=>if h=S.holds then({ S with last:=some m },.tuple [.str "busy",aW d,aW c]) else mB { S with last:=some m } r m d c
 | none=>mz { S with last:=some m } r m
theorem EE(ok:bC S)(f:S.rows.length<1000000)(g:S.words.length<1000000)(b:eE C [.own true (hB C S),.dat (.int r),.dat (.int m)]=.rt (.dat .none) [hB C S]):ju C [.own true (hB C S),.dat (.int r),.dat (.int m)]=.rt (.dat (eV S r m).2) [hB C (eV S r m).1]:=by
 have sz:1000000<sizeLine:=by decide
 have a:=yU (C:=C) (S:={ S with last:=some m });unfold kh at a;unfold eV;cases hb:S.begun with
 | none=>have i:=Rt (C:=C) (S:={ S with last:=some m }) (r:=r) (m:=m) (ok.last _) f g;simp only[hb] at a i ⊢;simp[ju,nN,bR,cD,cM,b,cu,fk,fj,a,hb,fL,i]
 | some p=>
  obtain⟨d,c,h⟩:=p;have j:=Ru (C:=C) (S:={ S with last:=some m }) (r:=r) (m:=m) (ok.last _) f g hb;simp only[hb] at a j ⊢
  by_cases e:h=S.holds
  ·rw[if_pos e];rw[decide_eq_true e] at a;simp[ju,nN,bR,cD,cM,b,cu,fk,fj,a,hb,fL,show(3:Nat)<=sizeLine by omega]
  ·rw[if_neg e];rw[decide_eq_false e] at a;simp[ju,nN,bR,cD,cM,b,cu,fk,fj,a,hb,fL,j]
theorem EF(b:eE C [.own true (hB C S),.dat (.int r),.dat (.int m)]=.rt (.dat .none) [hB C S])(c:kh S=false):jt C [.own true (hB C S),.dat (.int r),.dat (.int m)]=.ex "Nothing" [hB C S]:=by have a:=yU (C:=C) (S:=S);rw[c] at a;simp[jt,pQ,bR,cD,cM,b,a]
theorem EG{d c:Nat}(ok:bC S)(f:S.rows.length<1000000)(g:S.words.length<1000000)(i:eE C [.own true (hB C S),.dat (.int r),.dat (.int m)]=.rt (.dat .none) [hB C S])(e:S.begun=some (d,c,S.holds)):jt C [.own true (hB C S),.dat (.int r),.dat (.int m)]=.rt (.dat (.tuple [.str "done",aW d,aW c])) [hB C (dN { S with last:=some m } ⟨m,r,.done,d,c⟩)]:=by
 have sz:1000000<sizeLine:=by decide
 have b:=yU (C:=C) (S:=S);unfold kh at b;rw[e] at b;simp only[decide_true] at b;have hd:=ok.bg d c _ e;have h:=nZ (C:=C) (S:={ S with last:=some m }) (r:=⟨m,r,.done,d,c⟩) f g ok.nd (by show d<S.settled.length;rw[ok.sl];exact hd);have a:gb C [.own true (hB C { S with last:=some m }),.dat (.tuple [.int m,.int r,.str "done",.int d,.int c])]=.rt (.dat (.tuple [.str "done",.int d,.int c])) [hB C (dN { S with last:=some m } ⟨m,r,.done,d,c⟩)]:=h;simp only[e] at a;simp[jt,pQ,bR,cD,cM,i,b,cu,fk,fj,e,fL,a,show(5:Nat)<=sizeLine by omega]
end
@[simp] theorem UJ:cz "tuple" "str" = some false:=by decide
@[simp] theorem UK:cz "tuple" "bool" = some false:=by decide
@[simp] theorem UL:cz "tuple" "list" = some false:=by decide
@[simp] theorem UM:cz "list" "str" = some false:=by decide
@[simp] theorem UN:cz "list" "bool" = some false:=by decide
@[simp] theorem UO:cz "list" "list" = some true:=by decide
@[simp] theorem UP:cz "NoneType" "str" = some false:=by decide
@[simp] theorem UQ:cz "NoneType" "bool" = some false:=by decide
@[simp] theorem UR:cz "NoneType" "list" = some false:=by decide
@[simp] theorem US:cz "int" "str" = some false:=by decide
@[simp] theorem UT:cz "int" "list" = some false:=by decide
@[simp] theorem UU:cz "bool" "str" = some false:=by decide
@[simp] theorem UV:cz "bool" "list" = some false:=by decide
@[simp] theorem UW:cz "str" "bool" = some false:=by decide
@[simp] theorem UX:cz "str" "list" = some false:=by decide
theorem ly:PyData.strOk "take" = true:=by decide +kernel
theorem jx:PyData.strOk "give" = true:=by decide +kernel
theorem jy:PyData.strOk "step" = true:=by decide +kernel
theorem og:PyData.strOk "finish" = true:=by decide +kernel
theorem Rv:(("take":Str)==("take":Str))=true:=by decide +kernel
theorem EH:(("give":Str)==("take":Str))=false:=by decide +kernel
theorem EI:(("give":Str)==("give":Str))=true:=by decide +kernel
theorem EJ:(("step":Str)==("take":Str))=false:=by decide +kernel
theorem EK:(("step":Str)==("give":Str))=false:=by decide +kernel
theorem EL:(("step":Str)==("step":Str))=true:=by decide +kernel
theorem EM:(("finish":Str)==("take":Str))=false:=by decide +kernel
theorem EN:(("finish":Str)==("give":Str))=false:=by decide +kernel
theorem EO:(("finish":Str)==("step":Str))=false:=by decide +kernel
section
variable{C:Addr}{S S':Hl}{d q r m t:PyData}{c:Str}
theorem EQ(h:mr C [.own true (hB C S),.dat r,.dat m,.dat t]=.rt (.dat d) [hB C S']):dM C [.own true (hB C S),.dat (.tuple [.str "take",r,m,t])]=.rt (.dat d) [hB C S']:=by simp[dM,kc,jl,cf ly ly,Rv,bR,cM,h,iR]
theorem ER(h:kX C [.own true (hB C S),.dat r,.dat m]=.rt (.dat d) [hB C S']):dM C [.own true (hB C S),.dat (.tuple [.str "give",r,m])]=.rt (.dat d) [hB C S']:=by simp[dM,kc,jl,cf jx ly,EH,cf jx jx,EI,bR,cM,h]
theorem ES(h:kX C [.own true (hB C S),.dat r,.dat m]=.ex c [hB C S])(a:c∈eB)(b:ml [.exc c]=.rt (.dat q) []):dM C [.own true (hB C S),.dat (.tuple [.str "give",r,m])]=.rt (.dat q) [hB C S]:=by simp[dM,kc,jl,cf jx ly,EH,cf jx jx,EI,bR,cM,h,a,b]
theorem ET(h:ju C [.own true (hB C S),.dat r,.dat m]=.rt (.dat d) [hB C S']):dM C [.own true (hB C S),.dat (.tuple [.str "step",r,m])]=.rt (.dat d) [hB C S']:=by simp[dM,kc,jl,cf jy ly,EJ,cf jy jx,EK,cf jy jy,EL,bR,cM,h]
theorem EU(h:ju C [.own true (hB C S),.dat r,.dat m]=.ex c [hB C S])(a:c∈eB)(b:ml [.exc c]=.rt (.dat q) []):dM C [.own true (hB C S),.dat (.tuple [.str "step",r,m])]=.rt (.dat q) [hB C S]:=by simp[dM,kc,jl,cf jy ly,EJ,cf jy jx,EK,cf jy jy,EL,bR,cM,h,a,b]
theorem EV(h:jt C [.own true (hB C S),.dat r,.dat m]=.rt (.dat d) [hB C S']):dM C [.own true (hB C S),.dat (.tuple [.str "finish",r,m])]=.rt (.dat d) [hB C S']:=by simp[dM,kc,jl,cf og ly,EM,cf og jx,EN,cf og jy,EO,bR,cM,h]
theorem uU(h:jt C [.own true (hB C S),.dat r,.dat m]=.ex c [hB C S])(a:c∈eB)(b:ml [.exc c]=.rt (.dat q) []):dM C [.own true (hB C S),.dat (.tuple [.str "finish",r,m])]=.rt (.dat q) [hB C S]:=by simp[dM,kc,jl,cf og ly,EM,cf og jx,EN,cf og jy,EO,bR,cM,h,a,b]
end
noncomputable def jz:gY->Prop
 | .within n=>0<=n/\n<=999
 | _=>True
theorem Rw{x:gY}(ok:jz x):nH [.dat (lg x)]=.rt (.dat (.bool true)) []:=by
 cases x with
 | all=>simp[nH,pF,cf kf kf,Es]
 | last=>simp[nH,pF,cf iQ kf,cf iQ iQ,yQ,yR]
 | within n=>
  have a:(("within":Str)==("within":Str))=true:=by decide +kernel
  simp[nH,pF,mu uT uT,a,jv (d:=.int n) rfl,cE,ok.1,ok.2]
theorem Rx{d:ca}(a:fJ d.plan)(b:jz d.late):sH [.dat (bH d)]=.rt (.dat (.bool true)) []:=by have h1:=QI a;have h2:=Rw b;simp[sH,xT,qb,gm,h1,h2]
theorem EW:∀(b:List ca) (a:List PyData) (U:ao),(∃x,U=[x])->(∀d∈b,fJ d.plan/\jz d.late)->a.length+b.length<=sizeLine->cn (aF 0) cZ sL (b.map bH) a U=some (a++(b.map fun _=>PyData.bool true))
 | [],a,U,_,_,_=>by simp[cn]
 | d::b,a,U,⟨x,c⟩,h,e=>by
  subst c;simp only[List.length_cons] at e;have hd:=h d List.mem_cons_self;have f:=EW b (a++[.bool true]) [some (.dat (bH d))] ⟨_,rfl⟩ (fun x c=>h x (bL _ c)) (by simp;omega);have g:sL [some (.dat (bH d))]=.ok (.bool true) [some (.dat (bH d))]:=by simp[sL,Rx hd.1 hd.2]
  rw[List.map_cons,cn];simp[cZ,g,show a.length<sizeLine by omega,f]
theorem EY:∀n:Nat,bools? (List.replicate n (PyData.bool true))=some (List.replicate n true)
 | 0=>rfl
 | n+1=>by rw[List.replicate_succ,bools?,EY n];rfl
theorem EZ{ds:List ca}(b:ds.length<=6)(h:∀d∈ds,fJ d.plan/\jz d.late):pO [.dat (eG ds)]=.rt (.dat .none) []:=by
 have sz:1000<sizeLine:=by decide
 have g:=EW ds [] [none] ⟨_,rfl⟩ h (by simp;omega);rw[List.nil_append,List.map_const'] at g;have a:mU [.list (List.replicate ds.length (PyData.bool true))]=some (.bool true):=by simp[mU,EY]
 unfold eG;simp[-mU,pO,yd,xY,xX,g,a,show ¬ (6:Int)<ds.length by omega,show ds.length<=sizeLine by omega]
theorem Ry{ns:List Int}{t made:List PyData}{x3 x4 x5:Option aj}(a:ns.length<=63)(A:t.length<=700)(B:made.length<100) :
  ∃d t' j m,fJ d.plan/\jz d.late/\t'.length<=t.length+9/\pP [some (.scr ns),some (.own true (.l t)),some (.own false (.l made)),x3,x4,x5]=.nx [some (.scr ns),some (.own true (.l t')),some (.own false (.l (made++[bH d]))),x3,j,m]:=by
 have sz:1000<sizeLine:=by decide
 obtain⟨w,f,h1⟩:=kZ (ns:=ns) (t:=t) (ds:=[.int 30,.int 30,.int 1000]) a (by omega) (by simp) (by simp);have:∃i:Int,w=.int i/\0<i/\i<=1000:=by simp only[List.mem_cons,List.not_mem_nil,or_false] at f;rcases f with rfl | rfl | rfl<;>exact⟨_,rfl,by omega,by omega⟩
 obtain⟨i,rfl,n,C⟩:=this;obtain⟨c,o,D,h2⟩:=el (ns:=ns) (t:=t++[.int 0]) (many:=i) a (by simp;omega) n;obtain⟨z,b,h3⟩:=kZ (ns:=ns) (t:=t++[.int 0]++[.int 0]) (ds:=[.str "all",.str "last",.tuple [.str "within",.int c]]) a (by simp;omega) (by simp) (by simp);have:∃x:gY,z=lg x/\jz x:=by
  simp only[List.mem_cons,List.not_mem_nil,or_false] at b;rcases b with rfl | rfl | rfl
  ·exact⟨.all,rfl,trivial⟩
  ·exact⟨.last,rfl,trivial⟩
  ·exact⟨.within c,rfl,o,by omega⟩
 obtain⟨x,rfl,q⟩:=this;obtain⟨p,g,r,s,h⟩:=QR (ns:=ns) (t:=t++[.int 0]++[.int 0]++[.int 0]) a (by simp;omega);simp only[List.length_append,List.length_cons,List.length_nil] at s;obtain⟨k,E,G,u⟩:=el (ns:=ns) (t:=g) (many:=2) a (by omega) (by omega);simp only[List.append_assoc,List.cons_append,List.nil_append] at h2 h3 h;refine⟨⟨p,x,decide (k=0)⟩,g++[.int 0],some (.dat (.int c)),some (.dat (lg x)),r,q,by simp;omega,?_⟩;generalize v:gc p=P at *;generalize y:lg x=L at *;have e:bH ⟨p,x,decide (k=0)⟩=.tuple [P,L,.bool (decide (k=0))]:=by unfold bH;rw[v,y]
 rw[e];simp[pP,h1,h2,h3,h,u,lb,show(2:Nat)<=sizeLine by omega,show(3:Nat)<=sizeLine by omega,show made.length<sizeLine by omega]
theorem Fa{ns:List Int}(g:ns.length<=63):∀(n:Nat) (i:Int) {t made:List PyData}{x3 x4 x5:Option aj},t.length+9 * n<=700->made.length+n<100->∃(a:List ca) (t':List PyData) (h b c:Option aj),(∀d∈a,fJ d.plan/\jz d.late)/\a.length=n/\t'.length<=t.length+9 * n/\
   cA (aF 3) pP (L3.intsFrom i n) [some (.scr ns),some (.own true (.l t)),some (.own false (.l made)),x3,x4,x5]=.nx [some (.scr ns),some (.own true (.l t')),some (.own false (.l (made++a.map bH))),h,b,c]
 | 0,i,t,made,x3,x4,x5,_,_=>⟨[],t,x3,x4,x5,by simp,rfl,by omega,by simp[L3.intsFrom,cA]⟩
 | n+1,i,t,made,x3,x4,x5,v,w=>by
  obtain⟨d,j,b,c,k,m,l1,e⟩:=Ry (ns:=ns) (t:=t) (made:=made) (x3:=some (.dat (.int i))) (x4:=x4) (x5:=x5) g (by omega) (by omega);obtain⟨a,o,p,q,r,h2,s,l2,u⟩:=Fa g n (i+1) (t:=j) (made:=made++[bH d]) (x3:=some (.dat (.int i))) (x4:=b) (x5:=c) (by omega) (by simp;omega);refine⟨d::a,o,p,q,r,fun x f=>?_,by simp[s],by omega,?_⟩
  ·rcases List.mem_cons.mp f with rfl | f
   ·exact⟨k,m⟩
   ·exact h2 x f
  ·rw[List.map_cons,show made++bH d::a.map bH=made++[bH d]++a.map bH by simp,<-u,mw,cA];simp[e]
theorem Rz{ns:List Int}{t:List PyData}(b:ns.length<=63)(h:t.length<=600):∃(a:List ca) (t':List PyData),(∀d∈a,fJ d.plan/\jz d.late)/\a.length<=6/\t'.length<=t.length+60/\sN [.scr ns,.own true (.l t)]=.rt (.dat (.tuple (a.map bH))) [.l t']:=by
 have sz:1000<sizeLine:=by decide
 obtain⟨w,c,h1⟩:=kZ (ns:=ns) (t:=t) (ds:=[.int 5,.int 5,.int 7]) b (by omega) (by simp) (by simp);have:∃i:Int,w=.int i/\0<i/\i<=7:=by simp only[List.mem_cons,List.not_mem_nil,or_false] at c;rcases c with rfl | rfl | rfl<;>exact⟨_,rfl,by omega,by omega⟩
 obtain⟨i,rfl,f,j⟩:=this;obtain⟨k,m,n,h2⟩:=el (ns:=ns) (t:=t++[.int 0]) (many:=i) b (by simp;omega) f;simp only[List.append_assoc,List.cons_append,List.nil_append] at h2;obtain⟨a,g,o,p,q,hd,nd,l2,e⟩:=Fa (ns:=ns) b k.toNat 0 (t:=t++[.int 0,.int 0]) (made:=[]) (x3:=none) (x4:=none) (x5:=none) (by simp;omega) (by simp;omega);simp only[List.length_append,List.length_cons,List.length_nil] at l2;refine⟨a,g,hd,by omega,by omega,?_⟩;rw[List.nil_append] at e;simp[sN,ye,h1,h2,e,show -4611686018427387904<=k by omega,show k<4611686018427387904 by omega,show(3:Nat)<=sizeLine by omega]
noncomputable def ix(S:Hl):PyData:=.tuple [dc S.a S.ss,eG S.ds,bM S.last,bM S.holder,.int S.til,.int S.holds,fL S.begun,.tuple (S.rows.map eO)]
theorem Fb{C:Addr}{S:Hl}:pq C [.own true (hB C S)]=.rt (.dat (ix S)) [hB C S]:=by unfold ix;simp[pq,xy,rW,show(8:Nat)<=sizeLine from by decide]
theorem RA(p:cw):PyData.canLay0 (gc p)=true/\PyData.depth (gc p)<=2:=by cases p<;>simp[gc,PyData.canLay0,PyData.canLayAll0,PyData.depth,PyData.depthAll,fq,gX,ke]
theorem RB(x:gY):PyData.canLay0 (lg x)=true/\PyData.depth (lg x)<=2:=by cases x<;>simp[lg,PyData.canLay0,PyData.canLayAll0,PyData.depth,PyData.depthAll,kf,iQ,uT]
theorem RC(d:ca):PyData.canLay0 (bH d)=true/\PyData.depth (bH d)<=3:=by have h1:=RA d.plan;have h2:=RB d.late;refine⟨by simp[bH,PyData.canLay0,PyData.canLayAll0,h1.1,h2.1],?_⟩;simp only[bH,PyData.depth,PyData.depthAll];have:=h1.2;have:=h2.2;omega
theorem Fc:∀a:List ca,PyData.canLayAll0 (a.map bH)=true/\PyData.depthAll (a.map bH)<=3
 | []=>⟨rfl,by simp[PyData.depthAll]⟩
 | d::a=>by have h1:=RC d;have h2:=Fc a;refine⟨by simp[PyData.canLayAll0,h1.1,h2.1],?_⟩;simp only[List.map_cons,PyData.depthAll];have:=h1.2;have:=h2.2;omega
theorem Fd:∀a:Sh,PyData.canLayAll0 (a.map cS)=true/\PyData.depthAll (a.map cS)<=1
 | []=>⟨rfl,by simp[PyData.depthAll]⟩
 | p::a=>by have h2:=Fd a;refine⟨by simp[PyData.canLayAll0,PyData.canLay0,h2.1],?_⟩;simp only[List.map_cons,cS,PyData.depthAll,PyData.depth];have:=h2.2;omega
inductive Cl where
 | take (r m t:Int) | give (r m:Int) | step (r m:Int) | finish (r m:Int)
noncomputable def fN:Cl->PyData
 | .take r m t=>.tuple [.str "take",.int r,.int m,.int t]
 | .give r m=>.tuple [.str "give",.int r,.int m]
 | .step r m=>.tuple [.str "step",.int r,.int m]
 | .finish r m=>.tuple [.str "finish",.int r,.int m]
noncomputable def Cl.ru:Cl->Int
 | .take r _ _=>r
 | .give r _=>r
 | .step r _=>r
 | .finish r _=>r
noncomputable def Cl.mo:Cl->Int
 | .take _ m _=>m
 | .give _ m=>m
 | .step _ m=>m
 | .finish _ m=>m
structure iU (c:Cl) (now:Int):Prop where
 r:0<=c.ru/\c.ru<=3
 m:now<=c.mo/\c.mo<=now+29
 t:∀r m t,c=.take r m t->1<=t/\t<=99
theorem yX(c:Cl):aD (fN c) (.int 2)=some (.int c.mo):=by cases c<;>rfl
noncomputable abbrev Fe:SM:=(bF (oJ (aZ (af gM (xV 3) (xC .none))) (aZ (af kI (aJ (aI da (aN 0 (aN 1 (al (xC (.int 4)) aC))))) (xC (.int 0))))) (bA (xV 3) (aF 4)) bG)
theorem yY{f:List Int}{t:List PyData}{now:Int}{holder:Option Int}(o:f.length<=63)(X:t.length<=800)(M:∀h,holder=some h->0<=h/\h<=3) :
  ∃c t',kU [.scr f,.own true (.l t),.dat (.int now),.dat (bM holder)]=.rt (.dat (fN c)) [.l t']/\iU c now/\t'.length<=t.length+7:=by
 have sz:1000<sizeLine:=by decide
 obtain⟨p,D,Y,T⟩:=el (ns:=f) (t:=t) (many:=4) o (by omega) (by omega);have first:∃r g,0<=r/\r<=3/\g.length<=t.length+2/\Fe [some (.scr f),some (.own true (.l (t++[.int 0]))),some (.dat (.int now)),some (.dat (bM holder)),some (.dat (.int p)),none,none]=.nx [some (.scr f),some (.own true (.l g)),some (.dat (.int now)),some (.dat (bM holder)),some (.dat (.int r)),none,none]:=by
  cases holder with
  | none=>exact⟨p,t++[.int 0],D,by omega,by simp,by simp[bM]⟩
  | some h=>
   obtain⟨k,Z,b2,h2⟩:=el (ns:=f) (t:=t++[.int 0]) (many:=4) o (by simp;omega) (by omega);simp only[List.append_assoc,List.cons_append,List.nil_append] at h2
   by_cases n:0<k
   ·exact⟨h,t++[.int 0,.int 0],(M h rfl).1,(M h rfl).2,by simp,by simp[bM,h2,n]⟩
   ·exact⟨p,t++[.int 0,.int 0],D,by omega,by simp,by simp[bM,h2,n]⟩
 obtain⟨r,g,E,G,l2,N⟩:=first
 obtain⟨x,x1,x2,h3⟩:=el (ns:=f) (t:=g) (many:=30) o (by omega) (by omega);obtain⟨v,H,I⟩:=kZ (ns:=f) (t:=g++[.int 0]) (ds:=[.int 0,.int 0,.int 0,.int 1,.int 2,.int x]) o (by simp;omega) (by simp) (by simp);have:∃i:Int,v=.int i/\0<=i/\i<=29:=by simp only[List.mem_cons,List.not_mem_nil,or_false] at H;rcases H with rfl | rfl | rfl | rfl | rfl | rfl<;>exact⟨_,rfl,by omega,by omega⟩
 obtain⟨i,rfl,i0,i1⟩:=this;obtain⟨k,k0,k1,J⟩:=el (ns:=f) (t:=g++[.int 0]++[.int 0]) (many:=10) o (by simp;omega) (by omega);simp only[List.append_assoc,List.cons_append,List.nil_append] at I J;have pre:∀{q:SM},(aA (bA (aJ (aI da (aN 0 (aN 1 (al (xC (.int 4)) aC))))) (aF 4)) (aA Fe (aA (bA (af dL (xV 2) (aJ (aI ir (aN 0 (aN 1 (al (fF (aq (xC (.int 0)) (aq (xC (.int 0)) (aq (xC (.int 0)) (aq (xC (.int 1)) (aq (xC (.int 2)) (aq (aJ (aI da (aN 0 (aN 1 (al (xC (.int 30)) aC))))) aP))))))) aC)))))) (aF 5)) (aA (bA (aJ (aI da (aN 0 (aN 1 (al (xC (.int 10)) aC))))) (aF 6)) q))))
   [some (.scr f),some (.own true (.l t)),some (.dat (.int now)),some (.dat (bM holder)),none,none,none]=q [some (.scr f),some (.own true (.l (g++[.int 0,.int 0,.int 0]))),some (.dat (.int now)),some (.dat (bM holder)),some (.dat (.int r)),some (.dat (.int (now+i))),some (.dat (.int k))]:=by
  intro q;refine(lc (by simp[T]<;>rfl)).trans ?_;refine(lc N).trans ?_;refine(lc (by simp[h3,I,show(6:Nat)<=sizeLine by omega]<;>rfl)).trans ?_;exact lc (by simp[J])
 by_cases n:holder=none\/k<2
 ·obtain⟨w,L,s⟩:=kZ (ns:=f) (t:=g++[.int 0,.int 0,.int 0]) (ds:=[.int 4,.int 99]) o (by simp;omega) (by simp) (by simp);have:∃j:Int,w=.int j/\0<j/\j<=99:=by simp only[List.mem_cons,List.not_mem_nil,or_false] at L;rcases L with rfl | rfl<;>exact⟨_,rfl,by omega,by omega⟩
  obtain⟨j,rfl,O,j1⟩:=this;obtain⟨y,y0,y1,u⟩:=el (ns:=f) (t:=g++[.int 0,.int 0,.int 0]++[.int 0]) (many:=j) o (by simp;omega) O;simp only[List.append_assoc,List.cons_append,List.nil_append] at s u;refine⟨.take r (now+i) (1+y),g++[.int 0,.int 0,.int 0,.int 0,.int 0],?_,⟨⟨E,G⟩,⟨by show now<=now+i;omega,by show now+i<=_;omega⟩,fun _ _ _ e=>by cases e;omega⟩,by simp;omega⟩;refine iw (U:=[some (.scr f),some (.own true (.l (g++[.int 0,.int 0,.int 0,.int 0,.int 0]))),some (.dat (.int now)),some (.dat (bM holder)),some (.dat (.int r)),some (.dat (.int (now+i))),some (.dat (.int k))]) rfl (pre.trans ?_) rfl;rcases n with rfl | n
  ·simp[bM,s,u,fN,show(2:Nat)<=sizeLine by omega,show(4:Nat)<=sizeLine by omega]
  ·cases holder<;>simp[bM,s,u,n,fN,show(2:Nat)<=sizeLine by omega,show(4:Nat)<=sizeLine by omega]
 ·obtain⟨h,rfl⟩:∃h,holder=some h:=by cases holder with
   | none=>exact absurd (.inl rfl) n
   | some h=>exact⟨h,rfl⟩
  have k2:¬ k<2:=fun z=>n (.inr z);have ok:∀c:Cl,c.ru=r->c.mo=now+i->(∀r m t,c≠.take r m t)->iU c now:=fun c A B C=>⟨by rw[A];exact⟨E,G⟩,by rw[B];omega,fun a b d e=>absurd e (C a b d)⟩
  by_cases B:k=2
  ·subst B;refine⟨.give r (now+i),g++[.int 0,.int 0,.int 0],?_,ok _ rfl rfl (by simp),by simp;omega⟩;refine iw (U:=[some (.scr f),some (.own true (.l (g++[.int 0,.int 0,.int 0]))),some (.dat (.int now)),some (.dat (bM (some h))),some (.dat (.int r)),some (.dat (.int (now+i))),some (.dat (.int 2))]) rfl (pre.trans ?_) rfl;simp[bM,lb,fN,show(3:Nat)<=sizeLine by omega]
  ·have Q:k=3\/k=4\/k=5\/k=6\/k=7\/k=8\/k=9:=by omega
   have mk:∀c:Cl,c.ru=r->c.mo=now+i->(∀r m t,c≠.take r m t)->kU [.scr f,.own true (.l t),.dat (.int now),.dat (bM (some h))]=.rt (.dat (fN c)) [.l (g++[.int 0,.int 0,.int 0])]->∃c t',kU [.scr f,.own true (.l t),.dat (.int now),.dat (bM (some h))]=.rt (.dat (fN c)) [.l t']/\iU c now/\t'.length<=t.length+7:=fun c A C R S=>⟨c,_,S,ok c A C R,by simp;omega⟩
   have s3:(3:Nat)<=sizeLine:=by omega
   have s8:(8:Nat)<=sizeLine:=by omega
   rcases Q with rfl | rfl | rfl | rfl | rfl | rfl | rfl
   ·exact mk (.step r (now+i)) rfl rfl (by simp) (iw (U:=[some (.scr f),some (.own true (.l (g++[.int 0,.int 0,.int 0]))),some (.dat (.int now)),some (.dat (bM (some h))),some (.dat (.int r)),some (.dat (.int (now+i))),some (.dat (.int 3))]) rfl (pre.trans (by kernel_rfl)) rfl)
   ·exact mk (.finish r (now+i)) rfl rfl (by simp) (iw (U:=[some (.scr f),some (.own true (.l (g++[.int 0,.int 0,.int 0]))),some (.dat (.int now)),some (.dat (bM (some h))),some (.dat (.int r)),some (.dat (.int (now+i))),some (.dat (.int 4))]) rfl (pre.trans (by kernel_rfl)) rfl)
   ·exact mk (.step r (now+i)) rfl rfl (by simp) (iw (U:=[some (.scr f),some (.own true (.l (g++[.int 0,.int 0,.int 0]))),some (.dat (.int now)),some (.dat (bM (some h))),some (.dat (.int r)),some (.dat (.int (now+i))),some (.dat (.int 5))]) rfl (pre.trans (by kernel_rfl)) rfl)
   ·exact mk (.finish r (now+i)) rfl rfl (by simp) (iw (U:=[some (.scr f),some (.own true (.l (g++[.int 0,.int 0,.int 0]))),some (.dat (.int now)),some (.dat (bM (some h))),some (.dat (.int r)),some (.dat (.int (now+i))),some (.dat (.int 6))]) rfl (pre.trans (by kernel_rfl)) rfl)
   ·exact mk (.step r (now+i)) rfl rfl (by simp) (iw (U:=[some (.scr f),some (.own true (.l (g++[.int 0,.int 0,.int 0]))),some (.dat (.int now)),some (.dat (bM (some h))),some (.dat (.int r)),some (.dat (.int (now+i))),some (.dat (.int 7))]) rfl (pre.trans (by kernel_rfl)) rfl)
   ·exact mk (.finish r (now+i)) rfl rfl (by simp) (iw (U:=[some (.scr f),some (.own true (.l (g++[.int 0,.int 0,.int 0]))),some (.dat (.int now)),some (.dat (bM (some h))),some (.dat (.int r)),some (.dat (.int (now+i))),some (.dat (.int 8))]) rfl (pre.trans (by kernel_rfl)) rfl)
   ·exact mk (.step r (now+i)) rfl rfl (by simp) (iw (U:=[some (.scr f),some (.own true (.l (g++[.int 0,.int 0,.int 0]))),some (.dat (.int now)),some (.dat (bM (some h))),some (.dat (.int r)),some (.dat (.int (now+i))),some (.dat (.int 9))]) rfl (pre.trans (by kernel_rfl)) rfl)
noncomputable def aY(S:Hl):Hl:=S.rows.foldl dN (dZ S.a S.ss S.ds)
structure cy (S:Hl) (m:Int) (n:Nat):Prop where
 ok:bC S
 lt:∀d∈S.ds,jz d.late
 rl:S.rows.length<=n
 wl:S.words.length<=n
 ho:∀h,S.holder=some h->0<=h/\h<=3
 la:∀l,S.last=some l->l<=m
 ti:S.til<=m+99
 dr:∀x∈S.rows,x.dd<S.ds.length
 w1:(aY S).words=S.words
 w2:(aY S).settled=S.settled
theorem bC.add{S:Hl}(ok:bC S){r:iu}(h:r.dd<S.ds.length):bC (dN S r):=by
 refine⟨ok.z,ok.dl,ok.pl,?_,Rk ok.nd,?_⟩
 ·show(if r.wd=.begun then S.settled else S.settled.set r.dd (r.ct+1)).length=S.ds.length;split
  ·exact ok.sl
  ·rw[List.length_set];exact ok.sl
 ·intro d c k e;have a:(if r.wd=.begun then some (r.dd,r.ct,S.holds) else none)=some (d,c,k):=e;split at a
  ·cases a;exact h
  ·cases a
theorem cy.add{S:Hl}{m:Int}{n:Nat}(p:cy S m n){r:iu}(h:r.dd<S.ds.length):cy (dN S r) m (n+1):=by
 have c:aY (dN S r)=dN (aY S) r:=by show(S.rows++[r]).foldl dN (dZ S.a S.ss S.ds)=_;rw[List.foldl_append];rfl
 refine⟨p.ok.add h,p.lt,?_,?_,p.ho,p.la,p.ti,?_,?_,?_⟩
 ·have:=p.rl;show(S.rows++[r]).length<=n+1;simp;omega
 ·have:=p.wl;have:=Ex (r.dd,r.ct) r.wd S.words;show(fr S.words (r.dd,r.ct) r.wd).length<=n+1;omega
 ·intro x b;rcases List.mem_append.mp b with b | b
  ·exact p.dr x b
  ·rw[List.mem_singleton.mp b];exact h
 ·rw[c];show fr (aY S).words _ _=fr S.words _ _;rw[p.w1]
 ·rw[c];show(if r.wd=.begun then(aY S).settled else(aY S).settled.set r.dd (r.ct+1))=(if r.wd=.begun then S.settled else S.settled.set r.dd (r.ct+1));rw[p.w2]
theorem cy.mono{S:Hl}{m a:Int}{n b:Nat}(p:cy S m n)(h:m<=a)(c:n<=b):cy S a b:=
 ⟨p.ok,p.lt,Nat.le_trans p.rl c,Nat.le_trans p.wl c,p.ho,fun l e=>Int.le_trans (p.la l e) h,by have:=p.ti;omega,p.dr,p.w1,p.w2⟩
theorem cy.last{S:Hl}{m a:Int}{n:Nat}(p:cy S m n)(h:m<=a):cy { S with last:=some a } a n:=
 ⟨p.ok.last _,p.lt,p.rl,p.wl,p.ho,fun l e=>by cases e;omega,by have:=p.ti;show S.til<=_;omega,p.dr,p.w1,p.w2⟩
theorem cy.hold{S:Hl}{m a k u:Int}{n:Nat}{w:Option Int}(p:cy S m n)(h:m<=a)(b:∀h,w=some h->0<=h/\h<=3)(c:u<=a+99):cy { S with last:=some a,holder:=w,til:=u,holds:=k } a n:=
 ⟨⟨p.ok.z,p.ok.dl,p.ok.pl,p.ok.sl,p.ok.nd,p.ok.bg⟩,p.lt,p.rl,p.wl,b,fun l e=>by cases e;omega,c,p.dr,p.w1,p.w2⟩
theorem RD{a:Int}{f:Sh}{b:List ca}(z:iK a f)(g:b.length<=6)(hd:∀d∈b,mx d.plan/\jz d.late):cy (dZ a f b) 0 0:=
 ⟨⟨z,g,fun d h=>(hd d h).1,by simp[dZ],by simp[dZ],fun d c h e=>(by cases e)⟩,fun d h=>(hd d h).2,by simp[dZ],by simp[dZ],fun h e=>(by cases e),fun l e=>(by cases e),by simp[dZ],by simp[dZ],rfl,rfl⟩
theorem Ff{S:Hl}{r m b:Int}{n:Nat}(p:cy S m n)(h:m<=b):cy (eV S r b).1 b (n+1)/\(eV S r b).1.holder=S.holder/\(eV S r b).1.til=S.til/\
  ((∃d c,(eV S r b).1.begun=some (d,c,(eV S r b).1.holds)/\((eV S r b).2=.tuple [.str "busy",aW d,aW c]\/(eV S r b).2=.tuple [.str "begun",aW d,aW c]))\/
   (∃d c:Nat,(eV S r b).2=.tuple [.str "left",aW d,aW c]\/(eV S r b).2=.tuple [.str "unsure",aW d,aW c])\/(eV S r b).2=.tuple [.str "idle",.none]\/∃v:Int,(eV S r b).2=.tuple [.str "idle",.int v]):=by
 have q:=p.last h;obtain⟨f,g⟩:∃f:Hl,f = { S with last:=some b }:=⟨_,rfl⟩
 rw[<-g] at q;have o:f.begun=S.begun:=by rw[g]
 have s:f.holds=S.holds:=by rw[g]
 have y:f.ds=S.ds:=by rw[g]
 have t:f.holder=S.holder:=by rw[g]
 have u:f.til=S.til:=by rw[g]
 have e:eV S r b = match S.begun with
   | some (d,c,k)=>if k=S.holds then(f,.tuple [.str "busy",aW d,aW c]) else mB f r b d c
   | none=>mz f r b:=by rw[g];rfl
 rw[e,<-o,<-s,<-t,<-u];cases hb:f.begun with
 | some x=>
  obtain⟨d,c,k⟩:=x;simp only
  by_cases i:k=f.holds
  ·rw[if_pos i];exact⟨q.mono (Int.le_refl _) (by omega),rfl,rfl,.inl ⟨d,c,by show f.begun=_;rw[hb,i],.inl rfl⟩⟩
  ·rw[if_neg i];have hd:=q.ok.bg d c k hb;unfold mB;rw[List.getElem?_eq_getElem hd];simp only;refine⟨q.add hd,rfl,rfl,?_⟩
   by_cases j:f.ds[d].again=true
   ·simp only[if_pos j];exact .inl ⟨d,c,rfl,.inr rfl⟩
   ·simp only[if_neg j];exact .inr (.inl ⟨d,c,.inr rfl⟩)
 | none=>
  simp only;unfold mz;cases w:my f with
  | none=>exact⟨q.mono (Int.le_refl _) (by omega),rfl,rfl,.inr (.inr (.inl rfl))⟩
  | some x=>
   obtain⟨v,k⟩:=x;simp only
   by_cases l:b<v
   ·rw[if_pos l];exact⟨q.mono (Int.le_refl _) (by omega),rfl,rfl,.inr (.inr (.inr ⟨v,rfl⟩))⟩
   ·rw[if_neg l];obtain⟨i,_⟩:=ED w;rw[List.getElem?_eq_getElem i];simp only;refine⟨q.add i,rfl,rfl,?_⟩;generalize dk f k=ct
    by_cases j:nX f.a f.ss f.ds[k] ct b = true
    ·simp only[if_pos j];exact .inr (.inl ⟨k,ct,.inl rfl⟩)
    ·simp only[if_neg j];exact .inl ⟨k,ct,rfl,.inr rfl⟩
section
variable{C:Addr}{S:Hl}{m:Int}{n:Nat}
theorem cy.call{r a:Int}(p:cy S m n)(c:0<=r/\r<=3)(h:m<=a)(d:0<=a/\a<=9999):jr C [.own true (hB C S),.dat (.int r),.dat (.int a)]=.rt (.dat .none) [hB C S]:=
 QX rfl (by simp[cE];omega) (by simp[cE];omega) (by
  cases b:S.last with
  | none=>unfold uQ;rw[b]
  | some l=>
   have:=p.la l b;unfold uQ;rw[b];exact decide_eq_false (by omega))
theorem RE{c:Cl}(p:cy S m n)(q:n<900)(b:iU c m)(s:0<=m/\m<=9000):∃d g,dM C [.own true (hB C S),.dat (fN c)]=.rt (.dat d) [hB C g]/\cy g c.mo (n+1):=by
 have l1:=p.rl;have l2:=p.wl;have j:0<=c.mo/\c.mo<=9999:=by have:=b.m;omega
 have f:=p.call (C:=C) b.r b.m.1 j;have hd:∀r a,c.ru=r->c.mo=a->(eE C [.own true (hB C S),.dat (.int r),.dat (.int a)]=.rt (.dat .none) [hB C S])\/(eE C [.own true (hB C S),.dat (.int r),.dat (.int a)]=.ex "NotHolder" [hB C S]):=fun r a l o=>by
  rw[l,o] at f;cases hb:(gZ S a&&decide (S.holder=some r)) with
  | true=>rw[Bool.and_eq_true] at hb;exact .inl (Ej f hb.1 (of_decide_eq_true hb.2))
  | false=>exact .inr (Ei f hb)
 have same:cy S c.mo (n+1):=p.mono b.m.1 (by omega);cases c with
 | take r a t=>
  have v:=b.t r a t rfl;refine⟨_,_,EQ (Ek f (by simp[cE];omega)),?_⟩;unfold qg;split
  ·exact(p.hold b.m.1 (fun h e=>by cases e;exact b.r) (by show a+t<=a+99;omega)).mono (Int.le_refl _) (by omega)
  ·split
   ·exact(p.hold (k:=S.holds) b.m.1 (fun h e=>by cases e;exact b.r) (by show a+t<=a+99;omega)).mono (Int.le_refl _) (by omega)
   ·exact(p.last b.m.1).mono (Int.le_refl _) (by omega)
 | give r a=>
  rcases hd r a rfl rfl with h | h
  ·exact⟨_,_,ER (Em h),(p.hold (k:=S.holds) (u:=S.til) b.m.1 (fun h e=>by cases e) (by have:=p.ti;have:=b.m.1;show S.til<=a+99;simp only[Cl.mo] at this;omega)).mono (Int.le_refl _) (by omega)⟩
  ·exact⟨_,_,ES (El h) nU nV,same⟩
 | step r a=>
  rcases hd r a rfl rfl with h | h
  ·exact⟨_,_,ET (EE p.ok (by omega) (by omega) h),(Ff p b.m.1).1⟩
  ·exact⟨_,_,EU (En h) nU nV,same⟩
 | finish r a=>
  rcases hd r a rfl rfl with h | h
  ·cases hb:kh S with
   | false=>exact⟨_,_,uU (EF h hb) DY Ef,same⟩
   | true=>
    obtain⟨d,c,e⟩:∃d c,S.begun=some (d,c,S.holds):=by
     unfold kh at hb;cases i:S.begun with
     | none=>rw[i] at hb;cases hb
     | some x=>obtain⟨d,c,k⟩:=x;rw[i] at hb;exact⟨d,c,by rw[of_decide_eq_true hb]⟩
    exact⟨_,_,EV (EG p.ok (by omega) (by omega) h e),(p.last b.m.1).add (p.ok.bg d c _ e)⟩
  ·exact⟨_,_,uU (Eo h) nU nV,same⟩
end
theorem Fg:∀(l:List iu) (S:Hl),(l.foldl dN S).a=S.a/\(l.foldl dN S).ss=S.ss/\(l.foldl dN S).ds=S.ds/\(l.foldl dN S).rows=S.rows++l
 | [],S=>⟨rfl,rfl,rfl,by simp⟩
 | r::l,S=>by obtain⟨c,h2,h3,b⟩:=Fg l (dN S r);rw[List.foldl_cons];exact⟨c,h2,h3,by rw[b];show S.rows++[r]++l=_;simp⟩
theorem Fh{C:Addr}:∀(l:List iu) {S:Hl}{z x:Option aj},bC S->S.rows.length+l.length<=1000->S.words.length+l.length<=1000->(∀r∈l,r.dd<S.ds.length)->∃y,cA (aF 2) (sS C) (l.map eO) [z,some (.own false (hB C S)),x]=.nx [z,some (.own false (hB C (l.foldl dN S))),y]
 | [],S,z,x,_,_,_,_=>⟨x,by simp[cA]⟩
 | r::l,S,z,x,ok,h1,h2,hd=>by simp only[List.length_cons] at h1 h2;have b:=hd r (List.mem_cons_self ..);have a:=nZ (C:=C) (S:=S) (r:=r) (by omega) (by omega) ok.nd (by rw[ok.sl];exact b);have l1:=Ex (r.dd,r.ct) r.wd S.words;obtain⟨y,e⟩:=Fh l (S:=dN S r) (z:=z) (x:=some (.dat (eO r))) (ok.add b) (by show(S.rows++[r]).length+_<=_;simp;omega) (by show(fr S.words (r.dd,r.ct) r.wd).length+_<=_;omega) (fun q c=>hd q (bL _ c));refine⟨y,?_⟩;rw[List.foldl_cons,<-e,List.map_cons,cA];generalize eO r=R at a;simp[sS,bR,cM,bJ,a]
theorem RF{C:Addr}{S:Hl}{m:Int}{n:Nat}(p:cy S m n)(A:n<900):pS C [.dat (ix S)]=.rt (.own false (hB C S)) []:=by
 have g:=Er (C:=C) (DC p.ok.z) (EZ p.ok.dl fun d hd=>⟨(p.ok.pl d hd).plan,p.lt d hd⟩) p.ok.dl;have l1:=p.rl;obtain⟨y,go⟩:=Fh (C:=C) S.rows (S:=dZ S.a S.ss S.ds) (z:=some (.dat (ix S))) (x:=none) ⟨p.ok.z,p.ok.dl,p.ok.pl,by simp[dZ],by simp[dZ],fun d c h e=>by cases e⟩ (by simp[dZ];omega) (by simp[dZ];omega) p.dr;obtain⟨f1,f2,i,j⟩:=Fg S.rows (dZ S.a S.ss S.ds);have fin:({ aY S with last:=S.last,holder:=S.holder,til:=S.til,holds:=S.holds,begun:=S.begun }:Hl)=S:=by show Hl.mk (aY S).a (aY S).ss (aY S).ds S.last S.holder S.til S.holds S.begun (aY S).rows (aY S).words (aY S).settled=S;rw[p.w1,p.w2,show(aY S).a=S.a from f1,show(aY S).ss=S.ss from f2,show(aY S).ds=S.ds from i,show(aY S).rows=S.rows from by rw[show(aY S).rows=_ from j];rfl]
 rw[show S.rows.foldl dN (dZ S.a S.ss S.ds)=aY S from rfl] at go;generalize aY S=R at go fin;generalize dZ S.a S.ss S.ds=N at g go
 conv=>rhs;rw[<-fin]
 generalize b:ix S=f at go ⊢;unfold ix at b;generalize k:S.rows.map eO=l at go b;have o:aD f (.int 0)=some (dc S.a S.ss):=by rw[<-b];rfl
 have q:aD f (.int 1)=some (eG S.ds):=by rw[<-b];rfl
 have r:aD f (.int 2)=some (bM S.last):=by rw[<-b];rfl
 have s:aD f (.int 3)=some (bM S.holder):=by rw[<-b];rfl
 have t:aD f (.int 4)=some (.int S.til):=by rw[<-b];rfl
 have u:aD f (.int 5)=some (.int S.holds):=by rw[<-b];rfl
 have v:aD f (.int 6)=some (fL S.begun):=by rw[<-b];rfl
 have w:aD f (.int 7)=some (.tuple l):=by rw[<-b];rfl
 simp[-aD,pS,yh,oX,nj,o,q,r,s,t,u,v,w,g,go,bJ,cu,fk,fj,yK,yL,yM]
def Ly(k:Nat)(d:PyData):Prop:=PyData.canLay0 d=true/\PyData.depth d<=k
theorem Ly.mono{k m:Nat}{d:PyData}(h:Ly k d)(e:k<=m):Ly m d:=⟨h.1,Nat.le_trans h.2 e⟩
theorem yZ{k:Nat}:∀{l:List PyData},(∀x∈l,Ly k x)->PyData.canLayAll0 l=true/\PyData.depthAll l<=k
 | [],_=>⟨rfl,Nat.zero_le _⟩
 | d::l,h=>by have h1:=h d List.mem_cons_self;have h2:=yZ fun x a=>h x (bL _ a);refine⟨by simp[PyData.canLayAll0,h1.1,h2.1],?_⟩;have:=h1.2;have:=h2.2;simp only[PyData.depthAll];omega
theorem ki{k:Nat}{l:List PyData}(h:∀x∈l,Ly k x):Ly (k+1) (.tuple l):=by have:=yZ h;exact⟨by simpa[PyData.canLay0] using this.1,by have:=this.2;simp only[PyData.depth];omega⟩
theorem uV{k:Nat}{l:List PyData}(h:∀x∈l,Ly k x):Ly (k+1) (.list l):=by have:=yZ h;exact⟨by simpa[PyData.canLay0] using this.1,by have:=this.2;simp only[PyData.depth];omega⟩
theorem eP(i:Int)(k:Nat):Ly k (.int i):=⟨by simp[PyData.canLay0],by simp[PyData.depth]⟩
theorem uW(k:Nat):Ly k .none:=⟨by simp[PyData.canLay0],by simp[PyData.depth]⟩
theorem RG(b:Bool)(k:Nat):Ly k (.bool b):=⟨by simp[PyData.canLay0],by simp[PyData.depth]⟩
theorem uX{s:Str}(h:PyData.strOk s=true)(k:Nat):Ly k (.str s):=⟨by simp[PyData.canLay0,h],by simp[PyData.depth]⟩
theorem Fi{k:Nat}{d:PyData}(h:Ly k d)(e:k<=64):SeqAt.shaped d=true:=by unfold SeqAt.shaped;rw[h.1,Bool.true_and];exact decide_eq_true (Nat.le_trans h.2 e)
theorem za(x:Option Int)(k:Nat):Ly k (bM x):=by cases x;exact uW k;exact eP _ k
theorem oh(w:Wd):PyData.strOk (iP w)=true:=by cases w<;>decide +kernel
theorem Fj(r:iu):Ly 1 (eO r):=ki (k:=0) fun x a=>by
 simp only[List.mem_cons,List.not_mem_nil,or_false] at a;rcases a with rfl | rfl | rfl | rfl | rfl
 ·exact eP _ _
 ·exact eP _ _
 ·exact uX (oh _) _
 ·exact eP _ _
 ·exact eP _ _
theorem RH(l:List iu):Ly 2 (.list (l.map eO)):=uV fun x a=>by obtain⟨r,_,rfl⟩:=List.mem_map.mp a;exact Fj r
theorem RI(S:Hl):Ly 1 (hJ S):=ki (k:=0) fun x a=>by
 simp only[List.mem_cons,List.not_mem_nil,or_false] at a;rcases a with rfl | rfl | rfl
 ·exact za _ _
 ·exact eP _ _
 ·exact eP _ _
theorem RJ(S:Hl):Ly 6 (ix S):=by
 have dd:=Fc S.ds;have e:=Fd S.ss;have f:Ly 5 (dc S.a S.ss):=by
  refine ki (k:=4) fun x b=>?_;simp only[List.mem_cons,List.not_mem_nil,or_false] at b;rcases b with rfl | rfl
  ·exact eP _ _
  ·refine⟨by simpa[PyData.canLay0] using e.1,?_⟩;have:=e.2;simp only[PyData.depth];omega
 have hd:Ly 5 (eG S.ds):=by rw[iS];refine⟨by simpa[PyData.canLay0] using dd.1,?_⟩;have:=dd.2;simp only[PyData.depth];omega
 have hb:Ly 5 (fL S.begun):=by
  cases S.begun with
  | none=>exact uW _
  | some q=>obtain⟨d,c,h⟩:=q;refine(ki (k:=0) fun x b=>?_).mono (by omega);simp only[List.mem_cons,List.not_mem_nil,or_false] at b;rcases b with rfl | rfl | rfl<;>exact eP _ _
 have g:Ly 5 (.tuple (S.rows.map eO)):=(ki (k:=1) fun x b=>by obtain⟨r,_,rfl⟩:=List.mem_map.mp b;exact Fj r).mono (by omega);unfold ix;refine ki (k:=5) fun x b=>?_;simp only[List.mem_cons,List.not_mem_nil,or_false] at b;rcases b with rfl | rfl | rfl | rfl | rfl | rfl | rfl | rfl
 ·exact f
 ·exact hd
 ·exact za _ _
 ·exact za _ _
 ·exact eP _ _
 ·exact eP _ _
 ·exact hb
 ·exact g
noncomputable def hU(S:Hl)(k c:Nat):Str:=match S.words.lookup (k,c) with
 | some w=>iP w
 | none=>(match cp S.a S.ss ((S.ds[k]?.map ca.plan).getD (.once 0)) c with
  | none=>"none"
  | some v=>(match S.last with
   | some l=>if v<=l then "due" else "coming"
   | none=>"coming"))
theorem RK(S:Hl)(k c:Nat):PyData.strOk (hU S k c)=true:=by
 unfold hU;split
 ·exact oh _
 ·split
  ·decide +kernel
  ·split
   ·split<;>decide +kernel
   ·decide +kernel
theorem RL{d:PyData}(h:dU d=true):so [.dat d]=if cE d 0 9999=true then .rt (.dat .none) [] else .ex "NoCount" []:=by have:=jv (d:=d) (lo:=0) (hi:=9999) h;cases e:cE d 0 9999<;>simp[so,xE,this,e]
theorem RM{C:Addr}{S:Hl}{k c:Nat}(ok:bC S)(o:k<S.ds.length)(H:c<=9999):yc C [.own true (hB C S),.dat (aW k),.dat (aW c)]=.rt (.dat (.str (hU S k c))) [hB C S]:=by
 have sz:1000<sizeLine:=by decide
 have de:=iS S.ds;have t:=jv (d:=aW k) (lo:=0) (hi:=(S.ds.length:Int) - 1) rfl;have A:cE (aW k) 0 ((S.ds.length:Int) - 1)=true:=by simp[cE];omega
 rw[A] at t;have g:=RL (d:=aW c) rfl;have q:cE (aW c) 0 9999=true:=by simp[cE];omega
 rw[if_pos q] at g;have f:=yS k c S.words;have kp:=nY k c;have i:=Ec (a:=S.a) (ss:=S.ss) (p:=(S.ds[k]).plan) (c:=c) ok.z.len (ok.pl _ (List.getElem_mem o)).plan;have j:aD (eG S.ds) (aW k)=some (bH S.ds[k]):=by have:=qk o;rw[iS];simpa[aD] using this
 have m:aD (bH S.ds[k]) (.int 0)=some (gc (S.ds[k]).plan):=rfl;have B:(S.ds[k]?.map ca.plan).getD (.once 0)=(S.ds[k]).plan:=by rw[List.getElem?_eq_getElem o];rfl
 have D:S.ds.length=(S.ds.map bH).length:=by simp
 have u:cR ej (aq (bO C 0 "deeds") aP) [some (.own true (hB C S)),some (.dat (aW k)),some (.dat (aW c)),none]=.ok (.int S.ds.length) [some (.own true (hB C S)),some (.dat (aW k)),some (.dat (aW c)),none]:=by simp[de]
 have body:pN C [some (.own true (hB C S)),some (.dat (aW k)),some (.dat (aW c)),none]=.rt (.dat (.str (hU S k c))) [some (.own true (hB C S)),some (.dat (aW k)),some (.dat (aW c)),none]\/∃x,pN C [some (.own true (hB C S)),some (.dat (aW k)),some (.dat (aW c)),none]=.rt (.dat (.str (hU S k c))) [some (.own true (hB C S)),some (.dat (aW k)),some (.dat (aW c)),some x]:=by
  unfold pN hU;rw[B];generalize b:eG S.ds=dd at *;generalize bH S.ds[k]=I at *;generalize gc (S.ds[k]).plan=J at *;generalize cp S.a S.ss (S.ds[k]).plan c=E at *;generalize n:dc S.a S.ss=L at *;have G:∀r:SM,aA (bF (eM (aZ (aJ (aI fK (al (xV 1) (al (xC (.int 0)) (al (af eX (cR ej (aq (bO C 0 "deeds") aP)) (xC (.int 1))) aC))))))) (il "NoDeed") bG) r [some (.own true (hB C S)),some (.dat (aW k)),some (.dat (aW c)),none]=r [some (.own true (hB C S)),some (.dat (aW k)),some (.dat (aW c)),none]:=fun r=>by generalize cR ej (aq (bO C 0 "deeds") aP)=M at u ⊢;simp[u,t]
  rw[G];cases y:S.words.lookup (k,c) with
  | some w=>left;rw[y] at f;simp[-aD,g,kP,kQ,iJ,bJ,dh,kp,f]
  | none=>
   rw[y] at f;cases E with
   | none=>right;exact⟨.dat .none,by simp[-aD,g,kP,kQ,iJ,bJ,dh,kp,f,n,b,j,m,i,du]⟩
   | some v=>
    right;cases s:S.last with
    | none=>exact⟨.dat (.int v),by simp[-aD,g,kP,kQ,iJ,bJ,dh,kp,f,n,b,j,m,i,du,s,bM]⟩
    | some l=>
     by_cases h:v<=l
     ·exact⟨.dat (.int v),by simp[-aD,g,kP,kQ,iJ,bJ,dh,kp,f,n,b,j,m,i,du,s,bM,h]⟩
     ·exact⟨.dat (.int v),by simp[-aD,g,kP,kQ,iJ,bJ,dh,kp,f,n,b,j,m,i,du,s,bM,h]⟩
 rcases body with e | ⟨x,e⟩<;>exact iw rfl e rfl
theorem Fk{C:Addr}{S:Hl}{m:Int}(ok:bC S)(i:S.last=some m)(j:m<=9999):∀(b:List ca) (g:List Nat) (c:List PyData) (x y:Option aj),(∀d∈b,d∈S.ds)->c.length+b.length<900->(∃L:List Int,c=L.map PyData.int)->∃L:List Int,cn (fX 2 (cH (aF 0) (cH (aF 1) fW))) cZ (nJ C) (cm (b.map bH) (g.map aW)) c [x,y,some (.vw (hB C S))]=some (L.map PyData.int)/\L.length<=c.length+b.length
 | [],g,c,x,y,_,h,⟨L,f⟩=>⟨L,by simp[cm,cn,f],by rw[f];simp⟩
 | e::b,[],c,x,y,_,h,⟨L,f⟩=>⟨L,by simp[cm,cn,f],by rw[f];simp⟩
 | e::b,k::g,c,x,y,hd,h,⟨L,f⟩=>by
  have sz:1000<sizeLine:=by decide
  simp only[List.length_cons] at h;obtain⟨n,u⟩:=Ox (p:=e.plan) (last:=m) ok.z (ok.pl e (hd e List.mem_cons_self)).plan j;have l:=QP ok.z (ok.pl e (hd e List.mem_cons_self)).plan u;obtain⟨o,q,r⟩:=Fk (C:=C) ok i j b g (c++[.int ((n:Int) - k)]) (some (.dat (bH e))) (some (.dat (aW k))) (fun d h=>hd d (bL _ h)) (by simp;omega) ⟨L++[(n:Int) - k],by rw[f];simp⟩;refine⟨o,?_,by simp at r ⊢;omega⟩;have s:aD (bH e) (.int 0)=some (gc e.plan):=rfl;have t:nJ C [some (.dat (bH e)),some (.dat (aW k)),some (.vw (hB C S))]=.ok (.int ((n:Int) - k)) [some (.dat (bH e)),some (.dat (aW k)),some (.vw (hB C S))]:=by
   have v:jq C 2 "zone" [some (.dat (bH e)),some (.dat (aW k)),some (.vw (hB C S))]=.ok (dc S.a S.ss) [some (.dat (bH e)),some (.dat (aW k)),some (.vw (hB C S))]:=by simp[jq,ny]
   have w:jq C 2 "last" [some (.dat (bH e)),some (.dat (aW k)),some (.vw (hB C S))]=.ok (.int m) [some (.dat (bH e)),some (.dat (aW k)),some (.vw (hB C S))]:=by simp[jq,ny,i,bM]
   generalize dc S.a S.ss=D at *;generalize gc e.plan=E at *;generalize bH e=dd at *;unfold nJ;generalize jq C 2 "zone" = G at *;generalize jq C 2 "last" = H at *;simp[-aD,v,w,s,l]
  have A:fX 2 (cH (aF 0) (cH (aF 1) fW)) (PyData.tuple [bH e,aW k]) [x,y,some (.vw (hB C S))]=some [some (.dat (bH e)),some (.dat (aW k)),some (.vw (hB C S))]:=by simp
  have B:cm ((e::b).map bH) ((k::g).map aW)=.tuple [bH e,aW k]::cm (b.map bH) (g.map aW):=rfl;rw[B,cn];simp only[A,cZ,t];rw[if_pos (by omega),q]
theorem Fm{C:Addr}:∀(l a:List PyData) (x:Option aj),a.length+l.length<900->(∃L:List Int,a=L.map PyData.int)->∃L:List Int,cn (aF 0) cZ (sJ C) l a [x]=some (L.map PyData.int)/\L.length<=a.length+l.length
 | [],a,x,_,⟨L,b⟩=>⟨L,by simp[cn,b],by rw[b];simp⟩
 | d::l,a,x,h,⟨L,b⟩=>by
  have sz:1000<sizeLine:=by decide
  simp only[List.length_cons] at h;obtain⟨c,e,f⟩:=Fm (C:=C) l (a++[.int 0]) (some (.dat d)) (by simp;omega) ⟨L++[0],by rw[b];simp⟩;refine⟨c,?_,by simp at f ⊢;omega⟩;have g:sJ C [some (.dat d)]=.ok (.int 0) [some (.dat d)]:=by simp[sJ]
  rw[cn];simp only[aF,List.set_cons_zero,cZ,g];rw[if_pos (by omega),e]
theorem RN{C:Addr}{S:Hl}(ok:bC S)(e:∀m,S.last=some m->m<=9999):∃L:List Int,sK C [.own true (hB C S)]=.rt (.dat (.list (L.map PyData.int))) [hB C S]:=by
 have sz:1000<sizeLine:=by decide
 have de:=iS S.ds;have i:=ok.dl;cases h:S.last with
 | none=>
  obtain⟨L,g,a⟩:=Fm (C:=C) (S.ds.map bH) [] none (by simp;omega) ⟨[],rfl⟩;refine⟨L,?_⟩;have ll:L.length<=sizeLine:=by simp at a;omega
  simp[sK,pG,h,bM,de,g,ll]
 | some m=>
  obtain⟨L,g,a⟩:=Fk (C:=C) ok h (e m h) S.ds S.settled [] none none (fun d h=>h) (by simp;omega) ⟨[],rfl⟩;refine⟨L,?_⟩;have ll:L.length<=sizeLine:=by simp at a;omega
  have at_:(L.map PyData.int).all iI=true:=by simp[iI]
  generalize f:cm (S.ds.map bH) (S.settled.map aW)=P at *;have c:kK C 0 "deeds" "settled" [some (.own true (hB C S))]=.ok P [some (.own true (hB C S))]:=by simp[kK,bJ,de,f]
  have k:nv 2 [0] (kK C 0 "deeds" "settled") (fX 2 (cH (aF 0) (cH (aF 1) fW))) cZ (nJ C) [some (.own true (hB C S))]=.ok (.list (L.map PyData.int)) [some (.own true (hB C S))]:=by generalize kK C 0 "deeds" "settled" = j at *;have lw:oZ 2 [0] [some (.own true (hB C S))]=[none,none,some (.vw (hB C S))]:=rfl;simp only[nv,c,fV.bind,xg,lw,g,Option.bind_some,List.length_map,ll,at_,and_self,if_true,lift]
  have b:pG C [some (.own true (hB C S))]=.rt (.dat (.list (L.map PyData.int))) [some (.own true (hB C S))]:=by unfold pG;generalize nv 2 [0] (kK C 0 "deeds" "settled") (fX 2 (cH (aF 0) (cH (aF 1) fW))) cZ (nJ C)=l at *;simp[h,bM,k]
  exact iw rfl b rfl
theorem lz{C:Addr}{S:Hl}{k:Nat}(ok:bC S)(b:k<S.ds.length):∀(n i:Nat) (a:List PyData) (x:Option aj),i+n<=9000->a.length+n<900->∃y,gS (aF 0) cZ (sO C) (L3.intsFrom (i:Int) n) a [x,some (.dat (aW k)),some (.own true (hB C S))]=some (a++(List.range' i n).map (fun c=>PyData.str (hU S k c)),[y,some (.dat (aW k)),some (.own true (hB C S))])
 | 0,i,a,x,_,_=>⟨x,by simp[L3.intsFrom,gS]⟩
 | n+1,i,a,x,h1,h2=>by
  have sz:1000<sizeLine:=by decide
  have st:=RM (C:=C) (c:=i) ok b (by omega);obtain⟨y,d⟩:=lz (C:=C) ok b n (i+1) (a++[.str (hU S k i)]) (some (.dat (aW i))) (by omega) (by simp;omega);refine⟨y,?_⟩;have e:sO C [some (.dat (aW i)),some (.dat (aW k)),some (.own true (hB C S))]=.ok (.str (hU S k i)) [some (.dat (aW i)),some (.dat (aW k)),some (.own true (hB C S))]:=by generalize hU S k i=W at *;simp[sO,bR,cM,bJ,st]
  rw[mw,gS];simp only[aF,List.set_cons_zero,cZ,e];rw[if_pos (by omega)];rw[show((i:Int)+1)=((i+1:Nat):Int) by omega,d,List.range'_succ,List.map_cons];simp
noncomputable def mC(S:Hl)(k:Nat):PyData:=.list ((List.range' 0 12).map (fun c=>PyData.str (hU S k c)))
theorem ql:bQ [.int 12]=some (L3.intsFrom ((0:Nat):Int) 12):=by kernel_rfl
theorem zb{f:List PyData->Option (List PyData)}{a:XM PyData}{U:ao}{x:PyData}{l:List PyData}(b:a U=.ok x U)(c:f [x]=some l):eA f (aq a aP) U=.ok l U:=by simp[b,c]
theorem qm{C:Addr}{S:Hl}{k:Nat}(ok:bC S)(b:k<S.ds.length):sP C [some (.dat (aW k)),some (.own true (hB C S))]=.ok (mC S k) [some (.dat (aW k)),some (.own true (hB C S))]:=by
 have sz:1000<sizeLine:=by decide
 obtain⟨y,g⟩:=lz (C:=C) ok b 12 0 [] none (by omega) (by simp);rw[List.nil_append] at g;have a:eA bQ (aq (xC (.int 12)) aP) [some (.dat (aW k)),some (.own true (hB C S))]=.ok (L3.intsFrom ((0:Nat):Int) 12) [some (.dat (aW k)),some (.own true (hB C S))]:=zb rfl ql;have ll:((List.range' 0 12).map (fun c=>PyData.str (hU S k c))).length<=sizeLine:=by rw[List.length_map,List.length_range'];omega
 unfold sP mC kO;generalize (List.range' 0 12).map (fun c=>PyData.str (hU S k c))=L at *;generalize L3.intsFrom ((0:Nat):Int) 12=V at *;generalize eA bQ (aq (xC (.int 12)) aP)=d at *;rw[a];simp[pb,g,ll,mP]
theorem lA{C:Addr}{S:Hl}(ok:bC S):∀(n i:Nat) (a:List PyData) (x:Option aj),i+n<=S.ds.length->a.length+n<900->∃y,gS (aF 0) cZ (sP C) (L3.intsFrom (i:Int) n) a [x,some (.own true (hB C S))]=some (a++(List.range' i n).map (mC S),[y,some (.own true (hB C S))])
 | 0,i,a,x,_,_=>⟨x,by simp[L3.intsFrom,gS]⟩
 | n+1,i,a,x,h1,h2=>by
  have sz:1000<sizeLine:=by decide
  have b:=qm (C:=C) (k:=i) ok (by omega);obtain⟨y,c⟩:=lA (C:=C) ok n (i+1) (a++[mC S i]) (some (.dat (aW i))) (by omega) (by simp;omega);refine⟨y,?_⟩;rw[mw,gS];simp only[aF,List.set_cons_zero,cZ,b];rw[if_pos (by omega)];rw[show((i:Int)+1)=((i+1:Nat):Int) by omega,c,List.range'_succ,List.map_cons];simp
theorem zc(n:Nat)(h:n<=6):bQ [.int n]=some (L3.intsFrom ((0:Nat):Int) n):=by
 have:n=0\/n=1\/n=2\/n=3\/n=4\/n=5\/n=6:=by omega
 rcases this with rfl | rfl | rfl | rfl | rfl | rfl | rfl<;>kernel_rfl
theorem RO{c:XM (List PyData)}{d:GM}{e:XM PyData}{V R:List PyData}{b:Bx}{q:PyData}{y:Option aj}(a:c [some (.own true b),some (.dat q),none]=.ok V [some (.own true b),some (.dat q),none])(g:gS d cZ e V [] [none,some (.own true b)]=some (R,[y,some (.own true b)]))(f:R.length<=sizeLine) :
  bA (kO 1 [0] 0 0 c d cZ e) (aF 2) [some (.own true b),some (.dat q),none]=.nx [some (.own true b),some (.dat q),some (.dat (.list R))]:=by
 simp[kO,a,pb,g,f,mP]
theorem RP{C:Addr}{fs:List (Str×Fl)}{a:SM}{q R hd b c g:PyData}{d e f fv:FM}(h:a [some (.own true (.o C fs)),some (.dat q),none]=.nx [some (.own true (.o C fs)),some (.dat q),some (.dat R)])
  (i:List.lookup ("held":Str) fs=none) (j:List.lookup ("log":Str) fs=none) (k:List.lookup ("waiting":Str) fs=none) (l:List.lookup ("saved":Str) fs=none)
  (n:d [.own true (.o C fs)]=.rt (.dat hd) [.o C fs]) (p:e [.own true (.o C fs)]=.rt (.dat b) [.o C fs]) (r:f [.own true (.o C fs)]=.rt (.dat c) [.o C fs]) (m:fv [.own true (.o C fs)]=.rt (.dat g) [.o C fs]) :
  bi 2 3 (aA a (br (cY (aq (xV 2) (aq (aJ (cD C 0 "held" d)) (aq (aJ (cD C 0 "log" e)) (aq (aJ (cD C 0 "waiting" f)) (aq (aJ (cD C 0 "saved" fv)) aP)))))))) [.own true (.o C fs),.dat q]=.rt (.dat (.tuple [R,hd,b,c,g])) [.o C fs]:=by
 have sz:1000<sizeLine:=by decide
 simp[h,cD,cM,bJ,i,j,k,l,n,p,r,m,show(5:Nat)<=sizeLine by omega]
theorem RQ(S:Hl):List.lookup ("held":Str) (ai S)=none:=by unfold ai;kernel_rfl
theorem RS(S:Hl):List.lookup ("log":Str) (ai S)=none:=by unfold ai;kernel_rfl
theorem RT(S:Hl):List.lookup ("waiting":Str) (ai S)=none:=by unfold ai;kernel_rfl
theorem RU(S:Hl):List.lookup ("saved":Str) (ai S)=none:=by unfold ai;kernel_rfl
theorem Fo{C:Addr}{S:Hl}{n:Nat}(ok:bC S)(d:∀m,S.last=some m->m<=9999)(j:S.ds.length=n):∃D,iO C [.own true (hB C S),.dat (.int n)]=.rt (.dat D) [hB C S]/\SeqAt.shaped D=true:=by
 have sz:1000<sizeLine:=by decide
 have l:=ok.dl;obtain⟨L,e⟩:=RN (C:=C) ok d;obtain⟨y,g⟩:=lA (C:=C) ok n 0 [] none (by omega) (by simp;omega);rw[List.nil_append] at g;have b:eA bQ (aq (xV 1) aP) [some (.own true (hB C S)),some (.dat (.int n)),none]=.ok (L3.intsFrom ((0:Nat):Int) n) [some (.own true (hB C S)),some (.dat (.int n)),none]:=zb (by simp) (zc n (by omega));have ll:((List.range' 0 n).map (mC S)).length<=sizeLine:=by rw[List.length_map,List.length_range'];omega
 have hh:ip C [.own true (hB C S)]=.rt (.dat (hJ S)) [hB C S]:=uS;have f:=QY (C:=C) (S:=S);have h:=Fb (C:=C) (S:=S);have i:Ly 2 (.list ((List.range' 0 n).map (mC S))):=uV (k:=1) fun x a=>by obtain⟨k,_,rfl⟩:=List.mem_map.mp a;exact uV (k:=0) fun x a=>by obtain⟨c,_,rfl⟩:=List.mem_map.mp a;exact uX (RK S k c) _
 have lw:Ly 1 (.list (L.map PyData.int)):=uV (k:=0) fun x a=>by obtain⟨c,_,rfl⟩:=List.mem_map.mp a;exact eP _ _
 have l1:=RH S.rows;have l2:=RJ S;have l3:=RI S;refine⟨.tuple [.list ((List.range' 0 n).map (mC S)),hJ S,.list (S.rows.map eO),.list (L.map PyData.int),ix S],?_,Fi (ki (k:=6) fun x a=>?_) (by omega)⟩
 ·unfold iO yf;exact RP (RO b g ll) (RQ S) (RS S) (RT S) (RU S) hh f e h
 ·simp only[List.mem_cons,List.not_mem_nil,or_false] at a;rcases a with rfl | rfl | rfl | rfl | rfl
  ·exact i.mono (by omega)
  ·exact l3.mono (by omega)
  ·exact l1.mono (by omega)
  ·exact lw.mono (by omega)
  ·exact l2
theorem qo{w:Str}{a b:Int}(h:PyData.strOk w=true):Ly 1 (.tuple [.str w,.int a,.int b]):=ki (k:=0) fun x c=>by
 simp only[List.mem_cons,List.not_mem_nil,or_false] at c;rcases c with rfl | rfl | rfl
 ·exact uX h _
 ·exact eP _ _
 ·exact eP _ _
theorem oi{w:Str}{x:PyData}(h:PyData.strOk w=true)(b:Ly 0 x):Ly 1 (.tuple [.str w,x]):=ki (k:=0) fun y a=>by
 simp only[List.mem_cons,List.not_mem_nil,or_false] at a;rcases a with rfl | rfl
 ·exact uX h _
 ·exact b
theorem Fp:PyData.strOk "idle" = true:=by decide +kernel
theorem RV:PyData.strOk "busy" = true:=by decide +kernel
theorem uY:PyData.strOk "refused" = true:=by decide +kernel
theorem RW{S:Hl}{r m:Int}:(eV S r m).1.ds=S.ds:=by
 unfold eV mB mz
 repeat (first | rfl | split)
theorem RX{S:Hl}{r m a:Int}{n:Nat}(p:cy S m n)(h:m<=a):Ly 1 (eV S r a).2:=by
 obtain⟨_,_,_,b⟩:=Ff (r:=r) p h;rcases b with⟨d,c,_,e | e⟩ | ⟨d,c,e | e⟩ | e | ⟨v,e⟩<;>rw[e]
 ·exact qo RV
 ·exact qo (oh .begun)
 ·exact qo (oh .left)
 ·exact qo (oh .unsure)
 ·exact oi Fp (uW _)
 ·exact oi Fp (eP _ _)
theorem zd{C:Addr}{S:Hl}{m:Int}{n:Nat}{c:Cl}(p:cy S m n)(z:n<900)(f:iU c m)(A:0<=m/\m<=9000):∃d b,dM C [.own true (hB C S),.dat (fN c)]=.rt (.dat d) [hB C b]/\cy b c.mo (n+1)/\b.ds.length=S.ds.length/\SeqAt.shaped d=true:=by
 obtain⟨d,b,e,B⟩:=RE (C:=C) p z f A;have l1:=p.rl;have l2:=p.wl;have D:0<=c.mo/\c.mo<=9999:=by have:=f.m;omega
 have j:=p.call (C:=C) f.r f.m.1 D;have hd:∀r a,c.ru=r->c.mo=a->(eE C [.own true (hB C S),.dat (.int r),.dat (.int a)]=.rt (.dat .none) [hB C S])\/(eE C [.own true (hB C S),.dat (.int r),.dat (.int a)]=.ex "NotHolder" [hB C S]):=fun r a E o=>by
  rw[E,o] at j;cases hb:(gZ S a&&decide (S.holder=some r)) with
  | true=>rw[Bool.and_eq_true] at hb;exact .inl (Ej j hb.1 (of_decide_eq_true hb.2))
  | false=>exact .inr (Ei j hb)
 have fin:∀(s:PyData) (u:Hl),dM C [.own true (hB C S),.dat (fN c)]=.rt (.dat s) [hB C u]->Ly 1 s->u.ds=S.ds->b.ds.length=S.ds.length/\SeqAt.shaped d=true:=fun s u o l q=>by
  rw[e] at o;injection o with v g
  injection v with v
  injection g with g
  injection g with G g
  have y:=congrArg (List.lookup ("deeds":Str)) g;rw[Eg,Eg,iS,iS,q] at y;injection y with y
  injection y with y
  injection y with y
  have:=congrArg List.length y;simp only[List.length_map] at this;rw[v];exact⟨this,Fi l (by omega)⟩
 have i:b.ds.length=S.ds.length/\SeqAt.shaped d=true:=?_
 ·exact⟨d,b,e,B,i.1,i.2⟩
 cases c with
 | take r a t=>have H:=f.t r a t rfl;exact fin _ _ (EQ (Ek j (by simp[cE];omega))) (RG _ _) (by unfold qg;split<;>(try split)<;>rfl)
 | give r a=>
  rcases hd r a rfl rfl with h | h
  ·exact fin _ _ (ER (Em h)) (uW _) rfl
  ·exact fin _ _ (ES (El h) nU nV) (oi uY (eP _ _)) rfl
 | step r a=>
  rcases hd r a rfl rfl with h | h
  ·exact fin _ _ (ET (EE p.ok (by omega) (by omega) h)) (RX p f.m.1) RW
  ·exact fin _ _ (EU (En h) nU nV) (oi uY (eP _ _)) rfl
 | finish r a=>
  rcases hd r a rfl rfl with h | h
  ·cases hb:kh S with
   | false=>exact fin _ _ (uU (EF h hb) DY Ef) (oi uY (eP _ _)) rfl
   | true=>
    obtain⟨d,c,e⟩:∃d c,S.begun=some (d,c,S.holds):=by
     unfold kh at hb;cases w:S.begun with
     | none=>rw[w] at hb;cases hb
     | some x=>obtain⟨d,c,k⟩:=x;rw[w] at hb;exact⟨d,c,by rw[of_decide_eq_true hb]⟩
    exact fin _ _ (EV (EG p.ok (by omega) (by omega) h e)) (qo (oh .done)) rfl
  ·exact fin _ _ (uU (Eo h) nU nV) (oi uY (eP _ _)) rfl
noncomputable abbrev dA(C:Addr)(j:List Int)(t:List PyData)(z:PyData)(e:List PyData)(S:Hl)(a:Int)(f g h i b c d:Option aj):ao:=[some (.scr j),some (.own false (.l t)),some (.dat z),some (.dat (.tuple e)),some (.own false (hB C S)),some (.dat (.int a)),f,g,h,i,b,c,d]
noncomputable abbrev lB(C:Addr)(i:List Int)(t:List PyData)(z:PyData)(c:List PyData)(S:Hl)(a:Int)(d e f g:Option aj)(h:Hl)(b:Option aj)(later:Int):ao:=[some (.scr i),some (.own false (.l t)),some (.dat z),some (.dat (.tuple c)),some (.own false (hB C S)),some (.dat (.int a)),d,e,f,g,some (.own false (hB C h)),b,some (.dat (.int later))]
section
variable{C:Addr}{ns:List Int}{z:PyData}{DD:List PyData}{x8 x9 x10 x11 x12:Option aj}
theorem qp{t:List PyData}{S:Hl}{a:Int}{x6 x7:Option aj}{n:Nat}(g:ns.length<=63)(h:t.length<=800)(p:cy S a n)(r:n<890)(i:0<=a/\a<=9000):∃t' e b j,pT C (dA C ns t z DD S a x6 x7 x8 x9 x10 x11 x12)=.nx (dA C ns t' z DD e b x6 j x8 x9 x10 x11 x12)/\cy e b (n+1)/\t'.length<=t.length+7/\a<=b/\b<=a+29/\e.ds.length=S.ds.length:=by obtain⟨c,t',k,ok,l⟩:=yY (now:=a) (holder:=S.holder) g h p.ho;obtain⟨d,e,hd,o,q,_⟩:=zd (C:=C) p (by omega) ok i;have f:ip C [.own true (hB C S)]=.rt (.dat (hJ S)) [hB C S]:=uS;refine⟨t',e,c.mo,some (.dat (fN c)),?_,o,l,ok.m.1,ok.m.2,q⟩;have mo:=yX c;generalize fN c=D at *;generalize c.mo=M at *;have hh:aD (hJ S) (.int 0)=some (bM S.holder):=rfl;generalize hJ S=H at f hh;simp[-aD,pT,cD,bJ,f,hh,k,hd,mo]
theorem lC(h:ns.length<=63):∀(k:Nat) (i:Int) {t:List PyData}{S:Hl}{now:Int}{x6 x7:Option aj}{n:Nat},t.length+7 * k<=800->cy S now n->n+k<890->0<=now->now+29 * k<=9000->∃t' d a j l f,cA (aF 6) (pT C) (L3.intsFrom i k) (dA C ns t z DD S now x6 x7 x8 x9 x10 x11 x12)=.nx (dA C ns t' z DD d a l f x8 x9 x10 x11 x12)/\cy d a j/\j<=n+k/\t'.length<=t.length+7 * k/\0<=a/\a<=now+29 * k/\d.ds.length=S.ds.length
 | 0,i,t,S,now,x6,x7,n,_,p,_,g,_=>⟨t,S,now,n,x6,x7,by simp[L3.intsFrom,cA],p,by omega,by omega,g,by omega,rfl⟩
 | k+1,i,t,S,now,x6,x7,n,D,p,E,g,G=>by obtain⟨m,o,b,f,e,q,l1,H,I,J⟩:=qp (C:=C) (z:=z) (DD:=DD) (x8:=x8) (x9:=x9) (x10:=x10) (x11:=x11) (x12:=x12) (t:=t) (x6:=some (.dat (.int i))) (x7:=x7) h (by omega) p (by omega) ⟨g,by omega⟩;obtain⟨r,s,c,u,v,w,x,y,A,L,B,M,N⟩:=lC h k (i+1) (t:=m) (S:=o) (now:=b) (x6:=some (.dat (.int i))) (x7:=f) (by omega) q (by omega) (by omega) (by omega);refine⟨r,s,c,u,v,w,?_,y,by omega,by omega,B,by omega,by omega⟩;rw[mw,cA,<-x];simp[e]
theorem qr{t:List PyData}{S a:Hl}{now later:Int}{x6 x7:Option aj}{n:Nat}(g:ns.length<=63)(h:t.length<=800)(p:cy a later n)(r:n<890)(i:0<=later/\later<=9000):∃t' b e j,pU C (lB C ns t z DD S now x6 x7 x8 x9 a x11 later)=.nx (lB C ns t' z DD S now x6 j x8 x9 b x11 e)/\cy b e (n+1)/\t'.length<=t.length+7/\later<=e/\e<=later+29:=by obtain⟨c,t',k,ok,l⟩:=yY (now:=later) (holder:=a.holder) g h p.ho;obtain⟨d,b,hd,o,q,_⟩:=zd (C:=C) p (by omega) ok i;have f:ip C [.own true (hB C a)]=.rt (.dat (hJ a)) [hB C a]:=uS;refine⟨t',b,c.mo,some (.dat (fN c)),?_,o,l,ok.m.1,ok.m.2⟩;have mo:=yX c;generalize fN c=D at *;generalize c.mo=M at *;have hh:aD (hJ a) (.int 0)=some (bM a.holder):=rfl;generalize hJ a=H at f hh;simp[-aD,pU,cD,bJ,f,hh,k,hd,mo]
theorem lE(d:ns.length<=63){S:Hl}{now:Int}:∀(k:Nat) (i:Int) {t:List PyData}{S3:Hl}{later:Int}{x6 x7:Option aj}{n:Nat},t.length+7 * k<=800->cy S3 later n->n+k<890->0<=later->later+29 * k<=9000->∃t' g h j a,cA (aF 6) (pU C) (L3.intsFrom i k) (lB C ns t z DD S now x6 x7 x8 x9 S3 x11 later)=.nx (lB C ns t' z DD S now j a x8 x9 g x11 h)/\t'.length<=t.length+7 * k
 | 0,i,t,S3,later,x6,x7,n,_,p,_,f,_=>⟨t,S3,later,x6,x7,by simp[L3.intsFrom,cA],by omega⟩
 | k+1,i,t,S3,later,x6,x7,n,w,p,x,f,y=>by obtain⟨l,m,b,a,e,o,l1,A,B⟩:=qr (C:=C) (z:=z) (DD:=DD) (x8:=x8) (x9:=x9) (x11:=x11) (S:=S) (now:=now) (t:=t) (x6:=some (.dat (.int i))) (x7:=x7) d (by omega) p (by omega) ⟨f,by omega⟩;obtain⟨q,r,c,s,u,v,D⟩:=lE d k (i+1) (t:=l) (S3:=m) (later:=b) (x6:=some (.dat (.int i))) (x7:=a) (by omega) o (by omega) (by omega) (by omega);refine⟨q,r,c,s,u,?_,by omega⟩;rw[mw,cA,<-v];simp[e]
theorem mD{f:FM}{b:Bx}{n:Nat}{D:PyData}{z0 z1 z2 z5 z6 z7 z8 z9 z10 z11 z12:Option aj}(a:DD.length=n)(h:f [.own true b,.dat (.int n)]=.rt (.dat D) [b]):aJ (aI f (aN 4 (al (cR ej (aq (xV 3) aP)) aC))) [z0,z1,z2,some (.dat (.tuple DD)),some (.own false b),z5,z6,z7,z8,z9,z10,z11,z12]=.ok D [z0,z1,z2,some (.dat (.tuple DD)),some (.own false b),z5,z6,z7,z8,z9,z10,z11,z12]:=by subst a;simp[h]
theorem qt{f:FM}{b:Bx}{n:Nat}{D:PyData}{z0 z1 z2 z4 z5 z6 z7 z8 z10 z11 z12:Option aj}(a:DD.length=n)(h:f [.own true b,.dat (.int n)]=.rt (.dat D) [b]):aJ (aI f (aN 9 (al (cR ej (aq (xV 3) aP)) aC))) [z0,z1,z2,some (.dat (.tuple DD)),z4,z5,z6,z7,z8,some (.own false b),z10,z11,z12]=.ok D [z0,z1,z2,some (.dat (.tuple DD)),z4,z5,z6,z7,z8,some (.own false b),z10,z11,z12]:=by subst a;simp[h]
theorem uZ{g:PyData->PyData->Option PyData}{a b:XM PyData}{U U1 c:ao}{x y w:PyData}(d:a U=.ok x U1)(e:b U1=.ok y c)(f:g x y=some w):af g a b U=.ok w c:=by simp[d,e,f]
theorem ze{A:XM PyData}{U a:ao}(h:A U=.ok (.bool false) a){s:SM}:bF (aZ A) s bG U=.nx a:=by simp[h]
theorem qu{t:List PyData}{S:Hl}{a:Int}{x6 x7:Option aj}{n:Nat}(o:ns.length<=63)(r:t.length<=800)(p:cy S a n)(I:n<890)(s:0<=a/\a<=9000)(h:DD.length=S.ds.length):∃t' f b u,pV C (dA C ns t z DD S a x6 x7 x8 (some (.own false (hB C S))) x10 x11 x12)=.nx (dA C ns t' z DD f b x6 u x8 (some (.own false (hB C f))) x10 x11 x12)/\cy f b (n+1)/\t'.length<=t.length+7/\a<=b/\b<=a+29/\f.ds.length=S.ds.length:=by
 obtain⟨c,t',v,ok,l⟩:=yY (now:=a) (holder:=S.holder) o r p.ho;obtain⟨d,f,hd,g,q,w⟩:=zd (C:=C) p (by omega) ok s;have i:ip C [.own true (hB C S)]=.rt (.dat (hJ S)) [hB C S]:=uS;obtain⟨J,j,A⟩:=Fo (C:=C) (n:=S.ds.length) g.ok (fun m e=>by have:=g.la m e;have:=ok.m.2;omega) q;refine⟨t',f,c.mo,some (.dat (fN c)),?_,g,l,ok.m.1,ok.m.2,q⟩;have mo:=yX c;generalize fN c=D at *;generalize c.mo=M at *;have hh:aD (hJ S) (.int 0)=some (bM S.holder):=rfl;generalize hJ S=H at i hh;have B:∀k:SM,aA (bA (aJ (aI kU (aN 0 (aN 1 (al (xV 5) (al (af aD (aJ (cD C 4 "held" (ip C))) (xC (.int 0))) aC)))))) (aF 7)) k (dA C ns t z DD S a x6 x7 x8 (some (.own false (hB C S))) x10 x11 x12)=k (dA C ns t' z DD S a x6 (some (.dat D)) x8 (some (.own false (hB C S))) x10 x11 x12):=fun k=>by simp[-aD,cD,bJ,i,hh,v]
 have E:∀k:SM,aA (bA (af aD (xV 7) (xC (.int 2))) (aF 5)) k (dA C ns t' z DD S a x6 (some (.dat D)) x8 (some (.own false (hB C S))) x10 x11 x12)=k (dA C ns t' z DD S M x6 (some (.dat D)) x8 (some (.own false (hB C S))) x10 x11 x12):=fun k=>by simp[-aD,mo]
 have G:af (aS true) (aJ (aI (dM C) (aN 4 (al (xV 7) aC)))) (aJ (aI (dM C) (aN 9 (al (xV 7) aC)))) (dA C ns t' z DD S M x6 (some (.dat D)) x8 (some (.own false (hB C S))) x10 x11 x12)=.ok (.bool false) (dA C ns t' z DD f M x6 (some (.dat D)) x8 (some (.own false (hB C f))) x10 x11 x12):=by
  refine uZ (x:=d) (y:=d) (U1:=dA C ns t' z DD f M x6 (some (.dat D)) x8 (some (.own false (hB C S))) x10 x11 x12) ?_ ?_ (qe w)
  ·simp[hd]
  ·simp[hd]
 unfold pV;rw[B,E,lc (ze G)];exact ze (uZ (mD h j) (qt h j) (qe A))
theorem lF(b:ns.length<=63):∀(k:Nat) (i:Int) {t:List PyData}{S:Hl}{now:Int}{x6 x7:Option aj}{n:Nat},t.length+7 * k<=800->cy S now n->n+k<890->0<=now->now+29 * k<=9000->DD.length=S.ds.length->∃U,cA (aF 6) (pV C) (L3.intsFrom i k) (dA C ns t z DD S now x6 x7 x8 (some (.own false (hB C S))) x10 x11 x12)=.nx U/\∃x r,U=x::r
 | 0,i,t,S,now,x6,x7,n,_,p,_,c,_,_=>⟨dA C ns t z DD S now x6 x7 x8 (some (.own false (hB C S))) x10 x11 x12,by simp[L3.intsFrom,cA],_,_,rfl⟩
 | k+1,i,t,S,now,x6,x7,n,o,p,q,c,s,d=>by obtain⟨f,g,a,h,e,j,l1,u,v,w⟩:=qu (C:=C) (z:=z) (DD:=DD) (x8:=x8) (x10:=x10) (x11:=x11) (x12:=x12) (t:=t) (x6:=some (.dat (.int i))) (x7:=x7) b (by omega) p (by omega) ⟨c,by omega⟩ d;obtain⟨U,l,m⟩:=lF b k (i+1) (t:=f) (S:=g) (now:=a) (x6:=some (.dat (.int i))) (x7:=h) (by omega) j (by omega) (by omega) (by omega) (by omega);refine⟨U,?_,m⟩;rw[mw,cA,<-l];simp[e]
end
theorem qv{f:FM}{d:PyData}{b:Bx}{g i j k l m n o a c e:Option aj}(h:f [.dat d]=.rt (.own false b) []):gu 9 (aI f (al (xV 8) aC)) [g,i,j,k,l,m,n,o,some (.dat d),none,a,c,e]=.nx [g,i,j,k,l,m,n,o,some (.dat d),some (.own false b),a,c,e]:=by simp[h]
theorem mE{f:FM}{d:PyData}{b:Bx}{e g i j k l m n o a c:Option aj}(h:f [.dat d]=.rt (.own false b) []):gu 10 (aI f (al (xV 8) aC)) [e,g,i,j,k,l,m,n,some (.dat d),o,none,a,c]=.nx [e,g,i,j,k,l,m,n,some (.dat d),o,some (.own false b),a,c]:=by simp[h]
theorem qw{A:XM PyData}{d:PyData}{c e f g i j k l m n a b:Option aj}(h:A [c,e,f,g,i,j,k,l,m,n,a,none,b]=.ok d [c,e,f,g,i,j,k,l,m,n,a,none,b]):bA A (aF 11) [c,e,f,g,i,j,k,l,m,n,a,none,b]=.nx [c,e,f,g,i,j,k,l,m,n,a,some (.dat d),b]:=by simp[h]
theorem RY{A:XM PyData}{U:ao}(h:A U=.ok (.bool false) U):aZ A U=.ok false U:=by simp[h]
theorem zf:bQ [.int 8]=some (L3.intsFrom 0 8):=by kernel_rfl
theorem RZ{A B:XM Bool}{U:ao}(a:A U=.ok false U)(b:B U=.ok false U){s:SM}:bF (jP A B) s bG U=.nx U:=by simp[a,b]
theorem Sa{C:Addr}{h:List Int}(y:h.length<=63):CY C [.scr h]=.rt (.dat (.bool true)) []:=by
 have sz:1000<sizeLine:=by decide
 obtain⟨a,ss,t1,Q,z1,z2,z3,z4,l1⟩:=QE (ns:=h) (t:=[]) y (by simp);have R:iK a ss:=⟨z1,z2,z3,fun p hp=>by have:=z4 p hp;omega⟩
 simp only[List.length_nil] at l1;obtain⟨A,J,hd,dl,l2,h2⟩:=Rz (ns:=h) (t:=t1) y (by omega);obtain⟨k,k0,k1,h3⟩:=el (ns:=h) (t:=J) (many:=31) y (by omega) (by omega);have x:=Er (C:=C) (DC R) (EZ (ds:=A) dl hd) dl;rw[iS] at x;have lD:(A.map bH).length=A.length:=by simp
 generalize hZ:dc a ss=Z at Q x;generalize hD:A.map bH=i at h2 x lD;obtain⟨s,S,c,n4,u,w,e4,q,a0,l4,T,w1,q4⟩:=lC (C:=C) (z:=Z) (DD:=i) (x8:=none) (x9:=none) (x10:=none) (x11:=none) (x12:=none) y k.toNat 0 (t:=J++[.int 0]) (S:=dZ a ss A) (now:=0) (x6:=none) (x7:=none) (by simp;omega) (RD R dl fun d X=>⟨(hd d X).1,(hd d X).2⟩) (by omega) (by omega) (by omega);simp only[List.length_append,List.length_cons,List.length_nil] at l4;have q5:S.ds.length=A.length:=q4;have E:i.length=S.ds.length:=by omega
 have L:=RF (C:=C) q (by omega);have Y:=Fb (C:=C) (S:=S);obtain⟨D,M,sD⟩:=Fo (C:=C) (n:=S.ds.length) q.ok (fun m e=>by have:=q.la m e;omega) rfl;obtain⟨B,G,later,H,I,N,l5⟩:=lE (C:=C) (z:=Z) (DD:=i) (x8:=some (.dat (ix S))) (x9:=some (.own false (hB C S))) (x11:=some (.dat D)) (S:=S) (now:=c) y 8 0 (t:=s) (S3:=S) (later:=c) (x6:=u) (x7:=w) (by omega) q (by omega) T (by omega);obtain⟨j,j0,j1,h6⟩:=el (ns:=h) (t:=B) (many:=21) y (by omega) (by omega);obtain⟨U,e6,xr,rr,er⟩:=lF (C:=C) (z:=Z) (DD:=i) (x8:=some (.dat (ix S))) (x10:=some (.own false (hB C G))) (x11:=some (.dat D)) (x12:=some (.dat (.int later))) y j.toNat 0 (t:=B++[.int 0]) (S:=S) (now:=c) (x6:=H) (x7:=I) (by simp;omega) q (by omega) T (by omega) E;obtain⟨r,O⟩:∃r,ix S=.tuple r:=⟨_,rfl⟩
 rw[O] at L Y N e6;refine QQ (n:=12) ?_;unfold yz;simp only[List.replicate];refine gd (by simp[yi]<;>rfl) ?_;refine gd (by simp[yj,Q]<;>rfl) ?_;refine gd (by simp[yk,h2]<;>rfl) ?_;refine gd (by simp[yl,oX,nj,x]<;>rfl) ?_;refine gd (U':=dA C h J Z i (dZ a ss A) 0 none none none none none none none) (by simp[ym]<;>rfl) ?_;refine gd (U':=dA C h s Z i S c u w none none none none none) (by
  rw[<-e4];simp[yn,h3,show -4611686018427387904<=k by omega,show k<4611686018427387904 by omega]) ?_
 refine gd (U':=dA C h s Z i S c u w (some (.dat (.tuple r))) none none none none) (by simp[yo,cD,bJ,Y]) ?_;refine gd (U':=dA C h s Z i S c u w (some (.dat (.tuple r))) (some (.own false (hB C S))) none none none) (by unfold yp;exact qv L) ?_;refine gd (U':=dA C h s Z i S c u w (some (.dat (.tuple r))) (some (.own false (hB C S))) (some (.own false (hB C S))) none none) (by unfold yq;exact mE L) ?_;refine gd (U':=dA C h s Z i S c u w (some (.dat (.tuple r))) (some (.own false (hB C S))) (some (.own false (hB C S))) (some (.dat D)) none) (by
  unfold yr;have e:=mD (f:=iO C) (b:=hB C S) (z0:=some (.scr h)) (z1:=some (.own false (.l s))) (z2:=some (.dat Z)) (z5:=some (.dat (.int c))) (z6:=u) (z7:=w) (z8:=some (.dat (.tuple r))) (z9:=some (.own false (hB C S))) (z10:=some (.own false (hB C S))) (z11:=none) (z12:=none) E M;exact qw e) ?_
 refine gd (U':=dA C h s Z i S c u w (some (.dat (.tuple r))) (some (.own false (hB C S))) (some (.own false (hB C S))) (some (.dat D)) none) (by
  unfold yt;have e:=qt (f:=iO C) (b:=hB C S) (z0:=some (.scr h)) (z1:=some (.own false (.l s))) (z2:=some (.dat Z)) (z4:=some (.own false (hB C S))) (z5:=some (.dat (.int c))) (z6:=u) (z7:=w) (z8:=some (.dat (.tuple r))) (z10:=some (.own false (hB C S))) (z11:=some (.dat D)) (z12:=none) E M;refine RZ (by simp) ?_;have v:xV 11 (dA C h s Z i S c u w (some (.dat (.tuple r))) (some (.own false (hB C S))) (some (.own false (hB C S))) (some (.dat D)) none)=.ok D (dA C h s Z i S c u w (some (.dat (.tuple r))) (some (.own false (hB C S))) (some (.own false (hB C S))) (some (.dat D)) none):=by simp
  have o:=uZ (g:=aS true) e v (qe sD);exact RY o) ?_
 refine gd (U':=lB C h s Z i S c u w (some (.dat (.tuple r))) (some (.own false (hB C S))) S (some (.dat D)) c) (by simp[yu]) ?_;refine gd (U':=lB C h B Z i S c H I (some (.dat (.tuple r))) (some (.own false (hB C S))) G (some (.dat D)) later) (by
  unfold yv;have e:=zb (f:=bQ) (a:=xC (.int 8)) (U:=lB C h s Z i S c u w (some (.dat (.tuple r))) (some (.own false (hB C S))) S (some (.dat D)) c) rfl zf;generalize eA bQ (aq (xC (.int 8)) aP)=II at e ⊢;generalize L3.intsFrom 0 8=V at e N;simp[e,N]) ?_
 refine gd (U':=lB C h B Z i S c H I (some (.dat (.tuple r))) (some (.own false (hB C S))) G (some (.dat D)) later) (by
  unfold yw;have e:=mD (f:=iO C) (b:=hB C S) (z0:=some (.scr h)) (z1:=some (.own false (.l B))) (z2:=some (.dat Z)) (z5:=some (.dat (.int c))) (z6:=H) (z7:=I) (z8:=some (.dat (.tuple r))) (z9:=some (.own false (hB C S))) (z10:=some (.own false (hB C G))) (z11:=some (.dat D)) (z12:=some (.dat (.int later))) E M;exact ze (uZ e (by simp) (qe sD))) ?_
 refine gd (U':=U) (by
  rw[<-e6];simp[yx,h6,show -4611686018427387904<=j by omega,show j<4611686018427387904 by omega]) ?_
 subst er;exact⟨xr,rr,by simp[yy]⟩
end K3
namespace K3
open PySem PySem.Spec L2 L2.L3 PyProof.Rows
theorem Sb{K:Frag}{j:Str->Option Value}{f:FM}{e:List V}{H:Hp}{Q:VK}{E:XK}(k:GH j H)(l:∀c:List Int,c.length<=63->f [.scr c]=.rt (.dat (.bool true)) [])(h:∃a c,e=[.ref a]/\iY K H a c/\∀d,Q (.bl true) d):be K j f e H Q E:=by obtain⟨a,c,rfl,g,q⟩:=h;refine⟨k,[.scr c],[[]],[],.oth (fun _ z=>by cases z) (fun _ _ z=>by cases z) ⟨a,rfl,g⟩ .nil,List.nodup_nil,fun b n=>by simp at n,?_⟩;rw[l c g.1];intro v d o i m _ _;rw[show v=.bl true from DV.bl_inv m];exact q d
noncomputable def zg(K:Frag):Sp:=fun b H Q _=>∃a d,b=[.ref a]/\iY K H a d/\∀c,Q (.bl true) c
abbrev LK(K:Frag)(f:Addr)(a:Value)(b:Option Addr)(n q:Str)(s:Stmt)(k d p:Value)(e:Option Addr)(c t:Value)(l:Array (Option Value)):Prop:=K.lookup f=some ⟨a,b,.func (fnOf n q (jG s) (iB s) (bf s) .none k d p e c t),l⟩
abbrev NI(K:Frag)(n:Str)(f:Addr):Prop:=nsIn K mainGlobals n=some (some (.ref f))
abbrev NV(K:Frag)(n:Str)(i:Int)(t:Tok):Prop:=nsIn K mainGlobals n=some (some (.int i t))
abbrev NZ(K:Frag)(n:Str):Prop:=nsIn K mainGlobals n=some none
abbrev KI(K:Frag)(f:Addr):Prop:=keepIn K (.ref f)=true
local macro_rules | `(tactic| walk_at "b")=>`(tactic| first|(exact(fun _ _ _ _ _ _ us hl=>match us,hl with | [_],_=>rfl))|(exact(fun _ _ _ _ _ _ us hl=>match us,hl with | [_,_],_=>rfl))|(exact(fun _ _ _ _ _ _ us hl=>match us,hl with | [_,_,_],_=>rfl))|(exact(fun _ _ _ _ _ _ us hl=>match us,hl with | [_,_,_,_],_=>rfl))|(exact(fun _ _ _ _ _ _ us hl=>match us,hl with | [_,_,_,_,_],_=>rfl)))
theorem all_mk{l:PySem.W.OpenLaw}{w:World}{K:Frag}{h:Heap}{mg:Str->Option Value}{fa:Addr}(X:K.In h)(G:h.Ns mainGlobals mg)(b2:mg "law" = some (.ref fa))
  {a:Addr}
  {f:Addr}{I u:Option Addr}{J:Array (Option Value)}{L x y z g A:Value}
  {b3 b4 b5 b6 b7 b8 M b9 c0 c1 c2 N O R S:Tok}
  {D_:Addr}
  (p:NI K "Hall" a)
  (l0:DF K "is_whole" sT)
  (l1:DF K "is_tuple_of" sU)
  (l2:DF K "is_ahead" sV)
  (l3:DF K "is_moment" sW)
  (l4:DF K "is_runner" sX)
  (l5:DF K "is_term" sY)
  (l6:DF K "are_shifts" sZ)
  (l7:DF K "is_zone" tf)
  (l8:DF K "has_word" tj)
  (l9:DF K "is_plan" tm)
  (c3:DF K "is_late" tp)
  (c4:DF K "is_deed" tq)
  (c5:DF K "are_deeds" tt)
  (c6:DF K "check_zone" tu)
  (c7:DF K "check_moment" tw)
  (c8:DF K "check_count" tx)
  (c9:DF K "check_deeds" tz)
  (d0:DF K "check_runner" tE)
  (d1:DF K "check_term" tF)
  (d2:DF K "shown" tG)
  (d3:DF K "stretches" tH)
  (d4:DF K "is_ahead_of" tI)
  (d5:DF K "first_showing" tK)
  (d6:DF K "furthest_shown" tL)
  (d7:DF K "first_day" tM)
  (d8:DF K "daily_time" tN)
  (d9:DF K "time_of" tO)
  (e0:DF K "times_by" tP)
  (e1:DF K "is_left_out" tQ)
  (e2:MF K a "__init__" "Hall.__init__" tR)
  (e3:MF K a "is_held" "Hall.is_held" tS)
  (e4:MF K a "check_call" "Hall.check_call" tT)
  (e5:MF K a "check_holder" "Hall.check_holder" tU)
  (e6:MF K a "take" "Hall.take" tV)
  (e7:MF K a "give" "Hall.give" tW)
  (e8:MF K a "add_row" "Hall.add_row" tY)
  (e9:MF K a "is_busy" "Hall.is_busy" tZ)
  (f0:MF K a "first_unsettled" "Hall.first_unsettled" ua)
  (f1:MF K a "step" "Hall.step" ub)
  (f2:MF K a "step_behind_a_fall" "Hall.step_behind_a_fall" uc)
  (f3:MF K a "step_ahead" "Hall.step_ahead" ud)
  (f4:MF K a "finish" "Hall.finish" ue)
  (f5:MF K a "state" "Hall.state" uf)
  (f6:MF K a "held" "Hall.held" ug)
  (f7:MF K a "log" "Hall.log" uh)
  (f8:MF K a "waiting" "Hall.waiting" ui)
  (f9:MF K a "saved" "Hall.saved" uj)
  (g0:DF K "woken" uk)
  (g1:DF K "_law_cell_at" um)
  (g2:DF K "_law_mixed" uo)
  (g3:DF K "_law_draw" uq)
  (g4:DF K "_law_pick" ur)
  (g5:DF K "_law_zone" uu)
  (g6:DF K "_law_plan" uv)
  (g7:DF K "_law_deeds" uw)
  (g8:DF K "_law_call" ux)
  (g9:DF K "_law_which" uy)
  (h0:DF K "_law_do" uz)
  (h1:DF K "_law_seen" uA)
  (U:NI K "law" f)
  (h2:LK K f L I "law" "law" kY x y z u g A J)
  (h3:codeIn K g "law" = true)
  (h4:KI K f)
  (h5:NV K "LAST_MOMENT" (9999) b3)
  (h6:NV K "LAST_COUNT" (9999) b4)
  (Y:NV K "LAST_HOUR" (23) b5)
  (h7:NV K "LEAST_AHEAD" (-12) b6)
  (h8:NV K "MOST_AHEAD" (14) b7)
  (h9:NV K "MOST_SHIFTS" (6) b8)
  (i0:NV K "MOST_STEP" (999) M)
  (i1:NV K "MOST_DEEDS" (6) b9)
  (i2:NV K "MOST_WITHIN" (999) c0)
  (i3:NV K "LAST_RUNNER" (3) c1)
  (Z:NV K "MOST_TERM" (99) c2)
  (i4:NV K "DAY_HOURS" (24) N)
  (a0:NV K "PLAN" (0) O)
  (a1:NV K "LATE" (1) R)
  (a2:NV K "AGAIN" (2) S)
  (i5:NZ K "ANY_ZONE")
  (i6:NZ K "NO_DEEDS")
  (i7:NZ K "ValueError")
  (a3:NZ K "all")
  (i8:NZ K "bool")
  (i9:NZ K "enumerate")
  (a4:NZ K "int")
  (j0:NZ K "isinstance")
  (j1:NZ K "len")
  (j2:NZ K "list")
  (a5:NZ K "max")
  (a6:NZ K "min")
  (j3:NZ K "range")
  (a7:NZ K "str")
  (j4:NZ K "tuple")
  (a8:NZ K "zip")
  (j5:plainGet K a Str.empty=true)
  (j6:PySem.W.hasDictIn K a=true)
  (j7:PySem.W.plainOver K a=true)
  (j8:findIn K (.ref a) "__setattr__" = some (some (.builtin "object.__setattr__")))
  (a9:PySem.W.makesIn K a=true)
  (b0:KI K a)
  (i:findIn K (.ref a) "begun" = some none)
  (j:findIn K (.ref a) "deeds" = some none)
  (d:findIn K (.ref a) "holder" = some none)
  (k:findIn K (.ref a) "holds" = some none)
  (q:findIn K (.ref a) "last" = some none)
  (r:findIn K (.ref a) "rows" = some none)
  (b:findIn K (.ref a) "settled" = some none)
  (m:findIn K (.ref a) "until" = some none)
  (n:findIn K (.ref a) "words" = some none)
  (t:findIn K (.ref a) "zone" = some none)
  (o:NI K "DueError" D_)
  (B:excIn K D_ oQ "ValueError.__new__" = true)
  (D:BW K D_ eB=true) :
  ∃fd:FuncData,(∀(s:Shared) (v:Value),BindsTo s fd ⟨[v],[]⟩ [("_law_script",v)])/\∀base:Heap,K.In base->base.Ns mainGlobals mg->az l.prog w K mg base (ba l.prog w) 10 fa fd ["_law_script"] (zg K):=by
 have e:=b2.symm.trans (mg_of X G U);cases e;have b1:=ou (st:=kY) h2 h3 h4;have j9:FD K mg "law" kY ["_law_script"] _ _:=⟨b1,mg_of X G U,b1.binds fun _ _ _ _ _ _=>dt fun _=>rfl⟩
 have HC:dF K mg a:={
  cl:=⟨j5,j6,j7,j8⟩
  mg:=mg_of X G p
  mks:=a9
  kpC:=b0
  d1y:=i
  d1z:=j
  d20:=d
  d21:=k
  d22:=q
  d23:=r
  d24:=b
  d25:=m
  d26:=n
  d27:=t
  d28:=e2.md fun _ _ _ _ _ _=>fm fun _ _ _=>rfl
  d29:=e3.md fun _ _ _ _ _ _=>gy fun _ _=>rfl
  d2a:=e4.md fun _ _ _ _ _ _=>fm fun _ _ _=>rfl
  d2b:=e5.md fun _ _ _ _ _ _=>fm fun _ _ _=>rfl
  d2c:=e6.md fun _ _ _ _ _ _=>xj fun _ _ _ _=>rfl
  d2d:=e7.md fun _ _ _ _ _ _=>fm fun _ _ _=>rfl
  d2e:=e8.md fun _ _ _ _ _ _=>gy fun _ _=>rfl
  d2f:=e9.md fun _ _ _ _ _ _=>dt fun _=>rfl
  d2g:=f0.md fun _ _ _ _ _ _=>dt fun _=>rfl
  d2h:=f1.md fun _ _ _ _ _ _=>fm fun _ _ _=>rfl
  d2i:=f2.md fun _ _ _ _ _ _=>fm fun _ _ _=>rfl
  d2j:=f3.md fun _ _ _ _ _ _=>fm fun _ _ _=>rfl
  d2k:=f4.md fun _ _ _ _ _ _=>fm fun _ _ _=>rfl
  d2l:=f5.md fun _ _ _ _ _ _=>fm fun _ _ _=>rfl
  d2m:=f6.md fun _ _ _ _ _ _=>dt fun _=>rfl
  d2n:=f7.md fun _ _ _ _ _ _=>dt fun _=>rfl
  d2o:=f8.md fun _ _ _ _ _ _=>dt fun _=>rfl
  d2p:=f9.md fun _ _ _ _ _ _=>dt fun _=>rfl
 }
 have T:Tx K mg:={
  d00:=l0.fd X G fun _ _ _ _ _ _=>fm fun _ _ _=>rfl
  d01:=l1.fd X G fun _ _ _ _ _ _=>gy fun _ _=>rfl
  d02:=l2.fd X G fun _ _ _ _ _ _=>dt fun _=>rfl
  d03:=l3.fd X G fun _ _ _ _ _ _=>dt fun _=>rfl
  d04:=l4.fd X G fun _ _ _ _ _ _=>dt fun _=>rfl
  d05:=l5.fd X G fun _ _ _ _ _ _=>dt fun _=>rfl
  d06:=l6.fd X G fun _ _ _ _ _ _=>dt fun _=>rfl
  d07:=l7.fd X G fun _ _ _ _ _ _=>dt fun _=>rfl
  d08:=l8.fd X G fun _ _ _ _ _ _=>fm fun _ _ _=>rfl
  d09:=l9.fd X G fun _ _ _ _ _ _=>dt fun _=>rfl
  d0a:=c3.fd X G fun _ _ _ _ _ _=>dt fun _=>rfl
  d0b:=c4.fd X G fun _ _ _ _ _ _=>dt fun _=>rfl
  d0c:=c5.fd X G fun _ _ _ _ _ _=>dt fun _=>rfl
  d0d:=c6.fd X G fun _ _ _ _ _ _=>dt fun _=>rfl
  d0e:=c7.fd X G fun _ _ _ _ _ _=>dt fun _=>rfl
  d0f:=c8.fd X G fun _ _ _ _ _ _=>dt fun _=>rfl
  d0g:=c9.fd X G fun _ _ _ _ _ _=>dt fun _=>rfl
  d0h:=d0.fd X G fun _ _ _ _ _ _=>dt fun _=>rfl
  d0i:=d1.fd X G fun _ _ _ _ _ _=>dt fun _=>rfl
  d0j:=d2.fd X G fun _ _ _ _ _ _=>gy fun _ _=>rfl
  d0k:=d3.fd X G fun _ _ _ _ _ _=>dt fun _=>rfl
  d0l:=d4.fd X G fun _ _ _ _ _ _=>gy fun _ _=>rfl
  d0m:=d5.fd X G fun _ _ _ _ _ _=>gy fun _ _=>rfl
  d0n:=d6.fd X G fun _ _ _ _ _ _=>gy fun _ _=>rfl
  d0o:=d7.fd X G fun _ _ _ _ _ _=>gy fun _ _=>rfl
  d0p:=d8.fd X G fun _ _ _ _ _ _=>fm fun _ _ _=>rfl
  d0q:=d9.fd X G fun _ _ _ _ _ _=>fm fun _ _ _=>rfl
  d0r:=e0.fd X G fun _ _ _ _ _ _=>fm fun _ _ _=>rfl
  d0s:=e1.fd X G fun _ _ _ _ _ _=>xj fun _ _ _ _=>rfl
  d0t:=g0.fd X G fun _ _ _ _ _ _=>dt fun _=>rfl
  d0u:=g1.fd X G fun _ _ _ _ _ _=>gy fun _ _=>rfl
  d0v:=g2.fd X G fun _ _ _ _ _ _=>fm fun _ _ _=>rfl
  d0w:=g3.fd X G fun _ _ _ _ _ _=>fm fun _ _ _=>rfl
  d0x:=g4.fd X G fun _ _ _ _ _ _=>fm fun _ _ _=>rfl
  d0y:=g5.fd X G fun _ _ _ _ _ _=>gy fun _ _=>rfl
  d0z:=g6.fd X G fun _ _ _ _ _ _=>gy fun _ _=>rfl
  d10:=g7.fd X G fun _ _ _ _ _ _=>gy fun _ _=>rfl
  d11:=g8.fd X G fun _ _ _ _ _ _=>xj fun _ _ _ _=>rfl
  d12:=g9.fd X G fun _ _ _ _ _ _=>dt fun _=>rfl
  d13:=h0.fd X G fun _ _ _ _ _ _=>gy fun _ _=>rfl
  d14:=h1.fd X G fun _ _ _ _ _ _=>gy fun _ _=>rfl
  d15:=⟨_,mg_of X G h5⟩
  d16:=⟨_,mg_of X G h6⟩
  d17:=⟨_,mg_of X G Y⟩
  d18:=⟨_,mg_of X G h7⟩
  d19:=⟨_,mg_of X G h8⟩
  d1a:=⟨_,mg_of X G h9⟩
  d1b:=⟨_,mg_of X G i0⟩
  d1c:=⟨_,mg_of X G i1⟩
  d1d:=⟨_,mg_of X G i2⟩
  d1e:=⟨_,mg_of X G i3⟩
  d1f:=⟨_,mg_of X G Z⟩
  d1g:=⟨_,mg_of X G i4⟩
  d1h:=⟨_,mg_of X G a0⟩
  d1i:=⟨_,mg_of X G a1⟩
  d1j:=⟨_,mg_of X G a2⟩
  d1k:=mg_none_of X G i7
  d1l:=mg_none_of X G a3
  d1m:=mg_none_of X G i8
  d1n:=mg_none_of X G i9
  d1o:=mg_none_of X G a4
  d1p:=mg_none_of X G j0
  d1q:=mg_none_of X G j1
  d1r:=mg_none_of X G j2
  d1s:=mg_none_of X G a5
  d1t:=mg_none_of X G a6
  d1u:=mg_none_of X G j3
  d1v:=mg_none_of X G a7
  d1w:=mg_none_of X G j4
  d1x:=mg_none_of X G a8
  xt0:=⟨D_,⟨⟨mg_of X G o,o,B⟩,D,fun c C e=>mg_of X G e⟩⟩
 }
 exact⟨fnOf "law" "law" (jG kY) (iB kY) (bf kY) .none x y z u g A,fun s v=>.of_eq rfl,fun base _ _=>(Qr _ _ _ T HC j9).imp fun vs H Q E h=>Sb (Og (mg_none_of X G i5) (mg_none_of X G i6) H) (fun ns hn=>Sa hn) h⟩
theorem law_walk{l:PySem.W.OpenLaw}{q:Program}{b:List Str}{j:(Str->Option Value)->Heap->Prop}{g:World->Heap->Prop}{d:DefRec}{K:Params->Frag}(m:l.most=some 63)(e:d.params.defaults=[])
  (p:∀(w:World) (h:Heap),g w h->(K w.params).In h)
  (F:∀(w:World) (c:Str->Option Value) (i:Addr) (h:Heap),(K w.params).In h->h.Ns mainGlobals c->c d.name=some (.ref i)->
   ∃fd:FuncData,(∀(s:Shared) (u:Value),BindsTo s fd ⟨[u],[]⟩ [("_law_script",u)])/\∀base:Heap,(K w.params).In base->base.Ns mainGlobals c->az l.prog w (K w.params) c base (ba l.prog w) 10 i fd ["_law_script"] (zg (K w.params))) :
  PySem.W.WalkO q b j g l.row.toRowW d [] (fun f r=>PySem.call f r):=by
 refine L2.walk_of (n:=63) (k:=10) (x:="_law_script") (CX:=fun w=>ba l.prog w) (sp:=fun w=>zg (K w.params)) m (by decide) e ⟨rfl,by decide,by decide⟩ p F (fun w H a A t v y=>?hsp) fun _ _ _ _ _ ⟨_,_,_,_,_,_,_,_,_,z⟩=>z;refine⟨a,A,rfl,⟨t,?_⟩,fun _=>rfl⟩;rcases y with(h1 | h1) | h1
 ·rcases v a with h2 | ⟨o,B,h2⟩
  ·rw[h2] at h1;cases h1
  ·rw[h2] at h1;cases h1
 ·exact .inl h1
 ·exact .inr h1
end K3
namespace PySem.W.Fast
def tw11762388191273764069:=()
def tw16755750190692892158:=()
def tw5824210117446899079:=()
def tw12030255926908478466:=()
def tw17808396206556948192:=()
def tw16376945400768015438:=()
def tw2584589316607545685:=()
def tw12245119254424773189:=()
def tw17195440143436650851:=()
def tw965783793329305509:=()
def tw8856939139296998813:=()
def tw14406029228968418355:=()
def tw373391972214242695:=()
def tw7533032037528339662:=()
def tw5840815815886703949:=()
def tw7147651369551953641:=()
def tw4327991846639568802:=()
def tw395380467042467060:=()
def tw10849392128749816221:=()
def tw2029064567868262919:=()
def tw14147961976783447480:=()
def tw12669632408505276266:=()
def tw15403549779898251258:=()
def tw3476707120867387658:=()
def tw13610730754540014158:=()
def tw5616958746650323306:=()
def tw1091458157685483674:=()
def tw8218074237973276625:=()
def tw9503408841506186400:=()
def tw6955031058743101145:=()
def tw18131810876806645247:=()
def tw13317287235621932908:=()
def tw9381404131507752659:=()
def tw14414879671173678759:=()
def tw7660188153982956025:=()
def tw9517091637673965942:=()
def tw11946658084313429948:=()
def tw7055930842678254284:=()
def tw15867891168932813020:=()
def tw3143037564390024722:=()
def tw12728998219058162302:=()
def tw12106391164693017846:=()
def tw13009312385196048194:=()
def tw17253100516865225264:=()
def tw10300955565834195664:=()
def tw2788146698460288793:=()
def tw2258085256322938326:=()
def tw7377741538843254067:=()
def tw10100840424802861908:=()
def tw1011213694894966011:=()
def tw10474679783123576624:=()
def tw10596267566250271507:=()
def tw10797249161209799612:=()
def tw10947416950160702892:=()
def tw11180093021290965844:=()
def tw11254885492328971347:=()
def tw11295058990738062564:=()
def tw11466419157530345291:=()
def tw11526685338787503583:=()
def tw11687191330105899868:=()
def tw11983141809017139534:=()
def tw12268876682467681312:=()
def tw12420935887403004763:=()
def tw12483592214881013321:=()
def tw12484455232364125381:=()
def tw1265941906729427054:=()
def tw12693400532166405025:=()
def tw12892316152687991855:=()
def tw12971869434568423464:=()
def tw13094798787452359965:=()
def tw13393275877038193765:=()
def tw13536221102360219014:=()
def tw13870174003660629745:=()
def tw13910318998199667018:=()
def tw13987127650584184941:=()
def tw14095628728404650583:=()
def tw14330890640147443784:=()
def tw14515564202680621389:=()
def tw14614735710731571009:=()
def tw14674762504302360312:=()
def tw14705902805887136046:=()
def tw14822307134032100778:=()
def tw14853840593736325614:=()
def tw1499585931936020006:=()
def tw1501861450773102634:=()
def tw15071595388984263728:=()
def tw15076803092567565277:=()
def tw1512356726543399489:=()
def tw15166920089552252007:=()
def tw15451764229169296063:=()
def tw15661596072894329173:=()
def tw16084240310248785617:=()
def tw16125887408542905273:=()
def tw16136958832932290389:=()
def tw16467030675167713731:=()
def tw16792726058344148746:=()
def tw17081774407083978319:=()
def tw1726853280710999124:=()
def tw17304717789632042672:=()
def tw17447281868575051457:=()
def tw17605256824784671889:=()
def tw17877283995164667448:=()
def tw18017804451663994051:=()
def tw18117712308814361042:=()
def tw18196548341575447399:=()
def tw1995525233360798337:=()
def tw2036905192421633749:=()
def tw21595080482921479:=()
def tw2296177977269580421:=()
def tw236600142863697422:=()
def tw2604739808103984488:=()
def tw2808961982508546161:=()
def tw2840513181750483486:=()
def tw2856164234670226414:=()
def tw3127535160061978447:=()
def tw330791463147876706:=()
def tw3471308607962446185:=()
def tw3509152318466800195:=()
def tw3527950035003337377:=()
def tw3528030626549360950:=()
def tw3790932317194649110:=()
def tw3814512329567042237:=()
def tw3900888766531790709:=()
def tw3924178078158809209:=()
def tw4055313765796589044:=()
def tw4077466852315084344:=()
def tw4174265478363668192:=()
def tw4273707936636414144:=()
def tw4344054250657574784:=()
def tw4386446295865205731:=()
def tw4869944400720895288:=()
def tw5083224255481684485:=()
def tw5100770263820975783:=()
def tw52600908532853356:=()
def tw5473846720707650123:=()
def tw5603263369449615084:=()
def tw5708539061954804499:=()
def tw5716565934747501439:=()
def tw5863391445280007314:=()
def tw6235191221326493399:=()
def tw6298364791946951607:=()
def tw6560403373567802291:=()
def tw7086435403850749009:=()
def tw7480758494823671522:=()
def tw7676937050607871554:=()
def tw7807539541152524373:=()
def tw8154994895096527225:=()
def tw8362618000471108177:=()
def tw8428746211931601596:=()
def tw8669513287148910517:=()
def tw874159688422955028:=()
def tw9013104670829453525:=()
def tw9044223075642354365:=()
def tw9230333958122689275:=()
def tw9439218522532385813:=()
def tw9550431549305243371:=()
def tw9673952209887306243:=()
def tw9692300770731365773:=()
def tw9823575035235061629:=()
end PySem.W.Fast
open PySem PySem.W PyProof.Rows
set_option maxRecDepth 100000 in
set_option maxHeartbeats 0 in
theorem PySem.Challenge.cw_duehall_k10_whole_saved_holds : PySem.Challenge.rw_duehall_k10_whole_saved.Holds := by
  w_on;o_law;k_head;(case hw => w_witness2)
  k_fill
  refine K3.law_walk (l := PySem.Challenge.rw_duehall_k10_whole_saved) rfl rfl (fun w h Y => PySem.W.kIn_of Y) ?F
  case F =>
    intro w mg fa h KX G hmg
    refine' K3.all_mk KX G hmg ?a_Hall ?l0 ?l1 ?l2 ?l3 ?l4 ?l5 ?l6 ?l7 ?l8 ?l9 ?l10 ?l11 ?l12 ?l13 ?l14 ?l15 ?l16 ?l17 ?l18 ?l19 ?l20 ?l21 ?l22 ?l23 ?l24 ?l25 ?l26 ?l27 ?l28 ?l29 ?l30 ?l31 ?l32 ?l33 ?l34 ?l35 ?l36 ?l37 ?l38 ?l39 ?l40 ?l41 ?l42 ?l43 ?l44 ?l45 ?l46 ?l47 ?l48 ?l49 ?l50 ?l51 ?l52 ?l53 ?l54 ?l55 ?l56 ?l57 ?l58 ?a59 ?l59 ?c59 ?k59 ?v3_ ?v6_ ?v11_ ?v2_ ?v5_ ?v4_ ?v8_ ?v7_ ?v1_ ?v0_ ?v10_ ?v9_ ?v13_ ?v14_ ?v12_ ?z3_ ?z4_ ?z1_ ?z11_ ?z8_ ?z2_ ?z13_ ?z0_ ?z9_ ?z7_ ?z12_ ?z14_ ?z6_ ?z10_ ?z5_ ?z15_ ?pg_ ?hd_ ?po_ ?sa_ ?mks_ ?kpC_ ?n_begun ?n_deeds ?n_holder ?n_holds ?n_last ?n_rows ?n_settled ?n_until ?n_words ?n_zone ?a_Due ?x_Due ?x_tab
    (case a_Hall => (first | unfold K3.LK | unfold K3.NI | unfold K3.NV | unfold K3.NZ | unfold K3.KI | skip);k_is)
    (case l0|l1|l2|l3|l4|l5|l6|l7|l8|l9|l10|l11|l12|l13|l14|l15|l16|l17|l18|l19|l20|l21|l22|l23|l24|l25|l26|l27|l28|l47|l48|l49|l50|l51|l52|l53|l54|l55|l56|l57|l58 => exact⟨_,_,_,_,_,_,_,_,_,_,by k_is,by k_is,by k_is,by k_is⟩)
    (case l29|l30|l31|l32|l33|l34|l35|l36|l37|l38|l39|l40|l41|l42|l43|l44|l45|l46 => exact⟨_,_,_,_,_,_,_,_,_,_,by k_is,by k_is,by k_is,by k_is,by k_is⟩)
    (case a59|l59|c59|k59|v3_|v6_|v11_|v2_|v5_|v4_|v8_|v7_|v1_|v0_|v10_|v9_|v13_|v14_|v12_|z3_|z4_|z1_|z11_|z8_|z2_|z13_|z0_|z9_|z7_|z12_|z14_|z6_|z10_|z5_|z15_|pg_|hd_|po_|sa_|mks_|kpC_|n_begun|n_deeds|n_holder|n_holds|n_last|n_rows|n_settled|n_until|n_words|n_zone|a_Due => (first | unfold K3.LK | unfold K3.NI | unfold K3.NV | unfold K3.NZ | unfold K3.KI | skip);k_is)
    (case x_Due|x_tab => first | kernel_rfl | rfl)
