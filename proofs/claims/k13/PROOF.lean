import PyProof.Rows.All
import Wide.All
import OpenK.AllK
import Wide.FinOn
import Lean
import PyProof.EqAt
import PyProof.EqKinds
import PyProof.TupleCall
import PySem.Challenge.RW_duehall_k13_runs
set_option Elab.async false
set_option linter.all false
set_option maxRecDepth 100000
theorem aw:type_of% @PySem.wpAny_bind:=@PySem.wpAny_bind
theorem bo:type_of% @PySem.wpAny_pure:=@PySem.wpAny_pure
theorem bv:type_of% @PySem.Heap.get?_push_of_some:=@PySem.Heap.get?_push_of_some
theorem bq:type_of% @PySem.Heap.lt_size:=@PySem.Heap.lt_size
theorem bG:type_of% @Nat.le_refl:=@Nat.le_refl
theorem bb:type_of% @List.mem_append_right:=@List.mem_append_right
theorem bf:type_of% @List.mem_append_left:=@List.mem_append_left
theorem bN:type_of% @List.mem_cons_of_mem:=@List.mem_cons_of_mem
open PySem.W (instObj hideAll hideAll_get Frag plainGet findIn emptyDict keepIn mroIn kitOne kia_one fnOf codeIn nsIn excIn clsIn mg_of mg_none_of)
namespace L2
open PySem PySem.Spec PyProof.Rows
noncomputable abbrev bd:=Sum Int Str
noncomputable def lW:bd->Value->Bool
 | .inl k,v=>Value.isInt k v
 | .inr x,v=>Value.isStrOf x v
noncomputable def Et(w:World):bd->Int
 | .inl k=>hashInt k
 | .inr x=>hashStr w x
theorem jn:∀{k:bd}{v:Value},lW k v=true->(∃i t,k=Sum.inl i/\v=Value.int i t)\/(∃x t,k=Sum.inr x/\v=Value.str x t)
 | .inl i,v,h=>by obtain⟨t,e⟩:=Value.isInt_shape (k:=i) (v:=v) h;exact .inl ⟨i,t,rfl,e⟩
 | .inr x,v,h=>by obtain⟨t,e⟩:=Value.isStrOf_shape (x:=x) (v:=v) h;exact .inr ⟨x,t,rfl,e⟩
theorem Eu(i:Int)(t:Tok):lW (.inl i) (.int i t)=true:=by simp[lW,Value.isInt]
theorem Ev(x:Str)(t:Tok):lW (.inr x) (.str x t)=true:=by simp[lW,Value.isStrOf]
theorem Ew(a b:Int):decide ((Sum.inl a:bd)=Sum.inl b)=(a==b):=by
 by_cases e:a=b
 ·subst e;simp
 ·have h:¬ (Sum.inl a:bd)=Sum.inl b:=fun q=>e (Sum.inl.inj q);rw[decide_eq_false h];exact(beq_eq_false_iff_ne.mpr e).symm
theorem Ex(a b:Str):decide ((Sum.inr a:bd)=Sum.inr b)=decide (a=b):=by
 by_cases e:a=b
 ·subst e;simp
 ·have h:¬ (Sum.inr a:bd)=Sum.inr b:=fun q=>e (Sum.inr.inj q);rw[decide_eq_false h,decide_eq_false e]
theorem Ey(a:Int)(b:Str):decide ((Sum.inl a:bd)=Sum.inr b)=false:=decide_eq_false (fun q=>nomatch q)
theorem Ez(a:Str)(b:Int):decide ((Sum.inr a:bd)=Sum.inl b)=false:=decide_eq_false (fun q=>nomatch q)
noncomputable def gn(prog:Program)(w:World):PySem.KeyKind prog w bd where
 is:=lW
 hash:=Et w
 inj:=fun v a b ha hb=>by
  rcases jn ha with⟨i,t,rfl,rfl⟩ | ⟨x,t,rfl,rfl⟩
  ·rcases jn hb with⟨j,u,rfl,e⟩ | ⟨y,u,rfl,e⟩
   ·injection e with e1 _;rw[e1]
   ·exact nomatch e
  ·rcases jn hb with⟨j,u,rfl,e⟩ | ⟨y,u,rfl,e⟩
   ·exact nomatch e
   ·injection e with e1 _;rw[e1]
 byValue:=fun k v h=>by rcases jn h with⟨i,t,rfl,rfl⟩ | ⟨x,t,rfl,rfl⟩<;>rfl
 pyHash:=fun hv h=>by
  rcases jn hv with⟨i,t,rfl,rfl⟩ | ⟨x,t,rfl,rfl⟩
  ·exact wpAny_pyHash_int h
  ·exact wpAny_pyHash_str h
 eqBool:=fun hu hv h=>by
  rcases jn hu with⟨i,t,rfl,rfl⟩ | ⟨x,t,rfl,rfl⟩
  ·rcases jn hv with⟨j,u,rfl,rfl⟩ | ⟨y,u,rfl,rfl⟩
   ·rw[Ew] at h;exact wpAny_eqBool_int h
   ·rw[Ey] at h;exact SeqAt.EqAt.int_str i t y u _ _ _ _ h
  ·rcases jn hv with⟨j,u,rfl,rfl⟩ | ⟨y,u,rfl,rfl⟩
   ·rw[Ez] at h;exact SeqAt.EqAt.str_int x t j u _ _ _ _ h
   ·rw[Ex] at h;exact wpAny_eqBool_str h
 «strs»:=fun k x t v h=>by
  rcases jn h with⟨i,u,rfl,e⟩ | ⟨y,u,rfl,e⟩
  ·exact nomatch e
  ·injection e with e1 _
   subst e1;cases v<;>rfl
theorem EA(a:Program)(w:World)(i:Int)(t:Tok):(gn a w).is (.inl i) (.int i t)=true:=Eu i t
theorem EB(a:Program)(w:World)(x:Str)(t:Tok):(gn a w).is (.inr x) (.str x t)=true:=Ev x t
inductive V where
 | non | bl (b:Bool) | int (i:Int) | str (x:Str) | byt (b:Array UInt8) | flt (b:UInt64) | ref (a:Addr) | ty (n:String)
 deriving DecidableEq
noncomputable def bn:V->Value->Prop
 | .non,u=>u=Value.none
 | .bl b,u=>u=Value.bool b
 | .int i,u=>∃t,u=Value.int i t
 | .str x,u=>∃t,u=Value.str x t
 | .byt b,u=>∃t,u=Value.bytes b t
 | .flt b,u=>∃t,u=Value.float b t
 | .ref a,u=>u=Value.ref a
 | .ty n,u=>u=Value.type n
noncomputable abbrev bh:List V->List Value->Prop:=Paired bn
theorem bh.length{a:List V}{b:List Value}(r:bh a b):a.length=b.length:=Paired.length r
theorem bh.get:∀{a:List V}{b:List Value}{i:Nat}{x:V},bh a b->a[i]? = some x->∃u,b[i]? = some u/\bn x u
 | _,_,_,_,.nil,e=>by simp at e
 | _,_,0,_,.cons r _,e=>by simp at e;subst e;exact⟨_,rfl,r⟩
 | _,_,i+1,x,.cons _ t,e=>by obtain⟨u,h1,h2⟩:=bh.get (i:=i) (x:=x) t (by simpa using e);exact⟨u,by simpa using h1,h2⟩
theorem bh.set{x:V}{u:Value}(r:bn x u):∀{a:List V}{b:List Value}(i:Nat),bh a b->bh (a.set i x) (b.set i u)
 | _,_,_,.nil=>.nil
 | _,_,0,.cons _ t=>.cons r t
 | _,_,i+1,.cons q t=>.cons q (bh.set r i t)
theorem bh.append:∀{a b:List V}{c d:List Value},bh a c->bh b d->bh (a++b) (c++d)
 | _,_,_,_,.nil,s=>s
 | _,_,_,_,.cons r t,s=>.cons r (bh.append t s)
theorem bh.take:∀{a:List V}{b:List Value}(n:Nat),bh a b->bh (a.take n) (b.take n)
 | _,_,0,_=>.nil
 | _,_,_+1,.nil=>.nil
 | _,_,n+1,.cons r t=>.cons r (bh.take n t)
theorem bh.drop:∀{a:List V}{b:List Value}(n:Nat),bh a b->bh (a.drop n) (b.drop n)
 | _,_,0,r=>r
 | _,_,_+1,.nil=>.nil
 | _,_,n+1,.cons _ t=>bh.drop n t
noncomputable def gp:Option V->Option Value->Prop
 | some v,some u=>bn v u
 | none,none=>True
 | _,_=>False
noncomputable def KV{κ:Type}:List (κ×V)->List (κ×Value)->Prop:=Paired fun(p:κ×V) (q:κ×Value)=>p.1=q.1/\bn p.2 q.2
noncomputable def kV:bd->V
 | .inl i=>.int i
 | .inr x=>.str x
inductive HO where
 | lst (xs:List V)
 | tup (xs:List V)
 | dK (kvs:List (bd×V)) | dT (kvs:List (List bd×V))
 | set (S:Int->Bool) (n:Nat)
 | ins (C dx:Addr) (fs:List (Str×V))
 | own (x:Addr)
 | xd (fs:List (Str×V))
 | met (f x:Addr)
 | rng (lo hi:Int)
 | frz (o:Obj) (u:HO)
 | tbl (ps:Array Value)
 | ext (φ:Heap->Prop)
noncomputable abbrev Hp:=Addr->Option HO
noncomputable def aM(H:Hp)(a:Addr)(o:HO):Hp:=fun b=>if b=a then some o else H b
theorem cj{H:Hp}{a:Addr}{o:HO}:aM H a o a=some o:=by unfold aM;rw[if_pos rfl]
theorem bi{H:Hp}{a b:Addr}{o:HO}(h:b≠a):aM H a o b=H b:=by unfold aM;rw[if_neg h]
theorem ED{H:Hp}{a b:Addr}{o u:HO}(h:H a=some o)(c:H b=some u)(d:o≠u):a≠b:=by intro e;subst e;rw[h] at c;exact d (Option.some.inj c)
theorem eV{H:Hp}{a b:Addr}{o:HO}(h:H a=some o)(c:H b=none):a≠b:=by intro e;subst e;rw[h] at c;cases c
section
variable(P:Program)(w:World)
noncomputable def cq(H:Hp)(h:Heap)(a:Addr):HO->Prop
 | .lst d=>d.length<=sizeLine/\∃(b:List Value) (n:Nat),bh d b/\h.get? a=some { cls:=.type "list",data:=.seq b.toArray n }
 | .tup d=>d.length<=sizeLine/\∃b:List Value,bh d b/\IsTup h a b.toArray
 | .dK c=>c.length<=sizeLine/\(a==sysModules)=false/\∃i,KV c i/\h.DictOf (gn P w) a i
 | .dT c=>c.length<=sizeLine/\(a==sysModules)=false/\∃d:List (List bd×Addr×Value),
   Paired (fun(p:List bd×V) (q:List bd×Addr×Value)=>p.1=q.1/\H q.2.1=some (.tup (p.1.map kV))/\bn p.2 q.2.2) c d/\
   ∃o j m,h.get? a=some o/\o.ExactDict/\o.data=.dict j m/\j.toList=d.map (entryOfKey (tupleKind (gn P w)))/\(d.map (·.1)).Nodup
 | .set S n=>h.SetOf (intKind P w) a S n
 | .ins C g fs=>H g=some (.own a)/\fs.length<=1000/\g≠a/\h.get? a=some (instObj C g)/\
   ∃e,h.Ns1 g e/\(∀f,gp (fs.lookup f) (e f))/\PySem.Within e (fs.map (·.1))
 | .own _=>∃o,h.get? a=some o
 | .xd fs=>∃e,h.Ns1 a e/\∀f,gp (fs.lookup f) (e f)
 | .rng lo r=>∃t u v,h.get? a=some { cls:=.type "range",data:=.fields #[.int lo t,.int r u,.int 1 v] }
 | .frz o u=>h.get? a=some o/\cq H h a u
 | .tbl s=>h.get? a=some { cls:=.none,data:=.fields s }
 | .met f x=>h.get? a=some (PySem.W.methodObj (.ref f) (.ref x))
 | .ext φ=>φ h/\(∃o,h.get? a=some o)/\∀k l:Heap,φ k->(∀o,k.get? a=some o->l.get? a=some o)->φ l
def HOk(H:Hp)(h:Heap):Prop:=∀a o,H a=some o->cq P w H h a o
end
section
variable{P:Program}{w:World}{H Z:Hp}{h h':Heap}{a:Addr}{o:HO}
theorem cq.lt(x:cq P w H h a o):a<h.objs.size:=by
 cases o with
 | lst c=>obtain⟨_,_,_,_,e⟩:=x;exact bq e
 | tup c=>obtain⟨_,_,_,p⟩:=x;exact p.lt
 | dK b=>obtain⟨_,_,_,_,o,_,_,e,_⟩:=x;exact bq e
 | dT b=>obtain⟨_,_,_,_,o,_,_,e,_⟩:=x;exact bq e
 | set S n=>obtain⟨o,_,_,_,e,_⟩:=x;exact bq e
 | ins C d fs=>obtain⟨_,_,_,e,_⟩:=x;exact bq e
 | own y=>obtain⟨_,e⟩:=x;exact bq e
 | xd fs=>obtain⟨_,⟨_,_,_,e,_⟩,_⟩:=x;exact bq e
 | rng lo g=>obtain⟨_,_,_,e⟩:=x;exact bq e
 | frz ob u=>obtain⟨e,_⟩:=x;exact bq e
 | tbl i=>exact bq (show h.get? a=some _ from x)
 | met f y=>exact bq (show h.get? a=some _ from x)
 | ext φ=>obtain⟨_,⟨_,e⟩,_⟩:=x;exact bq e
theorem Paired.mapP{α β:Type}{F G:α->β->Prop}:∀{c:List α}{d:List β},Paired F c d->(∀a b,F a b->G a b)->Paired G c d
 | _,_,.nil,_=>.nil
 | _,_,.cons r t,f=>.cons (f _ _ r) (Paired.mapP t f)
theorem cq.stay(x:cq P w H h a o)(k:∀b u,(b=a\/H b=some (.own a))->h.get? b=some u->h'.get? b=some u)
  (L:∀b,H b=some (.own a)->Z b=some (.own a)) (E:∀b m,H b=some (.tup m)->Z b=some (.tup m)):cq P w Z h' a o:=by
 induction o with
 | lst m=>obtain⟨z,l,n,r,e⟩:=x;exact⟨z,l,n,r,k _ _ (.inl rfl) e⟩
 | tup m=>obtain⟨z,l,r,g,e,c⟩:=x;exact⟨z,l,r,g,k _ _ (.inl rfl) e,c⟩
 | dK s=>obtain⟨z,y,G,r,g,i,j,e,c⟩:=x;exact⟨z,y,G,r,g,i,j,k _ _ (.inl rfl) e,c⟩
 | dT s=>obtain⟨z,y,m,r,g,i,j,e,c⟩:=x;exact⟨z,y,m,Paired.mapP r fun p q z=>⟨z.1,E _ _ z.2.1,z.2.2⟩,g,i,j,k _ _ (.inl rfl) e,c⟩
 | set S n=>obtain⟨g,i,j,t,e,c⟩:=x;exact⟨g,i,j,t,k _ _ (.inl rfl) e,c⟩
 | ins C M fs=>obtain⟨d,z,ne,e,A,⟨B,i,j,I,c⟩,r⟩:=x;exact⟨L _ d,z,ne,k _ _ (.inl rfl) e,A,⟨B,i,j,k _ _ (.inr d) I,c⟩,r⟩
 | own y=>obtain⟨g,e⟩:=x;exact⟨g,k _ _ (.inl rfl) e⟩
 | xd fs=>obtain⟨A,⟨B,i,j,e,c⟩,r⟩:=x;exact⟨A,⟨B,i,j,k _ _ (.inl rfl) e,c⟩,r⟩
 | rng lo N=>obtain⟨t,u,v,e⟩:=x;exact⟨t,u,v,k _ _ (.inl rfl) e⟩
 | frz g u J=>obtain⟨e,q⟩:=x;exact⟨k _ _ (.inl rfl) e,J q⟩
 | tbl D=>have e:h.get? a=some { cls:=.none,data:=.fields D }:=x;show h'.get? a=some { cls:=.none,data:=.fields D };exact k a _ (.inl rfl) e
 | met f y=>have e:h.get? a=some (PySem.W.methodObj (.ref f) (.ref y)):=x;show h'.get? a=some (PySem.W.methodObj (.ref f) (.ref y));exact k a _ (.inl rfl) e
 | ext φ=>obtain⟨p,⟨o,e⟩,st⟩:=x;exact⟨st _ _ p fun o q=>k _ _ (.inl rfl) q,⟨o,k _ _ (.inl rfl) e⟩,st⟩
theorem HOk.lt(x:HOk P w H h)(e:H a=some o):a<h.objs.size:=(x a o e).lt
theorem HOk.fresh(x:HOk P w H h)(e:h.objs.size<=a):H a=none:=by
 cases q:H a with
 | none=>rfl
 | some u=>exact absurd (Nat.lt_of_lt_of_le (x.lt q) e) (Nat.lt_irrefl _)
theorem HOk.kept(x:HOk P w H h)(k:∀b u,h.get? b=some u->h'.get? b=some u):HOk P w H h':=fun a o e=>(x a o e).stay (fun b u _ q=>k b u q) (fun _ q=>q) fun _ _ q=>q
theorem HOk.laid(x:HOk P w H h)(k:∀b u,h.get? b=some u->h'.get? b=some u)(f:h.objs.size<=a)(new:cq P w (aM H a o) h' a o):HOk P w (aM H a o) h':=fun b u e=>by
 have d:=x.fresh f
 by_cases hb:b=a
 ·subst hb;rw[cj] at e;cases e;exact new
 ·rw[bi hb] at e;exact(x b u e).stay (fun c v _ q=>k c v q) (fun c q=>by rw[bi (eV q d)];exact q) fun c g q=>by rw[bi (eV q d)];exact q
end
def Rd(H:Hp)(a:Addr)(u:HO):Prop:=H a=some u\/∃o,H a=some (.frz o u)
theorem Rd.ok{P:Program}{w:World}{H:Hp}{h:Heap}{a:Addr}{u:HO}(r:Rd H a u)(x:HOk P w H h):cq P w H h a u:=by
 rcases r with r | ⟨o,r⟩
 ·exact x a u r
 ·obtain⟨_,q⟩:=x a _ r;exact q
noncomputable def nG:Option HO->Prop
 | some (.lst _)=>True
 | some (.dK _)=>True
 | some (.dT _)=>True
 | some (.set _ _)=>True
 | some (.ins _ _ _)=>True
 | some (.ext _)=>True
 | _=>False
section
variable{P:Program}{w:World}{H:Hp}{h Y:Heap}{x e:Addr}{X:HO}
theorem HOk.write(ok:HOk P w H h)(g:nG (H x))(m:e=x\/H e=some (.own x))(k:∀b u,b≠e->h.get? b=some u->Y.get? b=some u)(l:∃u,Y.get? e=some u)
  (new:cq P w (aM H x X) Y x X):HOk P w (aM H x X) Y:=fun b u q=>by
 have d:∀c y,H c=some (.own y)->c≠x:=fun c y r z=>by subst z;rw[r] at g;exact g
 have f:∀c i,H c=some (.tup i)->c≠x:=fun c i r z=>by subst z;rw[r] at g;exact g
 by_cases hb:b=x
 ·subst hb;rw[cj] at q;cases q;exact new
 ·rw[bi hb] at q
  by_cases a:b=e
  ·have n:H b=some (.own x):=by
    rcases m with z | z
    ·exact absurd (a.trans z) hb
    ·rw[a];exact z
   rw[q] at n;cases n;obtain⟨v,o⟩:=l;exact⟨v,by rw[a];exact o⟩
  ·refine(ok b u q).stay (fun c v j r=>k c v ?_ r) (fun c r=>by rw[bi (d c b r)];exact r) fun c i r=>by rw[bi (f c i r)];exact r
   rcases j with rfl | j
   ·exact a
   ·rintro rfl;rcases m with z | z
    ·exact d c b j z
    ·rw[j] at z;cases z;exact hb rfl
end
structure Un (fs ex:List Addr) (H H':Hp) (h h':Heap):Prop where
 keep:∀b o,h.get? b=some o->H b=none->b∉fs->b∉ex->h'.get? b=some o
 slot:∀b o,h.get? b=some o->H b=none->b∈fs->b∉ex->∃sl,h'.get? b=some { o with slots:=sl }
 free:∀b o,h.get? b=some o->H b=none->b∉ex->H' b=none
 there:∀b o,h.get? b=some o->b∉ex->∃o',h'.get? b=some o'
 tups:∀b xs,H b=some (.tup xs)->H' b=some (.tup xs)
 frzs:∀b o u,H b=some (.frz o u)->H' b=some (.frz o u)
 tbls:∀b ps,H b=some (.tbl ps)->∃more,H' b=some (.tbl (ps++more))
section
variable{fs U ex T:List Addr}{H S R:Hp}{h h1 h2 h':Heap}{a x e:Addr}{o:HO}
theorem Un.any(u:Un fs ex H S h h1){b:Addr}{c:Obj}(q:h.get? b=some c)(n:H b=none)(d:b∉ex):∃f,h1.get? b=some { c with slots:=f }:=by
 by_cases hb:b∈fs
 ·exact u.slot b c q n hb d
 ·exact⟨c.slots,u.keep b c q n hb d⟩
theorem Un.kept(k:∀b u,h.get? b=some u->h'.get? b=some u):Un fs ex H H h h':=
 ⟨fun b c q _ _ _=>k b c q,fun b c q _ _ _=>⟨c.slots,k b c q⟩,fun _ _ _ n _=>n,fun b c q _=>⟨c,k b c q⟩,fun _ _ q=>q,fun _ _ _ q=>q,fun _ d q=>⟨#[],by rw[q];simp⟩⟩
theorem Un.refl:Un fs ex H H h h:=Un.kept fun _ _ q=>q
theorem Un.laid(k:∀b u,h.get? b=some u->h'.get? b=some u)(hp:h.objs.size<=a)(hn:H a=none):Un fs ex H (aM H a o) h h' where
 keep:=fun b u q _ _ _=>k b u q
 slot:=fun b u q _ _ _=>⟨u.slots,k b u q⟩
 free:=fun b u q n _=>by rw[bi (Nat.ne_of_lt (Nat.lt_of_lt_of_le (bq q) hp))];exact n
 there:=fun b u q _=>⟨u,k b u q⟩
 tups:=fun b xs q=>by rw[bi (eV q hn)];exact q
 frzs:=fun b u xs q=>by rw[bi (eV q hn)];exact q
 tbls:=fun b ps q=>⟨#[],by rw[bi (eV q hn),q];simp⟩
theorem Un.write(d:nG (H x))(j:e=x\/H e=some (.own x))(k:∀b u,b≠e->h.get? b=some u->h'.get? b=some u)(f:∃u,h'.get? e=some u):Un fs ex H (aM H x o) h h':=by
 have i:∀b,H b=none->b≠x:=fun b n z=>by subst z;rw[n] at d;exact d
 have hb:∀b,H b=none->b≠e:=fun b n z=>by
  subst z;rcases j with r | r
  ·exact i b n r
  ·rw[n] at r;cases r
 have g:∀b u,H b=some u->¬ nG (some u)->b≠x:=fun b u q l z=>by subst z;rw[q] at d;exact l d
 refine⟨fun b u q n _ _=>k b u (hb b n) q,fun b u q n _ _=>⟨u.slots,k b u (hb b n) q⟩,fun b u q n _=>by rw[bi (i b n)];exact n,fun b u q _=>?_,
  fun b m q=>by rw[bi (g b _ q fun z=>z)];exact q,fun b u m q=>by rw[bi (g b _ q fun z=>z)];exact q,fun b p q=>⟨#[],by rw[bi (g b _ q fun z=>z),q];simp⟩⟩
 by_cases c:b=e
 ·subst c;exact f
 ·exact⟨u,k b u c q⟩
end
noncomputable def pT(h:Heap)(H:Hp):List Addr:=(List.range h.objs.size).filter fun a=>(H a).isSome
noncomputable def jo(h:Heap)(H:Hp):Heap:=hideAll h (pT h H)
theorem EE(h:Heap)(H:Hp):(jo h H).objs.size=h.objs.size:=PySem.W.hideAll_size _ _
theorem EF{h:Heap}{H:Hp}{b:Addr}{o:Obj}(e:h.get? b=some o)(n:H b=none):(jo h H).get? b=some o:=
 hideAll_get _ e fun a=>by have q:(H b).isSome=true:=(List.mem_filter.mp a).2;rw[n] at q;simp at q
theorem EG{h:Heap}{H:Hp}{b:Addr}{o:Obj}(e:(jo h H).get? b=some o):h.get? b=some o/\H b=none:=by
 have a:h.get? b=some o:=PySem.W.of_hideAll (pT h H) e;refine⟨a,?_⟩;cases q:H b with
 | none=>rfl
 | some x=>have c:b∈pT h H:=List.mem_filter.mpr ⟨List.mem_range.mpr (bq a),by simp[q]⟩;have z:(jo h H).get? b=none:=PySem.W.hideAll_none (pT h H) c;rw[z] at e;cases e
structure Mod (K:Frag) (mg:Str->Option Value) (base:Heap):Prop where
 kin:K.In base
 glob:base.Ns mainGlobals mg
 blt:∃mb,base.Ns builtinsNs mb/\∀x:Str,x≠"__name__"->mb x=bootBuiltins x
 nolimit:base.NoLimit
structure Cx where
 prog:Program
 w:World
 K:Frag
 mg:Str->Option Value
 base:Heap
 A:Around
 N:List Str
 s₀:Shared
 H₀:Hp
 env:Env
 outer:List Env
 stack:List Env
 ex:List Addr
 fn:Str->Bool
 calm:Bool
 pn:List (Addr×Obj)
 xe:Value->Shared->Prop
noncomputable def bI(l:List Env):List Addr:=l.filterMap (·.frame)
noncomputable abbrev Cx.fs(X:Cx):List Addr:=bI X.outer
def pU(a:Scope)(x:Str):Prop:=a.names.lookup x=some .local\/a.names.lookup x=some .cell\/a.names.lookup x=some .free
def fQ(a:Scope)(x:Str):Prop:=a.names.lookup x=some .local\/a.names.lookup x=some .cell
def EH(a:Env)(h:Heap)(m:Str->Option Value)(x:Str)(u:Value):Prop:=
 (a.kindOf x=some .local/\m x=some u)\/((a.kindOf x=some .cell\/a.kindOf x=some .free)/\∃c,a.cells.lookup x=some c/\h.IsCell c (some u))
structure Cx.Ok (X:Cx):Prop where
 mod:Mod X.K X.mg X.base
 kind:X.env.scope.kind=.function
 glob:X.env.globals=mainGlobals
 blt:X.env.builtins=builtinsNs
 above:X.s₀.heap.objs.size<=X.env.locals
 inj:∀x y c,X.env.cells.lookup x=some c->X.env.cells.lookup y=some c->x=y
 has:∀x,(X.env.kindOf x=some .cell\/X.env.kindOf x=some .free)->∃c,X.env.cells.lookup x=some c
 cab:∀x c,X.fn x=true->X.env.cells.lookup x=some c->X.s₀.heap.objs.size<=c
 hd:X.calm=true->X.A.handled=none
 frames:X.A.frames=some X.stack
 stk:X.stack=X.outer\/(X.stack=X.env::X.outer/\X.env.frame=some X.env.locals)
 exf:∀b∈X.ex,b≠X.env.locals/\∀x c,X.env.cells.lookup x=some c->c≠b
 bs:∀b o,X.base.get? b=some o->X.s₀.heap.get? b=some o/\X.H₀ b=none
 bsz:X.base.objs.size<=X.s₀.heap.objs.size
 noex:∀b o,X.base.get? b=some o->b∉X.ex
 exfs:∀b∈X.ex,b∉X.fs
 funs:X.s₀.heap.FunFrames X.base X.outer
 frf:∀b∈X.fs,X.H₀ b=none
structure Inv (X:Cx) (pins:List (Addr×Obj)) (Y:List (Option V)) (H:Hp) (s:Shared):Prop where
 ok:X.Ok
 os:s.os=X.s₀.os
 bare:AllBare s.gens
 base:Un X.fs X.ex X.H₀ H X.s₀.heap s.heap
 loc:∃m,s.heap.Ns X.env.locals m/\∀(i:Nat) (x:Str) (v:V),X.N[i]? = some x->Y[i]? = some (some v)->pU X.env.scope x->∃u,bn v u/\EH X.env s.heap m x u
 cell:∀x c,X.env.cells.lookup x=some c->∃v,s.heap.IsCell c v
 free:H X.env.locals=none
 freeC:∀x c,X.env.cells.lookup x=some c->H c=none
 pin:∀p∈X.pn++pins,s.heap.get? p.1=some p.2/\H p.1=none/\p.1≠X.env.locals/\p.1∉X.fs/\∀v,p.2.data≠.cell v
 hok:HOk X.prog X.w H s.heap
 len:Y.length=X.N.length
section
variable{X:Cx}{O:List (Addr×Obj)}{Y:List (Option V)}{H J:Hp}{s:Shared}{h':Heap}
theorem Cx.Ok.nofr(ok:X.Ok){b:Addr}{o:Obj}(e:X.base.get? b=some o):b∉X.fs:=fun a=>by have:=(ok.funs.mem a).1;rw[e] at this;cases this
theorem Inv.bs(I:Inv X O Y H s):∀b o,X.base.get? b=some o->s.heap.get? b=some o/\H b=none:=fun b o e=>⟨I.base.keep b o (I.ok.bs b o e).1 (I.ok.bs b o e).2 (I.ok.nofr e) (I.ok.noex b o e),I.base.free b o (I.ok.bs b o e).1 (I.ok.bs b o e).2 (I.ok.noex b o e)⟩
theorem Inv.bk(I:Inv X O Y H s):∀b o,X.base.get? b=some o->s.heap.get? b=some o:=fun b o e=>(I.bs b o e).1
theorem Inv.mod(I:Inv X O Y H s):Mod X.K X.mg X.base:=I.ok.mod
theorem Inv.kIn(I:Inv X O Y H s):X.K.In s.heap:=I.ok.mod.kin.keeps I.bk
theorem Inv.lt(I:Inv X O Y H s):X.env.locals<s.heap.objs.size:=let⟨_,a,_⟩:=I.loc;a.lt
theorem Inv.sz(I:Inv X O Y H s):X.s₀.heap.objs.size<=s.heap.objs.size:=Nat.le_trans I.ok.above (Nat.le_of_lt I.lt)
theorem Inv.nofs(I:Inv X O Y H s){a:Addr}(h:s.heap.objs.size<=a):a∉X.fs:=fun b=>by obtain⟨_,o,c,_⟩:=I.ok.funs.mem b;exact absurd (Nat.lt_of_lt_of_le (bq c) (Nat.le_trans I.sz h)) (Nat.lt_irrefl _)
theorem Inv.cne(I:Inv X O Y H s):∀x c,X.env.cells.lookup x=some c->c≠X.env.locals:=fun x c e z=>by obtain⟨v,o,ho,hd⟩:=I.cell x c e;obtain⟨m,⟨d,f,g,a,b,_⟩,_⟩:=I.loc;rw[z,a] at ho;cases ho;rw[b] at hd;cases hd
theorem Inv.funs(I:Inv X O Y H s):s.heap.FunFrames X.base X.outer:=by
 have all:∀(l:List Env),(∀b∈bI l,b∈X.fs)->X.s₀.heap.FunFrames X.base l->s.heap.FunFrames X.base l:=by
  intro l
  induction l with
  | nil=>intro _ _;trivial
  | cons env r g=>intro f h;obtain⟨i,⟨L,o,a,j,ho,hd⟩,k⟩:=h;have c:L∈X.fs:=f L (by unfold bI;rw[List.filterMap_cons,a];exact List.mem_cons_self);obtain⟨m,e⟩:=I.base.slot L o ho (I.ok.frf L c) c fun z=>I.ok.exfs L z c;exact⟨i,⟨L,_,a,j,e,hd⟩,g (fun b d=>f b (by unfold bI;rw[List.filterMap_cons,a];exact bN _ d)) k⟩
 exact all X.outer (fun _ d=>d) I.ok.funs
theorem Inv.stack(I:Inv X O Y H s):s.heap.FunFrames X.base X.stack:=by
 rcases I.ok.stk with e | ⟨e,a⟩
 ·rw[e];exact I.funs
 ·rw[e];obtain⟨m,b,_⟩:=I.loc;refine .cons (by rw[I.ok.kind];decide) a b ?_ I.funs;exact Heap.get?_none_of_le (Nat.le_trans I.ok.bsz I.ok.above)
theorem Inv.stkSub(I:Inv X O Y H s):∀b∈bI X.stack,b∈X.env.locals::X.fs:=fun b a=>by
 rcases I.ok.stk with e | ⟨e,c⟩
 ·rw[e] at a;exact bN _ a
 ·rw[e] at a;unfold bI at a;rw[List.filterMap_cons,c] at a;exact a
theorem Inv.stkFree(I:Inv X O Y H s):∀b∈bI X.stack,H b=none:=fun b a=>by
 rcases List.mem_cons.mp (I.stkSub b a) with e | a
 ·rw[e];exact I.free
 ·obtain⟨_,o,c,_⟩:=I.ok.funs.mem a;exact I.base.free b o c (I.ok.frf b a) fun z=>I.ok.exfs b z a
theorem Inv.step{g':Array GenState}{t':Nat}{d':Drawn}{ch:List Addr}(I:Inv X O Y H s)
  (f:∀b∈ch,(b∈X.ex\/X.s₀.heap.objs.size<=b)/\b≠X.env.locals/\(∀x c,X.env.cells.lookup x=some c->c≠b)/\∀p∈X.pn++O,p.1≠b)
  (keep:∀b o,b≠X.env.locals->b∉X.fs->b∉ch->s.heap.get? b=some o->H b=none->h'.get? b=some o)
  (slot:∀b o,b≠X.env.locals->b∈X.fs->b∉ch->s.heap.get? b=some o->H b=none->∃Q,h'.get? b=some { o with slots:=Q }) (free:∀b o,b∉ch->s.heap.get? b=some o->H b=none->J b=none)
  (there:∀b o,b∉ch->s.heap.get? b=some o->∃B,h'.get? b=some B)
  (E:∀b y,H b=some (.tup y)->J b=some (.tup y)) (G:∀b o u,H b=some (.frz o u)->J b=some (.frz o u)) (L:∀b M,H b=some (.tbl M)->∃more,J b=some (.tbl (M++more)))
  (ns:∀m,s.heap.Ns X.env.locals m->h'.Ns X.env.locals m) (R:HOk X.prog X.w J h') (Z:AllBare g') :
  Inv X O Y J { s with heap:=h',gens:=g',drawn:=d',toks:=t' }:=by
 have C:∀b o,X.s₀.heap.get? b=some o->b≠X.env.locals:=fun b o e=>Nat.ne_of_lt (Nat.lt_of_lt_of_le (bq e) I.ok.above);have j:∀b o,X.s₀.heap.get? b=some o->b∉X.ex->b∉ch:=fun b o e a A=>by
  rcases(f b A).1 with z | z
  ·exact a z
  ·exact absurd (Nat.lt_of_lt_of_le (bq e) z) (Nat.lt_irrefl _)
 have g:∀x c,X.env.cells.lookup x=some c->∀v,s.heap.IsCell c v->h'.IsCell c v:=fun x c e v ⟨o,ho,hd⟩=>by
  have h:c∉ch:=fun z=>(f c z).2.2.1 x c e rfl
  by_cases S:c∈X.fs
  ·obtain⟨Q,q⟩:=slot c o (I.cne x c e) S h ho (I.freeC x c e);exact⟨_,q,hd⟩
  ·exact⟨o,keep c o (I.cne x c e) S h ho (I.freeC x c e),hd⟩
 refine⟨I.ok,I.os,Z,⟨fun b o e n A a=>?_,fun b o e n A a=>?_,fun b o e n a=>?_,fun b o e a=>?_,fun b y e=>E b y (I.base.tups b y e),fun b o y e=>G b o y (I.base.frzs b o y e),fun b M e=>?_⟩,?_,fun x c e=>?_,?_,fun x c e=>?_,fun p T=>?_,R,I.len⟩
 ·exact keep b o (C b o e) A (j b o e a) (I.base.keep b o e n A a) (I.base.free b o e n a)
 ·obtain⟨Q,t⟩:=I.base.slot b o e n A a;obtain⟨N,D⟩:=slot b _ (C b o e) A (j b o e a) t (I.base.free b o e n a);exact⟨N,D⟩
 ·obtain⟨B,t⟩:=I.base.there b o e a;exact free b B (j b o e a) t (I.base.free b o e n a)
 ·obtain⟨B,t⟩:=I.base.there b o e a;exact there b B (j b o e a) t
 ·obtain⟨m1,t⟩:=I.base.tbls b M e;obtain⟨m2,D⟩:=L b _ t;exact⟨m1++m2,by rw[D,Array.append_assoc]⟩
 ·obtain⟨m,hn,hl⟩:=I.loc;refine⟨m,ns m hn,fun i x v t D e3=>?_⟩;obtain⟨u,r,l⟩:=hl i x v t D e3;refine⟨u,r,?_⟩;rcases l with l | ⟨k,c,e,z⟩
  ·exact .inl l
  ·exact .inr ⟨k,c,e,g x c e _ z⟩
 ·obtain⟨v,z⟩:=I.cell x c e;exact⟨v,g x c e v z⟩
 ·obtain⟨m,⟨o,_,_,ho,_⟩,_⟩:=I.loc;exact free _ o (fun z=>(f _ z).2.1 rfl) ho I.free
 ·obtain⟨v,o,ho,hd⟩:=I.cell x c e;exact free c o (fun z=>(f c z).2.2.1 x c e rfl) ho (I.freeC x c e)
 ·obtain⟨e,n,ne,U,d⟩:=I.pin p T;have h:p.1∉ch:=fun z=>(f p.1 z).2.2.2 p T rfl;exact⟨keep p.1 p.2 ne U h e n,free p.1 p.2 h e n,ne,U,d⟩
theorem Inv.un{t':Nat}(I:Inv X O Y H s)(u:Un X.fs [] H J s.heap h')(f:HOk X.prog X.w J h'):Inv X O Y J { s with heap:=h',toks:=t' }:=by
 obtain⟨m,⟨o,k,l,ho,r⟩,_⟩:=id I.loc;obtain⟨t,h⟩:=u.any ho I.free (by simp);exact I.step (g':=s.gens) (d':=s.drawn) (ch:=[]) (fun _ z=>nomatch z) (fun b o _ g _ e n=>u.keep b o e n g (by simp)) (fun b o _ g _ e n=>u.slot b o e n g (by simp)) (fun b o _ e n=>u.free b o e n (by simp)) (fun b o _ e=>u.there b o e (by simp)) u.tups u.frzs u.tbls (fun p i=>by
  obtain⟨q,c,d,a,j⟩:=i;rw[ho] at a;cases a;exact⟨_,c,d,h,j⟩) f I.bare
theorem Inv.call{g':Array GenState}{t':Nat}{d':Drawn}{ch:List Addr}(I:Inv X O Y H s)(u:Un (bI X.stack) ch H J s.heap h')(j:HOk X.prog X.w J h')(k:AllBare g')
  (d:∀b∈ch,(b∈X.ex\/X.s₀.heap.objs.size<=b)/\b≠X.env.locals/\(∀x c,X.env.cells.lookup x=some c->c≠b)/\∀p∈X.pn++O,p.1≠b) :
  Inv X O Y J { s with heap:=h',gens:=g',drawn:=d',toks:=t' }:=by
 obtain⟨m,⟨o,v,y,ho,r⟩,_⟩:=id I.loc;obtain⟨C,g⟩:=u.any ho I.free fun z=>(d _ z).2.1 rfl;exact I.step (ch:=ch) d (fun b o g t a e n=>u.keep b o e n (fun z=>(List.mem_cons.mp (I.stkSub b z)).elim g t) a) (fun b o _ _ a e n=>u.any e n a) (fun b o a e n=>u.free b o e n a) (fun b o a e=>u.there b o e a) u.tups u.frzs u.tbls (fun A l=>by
  obtain⟨B,h,i,f,q⟩:=l;rw[ho] at f;cases f;exact⟨_,h,i,g,q⟩) j k
theorem Inv.turned{t':Nat}{it:Addr}(I:Inv X O Y H s)(k:∀b o,b≠it->s.heap.get? b=some o->h'.get? b=some o)(g:H it=none)(f:it≠X.env.locals)
  (l:it∈X.ex\/X.s₀.heap.objs.size<=it) (t:∀x c,X.env.cells.lookup x=some c->c≠it) (w:∀p∈X.pn++O,p.1≠it):Inv X O Y H { s with heap:=h',toks:=t' }:=by
 have d:∀b u,H b=some u->b≠it:=fun b u e z=>by rw[z,g] at e;cases e
 refine I.step (g':=s.gens) (d':=s.drawn) (ch:=[it]) (fun b y=>?_) (fun b o _ _ a e _=>k b o (fun z=>a (by simp[z])) e) (fun b o _ _ a e _=>⟨o.slots,k b o (fun z=>a (by simp[z])) e⟩) (fun _ _ _ _ n=>n)
  (fun b o a e=>⟨o,k b o (fun z=>a (by simp[z])) e⟩) (fun _ _ e=>e) (fun _ _ _ e=>e) (fun b A e=>⟨#[],by rw[e];simp⟩) (fun m h=>?_) (fun b u e=>?_) I.bare
 ·have e:b=it:=by simpa using y
  subst e;exact⟨l,f,t,w⟩
 ·obtain⟨o,i,j,ho,r⟩:=h;exact⟨o,i,j,k _ o (Ne.symm f) ho,r⟩
 ·refine(I.hok b u e).stay (fun c v a q=>k c v ?_ q) (fun _ q=>q) fun _ _ q=>q;rcases a with z | z
  ·rw[z];exact d b u e
  ·exact d c _ z
theorem Inv.tok(I:Inv X O Y H s)(t:Nat):Inv X O Y H { s with toks:=t }:=I.un (h':=s.heap) (t':=t) Un.refl I.hok
theorem Inv.kept{t':Nat}(I:Inv X O Y H s)(k:∀b u,s.heap.get? b=some u->h'.get? b=some u):Inv X O Y H { s with heap:=h',toks:=t' }:=I.un (Un.kept k) (I.hok.kept k)
theorem Inv.laid{a:Addr}{o:HO}{t':Nat}(I:Inv X O Y H s)(k:∀b u,s.heap.get? b=some u->h'.get? b=some u)(c:s.heap.objs.size<=a)(new:cq X.prog X.w (aM H a o) h' a o) :
  Inv X O Y (aM H a o) { s with heap:=h',toks:=t' }:=I.un (Un.laid k c (I.hok.fresh c)) (I.hok.laid k c new)
theorem Inv.write{x e:Addr}{o:HO}{t':Nat}(I:Inv X O Y H s)(c:nG (H x))(d:e=x\/H e=some (.own x))(k:∀b u,b≠e->s.heap.get? b=some u->h'.get? b=some u)(a:∃u,h'.get? e=some u)
  (new:cq X.prog X.w (aM H x o) h' x o):Inv X O Y (aM H x o) { s with heap:=h',toks:=t' }:=I.un (Un.write c d k a) (I.hok.write c d k a new)
theorem Inv.pins_of{pins':List (Addr×Obj)}(I:Inv X O Y H s)(h:∀p∈pins',s.heap.get? p.1=some p.2/\H p.1=none/\p.1≠X.env.locals/\p.1∉X.fs/\∀v,p.2.data≠.cell v):Inv X pins' Y H s:=
 ⟨I.ok,I.os,I.bare,I.base,I.loc,I.cell,I.free,I.freeC,fun p a=>(List.mem_append.mp a).elim (fun z=>I.pin p (bf _ z)) (h p),I.hok,I.len⟩
theorem ue{N:List Str}(c:N.Nodup){i j:Nat}{x:Str}(a:N[i]? = some x)(b:N[j]? = some x):i=j:=by obtain⟨f,d⟩:=List.getElem?_eq_some_iff.mp a;obtain⟨g,e⟩:=List.getElem?_eq_some_iff.mp b;exact(List.getElem_inj c).mp (d.trans e.symm)
theorem yA{M:Model}{A:Around}{E:Value->Shared->Prop}{i:Nat}{x:Str}{v:V}{u:Value}{Q:Unit->Shared->Prop}(I:Inv X O Y H s)(hN:X.N.Nodup)(T:X.N[i]? = some x)(B:fQ X.env.scope x)(r:bn v u)
  (h:∀s',Inv X O (Y.set i (some v)) H s'->(∃a,Heap.SameBut a s.heap s'.heap/\(a=X.env.locals\/X.env.cells.lookup x=some a))->Q () s') (hf:X.fn x=true\/X.env.scope.names.lookup x=some .local:=by first | exact .inl rfl | exact .inr rfl | assumption):wpAny M A (storeName X.env x u) Q E s:=by
 obtain⟨m,hn,hl⟩:=id I.loc;have U:(X.env.scope.kind==.class||(X.env.scope.kind==.module&&X.env.locals != X.env.globals))=false:=by rw[I.ok.kind];rfl
 have Z:i<Y.length:=by rw[I.len];exact(List.getElem?_eq_some_iff.mp T).1
 have cne:=I.cne;have g:∀{a:Addr}{h':Heap},(∃o,s.heap.get? a=some o/\H a=none)->Heap.SameBut a s.heap h'->HOk X.prog X.w H h':=fun {a h'} ha f b ob e=>by
  obtain⟨_,_,C⟩:=ha;refine(I.hok b ob e).stay (fun c w' t q=>(f.2 c ?_).trans q) (fun _ q=>q) fun _ _ q=>q;rintro rfl;rcases t with rfl | t
  ·rw[C] at e;cases e
  ·rw[C] at t;cases t
 rcases B with G | G
 ·refine wpAny_storeName_local G hn (fun h' a4 f=>?_) U;obtain⟨oL,_,_,a5,_⟩:=id hn;refine h _ ⟨I.ok,I.os,I.bare,⟨fun b o e n S B=>?_,fun b o e n S B=>?_,I.base.free,fun b o e B=>?_,I.base.tups,I.base.frzs,I.base.tbls⟩,⟨_,a4,fun j y v' l D e3=>?_⟩,fun y c e=>?_,I.free,I.freeC,fun p hp=>?_,g ⟨oL,a5,I.free⟩ f,by simpa using I.len⟩ ⟨_,f,.inl rfl⟩
  ·exact(f.2 b (Nat.ne_of_lt (Nat.lt_of_lt_of_le (bq e) I.ok.above))).trans (I.base.keep b o e n S B)
  ·obtain⟨sl,l⟩:=I.base.slot b o e n S B;exact⟨sl,(f.2 b (Nat.ne_of_lt (Nat.lt_of_lt_of_le (bq e) I.ok.above))).trans l⟩
  ·obtain⟨o',l⟩:=I.base.there b o e B;exact⟨o',(f.2 b (Nat.ne_of_lt (Nat.lt_of_lt_of_le (bq e) I.ok.above))).trans l⟩
  ·by_cases L:j=i
   ·subst L;rw[T] at l;cases l;rw[List.getElem?_set_self Z] at D;cases D;exact⟨u,r,.inl ⟨G,by simp⟩⟩
   ·rw[List.getElem?_set_ne (Ne.symm L)] at D;obtain⟨u',r',q⟩:=hl j y v' l D e3;refine⟨u',r',?_⟩;rcases q with⟨k,e⟩ | ⟨k,c,e,z⟩
    ·refine .inl ⟨k,?_⟩;have:y≠x:=fun e=>L (ue hN l (e▸T));simp[this,e]
    ·exact .inr ⟨k,c,e,z.sameBut f (cne y c e)⟩
  ·obtain⟨w',z⟩:=I.cell y c e;exact⟨w',z.sameBut f (cne y c e)⟩
  ·obtain⟨e,n,ne,nf,d⟩:=I.pin p hp;exact⟨(f.2 p.1 ne).trans e,n,ne,nf,d⟩
 ·have R:X.fn x=true:=by
   rcases hf with z | z
   ·exact z
   ·rw[z] at G;cases G
  obtain⟨c,t⟩:=I.ok.has x (.inl G);obtain⟨w',z⟩:=I.cell x c t;refine wpAny_storeName_cell I.ok.kind G t z (fun h' a0 f=>?_);obtain⟨oc,a1,a2⟩:=id z;refine h { s with heap:=h' } ⟨I.ok,I.os,I.bare,⟨fun b o e n S B=>?_,fun b o e n S B=>?_,I.base.free,fun b o e B=>?_,I.base.tups,I.base.frzs,I.base.tbls⟩,⟨m,hn.sameBut f (Ne.symm (cne x c t)),fun j y v' l D e3=>?_⟩,fun y c' e=>?_,I.free,I.freeC,fun p hp=>?_,g ⟨oc,a1,I.freeC x c t⟩ f,by simpa using I.len⟩ ⟨c,f,.inr t⟩
  ·exact(f.2 b (Nat.ne_of_lt (Nat.lt_of_lt_of_le (bq e) (I.ok.cab x c R t)))).trans (I.base.keep b o e n S B)
  ·obtain⟨sl,l⟩:=I.base.slot b o e n S B;exact⟨sl,(f.2 b (Nat.ne_of_lt (Nat.lt_of_lt_of_le (bq e) (I.ok.cab x c R t)))).trans l⟩
  ·obtain⟨o',l⟩:=I.base.there b o e B;exact⟨o',(f.2 b (Nat.ne_of_lt (Nat.lt_of_lt_of_le (bq e) (I.ok.cab x c R t)))).trans l⟩
  ·by_cases L:j=i
   ·subst L;rw[T] at l;cases l;rw[List.getElem?_set_self Z] at D;cases D;exact⟨u,r,.inr ⟨.inl G,c,t,a0⟩⟩
   ·rw[List.getElem?_set_ne (Ne.symm L)] at D;obtain⟨u',r',q⟩:=hl j y v' l D e3;refine⟨u',r',?_⟩;rcases q with q | ⟨k,c',e,z'⟩
    ·exact .inl q
    ·refine .inr ⟨k,c',e,z'.sameBut f ?_⟩;rintro rfl;exact L (ue hN l (I.ok.inj _ _ _ e t▸T))
  ·by_cases a3:c' = c
   ·subst a3;exact⟨_,a0⟩
   ·obtain⟨w2,z2⟩:=I.cell y c' e;exact⟨w2,z2.sameBut f a3⟩
  ·obtain⟨e,n,ne,nf,d⟩:=I.pin p hp;refine⟨(f.2 p.1 ?_).trans e,n,ne,nf,d⟩;intro q;rw[q,a1] at e;have q':oc=p.2:=Option.some.inj e;exact d w' (by rw[<-q'];exact a2)
theorem uf{M:Model}{A:Around}{E:Value->Shared->Prop}{i:Nat}{x:Str}{v:V}{u:Value}{Q:Unit->Shared->Prop}(I:Inv X O Y H s)(b:X.N.Nodup)(c:X.N[i]? = some x)(d:fQ X.env.scope x)(r:bn v u)
  (h:∀a,Inv X O (Y.set i (some v)) H a->Q () a) (e:X.fn x=true\/X.env.scope.names.lookup x=some .local:=by first | exact .inl rfl | exact .inr rfl | assumption):wpAny M A (storeName X.env x u) Q E s:=
 yA I b c d r (fun a f _=>h a f) e
theorem Inv.call'{a:Shared}{ch:List Addr}(I:Inv X O Y H s)(k:a.os=s.os)(u:Un (bI X.stack) ch H J s.heap a.heap)(f:HOk X.prog X.w J a.heap)(g:AllBare a.gens)
  (d:∀b∈ch,(b∈X.ex\/X.s₀.heap.objs.size<=b)/\b≠X.env.locals/\(∀x c,X.env.cells.lookup x=some c->c≠b)/\∀p∈X.pn++O,p.1≠b):Inv X O Y J a:=by
 obtain⟨h',h,i,t',j⟩:=a;have e:j = s.os:=k;subst e;exact I.call (g':=h) (t':=t') (d':=i) u f g d
end
abbrev XK:=Value->Option Addr->Hp->Prop
noncomputable abbrev St:=List (Option V)
abbrev VK:=V->Hp->Prop
abbrev TE:=St->Hp->VK->Prop
abbrev TT:=St->Hp->(Bool->Hp->Prop)->Prop
abbrev TA:=St->Hp->(List V->Hp->Prop)->Prop
structure eF where
 nx:St->Hp->Prop
 rt:VK
 bk:St->Hp->Prop:=fun _ _=>False
 ct:St->Hp->Prop:=fun _ _=>False
abbrev TS:=eF->St->Hp->Prop
def EP(X:Cx)(a:List (Addr×Obj))(Y:St)(Q:VK)(u:Value)(c:Shared):Prop:=∃v b,Inv X a Y b c/\bn v u/\Q v b
def TP(X:Cx)(a:List (Addr×Obj))(Y:St)(Q:Bool->Hp->Prop)(b:Bool)(d:Shared):Prop:=∃c,Inv X a Y c d/\Q b c
def AP(X:Cx)(a:List (Addr×Obj))(Y:St)(Q:List V->Hp->Prop)(d:List Value)(e:Shared):Prop:=∃b c,Inv X a Y c e/\bh b d/\Q b c
def SP(X:Cx)(a:List (Addr×Obj))(D:eF)(f:Flow)(d:Shared):Prop:=
 match f with
 | .next=>∃c b,Inv X a c b d/\D.nx c b
 | .brk=>∃c b,Inv X a c b d/\D.bk c b
 | .cont=>∃c b,Inv X a c b d/\D.ct c b
 | .ret u=>∃v c b,Inv X a c b d/\bn v u/\D.rt v b
def PE(X:Cx)(e:Expr)(t:TE):Prop:=
 ∀(a:List (Addr×Obj)) (s:Shared) (Y:St) (H:Hp) (Q:VK),Inv X a Y H s->t Y H Q->wpAny (model X.prog X.w) X.A (eval e X.env) (EP X a Y Q) X.xe s
def PT(X:Cx)(e:Expr)(t:TT):Prop:=
 ∀(a:List (Addr×Obj)) (s:Shared) (Y:St) (H:Hp) (Q:Bool->Hp->Prop),Inv X a Y H s->t Y H Q->wpAny (model X.prog X.w) X.A (isTrue e X.env (eval e X.env)) (TP X a Y Q) X.xe s
def PW(X:Cx)(e:Expr)(t:TT):Prop:=
 ∀(whole:Sem Value) (a:List (Addr×Obj)) (s:Shared) (Y:St) (H:Hp) (Q:Bool->Hp->Prop),Inv X a Y H s->t Y H Q->wpAny (model X.prog X.w) X.A (isTrue e X.env whole) (TP X a Y Q) X.xe s
theorem PW.pt{X:Cx}{e:Expr}{t:TT}(h:PW X e t):PT X e t:=h _
def PA(X:Cx)(b:List Expr)(t:TA):Prop:=
 ∀(pos:Pos) (a:List (Addr×Obj)) (s:Shared) (Y:St) (H:Hp) (Q:List V->Hp->Prop),Inv X a Y H s->t Y H Q->wpAny (model X.prog X.w) X.A (spliced (backTo pos (starEach b X.env))) (AP X a Y Q) X.xe s
def PS(X:Cx)(st:Stmt)(t:TS):Prop:=
 ∀(a:List (Addr×Obj)) (s:Shared) (Y:St) (H:Hp) (D:eF),Inv X a Y H s->t D Y H->wpAny (model X.prog X.w) X.A (exec st X.env) (SP X a D) X.xe s
def PSs(X:Cx)(st:List Stmt)(t:TS):Prop:=
 ∀(a:List (Addr×Obj)) (s:Shared) (Y:St) (H:Hp) (D:eF),Inv X a Y H s->t D Y H->wpAny (model X.prog X.w) X.A (execs st X.env) (SP X a D) X.xe s
theorem aK{α:Type}{t:Sem α}{Q b:α->Shared->Prop}{M:Model}{A:Around}{E:Value->Shared->Prop}{s:Shared}(h:wpAny M A t Q E s)(c:∀a s,Q a s->b a s):wpAny M A t b E s:=wpAny_mono h c fun _ _ x=>x
section
variable{X:Cx}
noncomputable def ca(i:Nat):TE:=fun Y H Q=>∃v,Y[i]? = some (some v)/\Q v H
noncomputable def tC(v:V):TE:=fun _ H Q=>Q v H
theorem EI{i:Nat}{x:Str}{pos:Pos}(j:X.N[i]? = some x)(k:pU X.env.scope x)(hd:(x==("__debug__":Str))=false:=by decide)(f:(x==("__classdict__":Str))=false:=by decide):PE X (.Name x pos) (ca i):=by
 intro d s Y H Q I h;obtain⟨v,e,h⟩:=h;obtain⟨m,n,o⟩:=I.loc;obtain⟨u,r,l⟩:=o i x v j e k;have fin:EP X d Y Q u s:=⟨v,H,I,r,h⟩
 rcases l with⟨b,p⟩ | ⟨b,c,g,a⟩
 ·exact wpAny_Name (wpAny_loadName_local I.ok.kind b n p fin) hd
 ·rcases b with b | b
  ·exact wpAny_Name (wpAny_loadName_cell I.ok.kind b g a fin) hd
  ·exact wpAny_Name (wpAny_loadName_free I.ok.kind b g a fin f) hd
theorem ug{i j pos}:PE X (.Constant (.int i) j pos) (tC (.int i)):=fun _ _ _ H _ I h=>wpAny_Constant_int ⟨.int i,H,I.tok _,⟨_,rfl⟩,h⟩
theorem EJ{b j pos}:PE X (.Constant (.bool b) j pos) (tC (.bl b)):=fun _ _ _ H _ I h=>Constant_bool ⟨.bl b,H,I,rfl,h⟩
theorem yB{j pos}:PE X (.Constant .none j pos) (tC .non):=fun _ _ _ H _ I h=>Constant_none ⟨.non,H,I,rfl,h⟩
theorem yC{x j pos}:PE X (.Constant (.str x) j pos) (tC (.str x)):=fun _ _ _ H _ I h=>Calls.Constant_str ⟨.str x,H,I.tok _,⟨_,rfl⟩,h⟩
def Gl(X:Cx)(x:Str):Prop:=X.env.kindOf x=some .globalImplicit
theorem lX{E:Value->Shared->Prop}{a:List (Addr×Obj)}{s:Shared}{Y:St}{H:Hp}{x:Str}{u:Value}{pos:Pos}{Q:Value->Shared->Prop}(I:Inv X a Y H s)(b:Gl X x)(c:X.mg x=some u)(h:Q u s)
  (hd:(x==("__debug__":Str))=false:=by decide):wpAny (model X.prog X.w) X.A (eval (.Name x pos) X.env) Q E s:=
 Calls.Name_function_global I.ok.kind b (Calls.loadGlobal_global (by rw[I.ok.glob];exact I.mod.glob.keeps I.bk) c h) hd
theorem jO{E:Value->Shared->Prop}{a:List (Addr×Obj)}{s:Shared}{Y:St}{H:Hp}{x:Str}{u:Value}{pos:Pos}{Q:Value->Shared->Prop}(I:Inv X a Y H s)(b:Gl X x)(c:X.mg x=none)(d:bootBuiltins x=some u)(h:Q u s)
  (e:x≠"__name__":=by decide) (hd:(x==("__debug__":Str))=false:=by decide):wpAny (model X.prog X.w) X.A (eval (.Name x pos) X.env) Q E s:=by
 obtain⟨f,h1,h2⟩:=I.mod.blt;exact Calls.Name_function_global I.ok.kind b (Calls.loadGlobal_builtin (by rw[I.ok.glob];exact I.mod.glob.keeps I.bk) c (by rw[I.ok.blt];exact h1.keeps I.bk) ((h2 x e).trans d) h) hd
theorem pV{x:Str}{v:V}{u:Value}{pos:Pos}(a:Gl X x)(b:X.mg x=some u)(r:bn v u)(hd:(x==("__debug__":Str))=false:=by decide):PE X (.Name x pos) (tC v):=
 fun _ _ _ H _ I h=>lX I a b ⟨v,H,I,r,h⟩ hd
theorem hI{x:Str}{v:V}{u:Value}{pos:Pos}(a:Gl X x)(b:X.mg x=none)(c:bootBuiltins x=some u)(r:bn v u)(d:x≠"__name__":=by decide)(hd:(x==("__debug__":Str))=false:=by decide):PE X (.Name x pos) (tC v):=
 fun _ _ _ H _ I h=>jO I a b c ⟨v,H,I,r,h⟩ d hd
variable{a b:Expr}{M L:TE}{pos:Pos}
noncomputable def tB(t:TE):TT:=fun Y H Q=>t Y H fun x d=>∃c,x=.bl c/\Q c d
theorem EK{e:Expr}{t:TE}(h:PE X e t)(f:∀whole,isTrue e X.env whole=(do let v <-whole;standAt e.pos;holding [v] (truthy v)):=by intro _;rfl):PT X e (tB t):=by intro c s Y H Q I g;refine isTrue_plain (aK (h c s Y H _ I g) fun v l ⟨x,i,I1,j,k⟩=>?_) (f _);obtain⟨d,rfl,q⟩:=k;cases j;exact wpAny_truthy_bool ⟨i,I1,q⟩
variable{G D:TT}{rest:List Expr}
noncomputable def EL(t u:TT):TT:=fun Y H Q=>t Y H fun c d=>if c=true then u Y d Q else Q false d
noncomputable def EM(t u:TT):TT:=fun Y H Q=>t Y H fun c d=>if c=true then Q true d else u Y d Q
noncomputable def EN(t:TT):TT:=fun Y H Q=>t Y H fun c d=>Q (!c) d
theorem EO(f:PT X a G):PW X (.BoolOp .And [a] pos) G:=by
 intro g d s Y H Q I h;refine isTrue_and (aK (f d s Y H Q I h) fun c i e=>?_);cases c with
 | true=>exact isTrue_and_nil e
 | false=>exact e
theorem EQ(f:PT X a G):PW X (.BoolOp .Or [a] pos) G:=by
 intro g d s Y H Q I h;refine isTrue_or (aK (f d s Y H Q I h) fun c i e=>?_);cases c with
 | false=>exact isTrue_or_nil e
 | true=>exact e
theorem ER(g:PT X a G)(k:PW X (.BoolOp .And (b::rest) pos) D):PW X (.BoolOp .And (a::b::rest) pos) (EL G D):=by
 intro i d s Y H Q I h;refine isTrue_and (aK (g d s Y H _ I h) fun c j ⟨e,I1,f⟩=>?_);cases c with
 | true=>exact k i d j Y e Q I1 f
 | false=>exact⟨e,I1,f⟩
theorem ES(g:PT X a G)(k:PW X (.BoolOp .Or (b::rest) pos) D):PW X (.BoolOp .Or (a::b::rest) pos) (EM G D):=by
 intro i d s Y H Q I h;refine isTrue_or (aK (g d s Y H _ I h) fun c j ⟨e,I1,f⟩=>?_);cases c with
 | true=>exact⟨e,I1,f⟩
 | false=>exact k i d j Y e Q I1 f
theorem ET(e:PT X a G):PT X (.UnaryOp .Not a pos) (EN G):=by intro d s Y H Q I h;exact isTrue_not (e d s Y H (fun c f=>Q (!c) f) I h)
noncomputable def EU(M L:TE):TE:=fun Y H Q=>M Y H fun x d=>∃c,x=.bl c/\if c=true then L Y d Q else Q (.bl false) d
noncomputable def EV(M L:TE):TE:=fun Y H Q=>M Y H fun x d=>∃c,x=.bl c/\if c=true then Q (.bl true) d else L Y d Q
noncomputable def EW(M:TE):TE:=fun Y H Q=>M Y H fun x d=>∃c,x=.bl c/\Q (.bl (!c)) d
theorem EY{op}{t:TE}(h:PE X a t):PE X (.BoolOp op [a] pos) t:=fun c s Y H Q I d=>BoolOp_one (h c s Y H Q I d)
theorem EZ(g:PE X a M)(k:PE X (.BoolOp .And (b::rest) pos) L):PE X (.BoolOp .And (a::b::rest) pos) (EU M L):=by
 intro d s Y H Q I h;refine BoolOp_and (aK (g d s Y H _ I h) fun v i ⟨x,f,I1,j,e⟩=>?_);obtain⟨c,rfl,e⟩:=e;cases j;refine wpAny_truthy_bool ?_;cases c with
 | true=>exact k d i Y f Q I1 e
 | false=>exact⟨.bl false,f,I1,rfl,e⟩
theorem Fa(g:PE X a M)(k:PE X (.BoolOp .Or (b::rest) pos) L):PE X (.BoolOp .Or (a::b::rest) pos) (EV M L):=by
 intro d s Y H Q I h;refine BoolOp_or (aK (g d s Y H _ I h) fun v i ⟨x,f,I1,j,e⟩=>?_);obtain⟨c,rfl,e⟩:=e;cases j;refine wpAny_truthy_bool ?_;cases c with
 | false=>exact k d i Y f Q I1 e
 | true=>exact⟨.bl true,f,I1,rfl,e⟩
theorem Fb(f:PE X a M):PE X (.UnaryOp .Not a pos) (EW M):=by intro d s Y H Q I h;refine UnaryOp_ (aK (f d s Y H _ I h) fun v j ⟨x,g,I1,i,e⟩=>?_);obtain⟨c,rfl,e⟩:=e;cases i;exact not_of (wpAny_truthy_bool ⟨.bl (!c),g,I1,rfl,e⟩)
noncomputable def Fc(t:TT)(M L:TE):TE:=fun Y H Q=>t Y H fun c d=>if c=true then M Y d Q else L Y d Q
theorem Fd{c:Expr}(j:PT X c G)(k:PE X a M)(l:PE X b L):PE X (.IfExp c a b pos) (Fc G M L):=by
 intro e s Y H Q I h;refine wpAny_IfExp (aK (j e s Y H _ I h) fun d f ⟨g,I1,i⟩=>?_);cases d with
 | true=>exact k e f Y g Q I1 i
 | false=>exact l e f Y g Q I1 i
end
def cJ(K:Frag)(H:Hp)(a:Addr)(c:List V):Prop:=
 Rd H a (.lst c)\/
  ∃(o:Obj) (b:Array Value) (n:Nat),K.lookup a=some o/\o.cls=.type "list"/\o.dict=none/\o.data=.seq b n/\b.size<=sizeLine/\bh c b.toList
def fR(K:Frag)(H:Hp)(a:Addr)(c:List V):Prop:=
 Rd H a (.tup c)\/
  ∃(o:Obj) (b:Array Value) (n:Nat),K.lookup a=some o/\o.cls=.type "tuple"/\o.data=.seq b n/\b.size<=sizeLine/\bh c b.toList
noncomputable def Fe:Value->Option V
 | .none=>some .non
 | .bool b=>some (.bl b)
 | .int i _=>some (.int i)
 | .str x _=>some (.str x)
 | .bytes b _=>some (.byt b)
 | .float b _=>some (.flt b)
 | .ref a=>some (.ref a)
 | .type n=>some (.ty n)
 | _=>none
theorem bn.abs{x:V}{u:Value}(r:bn x u):Fe u=some x:=by
 cases x with
 | non=>cases r;rfl
 | bl _=>cases r;rfl
 | int _=>obtain⟨t,rfl⟩:=r;rfl
 | str _=>obtain⟨t,rfl⟩:=r;rfl
 | byt _=>obtain⟨t,rfl⟩:=r;rfl
 | flt _=>obtain⟨t,rfl⟩:=r;rfl
 | ref _=>cases r;rfl
 | ty _=>cases r;rfl
theorem bn.inj{x y:V}{u:Value}(r:bn x u)(q:bn y u):x=y:=Option.some.inj (r.abs.symm.trans q.abs)
theorem bh.inj:∀{a b:List V}{c:List Value},bh a c->bh b c->a=b
 | _,_,_,.nil,.nil=>rfl
 | _,_,_,.cons r t,.cons d t'=>by rw[r.inj d,bh.inj t t']
section
variable{X:Cx}{Q:List (Addr×Obj)}{Y:St}{H:Hp}{s:Shared}{a:Addr}{N E:List V}
theorem cJ.of{K:Frag}(h:H a=some (.lst N)):cJ K H a N:=.inl (.inl h)
theorem Inv.list(I:Inv X Q Y H s)(h:cJ X.K H a N):∃b:List Value,bh N b/\PlainL s.heap a b.toArray/\N.length<=sizeLine:=by
 rcases h with h | ⟨o,b,n,c,d,hd,f,g,r⟩
 ·obtain⟨z,b,n,r,e⟩:=h.ok I.hok;exact⟨b,r,⟨_,n,e,rfl,rfl,rfl⟩,z⟩
 ·refine⟨b.toList,r,⟨o,n,I.kIn a o c,d,hd,by simpa using f⟩,?_⟩;have e:=r.length;simp only[Array.length_toList] at e;omega
theorem Inv.tuple(I:Inv X Q Y H s)(h:fR X.K H a N):∃b:List Value,bh N b/\IsTup s.heap a b.toArray/\N.length<=sizeLine:=by
 rcases h with h | ⟨o,b,n,c,d,f,g,r⟩
 ·obtain⟨z,b,r,p⟩:=h.ok I.hok;exact⟨b,r,p,z⟩
 ·refine⟨b.toList,r,⟨o,I.kIn a o c,d,n,by simpa using f⟩,?_⟩;have e:=r.length;simp only[Array.length_toList] at e;omega
theorem Inv.list_inj(I:Inv X Q Y H s)(h:cJ X.K H a N)(i:cJ X.K H a E):N=E:=by
 obtain⟨c,r,⟨o,n,e,_,_,d⟩,_⟩:=I.list h;obtain⟨b,j,⟨l,m,f,_,_,g⟩,_⟩:=I.list i;rw[e] at f;cases f;rw[d] at g;injection g with k _
 have:c=b:=by simpa using congrArg Array.toList k
 subst this;exact r.inj j
theorem Inv.tuple_inj(I:Inv X Q Y H s)(h:fR X.K H a N)(i:fR X.K H a E):N=E:=by
 obtain⟨c,r,⟨o,e,_,n,d⟩,_⟩:=I.tuple h;obtain⟨b,j,⟨l,f,_,m,g⟩,_⟩:=I.tuple i;rw[e] at f;cases f;rw[d] at g;injection g with k _
 have:c=b:=by simpa using congrArg Array.toList k
 subst this;exact r.inj j
end
noncomputable abbrev Cx.wish(X:Cx)(E:Value->Shared->Prop):Cx:={ X with xe:=E }
theorem Cx.Ok.wish{X:Cx}(ok:X.Ok)(E:Value->Shared->Prop):(X.wish E).Ok:=
 ⟨ok.mod,ok.kind,ok.glob,ok.blt,ok.above,ok.inj,ok.has,ok.cab,ok.hd,ok.frames,ok.stk,ok.exf,ok.bs,ok.bsz,ok.noex,ok.exfs,ok.funs,ok.frf⟩
section
variable{X:Cx}{C:List (Addr×Obj)}{Y:St}{H:Hp}{s:Shared}{E:Value->Shared->Prop}
theorem Inv.wish(I:Inv X C Y H s)(E:Value->Shared->Prop):Inv (X.wish E) C Y H s:=⟨I.ok.wish E,I.os,I.bare,I.base,I.loc,I.cell,I.free,I.freeC,I.pin,I.hok,I.len⟩
end
section
variable{X:Cx}{st:Stmt}{rest:List Stmt}{t u:TS}{e:Expr}{B:TE}{pos:Pos}
noncomputable def Ff:TS:=fun D Y H=>D.nx Y H
noncomputable def Fg(t u:TS):TS:=fun D Y H=>t { D with nx:=u D } Y H
theorem Fh:PSs X [] Ff:=fun _ _ Y H _ I h=>wpAny_execs_nil ⟨Y,H,I,h⟩
theorem Fi(i:PS X st t)(j:PSs X rest u):PSs X (st::rest) (Fg t u):=by
 intro a s Y H D I h;refine wpAny_execs_cons (aK (i a s Y H { D with nx:=u D } I h) fun f b q=>?_);cases f with
 | next=>obtain⟨c,d,g,q⟩:=q;exact j a b c d D g q
 | ret v=>exact q
 | brk=>exact q
 | cont=>exact q
theorem Fj(b:PS X st t):PSs X [st] t:=by
 intro a s Y H D I h;refine wpAny_execs_cons (aK (b a s Y H D I h) fun f c q=>?_);cases f with
 | next=>exact wpAny_execs_nil q
 | ret v=>exact q
 | brk=>exact q
 | cont=>exact q
theorem Inv.quiet{a:List (Addr×Obj)}{Y:St}{H:Hp}{s:Shared}(I:Inv X a Y H s):interactive X.env=false:=by simp[interactive,I.ok.kind]
noncomputable def Fk(B:TE):TS:=fun D Y H=>B Y H fun _ a=>D.nx Y a
theorem pW(b:PE X e B)(c:swapsWith e none pos.line X.env=pure false:=by rfl):PS X (.Expr e pos) (Fk B):=by intro a s Y H D I h;exact wpAny_Expr_any (aK (b a s Y H _ I h) fun v g ⟨x,d,I1,i,f⟩=>⟨Y,d,I1,f⟩) I.quiet c
noncomputable def Fm(B:TE):TS:=fun D Y H=>B Y H D.rt
theorem yD(b:PE X e B):PS X (.Return (some e) pos) (Fm B):=by intro a s Y H D I h;exact wpAny_Return_some (aK (b a s Y H _ I h) fun v g ⟨x,c,I1,d,f⟩=>⟨x,Y,c,I1,d,f⟩)
noncomputable def Fo(c:TT)(t u:TS):TS:=fun D Y H=>c Y H fun b a=>if b=true then t D Y a else u D Y a
theorem Fp{c:Expr}{a b:List Stmt}{g:TT}(l:PT X c g)(m:PSs X a t)(n:PSs X b u):PS X (.If c a b pos) (Fo g t u):=by
 intro f s Y H D I h;refine wpAny_If (aK (l f s Y H _ I h) fun d i ⟨j,I1,k⟩=>?_);cases d with
 | true=>exact m f i Y j D I1 k
 | false=>exact n f i Y j D I1 k
end
abbrev TG:=V->St->Hp->(St->Hp->Prop)->Prop
abbrev jq:=List V->St->Hp->(St->Hp->Prop)->Prop
def PG(X:Cx)(target:Expr)(t:TG):Prop:=
 ∀(a:List (Addr×Obj)) (s:Shared) (Y:St) (H:Hp) (v:V) (u:Value) (Q:St->Hp->Prop),Inv X a Y H s->bn v u->t v Y H Q->
  wpAny (model X.prog X.w) X.A (assign target X.env u) (fun _ d=>∃b c,Inv X a b c d/\Q b c) X.xe s
def PGs(X:Cx)(f:List Expr)(t:jq):Prop:=
 ∀(a:List (Addr×Obj)) (s:Shared) (Y:St) (H:Hp) (b:List V) (c:List Value) (Q:St->Hp->Prop),Inv X a Y H s->bh b c->t b Y H Q->
  wpAny (model X.prog X.w) X.A (assignInOrder ((assignEach f X.env).map (·.2)) c) (fun _ g=>∃d e,Inv X a d e g/\Q d e) X.xe s
abbrev uh:=V->V->V->Hp->(Hp->Prop)->Prop
def yE(X:Cx)(t:uh):Prop:=
 ∀(a:List (Addr×Obj)) (s:Shared) (Y:St) (H:Hp) (o i v:V) (b c u:Value) (Q:Hp->Prop),Inv X a Y H s->bn o b->bn i c->bn v u->t o i v H Q->
  wpAny (model X.prog X.w) X.A (setItem b c u) (fun _ e=>∃d,Inv X a Y d e/\Q d) X.xe s
section
variable{X:Cx}{pos:Pos}
noncomputable def pX(i:Nat):TG:=fun v Y H Q=>Q (Y.set i (some v)) H
theorem ui{i:Nat}{x:Str}(b:X.N.Nodup)(c:X.N[i]? = some x)(d:fQ X.env.scope x)(e:X.fn x=true\/X.env.scope.names.lookup x=some .local:=by first | exact .inl rfl | exact .inr rfl | assumption):PG X (.Name x pos) (pX i):=by intro a s Y H v u Q I r h;exact wpAny_assign_Name (uf I b c d r (fun g f=>⟨_,H,f,h⟩) e)
noncomputable def Fq:jq:=fun a Y H Q=>a=[]/\Q Y H
noncomputable def Fs(t:TG)(u:jq):jq:=fun a Y H Q=>∃v r,a=v::r/\t v Y H fun b c=>u r b c Q
theorem yF:PGs X [] Fq:=by intro a s Y H b c Q I r h;obtain⟨e,h⟩:=h;subst e;cases r;exact assignInOrder_nil ⟨Y,H,I,h⟩
theorem uj{e:Expr}{b:List Expr}{t:TG}{u:jq}(l:PG X e t)(m:PGs X b u)
  (c:(assignEach (e::b) X.env).map (·.2)=assign e X.env::(assignEach b X.env).map (·.2):=by rfl):PGs X (e::b) (Fs t u):=by
 intro a s Y H n o Q I r h;obtain⟨v,p,d,h⟩:=h;subst d;cases r with
 | cons r f=>rw[c];refine assignInOrder_cons (aK (l a s Y H _ _ _ I r h) fun _ g ⟨i,j,I1,k⟩=>?_);exact m a g i j _ _ Q I1 f k
noncomputable def Ft(K:Frag)(n:Nat)(t:jq):TG:=fun v Y H Q=>∃a b,v=.ref a/\fR K H a b/\b.length=n/\t b Y H Q
theorem yG{d:List Expr}{k:Nat}{t:jq}{n:Nat}(j:X.calm=true)(h:PGs X d t)
  (l:(assignEach d X.env).length=n:=by rfl) (f:(assignEach d X.env).findIdx? (·.1)=none:=by rfl):PG X (.Tuple d k pos) (Ft X.K n t):=by
 intro c s Y H v u Q I r g;obtain⟨a,m,p,q,w,g⟩:=g;subst p;cases r;obtain⟨x,i,y,B⟩:=I.tuple q;refine assign_Tuple_tuple (I.ok.hd j) y (by simp[l,<-w,i.length]) f fun z A=>?_;have I1:Inv X c Y H { s with heap:=z }:=I.kept (t':=s.toks) fun b o e=>A b o (Nat.ne_of_lt (bq e)) e;exact h c _ Y H m _ Q I1 (by simpa using i) g
noncomputable def iD(d e:TE)(t:uh):TG:=fun v Y H Q=>d Y H fun o a=>e Y a fun i b=>t o i v b fun c=>Q Y c
theorem Fu{o i:Expr}{d e:TE}{t:uh}(E:PE X o d)(f:PE X i e)(g:yE X t)
  (j:∀v,assign (.Subscript o i pos) X.env v=(do
   let b <-holding [v] (eval o X.env);let c <-holding [v,b] (eval i X.env)
   standAt pos
   holding [v,b,c] (setItem b c v)
   release [v,b,c] []):=by intro _;rfl):PG X (.Subscript o i pos) (iD d e t):=by
 intro a s Y H v u Q I r h;rw[j];refine aw (wpAny_holding (aK (E a s Y H _ I h) fun b k ⟨x,l,I1,m,n⟩=>?_));refine aw (wpAny_holding (aK (f a k Y l _ I1 n) fun c p ⟨y,q,w,z,A⟩=>?_));refine aw (wpAny_standAt (aw (wpAny_holding (aK (g a p Y q x y v b c u _ w m z r A) fun _ G ⟨B,C,D⟩=>?_))));exact wpAny_release ⟨Y,B,C,D⟩
noncomputable def uk(a:TE)(g:TG):TS:=fun D Y H=>a Y H fun x b=>g x Y b D.nx
theorem yH{b e:Expr}{c:TE}{g:TG}(d:PE X e c)(f:PG X b g)(i:swapsWithSole [b] e pos.line X.env=pure false:=by rfl)(j:swappedStores [b] e X.env=pure none:=by rfl)
  (o:(assignEach [b] X.env).map (·.2)=[assign b X.env]:=by rfl):PS X (.Assign [b] e pos) (uk c g):=by
 intro a s Y H D I h;refine wpAny_Assign_stores (aK (d a s Y H _ I h) fun v k ⟨x,l,I1,m,n⟩=>?_) i j;rw[o];exact aK (f a k Y l x v _ I1 m n) fun _ p q=>q
theorem yI{i:Nat}{x:Str}{e:Expr}{c:TE}{a:Pos}(d:X.N.Nodup)(f:X.N[i]? = some x)(g:fQ X.env.scope x)(j:PE X e c)(k:swapsWith e (some (.Name x a)) pos.line X.env=pure false:=by rfl)(l:X.fn x=true\/X.env.scope.names.lookup x=some .local:=by first | exact .inl rfl | exact .inr rfl | assumption) :
  PS X (.Assign [.Name x a] e pos) (uk c (pX i)):=by
 intro b s Y H D I h;refine wpAny_Assign_Name (aK (j b s Y H _ I h) fun v q ⟨y,m,I1,n,o⟩=>?_) k;exact uf I1 d f g n (fun r p=>⟨_,m,p,o⟩) l
end
structure It where
 go:Nat->Hp->Prop
 yld:Nat->Hp->V->Hp->Prop
 stop:Nat->Hp->Prop
def fA(X:Cx)(a:List (Addr×Obj))(H:Hp)(b:Addr):Prop:=
 H b=none/\b≠X.env.locals/\b∉X.fs/\(b∈X.ex\/X.s₀.heap.objs.size<=b)/\(∀x c,X.env.cells.lookup x=some c->c≠b)/\∀p∈X.pn++a,p.1≠b
theorem Inv.fpOk{X:Cx}{a:List (Addr×Obj)}{Y:St}{H f:Hp}{s:Shared}{b:Addr}(I:Inv X a Y H s)(d:s.heap.objs.size<=b)(g:f b=none):fA X a f b:=by
 refine⟨g,Nat.ne_of_gt (Nat.lt_of_lt_of_le I.lt d),I.nofs d,.inr (Nat.le_trans I.sz d),fun x c e z=>?_,fun p h z=>?_⟩
 ·obtain⟨v,q⟩:=I.cell x c e;exact absurd (Nat.lt_of_lt_of_le q.lt (by rw[z];exact d)) (Nat.lt_irrefl _)
 ·exact absurd (Nat.lt_of_lt_of_le (bq (I.pin p h).1) (by rw[z];exact d)) (Nat.lt_irrefl _)
structure gq (P:Program) (w:World) (K:Frag) (tg:Expr) (J:It) (fp:List Addr) (it:Addr) (tn:Nat->Heap->Prop):Prop where
 mem:it∈fp
 obj:∀i h,tn i h->∀b∈fp,∃o,h.get? b=some o/\∀v,o.data≠.cell v
 keep:∀i h h',tn i h->(∀b∈fp,∀o,h.get? b=some o->h'.get? b=some o)->tn i h'
 item:∀(X:Cx),X.prog=P->X.w=w->X.K=K->X.calm=true->∀(i:Nat) (pins:List (Addr×Obj)) (s:Shared) (Y:St) (H:Hp) (E:Value->Shared->Prop),Inv X pins Y H s->(∀b∈fp,fA X pins H b)->tn i s.heap->J.go i H->
  wpAny (model P w) X.A (pyNext (.ref it)) (fun r s1=>∃u,r=some u/\
   wpAny (model P w) X.A (letOwnedTupleGo tg (.ref it) u) (fun _ s2=>∃x H',Inv X pins Y H' s2/\bn x u/\J.yld i H x H'/\tn (i+1) s2.heap/\∀b∈fp,H' b=none) E s1) E s
 done:∀(X:Cx),X.prog=P->X.w=w->X.K=K->X.calm=true->∀(i:Nat) (pins:List (Addr×Obj)) (s:Shared) (Y:St) (H:Hp) (E:Value->Shared->Prop),Inv X pins Y H s->(∀b∈fp,fA X pins H b)->tn i s.heap->J.stop i H->
  wpAny (model P w) X.A (pyNext (.ref it)) (fun r s1=>r=none/\Inv X pins Y H s1) E s
 self:∀(A:Around) (i:Nat) (s:Shared) (Q:Value->Shared->Prop) (E:Value->Shared->Prop),tn i s.heap->Q (.ref it) s->wpAny (model P w) A (pyIter (.ref it)) Q E s
abbrev TI:=St->Hp->(It->Hp->Prop)->Prop
def yJ(X:Cx)(a:List (Addr×Obj))(Y:St)(h:Expr)(R:It->Hp->Prop)(c:Value)(e:Shared):Prop:=
 ∃(it:Addr) (f:List Addr) (g:Nat->Heap->Prop) (J:It) (d:Hp),c=.ref it/\Inv X a Y d e/\gq X.prog X.w X.K h J f it g/\g 0 e.heap/\(∀b∈f,fA X a d b)/\R J d
def PI(X:Cx)(b iter:Expr)(c:TI):Prop:=
 ∀(a:List (Addr×Obj)) (s:Shared) (Y:St) (H:Hp) (R:It->Hp->Prop),Inv X a Y H s->c Y H R->
  wpAny (model X.prog X.w) X.A (eval iter X.env) (fun v d=>wpAny (model X.prog X.w) X.A (pyIter v) (yJ X a Y b R) X.xe d) X.xe s
theorem pY{M:Model}{A:Around}{E:Value->Shared->Prop}{s:Shared}{b:Expr}{it:Addr}{u:Value}{o:Obj}{n:String}{c:Array Value}{Q:Unit->Shared->Prop}(f:s.heap.get? it=some o)(d:o.cls=.type n)(hd:o.data=.fields c)
    (e:["enumerate","zip","dict_itemiterator","dict_reverseitemiterator","odict_iterator","itertools.zip_longest","itertools.pairwise"].contains n=false) (a:Q () s):wpAny M A (letOwnedTupleGo b (.ref it) u) Q E s:=by
  unfold letOwnedTupleGo;cases b<;>first
    | exact bo a
    | (cases u<;>first
        | exact bo a
        | (refine aw (wpAny_load f ?_)
           rw[d,hd];show wpAny M A (if (["enumerate","zip","dict_itemiterator","dict_reverseitemiterator","odict_iterator","itertools.zip_longest","itertools.pairwise"].contains n&&c[0]?==some (rawInt _))=true then _ else _) Q E s;rw[if_neg (by intro h;rw[e,Bool.false_and] at h;cases h)];exact bo a))
noncomputable def um(K:Frag)(a:Addr):It:=
 ⟨fun i H=>∃b x,cJ K H a b/\b[i]? = some x,fun i H x c=>c = H/\∀b,cJ K H a b->b[i]? = some x,fun i H=>∃b,cJ K H a b/\b.length<=i⟩
noncomputable def uo(K:Frag)(a:Addr):It:=
 ⟨fun i H=>∃b x,fR K H a b/\b[i]? = some x,fun i H x c=>c = H/\∀b,fR K H a b->b[i]? = some x,fun i H=>∃b,fR K H a b/\b.length<=i⟩
noncomputable def pZ(lo:Int)(n:Nat):It:=⟨fun i _=>i<n,fun i H x a=>a = H/\x=.int (lo+i),fun i _=>n<=i⟩
theorem Fv{P:Program}{w:World}{K:Frag}{tg:Expr}(a it:Addr):gq P w K tg (um K a) [it] it (fun i h=>h.IsListIter it a i) where
 mem:=by simp
 obj:=fun i h st b hb=>by
  have e:b=it:=by simpa using hb
  subst e;obtain⟨o,e,c,d⟩:=st;exact⟨o,e,fun v z=>by rw[d] at z;cases z⟩
 keep:=fun i h h' st k=>st.at fun o e=>k it (by simp) o e
 item:=by intro X hP hw hK hc i pins s Y H E I hf st hg;subst hP hw hK;obtain⟨xs,x,hq,hx⟩:=hg;obtain⟨its,rv,p,hz⟩:=I.list hq;obtain⟨u,hu,ru⟩:=rv.get hx;obtain⟨f0,f1,f2,f3,f4,f5⟩:=hf it (by simp);refine wpAny_pyNext_list_item st p.isList (x:=u) (by simpa using hu) fun h' st' sb=>?_;have I1:Inv X pins Y H { s with heap:=h' }:=I.turned (t':=s.toks) (fun b o hb e=>(sb.2 b hb).trans e) f0 f1 f3 f4 f5;obtain⟨o,e,c,d⟩:=id st';exact⟨u,rfl,pY (s:={ s with heap:=h' }) e c d (by decide) ⟨x,H,I1,ru,⟨rfl,fun ys hy=>by rw[I.list_inj hy hq];exact hx⟩,st',fun b hb=>(hf b hb).1⟩⟩
 done:=by intro X hP hw hK hc i pins s Y H E I hf st hg;subst hP hw hK;obtain⟨xs,hq,hx⟩:=hg;obtain⟨its,rv,p,hz⟩:=I.list hq;obtain⟨f0,f1,f2,f3,f4,f5⟩:=hf it (by simp);have hl:=rv.length;exact wpAny_pyNext_list_end (I.ok.hd hc) st p.isList (by simp;omega) fun h' eb=>⟨rfl,I.turned (t':=s.toks) (fun b o hb e=>eb b o hb e) f0 f1 f3 f4 f5⟩
 self:=fun _ _ _ _ _ st h=>wpAny_pyIter_listiter st h
theorem Fw{P:Program}{w:World}{K:Frag}{tg:Expr}(a it:Addr):gq P w K tg (uo K a) [it] it (fun i h=>h.IsTupleIter it a i) where
 mem:=by simp
 obj:=fun i h st b hb=>by
  have e:b=it:=by simpa using hb
  subst e;obtain⟨o,e,c,d⟩:=st;exact⟨o,e,fun v z=>by rw[d] at z;cases z⟩
 keep:=fun i h h' st k=>st.at fun o e=>k it (by simp) o e
 item:=by intro X hP hw hK hc i pins s Y H E I hf st hg;subst hP hw hK;obtain⟨xs,x,hq,hx⟩:=hg;obtain⟨its,rv,p,hz⟩:=I.tuple hq;obtain⟨u,hu,ru⟩:=rv.get hx;obtain⟨f0,f1,f2,f3,f4,f5⟩:=hf it (by simp);refine wpAny_pyNext_tuple_item st (show s.heap.IsTuple a its.toArray from p) (x:=u) (by simpa using hu) fun h' st' sb=>?_;have I1:Inv X pins Y H { s with heap:=h' }:=I.turned (t':=s.toks) (fun b o hb e=>(sb.2 b hb).trans e) f0 f1 f3 f4 f5;obtain⟨o,e,c,d⟩:=id st';exact⟨u,rfl,pY (s:={ s with heap:=h' }) e c d (by decide) ⟨x,H,I1,ru,⟨rfl,fun ys hy=>by rw[I.tuple_inj hy hq];exact hx⟩,st',fun b hb=>(hf b hb).1⟩⟩
 done:=by intro X hP hw hK hc i pins s Y H E I hf st hg;subst hP hw hK;obtain⟨xs,hq,hx⟩:=hg;obtain⟨its,rv,p,hz⟩:=I.tuple hq;obtain⟨f0,f1,f2,f3,f4,f5⟩:=hf it (by simp);have hl:=rv.length;exact wpAny_pyNext_tuple_end (I.ok.hd hc) st (show s.heap.IsTuple a its.toArray from p) (by simp;omega) fun h' eb=>⟨rfl,I.turned (t':=s.toks) (fun b o hb e=>eb b o hb e) f0 f1 f3 f4 f5⟩
 self:=fun _ _ _ _ _ st h=>wpAny_pyIter_tupleiter st h
theorem Fy{P:Program}{w:World}{K:Frag}{tg:Expr}(it:Addr)(lo:Int)(n:Nat):gq P w K tg (pZ lo n) [it] it (fun i h=>IsRangeIter h it (lo+(i:Nat) * 1) ((n:Int) - (i:Nat)) 1) where
 mem:=by simp
 obj:=fun i h st b hb=>by
  have e:b=it:=by simpa using hb
  subst e;exact⟨_,st,fun v z=>by
   have z':Data.fields _=Data.cell v:=z;cases z'⟩
 keep:=fun i h h' st k=>k it (by simp) _ st
 item:=by intro X hP hw hK hc i pins s Y H E I hf st hg;subst hP hw hK;obtain⟨f0,f1,f2,f3,f4,f5⟩:=hf it (by simp);have W:=Walks.range (prog:=X.prog) (w:=X.w) (I.ok.hd hc) it lo 1 n;refine W.item i s _ _ hg st fun v h' tk hv st' kk=>?_;obtain⟨t,rfl⟩:=hv;have I1:Inv X pins Y H { s with heap:=h',toks:=tk }:=I.turned (fun b o hb e=>kk b o (by simpa using hb) e) f0 f1 f3 f4 f5;refine⟨_,rfl,pY (s:={ s with heap:=h',toks:=tk }) (n:="range_iterator") st' rfl rfl (by decide) ⟨.int (lo+i),H,I1,⟨t,?_⟩,⟨rfl,rfl⟩,st',fun b hb=>(hf b hb).1⟩⟩;rw[Int.mul_one]
 done:=by intro X hP hw hK hc i pins s Y H E I hf st hg;subst hP hw hK;obtain⟨f0,f1,f2,f3,f4,f5⟩:=hf it (by simp);exact wpAny_pyNext_range_end (I.ok.hd hc) st (by have:n<=i:=hg;omega) fun h' eb=>⟨rfl,I.turned (t':=s.toks) (fun b o hb e=>eb b o hb e) f0 f1 f3 f4 f5⟩
 self:=fun _ _ _ _ _ st h=>wpAny_pyIter_rangeiter st h
section
variable{X:Cx}{y:Expr}
noncomputable def Fz(K:Frag)(c:TE):TI:=fun Y H R=>c Y H fun x b=>∃a,x=.ref a/\(∃d,cJ K b a d)/\R (um K a) b
noncomputable def FC(K:Frag)(c:TE):TI:=fun Y H R=>c Y H fun x b=>∃a,x=.ref a/\(∃d,fR K b a d)/\R (uo K a) b
theorem FF{l:Expr}{f:TE}(g:PE X l f):PI X y l (Fz X.K f):=by
 intro c s Y H R I h;refine aK (g c s Y H _ I h) fun v d ⟨x,i,I1,j,k⟩=>?_;obtain⟨a,e,⟨t,m⟩,q⟩:=k;subst e;cases j;obtain⟨n,u,p,w⟩:=I1.list m;refine wpAny_pyIter_list p.isList ?_;refine⟨d.heap.objs.size,[d.heap.objs.size],_,_,i,rfl,I1.kept (t':=d.toks) fun b o e=>bv _ e,Fv a _,⟨_,Heap.get?_push_size _ rfl,rfl,rfl⟩,fun b r=>?_,q⟩;have e:b=d.heap.objs.size:=by simpa using r
 subst e;exact I1.fpOk (bG _) (I1.hok.fresh (bG _))
theorem FH{l:Expr}{g:TE}(i:PE X l g):PI X y l (FC X.K g):=by
 intro c s Y H R I h;refine aK (i c s Y H _ I h) fun v d ⟨x,j,I1,k,m⟩=>?_;obtain⟨a,e,⟨t,n⟩,q⟩:=m;subst e;cases k;obtain⟨f,u,p,w⟩:=I1.tuple n;refine wpAny_pyIter_tuple (show d.heap.IsTuple a f.toArray from p) ?_;refine⟨d.heap.objs.size,[d.heap.objs.size],_,_,j,rfl,I1.kept (t':=d.toks) fun b o e=>bv _ e,Fw a _,⟨_,Heap.get?_push_size _ rfl,rfl,rfl⟩,fun b r=>?_,q⟩;have e:b=d.heap.objs.size:=by simpa using r
 subst e;exact I1.fpOk (bG _) (I1.hok.fresh (bG _))
theorem FJ{c:List (Addr×Obj)}{Y:St}{H:Hp}{s:Shared}{R:It->Hp->Prop}{E:Value->Shared->Prop}{lo a:Int}{t u v:Tok}{d:Nat}(I:Inv X c Y H s)(i:-(2 ^ 62)<=lo)(j:lo<2 ^ 62)(k:-(2 ^ 62)<=a)(f:a<2 ^ 62)
  (q:R (pZ lo (a - lo).toNat) H):wpAny (model X.prog X.w) X.A (pyIter (.ref s.heap.objs.size)) (yJ X c Y y R) E { s with heap:=s.heap.push { cls:=.type "range",data:=.fields #[.int lo t,.int a u,.int 1 v] },toks:=d }:=by
 refine wpAny_pyIter_range (IsRange.new ..) (small_one i j k f) ?_;have I1:Inv X c Y H { s with heap:=s.heap.push { cls:=.type "range",data:=.fields #[.int lo t,.int a u,.int 1 v] },toks:=d }:=I.kept fun b o e=>bv _ e;refine⟨(s.heap.push { cls:=.type "range",data:=.fields #[.int lo t,.int a u,.int 1 v] }).objs.size,[(s.heap.push { cls:=.type "range",data:=.fields #[.int lo t,.int a u,.int 1 v] }).objs.size],_,_,H,rfl,
  I1.kept (t':=d) fun b o e=>bv _ e,Fy _ lo (a - lo).toNat,?_,fun b l=>?_,q⟩
 ·have g:lo+((0:Nat):Int) * 1=lo:=by simp
  have h:(((a - lo).toNat:Nat):Int) - ((0:Nat):Int)=Builtin.Range.rangeSize lo a 1:=by rw[rangeSize_one];split<;>omega
  show IsRangeIter _ _ (lo+((0:Nat):Int) * 1) ((((a - lo).toNat:Nat):Int) - ((0:Nat):Int)) 1;rw[g,h];exact Heap.get?_push_size _ rfl
 ·have e:b=(s.heap.push { cls:=.type "range",data:=.fields #[.int lo t,.int a u,.int 1 v] }).objs.size:=by simpa using l
  subst e;exact I1.fpOk (bG _) (I1.hok.fresh (bG _))
noncomputable def FK(a:TA):TI:=fun Y H R=>a Y H fun b c=>∃j:Int,b=[.int j]/\-(2 ^ 62)<=j/\j<2 ^ 62/\R (pZ 0 j.toNat) c
theorem FL{a:Expr}{d:TA}{p pos:Pos}(f:Gl X "range")(g:X.mg "range" = none)(i:PA X [a] d)(k:starEach [a] X.env=[(false,eval a X.env)]:=by rfl):PI X y (.Call (.Name "range" p) [a] [] pos) (FK d):=by
 intro b s Y H R I h;refine Call_ (jO I f g boot_range (PyProof.Rows.callWith_type1 (aK (i pos b s Y H _ I h) fun o u ⟨v,w,I1,l,c⟩=>?_) k rfl));obtain⟨j,e,c,m,q⟩:=c;subst e;cases l with
 | cons r n=>cases n;obtain⟨t,rfl⟩:=r;exact call_range_1 (FJ I1 (by omega) (by omega) c m (by simpa using q))
noncomputable def FP(d:TI)(g:TG)(e:TS):TS:=fun D Y H=>d Y H fun J f=>∃W:Nat->Nat->St->Hp->Prop,(∃m,W 0 m Y f)/\∀i m Y H,W i m Y H->
 (J.stop i H/\D.nx Y H)\/(J.go i H/\∃N:St->Hp->Prop,(∀b a,N b a->∃c,c<m/\W (i+1) c b a)/\∀x a,J.yld i H x a->g x Y a fun h j=>e { D with nx:=N,ct:=N,bk:=D.nx } h j)
noncomputable def lY(a:List Addr)(h:Heap):List (Addr×Obj):=a.filterMap fun b=>(h.get? b).map fun o=>(b,o)
theorem lZ{a:List Addr}{h:Heap}{b:Addr}{o:Obj}(c:b∈a)(e:h.get? b=some o):(b,o)∈lY a h:=List.mem_filterMap.mpr ⟨b,c,by rw[e];rfl⟩
theorem FQ{a:List Addr}{h:Heap}{p:Addr×Obj}(c:p∈lY a h):p.1∈a/\h.get? p.1=some p.2:=by
 obtain⟨b,hb,e⟩:=List.mem_filterMap.mp c;cases q:h.get? b with
 | none=>rw[q] at e;cases e
 | some o=>rw[q] at e;have d:(b,o)=p:=Option.some.inj e;subst d;exact⟨hb,q⟩
theorem Inv.pinned{a:List (Addr×Obj)}{Y:St}{H:Hp}{s:Shared}{c:List Addr}(I:Inv X a Y H s)(h:∀b∈c,fA X a H b)(k:∀b∈c,∃o,s.heap.get? b=some o/\∀v,o.data≠.cell v):Inv X (a++lY c s.heap) Y H s:=
 I.pins_of fun p i=>(List.mem_append.mp i).elim (fun z=>I.pin p (bb _ z)) fun z=>by obtain⟨g,e⟩:=FQ z;obtain⟨j,f1,f2,_⟩:=h p.1 g;obtain⟨o,f,d⟩:=k p.1 g;rw[e] at f;cases f;exact⟨e,j,f1,f2,d⟩
theorem Inv.unpinned{a c:List (Addr×Obj)}{Y:St}{H:Hp}{s:Shared}(I:Inv X (a++c) Y H s):Inv X a Y H s:=I.pins_of fun p b=>I.pin p (bb _ (bf _ b))
theorem FR{iter:Expr}{body:List Stmt}{wi:TI}{g:TG}{tb:TS}{pos:Pos}(B:PassesOwn (model X.prog X.w) X.A X.env X.xe)(hc:X.calm=true)(hi:PI X y iter wi)(hg:PG X y g)(p:PSs X body tb)
  (hs:∀x,foldedSetIterable iter X.env x=pure x:=by intro _;rfl):PS X (.For y iter body [] pos) (FP wi g tb):=by
 intro a s Y H D I h;refine wpAny_For (aK (hi a s Y H _ I h) fun v s1 h1=>aK h1 fun a0 s2 h2=>?_) hs;obtain⟨it,C,tn,J,H2,e,I2,T,R,f2,W,⟨m0,w0⟩,turn⟩:=h2;subst e;have c:∀{q:Hp},(∀b∈C,q b=none)->∀b∈C,fA X a q b:=fun hn b p=>⟨hn b p,(f2 b p).2⟩
 refine codeAny_forLoop_any (fun n s'=>∃i E q,Inv X a E q s'/\tn i s'.heap/\(∀b∈C,q b=none)/\W i n E q) ?_ m0 ⟨0,Y,H2,I2,R,fun b p=>(f2 b p).1,w0⟩;rintro n s3 ⟨i,G,Q,I3,L,M,w3⟩;rcases turn i n G Q w3 with⟨stop,qn⟩ | ⟨go,N,hN,step⟩
 ·refine wpAny_passesOwn B (aK (T.done X rfl rfl rfl hc i a s3 G Q X.xe I3 (c M) L stop) fun r s4 ⟨S,I4⟩=>?_);subst S;exact wpAny_execs_nil ⟨G,Q,I4,qn⟩
 ·refine wpAny_passesOwn B (aK (T.item X rfl rfl rfl hc i a s3 G Q X.xe I3 (c M) L go) fun r s4 ⟨u,S,h4⟩=>?_);subst S;refine wpAny_passesOwn B (aK h4 fun _ s5 ⟨x,H5,I5,r5,y5,z,U⟩=>?_);have Z:=I5.pinned (c U) (T.obj _ _ z);refine wpAny_passesOwn B (aK (hg _ s5 G H5 x u _ Z r5 (step x H5 y5)) fun _ s6 ⟨Y6,H6,I6,q6⟩=>?_);refine wpAny_passesOwn B (aK (p _ s6 Y6 H6 _ I6 q6) fun f s7 t=>?_);have again:∀{j:St}{k:Hp},Inv X (a++lY C s5.heap) j k s7->N j k->∃m,m<n/\∃i E q,Inv X a E q s7/\tn i s7.heap/\(∀b∈C,q b=none)/\W i m E q:=fun {j k} l O=>by obtain⟨m',hm,w7⟩:=hN j k O;refine⟨m',hm,i+1,j,k,l.unpinned,T.keep _ _ _ z fun b p o e=>(l.pin (b,o) (bb _ (bb _ (lZ p e)))).1,fun b p=>?_,w7⟩;obtain⟨o,e,d⟩:=T.obj _ _ z b p;exact(l.pin (b,o) (bb _ (bb _ (lZ p e)))).2.1
  cases f with
  | next=>obtain⟨j,k,l,O⟩:=t;exact again l O
  | cont=>obtain⟨j,k,l,O⟩:=t;exact again l O
  | brk=>obtain⟨j,k,l,t⟩:=t;exact⟨j,k,l.unpinned,t⟩
  | ret v=>obtain⟨x7,j,k,l,r7,t⟩:=t;exact⟨x7,j,k,l.unpinned,r7,t⟩
end
abbrev R2:=V->V->Hp->VK->Prop
def cK(X:Cx)(f:Value->Value->Sem Value)(r:R2):Prop:=
 ∀(a:List (Addr×Obj)) (s:Shared) (Y:St) (H:Hp) (x y:V) (v u:Value) (Q:VK),Inv X a Y H s->bn x v->bn y u->r x y H Q->
  wpAny (model X.prog X.w) X.A (f v u) (EP X a Y Q) X.xe s
def uq(X:Cx)(f:Value->Sem Value)(r:V->Hp->VK->Prop):Prop:=
 ∀(a:List (Addr×Obj)) (s:Shared) (Y:St) (H:Hp) (x:V) (v:Value) (Q:VK),Inv X a Y H s->bn x v->r x H Q->
  wpAny (model X.prog X.w) X.A (f v) (EP X a Y Q) X.xe s
def gL(X:Cx)(f:Value)(r:List V->Hp->VK->Prop):Prop:=
 ∀(a:List (Addr×Obj)) (s:Shared) (Y:St) (H:Hp) (b:List V) (c:List Value) (Q:VK),Inv X a Y H s->bh b c->r b H Q->
  wpAny (model X.prog X.w) X.A (call f c) (EP X a Y Q) X.xe s
noncomputable def nH(r:R2)(a b:TE):TE:=fun Y H Q=>a Y H fun x c=>b Y c fun y d=>r x y d Q
noncomputable def FT(r:V->Hp->VK->Prop)(a:TE):TE:=fun Y H Q=>a Y H fun x b=>r x b Q
noncomputable def rI(C:Int->Int->Prop)(g:Int->Int->V):R2:=fun x y H Q=>∃i j,x=.int i/\y=.int j/\C i j/\Q (g i j) H
noncomputable def iF(g:Int->Int->V):R2:=fun x y H Q=>∃i j,x=.int i/\y=.int j/\Q (g i j) H
noncomputable def rU(g:Int->V):V->Hp->VK->Prop:=fun x H Q=>∃i,x=.int i/\Q (g i) H
section
variable{X:Cx}{a b c:Expr}{z p n:TE}{pos:Pos}
theorem ur(j:PE X a z)(D:PE X b p){d:List (Addr×Obj)}{s:Shared}{Y:St}{H:Hp}{R:V->V->Hp->Prop}(I:Inv X d Y H s)
  (h:z Y H fun x i=>p Y i fun y e=>R x y e) {Q:Value->Shared->Prop}{f:Value->Value->Sem Value}
  (k:∀v u g x y e,Inv X d Y e g->bn x v->bn y u->R x y e->wpAny (model X.prog X.w) X.A (f v u) Q X.xe g) :
  wpAny (model X.prog X.w) X.A (eval a X.env) (fun v l=>wpAny (model X.prog X.w) X.A (eval b X.env) (fun u m=>wpAny (model X.prog X.w) X.A (f v u) Q X.xe m) X.xe l) X.xe s:=by
 refine aK (j d s Y H _ I h) fun v o ⟨x,i,I1,q,r⟩=>?_;refine aK (D d o Y i _ I1 r) fun u g ⟨y,e,t,B,C⟩=>?_;exact k v u g x y e t q B C
theorem FU{op:Operator}{r:R2}(l:cK X (binaryOp op) r)(e:PE X a z)(m:PE X b p):PE X (.BinOp a op b pos) (nH r z p):=by intro d s Y H Q I h;exact wpAny_BinOp (ur e m I h fun v u f x y g i j k q=>l d f Y g x y v u Q i j k q)
theorem FV{op:UnaryOp}{r:V->Hp->VK->Prop}(k:uq X (unaryOp op) r)(e:PE X a z):PE X (.UnaryOp op a pos) (FT r z):=by intro d s Y H Q I h;exact UnaryOp_ (aK (e d s Y H _ I h) fun v f ⟨x,g,I1,i,j⟩=>k d f Y g x v Q I1 i j)
theorem uu{f:Value->Value->Sem Value}{C:Int->Int->Prop}{g:Int->Int->Int}
  (rule:∀(i j:Int) (t u:Tok) (s:Shared) (Q:Value->Shared->Prop) (E:Value->Shared->Prop),C i j->Q (.int (g i j) s.toks) { s with toks:=s.toks+1 }->wpAny (model X.prog X.w) X.A (f (.int i t) (.int j u)) Q E s) :
  cK X f (rI C fun i j=>.int (g i j)):=by
 intro d s Y H x y v u Q I e k h;obtain⟨i,j,rfl,rfl,l,q⟩:=h;obtain⟨t,rfl⟩:=e;obtain⟨t',rfl⟩:=k;exact rule i j t t' s _ _ l ⟨.int (g i j),H,I.tok _,⟨_,rfl⟩,q⟩
theorem yK{f:Value->Value->Sem Value}{g:Int->Int->Int}
  (rule:∀(i j:Int) (t u:Tok) (s:Shared) (Q:Value->Shared->Prop) (E:Value->Shared->Prop),Q (.int (g i j) s.toks) { s with toks:=s.toks+1 }->wpAny (model X.prog X.w) X.A (f (.int i t) (.int j u)) Q E s) :
  cK X f (iF fun i j=>.int (g i j)):=by
 intro d s Y H x y v u Q I e k h;obtain⟨i,j,rfl,rfl,q⟩:=h;obtain⟨t,rfl⟩:=e;obtain⟨t',rfl⟩:=k;exact rule i j t t' s _ _ ⟨.int (g i j),H,I.tok _,⟨_,rfl⟩,q⟩
theorem uv{f:Value->Value->Sem Value}{g:Int->Int->Bool}
  (rule:∀(i j:Int) (t u:Tok) (s:Shared) (Q:Value->Shared->Prop) (E:Value->Shared->Prop),Q (.bool (g i j)) s->wpAny (model X.prog X.w) X.A (f (.int i t) (.int j u)) Q E s) :
  cK X f (iF fun i j=>.bl (g i j)):=by
 intro d s Y H x y v u Q I e k h;obtain⟨i,j,rfl,rfl,q⟩:=h;obtain⟨t,rfl⟩:=e;obtain⟨t',rfl⟩:=k;exact rule i j t t' s _ _ ⟨.bl (g i j),H,I,rfl,q⟩
def uw(i j:Int):Prop:=0<j/\j<1073741824
def nI(i j:Int):Prop:=(-(2 ^ 64)<i/\i<2 ^ 64)\/(-(2 ^ 64)<j/\j<2 ^ 64)
theorem nI.ok{i j:Int}(h:nI i j):IntMulOk i j:=by
 rcases h with⟨h1,h2⟩ | ⟨h1,h2⟩
 ·exact .of_left (intBits_le_64 h1 h2)
 ·exact .of_right (intBits_le_64 h1 h2)
theorem FY:cK X (binaryOp .Add) (iF fun i j=>.int (i+j)):=yK fun _ _ _ _ _ _ _ q=>add_int q
theorem FZ:cK X (binaryOp .Sub) (iF fun i j=>.int (i - j)):=yK fun _ _ _ _ _ _ _ q=>sub_int q
theorem Ga:cK X (binaryOp .Mult) (rI nI fun i j=>.int (i * j)):=uu fun _ _ _ _ _ _ _ d q=>mul_int q d.ok
theorem Gb:cK X (binaryOp .FloorDiv) (rI uw fun i j=>.int (i / j)):=uu fun i j _ _ _ _ _ d q=>by have h1:(0:Int)<j:=d.1;have h2:j<1073741824:=d.2;exact floordiv_int (by omega) (by rw[Int.fdiv_eq_ediv_of_nonneg i (by omega)];exact q) (.inl (PyProof.noPylong_small (by omega)))
theorem Gc:cK X (binaryOp .Mod) (rI (fun _ j=>0<j) fun i j=>.int (i % j)):=uu fun i j _ _ _ _ _ d q=>by have h1:(0:Int)<j:=d;exact mod_int' (by omega) (by rw[Int.fmod_eq_emod_of_nonneg i (by omega)];exact q)
theorem Gd{f:Value->Sem Value}{g:Int->Int}
  (rule:∀(i:Int) (t:Tok) (s:Shared) (Q:Value->Shared->Prop) (E:Value->Shared->Prop),Q (.int (g i) s.toks) { s with toks:=s.toks+1 }->wpAny (model X.prog X.w) X.A (f (.int i t)) Q E s) :
  uq X f (rU fun i=>.int (g i)):=by
 intro d s Y H x v Q I e h;obtain⟨i,rfl,q⟩:=h;obtain⟨t,rfl⟩:=e;exact rule i t s _ _ ⟨.int (g i),H,I.tok _,⟨_,rfl⟩,q⟩
theorem Ge:uq X (unaryOp .USub) (rU fun i=>.int (-i)):=Gd fun _ _ _ _ _ q=>neg_int q
end
section
variable{X:Cx}{a b c:Expr}{A m l:TE}{pos:Pos}
theorem yL{d:List (Addr×Obj)}{Y:St}{H:Hp}{s:Shared}{Q:VK}{k f:Bool}(I:Inv X d Y H s)(q:Q (.bl k) H)(e:k=f):EP X d Y Q (.bool f) s:=by subst e;exact⟨.bl k,H,I,rfl,q⟩
theorem yM:cK X (compareOp .Lt) (iF fun i j=>.bl (decide (i<j))):=uv fun _ _ _ _ _ _ _ q=>lt_int q
theorem qa:cK X (compareOp .LtE) (iF fun i j=>.bl (decide (i<=j))):=uv fun _ _ _ _ _ _ _ q=>le_int q
theorem yN:cK X (compareOp .Gt) (iF fun i j=>.bl (decide (j<i))):=uv fun _ _ _ _ _ _ _ q=>gt_int q
theorem yO:cK X (compareOp .Is) (fun x y H Q=>y=.non/\Q (.bl (decide (x=.non))) H):=by
 intro d s Y H x y v u Q I e f h;obtain⟨rfl,q⟩:=h;cases f;refine is_none_gen (yL I q ?_);cases x<;>first
  | (cases e;rfl)
  | (obtain⟨t,rfl⟩:=e;rfl)
theorem yP:cK X (compareOp .IsNot) (fun x y H Q=>y=.non/\Q (.bl (!decide (x=.non))) H):=by
 intro d s Y H x y v u Q I e f h;obtain⟨rfl,q⟩:=h;cases f;refine isnot_none_gen (yL I q ?_);cases x<;>first
  | (cases e;rfl)
  | (obtain⟨t,rfl⟩:=e;rfl)
theorem bw(b:Expr){op:CmpOp}(h:op≠.In:=by decide)(f:op≠.NotIn:=by decide):behindInMarks op b=false:=by
 have d:(op==CmpOp.In)=false:=by cases op<;>first | rfl | exact absurd rfl h
 have e:(op==CmpOp.NotIn)=false:=by cases op<;>first | rfl | exact absurd rfl f
 cases b<;>simp[behindInMarks,d,e]
theorem Gf{op:CmpOp}{r:R2}(o:cK X (compareOp op) r)(e:PE X a A)(p:PE X b m)(f:behindInMarks op b=false):PE X (.Compare a [op] [b] pos) (nH r A m):=by intro d s Y H Q I h;exact wpAny_Compare1 (ur e p I h fun v u g x y i j k n q=>o d g Y i x y v u Q j k n q) f
noncomputable def Gg(t:TE):TT:=fun Y H Q=>t Y H fun x d=>∃k,x=.bl k/\Q k d
theorem yQ{op:CmpOp}{r:R2}(J:cK X (compareOp op) r)(f:PE X a A)(L:PE X b m)(g:behindInMarks op b=false):PT X (.Compare a [op] [b] pos) (Gg (nH r A m)):=by
 intro d s Y H Q I h;refine wpAny_isTrue_Compare1 (aK (f d s Y H _ I h) fun v i ⟨x,j,I1,n,o⟩=>aK (L d i Y j _ I1 o) fun u p ⟨y,q,t,w,B⟩=>
  aK (J d p Y q x y v u _ t n w B) fun c M ⟨z,C,D,E,k,e,G⟩=>?_) g
 subst e;cases E;exact wpAny_truthy_bool ⟨C,D,G⟩
noncomputable def Gh(r e:R2)(A m l:TE):TE:=fun Y H Q=>A Y H fun x f=>m Y f fun y g=>r x y g fun z d=>∃k,z=.bl k/\
 (if k=true then l Y d fun h i=>e y h i Q else Q (.bl false) d)
theorem Gi{op g:CmpOp}{r j:R2}(ho:cK X (compareOp op) r)(i:cK X (compareOp g) j)(t:PE X a A)(hb:PE X b m)(w:PE X c l)
  (B:lastMarks [op,g] [b,c]=false:=by with_unfolding_all rfl):PE X (.Compare a [op,g] [b,c] pos) (Gh r j A m l):=by
 intro f s Y H Q I h;refine Compare_chain (aK (t f s Y H _ I h) fun v C ⟨x,D,I1,E,G⟩=>chain_link (aK (hb f C Y D _ I1 G) fun u J ⟨y,L,M,n,N⟩=>
  aK (ho f J Y L x y v u _ M E n N) fun d O ⟨z,o,p,R,k,e,q⟩=>?_)) B
 subst e;cases R;refine wpAny_truthy_bool ?_;cases k with
 | false=>exact ite_ff ⟨.bl false,o,p,rfl,q⟩
 | true=>exact ite_tt (chain_last (aK (w f O Y o _ p q) fun S T ⟨z',U,Z,r4,q4⟩=>i f T Y U y z' u S Q Z n r4 q4))
theorem ed:(sizeLine:Nat)<2 ^ 63:=by rw[sizeLine_eq];decide
theorem cV{x:V}{d:List Value}(r:bh [x] d):∃u,d=[u]/\bn x u:=by
 cases r with
 | cons e f=>cases f;exact⟨_,rfl,e⟩
theorem hJ{x y:V}{d:List Value}(r:bh [x,y] d):∃u e,d=[u,e]/\bn x u/\bn y e:=by
 cases r with
 | cons f g=>
  cases g with
  | cons h i=>cases i;exact⟨_,_,rfl,f,h⟩
theorem yR(g:X.calm=true):gL X (.builtin "max") (fun e H Q=>∃i j,e=[.int i,.int j]/\Q (.int (if j>i then j else i)) H):=by
 intro f s Y H e n Q I r h;obtain⟨i,j,rfl,q⟩:=h;obtain⟨u,o,rfl,⟨t,rfl⟩,⟨t',rfl⟩⟩:=hJ r;refine max_two_ints (I.ok.hd g) fun p v k=>⟨_,H,I.kept k,?_,q⟩
 by_cases d:j>i
 ·rw[if_pos d,if_pos d];exact⟨_,rfl⟩
 ·rw[if_neg d,if_neg d];exact⟨_,rfl⟩
end
structure fB (h:Heap) (x dx C:Addr) (mA:Str->Option Value):Prop where
 obj:h.get? x=some (instObj C dx)
 ns:h.Ns1 dx mA
 ne:dx≠x
theorem Gj{h:Heap}{c:Addr}{d:Str->Option Value}(n:h.Ns1 c d):∃f,h.get? c=some f/\∀name,PySem.W.lookIn name f=some (d name):=by
 obtain⟨o,g,m,ho,hd,i,_,j⟩:=n;refine⟨o,ho,fun name=>?_⟩;have e:=j name;unfold nsFind findBy at e;rw[<-Array.find?_toList] at e;unfold PySem.W.lookIn;rw[hd];dsimp only;split
 ·rename_i y q;rw[q] at e;exact congrArg some e
 ·rename_i q;rw[q] at e;have a:g.toList.any (·.refKey)=false:=by rw[List.any_eq_false];intro y k;obtain⟨z,t,b⟩:=i y (Array.mem_toList_iff.mp k);simp[DictEntry.refKey,b]
  have l:¬ g.toList.any (·.refKey)=true:=by rw[a];exact Bool.false_ne_true
  rw[if_neg l];exact congrArg some e
theorem fB.look{h:Heap}{x b C:Addr}{c:Str->Option Value}(I:fB h x b C c):∃a,PySem.W.InstAt h x (instObj C b) C (some a)/\∀name,PySem.W.lookIn name a=some (c name):=
 let⟨a,ho,d⟩:=Gj I.ns
 ⟨a,⟨I.obj,rfl,rfl,ho⟩,d⟩
section
variable{prog:Program}{w:World}{A:Around}{E:Value->Shared->Prop}{s:Shared}{K:Frag}{x q C f:Addr}{k:Str->Option Value}{name:Str}{v:Value}
theorem Gk{expr:Bool}{Q:Value->Shared->Prop}(X:K.In s.heap)(I:fB s.heap x q C k)(b:plainGet K C name=true)(c:PySem.W.hasDictIn K C=true)
  (d:findIn K (.ref C) name=some none) (e:k name=some v) (a:PySem.W.handedIn v=true) (h:Q v { s with toks:=s.toks+1 }) :
  wpAny (model prog w) A (getAttr (.ref x) name expr) Q E s:=by
 obtain⟨i,J,g⟩:=I.look;exact PySem.W.get_value X J (PySem.W.plainGet_of b).1 (PySem.W.findObj_own c d rfl (by rw[g,e])) a h
theorem Gm{i:Sem Bool}{Q:Value×List Value->Shared->Prop}(X:K.In s.heap)(I:fB s.heap x q C k)(a:plainGet K C name=true)
  (b:findIn K (.ref C) name=some (some (.ref f))) (c:PySem.W.isFn K (.ref f)=true) (d:k name=none) (h:Q (.ref f,[.ref x]) s) :
  wpAny (model prog w) A (getMethod (.ref x) name i) Q E s:=by
 obtain⟨e,J,g⟩:=I.look;exact PySem.W.method_fn X J (PySem.W.plainGet_of a).1 (PySem.W.plainGet_of a).2 b (beq_iff_eq.mp c) (by show(PySem.W.lookIn name e).map (·.isSome)=some false;rw[g,d];rfl) h
theorem Gn{m:List Str}{Q:Unit->Shared->Prop}(X:K.In s.heap)(I:fB s.heap x q C k)
  (n:findIn K (.ref C) "__setattr__" = some (some (.builtin "object.__setattr__"))) (o:PySem.W.plainOver K C=true) (p:PySem.W.takerIn K C name=some none) (t:PySem.W.hasDictIn K C=true)
  (u:PySem.Within k m) (z:m.length<=sizeLine)
  (h:∀e,fB e x q C (fun y=>if y=name then some v else k y)->Heap.SameBut q s.heap e->Q () { s with heap:=e,toks:=s.toks+2 }) :
  wpAny (model prog w) A (setAttr (.ref x) name v) Q E s:=by
 obtain⟨L,J,M⟩:=I.look;refine PySem.W.set_plain X J n (PySem.W.osa_open (s:={ s with toks:=s.toks+1 }) (r:=none) X J o p fun b=>?_);obtain⟨N,B,g⟩:=PySem.W.any_some t;have D:s.heap.get? x=some ⟨.ref C,some q,.plain,#[]⟩:=I.obj;refine aw (bo (aw (aw (wpAny_loadPart D (aw (PySem.W.Looks.here (s:={ s with toks:=s.toks+1 }) (PySem.W.looks_clsIn X B) ?_))))));rw[g];refine bo (a:=some q) (aw (bo (aw ?_)));refine wpAny_nsSet1 (s:={ s with toks:=s.toks+1 }) I.ns fun e c d=>?_;obtain⟨O,G,H,i,j,l⟩:=c.count (PySem.Within.cons name v u);refine aw (wpAny_lookBehind i (by rw[j];exact pastItsLine_dict (Nat.le_trans l (by rw[List.length_cons];omega))) ?_);exact bo (h _ ⟨(d.2 _ (Ne.symm I.ne)).trans I.obj,c,I.ne⟩ d)
theorem Go{R:Result->Shared->Prop}{a:List Value}{b:List (Str×Value)}(X:K.In s.heap)(c:PySem.W.makesIn K C=true)
  (e:findIn K (.ref C) "__init__" = some (some (.ref f))) (i:PySem.W.typeIn K (.ref f)=some (.type "function"))
  (h:codeAny (model prog w) (A.under (.builtin "type.__call__" ⟨.ref C::a,b⟩)) (.call (.ref f) ⟨.ref (s.heap.objs.size+1)::a,b⟩) (PySem.W.InitBack (s.heap.objs.size+1) R)
   { s with heap:=(s.heap.push emptyDict).push (instObj C s.heap.objs.size) }) :
  codeAny (model prog w) A (.call (.ref C) ⟨a,b⟩) R s:=by
 obtain⟨j,g,d,t,os⟩:=s;exact PySem.W.make_core (PySem.W.makes_of X c) (PySem.W.looks_findIn X e) (fun self=>PySem.W.bind_fn X self i) (.inl rfl) h
end
noncomputable def cz(f:Str)(v:V):List (Str×V)->List (Str×V)
 | []=>[(f,v)]
 | (g,x)::r=>if g=f then(g,v)::r else(g,x)::cz f v r
theorem yS(f g:Str)(v:V):∀fs:List (Str×V),(cz f v fs).lookup g=if g=f then some v else fs.lookup g
 | []=>by
  show List.lookup g [(f,v)]=_
  by_cases h:g=f
  ·have hb:(g==f)=true:=beq_iff_eq.mpr h;simp only[List.lookup,hb,if_pos h]
  ·have hb:(g==f)=false:=beq_eq_false_iff_ne.mpr h;simp only[List.lookup,hb,if_neg h]
 | (k,x)::r=>by
  have b:=yS f g v r;rw[show cz f v ((k,x)::r)=(if k=f then(k,v)::r else(k,x)::cz f v r) from rfl]
  by_cases a:k=f
  ·rw[if_pos a]
   by_cases h:g=k
   ·have hb:(g==k)=true:=beq_iff_eq.mpr h;simp only[List.lookup,hb,if_pos (h.trans a)]
   ·have hb:(g==k)=false:=beq_eq_false_iff_ne.mpr h;simp only[List.lookup,hb,if_neg (fun e:g=f=>h (e.trans a.symm))]
  ·rw[if_neg a]
   by_cases h:g=k
   ·have hb:(g==k)=true:=beq_iff_eq.mpr h;simp only[List.lookup,hb,if_neg (fun e:g=f=>a (h.symm.trans e))]
   ·have hb:(g==k)=false:=beq_eq_false_iff_ne.mpr h;simp only[List.lookup,hb];exact b
theorem ux(f:Str)(v:V):∀fs:List (Str×V),f∈(cz f v fs).map (·.1)/\∀g,g∈fs.map (·.1)->g∈(cz f v fs).map (·.1)
 | []=>⟨by simp[cz],fun g h=>by simp at h⟩
 | (k,x)::r=>by
  obtain⟨b,c⟩:=ux f v r;rw[show cz f v ((k,x)::r)=(if k=f then(k,v)::r else(k,x)::cz f v r) from rfl]
  by_cases a:k=f
  ·rw[if_pos a];subst a;exact⟨by simp,fun g h=>by simpa using h⟩
  ·rw[if_neg a];refine⟨?_,fun g h=>?_⟩
   ·rw[List.map_cons];exact bN _ b
   ·rw[List.map_cons] at h ⊢;rcases List.mem_cons.mp h with e | e
    ·exact List.mem_cons.mpr (.inl e)
    ·exact bN _ (c g e)
theorem yT(f:Str)(v:V):∀fs:List (Str×V),(cz f v fs).length<=fs.length+1
 | []=>by simp[cz]
 | (k,x)::r=>by
  have b:=yT f v r;rw[show cz f v ((k,x)::r)=(if k=f then(k,v)::r else(k,x)::cz f v r) from rfl]
  by_cases a:k=f
  ·rw[if_pos a,List.length_cons,List.length_cons];omega
  ·rw[if_neg a,List.length_cons,List.length_cons];omega
theorem gp.some_of{v:V}{o:Option Value}(r:gp (some v) o):∃u,o=some u/\bn v u:=by
 cases o with
 | none=>exact(show False from r).elim
 | some u=>exact⟨u,rfl,r⟩
theorem gp.none_of{o:Option Value}(r:gp none o):o=none:=by
 cases o with
 | none=>rfl
 | some u=>exact(show False from r).elim
theorem Gp{v:V}{u:Value}(r:bn v u):PySem.W.handedIn u=true:=by
 cases v with
 | non=>cases(show u=Value.none from r);rfl
 | bl b=>cases(show u=Value.bool b from r);rfl
 | int i=>obtain⟨t,e⟩:=(show ∃t,u=Value.int i t from r);cases e;rfl
 | str x=>obtain⟨t,e⟩:=(show ∃t,u=Value.str x t from r);cases e;rfl
 | byt b=>obtain⟨t,e⟩:=(show ∃t,u=Value.bytes b t from r);cases e;rfl
 | flt b=>obtain⟨t,e⟩:=(show ∃t,u=Value.float b t from r);cases e;rfl
 | ref a=>cases(show u=Value.ref a from r);rfl
 | ty n=>cases(show u=Value.type n from r);rfl
section
variable{P:Program}{w:World}{H i:Hp}{h g:Heap}{a C I:Addr}{fs j:List (Str×V)}
theorem qb(c:HOk P w H h)(e:H a=some (.ins C I fs)):∃b,fB h a I C b/\(∀f,gp (fs.lookup f) (b f))/\PySem.Within b (fs.map (·.1))/\fs.length<=1000/\H I=some (.own a):=by
 obtain⟨d,z,ne,ob,b,n,r,q⟩:=(show cq P w H h a (.ins C I fs) from c a _ e)
 exact⟨b,⟨ob,n,ne⟩,r,q,z,d⟩
end
structure da (K:Frag) (C:Addr):Prop where
 pg:plainGet K C Str.empty=true
 hd:PySem.W.hasDictIn K C=true
 po:PySem.W.plainOver K C=true
 sa:findIn K (.ref C) "__setattr__" = some (some (.builtin "object.__setattr__"))
theorem da.get{K:Frag}{C:Addr}(c:da K C)(f:Str):plainGet K C f=true:=c.pg
def cL(K:Frag)(C:Addr)(f:Str):Prop:=findIn K (.ref C) f=some none
theorem cL.taker{K:Frag}{C:Addr}{f:Str}(n:cL K C f):PySem.W.takerIn K C f=some none:=by unfold PySem.W.takerIn;rw[show findIn K (.ref C) f=some none from n];rfl
structure hU (K:Frag) (C:Addr) (m:Str) (f:Addr):Prop where
 at_:findIn K (.ref C) m=some (some (.ref f))
 fn:PySem.W.isFn K (.ref f)=true
 kp:keepIn K (.ref f)=true
section
variable{X:Cx}{d:List (Addr×Obj)}{Y:St}{H:Hp}{s:Shared}{a C dx:Addr}{fs:List (Str×V)}{f:Str}{v:V}{A:Around}{E:Value->Shared->Prop}
theorem yU{b:Bool}{Q:Value->Shared->Prop}(I:Inv X d Y H s)(e:H a=some (.ins C dx fs))(c:da X.K C)(n:cL X.K C f)(l:fs.lookup f=some v)
  (h:∀u g,Inv X d Y H g->bn v u->Q u g):wpAny (model X.prog X.w) A (getAttr (.ref a) f b) Q E s:=by
 obtain⟨i,O,r,_,_,_⟩:=qb I.hok e;obtain⟨u,j,ru⟩:=gp.some_of (v:=v) (o:=i f) (by rw[<-l];exact r f);exact Gk I.kIn O (c.get f) c.hd n j (Gp ru) (h u _ (I.tok _) ru)
theorem yV{m:Str}{g:Addr}{j:Sem Bool}{Q:Value×List Value->Shared->Prop}(I:Inv X d Y H s)(e:H a=some (.ins C dx fs))(c:da X.K C)(k:hU X.K C m g)(l:fs.lookup m=none)
  (h:Q (.ref g,[.ref a]) s):wpAny (model X.prog X.w) A (getMethod (.ref a) m j) Q E s:=by
 obtain⟨b,O,r,_,_,_⟩:=qb I.hok e;have i:b m=none:=gp.none_of (by rw[<-l];exact r m);exact Gm I.kIn O (c.get m) k.at_ k.fn i h
theorem yW{y:V}{u:Value}{Q:Unit->Shared->Prop}(I:Inv X d Y H s)(e:H a=some (.ins C dx fs))(c:da X.K C)(n:cL X.K C f)(M:fs.length<1000)(p:bn y u)
  (h:∀j,Inv X d Y (aM H a (.ins C dx (cz f y fs))) j->Q () j):wpAny (model X.prog X.w) A (setAttr (.ref a) f u) Q E s:=by
 obtain⟨k,O,r,l,_,m⟩:=qb I.hok e;have t:(fs.map (·.1)).length<=sizeLine:=by rw[List.length_map,sizeLine_eq];omega
 refine Gn I.kIn O c.sa c.po n.taker c.hd l t fun B i D=>h _ ?_;have hd:∃o,B.get? dx=some o:=let⟨o,_,_,G,_⟩:=i.ns;⟨o,G⟩;refine I.write (x:=a) (e:=dx) (by rw[e];exact True.intro) (.inr m) (fun b q L z=>(D.2 b L).trans z) hd ?_;refine⟨by rw[bi O.ne];exact m,?_,O.ne,i.obj,_,i.ns,fun g=>?_,fun g J=>?_⟩
 ·have:=yT f y fs;omega
 ·show gp ((cz f y fs).lookup g) (if g=f then some u else k g);rw[yS]
  by_cases q:g=f
  ·rw[if_pos q,if_pos q];exact p
  ·rw[if_neg q,if_neg q];exact r g
 ·by_cases q:g=f
  ·rw[q];exact(ux f y fs).1
  ·refine(ux f y fs).2 g (l g fun z=>J ?_);show(if g=f then some u else k g)=none;rw[if_neg q];exact z
theorem Inv.made(I:Inv X d Y H s):Inv X d Y (aM (aM H s.heap.objs.size (.own (s.heap.objs.size+1))) (s.heap.objs.size+1) (.ins C s.heap.objs.size []))
  { s with heap:=(s.heap.push emptyDict).push (instObj C s.heap.objs.size) }:=by
 have c:(s.heap.push emptyDict).get? s.heap.objs.size=some emptyDict:=Heap.get?_push_size s.heap rfl;have g:((s.heap.push emptyDict).push (instObj C s.heap.objs.size)).get? (s.heap.objs.size+1)=some (instObj C s.heap.objs.size):=by
  have:=Heap.get?_push_size (s.heap.push emptyDict) (o:=instObj C s.heap.objs.size) rfl
  rwa [Heap.size_push] at this
 have h:(s.heap.push emptyDict).Ns s.heap.objs.size (fun _=>none):=⟨emptyDict,#[],_,c,rfl,(fun e i=>absurd i (by simp)),fun _=>rfl⟩
 have I1:=I.laid (a:=s.heap.objs.size) (o:=.own (s.heap.objs.size+1)) (h':=s.heap.push emptyDict) (t':=s.toks) (fun b u q=>bv _ q) (bG _) ⟨_,c⟩;refine I1.laid (a:=s.heap.objs.size+1) (o:=.ins C s.heap.objs.size []) (t':=s.toks) (fun b u q=>bv _ q) (Nat.le_of_eq (Heap.size_push _ _)) ?_;have ne:s.heap.objs.size≠s.heap.objs.size+1:=Nat.ne_of_lt (Nat.lt_succ_self _);refine⟨by rw[bi ne,cj],Nat.zero_le _,ne,g,fun _=>none,(Heap.Ns1.of_empty h).at fun o q=>bv _ q,fun _=>True.intro,fun y j=>absurd rfl j⟩
theorem Gq{b:Program}{w:World}{c:Env}{e:Expr}{f:Str}{pos:Pos}{s:Shared}{Q:Value->Shared->Prop}(i:attributeBase e f c (eval e c)=eval e c)
  (h:wpAny (model b w) A (eval e c) (fun o g=>wpAny (model b w) A (getAttr o f true) Q E g) E s):wpAny (model b w) A (eval (.Attribute e f pos) c) Q E s:=
 Attribute_any_ h (by rw[arm_eval_Attribute,i])
end
noncomputable def Gr(K:Frag)(c:TE)(f:Str):TE:=fun Y H Q=>c Y H fun x b=>∃a C d fs v,x=.ref a/\b a=some (.ins C d fs)/\da K C/\cL K C f/\fs.lookup f=some v/\Q v b
noncomputable def Gs(K:Frag)(d e:TE)(f:Str):TS:=fun D Y H=>e Y H fun y g=>d Y g fun x b=>∃a C c fs,x=.ref a/\b a=some (.ins C c fs)/\da K C/\cL K C f/\fs.length<1000/\
 D.nx Y (aM b a (.ins C c (cz f y fs)))
def yX(X:Cx)(op:Operator)(rd:V->V->Hp->VK->Prop):Prop:=
 ∀(a:List (Addr×Obj)) (s:Shared) (Y:St) (H:Hp) (x y:V) (u v:Value) (Q:VK),Inv X a Y H s->bn x u->bn y v->rd x y H Q->wpAny (model X.prog X.w) X.A (inplaceOp op u v) (EP X a Y Q) X.xe s
noncomputable def Gu(K:Frag)(g h:TE)(rd:V->V->Hp->VK->Prop)(f:Str):TS:=fun D Y H=>g Y H fun x d=>∃a C i fs v,x=.ref a/\d a=some (.ins C i fs)/\da K C/\cL K C f/\fs.lookup f=some v/\
 h Y d fun y j=>rd v y j fun z e=>∃c b,e a=some (.ins C c b)/\b.length<1000/\D.nx Y (aM e a (.ins C c (cz f z b)))
section
variable{X:Cx}{o e value:Expr}{f:Str}{pos r tpos:Pos}{ta tv:TE}
theorem me(d:PE X e ta)(m:attributeBase e f X.env (eval e X.env)=eval e X.env):PE X (.Attribute e f pos) (Gr X.K ta f):=by intro b s Y H Q I h;refine Gq m (aK (d b s Y H _ I h) fun u p ⟨x,g,I1,i,a,C,t,fs,v,ex,j,c,n,l,q⟩=>?_);subst ex;obtain rfl:u=Value.ref a:=i;exact yU I1 j c n l fun w y k ru=>⟨v,g,k,ru,q⟩
theorem qc(d:PE X o ta)(g:PE X value tv)(i:swapsWith value (some (.Attribute o f r)) pos.line X.env=pure false):PS X (.Assign [.Attribute o f r] value pos) (Gs X.K ta tv f):=by intro b s Y H D I h;refine plainObj_wpAny_Assign_Attribute (aK (g b s Y H _ I h) fun u j ⟨y,k,I1,m,q⟩=>aK (d b j Y k _ I1 q) fun p B ⟨x,E,t,v,a,C,G,fs,ex,w,c,n,l,z⟩=>?_) i;subst ex;obtain rfl:p=Value.ref a:=v;exact yW t w c n l m fun J A=>⟨Y,_,A,z⟩
theorem Gv{op:Operator}{rd:V->V->Hp->VK->Prop}(i:PE X o ta)(j:PE X value tv)(d:yX X op rd):PS X (.AugAssign (.Attribute o f tpos) op value pos) (Gu X.K ta tv rd f):=by intro b s Y H D I h;refine wpAny_AugAssign_AttributeAny (aK (i b s Y H _ I h) fun k Z ⟨x,m,I1,p,a,C,dx,fs,v,ex,t,c,n,l,q⟩=>?_);subst ex;obtain rfl:k=Value.ref a:=p;refine yU I1 t c n l fun u w A ru=>aK (j b w Y m _ A q) fun B E ⟨y,G,J,L,M⟩=>aK (d b E Y G v y u B _ J ru L M) fun w4 s4 ⟨z,H3,N,O,Q,R,g,S,T⟩=>?_;exact yW N g c n S O fun s5 U=>⟨Y,_,U,T⟩
noncomputable def Gw:V->V->Hp->VK->Prop:=fun x y H Q=>∃i j,x=.int i/\y=.int j/\Q (.int (i+j)) H
theorem Gx:yX X .Add Gw:=by
 rintro a s Y H x y u v Q I b c ⟨i,j,rfl,rfl,q⟩;obtain⟨t,rfl⟩:=(show ∃t,u=Value.int i t from b)
 obtain⟨t',rfl⟩:=(show ∃t',v=Value.int j t' from c)
 exact PyProof.Rows.iadd_int ⟨.int (i+j),H,I.tok _,⟨_,rfl⟩,q⟩
end
section
variable{X:Cx}{pins:List (Addr×Obj)}{Y:St}{H:Hp}{s:Shared}{A:Around}{E:Value->Shared->Prop}{Q:Value->Shared->Prop}{c:Value}{b:Bool}
inductive dc (K:Frag) (H:Hp):V->Value->Prop where
 | non:dc K H .non (.type "NoneType")
 | bl (x:Bool):dc K H (.bl x) (.type "bool")
 | int (i:Int):dc K H (.int i) (.type "int")
 | str (x:Str):dc K H (.str x) (.type "str")
 | flt (x:UInt64):dc K H (.flt x) (.type "float")
 | lst {a:Addr}{xs:List V}(e:H a=some (.lst xs)):dc K H (.ref a) (.type "list")
 | frz {a:Addr}{o:Obj}{xs:List V}(e:H a=some (.frz o (.lst xs))):dc K H (.ref a) (.type "list")
 | tup {a:Addr}{xs:List V}(e:H a=some (.tup xs)):dc K H (.ref a) (.type "tuple")
 | dK {a:Addr}{kvs:List (bd×V)}(e:H a=some (.dK kvs)):dc K H (.ref a) (.type "dict")
 | dT {a:Addr}{kvs:List (List bd×V)}(e:H a=some (.dT kvs)):dc K H (.ref a) (.type "dict")
 | ins {a C dx:Addr}{fs:List (Str×V)}(e:H a=some (.ins C dx fs)) (cl:da K C) (ha:findIn K (.ref C) "__class__" = some (some (.builtin "object.__class__")))
   (hn:PySem.W.specialIn K (.builtin "object.__class__") "__get__" = some (some (.builtin "getset_descriptor.__get__"))) (htk:PySem.W.takesIn K (.builtin "object.__class__")=some true)
   (hm:mroIn K C (.type "object")=some true):dc K H (.ref a) (.ref C)
theorem nJ{x:V}{u t:Value}(I:Inv X pins Y H s)(d:bn x u)(G:dc X.K H x t)(e:kitOne X.K t c=some b)(h:∀l,Q (.bool b) { s with toks:=l }) :
  wpAny (model X.prog X.w) A (call (.builtin "isinstance") [u,c]) Q E s:=by
 cases G with
 | non=>cases(show u=Value.none from d);exact kia_one PySem.W.kitx_none I.kIn True.intro e (fun z=>nomatch z) h
 | bl y=>cases(show u=Value.bool y from d);exact kia_one PySem.W.kitx_bool I.kIn True.intro e (fun z=>nomatch z) h
 | int i=>obtain⟨t,q⟩:=(show ∃t,u=Value.int i t from d);cases q;exact kia_one PySem.W.kitx_int I.kIn True.intro e (fun z=>nomatch z) h
 | str y=>obtain⟨t,q⟩:=(show ∃t,u=Value.str y t from d);cases q;exact kia_one PySem.W.kitx_str I.kIn True.intro e (fun z=>nomatch z) h
 | flt y=>obtain⟨t,q⟩:=(show ∃t,u=Value.float y t from d);cases q;exact kia_one PySem.W.kitx_float I.kIn True.intro e (fun z=>nomatch z) h
 | @lst a j f=>
  cases(show u=Value.ref a from d);obtain⟨_,_,n,_,h1⟩:=(show cq X.prog X.w H s.heap a (.lst j) from I.hok a _ f)
  exact kia_one PySem.W.kitx_list I.kIn ⟨_,h1,rfl⟩ e (fun z=>nomatch z) h
 | @frz a ob j f=>
  cases(show u=Value.ref a from d);obtain⟨_,_,_,n,_,h1⟩:=(show cq X.prog X.w H s.heap a (.frz ob (.lst j)) from I.hok a _ f)
  exact kia_one PySem.W.kitx_list I.kIn ⟨_,h1,rfl⟩ e (fun z=>nomatch z) h
 | @tup a j f=>
  cases(show u=Value.ref a from d);obtain⟨_,_,_,p⟩:=(show cq X.prog X.w H s.heap a (.tup j) from I.hok a _ f)
  obtain⟨o,h1,h2,_⟩:=p;exact kia_one PySem.W.kitx_tuple I.kIn ⟨o,h1,h2⟩ e (fun z=>nomatch z) h
 | @dK a g f=>
  cases(show u=Value.ref a from d);obtain⟨_,_,L,_,p⟩:=(show cq X.prog X.w H s.heap a (.dK g) from I.hok a _ f)
  obtain⟨o,m,r,h1,h2,_⟩:=p;exact kia_one PySem.W.kitx_dict I.kIn ⟨o,h1,h2.1⟩ e (fun z=>nomatch z) h
 | @dT a g f=>
  cases(show u=Value.ref a from d);obtain⟨_,_,j,_,o,m,r,h1,h2,_⟩:=(show cq X.prog X.w H s.heap a (.dT g) from I.hok a _ f)
  exact kia_one PySem.W.kitx_dict I.kIn ⟨o,h1,h2.1⟩ e (fun z=>nomatch z) h
 | @ins a C M fs f cl v B k D=>cases(show u=Value.ref a from d);obtain⟨N,O,_⟩:=qb I.hok f;obtain⟨R,J,_⟩:=O.look;exact kia_one (PySem.W.kitx_own (cl.get _) cl.hd v B k D) I.kIn J e (fun z=>nomatch z) h
end
structure br (k:Nat) (A:Around):Prop where
 hd:A.handled=none
 dp:A.depth+3 * k+5<recursionLimit
 un:A.units+16 * k+200<cLine
theorem br.mono{j k:Nat}{A:Around}(r:br k A)(h:j<=k):br j A:=⟨r.hd,by have:=r.dp;omega,by have:=r.un;omega⟩
theorem br.deeper{k:Nat}{A:Around}(r:br (k+1) A)(a:Env):br k (A.deeper a):=
 ⟨r.hd,by have:=r.dp;show A.depth+1+3 * k+5<_;omega,by have:=r.un;show A.units+3+16 * k+200<_;omega⟩
theorem Gy{A:Around}{C:Addr}{a:List Value}{b:List (Str×Value)}:(A.under (.builtin "type.__call__" ⟨.ref C::a,b⟩)).depth=A.depth+1:=by first | rfl | simp[Around.under,Code.weight,Code.isCreation,Code.isGuard,Code.isCaller,Code.frames,Code.isFrame,guardIds]
theorem Gz{A:Around}{C:Addr}{a:List Value}{b:List (Str×Value)}:(A.under (.builtin "type.__call__" ⟨.ref C::a,b⟩)).units=A.units+1:=by first | rfl | simp[Around.under,Code.cUnits,Code.frames,Code.isFrame]
theorem br.make{k:Nat}{A:Around}(r:br (k+1) A)(C:Addr)(a:List Value)(b:List (Str×Value)):br k (A.under (.builtin "type.__call__" ⟨.ref C::a,b⟩)):=
 ⟨r.hd,by have:=r.dp;rw[Gy];omega,by have:=r.un;rw[Gz];omega⟩
theorem br.depth{k:Nat}{A:Around}(r:br k A):A.depth<recursionLimit:=by have:=r.dp;omega
theorem br.units{k:Nat}{A:Around}(r:br k A):A.units+64<cLine:=by have:=r.un;omega
noncomputable def yY:TA:=fun _ H Q=>Q [] H
noncomputable def yZ(a:TE)(b:TA):TA:=fun Y H Q=>a Y H fun x c=>b Y c fun d e=>Q (x::d) e
section
variable{X:Cx}{e:Expr}{es:List Expr}{te:TE}{t:TA}{pos:Pos}
theorem er:PA X [] yY:=fun _ _ _ _ H Q I h=>Calls.spliced_nil ⟨[],H,I,.nil,h⟩
theorem dE(b:PE X e te)(c:PA X es t)(d:starEach (e::es) X.env=(false,eval e X.env)::starEach es X.env:=by rfl):PA X (e::es) (yZ te t):=by intro pos a s Y H Q I h;rw[d];show wpAny _ _ (spliced ((false,eval e X.env)::backTo pos (starEach es X.env))) _ _ s;refine Calls.spliced_cons (aK (b a s Y H _ I h) fun u f ⟨x,g,I1,i,j⟩=>?_);exact aK (c pos a f Y g _ I1 j) fun p q ⟨k,l,m,n,o⟩=>⟨x::k,l,m,.cons i n,o⟩
noncomputable def GA(t:TA):TE:=fun Y H Q=>t Y H fun a b=>a.length<=sizeLine/\∀p,b p=none->Q (.ref p) (aM b p (.tup a))
noncomputable def GB(t:TA):TE:=fun Y H Q=>t Y H fun a b=>a.length<=sizeLine/\∀p,b p=none->Q (.ref p) (aM b p (.lst a))
theorem uy{f}(h:PA X es t):PE X (.Tuple es f pos) (GA t):=by intro a s Y H Q I g;refine wpAny_Tuple_spliced (aK (h pos a s Y H _ I g) fun i c ⟨j,d,I1,r,z,q⟩=>⟨by rw[<-r.length];exact z,?_⟩);have k:d c.heap.objs.size=none:=I1.hok.fresh (bG _);refine⟨.ref c.heap.objs.size,aM d c.heap.objs.size (.tup j),I1.laid (t':=c.toks) (fun b u e=>bv _ e) (bG _) ?_,rfl,q _ k⟩;exact⟨z,i,r,⟨_,Heap.get?_push_size _ rfl,rfl,_,rfl⟩⟩
theorem qd(h:PA X es t):PE X (.List es pos) (GB t):=by intro a s Y H Q I f;refine wpAny_List_spliced (aK (h pos a s Y H _ I f) fun g c ⟨i,d,I1,r,z,q⟩=>⟨by rw[<-r.length];exact z,?_⟩);have j:d c.heap.objs.size=none:=I1.hok.fresh (bG _);refine⟨.ref c.heap.objs.size,aM d c.heap.objs.size (.lst i),I1.laid (t':=c.toks) (fun b u e=>bv _ e) (bG _) ?_,rfl,q _ j⟩;exact⟨z,g,0,r,Heap.get?_push_size _ rfl⟩
end
abbrev Sp:=List V->Hp->VK->XK->Prop
abbrev fC:=List Env->Hp->Shared->XK->Value->Shared->Prop
structure dH (P:Program) (w:World) (K:Frag) (mg:Str->Option Value) (base:Heap) (A:Around) (outer:List Env) (s:Shared) (H:Hp):Prop where
 frames:A.frames=some outer
 mod:Mod K mg base
 bs:∀b o,base.get? b=some o->s.heap.get? b=some o/\H b=none
 bsz:base.objs.size<=s.heap.objs.size
 funs:s.heap.FunFrames base outer
 frf:∀b∈bI outer,H b=none
 hok:HOk P w H s.heap
 bare:AllBare s.gens
def CE(a:List Env)(P:Program)(w:World)(H:Hp)(s:Shared)(Q:VK)(u:Value)(b:Shared):Prop:=
 ∃v c,b.os=s.os/\AllBare b.gens/\Un (bI a) [] H c s.heap b.heap/\HOk P w c b.heap/\bn v u/\Q v c
def CR(c:fC)(a:List Env)(P:Program)(w:World)(H:Hp)(s:Shared)(Q:VK)(E:XK)(r:Result)(b:Shared):Prop:=
 match r with
 | .ok (.ret u)=>CE a P w H s Q u b
 | .ok _=>False
 | .error e=>c a H s E e b
structure az (P:Program) (w:World) (K:Frag) (mg:Str->Option Value) (base:Heap) (CX:fC) (k:Nat) (f:Addr) (fd:FuncData) (ps:List Str) (sp:Sp):Prop where
 len:∀vs H Q E,sp vs H Q E->vs.length=ps.length
 run:∀(A:Around) (outer:List Env) (s:Shared) (H:Hp) (args:Args) (us:List Value) (vs:List V) (Q:VK) (E:XK),br k A->dH P w K mg base A outer s H->BindsTo s fd args (ps.zip us)->bh vs us->sp vs H Q E->
  codeAny (model P w) A (.call (.ref f) args) (CR CX outer P w H s Q E) s
theorem az.imp{P:Program}{w:World}{K:Frag}{i:Str->Option Value}{base:Heap}{d:fC}{k:Nat}{f:Addr}{fd:FuncData}{e:List Str}{g c:Sp}(F:az P w K i base d k f fd e g)
  (h:∀b H Q E,c b H Q E->g b H Q E):az P w K i base d k f fd e c:=
 ⟨fun b H Q E q=>F.len b H Q E (h _ _ _ _ q),fun A a s H args j b Q E l m p n o=>F.run A a s H args j b Q E l m p n (h _ _ _ _ o)⟩
theorem dH.make{P:Program}{w:World}{K:Frag}{b:Str->Option Value}{base:Heap}{A:Around}{a:List Env}{s:Shared}{H:Hp}(e:dH P w K b base A a s H)(C:Addr)(c:List Value)(d:List (Str×Value)) :
  dH P w K b base (A.under (.builtin "type.__call__" ⟨.ref C::c,d⟩)) a s H:=⟨by first | exact e.frames | (simpa[Around.under,Code.envs,Code.isFrame,pushEnvs] using e.frames),e.mod,e.bs,e.bsz,e.funs,e.frf,e.hok,e.bare⟩
section
variable{X:Cx}{pins:List (Addr×Obj)}{Y:St}{H:Hp}{s s':Shared}
theorem Inv.env0(I:Inv X pins Y H s):dH X.prog X.w X.K X.mg X.base X.A X.stack s H:=
 ⟨I.ok.frames,I.ok.mod,I.bs,Nat.le_trans I.ok.bsz I.sz,I.stack,I.stkFree,I.hok,I.bare⟩
theorem Inv.after{Q:VK}{u:Value}(I:Inv X pins Y H s)(h:CE X.stack X.prog X.w H s Q u s'):EP X pins Y Q u s':=by obtain⟨v,c,os,bare,un,hok,r,q⟩:=h;obtain⟨e,g,d,t,a⟩:=s';obtain rfl:a = s.os:=os;exact⟨v,c,I.call (h':=e) (g':=g) (d':=d) (t':=t) (ch:=[]) un hok bare (fun b z=>absurd z (by simp)),r,q⟩
end
def gM(K:Frag)(fd:FuncData)(b:List Str)(c:List Value):Prop:=
 ∀(s:Shared) (a:List Value),K.In s.heap->(a++c).length=b.length->BindsTo s fd ⟨a,[]⟩ (b.zip (a++c))
theorem gM.all{K:Frag}{fd:FuncData}{b:List Str}(h:∀a:List Value,a.length=b.length->bindArgs fd ⟨a,[]⟩=pure (b.zip a)):gM K fd b []:=fun s a _ c=>by rw[List.append_nil] at c ⊢;exact .of_eq (h a c)
section
variable{X:Cx}{CX:fC}{k:Nat}{f C:Addr}{fd:FuncData}{ps:List Str}{sp:Sp}{dvs:List V}{ds:List Value}{E:XK}{x m:Str}{p pos apos:Pos}{e o:Expr}{es:List Expr}{ta:TE}{t:TA}
structure Mk (K:Frag) (C f:Addr):Prop where
 makes:PySem.W.makesIn K C=true
 init:findIn K (.ref C) "__init__" = some (some (.ref f))
 fn:PySem.W.isFn K (.ref f)=true
 kp:keepIn K (.ref C)=true
end
def PK(X:Cx)(b:List Keyword)(t:TA):Prop:=
 ∀(pos:Pos) (a:List (Addr×Obj)) (s:Shared) (Y:St) (H:Hp) (Q:List V->Hp->Prop),Inv X a Y H s->t Y H Q->wpAny (model X.prog X.w) X.A (evalAll ((backToKw pos (keywordEach b X.env)).map (·.2))) (AP X a Y Q) X.xe s
section
variable{X:Cx}{CX:fC}{k:Nat}{f C:Addr}{fd:FuncData}{ps ks:List Str}{sp:Sp}{E:XK}{x m:Str}{p pos apos kpos:Pos}{e o:Expr}{es:List Expr}{kws:List Keyword}{te ta:TE}{t tk:TA}{nm:Option Str}
theorem GC:PK X [] yY:=fun _ _ _ _ H Q I h=>wpAny_evalAll_nil ⟨[],H,I,.nil,h⟩
theorem GD(b:PE X e te)(c:PK X kws t):PK X (⟨nm,e,kpos⟩::kws) (yZ te t):=by intro pos a s Y H Q I h;show wpAny _ _ (evalAll ((do let v <-eval e X.env;standAt pos;pure v)::(backToKw pos (keywordEach kws X.env)).map (·.2))) _ _ s;refine wpAny_evalAll_cons (aw (aK (b a s Y H _ I h) fun u d ⟨x,g,I1,i,j⟩=>aw (wpAny_standAt (bo ?_))));exact aK (c pos a d Y g _ I1 j) fun y z ⟨l,n,q,r,w⟩=>⟨x::l,n,q,.cons i r,w⟩
end
structure aa (N P:List Str) (sc:Scope):Prop where
 kind:sc.kind=.function
 co:sc.isCoroutine=false
 gen:sc.isGenerator=false
 nd:N.Nodup
 pre:N.take P.length=P
 par:∀x∈P,sc.names.lookup x=some .local\/sc.names.lookup x=some .cell
 nofree:∀y∈sc.names,y.2≠.free
theorem za{kindOf:Str->Option NameKind}{x:Str}:∀{binds:List (Str×Value)}{m:Str->Option Value},(∀v,(x,v)∉binds)->bindL kindOf binds m x=m x
 | [],_,_=>rfl
 | (n,v)::r,m,h=>by
  unfold bindL;rw[za fun w a=>h w (bN _ a)];split
  ·have:x≠n:=by rintro rfl;exact h v List.mem_cons_self
   simp[this]
  ·rfl
theorem zb{kindOf:Str->Option NameKind}{x:Str}:∀{binds:List (Str×Value)}{m:Str->Option Value},(∀v,(x,v)∉binds)->bindC kindOf binds m x=m x
 | [],_,_=>rfl
 | (n,v)::r,m,h=>by
  unfold bindC;rw[zb fun w a=>h w (bN _ a)];split
  ·rfl
  ·have:x≠n:=by rintro rfl;exact h v List.mem_cons_self
   simp[this]
theorem zc{kindOf:Str->Option NameKind}{x:Str}{v:Value}:∀{P:List Str}{a:List Value}{i:Nat}{m:Str->Option Value},P.Nodup->P[i]? = some x->a[i]? = some v->kindOf x=some .local->
  bindL kindOf (P.zip a) m x=some v
 | [],_,_,_,_,h,_,_=>by simp at h
 | _::_,[],_,_,_,_,h,_=>by simp at h
 | p::P,w::a,0,m,nd,h1,h2,b=>by simp at h1 h2;subst h1;subst h2;show bindL kindOf ((p,w)::P.zip a) m p=_;unfold bindL;rw[za fun v c=>(List.nodup_cons.mp nd).1 (List.of_mem_zip c).1,if_pos b];simp
 | p::P,w::a,i+1,m,nd,h1,h2,b=>by show bindL kindOf ((p,w)::P.zip a) m x=_;unfold bindL;exact zc (i:=i) (List.nodup_cons.mp nd).2 (by simpa using h1) (by simpa using h2) b
theorem zd{kindOf:Str->Option NameKind}{x:Str}{v:Value}:∀{P:List Str}{a:List Value}{i:Nat}{m:Str->Option Value},P.Nodup->P[i]? = some x->a[i]? = some v->kindOf x≠some .local->
  bindC kindOf (P.zip a) m x=some v
 | [],_,_,_,_,h,_,_=>by simp at h
 | _::_,[],_,_,_,_,h,_=>by simp at h
 | p::P,w::a,0,m,nd,h1,h2,b=>by simp at h1 h2;subst h1;subst h2;show bindC kindOf ((p,w)::P.zip a) m p=_;unfold bindC;rw[zb fun v c=>(List.nodup_cons.mp nd).1 (List.of_mem_zip c).1,if_neg b];simp
 | p::P,w::a,i+1,m,nd,h1,h2,b=>by show bindC kindOf ((p,w)::P.zip a) m x=_;unfold bindC;exact zd (i:=i) (List.nodup_cons.mp nd).2 (by simpa using h1) (by simpa using h2) b
noncomputable def start(N:List Str)(a:List V):St:=a.map some++List.replicate (N.length - a.length) none
noncomputable def jr(CX:fC)(P:Program)(w:World)(K:Frag)(mg:Str->Option Value)(base:Heap)(N:List Str)(qual:Str)(scope:Scope)(f:Addr)(cd:Value)(A:Around)(outer:List Env)(s:Shared)(H:Hp)(E:XK):Cx where
 prog:=P
 w:=w
 K:=K
 mg:=mg
 base:=base
 A:=A.deeper (envOfC qual scope s.heap.objs.size f cd)
 N:=N
 s₀:=s
 H₀:=H
 env:=envOfC qual scope s.heap.objs.size f cd
 outer:=outer
 stack:=envOfC qual scope s.heap.objs.size f cd::outer
 ex:=[]
 calm:=true
 fn:=fun _=>true
 pn:=[]
 xe:=fun e s'=>wpAny (model P w) (A.deeper (envOfC qual scope s.heap.objs.size f cd)) (leaving (envOfC qual scope s.heap.objs.size f cd) e) (fun _ s''=>CX outer H s E e s'') (fun e' s''=>CX outer H s E e' s'') s'
theorem ze{a:Scope}{n:Nat}{x:Str}(h:a.names.lookup x=some .cell):∃c,(cellsFrom n a.names []).lookup x=some c:=by have q:=PySem.W.cellsFrom_some a.names n [] (.inl h);exact Option.isSome_iff_exists.mp q
theorem zf{CX:fC}{P:Program}{w:World}{K:Frag}{L:Str->Option Value}{base:Heap}{N m:List Str}{qual:Str}{d:Scope}{f:Addr}{cd:Value}{A:Around}{g:List Env}{s M:Shared}{H:Hp}{E:XK}{J:List Value}{o:List V}
  (S:aa N m d) (hd:A.handled=none) (l:dH P w K L base A g s H) (X:o.length=m.length) (r:bh o J)
  (x:InCallC s s.heap.objs.size (bindL (envOfC qual d s.heap.objs.size f cd).kindOf (m.zip J) fun _=>none) (cellsFrom (s.heap.objs.size+1) d.names []) (bindC (envOfC qual d s.heap.objs.size f cd).kindOf (m.zip J) fun _=>none) M) :
  Inv (jr CX P w K L base N qual d f cd A g s H E) [] (start N o) H M:=by
 have R:m.length<=N.length:=by have:=congrArg List.length S.pre;rw[List.length_take] at this;omega
 obtain⟨I,Y,rfl,O⟩:=x.done;have t:∀b:Addr,b∉(jr CX P w K L base N qual d f cd A g s H E).ex:=fun b z=>absurd (show b∈([]:List Addr) from z) (by simp);refine⟨⟨l.mod,S.kind,rfl,rfl,bG _,fun y z c I j=>?_,fun y B=>?_,fun y c _ h=>?_,fun _=>hd,Around.frames_deeper l.frames,.inr ⟨rfl,rfl⟩,fun b z=>absurd z (t b),l.bs,l.bsz,fun b _ _=>t b,fun b z=>absurd z (t b),l.funs,l.frf⟩,
  rfl,l.bare,Un.kept O,⟨_,x.toInCall.ns,fun i y v I j Z=>?_⟩,fun y c h=>⟨_,x.cell y c h⟩,l.hok.fresh (bG _),fun y c h=>?_,fun p C=>absurd (show p∈([]:List (Addr×Obj)) from C) (by simp),l.hok.kept O,?_⟩
 ·exact name_of_addr x.apart (PySem.mem_of_lookup I) (PySem.mem_of_lookup j)
 ·have B:d.names.lookup y=some .cell\/d.names.lookup y=some .free:=B;rcases B with B | B
  ·exact ze B
  ·exact absurd rfl (S.nofree _ (PySem.mem_of_lookup B))
 ·exact Nat.le_of_lt (x.above y c (PySem.mem_of_lookup h))
 ·have G:i<o.length:=by
   unfold start at j
   by_cases G:i<o.length
   ·exact G
   ·rw[List.getElem?_append_right (by simpa using G)] at j;rw[List.getElem?_replicate] at j;split at j<;>cases j
  have T:o[i]? = some v:=by
   unfold start at j;rw[List.getElem?_append_left (by simpa using G),List.getElem?_map] at j;cases e:o[i]? with
   | none=>rw[e] at j;cases j
   | some a=>rw[e] at j;cases j;rfl
  obtain⟨u,Q,U⟩:=r.get T;have C:m[i]? = some y:=by rw[<-S.pre,List.getElem?_take_of_lt (by omega)];exact I
  have D:m.Nodup:=by rw[<-S.pre];exact S.nd.sublist (List.take_sublist _ _)
  refine⟨u,U,?_⟩;rcases S.par y (List.mem_of_getElem? C) with k | k
  ·exact .inl ⟨k,zc D C Q k⟩
  ·obtain⟨c,e⟩:=ze (n:=s.heap.objs.size+1) k;refine .inr ⟨.inl k,c,e,?_⟩;have q:=x.cell y c e;rw[zd D C Q (by show d.names.lookup y≠_;rw[k];decide)] at q;exact q
 ·exact l.hok.fresh (Nat.le_of_lt (x.above y c (PySem.mem_of_lookup h)))
 ·unfold start;show _=N.length;rw[List.length_append,List.length_map,List.length_replicate];omega
theorem GG{D:fC}{P:Program}{w:World}{K:Frag}{M:Str->Option Value}{base:Heap}{k:Nat}{f:Addr}{name d:Str}{h:Arguments}{body:List Stmt}{a:Scope}{dV kV z pm g ct oc:Value}{an od:Option Addr}
  {O:Array (Option Value)}{N G:List Str}{R:Sp}(lk:K.lookup f=some ⟨oc,od,.func (fnOf name d h body a dV kV z pm an g ct),O⟩) (T:codeIn K g d=true) (S:aa N G a)
  (len:∀i H Q E,R i H Q E->i.length=G.length)
  (l:∀(A:Around) (c:List Env) (s:Shared) (H:Hp) (i:List V) (Q:VK) (E:XK),br k (A.deeper (envOfC d a s.heap.objs.size f g))->R i H Q E->
   ∃t,PSs (jr D P w K M base N d a f g A c s H E) body t/\t { nx:=fun _ j=>Q .non j,rt:=Q } (start N i) H) :
  az P w K M base D (k+1) f (fnOf name d h body a dV kV z pm an g ct) G R:=by
 refine⟨len,fun A c s H args us i Q E U B hb r C=>?_⟩;have hl:=len _ _ _ _ C;have KX:K.In s.heap:=B.mod.kin.keeps fun b o e=>(B.bs b o e).1;have X:s.heap.NoLimit:=B.mod.nolimit.keeps fun b o e=>(B.bs b o e).1;have m:∀y∈G.zip us,a.names.lookup y.1=some .local\/(a.names.lookup y.1=some .cell/\((cellsFrom (s.heap.objs.size+1) a.names []).lookup y.1).isSome=true):=fun⟨n,v⟩ hy=>by
  rcases S.par n (List.of_mem_zip hy).1 with q | q
  ·exact .inl q
  ·exact .inr ⟨q,PySem.W.cellsFrom_some _ _ _ (.inl q)⟩
 refine codeAny_call_function U.depth (KX _ _ lk) rfl S.co S.gen rfl (PySem.W.codeRec_of KX T) (hb _ _ _ _ ?_);refine wpAny_newFunctionEnv_cells S.kind m fun a0 he s1 x=>?_;subst he;refine⟨X.keeps x.toInCall.keep,codeAny_func ?_⟩;obtain⟨t,ht,hq⟩:=l A c s H i Q E (U.deeper _) C;have I:Inv (jr D P w K M base N d a f g A c s H E) [] (start N i) H s1:=zf S U.hd B hl r x;refine wpAny_mono (ht [] s1 (start N i) H _ I hq) (fun fl Y p=>?_) fun e Y p=>p;have fin:∀{L:St}{j:Hp}{v:V}{u:Value},Inv (jr D P w K M base N d a f g A c s H E) [] L j Y->bn v u->Q v j->CE c P w H s Q u Y:=
  fun {L j v u} J Z q=>⟨v,j,J.os,J.bare,J.base,J.hok,Z,q⟩
 cases fl with
 | ret u=>obtain⟨v,L,j,J,Z,q⟩:=p;exact fin J Z q
 | next=>obtain⟨L,j,J,q⟩:=p;exact fin (v:=V.non) (u:=Value.none) J rfl q
 | brk=>obtain⟨_,_,_,q⟩:=p;exact False.elim q
 | cont=>obtain⟨_,_,_,q⟩:=p;exact False.elim q
section
variable{X:Cx}{x:Str}{p pos:Pos}{e:Expr}{es:List Expr}{t:TA}{id T:String}{r:List V->Hp->VK->Prop}
noncomputable def uz(r:List V->Hp->VK->Prop)(t:TA):TE:=fun Y H Q=>t Y H fun a b=>r a b Q
theorem mf(d:gL X (.builtin id) r)(f:Gl X x)(g:X.mg x=none)(i:bootBuiltins x=some (.builtin id))(j:PA X (e::es) t)(k:x≠"__name__":=by decide)(b:(x==("__debug__":Str))=false:=by decide)
  (l:starEach (e::es) X.env=(false,eval e X.env)::starEach es X.env:=by rfl) (c:(backTo pos (starEach es X.env)).any (·.1)=false:=by rfl):PE X (.Call (.Name x p) (e::es) [] pos) (uz r t):=by
 intro a s Y H Q I h;refine wpAny_Call_Name_kw (jO I f g i ?_ k b);exact PyProof.Rows.callWith_builtin1 (aK (j pos a s Y H _ I h) fun m n ⟨o,q,I1,u,v⟩=>d a n Y q o m Q I1 u v) l c
theorem zg(d:gL X (.type T) r)(f:Gl X x)(g:X.mg x=none)(i:bootBuiltins x=some (.type T))(j:PA X (e::es) t)(k:x≠"__name__":=by decide)(b:(x==("__debug__":Str))=false:=by decide)
  (l:starEach (e::es) X.env=(false,eval e X.env)::starEach es X.env:=by rfl) (c:(backTo pos (starEach es X.env)).any (·.1)=false:=by rfl):PE X (.Call (.Name x p) (e::es) [] pos) (uz r t):=by
 intro a s Y H Q I h;refine wpAny_Call_Name_kw (jO I f g i ?_ k b);exact PyProof.Rows.callWith_type1 (aK (j pos a s Y H _ I h) fun m n ⟨o,q,I1,u,v⟩=>d a n Y q o m Q I1 u v) l c
end
end L2
namespace HT
open PySem PyProof.Rows
noncomputable def lexLt:List Int->List Int->Bool
 | [],[]=>false
 | [],_::_=>true
 | _::_,[]=>false
 | x::a,y::b=>if x=y then lexLt a b else decide (x<y)
theorem GI(x y:Int)(a b:List Int):lexLt (x::a) (y::b)=if x=y then lexLt a b else decide (x<y):=rfl
theorem GJ:lexLt [] []=false:=rfl
theorem GK(y:Int)(a:List Int):lexLt [] (y::a)=true:=rfl
theorem GL(x:Int)(a:List Int):lexLt (x::a) []=false:=rfl
theorem GN(A:Around)(s:Shared)(a:Int)(t:Tok)(c:Int)(u:Tok):∃e,SeqAt.EqAt A s (.int a t) (.int c u) e/\(e=true↔a=c):=
 ⟨(a==c),SeqAt.EqAt.int_int a t c u,by simp⟩
theorem GO(A:Around)(s:Shared)(a:Int)(t:Tok)(c:Int)(u:Tok)(b:Program)(w:World)(E:Value->Shared->Prop)(Q:Value->Shared->Prop)(h:Q (.bool (decide (a<c))) s) :
  wpAny (model b w) A (richCompare .Lt (.int a t) (.int c u)) Q E s:=
 (PyProof.Rows.lt_int h:wpAny (model b w) A (compareOp .Lt (.int a t) (.int c u)) Q E s)
section
open PySem.SeqAt
open PySem.AutoSeq1 (wpAny_loadPart')
open PySem.MeetsSeq PySem.MeetsSeq2 PySem.MeetsSeq3
theorem GP(l b:Addr)(items f:Array Value)(n Z:Nat)(dd N:Option Addr)(sl O:Array (Option Value))(M G:List Int)(U:IntsAre items.toList M)(X:IntsAre f.toList G) :
  Meets (Builtin.«tuple.__lt__» ⟨[.ref l,.ref b],[]⟩)
   (fun _ R s=>s.heap.get? l=some { cls:=.type "tuple",dict:=dd,data:=.seq items n,slots:=sl }/\s.heap.get? b=some { cls:=.type "tuple",dict:=N,data:=.seq f Z,slots:=O }/\
    R (.ok (.ret (.bool (lexLt M G)))) s):=
 .of_wp fun v w A R s h=>by
  obtain⟨H,g,d,I,os⟩:=s;obtain⟨hl,hb,h⟩:=h;have f2:=AutoSeq1.sub_tuple_tuple;have z1:items.size=M.length:=by rw[<-U.length];simp
  have z2:f.size=G.length:=by rw[<-X.length];simp
  wp_walk using wpAny_loadPart' hl,wpAny_loadPart' hb,wpAny_forIn_list _ (fun rest b Q=>b.1=none/\Q = ⟨H,g,d,I,os⟩/\∃(J L:List Value) (j k:List Int),rest=J.zip L/\
   IntsAre J j/\IntsAre L k/\j.length+f.size=k.length+items.size/\R (.ok (.ret (.bool (lexLt j k)))) ⟨H,g,d,I,os⟩) _
  case turn=>
   rintro⟨y,x⟩ rest b Q ⟨z,rfl,J,L,j,k,m,B,o,i,p⟩;cases B with
   | nil=>rw[List.zip_nil_left] at m;cases m
   | cons a t D=>
    cases o with
    | nil=>rw[List.zip_nil_right] at m;cases m
    | cons c u E=>
     rw[List.zip_cons_cons] at m;injection m with S C
     injection S with hy hx
     subst hy hx;rw[GI] at p;simp only[List.length_cons] at i;obtain⟨e,he,r⟩:=GN A.in1 ⟨H,g,d,I,os⟩ a t c u;refine aw (he v w _ _ ?_);cases e with
     | true=>
      rw[if_pos (r.mp rfl)] at p
      wp_walk
      exact⟨rfl,rfl,_,_,_,_,C,D,E,by omega,p⟩
     | false=>
      rw[if_neg (fun q=>absurd (r.mpr q) Bool.false_ne_true)] at p;have T:=GO A.in1 ⟨H,g,d,I,os⟩ a t c u v w
      wp_walk using T
      exact⟨_,rfl,by simpa using p⟩
  case fin=>
   rintro⟨b1,b2⟩ Q ⟨z,rfl,J,L,j,k,m,B,o,i,p⟩;simp only at z;subst z;have Y:lexLt j k = decide (items.size<f.size):=by
    cases B with
    | nil=>
     cases o with
     | nil=>simp only[List.length_nil] at i;rw[GJ];exact(decide_eq_false (by omega)).symm
     | cons c u hw=>simp only[List.length_nil,List.length_cons] at i;rw[GK];exact(decide_eq_true (by omega)).symm
    | cons a t Y=>
     cases o with
     | nil=>simp only[List.length_nil,List.length_cons] at i;rw[GL];exact(decide_eq_false (by omega)).symm
     | cons c u hw=>rw[List.zip_cons_cons] at m;cases m
   rw[Y] at p
   wp_walk
   exact⟨_,rfl,by simpa[Builtin.Tuple.tupleCompareSizes] using p⟩
  case h=>exact⟨rfl,rfl,items.toList,f.toList,M,G,rfl,U,X,by omega,h⟩
end
section
variable{prog:Program}{w:World}{A:Around}{E:Value->Shared->Prop}{s:Shared}
theorem lt_tupInts{l b:Addr}{items a:Array Value}{g c:List Int}{Q:Value->Shared->Prop}(o:IsTup s.heap l items)(u:IsTup s.heap b a)(p:IntsAre items.toList g)(q:IntsAre a.toList c)
  (r:A.units<cLine) (h:Q (.bool (lexLt g c)) s):wpAny (model prog w) A (compareOp .Lt (.ref l) (.ref b)) Q E s:=by
 obtain⟨⟨cls,dd,data,sl⟩,ho,k,n,hd⟩:=id o;obtain⟨⟨m,i,data2,j⟩,d,e,t,f⟩:=id u;simp only at k hd e f;subst k hd e f;exact richCompare_meets_room (op:=.Lt) ⟨_,ho,rfl⟩ ⟨_,d,rfl⟩ PySem.F.slot_tuple_lt PySem.F.entry_tuple_lt (PySem.F.args_tuple_lt_2 _ _) (GP l b items a n t dd i sl j g c p q)
  ⟨ho,d,show Value.bool (lexLt g c)≠Value.notImplemented/\Q (.bool (lexLt g c)) s from⟨(fun x=>nomatch x),h⟩⟩ r
noncomputable def sIx(n d:Nat):Option Int->Nat
 | none=>d
 | some v=>if v<0 then(v+(n:Int)).toNat else min v.toNat n
theorem sIx_none(n d:Nat):sIx n d none=d:=rfl
theorem sIx_nat(n d k:Nat):sIx n d (some (k:Int))=min k n:=by show(if (k:Int)<0 then((k:Int)+(n:Int)).toNat else min (k:Int).toNat n)=min k n;rw[if_neg (by omega),Int.toNat_natCast]
end
end HT
namespace L2
open PySem PySem.Spec PyProof.Rows
abbrev TO:=St->Hp->(Option Int->Hp->Prop)->Prop
def PO(X:Cx)(e:Option Expr)(t:TO):Prop:=
 ∀(a:List (Addr×Obj)) (s:Shared) (Y:St) (H:Hp) (Q:Option Int->Hp->Prop),Inv X a Y H s->t Y H Q->
  wpAny (model X.prog X.w) X.A (evalPart e X.env) (fun u c=>∃o b,Inv X a Y b c/\IsPart u o/\Q o b) X.xe s
noncomputable def GQ:TO:=fun _ H Q=>Q none H
noncomputable def GR(t:TE):TO:=fun Y H Q=>t Y H fun x a=>∃i,x=.int i/\Q (some i) a
section
variable{X:Cx}{e:Expr}{te:TE}{lo hi:Option Expr}{tl th:TO}{pos p2:Pos}
theorem GS:PO X none GQ:=by intro a s Y H Q I h;rw[evalPart_none];exact bo ⟨none,H,I,.none,h⟩
theorem GU(h:PE X e te):PO X (some e) (GR te):=by intro a s Y H Q I b;rw[evalPart_some];refine aK (h a s Y H _ I b) fun u g ⟨x,c,I1,d,f⟩=>?_;obtain⟨i,rfl,q⟩:=f;obtain⟨t,rfl⟩:=d;exact⟨some i,c,I1,.int i t,q⟩
def zh(X:Cx)(r:V->Option Int->Option Int->Hp->VK->Prop):Prop:=
 ∀(a:List (Addr×Obj)) (s:Shared) (Y:St) (H:Hp) (x:V) (v b c:Value) (lo hi:Option Int) (d:Addr) (Q:VK),Inv X a Y H s->bn x v->s.heap.IsSliceOf d b c .none->IsPart b lo->IsPart c hi->r x lo hi H Q->
  ∃T id,typeLookup (.type T) "__getitem__" = pure (some (.builtin id))/\s.TypeIs v T/\wpAny (model X.prog X.w) X.A (getItem v (.ref d)) (EP X a Y Q) X.xe s
noncomputable def GV(r:V->Option Int->Option Int->Hp->VK->Prop)(te:TE)(tl th:TO):TE:=fun Y H Q=>te Y H fun x a=>tl Y a fun l b=>th Y b fun u c=>r x l u c Q
theorem GW{r:V->Option Int->Option Int->Hp->VK->Prop}(i:zh X r)(j:PE X e te)(k:PO X lo tl)(m:PO X hi th):PE X (.Subscript e (.Slice lo hi none p2) pos) (GV r te tl th):=by intro a s Y H Q I h;refine Subscript_ (aK (j a s Y H _ I h) fun v n ⟨x,o,I1,p,t⟩=>?_);refine wpAny_Slice (aK (k a n Y o _ I1 t) fun d y ⟨l,z,B,pl,C⟩=>aK (m a y Y z _ B C) fun f c ⟨u,g,D,E,G⟩=>?_);rw[evalPart_none];refine bo ?_;have J:Inv X a Y g { c with heap:=c.heap.push { cls:=.type "slice",data:=.fields #[d,f,.none] } }:=D.kept (t':=c.toks) fun b O q=>bv _ q;obtain⟨T,id,L,M,N⟩:=i a { c with heap:=c.heap.push { cls:=.type "slice",data:=.fields #[d,f,.none] } } Y g x v d f l u c.heap.objs.size Q J p (Heap.IsSliceOf.new ..) pl E G;show wpAny (model X.prog X.w) X.A (subscriptTail e (.Slice lo hi none p2) v (.ref c.heap.objs.size)) (EP X a Y Q) X.xe { c with heap:=c.heap.push { cls:=.type "slice",data:=.fields #[d,f,.none] } };exact tail_any (ops:=[.ref c.heap.objs.size,v]) M L N (by with_unfolding_all rfl)
noncomputable def mi(a:List V)(lo hi:Option Int):List V:=(a.drop (HT.sIx a.length 0 lo)).take (HT.sIx a.length a.length hi - HT.sIx a.length 0 lo)
theorem GX(a:List V)(lo hi:Option Int):(mi a lo hi).length<=a.length:=by unfold mi;rw[List.length_take,List.length_drop];omega
end
noncomputable def dh(n:Nat)(i:Int):Option Nat:=if 0<=i then(if i<n then some i.toNat else none) else if -(n:Int)<=i then some (i+n).toNat else none
noncomputable def bK{α:Type}(a:List α)(i:Int):Option α:=(dh a.length i).bind fun j=>a[j]?
theorem zi{n:Nat}{i:Int}{j:Nat}(h:dh n i=some j):seqIndex? i n=some j/\j<n/\-(n:Int)<=i/\i<n:=by
 unfold dh at h
 by_cases a:0<=i
 ·rw[if_pos a] at h
  by_cases h1:i<n
  ·rw[if_pos h1] at h;have e:i.toNat=j:=Option.some.inj h;exact⟨by rw[seqIndex_of a h1,e],by omega,by omega,h1⟩
  ·rw[if_neg h1] at h;cases h
 ·rw[if_neg a] at h
  by_cases h1:-(n:Int)<=i
  ·rw[if_pos h1] at h;have e:(i+n).toNat=j:=Option.some.inj h;exact⟨by rw[seqIndex_neg (by omega) h1,e],by omega,h1,by omega⟩
  ·rw[if_neg h1] at h;cases h
theorem zj{α:Type}{a:List α}{i:Int}{v:α}(h:bK a i=some v):∃j,seqIndex? i a.length=some j/\a[j]? = some v/\j<a.length/\-(a.length:Int)<=i/\i<a.length:=by
 unfold bK at h;cases e:dh a.length i with
 | none=>rw[e] at h;cases h
 | some j=>rw[e] at h;obtain⟨c,h2,h3,b⟩:=zi e;exact⟨j,c,h,h2,h3,b⟩
def nK(b:Expr):Prop:=∀o i,subscripted b false o i=operate [o,i] (getItem o i)
def jt(X:Cx)(r:R2):Prop:=
 ∀(value slice:Expr) (a:List (Addr×Obj)) (s:Shared) (Y:St) (H:Hp) (x y:V) (v u:Value) (Q:VK),Inv X a Y H s->bn x v->bn y u->r x y H Q->
  subscripted slice false v u=operate [v,u] (getItem v u)->wpAny (model X.prog X.w) X.A (subscriptTail value slice v u) (EP X a Y Q) X.xe s
def qe(X:Cx)(id:String)(r:V->List V->Hp->VK->Prop):Prop:=
 ∀(a:List (Addr×Obj)) (s:Shared) (Y:St) (H:Hp) (x:V) (b:List V) (v:Value) (c:List Value) (Q:VK),Inv X a Y H s->bn x v->bh b c->r x b H Q->
  wpAny (model X.prog X.w) X.A (call (.builtin id) (v::c)) (EP X a Y Q) X.xe s
section
variable{X:Cx}{a b:Expr}{ta tb:TE}{pos:Pos}
theorem jt.or{r d:R2}(h:jt X r)(i:jt X d):jt X (fun x y H Q=>r x y H Q\/d x y H Q):=by
 intro value slice c s Y H x y v u Q I e f q g;rcases q with q | q
 ·exact h value slice c s Y H x y v u Q I e f q g
 ·exact i value slice c s Y H x y v u Q I e f q g
theorem uA{r:R2}(d:jt X r)(e:PE X a ta)(m:PE X b tb)(f:nK b):PE X (.Subscript a b pos) (nH r ta tb):=by intro c s Y H Q I h;exact Subscript_ (ur e m I h fun v u g x y i j k l q=>d a b c g Y i x y v u Q j k l q (f _ _))
noncomputable def uB(K:Frag):R2:=fun x y H Q=>∃p c i v,x=.ref p/\y=.int i/\cJ K H p c/\bK c i=some v/\Q v H
noncomputable def uC(K:Frag):R2:=fun x y H Q=>∃p c i v,x=.ref p/\y=.int i/\fR K H p c/\bK c i=some v/\Q v H
theorem uD:jt X (uB X.K):=by
 intro value slice c s Y H x y v u Q I l m h g;obtain⟨p,E,i,z,rfl,rfl,n,o,q⟩:=h;cases l;obtain⟨t,rfl⟩:=m;obtain⟨d,r,pl,G⟩:=I.list n;obtain⟨j,h1,h2,h3,A,B⟩:=zj o;obtain⟨w,ew,e⟩:=r.get h2;have C:=r.length;have J:=ed;have fin:EP X c Y Q w s:=⟨z,H,I,e,q⟩
 by_cases k:0<=i
 ·have f:i.toNat=j:=by rw[seqIndex_of k B] at h1;exact Option.some.inj h1
  exact item_listR pl.isList k (by omega) (by rw[f];simpa using ew) fin g
 ·have f:(i+(d.toArray.size:Int)).toNat=j:=by rw[seqIndex_neg (by omega) A] at h1;rw[List.size_toArray,<-C];exact Option.some.inj h1
  exact subscriptTail_builtinR (x:=w) pl.isList.typeIs slot_list_getitem.lookup
   (wpAny_getItem_list_neg (Q:=fun r D=>r=w/\EP X c Y Q r D) pl.isList (by omega) (by rw[List.size_toArray]<;>omega) (by omega) (by rw[f];simpa using ew) ⟨rfl,fin⟩) g
theorem GY:jt X (uC X.K):=by
 intro value slice c s Y H x y v u Q I e f h g;obtain⟨p,A,i,z,rfl,rfl,k,l,q⟩:=h;cases e;obtain⟨t,rfl⟩:=f;obtain⟨m,r,pl,B⟩:=I.tuple k;obtain⟨j,h1,h2,h3,C,D⟩:=zj l;obtain⟨w,ew,d⟩:=r.get h2;have n:=r.length;have E:=ed;have fin:EP X c Y Q w s:=⟨z,H,I,d,q⟩
 exact subscriptTail_builtinR (x:=w) pl.typeIs slot_tuple_getitem.lookup
  (getItem_tuple (j:=j) (Q:=fun r o=>r=w/\EP X c Y Q r o) pl (by omega) (by omega) (by rw[List.size_toArray,<-n];exact h1) (by simpa using ew) ⟨rfl,fin⟩) g
theorem GZ(c:List Value)(n j:Nat)(u:Value):Obj.mapSeq (·.setIfInBounds j u) { cls:=.type "list",data:=.seq c.toArray n } = { cls:=.type "list",data:=.seq (c.set j u).toArray n }:=by simp[Obj.mapSeq]
theorem Inv.lst{d:List (Addr×Obj)}{Y:St}{H:Hp}{s:Shared}{p:Addr}{f:List V}(I:Inv X d Y H s)(h:H p=some (.lst f)) :
  ∃(c:List Value) (n:Nat),bh f c/\s.heap.get? p=some { cls:=.type "list",data:=.seq c.toArray n }/\f.length<=sizeLine:=by
 obtain⟨z,c,n,r,e⟩:=I.hok p _ h;exact⟨c,n,r,e,z⟩
theorem Inv.lstUpd{d:List (Addr×Obj)}{Y:St}{H:Hp}{s:Shared}{p:Addr}{l i:List V}{g c:List Value}{n j:Nat}{f:Obj->Obj}(I:Inv X d Y H s)(h:H p=some (.lst l))
  (o:s.heap.get? p=some { cls:=.type "list",data:=.seq g.toArray n }) (k:f { cls:=.type "list",data:=.seq g.toArray n } = { cls:=.type "list",data:=.seq c.toArray j }) (r:bh i c) (m:i.length<=sizeLine) (t:Nat) :
  Inv X d Y (aM H p (.lst i)) { s with heap:=s.heap.update p f,toks:=t }:=by
 have e:(s.heap.update p f).get? p=some { cls:=.type "list",data:=.seq c.toArray j }:=by rw[Heap.get?_update_self f o (by rw[k]<;>rfl),k]
 refine I.write (x:=p) (e:=p) (by rw[h];trivial) (.inl rfl) (fun b u v q=>(Heap.get?_update_other _ _ (Ne.symm v)).trans q) ⟨_,e⟩ ?_;exact⟨m,c,j,r,e⟩
noncomputable def Ha:V->V->V->Hp->(Hp->Prop)->Prop:=fun o i v H Q=>∃p c k j,o=.ref p/\i=.int k/\H p=some (.lst c)/\dh c.length k=some j/\Q (aM H p (.lst (c.set j v)))
theorem Hb:yE X Ha:=by
 intro c s Y H o i v E G u Q I y z A h;obtain⟨p,B,k,j,rfl,rfl,l,C,q⟩:=h;cases y;obtain⟨t,rfl⟩:=z;obtain⟨d,n,r,ho,D⟩:=I.lst l;obtain⟨e,h2,h3,m⟩:=zi C;have f:=r.length;have J:=ed;have w:Inv X c Y (aM H p (.lst (B.set j v))) { s with heap:=s.heap.update p (Obj.mapSeq (·.setIfInBounds j u)) }:=
  I.lstUpd l ho (GZ d n j u) (r.set A j) (by rw[List.length_set];exact D) s.toks
 by_cases x:0<=k
 ·have g:k.toNat=j:=by rw[seqIndex_of x m] at e;exact Option.some.inj e
  exact PySem.W.ki_setAt ho x (by omega) (by rw[List.size_toArray,<-f];exact m) (by rw[g];exact⟨_,w,q⟩)
 ·have g:(k+(d.toArray.size:Int)).toNat=j:=by rw[seqIndex_neg (by omega) h3] at e;rw[List.size_toArray,<-f];exact Option.some.inj e
  exact PySem.W.ki_setBack ho (by omega) (by rw[List.size_toArray,<-f];exact h3) (by omega) (by rw[g];exact⟨_,w,q⟩)
theorem Hc(lo c:Option Int)(n:Nat):(sliceBounds lo c none n).1=((HT.sIx n 0 lo:Nat):Int)/\(sliceBounds lo c none n).2.1=((HT.sIx n n c:Nat):Int)/\(sliceBounds lo c none n).2.2=1:=by
 refine⟨?_,?_,rfl⟩
 ·cases lo with
  | none=>simp[sliceBounds,HT.sIx]
  | some i=>
   simp only[sliceBounds,HT.sIx,Option.getD_none,show(1:Int)>0 by decide,if_true]
   by_cases h:i<0
   ·simp only[h,if_true]<;>omega
   ·simp only[h,if_false]<;>omega
 ·cases c with
  | none=>simp[sliceBounds,HT.sIx]
  | some i=>
   simp only[sliceBounds,HT.sIx,Option.getD_none,show(1:Int)>0 by decide,if_true]
   by_cases h:i<0
   ·simp only[h,if_true]<;>omega
   ·simp only[h,if_false]<;>omega
theorem Hd(c:List Value)(lo d:Option Int):slicePick c.toArray lo d none=((c.drop (HT.sIx c.length 0 lo)).take (HT.sIx c.length c.length d - HT.sIx c.length 0 lo)).toArray:=by obtain⟨e,h2,h3⟩:=Hc lo d c.toArray.size;unfold slicePick;rw[e,h2,h3];simp only[sliceRange_one,pick_run,List.size_toArray]<;>rfl
noncomputable def He(K:Frag):V->Option Int->Option Int->Hp->VK->Prop:=fun x lo d H Q=>∃a c,x=.ref a/\cJ K H a c/\∀p,H p=none->Q (.ref p) (aM H p (.lst (mi c lo d)))
theorem Hf:zh X (He X.K):=by intro f s Y H x v t u lo e w Q I i j p k h;obtain⟨a,c,rfl,l,q⟩:=h;cases i;obtain⟨m,r,g,n⟩:=I.list l;have d:=r.length;refine⟨"list",_,slot_list_getitem.lookup,g.isList.typeIs,?_⟩;refine wpAny_getItem_list_slice g.isList j p k .none (by simp) ?_ (by rw[List.size_toArray]<;>omega);rw[Hd,<-d];refine⟨.ref s.heap.objs.size,_,I.laid (t':=s.toks) (o:=.lst (mi c lo e)) (fun b y q=>bv _ q) (bG _) ?_,rfl,q _ (I.hok.fresh (bG _))⟩;exact⟨Nat.le_trans (GX c lo e) n,_,0,(r.drop (HT.sIx c.length 0 lo)).take (HT.sIx c.length c.length e - HT.sIx c.length 0 lo),Heap.get?_push_size _ rfl⟩
noncomputable def hV:V->Bool
 | .non=>true
 | .bl _=>true
 | .int _=>true
 | .str _=>true
 | _=>false
noncomputable def ee:V->V->Bool
 | .non,.non=>true
 | .bl a,.bl b=>a==b
 | .bl a,.int b=>(if a then 1 else 0)==b
 | .int a,.bl b=>a==(if b then 1 else 0)
 | .int a,.int b=>a==b
 | .str a,.str b=>a==b
 | _,_=>false
theorem Hg{A:Around}{s:Shared}{y x:V}{u v:Value}(d:bn y u)(c:bn x v)(f:hV y=true)(e:hV x=true):SeqAt.EqAt A s u v (ee y x):=by
 cases y with
 | non=>
  cases d;cases x with
  | non=>cases c;exact SeqAt.EqAt.same _
  | bl b=>cases c;exact SeqAt.EqAt.none_bool b
  | int b=>obtain⟨t,rfl⟩:=c;exact SeqAt.EqAt.none_int b t
  | str b=>obtain⟨t,rfl⟩:=c;exact SeqAt.EqAt.none_str b t
  | _=>exact absurd (show false=true from e) Bool.false_ne_true
 | bl a=>
  cases d;cases x with
  | non=>cases c;exact SeqAt.EqAt.bool_none a
  | bl b=>cases c;exact SeqAt.EqAt.bool_bool a b
  | int b=>obtain⟨t,rfl⟩:=c;exact SeqAt.EqAt.bool_int a b t
  | str b=>obtain⟨t,rfl⟩:=c;exact SeqAt.EqAt.bool_str a b t
  | _=>exact absurd (show false=true from e) Bool.false_ne_true
 | int a=>
  obtain⟨t',rfl⟩:=d;cases x with
  | non=>cases c;exact SeqAt.EqAt.int_none a t'
  | bl b=>cases c;exact SeqAt.EqAt.int_bool a t' b
  | int b=>obtain⟨t,rfl⟩:=c;exact SeqAt.EqAt.int_int a t' b t
  | str b=>obtain⟨t,rfl⟩:=c;exact SeqAt.EqAt.int_str a t' b t
  | _=>exact absurd (show false=true from e) Bool.false_ne_true
 | str a=>
  obtain⟨t',rfl⟩:=d;cases x with
  | non=>cases c;exact SeqAt.EqAt.str_none a t'
  | bl b=>cases c;exact SeqAt.EqAt.str_bool a t' b
  | int b=>obtain⟨t,rfl⟩:=c;exact SeqAt.EqAt.str_int a t' b t
  | str b=>obtain⟨t,rfl⟩:=c;exact SeqAt.EqAt.str_str a t' b t
  | _=>exact absurd (show false=true from e) Bool.false_ne_true
 | _=>exact absurd (show false=true from f) Bool.false_ne_true
theorem kQ:gL X (.builtin "len") (fun i H Q=>∃p d,i=[.ref p]/\(cJ X.K H p d\/fR X.K H p d)/\Q (.int d.length) H):=by
 intro j s Y H i m Q I r h;obtain⟨p,d,rfl,e,q⟩:=h;obtain⟨u,rfl,k⟩:=cV r;cases k;have n:=ed;rcases e with e | e
 ·obtain⟨f,g,pl,l⟩:=I.list e;have c:=g.length;exact Calls.call_len_list pl.isList (by simp only[List.size_toArray]<;>omega) ⟨.int d.length,H,I.tok _,⟨s.toks+1,by rw[List.size_toArray,c]⟩,q⟩
 ·obtain⟨f,g,pl,l⟩:=I.tuple e;have c:=g.length;exact len_tuple pl (by simp only[List.size_toArray]<;>omega) ⟨.int d.length,H,I.tok _,⟨s.toks+1,by rw[List.size_toArray,c]⟩,q⟩
theorem Hh:gL X (.type "list") (fun y H Q=>∃p f,y=[.ref p]/\(cJ X.K H p f\/fR X.K H p f)/\∀l,H l=none->Q (.ref l) (aM H l (.lst f))):=by
 intro j s Y H y B Q I r h;obtain⟨p,f,rfl,k,q⟩:=h;obtain⟨u,rfl,A⟩:=cV r;cases A;have fin:∀(c:List Value),bh f c->f.length<=sizeLine->∀(d:Heap) (g:Nat),(∀b z,s.heap.get? b=some z->d.get? b=some z)->
   d.get? s.heap.objs.size=some { cls:=.type "list",dict:=none,data:=.seq c.toArray g,slots:=#[] }->EP X j Y Q (.ref s.heap.objs.size) { s with heap:=d }:=fun c i m d g v e=>
  ⟨.ref s.heap.objs.size,_,I.laid (t':=s.toks) v (bG _) (show cq X.prog X.w _ d _ (.lst f) from⟨m,c,g,i,e⟩),rfl,q _ (I.hok.fresh (bG _))⟩
 rcases k with k | k
 ·obtain⟨c,i,pl,m⟩:=I.list k;have t:=i.length;obtain⟨o,ho,x,n,hd⟩:=pl.isList;exact call_list_seq p (.inl rfl) ho x hd (fun d g v e=>fin c i m d g v e) (by simp only[List.size_toArray]<;>omega)
 ·obtain⟨c,i,pl,m⟩:=I.tuple k;have t:=i.length;obtain⟨o,ho,x,n,hd⟩:=pl;exact call_list_seq p (.inr rfl) ho x hd (fun d g v e=>fin c i m d g v e) (by simp only[List.size_toArray]<;>omega)
theorem uE:gL X (.type "tuple") (fun k H Q=>∃p f,k=[.ref p]/\((cJ X.K H p f/\∀l,H l=none->Q (.ref l) (aM H l (.tup f)))\/(fR X.K H p f/\Q (.ref p) H))):=by
 intro c s Y H k y Q I r h;obtain⟨p,f,rfl,h⟩:=h;obtain⟨u,rfl,t⟩:=cV r;cases t;rcases h with⟨i,q⟩ | ⟨i,q⟩
 ·obtain⟨d,j,pl,m⟩:=I.list i;have n:=j.length;refine call_tuple_list pl.isList (fun g x=>?_) (by simp only[List.size_toArray]<;>omega);have I1:Inv X c Y H { s with heap:=g }:=I.kept (t':=s.toks) x;have v:Inv X c Y (aM H g.objs.size (.tup f)) { s with heap:=g.push { cls:=.type "tuple",data:=.seq d.toArray } }:=
   I1.laid (t':=s.toks) (fun b o e=>bv _ e) (bG _) (show cq X.prog X.w _ _ _ (.tup f) from⟨m,d,j,IsTup.new _ _⟩)
  exact⟨.ref g.objs.size,_,v,rfl,q _ (I1.hok.fresh (bG _))⟩
 ·obtain⟨d,j,pl,m⟩:=I.tuple i;exact call_tuple_same pl ⟨.ref p,H,I,rfl,q⟩
def zk(K:Frag)(T:String)(x:V)(H:Hp):Prop:=match x with
 | .str _=>T="str"
 | .int _=>T="int"
 | .ref p=>(T="list"/\∃d,cJ K H p d)\/(T="tuple"/\∃o,K.lookup p=some o/\o.cls=.type "tuple"/\o.dict=none)\/
   (T="dict"/\((∃c,H p=some (.dK c))\/∃c,H p=some (.dT c)))\/(T="set"/\∃S n,H p=some (.set S n))
 | _=>False
theorem Hi{f:List (Addr×Obj)}{Y:St}{H:Hp}{s:Shared}{T:String}{x:V}{v:Value}(I:Inv X f Y H s)(r:bn x v)(g:zk X.K T x H) :
  s.TypeIs v T/\∀a,v=.ref a->∃k,s.heap.get? a=some k/\k.dict=none:=by
 cases x with
 | str z=>obtain⟨t,rfl⟩:=r;cases(show T="str" from g);exact⟨typeIs_str s z t,fun _ e=>nomatch e⟩
 | int i=>obtain⟨t,rfl⟩:=r;cases(show T="int" from g);exact⟨typeIs_int s i t,fun _ e=>nomatch e⟩
 | ref p=>
  cases r;rcases g with⟨rfl,u,l⟩ | ⟨rfl,o,d,m,hd⟩ | ⟨rfl,d⟩ | ⟨rfl,S,n,d⟩
  ·obtain⟨q,_,pl,_⟩:=I.list l;refine⟨pl.isList.typeIs,fun a e=>?_⟩;cases e;obtain⟨o,n,e,c,hd,_⟩:=pl;exact⟨o,e,hd⟩
  ·refine⟨⟨o,I.kIn p o d,m⟩,fun a e=>?_⟩;cases e;exact⟨o,I.kIn _ o d,hd⟩
  ·have z:∃o,s.heap.get? p=some o/\o.ExactDict:=by
    rcases d with⟨h,d⟩ | ⟨h,d⟩
    ·obtain⟨_,_,_,_,o,_,_,e,ex,_⟩:=I.hok p _ d;exact⟨o,e,ex⟩
    ·obtain⟨_,_,_,_,o,_,_,e,ex,_⟩:=I.hok p _ d;exact⟨o,e,ex⟩
   obtain⟨o,e,ex⟩:=z;refine⟨⟨o,e,ex.1⟩,fun a j=>?_⟩;cases j;exact⟨o,e,ex.2.1⟩
  ·obtain⟨o,_,_,_,e,ex,_⟩:=I.hok p _ d;refine⟨⟨o,e,ex.1⟩,fun a j=>?_⟩;cases j;exact⟨o,e,ex.2.1⟩
 | _=>exact False.elim g
noncomputable def Hj(K:Frag)(T:String)(r:V->List V->Hp->VK->Prop)(f:TE)(t:TA):TE:=fun Y H Q=>f Y H fun x c=>zk K T x c/\t Y c fun d e=>r x d e Q
variable{o e:Expr}{es:List Expr}{to:TE}{t:TA}{name:Str}{apos cpos:Pos}{T id:String}{r:V->List V->Hp->VK->Prop}
theorem qf(G:PlainAttrs T)(slot:Slot T name id)(j:typeOf (.builtin id)=pure (.type "method_descriptor"))(m:qe X id r)(J:PE X o to)(n:PA X (e::es) t)
  (f:attributeBase o name X.env (eval o X.env)=eval o X.env:=by rfl)
  (i:((backTo cpos (starEach (e::es) X.env)).all (fun x=>!x.1)&&(backToKw cpos (keywordEach [] X.env)).all (fun x=>x.1.isSome)
   && decide ((e::es).length+([]:List Keyword).length+(if ([]:List Keyword).isEmpty then 0 else 1)<30))=true:=by rfl)
  (g:(apos.endLine==cpos.line)=true:=by rfl) (p:starEach (e::es) X.env=(false,eval e X.env)::starEach es X.env:=by rfl) (d:(backTo cpos (starEach es X.env)).any (·.1)=false:=by rfl) :
  PE X (.Call (.Attribute o name apos) (e::es) [] cpos) (Hj X.K T r to t):=by
 intro c s Y H Q I h;refine wpAny_Call_method_late f i g rfl (aK (J c s Y H _ I h) fun v q ⟨x,u,I1,k,ty,w⟩=>?_);obtain⟨L,h2⟩:=Hi I1 k ty;refine⟨T,id,G,slot,j,L,h2,?_⟩;have l:=n cpos c q Y u _ I1 w;rw[p] at l ⊢;refine Calls.callWith_builtin (by show(false||(backTo cpos (starEach es X.env)).any (·.1))=false;rw[d]<;>rfl) (Calls.evalArgs_plain ?_);exact aK l fun y z ⟨A,B,C,D,E⟩=>m c z Y B x A v y Q C k D E
end
def zl(X:Cx)(id:String)(r:V->List V->Hp->VK->Prop):Prop:=
 ∀(a:List (Addr×Obj)) (s:Shared) (Y:St) (H:Hp) (x:V) (b:List V) (v:Value) (c:List Value) (Q:VK),Inv X a Y H s->bn x v->bh b c->r x b H Q->
  wpAny (model X.prog X.w) X.A (call (.builtin id) (v::c)) (EP X a Y Q) X.xe s
theorem bh.one:∀{x:V}{a:List Value},bh [x] a->∃u,a=[u]/\bn x u
 | _,_,.cons r .nil=>⟨_,rfl,r⟩
theorem bh.rep{a:List V}{b:List Value}(h:bh a b):∀k:Nat,bh (List.replicate k a).flatten (List.replicate k b).flatten
 | 0=>.nil
 | k+1=>by rw[List.replicate_succ,List.replicate_succ,List.flatten_cons,List.flatten_cons];exact bh.append h (bh.rep h k)
theorem zm(a:List Value):∀(k:Nat) (b:List Value),
  List.foldl (fun c d=>c++d) b.toArray (List.replicate k a.toArray)=(b++(List.replicate k a).flatten).toArray
 | 0,b=>by simp
 | k+1,b=>by
  have e:b.toArray++a.toArray=(b++a).toArray:=by simp
  have f:(b++a)++(List.replicate k a).flatten=b++(List.replicate (k+1) a).flatten:=by rw[List.replicate_succ,List.flatten_cons,List.append_assoc]
  rw[<-f,<-zm a k (b++a),<-e,List.replicate_succ,List.foldl_cons]
section
variable{X:Cx}{pins:List (Addr×Obj)}{Y:St}{H:Hp}{s:Shared}{l b:Addr}{xs ys zs:List V}
theorem Inv.lset{a its':List Value}{n:Nat}{f:Array Value->Array Value}{t':Nat}(I:Inv X pins Y H s)(c:H l=some (.lst xs))
  (e:s.heap.get? l=some { cls:=.type "list",data:=.seq a.toArray n }) (d:f a.toArray=its'.toArray) (g:bh ys its') (h:ys.length<=sizeLine) :
  Inv X pins Y (aM H l (.lst ys)) { s with heap:=s.heap.update l (Obj.mapSeq f),toks:=t' }:=by
 have q:=PySem.IsL.update e f;rw[d] at q;refine I.write (x:=l) (e:=l) (by rw[c];exact trivial) (.inl rfl) (fun k u j i=>(Heap.get?_update_other s.heap (Obj.mapSeq f) (Ne.symm j)).trans i) ⟨_,q⟩ ?_;exact⟨h,its',_,g,q⟩
theorem Inv.lnew{a:List Value}{t':Nat}(I:Inv X pins Y H s)(c:bh ys a)(d:ys.length<=sizeLine) :
  Inv X pins Y (aM H s.heap.objs.size (.lst ys)) { s with heap:=s.heap.push { cls:=.type "list",data:=.seq a.toArray },toks:=t' }:=
 I.laid (fun _ _ q=>bv _ q) (bG _) ⟨d,a,0,c,Heap.get?_push_size _ rfl⟩
theorem Inv.fresh(I:Inv X pins Y H s):H s.heap.objs.size=none:=I.hok.fresh (bG _)
theorem Inv.lstM(I:Inv X pins Y H s)(c:H l=some (.lst xs)):xs.length<=sizeLine/\∃(a:List Value) (n:Nat),bh xs a/\xs.length=a.length/\s.heap.get? l=some { cls:=.type "list",data:=.seq a.toArray n }:=by obtain⟨z,a,n,r,e⟩:=I.hok l _ c;exact⟨z,a,n,r,r.length,e⟩
theorem zn{n:Nat}(h:n<=sizeLine):Builtin.List.listTooLong n=false:=by unfold Builtin.List.listTooLong;exact decide_eq_false (by omega)
end
section
variable{X:Cx}
noncomputable def Hk:V->List V->Hp->VK->Prop:=fun x b H Q=>∃l a y,x=.ref l/\b=[y]/\H l=some (.lst a)/\a.length<sizeLine/\Q .non (aM H l (.lst (a++[y])))
theorem zo:zl X "list.append" Hk:=by intro b s Y H x g v i Q I d f h;obtain⟨l,j,y,rfl,rfl,c,k,q⟩:=h;cases d;obtain⟨u,rfl,ru⟩:=f.one;obtain⟨z,a,n,r,m,e⟩:=I.lstM c;refine call_meets F.slot_list_append ⟨_,e,rfl⟩ F.entry_list_append (F.args_list_append_2 _ _) (PySem.list_append l a.toArray n u (by rw[List.size_toArray];omega)) ⟨e,?_⟩;refine⟨.non,_,I.lset (its':=a++[u]) c e (by simp) (r.append (.cons ru .nil)) ?_,rfl,q⟩;rw[List.length_append,List.length_singleton];omega
noncomputable def Hm:V->List V->Hp->VK->Prop:=fun x d H Q=>∃l b a c,x=.ref l/\d=[.ref b]/\H l=some (.lst a)/\H b=some (.lst c)/\a.length+c.length<=sizeLine/\Q .non (aM H l (.lst (a++c)))
theorem Hn:zl X "list.extend" Hm:=by
 intro g s Y H x w v y Q I j k h;obtain⟨l,b,A,B,rfl,rfl,i,hB,C,q⟩:=h;cases j;obtain⟨u,rfl,ru⟩:=k.one;cases ru;obtain⟨z,c,n,r,D,e⟩:=I.lstM i;obtain⟨E,a,m,o,p,t⟩:=I.lstM hB;have f:c.toArray.size+a.toArray.size<=sizeLine:=by rw[List.size_toArray,List.size_toArray];omega
 have d:¬ (!c.toArray.isEmpty&&Builtin.List.listTooLong (c.toArray.size+a.toArray.size))=true:=by rw[zn f,Bool.and_false];exact Bool.false_ne_true
 refine call_meets F.slot_list_extend ⟨_,e,rfl⟩ F.entry_list_extend (F.args_list_extend_2 _ _)
  (AutoSeq1.list_extend_list_list_0 l c.toArray n b a.toArray m d (by rw[List.size_toArray];omega) (by omega)) ⟨e,t,?_⟩
 refine⟨.non,_,I.lset (its':=c++a) i e (by simp) (r.append o) ?_,rfl,q⟩;rw[List.length_append];omega
noncomputable def zp:R2:=fun x y H Q=>∃l b a c,x=.ref l/\y=.ref b/\H l=some (.lst a)/\H b=some (.lst c)/\a.length+c.length<=sizeLine/\∀p,H p=none->Q (.ref p) (aM H p (.lst (a++c)))
theorem Hq:cK X (binaryOp .Add) zp:=by
 intro d s Y H x y v u Q I f g h;obtain⟨l,b,p,t,rfl,rfl,i,hB,w,q⟩:=h;cases f;cases g;obtain⟨z,c,n,r,A,e⟩:=I.lstM i;obtain⟨B,a,C,j,k,m⟩:=I.lstM hB;refine PySem.P.add_list e m ?_ (by rw[List.size_toArray,List.size_toArray];omega);have o:c.toArray++a.toArray=(c++a).toArray:=by simp
 rw[o];exact⟨.ref _,_,I.lnew (t':=s.toks) (r.append j) (by rw[List.length_append];omega),rfl,q _ I.fresh⟩
noncomputable def zq:R2:=fun x y H Q=>∃l k a,x=.ref l/\y=.int k/\H l=some (.lst a)/\-(2 ^ 63)<=k/\k<2 ^ 63/\a.length * k.toNat<=sizeLine/\
 ∀p,H p=none->Q (.ref p) (aM H p (.lst (List.replicate k.toNat a).flatten))
theorem Hr{α:Type}(a:List α)(k:Nat):(List.replicate k a).flatten.length=k * a.length:=by
 induction k with
 | zero=>simp
 | succ k b=>rw[List.replicate_succ,List.flatten_cons,List.length_append,b,Nat.succ_mul,Nat.add_comm]
theorem Hs:cK X (binaryOp .Mult) zq:=by
 intro p s Y H x y v u Q I A B h;obtain⟨l,k,J,rfl,rfl,C,h1,h2,w,q⟩:=h;cases A;obtain⟨t,rfl⟩:=B;obtain⟨z,b,n,r,D,e⟩:=I.lstM C;have d:b.toArray.size * k.toNat<=sizeLine:=by rw[List.size_toArray,<-D];exact w
 have f:¬ b.toArray.size * k.toNat>(2 ^ 63 - 1) / 8:=by
  have:(sizeLine:Nat)<=(2 ^ 63 - 1) / 8:=by decide
  omega
 have g:¬ (!Builtin.List.listFitsIndex k)=true:=by rw[fitsIndex_both h1 h2];exact Bool.false_ne_true
 have c:¬ Builtin.List.listTooLong (b.toArray.size * k.toNat)=true:=by rw[zn d];exact Bool.false_ne_true
 have i:List.foldl (fun j o=>j++o) #[] (List.replicate (if b.toArray.isEmpty=true then 0 else k.toNat) b.toArray)=(List.replicate k.toNat b).flatten.toArray:=by
  have E:∀m:Nat,List.foldl (fun j o=>j++o) #[] (List.replicate m b.toArray)=(List.replicate m b).flatten.toArray:=fun m=>by have:=zm b m [];rw[List.nil_append] at this;exact this
  rw[E];cases b with
  | nil=>simp
  | cons a L=>rw[if_neg (by simp)]
 refine wpAny_binaryOp_repeat_ref (T:="list") (U:="int") (by decide) ⟨_,e,rfl⟩ (fun G=>typeIs_int G k t) noFill_list_mul F.fills_int_mul F.slot_int_rmul repeat_list F.slot_int_index.lookup
  (call_meets F.slot_int_rmul (typeIs_int s k t) F.entry_int_rmul (F.args_int_rmul_2 _ _) (int___rmul___int_list k t l b.toArray n)
   ⟨e,rfl,⟨_,e,rfl⟩,call_meets F.slot_list_mul ⟨_,e,rfl⟩ F.entry_list_mul (F.args_list_mul_2 _ _) (AutoListH.list___mul___list_int_3 l b.toArray n k t g f c) ⟨e,?_⟩⟩)
 rw[i];exact⟨.ref _,_,I.lnew (t':=s.toks) (r.rep k.toNat) (by rw[Hr,Nat.mul_comm];exact w),rfl,q _ I.fresh⟩
end
end L2
namespace Att
open PySem PySem.W PySem.Calls PyProof.Rows
theorem Ht{P:Params}{h:Heap}:∀(c:List Int) (d:List Value),WellAll P h d (c.map WData.int)->IntsAre d c:=by
 intro c
 induction c with
 | nil=>intro d w;rw[List.map_nil] at w;cases w;exact .nil
 | cons n c e=>
  intro d w;rw[List.map_cons] at w;cases w with
  | cons a b=>cases a;exact .cons _ _ (e _ b)
theorem Hu{l:OpenLaw}{n:Nat}(s:l.most=some n){P:Params}{h:Heap}{args:List WData}{c:List Value}
  (e:l.row.toRowW.claim.pre args=true) (k:WellAll P h c args) :
  ∃a o b,c=[Value.ref a]/\args=[WData.list (b.map WData.int)]/\h.get? a=some { cls:=.type "list",data:=.seq o.toArray }/\IntsAre o b/\b.length<=n:=by
 have m:WShape.hasAll [] args [.list .int]=true:=(pre_splitW e).1;have p:l.pre.holds [] { args:=args }=true:=(pre_splitW e).2;obtain⟨d,r,rfl,h1,h2⟩:=hasAllW_cons m;obtain rfl:=hasAllW_nil h2;obtain⟨u,rfl,h3⟩:=hasW_list h1;obtain⟨b,rfl⟩:=items_int h3;have f:b.length<=n:=by
  unfold OpenLaw.pre at p;have i:(WTm.not (.lt (.lit (.int (n:Int))) (.len (.arg 0)))).holds [] { args:=[.list (b.map .int)] }=true:=by have i:=(holds_andW p).1;rw[s] at i;exact i
  have j:=condW_of i (w_not (w_lt w_lit (w_len_list (w_arg rfl))));rw[List.length_map] at j;refine Nat.le_of_not_lt fun q=>?_;have t:(n:Int)<((b.length:Nat):Int):=by omega
  first
   | (rw[decide_eq_true t] at j;exact absurd j (by decide))
   | (simp at j;omega)
 cases k with
 | cons w1 w2=>
  cases w2;cases w1 with
  | list ho g=>exact⟨_,_,b,rfl,rfl,ho,Ht b _ g,f⟩
theorem Hv(l:OpenLaw)(args:List WData):l.row.toRowW.claim.post args (.bool true) args=true:=
 postW_of (r:=l.row.toRowW) (X:=(true==true))
  (show WShape.has [] (.bool true) .bool=true by first | rfl | decide | simp[WShape.has,WShape.arms,WShape.armsAll])
  (show(WTm.eq .res (.lit (.bool true))).value [] { args:=args,res:=some (.bool true),after:=args }=some (.bool (true==true)) from w_eq_bool (w_res rfl) w_lit) rfl
theorem attach_call{l:OpenLaw}{n:Nat}{q:Program}{b:List Str}{C:(Str->Option Value)->Heap->Prop}{D:World->Heap->Prop}{d:DefRec}
  (J:l.most=some n) (v:d.params.defaults=[])
  (call:∀(w:World) (B c:Shared) (t x:Str->Option Value) (i:Addr) (o:Obj) (pm p e:Value) (a:Addr) (h:List Value) (u:List Int),
   Ground q b [] C w B t x c.heap->D w c.heap->
   c.heap.get? i=some o->o.data=.func (docDef d.name d.params d.body d.scope pm p e)->c.heap.CodeRec p d.name->t d.name=some (.ref i)->
   c.heap.get? a=some { cls:=.type "list",data:=.seq h.toArray }->IntsAre h u->u.length<=n->c.gens = #[]->
   codeAny (model l.prog w) callerA (.call (.ref i) ⟨[.ref a],[]⟩) (fun r s=>r=.ok (.ret (.bool true))/\OldK c.heap s.heap/\s.os=c.os/\AllBare s.gens) c) :
  WalkO q b C D l.row.toRowW d [] (fun f h=>PySem.call f h):=by
 intro w B c t x G L i o pm p e dV kV Y hd y E z M args H as j I N A O;obtain rfl:dV=.none:=Dflts.none E v;obtain rfl:kV=.none:=Dflts.noKw E;obtain⟨a,h,u,rfl,rfl,k,g,m⟩:=Hu J j A;refine enter_call (codeAny_mono (call w B c t x i o pm p e a h u G L Y (fd_plain hd) y z k g m M) fun r s Q=>?_);obtain⟨rfl,h2,h3,T⟩:=Q;exact⟨.inl ⟨.bool true,.bool true,[],rfl,fun _=>rfl,.bool true,Hv l _,fun _=>⟨List.Pairwise.nil,fun _ U=>(nomatch U)⟩⟩,h2,h3,T⟩
end Att
namespace L2
open PySem PySem.Spec PyProof.Rows
theorem zr:∀{a:List Value}{b:List Int},IntsAre a b->bh (b.map V.int) a
 | _,_,.nil=>.nil
 | _,_,.cons n t h=>.cons ⟨t,rfl⟩ (zr h)
def uF(H:Hp):Prop:=∀b,H b=none\/∃o a,H b=some (.frz o (.lst a))
theorem Hw{P:Program}{w:World}{K:Frag}{G M:Str->Option Value}{U:fC}{k:Nat}{N a:Addr}{fd:FuncData}{x:Str}{X:Sp}{c:Shared}{l:List Value}{I:List Int}
  (Y:K.In c.heap) (t:c.heap.Ns mainGlobals G) (g:c.heap.Ns builtinsNs M) (O:∀x:Str,x≠"__name__"->M x=bootBuiltins x) (y:c.heap.NoLimit) (hg:c.gens = #[])
  (L:c.heap.get? a=some { cls:=.type "list",data:=.seq l.toArray }) (Z:IntsAre l I) (hl:I.length<=sizeLine) (hr:br k callerA)
  (F:∀base:Heap,K.In base->base.Ns mainGlobals G->az P w K G base U k N fd [x] X) (p:∀(s:Shared) (u:Value),BindsTo s fd ⟨[u],[]⟩ [(x,u)])
  (hsp:∀H:Hp,uF H->cJ K H a (I.map V.int)->X [.ref a] H (fun v _=>v=.bl true) fun _ _ _=>False)
  (Q:∀H e i,U [] H c (fun _ _ _=>False) e i->False) :
  codeAny (model P w) callerA (.call (.ref N) ⟨[.ref a],[]⟩) (fun r i=>r=.ok (.ret (.bool true))/\OldK c.heap i.heap/\i.os=c.os/\AllBare i.gens) c:=by
 have rv:=zr Z;have A:=Z.length;have core:∀H:Hp,uF H->cJ K H a (I.map V.int)->HOk P w H c.heap->(∀b,H b≠none->b=a)->(H a≠none->K.lookup a=none)->
   codeAny (model P w) callerA (.call (.ref N) ⟨[.ref a],[]⟩) (fun r i=>r=.ok (.ret (.bool true))/\OldK c.heap i.heap/\i.os=c.os/\AllBare i.gens) c:=by
  intro H hO hS J hA hK;have f:∀{b:Addr}{o:Obj},c.heap.get? b=some o->H b=none->(jo c.heap H).get? b=some o:=fun e n=>EF e n;have R:∀{b:Addr}{o:Obj}{B:Array DictEntry}{C:Nat},c.heap.get? b=some o->o.data=.dict B C->H b=none:=fun {b o B C} e d=>by
   cases q:H b with
   | none=>rfl
   | some u=>have S:b=a:=hA b (by rw[q];simp);subst S;rw[L] at e;cases e;have d':Data.seq l.toArray _=Data.dict B C:=d;cases d'
  have j:∀{b:Addr}{m:Str->Option Value},c.heap.Ns b m->(jo c.heap H).Ns b m:=fun {b m} ⟨o,B,C,e,d,r⟩=>⟨o,B,C,f e (R e d),d,r⟩
  have D:K.In (jo c.heap H):=fun b o e=>f (Y b o e) (by
   cases q:H b with
   | none=>rfl
   | some u=>
    have S:b=a:=hA b (by rw[q];simp);subst S;rw[hK (by rw[q];simp)] at e;cases e)
  have hM:Mod K G (jo c.heap H):=⟨D,j t,⟨M,j g,O⟩,let⟨mc,h1,h2⟩:=y;⟨mc,j h1,h2⟩⟩
  have e0:dH P w K G (jo c.heap H) callerA [] c H:=⟨rfl,hM,fun b o e=>EG e,Nat.le_of_eq (EE _ _),trivial,fun b g=>absurd (show b∈([]:List Addr) from g) (by simp),J,.of_eq hg⟩
  refine codeAny_mono ((F _ D (j t)).run callerA [] c H ⟨[.ref a],[]⟩ [.ref a] [.ref a] _ _ hr e0 (p c (.ref a)) (.cons rfl .nil) (hsp H hO hS)) fun r i h=>?_;cases r with
  | error e=>exact(Q H e i h).elim
  | ok fl=>
   cases fl with
   | next=>exact False.elim h
   | brk=>exact False.elim h
   | cont=>exact False.elim h
   | ret u=>
    obtain⟨v,H',os,bare,un,E,r',q⟩:=h;have q':v=.bl true:=q;subst q';obtain rfl:u=Value.bool true:=r';refine⟨rfl,OldK.of_keep fun b o e=>?_,os,bare⟩;cases q:H b with
    | none=>exact un.keep b o e q (by intro z;exact absurd (show b∈([]:List Addr) from z) (by simp)) (by simp)
    | some u=>
     rcases hO b with z | ⟨ob,xs,z⟩
     ·rw[q] at z;cases z
     ·have z2:=un.frzs b ob _ z;obtain⟨e1,_⟩:=J b _ z;obtain⟨e2,_⟩:=E b _ z2;rw[e] at e1;cases e1;exact e2
 cases T:K.lookup a with
 | some o=>have e:=Y a o T;rw[L] at e;cases e;refine core (fun _=>none) (fun _=>.inl rfl) (.inr ⟨_,l.toArray,_,T,rfl,rfl,rfl,by rw[List.size_toArray,A];exact hl,by simpa using rv⟩) (fun b u z=>by have z':(none:Option HO)=some u:=z;cases z') (fun b z=>absurd rfl z) fun z=>absurd rfl z
 | none=>
  refine core (fun b=>if b=a then some (.frz { cls:=.type "list",data:=.seq l.toArray } (.lst (I.map V.int))) else none) (fun b=>?_) (.inl (.inr ⟨{ cls:=.type "list",data:=.seq l.toArray },if_pos rfl⟩)) (fun b u z=>?_) (fun b z=>?_) fun _=>T
  ·by_cases g:b=a
   ·exact .inr ⟨_,_,if_pos g⟩
   ·exact .inl (if_neg g)
  ·by_cases g:b=a
   ·have z':=(if_pos g).symm.trans z;cases z';subst g;exact⟨L,by rw[List.length_map];exact hl,l,_,rv,L⟩
   ·have z':=(if_neg g).symm.trans z;cases z'
  ·by_cases g:b=a
   ·exact g
   ·exact absurd (if_neg g) z
theorem walk_of{l:PySem.W.OpenLaw}{n k:Nat}{q:Program}{i:List Str}{J:(Str->Option Value)->Heap->Prop}{D:World->Heap->Prop}{d:DefRec}{K:Params->Frag}{CX:World->fC}{sp:World->Sp}{x:Str}
  (L:l.most=some n) (y:n<=sizeLine) (z:d.params.defaults=[]) (M:br k callerA)
  (N:∀(w:World) (h:Heap),D w h->(K w.params).In h)
  (F:∀(w:World) (m:Str->Option Value) (r:Addr) (h:Heap),(K w.params).In h->h.Ns mainGlobals m->m d.name=some (.ref r)->
   ∃fd:FuncData,(∀(s:Shared) (u:Value),BindsTo s fd ⟨[u],[]⟩ [(x,u)])/\
    ∀base:Heap,(K w.params).In base->base.Ns mainGlobals m->az l.prog w (K w.params) m base (CX w) k r fd [x] (sp w))
  (hsp:∀(w:World) (H:Hp) (a:Addr) (t:List Int),t.length<=n->uF H->cJ (K w.params) H a (t.map V.int)->sp w [.ref a] H (fun v _=>v=.bl true) fun _ _ _=>False)
  (A:∀(w:World) (H:Hp) (s:Shared) (e:Value) (B:Shared),CX w [] H s (fun _ _ _=>False) e B->False) :
  PySem.W.WalkO q i J D l.row.toRowW d [] (fun f E=>PySem.call f E):=by
 refine Att.attach_call L z fun w s₀ O m mb r o pm cd Q a E t G R ho hd S C p j c U=>?_;have I:=N w _ R;obtain⟨fd,hb,X⟩:=F w m r _ I G.T.g C;exact Hw I G.T.g G.T.b G.T.builtins G.T.nolimit U p j (Nat.le_trans c y) M X hb (fun H Y Z=>hsp w H a t c Y Z) fun H e B=>A w H O e B
noncomputable def fE(s:Stmt)(j:Nat):Stmt:=match s with
 | .ClassDef _ _ _ body _ _ _ _ _ _ _=>body.getD j (.Pass ⟨0,0,0,0⟩)
 | _=>.Pass ⟨0,0,0,0⟩
noncomputable def ju(s:Stmt):Arguments:=match s with
 | .FunctionDef _ a _ _ _ _ _ _ _ _=>a
 | _=>{ posonlyargs:=[],args:=[],vararg:=none,kwonlyargs:=[],kw_defaults:=[],kwarg:=none,defaults:=[] }
noncomputable def ia(s:Stmt):List Stmt:=match s with
 | .FunctionDef _ _ b _ _ _ _ _ _ _=>b
 | _=>[]
noncomputable def be(s:Stmt):Scope:=match s with
 | .FunctionDef _ _ _ _ _ _ a _ _ _=>a
 | _=>{ kind:=.function,names:=[],isGenerator:=false,isCoroutine:=false }
structure kR (K:Frag) (x qual:Str) (st:Stmt) (f:Addr) (fd:FuncData):Prop where
 ex:∃(oc:Value) (od:Option Addr) (kV doc pm:Value) (an:Option Addr) (cdv ct:Value) (osl:Array (Option Value)),
  fd=fnOf x qual (ju st) (ia st) (be st) .none kV doc pm an cdv ct/\K.lookup f=some ⟨oc,od,.func fd,osl⟩/\codeIn K cdv qual=true
 kp:keepIn K (.ref f)=true
section
variable{P:Program}{w:World}{K:Frag}{mg:Str->Option Value}{base:Heap}
theorem kR.binds{x a:Str}{st:Stmt}{f:Addr}{fd:FuncData}{d:List Str}(F:kR K x a st f fd)
  (h:∀(kV b pm:Value) (e:Option Addr) (c i:Value) (g:List Value),g.length=d.length->bindArgs (fnOf x a (ju st) (ia st) (be st) .none kV b pm e c i) ⟨g,[]⟩=pure (d.zip g)):gM K fd d []:=by
 obtain⟨l,m,kV,b,pm,e,c,i,j,rfl,lk,k⟩:=F.ex;exact .all (h kV b pm e c i)
theorem nL{x a:Str}{st:Stmt}{f:Addr}{i:Value}{j g:Option Addr}{e:Array (Option Value)}{kV d pm b h:Value}(l:K.lookup f=some ⟨i,j,.func (fnOf x a (ju st) (ia st) (be st) .none kV d pm g b h),e⟩)
  (c:codeIn K b a=true) (k:keepIn K (.ref f)=true):kR K x a st f (fnOf x a (ju st) (ia st) (be st) .none kV d pm g b h):=⟨⟨i,j,kV,d,pm,g,b,h,e,rfl,l,c⟩,k⟩
end
theorem zt{A:Around}{k:Nat}(a:br k A):A.units+1<cLine:=Nat.lt_of_le_of_lt (Nat.add_le_add_left (by decide:1<=64) _) a.units
section
variable{X:Cx}
theorem pv(i:Nat){x:Str}{pos:Pos}(b:X.N[i]? = some x:=by rfl)(c:pU X.env.scope x:=by first | exact Or.inl rfl | exact Or.inr (Or.inl rfl) | exact Or.inr (Or.inr rfl))(hd:(x==("__debug__":Str))=false:=by decide)
  (a:(x==("__classdict__":Str))=false:=by decide):PE X (.Name x pos) (ca i):=EI b c hd a
end
theorem eW{A B:Prop}(h:B):if false=true then A else B:=by rw[if_neg Bool.false_ne_true];exact h
theorem eX{A B:Prop}(h:A):if true=true then A else B:=by rw[if_pos rfl];exact h
def bV(H a:Hp):Prop:=∀b o,H b=some o->a b=some o
theorem bV.seq{K:Frag}{H b:Hp}{a:Addr}{c:List V}(e:bV H b)(h:cJ K H a c):cJ K b a c:=by
 rcases h with(h | ⟨o,h⟩) | h
 ·exact .inl (.inl (e _ _ h))
 ·exact .inl (.inr ⟨o,e _ _ h⟩)
 ·exact .inr h
end L2
set_option maxHeartbeats 4000000
namespace L2
open PySem PySem.Spec PyProof.Rows
section
variable{κ:Type}[DecidableEq κ]
noncomputable def iG(a:List (κ×V))(k:κ):Option V:=(a.find? fun b=>decide (b.1=k)).map (·.2)
noncomputable def eZ(a:List (κ×V))(k:κ)(v:V):List (κ×V):=
 if (a.any fun b=>decide (b.1=k))=true then a.map (fun b=>if b.1=k then(b.1,v) else b) else a++[(k,v)]
theorem uG{p:κ×V}{r:List (κ×V)}{k:κ}(e:p.1=k):iG (p::r) k=some p.2:=by simp[iG,List.find?_cons,e]
theorem uH{p:κ×V}{r:List (κ×V)}{k:κ}(e:¬ p.1=k):iG (p::r) k=iG r k:=by simp[iG,List.find?_cons,e]
theorem qg(k:κ):∀a:List (κ×V),(a.any fun b=>decide (b.1=k))=(iG a k).isSome
 | []=>rfl
 | p::r=>by
  rw[List.any_cons]
  by_cases e:p.1=k
  ·simp only[uG e,decide_eq_true e,Bool.true_or,Option.isSome_some]
  ·rw[uH e,decide_eq_false e,Bool.false_or];exact qg k r
theorem zu(a:List (κ×V))(k:κ)(v:V):(eZ a k v).length<=a.length+1:=by
 unfold eZ;split
 ·rw[List.length_map];omega
 ·rw[List.length_append,List.length_cons,List.length_nil];omega
theorem Hx{a:List (κ×V)}{k:κ}(v:V)(h:iG a k=none):eZ a k v=a++[(k,v)]:=by unfold eZ;rw[qg,h];exact if_neg (by decide)
theorem gp.isSome_eq{o:Option V}{u:Option Value}(r:gp o u):o.isSome=u.isSome:=by
 cases o with
 | none=>cases u with
  | none=>rfl
  | some _=>exact(show False from r).elim
 | some _=>cases u with
  | none=>exact(show False from r).elim
  | some _=>rfl
theorem KV.any{a:List (κ×V)}{c:List (κ×Value)}(r:KV a c)(k:κ):(a.any fun b=>decide (b.1=k))=c.any fun b=>decide (b.1=k):=by
 unfold KV at r
 induction r with
 | nil=>rfl
 | cons h t d=>rw[List.any_cons,List.any_cons,d,h.1]
theorem KV.repl{b:List (κ×V)}{d:List (κ×Value)}(r:KV b d)(k:κ){y:V}{u:Value}(f:bn y u) :
  KV (b.map fun a=>if a.1=k then(a.1,y) else a) (d.map fun a=>if a.1=k then(a.1,u) else a):=by
 unfold KV at r ⊢
 induction r with
 | nil=>exact .nil
 | @cons p q i j h t g=>
  rw[List.map_cons,List.map_cons];refine .cons ?_ g;obtain⟨c,h2⟩:=h
  by_cases e:p.1=k
  ·rw[if_pos e,if_pos (c.symm.trans e)];exact⟨c,f⟩
  ·rw[if_neg e,if_neg (fun z=>e (c.trans z))];exact⟨c,h2⟩
theorem KV.put{a:List (κ×V)}{b:List (κ×Value)}(r:KV a b)(k:κ){y:V}{u:Value}(c:bn y u):KV (eZ a k y) (stored b k u):=by
 unfold eZ stored;rw[r.any k]
 by_cases e:(b.any fun d=>decide (d.1=k))=true
 ·rw[if_pos e,if_pos e];exact r.repl k c
 ·rw[if_neg e,if_neg e];exact Paired.snoc r ⟨rfl,c⟩
theorem KV.length{a:List (κ×V)}{b:List (κ×Value)}(r:KV a b):a.length=b.length:=Paired.length r
end
theorem zv{P:Program}{w:World}{k:bd}{u:Value}(r:bn (kV k) u):(gn P w).is k u=true:=by
 cases k with
 | inl i=>obtain⟨t,e⟩:=(show ∃t,u=Value.int i t from r);subst e;exact EA P w i t
 | inr x=>obtain⟨t,e⟩:=(show ∃t,u=Value.str x t from r);subst e;exact EB P w x t
theorem zw{P:Program}{w:World}:∀{a:List bd}{b:List Value},bh (a.map kV) b->ItemsAre (gn P w) a b
 | [],_,r=>by rw[List.map_nil] at r;cases r;exact .nil
 | k::a,_,r=>by
  rw[List.map_cons] at r;cases r with
  | cons h t=>exact .cons (zv h) (zw t)
noncomputable abbrev KT(H:Hp):List (List bd×V)->List (List bd×Addr×Value)->Prop:=Paired fun p q=>p.1=q.1/\H q.2.1=some (.tup (p.1.map kV))/\bn p.2 q.2.2
theorem KT.val{H:Hp}{a:List (List bd×V)}{f:List (List bd×Addr×Value)}(r:KT H a f)(k:List bd):gp (iG a k) ((atKey f k).map (·.2)):=by
 induction r with
 | nil=>exact True.intro
 | @cons p q j c h t i=>
  obtain⟨g,_,h2⟩:=h
  by_cases e:p.1=k
  ·have d:q.1=k:=g.symm.trans e;have b:atKey (q::c) k=some q.2:=by simp[atKey,List.find?_cons,d]
   rw[uG e,b];exact h2
  ·have d:¬ q.1=k:=fun z=>e (g.trans z);have b:atKey (q::c) k=atKey c k:=by simp[atKey,List.find?_cons,d]
   rw[uH e,b];exact i
theorem KT.repl{H:Hp}{a:List (List bd×V)}{d:List (List bd×Addr×Value)}(r:KT H a d)(k:List bd){y:V}{u:Value}(f:bn y u) :
  KT H (a.map fun c=>if c.1=k then(c.1,y) else c) (d.map (putAt k u)):=by
 induction r with
 | nil=>exact .nil
 | @cons p q i j h t g=>
  rw[List.map_cons,List.map_cons];refine .cons ?_ g;obtain⟨b,h2,h3⟩:=h;unfold putAt
  by_cases e:p.1=k
  ·rw[if_pos e,if_pos (b.symm.trans e)];exact⟨b,h2,f⟩
  ·rw[if_neg e,if_neg (fun z=>e (b.trans z))];exact⟨b,h2,h3⟩
theorem KT.put{H:Hp}{a:List (List bd×V)}{c:List (List bd×Addr×Value)}(r:KT H a c)(k:List bd){b:Addr}{y:V}{u:Value}(g:H b=some (.tup (k.map kV)))(d:bn y u) :
  KT H (eZ a k y) (storedH c k b u):=by
 have e:(a.any fun f=>decide (f.1=k))=(atKey c k).isSome:=by rw[qg,(r.val k).isSome_eq,Option.isSome_map]
 unfold eZ storedH;rw[e]
 by_cases q:(atKey c k).isSome=true
 ·rw[if_pos q,if_pos q];exact r.repl k d
 ·rw[if_neg q,if_neg q];exact Paired.snoc r ⟨rfl,g,d⟩
theorem KT.keeps{H c:Hp}{a:List (List bd×V)}{d:List (List bd×Addr×Value)}(r:KT H a d)(f:∀b e,H b=some (.tup e)->c b=some (.tup e)):KT c a d:=
 Paired.mapP r fun _ _ z=>⟨z.1,f _ _ z.2.1,z.2.2⟩
section
variable{P:Program}{w:World}{H:Hp}{h:Heap}{a:Addr}
theorem zx{u:HO}(ok:HOk P w H h)(e:Rd H a u):cq P w H h a u:=e.ok ok
theorem Hy{b:List (bd×V)}(ok:HOk P w H h)(e:Rd H a (.dK b)):b.length<=sizeLine/\(a==sysModules)=false/\∃c,KV b c/\h.DictOf (gn P w) a c:=
 show cq P w H h a (.dK b) from zx ok e
theorem Hz{b:List (bd×V)}(ok:HOk P w H h)(e:H a=some (.dK b)):b.length<=sizeLine/\(a==sysModules)=false/\∃c,KV b c/\h.DictOf (gn P w) a c:=Hy ok (.inl e)
theorem zy{b:List bd}(ok:HOk P w H h)(e:H a=some (.tup (b.map kV))):(tupleKind (gn P w)).is h b a:=by
 obtain⟨_,c,r,o,h1,h2,n,h3⟩:=(show cq P w H h a (.tup (b.map kV)) from ok a _ e)
 exact⟨o,c.toArray,n,h1,h2,h3,by simpa using zw r⟩
theorem HA{b:List (List bd×V)}(ok:HOk P w H h)(e:Rd H a (.dT b)):b.length<=sizeLine/\(a==sysModules)=false/\
  ∃d,KT H b d/\h.DictOfH (tupleKind (gn P w)) a d:=by
 obtain⟨z,y,d,r,o,g,i,h1,h2,h3,j,k⟩:=(show cq P w H h a (.dT b) from zx ok e)
 refine⟨z,y,d,r,o,g,i,h1,h2,h3,j,fun x c=>?_,k⟩;have all:∀{l:List (List bd×V)}{m:List (List bd×Addr×Value)},KT H l m->∀x∈m,(tupleKind (gn P w)).is h x.1 x.2.1:=by
  intro l m q
  induction q with
  | nil=>intro x c;exact nomatch c
  | @cons p q s u f t n=>
   intro x c;rcases List.mem_cons.mp c with e | c
   ·subst e;exact zy ok (by rw[<-f.1];exact f.2.1)
   ·exact n x c
 exact all r x c
theorem HB{b:List (List bd×V)}(ok:HOk P w H h)(e:H a=some (.dT b)):b.length<=sizeLine/\(a==sysModules)=false/\
  ∃c,KT H b c/\h.DictOfH (tupleKind (gn P w)) a c:=HA ok (.inl e)
end
def kS(H:Hp)(a:Addr)(y v:V)(d:Hp):Prop:=
 (∃c k,H a=some (.dK c)/\y=kV k/\c.length<sizeLine/\d = aM H a (.dK (eZ c k v)))\/
 ∃c k b,H a=some (.dT c)/\y=.ref b/\H b=some (.tup (k.map kV))/\c.length<sizeLine/\d = aM H a (.dT (eZ c k v))
theorem kS.k{H:Hp}{a:Addr}{b:List (bd×V)}{k:bd}{v:V}(e:H a=some (.dK b))(c:b.length<sizeLine):kS H a (kV k) v (aM H a (.dK (eZ b k v))):=.inl ⟨b,k,e,rfl,c,rfl⟩
theorem kS.t{H:Hp}{a b:Addr}{c:List (List bd×V)}{k:List bd}{v:V}(e:H a=some (.dT c))(d:H b=some (.tup (k.map kV)))(f:c.length<sizeLine) :
  kS H a (.ref b) v (aM H a (.dT (eZ c k v))):=.inr ⟨c,k,b,e,rfl,d,f,rfl⟩
section
variable{X:Cx}{pins:List (Addr×Obj)}{Y:St}{H:Hp}{s:Shared}{a:Addr}{y v:V}{u r:Value}{o:Option V}{A:Around}{E:Value->Shared->Prop}
theorem Inv.big(I:Inv X pins Y H s):sysModules<s.heap.objs.size:=by have h:mainGlobals<s.heap.objs.size:=(I.mod.glob.keeps I.bk).lt;exact Nat.lt_trans (by decide) h
theorem zG{c:Heap}{t':Nat}{d:HO}(I:Inv X pins Y H s)(f:nG (H a))(g:Heap.SameBut a s.heap c)(h:∃q,c.get? a=some q)(new:cq X.prog X.w (aM H a d) c a d) :
  Inv X pins Y (aM H a d) { s with heap:=c,toks:=t' }:=
 I.write (x:=a) (e:=a) f (.inl rfl) (fun b q i z=>(g.2 b i).trans z) h new
theorem HD{P:Program}{w:World}{e:Hp}{d:Heap}{b:List (bd×V)}{c:List (bd×Value)}(z:b.length<=sizeLine)(hd:(a==sysModules)=false)(rel:KV b c)(f:d.DictOf (gn P w) a c) :
  cq P w e d a (.dK b):=⟨z,hd,c,rel,f⟩
theorem HE{x:Hp}{Q:Unit->Shared->Prop}(M:A.units+1<cLine)(I:Inv X pins Y H s)(g:kS H a y v x)(B:bn y u)(C:bn v r)(h:∀D,Inv X pins Y x D->Q () D) :
  wpAny (model X.prog X.w) A (setItem (.ref a) u r) Q E s:=by
 rcases g with⟨d,k,e,j,l,m⟩ | ⟨d,k,b,e,j,G,l,m⟩
 ·subst j m;obtain⟨z,hd,N,rel,dd⟩:=Hz I.hok e;have n:N.length<=sizeLine:=by rw[<-rel.length];exact z
  have p:(eZ d k v).length<=sizeLine:=by have:=zu d k v;omega
  refine wpAny_setItem_pairs (hsz:=n) (zv B) dd fun J f t=>h _ ?_;have O:∃q,J.get? a=some q:=let⟨q,_,_,i,_⟩:=f;⟨q,i⟩;exact zG I (by rw[e];exact True.intro) t O (HD p hd (rel.put k C) f)
 ·subst j m;cases(show u=Value.ref b from B);obtain⟨z,hd,R,rel,dd⟩:=HB I.hok e;have n:R.length<=sizeLine:=by rw[<-Paired.length rel];exact z
  have p:(eZ d k v).length<=sizeLine:=by have:=zu d k v;omega
  refine wpAny_setItem_heap (hsz:=n) (tupleKind_room_in1 M) (zy I.hok G) dd fun J f t=>h _ ?_;obtain⟨q,S,T,i,h2,h3,U,_,Z⟩:=f;refine zG I (by rw[e];exact True.intro) t ⟨q,i⟩ ⟨p,hd,_,(rel.put k G C).keeps fun c ys L=>?_,q,S,T,i,h2,h3,U,Z⟩;rw[bi (ED L e (fun z=>nomatch z))];exact L
end
def zH(i:Expr):Prop:=∀a b,subscripted i false a b=operate [a,b] (getItem a b)
theorem HF{a:Program}{w:World}{A:Around}{E:Value->Shared->Prop}{s:Shared}{b:Env}{value slice:Expr}{pos:Pos}{T id:String}{Q:Value->Shared->Prop}
  (j:typeLookup (.type T) "__getitem__" = pure (some (.builtin id))) (k:zH slice)
  (h:wpAny (model a w) A (eval value b) (fun o e=>wpAny (model a w) A (eval slice b) (fun i c=>c.TypeIs o T/\wpAny (model a w) A (getItem o i) Q E c) E e) E s) :
  wpAny (model a w) A (eval (.Subscript value slice pos) b) Q E s:=by
 refine Subscript_ (wpAny_mono h (fun o e l=>wpAny_mono l (fun i c d=>?_) fun _ _ x=>x) fun _ _ x=>x);obtain⟨f,d⟩:=d;unfold subscriptTail;refine aw ?_;rw[getitemInPython_of_ne f.not_modules];refine aw (wpAny_specialOf f j ?_);have fin:wpAny (model a w) A (subscripted slice false o i) (fun r g=>wpAny (model a w) A (letTemporaryGo value o r >>= fun _=>pure r) Q E g) E c:=by rw[k o i];exact wpAny_operating (wpAny_mono d (fun r g m=>aw (wpAny_letTemporaryGo (bo m))) fun _ _ x=>x)
 first
  | exact bo (aw fin)
  | exact aw (bo (aw fin))
  | exact aw fin
noncomputable def HG(c h d:TE):TS:=fun D Y H=>d Y H fun v e=>c Y e fun x f=>h Y f fun y g=>∃a b,x=.ref a/\kS g a y v b/\D.nx Y b
section
variable{X:Cx}{o i e value:Expr}{pos pos' tpos:Pos}{td ty tv:TE}
theorem HH(c:X.A.units+1<cLine)(L:PE X o td)(d:PE X i ty)(f:PE X value tv)(j:swapsWith value (some (.Subscript o i pos')) pos.line X.env=pure false) :
  PS X (.Assign [.Subscript o i pos'] value pos) (HG td ty tv):=by
 intro b s Y H D I h;refine wpAny_Assign_Subscript (aK (f b s Y H _ I h) fun r k ⟨v,l,I1,m,n⟩=>aK (L b k Y l _ I1 n) fun u p ⟨x,q,t,w,z⟩=>aK (d b p Y q _ t z) fun M N ⟨y,O,B,C,a,E,ex,g,G⟩=>?_) j;subst ex;obtain rfl:u=Value.ref a:=w;exact HE c B g C m fun Q J=>⟨Y,E,J,G⟩
end
theorem HI{P:Program}{w:World}{H:Hp}(h:Heap)(a:sysModules<h.objs.size):cq P w H (h.push { cls:=.type "dict",data:=.dict #[] }) h.objs.size (.dT []):=
 ⟨Nat.zero_le _,beq_eq_false_iff_ne.mpr (Ne.symm (Nat.ne_of_lt a)),[],.nil,_,#[],0,Heap.get?_push_size _ rfl,⟨rfl,rfl,rfl⟩,rfl,rfl,List.nodup_nil⟩
noncomputable def HJ:TE:=fun _ H Q=>∀p,H p=none->Q (.ref p) (aM H p (.dT []))
section
variable{X:Cx}{pos:Pos}
theorem HK:PE X (.Dict [] [] pos) HJ:=fun b s Y H Q I h=>wpAny_Dict_empty ⟨.ref s.heap.objs.size,_,I.laid (a:=s.heap.objs.size) (o:=.dT []) (t':=s.toks) (fun _ _ q=>bv _ q) (bG _) (HI s.heap I.big),rfl,h _ (I.hok.fresh (bG _))⟩
end
noncomputable def cD(b:Env):List (Str×NameKind)->List (Str×Addr)->List (Str×Addr)
 | [],a=>a
 | (n,k)::r,a=>if k==.free then cD b r ((n,(b.cells.lookup n).getD 0)::a) else cD b r a
theorem zI(d:Env):∀(b:List (Str×NameKind)) (e:List (Str×Addr)),(∀y∈b,y.2=.free->(d.cells.lookup y.1).isSome=true)->
  (forIn b e fun(x:Str×NameKind) (g:List (Str×Addr))=>if (x.2==NameKind.free)=true then(do let c <-cellOf d x.1;pure (ForInStep.yield ((x.1,c)::g))) else(pure (ForInStep.yield g):Sem (ForInStep (List (Str×Addr)))))=pure (cD d b e)
 | [],e,_=>rfl
 | (n,k)::r,e,h=>by
  have i:=fun a=>zI d r a fun y l=>h y (bN _ l);rw[List.forIn_cons];unfold cD
  by_cases f:(k==NameKind.free)=true
  ·obtain⟨c,j⟩:=Option.isSome_iff_exists.mp (h (n,k) List.mem_cons_self (by simpa using f));simp only[f,if_true];have:cellOf d n=pure c:=by unfold cellOf;rw[j]
   rw[this,j];exact i _
  ·simp only[f];exact i _
theorem uI{a:Scope}{b:Env}(h:∀y∈a.names,y.2=.free->(b.cells.lookup y.1).isSome=true):closureFor a b=pure (cD b a.names []):=by have e:=zI b a.names [] h;unfold closureFor;exact congrArg (fun m=>m >>= pure) e
theorem uJ{b:Env}{x:Str}:∀{a:List (Str×NameKind)}{f:List (Str×Addr)}{c:Addr},(∀y∈a,y.2=.free->(b.cells.lookup y.1).isSome=true)->
  (∀c,f.lookup x=some c->b.cells.lookup x=some c)->(cD b a f).lookup x=some c->b.cells.lookup x=some c
 | [],_,_,_,g,h=>g _ h
 | (n,k)::r,f,c,i,g,h=>by
  unfold cD at h
  by_cases j:(k==NameKind.free)=true
  ·rw[if_pos j] at h;refine uJ (fun y l=>i y (bN _ l)) (fun o e=>?_) h;rw[List.lookup_cons] at e;cases m:x==n with
   | true=>
    rw[m] at e;have:x=n:=by simpa using m
    subst this;obtain⟨d,hd⟩:=Option.isSome_iff_exists.mp (i (x,k) List.mem_cons_self (by simpa using j));rw[hd] at e ⊢;exact e
   | false=>rw[m] at e;exact g _ e
  ·rw[if_neg j] at h;exact uJ (fun y l=>i y (bN _ l)) g h
theorem qh{env:Env}{x:Str}:∀{a:List (Str×NameKind)}{acc:List (Str×Addr)},((x,NameKind.free)∈a\/(acc.lookup x).isSome=true)->((cD env a acc).lookup x).isSome=true
 | [],_,h=>by rcases h with h | h;cases h;exact h
 | (n,k)::r,acc,h=>by
  unfold cD
  by_cases b:(k==NameKind.free)=true
  ·rw[if_pos b];refine qh ?_;rw[List.lookup_cons];cases c:x==n with
   | true=>exact .inr rfl
   | false=>
    rcases h with h | h
    ·rcases List.mem_cons.mp h with e | h
     ·cases e;simp at c
     ·exact .inl h
    ·exact .inr h
  ·rw[if_neg b];refine qh ?_;rcases h with h | h
   ·rcases List.mem_cons.mp h with e | h
    ·cases e;simp at b
    ·exact .inl h
   ·exact .inr h
noncomputable abbrev fF(a:Env):Str×NameKind->Str×NameKind:=fun(n,k)=>if (k==NameKind.free&&a.scope.kind==.function&&a.kindOf n==some .cell) then(n,NameKind.cell) else(n,k)
theorem uK{env:Env}:∀{a:List (Str×NameKind)}{x:Str}{k:NameKind},a.lookup x=some k->
  (a.map (fF env)).lookup x=some k\/(k=.free/\(a.map (fF env)).lookup x=some .cell)
 | [],_,_,h=>by simp at h
 | (n,k)::r,x,f,h=>by
  have g:=@uK env r x f;rw[List.map_cons];have e:fF env (n,k)=(n,k)\/(k=.free/\fF env (n,k)=(n,.cell)):=by
   by_cases c:(k==NameKind.free&&env.scope.kind==.function&&env.kindOf n==some .cell)=true
   ·refine .inr ⟨?_,if_pos c⟩;cases k<;>first | rfl | (simp at c)
   ·exact .inl (if_neg c)
  cases b:x==n with
  | true=>
   simp only[List.lookup_cons,b] at h;cases h;rcases e with e | ⟨d,e⟩
   ·rw[e];exact .inl (by simp only[List.lookup_cons,b])
   ·rw[e];exact .inr ⟨d,by simp only[List.lookup_cons,b]⟩
  | false=>simp only[List.lookup_cons,b] at h;rcases e with e | ⟨d,e⟩<;>(rw[e];simp only[List.lookup_cons,b];exact g h)
theorem zJ{env:Env}:∀{a:List (Str×NameKind)}{x:Str},a.lookup x=none->(a.map (fF env)).lookup x=none
 | [],_,_=>rfl
 | (n,k)::r,x,h=>by
  have d:=@zJ env r x;rw[List.map_cons];have e:fF env (n,k)=(n,k)\/fF env (n,k)=(n,.cell):=by
   by_cases c:(k==NameKind.free&&env.scope.kind==.function&&env.kindOf n==some .cell)=true
   ·exact .inr (if_pos c)
   ·exact .inl (if_neg c)
  cases b:x==n with
  | true=>simp only[List.lookup_cons,b] at h;cases h
  | false=>simp only[List.lookup_cons,b] at h;rcases e with e | e<;>(rw[e];simp only[List.lookup_cons,b];exact d h)
section
variable{prog:Program}{w:World}{A:Around}{E:Value->Shared->Prop}{R:Result->Shared->Prop}{s:Shared}
theorem HL{e target iter:Expr}{f:List Expr}{d:Scope}{pos:Pos}{it g:Value}{a:Env}(I:Nat->Shared->Prop)
  (turn:∀n s,I n s->wpAny (model prog w) A (pyNext it) (fun r j=>match r with
   | none=>R (.ok .next) j
   | some v=>wpAny (model prog w) A (letOwnedTupleGo target it v) (fun _ i=>wpAny (model prog w) A (assign target a v) (fun _ o=>
     wpAny (model prog w) A (forIn f true fun c r=>if r=true then do let ok <-isTrue c a (eval c a);pure (ForInStep.yield ok) else pure (ForInStep.yield r)) (fun ok k=>
      if ok=true then wpAny (model prog w) A (eval e a) (fun x p=>
       wpAny (model prog w) A (call (.builtin "list.append") [g,x]) (fun _ q=>∃m,m<n/\I m q) (fun _ _=>False) p) (fun _ _=>False) k
      else ∃m,m<n/\I m k) (fun _ _=>False) o) (fun _ _=>False) i) (fun _ _=>False) j) (fun _ _=>False) s)
  (n:Nat) (h:I n s) :
  codeAny (model prog w) A (.compLoop (.ListComp e [⟨target,iter,f,0⟩] d pos) 0 it g a) R s:=by
 refine codeAny_loop rfl I (fun n s y=>?_) n h;show wpAny _ A ((compTurn (.ListComp e [⟨target,iter,f,0⟩] d pos) 0 it g a).onRaise (fun x=>do noteFrame x a;theTreesLotGoes x)) _ _ s;refine wpAny_noted (wpAny_noRaise ?_);rw[compTurn_list];refine aw (wpAny_standAt (aw (wpAny_mono (turn n s y) (fun r j t=>?_) fun _ _ b=>b)));cases r with
 | none=>exact bo t
 | some v=>
  refine aw (wpAny_mono t (fun _ i l=>?_) fun _ _ b=>b);refine aw (wpAny_mono l (fun _ o z=>aw (wpAny_mono z (fun ok k u=>?_) fun _ _ b=>b)) fun _ _ b=>b);cases ok with
  | false=>exact bo ⟨rfl,u⟩
  | true=>exact aw (aw (wpAny_mono u (fun x p B=>aw (wpAny_mono B (fun _ q C=>bo (bo ⟨rfl,C⟩)) fun _ _ b=>b)) fun _ _ b=>b))
end
theorem qi{x:Str}:∀(a:List (Str×NameKind)) (n:Nat) (b:List (Str×Addr)),((x,NameKind.cell)∉a)->(cellsFrom n a b).lookup x=b.lookup x
 | [],_,_,_=>rfl
 | (y,k)::r,n,b,h=>by
  unfold cellsFrom;have c:(x,NameKind.cell)∉r:=fun z=>h (bN _ z);split
  ·rename_i d;rw[qi r _ _ c,List.lookup_cons];have:(x==y)=false:=by
    cases e:x==y with
    | false=>rfl
    | true=>exact absurd (by rw[eq_of_beq e,<-eq_of_beq d];exact List.mem_cons_self) h
   rw[this]
  ·exact qi r _ _ c
theorem qj{x:Str}{c:Addr}:∀(a:List (Str×NameKind)) (h:Heap) (b:List (Str×Addr)),(cellsFrom h.objs.size a b).lookup x=some c->b.lookup x=some c\/(h.objs.size<=c/\(x,NameKind.cell)∈a/\(pushCells h a).IsCell c none)
 | [],_,_,e=>.inl e
 | (y,k)::r,h,b,e=>by
  unfold cellsFrom at e;unfold pushCells;split at e
  ·rename_i d;rw[if_pos d];have sz:(h.push { cls:=.type "cell",data:=.cell none }).objs.size=h.objs.size+1:=Heap.size_push ..;rw[<-sz] at e;rcases qj r _ _ e with z | ⟨f,g,i⟩
   ·rw[List.lookup_cons] at z;split at z
    ·rename_i j;cases z;refine .inr ⟨bG _,?_,⟨_,pushCells_keeps r _ _ _ (Heap.get?_push_size _ rfl),rfl⟩⟩;rw[eq_of_beq j,<-eq_of_beq d];exact List.mem_cons_self
    ·exact .inl z
   ·exact .inr ⟨by rw[sz] at f;omega,bN _ g,i⟩
  ·rename_i d;rw[if_neg d];rcases qj r _ _ e with z | ⟨f,g,i⟩
   ·exact .inl z
   ·exact .inr ⟨f,bN _ g,i⟩
theorem uL{x:Str}{c:Addr}:∀(a:List (Str×NameKind)) (n:Nat) (b:List (Str×Addr)),(x,NameKind.cell)∈a->(cellsFrom n a b).lookup x=some c->n<=c
 | (y,k)::r,n,b,f,e=>by
  unfold cellsFrom at e
  by_cases d:(x,NameKind.cell)∈r
  ·split at e
   ·have:=uL r _ _ d e;omega
   ·exact uL r _ _ d e
  ·rcases List.mem_cons.mp f with z | z
   ·cases z;rw[if_pos (by rfl),qi r _ _ d,List.lookup_cons,beq_self_eq_true] at e;cases e;exact bG _
   ·exact absurd z d
theorem uM{x:Str}:∀(a:List (Str×NameKind)) (n:Nat) (b:List (Str×Addr)),((x,NameKind.cell)∈a\/(b.lookup x).isSome=true)->((cellsFrom n a b).lookup x).isSome=true
 | [],_,_,h=>by rcases h with h | h;cases h;exact h
 | (y,k)::r,n,b,h=>by
  unfold cellsFrom;split
  ·rename_i c;refine uM r _ _ ?_;rcases h with h | h
   ·rcases List.mem_cons.mp h with z | z
    ·cases z;right;rw[List.lookup_cons,beq_self_eq_true];rfl
    ·exact .inl z
   ·right;rw[List.lookup_cons];split
    ·rfl
    ·exact h
  ·rename_i c;refine uM r _ _ ?_;rcases h with h | h
   ·rcases List.mem_cons.mp h with z | z
    ·cases z;exact absurd rfl c
    ·exact .inl z
   ·exact .inr h
theorem uN{x y:Str}{c:Addr}{lo:Nat}:∀(i:List (Str×NameKind)) (n:Nat) (d:List (Str×Addr)),(∀x y c,lo<=c->d.lookup x=some c->d.lookup y=some c->x=y)->(∀x c,d.lookup x=some c->c<n)->lo<=c->(cellsFrom n i d).lookup x=some c->(cellsFrom n i d).lookup y=some c->x=y
 | [],_,_,h,_,l,g,f=>h _ _ _ l g f
 | (z,k)::r,n,d,h,hb,l,g,f=>by
  unfold cellsFrom at g f;split at g
  ·rename_i j;rw[if_pos j] at f;refine uN r (n+1) ((z,n)::d) (fun x y c l g f=>?_) (fun x c e=>?_) l g f
   ·rw[List.lookup_cons] at g f;split at g<;>split at f
    ·rename_i a _ b;rw[eq_of_beq a,eq_of_beq b]
    ·cases g;exact absurd (hb _ _ f) (Nat.lt_irrefl _)
    ·cases f;exact absurd (hb _ _ g) (Nat.lt_irrefl _)
    ·exact h _ _ _ l g f
   ·rw[List.lookup_cons] at e;split at e
    ·cases e;exact Nat.lt_succ_self _
    ·exact Nat.lt_succ_of_lt (hb _ _ e)
  ·rename_i j;rw[if_neg j] at f;exact uN r n d h hb l g f
theorem zK{M:Model}{A:Around}{E:Value->Shared->Prop}{s:Shared}{scope:Scope}{globals:Addr}{cl:List (Str×Addr)}{qual:Str}{a:Env}{Q:Env->Shared->Prop}
  (h:Q { scope,locals:=s.heap.objs.size,globals,cells:=cellsFrom (s.heap.objs.size+1) scope.names cl,qual,func:=none,code:=a.code,frame:=a.frame,builtins:=a.builtins } { s with heap:=pushCells (s.heap.push { cls:=.type "dict",data:=.dict #[] }) scope.names }) :
  wpAny M A (newFunctionEnv scope globals cl [] qual none .none (some a)) Q E s:=by
 simp only[newFunctionEnv,Option.isSome_some,if_true];refine aw (wpAny_alloc ?_);refine aw (wpAny_layCells _ (fun name kind cells=>by cases b:kind==NameKind.cell<;>simp[b]) _ _ _ _ ?_);rw[show({ s with heap:=s.heap.push { cls:=.type "dict",data:=.dict #[] } }:Shared).heap.objs.size=s.heap.objs.size+1 from Heap.size_push ..];exact aw (bo (bo h))
noncomputable abbrev cg(X:Cx)(scope:Scope)(N':List Str)(C:Addr)(fp:List Addr)(s₂:Shared)(H₂:Hp)(pl:List (Addr×Obj)):Cx where
 prog:=X.prog
 w:=X.w
 K:=X.K
 mg:=X.mg
 base:=X.base
 A:=X.A
 N:=N'
 s₀:=s₂
 H₀:=H₂
 env:=compEnvC scope (cellsFrom (C+1) scope.names (cD X.env scope.names [])) C X.env
 outer:=X.stack
 stack:=X.stack
 ex:=fp
 fn:=fun y=>scope.names.lookup y==some .cell
 calm:=X.calm
 pn:=X.pn++pl
 xe:=fun _ _=>False
structure aq (X:Cx) (scope:Scope) (own capN:List Str) (caps:List Nat):Prop where
 kind:scope.kind=.function
 one:∀y∈scope.names,scope.names.lookup y.1=some y.2
 free:∀y∈scope.names,y.2=.free->X.env.kindOf y.1=some .cell\/X.env.kindOf y.1=some .free
 loc:∀y∈scope.names,y.2=.local->scope.names.lookup y.1=some .local
 caps:caps.map (fun j=>X.N[j]?)=capN.map some
 capf:∀x∈capN,scope.names.lookup x=some .free
noncomputable def dF(own:List Str)(a:List Nat)(Y:St):St:=own.map (fun _=>none)++a.map (fun j=>(Y[j]?).getD none)
section
variable{X:Cx}{scope:Scope}{own capN:List Str}{caps:List Nat}
theorem aq.cells(S:aq X scope own capN caps)(ok:X.Ok):∀y∈scope.names,y.2=.free->(X.env.cells.lookup y.1).isSome=true:=fun y a b=>by obtain⟨c,d⟩:=ok.has y.1 (S.free y a b);rw[d];rfl
theorem aq.cl(S:aq X scope own capN caps)(ok:X.Ok){x:Str}{c:Addr}(h:(cD X.env scope.names []).lookup x=some c):X.env.cells.lookup x=some c:=
 uJ (S.cells ok) (fun _ e=>by simp at e) h
theorem zL{f:List (Addr×Obj)}{Y:St}{H₂:Hp}{B:Shared}{L:Heap}{C:Addr}{fp:List Addr}{tk:Nat}{m:Str->Option Value}(S:aq X scope own capN caps)(I:Inv X f Y H₂ B)
  (hf:∀b∈fp,fA X f H₂ b) (M:∀b∈fp,b<B.heap.objs.size) (t:B.heap.objs.size<=C) (O:∀b o,B.heap.get? b=some o->L.get? b=some o) (hn:L.Ns C m) (Q:∀x c,(cellsFrom (C+1) scope.names (cD X.env scope.names [])).lookup x=some c->(cD X.env scope.names []).lookup x=some c\/(C+1<=c/\L.IsCell c none)) :
  Inv (cg X scope (own++capN) C fp B H₂ f) [] (dF own caps Y) H₂ { B with heap:=L,toks:=tk }:=by
 have cl:=fun {x:Str}{c:Addr}=>S.cl (x:=x) (c:=c) I.ok;have lt:∀{x:Str}{c:Addr},X.env.cells.lookup x=some c->c<B.heap.objs.size:=fun e=>by obtain⟨v,q⟩:=I.cell _ _ e;exact q.lt
 have D:∀{x:Str}{c:Addr},X.env.cells.lookup x=some c->C+1<=c->False:=fun e z=>absurd (Nat.lt_of_lt_of_le (lt e) (Nat.le_trans t (Nat.le_of_succ_le z))) (Nat.lt_irrefl _);have a:∀{x:Str}{c:Addr},(cellsFrom (C+1) scope.names (cD X.env scope.names [])).lookup x=some c->X.env.cells.lookup x=some c\/(C+1<=c/\L.IsCell c none):=fun {x c} e=>(Q x c e).imp (fun z=>cl z) fun z=>z;have r:∀x,((relabel scope X.env).names.lookup x=some .cell\/(relabel scope X.env).names.lookup x=some .free)->scope.names.lookup x=some .free\/scope.names.lookup x=some .cell:=fun x H=>by
  cases e:scope.names.lookup x with
  | none=>have z:(relabel scope X.env).names.lookup x=none:=zJ (env:=X.env) e;rw[z] at H;rcases H with q | q<;>cases q
  | some k=>
   rcases uK (env:=X.env) e with z | ⟨z,_⟩
   ·have z':(relabel scope X.env).names.lookup x=some k:=z;rw[z'] at H;rcases H with q | q
    ·cases q;exact .inr rfl
    ·cases q;exact .inl rfl
   ·rw[z];exact .inl rfl
 have stk:∀b,b≠X.env.locals->b∉X.fs->b∉bI X.stack:=fun b J g z=>(List.mem_cons.mp (I.stkSub b z)).elim J g;refine⟨⟨I.ok.mod,S.kind,I.ok.glob,I.ok.blt,t,fun x y c J g=>?inj,fun x H=>?_,fun x c h e=>?cab,I.ok.hd,I.ok.frames,.inl rfl,fun b A=>⟨?_,fun x c h=>?exf⟩,
   I.bs,Nat.le_trans I.ok.bsz I.sz,fun b o e A=>?_,fun b A=>stk b (hf b A).2.1 (hf b A).2.2.1,I.stack,I.stkFree⟩,
  rfl,I.bare,Un.kept O,⟨m,hn,fun i x v J g h3=>?_⟩,fun x c h=>?_,I.hok.fresh t,fun x c h=>?frc,fun p hp=>?_,I.hok.kept O,?_⟩
 case inj=>
  rcases a J with R | ⟨R,_⟩<;>rcases a g with z2 | ⟨z2,_⟩
  ·exact I.ok.inj x y c R z2
  ·exact(D R z2).elim
  ·exact(D z2 R).elim
  ·exact uN (lo:=C+1) scope.names (C+1) (cD X.env scope.names []) (fun x y c l e _=>(D (cl e) l).elim) (fun x c e=>Nat.lt_succ_of_le (Nat.le_trans (Nat.le_of_lt (lt (cl e))) t)) R J g
 case cab=>have e1:=eq_of_beq (show(scope.names.lookup x==some NameKind.cell)=true from h);have:=uL scope.names (C+1) (cD X.env scope.names []) (PySem.mem_of_lookup e1) e;exact Nat.le_trans t (Nat.le_of_succ_le this)
 case exf=>
  rcases a h with z | ⟨z,_⟩
  ·exact(hf b A).2.2.2.2.1 x c z
  ·exact Ne.symm (Nat.ne_of_lt (Nat.lt_of_lt_of_le (M b A) (Nat.le_trans t (Nat.le_of_succ_le z))))
 case frc=>
  rcases a h with z | ⟨z,_⟩
  ·exact I.freeC x c z
  ·exact I.hok.fresh (Nat.le_trans t (Nat.le_of_succ_le z))
 ·refine Option.isSome_iff_exists.mp (uM scope.names (C+1) (cD X.env scope.names []) ?_);rcases r x H with q | q
  ·exact .inr (qh (env:=X.env) (.inl (PySem.mem_of_lookup q)))
  ·exact .inl (PySem.mem_of_lookup q)
 ·exact Nat.ne_of_lt (Nat.lt_of_lt_of_le (M b A) t)
 ·rcases(hf b A).2.2.2.1 with z | z
  ·exact I.ok.noex b o e z
  ·exact absurd (Nat.lt_of_lt_of_le (bq (I.ok.bs b o e).1) z) (Nat.lt_irrefl _)
 ·
  have hi:own.length<=i:=by
   refine Nat.le_of_not_lt fun a1=>?_;unfold dF at g;rw[List.getElem?_append_left (by simpa using a1),List.getElem?_map] at g;cases q:own[i]? with
   | none=>rw[q] at g;cases g
   | some y=>rw[q] at g;cases g
  have T:capN[i - own.length]? = some x:=by
   have:(own++capN)[i]? = some x:=J
   rwa [List.getElem?_append_right hi] at this
  have U:(caps.map (fun j=>(Y[j]?).getD none))[i - own.length]? = some (some v):=by
   unfold dF at g
   rwa [List.getElem?_append_right (by simpa using hi),List.length_map] at g
  rw[List.getElem?_map] at U;obtain⟨j,hj,s⟩:=Option.map_eq_some_iff.mp U;have hX:X.N[j]? = some x:=by have q:=congrArg (fun l=>l[i - own.length]?) S.caps;simp only[List.getElem?_map,hj,T,Option.map_some] at q;exact Option.some.inj q
  have hY:Y[j]? = some (some v):=by
   cases q:Y[j]? with
   | none=>rw[q] at s;cases s
   | some z=>rw[q] at s;simp at s;rw[s]
  have E:=S.capf x (List.mem_of_getElem? T);have w:(x,NameKind.free)∈scope.names:=PySem.mem_of_lookup E;have Z:=S.free _ w rfl;obtain⟨m',a3,hl⟩:=I.loc;obtain⟨u,ru,l⟩:=hl j x v hX hY (Z.elim (fun q=>.inr (.inl q)) fun q=>.inr (.inr q));refine⟨u,ru,.inr ⟨?_,?_⟩⟩
  ·rcases uK (env:=X.env) E with z | ⟨_,z⟩
   ·exact .inr z
   ·exact .inl z
  ·rcases l with⟨l,_⟩ | ⟨_,c,hc,G⟩
   ·have l':X.env.kindOf x=some .local:=l;rcases Z with q | q<;>(rw[l'] at q;cases q)
   ·obtain⟨c',a0⟩:=Option.isSome_iff_exists.mp (qh (env:=X.env) (acc:=[]) (.inl w));have:=cl a0;rw[hc] at this;cases this;obtain⟨o,ho,hd⟩:=G;have nc:(x,NameKind.cell)∉scope.names:=fun z=>by have:=S.one _ z;rw[E] at this;cases this
    exact⟨c,(qi scope.names (C+1) (cD X.env scope.names []) nc).trans a0,o,O c o ho,hd⟩
 ·rcases a h with z | ⟨_,z⟩
  ·obtain⟨v,o,ho,hd⟩:=I.cell x c z;exact⟨v,o,O c o ho,hd⟩
  ·exact⟨_,z⟩
 ·have a2:p∈X.pn++f:=by simpa using hp
  obtain⟨e,n,ne,nf,d⟩:=I.pin p a2;exact⟨O _ _ e,n,Nat.ne_of_lt (Nat.lt_of_lt_of_le (bq e) t),stk p.1 ne nf,d⟩
 ·unfold dF;have hl:=congrArg List.length S.caps;simp only[List.length_map] at hl;show(own.map (fun _=>(none:Option V))++caps.map (fun j=>(Y[j]?).getD none)).length=(own++capN).length;rw[List.length_append,List.length_append,List.length_map,List.length_map,hl]
end
def mj(X:Cx)(b:List Expr)(t:TT):Prop:=
 ∀(a:List (Addr×Obj)) (s:Shared) (Y:St) (H:Hp) (Q:Bool->Hp->Prop),Inv X a Y H s->t Y H Q->
  wpAny (model X.prog X.w) X.A (forIn b true fun c r=>if r=true then do let ok <-isTrue c X.env (eval c X.env);pure (ForInStep.yield ok) else pure (ForInStep.yield r)) (TP X a Y Q) X.xe s
noncomputable def HM:TT:=fun _ H Q=>Q true H
theorem HN{X:Cx}:mj X [] HM:=fun _ _ _ H _ I h=>wpAny_tests_nil ⟨H,I,h⟩
theorem HP{X:Cx}{c:Expr}{t:TT}(h:PT X c t):mj X [c] t:=fun a s Y H Q I q=>wpAny_tests_one (h a s Y H Q I q)
noncomputable def ml(own:List Str)(d:List Nat)(k:TI)(g:TG)(l:TT)(n:TE):TE:=fun Y H Q=>k Y H fun J o=>∃W:Nat->Nat->List V->St->Hp->Prop,(∃m,W 0 m [] (dF own d Y) o)/\∀i m a f H,W i m a f H->
 (J.stop i H/\a.length<=sizeLine/\∀p,H p=none->Q (.ref p) (aM H p (.lst a)))\/
 (J.go i H/\∀x h,J.yld i H x h->g x f h fun e q=>l e q fun b j=>if b=true then n e j fun y r=>a.length<sizeLine/\∃c,c<m/\W (i+1) c (a++[y]) e r else ∃c,c<m/\W (i+1) c a e j)
section
variable{X:Cx}{scope:Scope}{own capN:List Str}{caps:List Nat}{tg iter elt:Expr}{ifs:List Expr}{wi:TI}{g:TG}{tc:TT}{te:TE}{pos:Pos}
theorem zM{f:List (Addr×Obj)}{Y:St}{H:Hp}{s:Shared}{Q:VK}{RR:Value->Addr->Result->Shared->Prop}(S:aq X scope own capN caps)(hc:X.calm=true)(hi:PI X tg iter wi)
  (b7:∀C E s₂ H₂ pl,PG (cg X scope (own++capN) C E s₂ H₂ pl) tg g/\mj (cg X scope (own++capN) C E s₂ H₂ pl) ifs tc/\PE (cg X scope (own++capN) C E s₂ H₂ pl) elt te)
  (I:Inv X f Y H s) (h:ml own caps wi g tc te Y H Q)
  (b8:∀(D C:Addr) (s':Shared) (M:Hp) (m:Str->Option Value),Inv X f Y M s'->fA X f M C->s'.heap.Ns C m->Q (.ref D) M->RR (.ref D) C (.ok .next) s') :
  wpAny (model X.prog X.w) X.A (eval iter X.env) (fun x s₁=>wpAny (model X.prog X.w) X.A (pyIter x) (fun it s₂=>wpAny (model X.prog X.w) X.A (newList []) (fun b3 s₃=>
   wpAny (model X.prog X.w) X.A (newFunctionEnv scope X.env.globals (cD X.env scope.names []) [] X.env.qual none .none (some X.env)) (fun a8 s₄=>
    codeAny (model X.prog X.w) X.A (.compStart (.ListComp elt [⟨tg,iter,ifs,0⟩] scope pos) 0 it b3 { a8 with scope:=relabel scope X.env }) (RR b3 a8.locals) s₄) X.xe s₃) X.xe s₂) X.xe s₁) X.xe s:=by
 refine aK (hi f s Y H _ I h) fun v s1 h1=>aK h1 fun c5 B h2=>?_;obtain⟨it,E,tn,J,Z,e,I2,T,b0,f2,W,⟨m0,w0⟩,turn⟩:=h2;subst e;have a0:∀b∈E,b<B.heap.objs.size:=fun b t=>by obtain⟨o,e,_⟩:=T.obj _ _ b0 b t;exact bq e
 refine wpAny_newObj_type (zK ?_);dsimp only;generalize a4:B.heap.push { cls:=.type "list",dict:=none,data:=.seq ([]:List Value).toArray }=G;have hC:G.objs.size=B.heap.objs.size+1:=by rw[<-a4,Heap.size_push]
 have l:B.heap.objs.size<=G.objs.size:=by rw[hC];exact Nat.le_succ _
 have a5:B.heap.objs.size≠G.objs.size:=by rw[hC];exact Nat.ne_of_lt (Nat.lt_succ_self _)
 have below:∀b,b<B.heap.objs.size->b≠G.objs.size:=fun b t=>by rw[hC];exact Nat.ne_of_lt (Nat.lt_succ_of_lt t)
 have b4:(G.push { cls:=.type "dict",data:=.dict #[] }).objs.size=G.objs.size+1:=Heap.size_push ..;have L:∀x c,(cellsFrom (G.objs.size+1) scope.names (cD X.env scope.names [])).lookup x=some c->(cD X.env scope.names []).lookup x=some c\/(G.objs.size+1<=c/\(pushCells (G.push { cls:=.type "dict",data:=.dict #[] }) scope.names).IsCell c none):=fun x c e=>by rw[<-b4] at e ⊢;exact(qj scope.names _ _ e).imp (fun z=>z) fun⟨z1,_,z2⟩=>⟨z1,z2⟩
 have a1:(pushCells (G.push { cls:=.type "dict",data:=.dict #[] }) scope.names).Ns G.objs.size (fun _=>none):=(Heap.Ns.new G (.type "dict")).keeps (pushCells_keeps _ _);have old:∀b o,B.heap.get? b=some o->(pushCells (G.push { cls:=.type "dict",data:=.dict #[] }) scope.names).get? b=some o:=fun b o e=>pushCells_keeps _ _ b o (bv _ (a4▸bv _ e));have a2:(pushCells (G.push { cls:=.type "dict",data:=.dict #[] }) scope.names).get? B.heap.objs.size=some { cls:=.type "list",dict:=none,data:=.seq ([]:List Value).toArray }:=pushCells_keeps _ _ _ _ (bv _ (a4▸Heap.get?_push_size _ rfl));generalize pushCells (G.push { cls:=.type "dict",data:=.dict #[] }) scope.names=h₁ at L a1 old a2 ⊢;generalize b9:G.objs.size=C at a1 a5 l below L ⊢;generalize j:B.heap.objs.size=D at a2 a5 ⊢;clear a4 hC b9 b4 G;obtain⟨hg,ht,he⟩:=b7 C E B Z f;have Ic:Inv (cg X scope (own++capN) C E B Z f) [] (dF own caps Y) Z { B with heap:=h₁,toks:=B.toks }:=zL S I2 f2 a0 (by rw[j];rw[j] at l;exact l) old a1 L;have a6:∀x c,(cellsFrom (C+1) scope.names (cD X.env scope.names [])).lookup x=some c->c≠D:=fun x c e z=>by
  rcases L x c e with e | ⟨e,_⟩
  ·obtain⟨v,q⟩:=I2.cell x c (S.cl I2.ok e);exact absurd q.lt (by rw[z,j];exact Nat.lt_irrefl _)
  ·rw[j] at l;exact absurd (Nat.lt_of_le_of_lt l (Nat.lt_of_lt_of_le (Nat.lt_succ_self C) e)) (by rw[z];exact Nat.lt_irrefl _)
 have a7:D∉bI X.stack:=fun z=>by
  rcases List.mem_cons.mp (I2.stkSub D z) with q | q
  ·exact absurd I2.lt (by rw[<-q,j];exact Nat.lt_irrefl _)
  ·exact I2.nofs (by rw[j];exact bG _) q
 have a3:∀p∈X.pn++f,p.1≠D:=fun p N z=>absurd (bq (I2.pin p N).1) (by rw[z,j];exact Nat.lt_irrefl _);have a9:∀{Y':St}{M:Hp}{s':Shared}{O:List Value}{k:Nat},Inv (cg X scope (own++capN) C E B Z f) [] Y' M s'->s'.heap.get? D=some { cls:=.type "list",data:=.seq O.toArray k }->M D=none->
   Inv (cg X scope (own++capN) C E B Z f) [(D,{ cls:=.type "list",data:=.seq O.toArray k })] Y' M s':=fun J e n=>J.pins_of fun p N=>by
  obtain rfl:=List.mem_singleton.mp N;exact⟨e,n,a5,a7,fun v z=>by cases z⟩
 have b1:∀{M:Hp}{o:Obj},(∀b∈E,M b=none)->∀b∈E,fA (cg X scope (own++capN) C E B Z f) [(D,o)] M b:=fun hn b t=>by
  obtain⟨f0,f1,c0,f3,f4,f5⟩:=f2 b t;refine⟨hn b t,Nat.ne_of_lt (Nat.lt_of_lt_of_le (a0 b t) (by rw[j];rw[j] at l;exact l)),fun z=>(List.mem_cons.mp (I2.stkSub b z)).elim f1 c0,.inl t,fun x c e=>?cl,fun p N=>?_⟩
  case cl=>
   rcases L x c e with e | ⟨e,_⟩
   ·exact f4 x c (S.cl I2.ok e)
   ·exact Ne.symm (Nat.ne_of_lt (Nat.lt_of_lt_of_le (a0 b t) (Nat.le_trans (by rw[j];rw[j] at l;exact l) (Nat.le_of_succ_le e))))
  rcases List.mem_append.mp N with N | N
  ·exact f5 p N
  ·obtain rfl:=List.mem_singleton.mp N;intro z;have z':D=b:=z;exact absurd (a0 b t) (by rw[<-z',j];exact Nat.lt_irrefl _)
 have eU:codeAny (model X.prog X.w) X.A (.compLoop (.ListComp elt [⟨tg,iter,ifs,0⟩] scope pos) 0 (.ref it) (.ref D) (compEnvC scope (cellsFrom (C+1) scope.names (cD X.env scope.names [])) C X.env)) (RR (.ref D) C) { B with heap:=h₁,toks:=B.toks }:=by
  refine HL (fun n s'=>∃i ys O k Y' M,Inv (cg X scope (own++capN) C E B Z f) [(D,{ cls:=.type "list",data:=.seq O.toArray k })] Y' M s'/\tn i s'.heap/\(∀b∈E,M b=none)/\bh ys O/\W i n ys Y' M) ?_ m0
   ⟨0,[],[],0,_,Z,a9 Ic a2 (I2.hok.fresh (by rw[j];exact bG _)),T.keep _ _ _ b0 fun b _ o e=>old b o e,fun b t=>(f2 b t).1,.nil,w0⟩
  rintro n s3 ⟨i,ys,O,k,Y3,H3,I3,b5,b6,r3,w3⟩;rcases turn i n ys Y3 H3 w3 with⟨stop,hz,qn⟩ | ⟨go,step⟩
  ·refine aK (T.done (cg X scope (own++capN) C E B Z f) rfl rfl rfl hc i _ s3 Y3 H3 _ I3 (b1 b6) b5 stop) fun r s4 ⟨hr,R⟩=>?_;subst hr;obtain⟨eD,nD,_⟩:=R.pin (D,_) (bb _ (List.mem_singleton.mpr rfl));have U:H3 D=none:=nD;have I5:Inv X f Y (aM H3 D (.lst ys)) s4:=by
    refine I2.call' (ch:=E) R.os ⟨R.base.keep,R.base.slot,fun b o e n hx=>?_,R.base.there,fun b xs e=>?_,fun b o u e=>?_,fun b ps e=>?_⟩ (fun b u e=>?_) R.bare fun b t=>⟨(f2 b t).2.2.2.1,(f2 b t).2.1,(f2 b t).2.2.2.2.1,(f2 b t).2.2.2.2.2⟩
    ·rw[bi (by intro z;exact absurd (bq e) (by rw[z,j];exact Nat.lt_irrefl _))];exact R.base.free b o e n hx
    ·have q:=R.base.tups b xs e;rw[bi (eV q U)];exact q
    ·have q:=R.base.frzs b o u e;rw[bi (eV q U)];exact q
    ·obtain⟨more,q⟩:=R.base.tbls b ps e;exact⟨more,by rw[bi (eV q U)];exact q⟩
    ·by_cases t:b=D
     ·subst t;rw[cj] at e;cases e;exact⟨hz,O,k,r3,eD⟩
     ·rw[bi t] at e;exact(R.hok b u e).stay (fun _ _ _ q=>q) (fun c q=>by rw[bi (eV q U)];exact q) fun c xs q=>by rw[bi (eV q U)];exact q
   obtain⟨m,hm,_⟩:=R.loc;exact b8 D C s4 _ m I5 (I2.fpOk (by rw[j];rw[j] at l;exact l) (by rw[bi (Ne.symm a5)];exact R.free)) hm (qn D U)
  ·refine aK (T.item (cg X scope (own++capN) C E B Z f) rfl rfl rfl hc i _ s3 Y3 H3 _ I3 (b1 b6) b5 go) fun r s4 ⟨u,hr,h4⟩=>?_;subst hr;refine aK h4 fun _ s5 ⟨x,H5,I5,r5,y5,b2,c1⟩=>?_;have c2:=I5.pinned (b1 c1) (T.obj _ _ b2);refine aK (hg _ s5 Y3 H5 x u _ c2 r5 (step x H5 y5)) fun _ s6 ⟨Y6,H6,I6,q6⟩=>?_;refine aK (ht _ s6 Y6 H6 _ I6 q6) fun ok s7 ⟨H7,I7,q7⟩=>?_;have cG:∀{Y8:St}{H8:Hp}{s8:Shared},Inv (cg X scope (own++capN) C E B Z f) ([(D,{ cls:=.type "list",data:=.seq O.toArray k })]++lY E s5.heap) Y8 H8 s8->tn (i+1) s8.heap/\(∀b∈E,H8 b=none):=fun {Y8 H8 s8} I8=>by refine⟨T.keep _ _ _ b2 fun b t o e=>(I8.pin (b,o) (bb _ (bb _ (lZ t e)))).1,fun b t=>?_⟩;obtain⟨o,e,d⟩:=T.obj _ _ b2 b t;exact(I8.pin (b,o) (bb _ (bb _ (lZ t e)))).2.1
   cases ok with
   | false=>obtain⟨m',hm,w7⟩:=q7;obtain⟨t7,n7⟩:=cG I7;exact⟨m',hm,i+1,ys,O,k,Y6,H7,I7.unpinned,t7,n7,r3,w7⟩
   | true=>
    refine aK (he _ s7 Y6 H7 _ I7 q7) fun u8 s8 ⟨y,H8,I8,r8,hz,m',hm,w8⟩=>?_;obtain⟨t8,n8⟩:=cG I8;have I9:=I8.unpinned;obtain⟨eD,nD,c3,c6,_⟩:=I9.pin (D,_) (bb _ (List.mem_singleton.mpr rfl));have hl:=r3.length;refine call_meets F.slot_list_append ⟨_,eD,rfl⟩ F.entry_list_append (F.args_list_append_2 _ _) (PySem.list_append D O.toArray k u8 (by rw[List.size_toArray];omega)) ⟨eD,?_⟩;have q:=PySem.IsL.update eD (fun a=>a.push u8);have e2:O.toArray.push u8=(O++[u8]).toArray:=by simp
    rw[e2] at q;have keep:∀b o,b≠D->s8.heap.get? b=some o->(s8.heap.update D (Obj.mapSeq fun a=>a.push u8)).get? b=some o:=fun b o t e=>(Heap.get?_update_other s8.heap _ (Ne.symm t)).trans e;have c4:Inv (cg X scope (own++capN) C E B Z f) [] Y6 H8 { s8 with heap:=s8.heap.update D (Obj.mapSeq fun a=>a.push u8) }:=by refine(I9.pins_of (pins':=[]) fun p N=>absurd N (by simp)).turned (t':=s8.toks) (it:=D) keep nD c3 (.inr (by rw[j];exact bG _)) a6 fun p N=>?_;exact a3 p (by simpa using N)
    exact⟨m',hm,i+1,ys++[y],O++[u8],_,Y6,H8,a9 c4 q nD,T.keep _ _ _ t8 fun b t o e=>keep b o (by intro z;exact absurd (a0 b t) (by rw[z,j];exact Nat.lt_irrefl _)) e,n8,r3.append (.cons r8 .nil),w8⟩
 exact codeAny_compStart_list eU (wpAny_noRaise (T.self _ 0 _ _ _ (T.keep _ _ _ b0 fun b _ o e=>old b o e) eU))
theorem zN(S:aq X scope own capN caps)(n:X.calm=true)(p:PI X tg iter wi)
  (a:∀C c d i k,PG (cg X scope (own++capN) C c d i k) tg g/\mj (cg X scope (own++capN) C c d i k) ifs tc/\PE (cg X scope (own++capN) C c d i k) elt te)
  (r:∀x,foldedSetIterable iter X.env x=pure x:=by intro _;rfl):PE X (.ListComp elt [⟨tg,iter,ifs,0⟩] scope pos) (ml own caps wi g tc te):=by
 intro l s Y H Q I h;rw[eval_ListComp];refine wpAny_comprehension_free (use:=none) rfl r (uI (S.cells I.ok)) S.kind S.loc ?_;refine zM S n p a I h fun D C t u m v f w q=>⟨m,w,fun z j=>?_⟩
 exact⟨.ref D,u,v.turned (t':=t.toks) (it:=C) (fun b o y e=>(j.2 b y).trans e) f.1 f.2.1 f.2.2.2.1 f.2.2.2.2.1 f.2.2.2.2.2,rfl,q⟩
theorem HQ{i:Nat}{y:Str}{py c:Pos}(B:X.N.Nodup)(j:X.N[i]? = some y)(E:fQ X.env.scope y)(S:aq X scope own capN caps)(G:X.calm=true)(J:PI X tg iter wi)
  (k:∀C l n p w,PG (cg X scope (own++capN) C l n p w) tg g/\mj (cg X scope (own++capN) C l n p w) ifs tc/\PE (cg X scope (own++capN) C l n p w) elt te)
  (r:swapsWith (.ListComp elt [⟨tg,iter,ifs,0⟩] scope pos) (some (.Name y py)) c.line X.env=pure true:=by rfl)
  (L:∀x,foldedSetIterable iter X.env x=pure x:=by intro _;rfl) (M:X.fn y=true\/X.env.scope.names.lookup y=some .local:=by first | exact .inl rfl | exact .inr rfl | assumption) :
  PS X (.Assign [.Name y py] (.ListComp elt [⟨tg,iter,ifs,0⟩] scope pos) c) (uk (ml own caps wi g tc te) (pX i)):=by
 intro d s Y H D I h;rw[exec_Assign_Name_used _ _ _ _ r];refine aw (wpAny_standAt (aw ?_));show wpAny _ X.A (do let _ <-comprehension (.ListComp elt [⟨tg,iter,ifs,0⟩] scope pos) scope X.env _ (newList []) false (eval iter X.env) (some (assign (.Name y py) X.env))) _ _ s;refine aw (wpAny_mono (wpAny_comprehension_free (use:=some (assign (.Name y py) X.env)) (Q:=fun _ t=>SP X d D .next t) rfl L (uI (S.cells I.ok)) S.kind S.loc ?_) (fun _ t O=>bo (bo O)) fun _ _ e=>e);refine zM S G J k I h fun Da C t R m T f U q=>?_;show wpAny _ X.A (assign (.Name y py) X.env (.ref Da)) _ _ _;refine wpAny_assign_Name (yA T B j E (v:=.ref Da) rfl (fun Z I2 ⟨a,sb,ha⟩=>⟨m,?_,fun h' u=>?_⟩) M)
 ·refine U.sameBut sb ?_;rcases ha with z | z
  ·rw[z];exact f.2.1
  ·exact Ne.symm (f.2.2.2.2.1 y a z)
 ·exact⟨_,R,I2.turned (t':=Z.toks) (it:=C) (fun b o hb e=>(u.2 b hb).trans e) f.1 f.2.1 f.2.2.2.1 f.2.2.2.2.1 f.2.2.2.2.2,q⟩
end
end L2
namespace L2
open PySem
theorem HR{M:Model}{A:Around}{E:Value->Shared->Prop}{s:Shared}{a:Addr}{Q:Option Obj->Shared->Prop}(h:Q (s.heap.get? a) s):wpAny M A (loadIfAlive a) Q E s:=by intro Γ p b;unfold loadIfAlive;rw[Sem.wp_loadIfAlive];exact bo h Γ p b
abbrev fb(h:Heap)(z TI TO:Addr)(a f1:Value):Prop:=
 h.get? z=some { cls:=.type "zip",dict:=none,data:=.fields #[a,f1,.bool false,.ref TI,.ref TO],slots:=#[] }
abbrev dB(h:Heap)(T:Addr)(a b c:Value):Prop:=h.get? T=some { cls:=.type "tuple",data:=.seq #[a,b,c] }
section
variable{prog:Program}{w:World}{A:Around}{E:Value->Shared->Prop}{s:Shared}
theorem uO{T:Addr}{a b c x:Value}{k:Nat}{Q:Unit->Shared->Prop}(e:dB s.heap T a b c)
  (h:∀d,d.get? T=some { cls:=.type "tuple",data:=.seq ((#[a,b,c]:Array Value).setIfInBounds k x) }->Heap.SameBut T s.heap d->Q () { s with heap:=d }) :
  wpAny (model prog w) A (updateSeq T (·.setIfInBounds k x)) Q E s:=by
 refine wpAny_updateSeq e rfl (h _ ?_ (Heap.SameBut.update ..));rw[Heap.get?_update_self _ e rfl];simp[Obj.mapSeq]
theorem HS{z TI TO n r B l1 l2 l3:Addr}{k:Nat}{xs ys zs:Array Value}{x y v a b c:Value}{Q:Value->Shared->Prop}
  (nd:[z,TI,TO,n,r,B].Nodup) (hl:∀l∈[l1,l2,l3],∀j∈[z,TI,TO,n,r,B],l≠j)
  (hz:fb s.heap z TI TO .none (.bool false)) (a6:dB s.heap TI (.ref n) (.ref r) (.ref B)) (a7:dB s.heap TO a b c)
  (h1:s.heap.IsListIter n l1 k) (h2:s.heap.IsListIter r l2 k) (h3:s.heap.IsListIter B l3 k) (a8:s.heap.IsList l1 xs) (a9:s.heap.IsList l2 ys) (b0:s.heap.IsList l3 zs)
  (hx:xs[k]? = some x) (hy:ys[k]? = some y) (hv:zs[k]? = some v)
  (hQ:∀H,fb H z TI TO (rawInt s.heap.objs.size) (.bool false)->dB H TO x y v->H.IsListIter n l1 (k+1)->H.IsListIter r l2 (k+1)->H.IsListIter B l3 (k+1)->dB H s.heap.objs.size x y v->H.objs.size=s.heap.objs.size+1->
   (∀c o,c∉[z,TO,n,r,B]->s.heap.get? c=some o->H.get? c=some o)->Q (.ref s.heap.objs.size) { s with heap:=H }) :
  wpAny (model prog w) A (Builtin.«zip.__next__» ⟨[.ref z],[]⟩) (fun fin s'=>∃v,fin=.done (.ret v)/\Q v s') E s:=by
 simp only[List.nodup_cons,List.mem_cons,List.not_mem_nil,or_false,not_or,not_false_eq_true,and_true,List.nodup_nil] at nd;obtain⟨⟨c0,C,z1,z2,z3⟩,⟨b9,c6,c7,c8⟩,⟨I,J,L⟩,⟨a0,a1⟩,a2⟩:=nd;have n1:∀j∈[z,TI,TO,n,r,B],l1≠j:=hl l1 (by simp);have n2:∀j∈[z,TI,TO,n,r,B],l2≠j:=hl l2 (by simp);have n3:∀j∈[z,TI,TO,n,r,B],l3≠j:=hl l3 (by simp);show wpAny _ _ (field (.ref z) 2 >>= _) _ _ _;refine aw (wpAny_field hz rfl (x:=.bool false) rfl ?_);show wpAny _ _ (field (.ref z) 3 >>= _) _ _ _;refine aw (wpAny_field hz rfl (x:=.ref TI) rfl ?_);refine aw (wpAny_seqItems a6 rfl ?_);show wpAny _ _ (Builtin.SmallTypes.ownedTupleIsFree (.ref z) >>= _) _ _ _;refine aw ?_;unfold Builtin.SmallTypes.ownedTupleIsFree;refine aw (wpAny_field hz rfl (x:=.none) rfl (bo ?_));simp only[if_true];refine aw (wpAny_rule ?_);refine aw (wpAny_field hz rfl (x:=.ref TO) rfl ?_);refine aw (wpAny_setField_rec hz (by simp) fun h₁ U d=>?_)
 replace U:fb h₁ z TI TO .ellipsis (.bool false):=U
 refine aw ?_;simp only[List.zipIdx_cons,List.zipIdx_nil,List.forIn_cons,List.forIn_nil];refine aw (aw (wpAny_onRaise ?_));show wpAny _ _ (Builtin.SmallTypes.nextOf (.ref n) >>= _) _ _ _;refine aw (wpAny_nextOf_list_item (h1.extBut d.extBut (Ne.symm z1)) (a8.extBut d.extBut (n1 z (by simp))) hx fun h₂ b1 f=>bo ?_);have N:dB h₂ TO a b c:=f.extBut _ _ I (d.extBut _ _ (Ne.symm C) a7);refine aw (wpAny_seqItems N rfl ?_);refine aw (uO N fun h₃ D g=>?_)
 replace D:dB h₃ TO x b c:=D
 refine aw (wpAny_letGo (bo ?_));refine aw (aw (wpAny_onRaise ?_));show wpAny _ _ (Builtin.SmallTypes.nextOf (.ref r) >>= _) _ _ _;refine aw (wpAny_nextOf_list_item (((h2.extBut d.extBut (Ne.symm z2)).extBut f.extBut (Ne.symm a0)).extBut g.extBut (Ne.symm J))
  (((a9.extBut d.extBut (n2 z (by simp))).extBut f.extBut (n2 n (by simp))).extBut g.extBut (n2 TO (by simp))) hy fun h₄ b2 i=>bo ?_)
 have O:dB h₄ TO x b c:=i.extBut _ _ J D;refine aw (wpAny_seqItems O rfl ?_);refine aw (uO O fun h₅ G m=>?_)
 replace G:dB h₅ TO x y c:=G
 refine aw (wpAny_letGo (bo ?_));refine aw (aw (wpAny_onRaise ?_));show wpAny _ _ (Builtin.SmallTypes.nextOf (.ref B) >>= _) _ _ _;refine aw (wpAny_nextOf_list_item (((((h3.extBut d.extBut (Ne.symm z3)).extBut f.extBut (Ne.symm a1)).extBut g.extBut (Ne.symm L)).extBut i.extBut (Ne.symm a2)).extBut m.extBut (Ne.symm L))
  (((((b0.extBut d.extBut (n3 z (by simp))).extBut f.extBut (n3 n (by simp))).extBut g.extBut (n3 TO (by simp))).extBut i.extBut (n3 r (by simp))).extBut m.extBut (n3 TO (by simp))) hv fun h₆ b3 t=>bo ?_)
 have R:dB h₆ TO x y c:=t.extBut _ _ L G;refine aw (wpAny_seqItems R rfl ?_);refine aw (uO R fun h p u=>?_)
 replace p:dB h TO x y v:=p
 refine aw (wpAny_letGo (bo (bo ?_)));refine aw (wpAny_seqItems p rfl ?_);refine aw (wpAny_newTuple ?_);have b4:∀c o,c∉[z,TO,n,r,B]->s.heap.get? c=some o->h.get? c=some o:=fun c o hc e=>by simp only[List.mem_cons,List.not_mem_nil,or_false,not_or] at hc;obtain⟨c1,c2,c3,c4,c5⟩:=hc;exact u.extBut _ _ c2 (t.extBut _ _ c5 (m.extBut _ _ c2 (i.extBut _ _ c4 (g.extBut _ _ c2 (f.extBut _ _ c3 (d.extBut _ _ c1 e))))))
 have a3:h.objs.size=s.heap.objs.size:=by rw[u.1,t.1,m.1,i.1,g.1,f.1,d.1]
 have a4:fb h z TI TO .ellipsis (.bool false):=u.extBut _ _ C (t.extBut _ _ z3 (m.extBut _ _ C (i.extBut _ _ z2 (g.extBut _ _ C (f.extBut _ _ z1 U)))));have b5:h.IsListIter n l1 (k+1):=((((b1.extBut g.extBut (Ne.symm I)).extBut i.extBut a0).extBut m.extBut (Ne.symm I)).extBut t.extBut a1).extBut u.extBut (Ne.symm I);have b6:h.IsListIter r l2 (k+1):=((b2.extBut m.extBut (Ne.symm J)).extBut t.extBut a2).extBut u.extBut (Ne.symm J);have b7:h.IsListIter B l3 (k+1):=b3.extBut u.extBut (Ne.symm L);have S:z<h.objs.size:=bq a4;show wpAny _ _ (Builtin.SmallTypes.ownedTupleHandOut (.ref z) (.ref h.objs.size) >>= _) _ _ _;refine aw ?_;unfold Builtin.SmallTypes.ownedTupleHandOut;have b8:fb (h.push { cls:=.type "tuple",data:=.seq #[x,y,v] }) z TI TO .ellipsis (.bool false):=bv _ a4;refine aw (wpAny_setField_rec b8 (by simp) fun h₉ X Y=>?_)
 replace X:fb h₉ z TI TO (rawInt h.objs.size) (.bool false):=X
 refine wpAny_setField_rec X (by simp) fun hA M Z=>?_
 replace M:fb hA z TI TO (rawInt h.objs.size) (.bool false):=M
 have up:∀c o,c≠z->h.get? c=some o->hA.get? c=some o:=fun c o c1 e=>Z.extBut _ _ c1 (Y.extBut _ _ c1 (bv _ e));have a5:dB hA h.objs.size x y v:=Z.extBut _ _ (Nat.ne_of_gt S) (Y.extBut _ _ (Nat.ne_of_gt S) (Heap.get?_push_size _ rfl));have T:hA.objs.size=h.objs.size+1:=by rw[Z.1,Y.1,Heap.size_push]
 rw[a3] at M a5 T;refine bo ⟨_,rfl,?_⟩;show Q (.ref h.objs.size) _;rw[a3];exact hQ hA M (up _ _ (Ne.symm C) p) (b5.at fun o e=>up _ o (Ne.symm z1) e) (b6.at fun o e=>up _ o (Ne.symm z2) e) (b7.at fun o e=>up _ o (Ne.symm z3) e) a5 T fun c o hc e=>up c o (fun q=>hc (by simp[q])) (b4 c o hc e)
theorem zO{z TI TO T:Addr}{f1:Value}{g:Obj}{Q:Bool->Shared->Prop}(b:f1=.bool false\/f1=.bool true)(a:fb s.heap z TI TO (rawInt T) f1)(h:s.heap.get? T=some g)
  (f:∀c,fb c z TI TO (rawInt T) (.bool true)->Heap.SameBut z s.heap c->Q false { s with heap:=c }):wpAny (model prog w) A (Builtin.SmallTypes.ownedTupleIsFree (.ref z)) Q E s:=by
 unfold Builtin.SmallTypes.ownedTupleIsFree;refine aw (wpAny_field a rfl (x:=rawInt T) rfl ?_);show wpAny _ _ (loadIfAlive (Int.toNat T) >>= _) _ _ _;refine aw (HR ?_);rw[Int.toNat_natCast,h];show wpAny _ _ (field (.ref z) 1 >>= _) _ _ _;refine aw (wpAny_field a rfl (x:=f1) rfl ?_);rcases b with rfl | rfl
 ·show wpAny _ _ (setField (.ref z) 1 (.bool true) >>= _) _ _ _;exact aw (wpAny_setField_rec a (by simp) fun i d e=>bo (f i d e))
 ·exact bo (f s.heap a (Heap.SameBut.refl ..))
theorem HU{z TI TO d g h p q r T:Addr}{k:Nat}{f1:Value}{oT:Obj}{Y Z zs:Array Value}{x y v:Value}{Q:Value->Shared->Prop}
  (nd:[z,TI,TO,d,g,h].Nodup) (G:∀l∈[p,q,r],∀j∈[z,TI,TO,d,g,h],l≠j) (H:f1=.bool false\/f1=.bool true)
  (I:fb s.heap z TI TO (rawInt T) f1) (hT:s.heap.get? T=some oT) (J:dB s.heap TI (.ref d) (.ref g) (.ref h))
  (h1:s.heap.IsListIter d p k) (h2:s.heap.IsListIter g q k) (h3:s.heap.IsListIter h r k) (L:s.heap.IsList p Y) (M:s.heap.IsList q Z) (N:s.heap.IsList r zs)
  (hx:Y[k]? = some x) (hy:Z[k]? = some y) (hv:zs[k]? = some v)
  (hQ:∀m,fb m z TI TO (rawInt T) (.bool true)->m.IsListIter d p (k+1)->m.IsListIter g q (k+1)->m.IsListIter h r (k+1)->dB m s.heap.objs.size x y v->m.objs.size=s.heap.objs.size+1->
   (∀c o,c∉[z,d,g,h]->s.heap.get? c=some o->m.get? c=some o)->Q (.ref s.heap.objs.size) { s with heap:=m }) :
  wpAny (model prog w) A (Builtin.«zip.__next__» ⟨[.ref z],[]⟩) (fun fin s'=>∃v,fin=.done (.ret v)/\Q v s') E s:=by
 simp only[List.nodup_cons,List.mem_cons,List.not_mem_nil,or_false,not_or,not_false_eq_true,and_true,List.nodup_nil] at nd;obtain⟨⟨a1,a2,z1,z2,z3⟩,⟨a0,a3,a4,a5⟩,⟨a6,a7,a8⟩,⟨t,u⟩,B⟩:=nd;have n1:∀j∈[z,TI,TO,d,g,h],p≠j:=G p (by simp);have n2:∀j∈[z,TI,TO,d,g,h],q≠j:=G q (by simp);have O:∀j∈[z,TI,TO,d,g,h],r≠j:=G r (by simp);show wpAny _ _ (field (.ref z) 2 >>= _) _ _ _;refine aw (wpAny_field I rfl (x:=.bool false) rfl ?_);show wpAny _ _ (field (.ref z) 3 >>= _) _ _ _;refine aw (wpAny_field I rfl (x:=.ref TI) rfl ?_);refine aw (wpAny_seqItems J rfl ?_);show wpAny _ _ (Builtin.SmallTypes.ownedTupleIsFree (.ref z) >>= _) _ _ _;refine aw (zO H I hT fun h₁ R a=>?_);simp only[Bool.false_eq_true,if_false];refine aw ?_;simp only[List.forIn_toArray,List.forIn_cons,List.forIn_nil];refine aw (aw (wpAny_holding ?_));show wpAny _ _ (Builtin.SmallTypes.nextOf (.ref d) >>= _) _ _ _;refine aw (wpAny_nextOf_list_item (h1.extBut a.extBut (Ne.symm z1)) (L.extBut a.extBut (n1 z (by simp))) hx fun h₂ S b=>bo (bo ?_));refine aw (aw (wpAny_holding ?_));show wpAny _ _ (Builtin.SmallTypes.nextOf (.ref g) >>= _) _ _ _;refine aw (wpAny_nextOf_list_item ((h2.extBut a.extBut (Ne.symm z2)).extBut b.extBut (Ne.symm t)) ((M.extBut a.extBut (n2 z (by simp))).extBut b.extBut (n2 d (by simp))) hy fun h₃ U f=>bo (bo ?_));refine aw (aw (wpAny_holding ?_));show wpAny _ _ (Builtin.SmallTypes.nextOf (.ref h) >>= _) _ _ _;refine aw (wpAny_nextOf_list_item (((h3.extBut a.extBut (Ne.symm z3)).extBut b.extBut (Ne.symm u)).extBut f.extBut (Ne.symm B)) (((N.extBut a.extBut (O z (by simp))).extBut b.extBut (O d (by simp))).extBut f.extBut (O g (by simp))) hv fun C X i=>bo (bo (bo ?_)));show wpAny _ _ (newTuple [x,y,v] >>= _) _ _ _;refine aw (wpAny_newTuple ?_);refine bo ⟨_,rfl,?_⟩;have n:C.objs.size=s.heap.objs.size:=by rw[i.1,f.1,b.1,a.1]
 show Q (.ref C.objs.size) { s with heap:=C.push { cls:=.type "tuple",data:=.seq #[x,y,v] } };have up:∀c o,c∉[z,d,g,h]->s.heap.get? c=some o->C.get? c=some o:=fun c o D e=>by simp only[List.mem_cons,List.not_mem_nil,or_false,not_or] at D;obtain⟨c1,c2,c3,c4⟩:=D;exact i.extBut _ _ c4 (f.extBut _ _ c3 (b.extBut _ _ c2 (a.extBut _ _ c1 e)))
 rw[n];refine hQ _ (bv _ (i.extBut _ _ z3 (f.extBut _ _ z2 (b.extBut _ _ z1 R)))) (((S.extBut f.extBut t).extBut i.extBut u).at fun o e=>bv _ e) ((U.extBut i.extBut B).at fun o e=>bv _ e)
  (X.at fun o e=>bv _ e) ?_ (by rw[Heap.size_push,n]) fun c o D e=>bv _ (up c o D e)
 rw[<-n];exact Heap.get?_push_size _ rfl
theorem HV{z TI TO a f g d l2 l3 T:Addr}{k:Nat}{f1:Value}{y:Obj}{t:Array Value}{Q:Fin->Shared->Prop}(B:A.handled=none)
  (v:[z,TI,TO,a,f,g].Nodup) (C:∀l∈[d,l2,l3],∀j∈[z,TI,TO,a,f,g],l≠j) (h:f1=.bool false\/f1=.bool true)
  (i:fb s.heap z TI TO (rawInt T) f1) (D:s.heap.get? T=some y) (m:dB s.heap TI (.ref a) (.ref f) (.ref g))
  (h1:s.heap.IsListIter a d k) (n:s.heap.IsList d t) (G:t[k]? = none)
  (H:∀p e,(∀c o,c∉[z,a]->s.heap.get? c=some o->p.get? c=some o)->(∃o,p.get? e=some o/\o.cls=.type "StopIteration")->E (.ref e) { s with heap:=p }) :
  wpAny (model prog w) A (Builtin.«zip.__next__» ⟨[.ref z],[]⟩) Q E s:=by
 simp only[List.nodup_cons,List.mem_cons,List.not_mem_nil,or_false,not_or,not_false_eq_true,and_true,List.nodup_nil] at v;obtain⟨⟨I,J,L,z2,z3⟩,⟨u,M,N,O⟩,⟨R,S,U⟩,⟨X,Y⟩,Z⟩:=v;have n1:∀j∈[z,TI,TO,a,f,g],d≠j:=C d (by simp);show wpAny _ _ (field (.ref z) 2 >>= _) _ _ _;refine aw (wpAny_field i rfl (x:=.bool false) rfl ?_);show wpAny _ _ (field (.ref z) 3 >>= _) _ _ _;refine aw (wpAny_field i rfl (x:=.ref TI) rfl ?_);refine aw (wpAny_seqItems m rfl ?_);show wpAny _ _ (Builtin.SmallTypes.ownedTupleIsFree (.ref z) >>= _) _ _ _;refine aw (zO h i D fun h₁ a0 b=>?_);simp only[Bool.false_eq_true,if_false];refine aw ?_;simp only[List.forIn_toArray,List.forIn_cons,List.forIn_nil];refine aw (aw (wpAny_holding ?_));show wpAny _ _ (Builtin.SmallTypes.nextOf (.ref a) >>= _) _ _ _;refine aw (wpAny_nextOf_list_end B (h1.extBut b.extBut (Ne.symm L)) (n.extBut b.extBut (n1 z (by simp))) G fun h₂ e q he=>?_);refine H h₂ e (fun c o r x=>?_) he;simp only[List.mem_cons,List.not_mem_nil,or_false,not_or] at r;exact q _ _ r.2 (b.extBut _ _ r.1 x)
end
structure Z3 (h:Heap) (z TI TO i1 i2 i3 l1 l2 l3:Addr) (xs ys zs:Array Value) (S:Addr) (i:Nat):Prop where
 zrec:∃(f0 f1:Value),fb h z TI TO f0 f1/\(f1=.bool false\/f1=.bool true)/\((i=0/\f0=.none/\f1=.bool false)\/(0<i/\∃(T:Addr) (oT:Obj),f0=rawInt T/\h.get? T=some oT/\T∉[S,z,TO,i1,i2,i3]))
 ti:dB h TI (.ref i1) (.ref i2) (.ref i3)
 to:∃a b c,dB h TO a b c
 h1:h.IsListIter i1 l1 i
 h2:h.IsListIter i2 l2 i
 h3:h.IsListIter i3 l3 i
 l1:h.IsList l1 xs
 l2:h.IsList l2 ys
 l3:h.IsList l3 zs
def qk(h:Heap)(n:Addr)(b c d:Array Value)(a:List Value):Prop:=
 ∀(j:Nat) (v:Value),a[j]? = some v->∃(T:Addr) (x y u:Value),v=Value.ref T/\n<=T/\dB h T x y u/\b[j]? = some x/\c[j]? = some y/\d[j]? = some u
section
variable{prog:Program}{w:World}{A:Around}{E:Value->Shared->Prop}{s:Shared}
theorem HW{z TI TO f g h u B C S:Addr}{i:Nat}{R U X:Array Value}{x y v:Value}{Q:Option Value->Shared->Prop}
  (D:[z,TI,TO,f,g,h].Nodup) (Y:∀l∈[u,B,C],∀j∈[z,TI,TO,f,g,h],l≠j) (st:Z3 s.heap z TI TO f g h u B C R U X S i) (hS:S<s.heap.objs.size)
  (hx:R[i]? = some x) (hy:U[i]? = some y) (hv:X[i]? = some v)
  (hQ:∀k,Z3 k z TI TO f g h u B C R U X S (i+1)->dB k s.heap.objs.size x y v->k.objs.size=s.heap.objs.size+1->(∀c o,c∉[z,TO,f,g,h]->s.heap.get? c=some o->k.get? c=some o)->Q (some (.ref s.heap.objs.size)) { s with heap:=k }) :
  wpAny (model prog w) A (pyNext (.ref z)) Q E s:=by
 obtain⟨⟨f0,f1,N,Z,hf⟩,ti,⟨a,b,c,to⟩,h1,h2,h3,m,n,p⟩:=st;have hT:s.TypeIs (.ref z) "zip":=⟨_,N,rfl⟩
 have lt:∀{c o},s.heap.get? c=some o->s.heap.objs.size≠c:=fun e=>Nat.ne_of_gt (bq e);have new:s.heap.objs.size∉[S,z,TO,f,g,h]:=by simp only[List.mem_cons,List.not_mem_nil,or_false,not_or];exact⟨Nat.ne_of_gt hS,lt N,lt to,(by obtain⟨_,e,_⟩:=h1;exact lt e),(by obtain⟨_,e,_⟩:=h2;exact lt e),(by obtain⟨_,e,_⟩:=h3;exact lt e)⟩
 have sub:∀l∈[u,B,C],l∉[z,TO,f,g,h]:=fun l hm z'=>by simp only[List.mem_cons,List.not_mem_nil,or_false] at z';rcases z' with q | q | q | q | q<;>exact Y l hm _ (by simp) q
 have G:TI∉[z,TO,f,g,h]:=by simp only[List.nodup_cons,List.mem_cons,List.not_mem_nil,or_false,not_or,not_false_eq_true,and_true,List.nodup_nil] at D;obtain⟨⟨H,I,z1,z2,z3⟩,⟨r,J,L,M⟩,_⟩:=D;simp only[List.mem_cons,List.not_mem_nil,or_false,not_or];exact⟨Ne.symm H,r,J,L,M⟩
 unfold pyNext;refine aw (wpAny_attempt (wpAny_callSpecial?_slot (name:=Str.ofString "__next__") hT F.slot_zip_next (wpAny_call_entry F.slot_zip_next hT F.entry_zip_next ?_ (F.args_zip_next_1 _))));rcases hf with⟨hi,rfl,rfl⟩ | ⟨hi,T,oT,rfl,eT,nT⟩
 ·refine HS D Y N ti to h1 h2 h3 m n p hx hy hv fun k a1 a2 a3 a4 a5 O a7 t=>bo ?_;exact hQ k ⟨⟨_,_,a1,.inl rfl,.inr ⟨Nat.succ_pos _,_,_,rfl,O,new⟩⟩,t _ _ G ti,⟨_,_,_,a2⟩,a3,a4,a5,m.at fun o e=>t _ o (sub u (by simp)) e,n.at fun o e=>t _ o (sub B (by simp)) e,p.at fun o e=>t _ o (sub C (by simp)) e⟩ O a7 t
 ·refine HU D Y Z N eT ti h1 h2 h3 m n p hx hy hv fun k a1 a3 a4 a5 O a7 t=>bo ?_;have d:∀c o,c∉[z,TO,f,g,h]->s.heap.get? c=some o->k.get? c=some o:=fun c o hc e=>t c o (fun q=>hc (by simp only[List.mem_cons,List.not_mem_nil,or_false] at q ⊢;rcases q with q | q | q | q<;>simp[q])) e;have a0:TO∉[z,f,g,h]:=by simp only[List.nodup_cons,List.mem_cons,List.not_mem_nil,or_false,not_or,not_false_eq_true,and_true,List.nodup_nil] at D;obtain⟨⟨H,I,z1,z2,z3⟩,⟨r,J,L,M⟩,⟨a9,b0,b1⟩,_⟩:=D;simp only[List.mem_cons,List.not_mem_nil,or_false,not_or];exact⟨Ne.symm I,a9,b0,b1⟩
  refine hQ k ⟨⟨_,_,a1,.inr rfl,.inr ⟨Nat.succ_pos _,_,_,rfl,d T oT (fun q=>nT (bN _ q)) eT,nT⟩⟩,d _ _ G ti,⟨a,b,c,t _ _ a0 to⟩,a3,a4,a5,m.at fun o e=>d _ o (sub u (by simp)) e,n.at fun o e=>d _ o (sub B (by simp)) e,p.at fun o e=>d _ o (sub C (by simp)) e⟩ O a7 d
theorem HX{z TI TO d f g r t u S:Addr}{i:Nat}{n v x:Array Value}{Q:Option Value->Shared->Prop}(y:A.handled=none)
  (R:[z,TI,TO,d,f,g].Nodup) (B:∀l∈[r,t,u],∀j∈[z,TI,TO,d,f,g],l≠j) (st:Z3 s.heap z TI TO d f g r t u n v x S i) (U:0<i) (C:n[i]? = none)
  (D:∀h,(∀c o,c∉[z,d]->s.heap.get? c=some o->h.get? c=some o)->Q none { s with heap:=h }) :
  wpAny (model prog w) A (pyNext (.ref z)) Q E s:=by
 obtain⟨⟨X,f1,p,k,G⟩,ti,⟨a,b,c,to⟩,h1,h2,h3,m,H,I⟩:=st;have q:s.TypeIs (.ref z) "zip":=⟨_,p,rfl⟩
 rcases G with⟨J,_⟩ | ⟨_,T,Y,rfl,L,Z⟩
 ·omega
 ·unfold pyNext;refine aw (wpAny_attempt (wpAny_callSpecial?_slot (name:=Str.ofString "__next__") q F.slot_zip_next
   (wpAny_call_entry F.slot_zip_next q F.entry_zip_next (HV y R B k p L ti h1 m C fun h e M N=>?_) (F.args_zip_next_1 _))))
  obtain⟨o,ho,O⟩:=N;refine aw (wpAny_isInstance (T:="StopIteration") (b:=true) ⟨o,ho,O⟩ isSubtype_stop ?_);exact bo (D _ M)
end
section
variable{prog:Program}{w:World}{A:Around}{R:Result->Shared->Prop}
theorem Z3.keep{h u:Heap}{z TI TO d f g r s t S:Addr}{v x y:Array Value}{i:Nat}(st:Z3 h z TI TO d f g r s t v x y S i)(B:S∉[z,TI,TO,d,f,g,r,s,t])(k:∀b o,b≠S->h.get? b=some o->u.get? b=some o) :
  Z3 u z TI TO d f g r s t v x y S i:=by
 simp only[List.mem_cons,List.not_mem_nil,or_false,not_or] at B;obtain⟨D,E,G,H,I,J,L,M,N⟩:=B;obtain⟨⟨O,f1,Q,j,l⟩,ti,⟨a,b,c,to⟩,h1,h2,h3,m,n,p⟩:=st;refine⟨⟨O,f1,k _ _ (Ne.symm D) Q,j,?_⟩,k _ _ (Ne.symm E) ti,⟨a,b,c,k _ _ (Ne.symm G) to⟩,h1.at fun o e=>k _ o (Ne.symm H) e,h2.at fun o e=>k _ o (Ne.symm I) e,h3.at fun o e=>k _ o (Ne.symm J) e,m.at fun o e=>k _ o (Ne.symm L) e,n.at fun o e=>k _ o (Ne.symm M) e,p.at fun o e=>k _ o (Ne.symm N) e⟩;rcases l with l | ⟨U,T,X,e,Y,C⟩
 ·exact .inl l
 ·exact .inr ⟨U,T,X,e,k _ _ (fun q=>C (by simp[q])) Y,C⟩
noncomputable abbrev cW(a:Array Value)(v:Value)(c:Nat):Nat:=if (a.push v).size==a.size then c else c+1
theorem HY{z TI TO p D E l1 l2 l3 S n₀:Addr}{h L M:Array Value}(hh:A.handled=none)
  (nd:[z,TI,TO,p,D,E].Nodup) (hl:∀l∈[l1,l2,l3],∀j∈[z,TI,TO,p,D,E],l≠j) (hS:S∉[z,TI,TO,p,D,E,l1,l2,l3]) (J:∀j∈[S,z,TI,TO,p,D,E],j<n₀)
  (e2:L.size=h.size) (e3:M.size=h.size) (a6:0<h.size) (hn:h.size<=sizeLine) (res:Value) :
  ∀(k i:Nat) (s:Shared) (a:List Value) (c:Nat),h.size - i=k->i<=h.size->Z3 s.heap z TI TO p D E l1 l2 l3 h L M S i->n₀<=s.heap.objs.size->s.heap.get? S=some { cls:=.type "list",dict:=none,data:=.seq a.toArray c,slots:=#[] }->a.length=i->qk s.heap n₀ h L M a->
  (∀n d c',(∀b o,b∉[S,z,TO,p,D,E]->s.heap.get? b=some o->n.get? b=some o)->n.get? S=some { cls:=.type "list",dict:=none,data:=.seq d.toArray c',slots:=#[] }->d.length=h.size->qk n n₀ h L M d->R (.ok (.ret res)) { s with heap:=n })->
  codeAny (model prog w) A (.builtin "list.extend.loop" ⟨[.ref S,.ref z,res],[]⟩) R s:=by
 intro k
 induction k with
 | zero=>
  intro i s a c hk hi st r B f tr hR;have N:i=h.size:=by omega
  refine codeAny_builtin F.entry_extend_loop ?_;rw[Around.under_plainId F.plain_extend_loop _];show wpAny _ A.in1 (pyNext (.ref z) >>= _) _ _ s;have nS:S∉[z,p]:=fun q=>hS (by simp only[List.mem_cons,List.not_mem_nil,or_false] at q ⊢;rcases q with q | q<;>simp[q]);refine aw (HX hh nd hl st (by omega) (by rw[N];exact Array.getElem?_eq_none (bG _)) fun n g=>?_);refine bo (hR n a c (fun b o J e=>g b o (fun q=>J (by simp only[List.mem_cons,List.not_mem_nil,or_false] at q ⊢;rcases q with q | q<;>simp[q])) e) (g S _ nS B) (f.trans N) fun j v H=>?_);obtain⟨T,x,y,u,e,G,t,q⟩:=tr j v H;refine⟨T,x,y,u,e,G,g T _ (fun m=>?_) t,q⟩;simp only[List.mem_cons,List.not_mem_nil,or_false] at m;rcases m with m | m
  ·exact absurd (J z (by simp)) (by rw[<-m];exact Nat.not_lt.mpr G)
  ·exact absurd (J p (by simp)) (by rw[<-m];exact Nat.not_lt.mpr G)
 | succ k ih=>
  intro i s a c hk hi st r B f tr hR;have O:i<h.size:=by omega
  refine codeAny_builtin F.entry_extend_loop ?_;rw[Around.under_plainId F.plain_extend_loop _];show wpAny _ A.in1 (pyNext (.ref z) >>= _) _ _ s;refine aw (HW nd hl st (bq B) (x:=h[i]) (y:=L[i]) (v:=M[i]) (Array.getElem?_eq_getElem O) (Array.getElem?_eq_getElem (by omega)) (Array.getElem?_eq_getElem (by omega)) fun n a0 a1 Q g=>?_);have nS:S∉[z,TO,p,D,E]:=fun q=>hS (by simp only[List.mem_cons,List.not_mem_nil,or_false] at q ⊢;rcases q with q | q | q | q | q<;>simp[q]);have U:=g S _ nS B;have ha:a.toArray.size=i:=by rw[List.size_toArray];exact f
  show wpAny _ A.in1 (updateSeq S (·.push (.ref s.heap.objs.size)) >>= _) _ _ _;refine aw ?_;have old:∀b o,b≠S->n.get? b=some o->(n.update S (Obj.mapSeq (·.push (.ref s.heap.objs.size)))).get? b=some o:=fun b o J e=>(Heap.get?_update_other _ _ (Ne.symm J)).trans e;have big:∀T,n₀<=T->T∉[S,z,TO,p,D,E]:=fun T G m=>by simp only[List.mem_cons,List.not_mem_nil,or_false] at m;rcases m with m | m | m | m | m | m<;>exact absurd (J T (by rw[m];simp)) (Nat.not_lt.mpr G)
  refine wpAny_updateSeq U rfl (bo ⟨plainId_quiet F.plain_extend_loop _,ih (i+1) _ (a++[.ref s.heap.objs.size]) (cW a.toArray (.ref s.heap.objs.size) c) (by omega) O (a0.keep hS old) ?_ ?_ (by rw[List.length_append,f];rfl) ?_ fun a2 d c' X Y a3 Z=>?_⟩)
   (by rw[ha];omega) (by show(a.toArray.push _).size<=sizeLine+1;rw[Array.size_push,ha];omega)
  ·show n₀<=(n.update S (Obj.mapSeq (·.push (.ref s.heap.objs.size)))).objs.size;rw[show(n.update S (Obj.mapSeq (·.push (Value.ref s.heap.objs.size)))).objs.size=n.objs.size from(Heap.SameBut.update ..).1,Q];exact Nat.le_succ_of_le r
  ·have q:=Heap.get?_update_self (Obj.mapSeq (·.push (Value.ref s.heap.objs.size))) U rfl;have e:a.toArray.push (Value.ref s.heap.objs.size)=(a++[Value.ref s.heap.objs.size]).toArray:=by simp
   have q':(n.update S (Obj.mapSeq (·.push (Value.ref s.heap.objs.size)))).get? S=some { cls:=.type "list",dict:=none,data:=.seq (a.toArray.push (Value.ref s.heap.objs.size)) (cW a.toArray (Value.ref s.heap.objs.size) c),slots:=#[] }:=q;rw[e] at q';exact q'
  ·intro j v H
   by_cases a4:j<a.length
   ·rw[List.getElem?_append_left a4] at H;obtain⟨T,x,y,u,e,G,t,q⟩:=tr j v H;have nb:=big T G;exact⟨T,x,y,u,e,G,old T _ (fun C=>nb (by simp[C])) (g T _ (fun C=>nb (bN _ C)) t),q⟩
   ·have a5:j=a.length:=by have:=(List.getElem?_eq_some_iff.mp H).1;rw[List.length_append,List.length_singleton] at this;omega
    subst a5;rw[List.getElem?_append_right (bG _),Nat.sub_self] at H;cases H;have nb:=big s.heap.objs.size r;refine⟨s.heap.objs.size,h[i],L[i],M[i],rfl,r,old _ _ (fun C=>nb (by simp[C])) a1,?_,?_,?_⟩<;>(rw[f];exact Array.getElem?_eq_getElem (by omega))
  ·refine hR a2 d c' (fun b o I e=>X b o I (old b o (fun C=>I (by simp[C])) (g b o (fun C=>I (bN _ C)) e))) Y a3 Z
end
namespace F3
theorem zip_no_len:typeLookup (.type "zip") "__len__" = pure none:=by rw[typeLookup_type,builtinLookup_eq_fast];kernel_rfl
theorem zip_no_hint:typeLookup (.type "zip") "__length_hint__" = pure none:=by rw[typeLookup_type,builtinLookup_eq_fast];kernel_rfl
theorem typeCall_zip_3(a b c:Value):checkTypeCall "zip" ⟨[a,b,c],[]⟩=pure ():=by kernel_rfl
theorem newCall_zip_3(a b c:Value):checkBuiltinCall "zip.__new__" ⟨[.type "zip",a,b,c],[]⟩=pure ():=by kernel_rfl
theorem args_object_init_4(a b c d:Value):argsOk "object.__init__" ⟨[a,b,c,d],[]⟩:=by unfold argsOk;rw[signature?_of (id:="object.__init__") (n:=['_','_','t','i','n','i','_','_']) (o:=['t','c','e','j','b','o']) (by kernel_rfl) F.owner_object];kernel_rfl
end F3
noncomputable abbrev zA(h:Heap)(a:Addr):Heap:=h.push { cls:=.type "list_iterator",data:=.fields #[.ref a,.int 0 0] }
noncomputable abbrev zB(h:Heap)(a b:Addr):Heap:=(zA h a).push { cls:=.type "list_iterator",data:=.fields #[.ref b,.int 0 0] }
noncomputable abbrev zC(h:Heap)(a b c:Addr):Heap:=(zB h a b).push { cls:=.type "list_iterator",data:=.fields #[.ref c,.int 0 0] }
noncomputable abbrev zD(h:Heap)(a b c:Addr):Heap:=(zC h a b c).push { cls:=.type "tuple",data:=.seq #[.ref h.objs.size,.ref (zA h a).objs.size,.ref (zB h a b).objs.size] }
noncomputable abbrev zE(h:Heap)(a b c:Addr):Heap:=(zD h a b c).push { cls:=.type "tuple",data:=.seq #[.none,.none,.none] }
noncomputable abbrev zF(h:Heap)(a b c:Addr):Heap:=(zE h a b c).push { cls:=.type "zip",data:=.fields #[.none,.bool false,.bool false,.ref (zC h a b c).objs.size,.ref (zD h a b c).objs.size] }
theorem HZ(a b c:Addr)(o p q:Array Value) :
  Meets (Builtin.«zip.__new__» ⟨[.type "zip",.ref a,.ref b,.ref c],[]⟩) (fun _ R s=>s.heap.IsList a o/\s.heap.IsList b p/\s.heap.IsList c q/\
   R (.ok (.ret (.ref (zE s.heap a b c).objs.size))) { s with heap:=zF s.heap a b c }):=
 .of_wp fun t w A R s h=>by
  obtain⟨e,g,d,f,os⟩:=s;obtain⟨i,j,k,h⟩:=h;have r:=sub_zip;have l:Heap.IsList (Shared.heap ⟨e,g,d,f,os⟩) a o:=i;have m:Heap.IsList (Shared.heap ⟨e.push { cls:=.type "list_iterator",data:=.fields #[.ref a,.int 0 0] },g,d,f,os⟩) b p:=Heap.IsList.push j _;have n:Heap.IsList (Shared.heap ⟨(e.push { cls:=.type "list_iterator",data:=.fields #[.ref a,.int 0 0] }).push { cls:=.type "list_iterator",data:=.fields #[.ref b,.int 0 0] },g,d,f,os⟩) c q:=Heap.IsList.push (Heap.IsList.push k _) _
  wp_walk using wpAny_pyIter_list l,wpAny_pyIter_list m,wpAny_pyIter_list n
  exact⟨_,rfl,h⟩
section
variable{prog:Program}{w:World}{A:Around}{E:Value->Shared->Prop}{s:Shared}
theorem Ia{a b d:Addr}{q r t:Array Value}{Q:Value->Shared->Prop}(f:s.heap.IsList a q)(g:s.heap.IsList b r)(i:s.heap.IsList d t)
  (h:∀e,fb e (s.heap.objs.size+5) (s.heap.objs.size+3) (s.heap.objs.size+4) .none (.bool false)->dB e (s.heap.objs.size+3) (.ref s.heap.objs.size) (.ref (s.heap.objs.size+1)) (.ref (s.heap.objs.size+2))->
   dB e (s.heap.objs.size+4) .none .none .none->e.IsListIter s.heap.objs.size a 0->e.IsListIter (s.heap.objs.size+1) b 0->e.IsListIter (s.heap.objs.size+2) d 0->e.objs.size=s.heap.objs.size+6->
   (∀c o,s.heap.get? c=some o->e.get? c=some o)->Q (.ref (s.heap.objs.size+5)) { s with heap:=e }) :
  wpAny (model prog w) A (call (.type "zip") [.ref a,.ref b,.ref d]) Q E s:=by
 refine callType_new F.called_zip (by decide) (F3.typeCall_zip_3 _ _ _) (F3.newCall_zip_3 _ _ _) (fun obj=>F3.args_object_init_4 obj _ _ _) F.entry_zip_new
  (HZ a b d q r t) ⟨f,g,i,?_⟩
 have j:(zA s.heap a).objs.size=s.heap.objs.size+1:=Heap.size_push ..;have k:(zB s.heap a b).objs.size=s.heap.objs.size+2:=by rw[Heap.size_push,j]
 have l:(zC s.heap a b d).objs.size=s.heap.objs.size+3:=by rw[Heap.size_push,k]
 have m:(zD s.heap a b d).objs.size=s.heap.objs.size+4:=by rw[Heap.size_push,l]
 have n:(zE s.heap a b d).objs.size=s.heap.objs.size+5:=by rw[Heap.size_push,m]
 have y:(zF s.heap a b d).objs.size=s.heap.objs.size+6:=by rw[Heap.size_push,n]
 have p:(zF s.heap a b d).get? (zE s.heap a b d).objs.size=some _:=Heap.get?_push_size _ rfl;have u:(zF s.heap a b d).get? (zD s.heap a b d).objs.size=some _:=bv _ (Heap.get?_push_size _ rfl);have v:(zF s.heap a b d).get? (zC s.heap a b d).objs.size=some _:=bv _ (bv _ (Heap.get?_push_size _ rfl));have g3:(zF s.heap a b d).get? (zB s.heap a b).objs.size=some _:=bv _ (bv _ (bv _ (Heap.get?_push_size _ rfl)));have g2:(zF s.heap a b d).get? (zA s.heap a).objs.size=some _:=bv _ (bv _ (bv _ (bv _ (Heap.get?_push_size _ rfl))));have g1:(zF s.heap a b d).get? s.heap.objs.size=some _:=bv _ (bv _ (bv _ (bv _ (bv _ (Heap.get?_push_size _ rfl)))));show _/\_;rw[l,m,n] at p;rw[j,k,l] at v;rw[m] at u;rw[k] at g3;rw[j] at g2;rw[n];exact⟨⟨_,p,rfl⟩,h _ p v u ⟨_,g1,rfl,rfl⟩ ⟨_,g2,rfl,rfl⟩ ⟨_,g3,rfl,rfl⟩ y fun c o x=>
  bv _ (bv _ (bv _ (bv _ (bv _ (bv _ x)))))⟩
theorem Ib{z TI TO k n p L M N:Addr}{g S T:Array Value}{Q:Value->Shared->Prop}(hh:A.handled=none)
  (nd:[z,TI,TO,k,n,p].Nodup) (hl:∀l∈[L,M,N],∀j∈[z,TI,TO,k,n,p],l≠j) (x:∀j∈[z,TI,TO,k,n,p,L,M,N],j<s.heap.objs.size)
  (y:fb s.heap z TI TO .none (.bool false)) (ti:dB s.heap TI (.ref k) (.ref n) (.ref p)) (to:dB s.heap TO .none .none .none)
  (h1:s.heap.IsListIter k L 0) (h2:s.heap.IsListIter n M 0) (h3:s.heap.IsListIter p N 0) (U:s.heap.IsList L g) (X:s.heap.IsList M S) (Y:s.heap.IsList N T)
  (e2:S.size=g.size) (e3:T.size=g.size) (B:0<g.size) (hn:g.size<=sizeLine)
  (hQ:∀f r c,(∀b o,b∉[z,TO,k,n,p]->s.heap.get? b=some o->f.get? b=some o)->f.get? s.heap.objs.size=some { cls:=.type "list",dict:=none,data:=.seq r.toArray c,slots:=#[] }->r.length=g.size->qk f (s.heap.objs.size+1) g S T r->
   Q (.ref s.heap.objs.size) { s with heap:=f }):wpAny (model prog w) A (call (.type "list") [.ref z]) Q E s:=by
 have C:s.heap.objs.size∉[z,TI,TO,k,n,p,L,M,N]:=fun hm=>Nat.lt_irrefl _ (x _ hm);have Z:s.heap.objs.size≠z:=fun e=>C (by simp[e]);refine callType_codes (Q₁:=fun obj s₁=>obj=.ref s.heap.objs.size/\s₁ = { s with heap:=s.heap.push { cls:=.type "list",data:=.seq #[] } }) F.called_list (F.typeCall_list_1 _) F.entry_list_init
  (code_list_new _ ⟨rfl,rfl⟩) fun obj s₁ h₁=>?_
 obtain⟨rfl,rfl⟩:=h₁;have O:(s.heap.push { cls:=.type "list",data:=.seq #[] }).get? s.heap.objs.size=some { cls:=.type "list",data:=.seq #[] }:=Heap.get?_push_size _ rfl;have t:∀f,fb f z TI TO .none (.bool false)->Shared.TypeIs { s with heap:=f } (.ref z) "zip":=fun f q=>⟨_,q,rfl⟩
 refine⟨⟨_,O,rfl⟩,F.args_list_init_2 _ _,?_⟩;have pu:∀b o,s.heap.get? b=some o->(s.heap.push { cls:=.type "list",data:=.seq #[] }).get? b=some o:=fun b o e=>bv _ e;show wpAny _ A.in1.in1 (do let old <-Builtin.List.listItems (.ref s.heap.objs.size);Builtin.List.listUpdate (.ref s.heap.objs.size) (fun _=>#[]);letGo old.toList.reverse;Builtin.List.listExtendWith (.ref s.heap.objs.size) (.ref z) .none) _ _ _;refine aw ?_;unfold Builtin.List.listItems;refine aw (wpAny_seqItems O rfl (bo ?_));show wpAny _ _ (updateSeq s.heap.objs.size (fun _=>#[]) >>= fun _=>letGo (#[]:Array Value).toList.reverse >>= fun _=>Builtin.List.listExtendWith (.ref s.heap.objs.size) (.ref z) .none) _ _ _;refine aw (wpAny_updateSeq O rfl ?_);have u:=Heap.get?_update_self (Obj.mapSeq (fun _=>(#[]:Array Value))) O rfl;refine aw (wpAny_letGo ?_);generalize D:(s.heap.push { cls:=.type "list",data:=.seq #[] }).update s.heap.objs.size (Obj.mapSeq (fun _=>(#[]:Array Value)))=i at u ⊢;have d:∀b o,s.heap.get? b=some o->i.get? b=some o:=fun b o e=>by rw[<-D];exact(Heap.get?_update_other _ _ (Nat.ne_of_gt (bq e))).trans (pu b o e)
 have CW:i.objs.size=s.heap.objs.size+1:=by rw[<-D,show((s.heap.push { cls:=.type "list",data:=.seq #[] }).update s.heap.objs.size (Obj.mapSeq (fun _=>(#[]:Array Value)))).objs.size=(s.heap.push { cls:=.type "list",data:=.seq #[] }).objs.size from(Heap.SameBut.update ..).1,Heap.size_push]
 unfold Builtin.List.listExtendWith;refine aw (wpAny_typeOf (t _ (d _ _ y)) ?_);have g1:Builtin.List.listSameRef (.ref s.heap.objs.size) (.ref z)=false:=by simp[Builtin.List.listSameRef,Z]
 have g2:(Value.type "zip"==Value.type "list")=false:=by decide
 have g3:(Value.type "zip"==Value.type "tuple")=false:=by decide
 simp only[g1,g2,g3,Bool.or_false,Bool.false_eq_true,if_false];refine aw (wpAny_pyIter_zip (s:={ s with heap:=i }) (d _ _ y) ?_);refine aw (wpAny_holding ?_);unfold Builtin.List.listLengthHint;refine aw (wpAny_specialOf (t _ (d _ _ y)) F3.zip_no_len ?_);show wpAny _ _ (specialOf (Value.ref z) (Str.ofString "__length_hint__") >>= _) _ _ _;refine aw (wpAny_specialOf (t _ (d _ _ y)) F3.zip_no_hint ?_);refine bo ?_;show wpAny _ _ (rule "list.extend.makes-room" >>= fun _=>Builtin.List.listTouch (.ref s.heap.objs.size) >>= fun _=>
  again (.builtin "list.extend.loop" ⟨[.ref s.heap.objs.size,.ref z,.none],[]⟩)) _ _ _
 refine aw (wpAny_rule ?_);refine aw ?_;show wpAny _ _ (updateSeq s.heap.objs.size (·.push .none) >>= fun _=>updateSeq s.heap.objs.size (·.pop)) _ _ _;refine aw (wpAny_updateSeq u rfl ?_);have G:=Heap.get?_update_self (Obj.mapSeq (·.push Value.none)) u rfl;refine wpAny_updateSeq (hz:=by seq_fits) G rfl ?_;have H:=Heap.get?_update_self (Obj.mapSeq (·.pop)) G rfl;generalize I:(i.update s.heap.objs.size (Obj.mapSeq (·.push Value.none))).update s.heap.objs.size (Obj.mapSeq (·.pop))=H2 at H ⊢;have a:∀b o,s.heap.get? b=some o->H2.get? b=some o:=fun b o e=>by rw[<-I];exact(Heap.get?_update_other _ _ (Nat.ne_of_gt (bq e))).trans ((Heap.get?_update_other _ _ (Nat.ne_of_gt (bq e))).trans (d b o e))
 have CY:H2.objs.size=s.heap.objs.size+1:=by
  rw[<-I,show((i.update s.heap.objs.size (Obj.mapSeq (·.push Value.none))).update s.heap.objs.size (Obj.mapSeq (·.pop))).objs.size=(i.update s.heap.objs.size (Obj.mapSeq (·.push Value.none))).objs.size from(Heap.SameBut.update ..).1,
   show(i.update s.heap.objs.size (Obj.mapSeq (·.push Value.none))).objs.size=i.objs.size from(Heap.SameBut.update ..).1,CW]
 refine bo ⟨plainId_quiet F.plain_extend_loop _,HY (A:=A.in1) (n₀:=s.heap.objs.size+1) (show A.in1.handled=none from hh) nd hl C (fun j R=>?_) e2 e3 B hn _ g.size 0 _ [] _ rfl (Nat.zero_le _)
  ⟨⟨_,_,a _ _ y,.inl rfl,.inl ⟨rfl,rfl,rfl⟩⟩,a _ _ ti,⟨_,_,_,a _ _ to⟩,h1.at fun o e=>a _ o e,h2.at fun o e=>a _ o e,h3.at fun o e=>a _ o e,U.at fun o e=>a _ o e,X.at fun o e=>a _ o e,Y.at fun o e=>a _ o e⟩
  (Nat.le_of_eq CY.symm) H rfl (fun j v h=>by simp at h) fun f J c' a0 a1 a2 a3=>?_⟩
 ·rcases List.mem_cons.mp R with rfl | R
  ·exact Nat.lt_succ_self _
  ·refine Nat.lt_succ_of_lt (x j ?_);simp only[List.mem_cons,List.not_mem_nil,or_false] at R ⊢;rcases R with q | q | q | q | q | q<;>simp[q]
 ·refine⟨rfl,hQ f J c' (fun b o hb e=>a0 b o (fun m=>?_) (a b o e)) a1 a2 a3⟩;rcases List.mem_cons.mp m with q | q
  ·exact absurd (bq e) (by rw[q];exact Nat.lt_irrefl _)
  ·exact hb q
end
end L2
namespace L2
open PySem PySem.Spec PyProof.Rows
noncomputable def cE:List PyData->Bool
 | []=>true
 | .tuple _::_=>true
 | _::ds=>!ds.isEmpty&&cE ds
def mm(H:Hp)(a:Addr)(b:List V)(c:List PyData):Prop:=H a=some (.tup b)\/(∃o,H a=some (.frz o (.tup b)))/\cE c=true
theorem mm.mono{H b:Hp}{a:Addr}{c:List V}{d:List PyData}(s:bV H b)(h:mm H a c d):mm b a c d:=h.imp (fun e=>s _ _ e) fun⟨⟨o,e⟩,k⟩=>⟨⟨o,s _ _ e⟩,k⟩
theorem mm.rd{H:Hp}{a:Addr}{b:List V}{c:List PyData}(h:mm H a b c):Rd H a (.tup b):=h.imp id fun z=>z.1
mutual
inductive DV (H:Hp):V->PyData->Prop where
 | non:DV H .non .none
 | bl (b:Bool):DV H (.bl b) (.bool b)
 | int (i:Int):DV H (.int i) (.int i)
 | str (x:Str):DV H (.str x) (.str x)
 | lst {a:Addr}{xs:List V}{ds:List PyData}:H a=some (.lst xs)->aQ H xs ds->DV H (.ref a) (.list ds)
 | tup {a:Addr}{xs:List V}{ds:List PyData}:mm H a xs ds->aQ H xs ds->DV H (.ref a) (.tuple ds)
inductive aQ (H:Hp):List V->List PyData->Prop where
 | nil:aQ H [] []
 | cons {x:V}{xs:List V}{d:PyData}{ds:List PyData}:DV H x d->aQ H xs ds->aQ H (x::xs) (d::ds)
end
section
variable{H H':Hp}
mutual
theorem DV.mono(s:bV H H'):∀{v:V}{d:PyData},DV H v d->DV H' v d
 | _,_,.non=>.non
 | _,_,.bl b=>.bl b
 | _,_,.int i=>.int i
 | _,_,.str x=>.str x
 | _,_,.lst h r=>.lst (s _ _ h) (aQ.mono s r)
 | _,_,.tup h r=>.tup (h.mono s) (aQ.mono s r)
theorem aQ.mono(s:bV H H'):∀{vs:List V}{ds:List PyData},aQ H vs ds->aQ H' vs ds
 | _,_,.nil=>.nil
 | _,_,.cons h r=>.cons (DV.mono s h) (aQ.mono s r)
end
theorem aQ.length:∀{a:List V}{b:List PyData},aQ H a b->a.length=b.length
 | _,_,.nil=>rfl
 | _,_,.cons _ r=>congrArg (·+1) r.length
theorem aQ.append:∀{a b:List V}{d c:List PyData},aQ H a d->aQ H b c->aQ H (a++b) (d++c)
 | _,_,_,_,.nil,s=>s
 | _,_,_,_,.cons h r,s=>.cons h (r.append s)
theorem aQ.get:∀{a:List V}{b:List PyData}{i:Nat}{d:PyData},aQ H a b->b[i]? = some d->∃v,a[i]? = some v/\DV H v d
 | _,_,_,_,.nil,e=>by simp at e
 | _,_,0,_,.cons h _,e=>by simp at e;subst e;exact⟨_,rfl,h⟩
 | _,_,i+1,d,.cons _ r,e=>by obtain⟨v,h1,h2⟩:=r.get (i:=i) (d:=d) (by simpa using e);exact⟨v,by simpa using h1,h2⟩
theorem aQ.get':∀{a:List V}{b:List PyData}{i:Nat}{v:V},aQ H a b->a[i]? = some v->∃d,b[i]? = some d/\DV H v d
 | _,_,_,_,.nil,e=>by simp at e
 | _,_,0,_,.cons h _,e=>by simp at e;subst e;exact⟨_,rfl,h⟩
 | _,_,i+1,d,.cons _ r,e=>by obtain⟨v,h1,h2⟩:=r.get' (i:=i) (v:=d) (by simpa using e);exact⟨v,by simpa using h1,h2⟩
theorem aQ.drop:∀{a:List V}{b:List PyData}(n:Nat),aQ H a b->aQ H (a.drop n) (b.drop n)
 | _,_,0,r=>r
 | _,_,_+1,.nil=>.nil
 | _,_,n+1,.cons _ r=>r.drop n
theorem bP{a:Addr}{o:HO}(h:H a=none):bV H (aM H a o):=fun b u e=>by rw[bi (eV e h)];exact e
theorem DV.tup_inv{v:V}{c:List PyData}(h:DV H v (.tuple c)):∃a b,v=.ref a/\Rd H a (.tup b)/\aQ H b c:=by cases h with | tup h r=>exact⟨_,_,rfl,h.rd,r⟩
theorem DV.tup_invK{v:V}{b:List PyData}(h:DV H v (.tuple b))(d:cE b=false):∃a c,v=.ref a/\H a=some (.tup c)/\aQ H c b:=by cases h with | tup h r=>exact⟨_,_,rfl,h.elim id (fun z=>by rw[d] at z;cases z.2),r⟩
theorem DV.lst_inv{v:V}{c:List PyData}(h:DV H v (.list c)):∃a b,v=.ref a/\H a=some (.lst b)/\aQ H b c:=by cases h with | lst h r=>exact⟨_,_,rfl,h,r⟩
theorem DV.int_inv{v:V}{i:Int}(h:DV H v (.int i)):v=.int i:=by cases h;rfl
theorem DV.str_inv{v:V}{x:Str}(h:DV H v (.str x)):v=.str x:=by cases h;rfl
theorem DV.bl_inv{v:V}{b:Bool}(h:DV H v (.bool b)):v=.bl b:=by cases h;rfl
theorem DV.non_inv{v:V}(h:DV H v .none):v=.non:=by cases h;rfl
end
section
variable{X:Cx}{pins:List (Addr×Obj)}{Y:St}{H:Hp}{s:Shared}
mutual
theorem Inv.reads(I:Inv X pins Y H s):∀{v:V}{d:PyData}{u:Value},DV H v d->bn v u->∃as,Reads s.heap u d as
 | _,_,_,.non,r=>by cases r;exact⟨_,.none⟩
 | _,_,_,.bl b,r=>by cases r;exact⟨_,.bool b⟩
 | _,_,_,.int i,r=>by obtain⟨t,rfl⟩:=r;exact⟨_,.int i t⟩
 | _,_,_,.str x,r=>by obtain⟨t,rfl⟩:=r;exact⟨_,.str x t⟩
 | _,_,_,.lst h q,r=>by cases r;obtain⟨_,its,n,rv,e⟩:=I.hok _ _ h;obtain⟨as,z⟩:=I.readsAll q rv;exact⟨_,reads_list_at e rfl rfl (by simpa using z)⟩
 | _,_,_,.tup h q,r=>by cases r;obtain⟨_,its,rv,o,e,c,n,d⟩:=h.rd.ok I.hok;obtain⟨as,z⟩:=I.readsAll q rv;exact⟨_,reads_tuple_at e c d (by simpa using z)⟩
theorem Inv.readsAll(I:Inv X pins Y H s):∀{vs:List V}{ds:List PyData}{us:List Value},aQ H vs ds->bh vs us->∃as,ReadsAll s.heap us ds as
 | _,_,_,.nil,.nil=>⟨_,.nil⟩
 | _,_,_,.cons h q,.cons r rr=>by obtain⟨as,z⟩:=I.reads h r;obtain⟨bs,z'⟩:=I.readsAll q rr;exact⟨_,.cons z z'⟩
end
end
section
variable{X:Cx}
noncomputable def uP(neg:Bool):R2:=fun x y H Q=>∃d e,DV H x d/\DV H y e/\SeqAt.shaped d=true/\SeqAt.shaped e=true/\Q (.bl (PyData.eqv d e != neg)) H
theorem zP(b:X.A.units+64<cLine):cK X (compareOp .Eq) (uP false):=by intro a s Y H x y v u Q I c f h;obtain⟨d,e,h1,h2,h3,g,q⟩:=h;obtain⟨as,i⟩:=I.reads h1 c;obtain⟨bs,j⟩:=I.reads h2 f;exact eq_dataH i j h3 g b ⟨_,H,I,by show Value.bool (PyData.eqv d e)=Value.bool (PyData.eqv d e != false);rw[Bool.bne_false],q⟩
theorem Ie(b:X.A.units+64<cLine):cK X (compareOp .NotEq) (uP true):=by intro a s Y H x y v u Q I c f h;obtain⟨d,e,h1,h2,h3,g,q⟩:=h;obtain⟨as,i⟩:=I.reads h1 c;obtain⟨bs,j⟩:=I.reads h2 f;exact ne_dataH i j h3 g b ⟨_,H,I,by show Value.bool (!PyData.eqv d e)=Value.bool (PyData.eqv d e != true);rw[Bool.bne_true],q⟩
@[simp] noncomputable def uQ:PyData->String
 | .none=>"NoneType"
 | .bool _=>"bool"
 | .int _=>"int"
 | .str _=>"str"
 | .list _=>"list"
 | .tuple _=>"tuple"
 | .dict _=>"dict"
noncomputable def Ig:List V->Hp->VK->Prop:=fun a H Q=>∃x d n b,a=[x,.ty n]/\DV H x d/\(∀K:Frag,kitOne K (.type (uQ d)) (.type n)=some b)/\Q (.bl b) H
theorem Ih:gL X (.builtin "isinstance") Ig:=by
 intro g s Y H k m Q I r h;obtain⟨x,d,n,b,rfl,hd,e,q⟩:=h;obtain⟨u,w,rfl,f,l⟩:=hJ r;cases l;have fin:∀j,EP X g Y Q (.bool b) { s with toks:=j }:=fun j=>⟨.bl b,H,I.tok j,rfl,q⟩
 cases hd with
 | non=>exact nJ I f .non (e _) fin
 | bl c=>exact nJ I f (.bl c) (e _) fin
 | int i=>exact nJ I f (.int i) (e _) fin
 | str z=>exact nJ I f (.str z) (e _) fin
 | lst h r=>exact nJ I f (.lst h) (e _) fin
 | @tup a k ds h r=>cases(show u=Value.ref a from f);obtain⟨_,_,_,p⟩:=h.rd.ok I.hok;obtain⟨o,h1,h2,_⟩:=p;exact kia_one PySem.W.kitx_tuple I.kIn ⟨o,h1,h2⟩ (e _) (fun z=>nomatch z) fin
end
section
variable{X:Cx}{pins:List (Addr×Obj)}{Y:St}{H:Hp}{s:Shared}{h':Heap}
theorem Inv.turnedNew{ch:List Addr}{a:Addr}{o:HO}{t':Nat}(I:Inv X pins Y H s)(f:∀b∈ch,fA X pins H b)(k:∀b d,b∉ch->s.heap.get? b=some d->h'.get? b=some d)(p:s.heap.objs.size<=a)
  (there:∀b∈ch,∀d,s.heap.get? b=some d->∃l,h'.get? b=some l) (new:cq X.prog X.w (aM H a o) h' a o):Inv X pins Y (aM H a o) { s with heap:=h',toks:=t' }:=by
 have i:=I.hok.fresh p;have j:∀b u,H b=some u->b∉ch:=fun b u e z=>by rw[(f b z).1] at e;cases e
 refine I.step (g':=s.gens) (d':=s.drawn) (ch:=ch) (fun b h=>⟨(f b h).2.2.2.1,(f b h).2.1,(f b h).2.2.2.2.1,(f b h).2.2.2.2.2⟩) (fun b d _ _ g e _=>k b d g e) (fun b d _ _ g e _=>⟨d.slots,k b d g e⟩)
  (fun b d _ e n=>by rw[bi (Nat.ne_of_lt (Nat.lt_of_lt_of_le (bq e) p))];exact n) (fun b d g e=>⟨d,k b d g e⟩) (fun b x e=>bP i b _ e) (fun b d u e=>bP i b _ e) (fun b C e=>⟨#[],by rw[bP i b _ e];simp⟩) (fun m y=>?_) (fun b u e=>?_) I.bare
 ·obtain⟨t,A,B,ho,r⟩:=y;exact⟨t,A,B,k _ t (fun z=>(f _ z).2.1 rfl) ho,r⟩
 ·by_cases h:b=a
  ·subst h;rw[cj] at e;cases e;exact new
  ·rw[bi h] at e;refine(I.hok b u e).stay (fun c v g q=>k c v ?_ q) (fun c q=>bP i c _ q) fun c x q=>bP i c _ q;rcases g with z | z
   ·rw[z];exact j b u e
   ·exact j c _ z
end
noncomputable def zQ(K:Frag)(a:Addr):It:=
 ⟨fun i H=>∃b x,cJ K H a b/\b[i]? = some x,fun i H v c=>∃T x,v=.ref T/\H T=none/\c = aM H T (.tup [.int i,x])/\∀b,cJ K H a b->b[i]? = some x,fun i H=>∃b,cJ K H a b/\b.length<=i⟩
theorem Ii{P:Program}{w:World}{K:Frag}{elts:List Expr}{kk:Nat}{tpos:Pos}(a e it:Addr)(hne:e≠it):gq P w K (.Tuple elts kk tpos) (zQ K a) [e,it] e (fun i h=>(∃old,IsEnum h e it i old)/\h.IsListIter it a i) where
 mem:=by simp
 obj:=fun i h st b hb=>by
  obtain⟨⟨old,he⟩,o,e1,c,d⟩:=st;rcases List.mem_cons.mp hb with rfl | hb
  ·exact⟨_,he,fun v z=>by cases z⟩
  ·obtain rfl:=List.mem_singleton.mp hb;exact⟨o,e1,fun v z=>by rw[d] at z;cases z⟩
 keep:=fun i h h' st k=>⟨st.1.elim fun old he=>⟨old,k e (by simp) _ he⟩,st.2.at fun o e'=>k it (by simp) o e'⟩
 item:=by
  intro X hP hw hK hc i pins s Y H E I hf st hg;subst hP hw hK;obtain⟨⟨old,he⟩,hit⟩:=st;obtain⟨xs,x,hq,hx⟩:=hg;obtain⟨its,rv,p,hz⟩:=I.list hq;obtain⟨u,hu,ru⟩:=rv.get hx;refine wpAny_pyNext_enum_item he hit p.isList (x:=u) (by simpa using hu) hne fun h' ho hi' hT hsz hk=>⟨_,rfl,?_⟩
  refine wpAny_letOwnedTupleGo_enum (s:={ s with heap:=h',toks:=s.toks+1 }) ho fun h2 he2 hs2=>?_;have hel:s.heap.objs.size≠e:=Nat.ne_of_gt (bq he);have k2:∀b ob,b∉[e,it]->s.heap.get? b=some ob->h2.get? b=some ob:=fun b ob hb q=>by simp only[List.mem_cons,List.not_mem_nil,or_false,not_or] at hb;exact(hs2.2 b hb.1).trans (hk b ob hb.1 hb.2 q)
  have I1:Inv X pins Y (aM H s.heap.objs.size (.tup [.int i,x])) { s with heap:=h2,toks:=s.toks+1 }:=by
   refine I.turnedNew (ch:=[e,it]) hf k2 (bG _) (fun b hb ob q=>?_) ?_
   ·rcases List.mem_cons.mp hb with rfl | hb
    ·exact⟨_,he2⟩
    ·obtain rfl:=List.mem_singleton.mp hb;obtain⟨o,e1,_⟩:=hi';exact⟨o,(hs2.2 b (Ne.symm hne)).trans e1⟩
   ·exact⟨by show 2<=sizeLine;decide,[.int i s.toks,u],.cons ⟨_,rfl⟩ (.cons ru .nil),⟨_,(hs2.2 _ hel).trans hT,rfl,_,rfl⟩⟩
  refine⟨.ref s.heap.objs.size,_,I1,rfl,⟨_,x,rfl,I.hok.fresh (bG _),rfl,fun ys hy=>by rw[I.list_inj hy hq];exact hx⟩,⟨⟨_,by simpa using he2⟩,hi'.at fun o e1=>(hs2.2 it (Ne.symm hne)).trans e1⟩,fun b hb=>?_⟩;have hb':b<s.heap.objs.size:=by
   rcases List.mem_cons.mp hb with rfl | hb
   ·exact bq he
   ·obtain rfl:=List.mem_singleton.mp hb;obtain⟨o,e1,_⟩:=hit;exact bq e1
  rw[bi (Nat.ne_of_lt hb')];exact(hf b hb).1
 done:=by intro X hP hw hK hc i pins s Y H E I hf st hg;subst hP hw hK;obtain⟨⟨old,he⟩,hit⟩:=st;obtain⟨xs,hq,hx⟩:=hg;obtain⟨its,rv,p,hz⟩:=I.list hq;obtain⟨f0,f1,f2,f3,f4,f5⟩:=hf it (by simp);have hl:=rv.length;exact wpAny_pyNext_enum_end (I.ok.hd hc) he hit p.isList (by simp;omega) fun h' eb=>⟨rfl,I.turned (t':=s.toks) (fun b o hb e=>eb b o hb e) f0 f1 f3 f4 f5⟩
 self:=fun _ _ _ _ _ st h=>st.1.elim fun _ he=>wpAny_pyIter_enum he h
section
variable{X:Cx}{elts:List Expr}{kk:Nat}{tpos:Pos}
noncomputable def Ij(K:Frag)(c:TA):TI:=fun Y H R=>c Y H fun d b=>∃a e,d=[.ref a]/\cJ K b a e/\R (zQ K a) b
theorem Ik{a:Expr}{g:TA}{p pos:Pos}(j:Gl X "enumerate")(k:X.mg "enumerate" = none)(m:PA X [a] g)(n:starEach [a] X.env=[(false,eval a X.env)]:=by rfl):PI X (.Tuple elts kk tpos) (.Call (.Name "enumerate" p) [a] [] pos) (Ij X.K g):=by
 intro d s Y H R I h;refine Call_ (jO I j k (show bootBuiltins "enumerate" = some (.type "enumerate") by decide +kernel) (PyProof.Rows.callWith_type1 (aK (m pos d s Y H _ I h) fun B c ⟨C,o,I1,r,t⟩=>?_) n rfl));obtain⟨l,D,rfl,v,q⟩:=t;obtain⟨u,rfl,ru⟩:=cV r;cases ru;obtain⟨w,E,p,G⟩:=I1.list v;refine call_enumerate_list p.isList fun x i y z A=>?_;refine wpAny_pyIter_enum (s:={ c with heap:=x }) i ?_;refine⟨c.heap.objs.size+1,[c.heap.objs.size+1,c.heap.objs.size],_,_,o,rfl,I1.kept (t':=c.toks) A,Ii l _ _ (Nat.succ_ne_self _),⟨⟨_,i⟩,y⟩,fun b f=>?_,q⟩;have e:c.heap.objs.size<=b:=by
  rcases List.mem_cons.mp f with rfl | f
  ·exact Nat.le_succ _
  ·obtain rfl:=List.mem_singleton.mp f;exact bG _
 exact I1.fpOk e (I1.hok.fresh e)
end
end L2
namespace L2.L3
open PySem PySem.Spec PyProof.Rows
noncomputable def ay(O:List Addr)(H:Hp):Hp:=fun b=>if b∈O then none else H b
section
variable{O O':List Addr}{H H' H1 H2:Hp}
theorem ib{b:Addr}{o:HO}(h:H b=some o)(n:b∉O):ay O H b=some o:=by unfold ay;rw[if_neg n];exact h
theorem cP{b:Addr}{o:HO}(h:ay O H b=some o):H b=some o/\b∉O:=by
 unfold ay at h
 by_cases e:b∈O
 ·rw[if_pos e] at h;cases h
 ·rw[if_neg e] at h;exact⟨h,e⟩
theorem jP{a:Addr}{u:HO}(h:Rd (ay O H) a u):Rd H a u/\a∉O:=by
 rcases h with h | ⟨o,h⟩
 ·obtain⟨e,n⟩:=cP h;exact⟨.inl e,n⟩
 ·obtain⟨e,n⟩:=cP h;exact⟨.inr ⟨o,e⟩,n⟩
theorem ql:bV (ay O H) H:=fun b o h=>(cP h).1
structure aP (O:List Addr) (H:Hp) (O':List Addr) (H':Hp):Prop where
 keep:∀b o,b∉O->H b=some o->H' b=some o
 new:∀a∈O',a∈O\/H a=none
theorem aP.refl:aP O H O H:=⟨fun _ _ _ h=>h,fun _ h=>.inl h⟩
theorem aP.trans{f g i:List Addr}{j:Hp}(a:aP f H1 g H2)(b:aP g H2 i j):aP f H1 i j:=by
 have k:∀c o,c∉f->H1 c=some o->c∉g:=fun c o d e z=>(a.new c z).elim d fun n=>by rw[n] at e;cases e
 refine⟨fun c o d e=>b.keep c o (k c o d e) (a.keep c o d e),fun c h=>?_⟩
 by_cases d:c∈f
 ·exact .inl d
 ·refine .inr ?_;cases e:H1 c with
  | none=>rfl
  | some o=>
   rcases b.new c h with z | z
   ·exact absurd z (k c o d e)
   ·rw[a.keep c o d e] at z;cases z
theorem aP.same(s:bV H H'):aP O H O H':=⟨fun b o _ e=>s b o e,fun _ h=>.inl h⟩
theorem aP.hid(s:aP O H O' H'):bV (ay O H) (ay O' H'):=fun b o e=>by
 obtain⟨a,n⟩:=cP e;refine ib (s.keep b o n a) fun z=>?_;rcases s.new b z with q | q
 ·exact n q
 ·rw[q] at a;cases a
theorem jQ(s:bV H H'):bV (ay O H) (ay O H'):=(aP.same s).hid
theorem nM(s:∀a∈O',a∈O):bV (ay O H) (ay O' H):=fun b o e=>by obtain⟨c,n⟩:=cP e;exact ib c fun z=>n (s b z)
end
inductive Fl where
 | d (x:PyData) | l (ds:List PyData) | m (tk:Bool) (kvs:List (PyData×PyData))
inductive Bx where
 | l (ds:List PyData) | m (tk:Bool) (kvs:List (PyData×PyData)) | o (C:Addr) (fs:List (Str×Fl)) | sd (fs:List (Str×Fl)) | ll (xs:List (List PyData)) | pr (C:Addr) (fs:List (Str×Fl)) (d:PyData)
inductive ak where
 | dat (d:PyData)
 | own (io:Bool) (b:Bx)
 | scr (ns:List Int)
 | exc (c:Str)
 | vw (b:Bx)
noncomputable abbrev al:=List (Option ak)
structure Fx where
 H₀:Hp
 A₀:List Addr
 O₀:List Addr
 I₀:Nat->Addr
def iH(K:Frag)(H:Hp)(a:Addr)(c:List Int):Prop:=c.length<=63/\((∃o,H a=some (.frz o (.lst (c.map V.int))))\/
 ∃(o:Obj) (b:Array Value) (n:Nat),K.lookup a=some o/\o.cls=.type "list"/\o.dict=none/\o.data=.seq b n/\b.size<=sizeLine/\bh (c.map V.int) b.toList)
theorem iH.sq{K:Frag}{H:Hp}{a:Addr}{b:List Int}(h:iH K H a b):cJ K H a (b.map V.int):=h.2.elim (fun⟨o,e⟩=>.inl (.inr ⟨o,e⟩)) .inr
theorem iH.mono{K:Frag}{H b:Hp}{a:Addr}{c:List Int}(h:iH K H a c)(k:∀o u,H a=some (.frz o u)->b a=some (.frz o u)):iH K b a c:=⟨h.1,h.2.imp (fun⟨o,e⟩=>⟨o,k _ _ e⟩) id⟩
def Il(K:Frag)(a:Addr)(c:Str)(h:Heap):Prop:=∃C o,nsIn K mainGlobals c=some (some (.ref C))/\h.get? a=some o/\o.cls=.ref C
noncomputable def ic:bd->PyData
 | .inl i=>.int i
 | .inr x=>.str x
noncomputable def qm(a:List bd):PyData:=.tuple (a.map ic)
noncomputable def jv(G H:Hp)(a:Addr):Bool->List (PyData×PyData)->Prop
 | false,b=>∃c:List (bd×V),H a=some (.dK c)/\Paired (fun(p:bd×V) (q:PyData×PyData)=>ic p.1=q.1/\DV G p.2 q.2) c b
 | true,b=>∃c:List (List bd×V),H a=some (.dT c)/\Paired (fun(p:List bd×V) (q:PyData×PyData)=>qm p.1=q.1/\DV G p.2 q.2) c b
noncomputable def fS(G H:Hp)(v:V):Fl->List Addr->Prop
 | .d x,b=>b=[]/\DV G v x
 | .l ds,b=>∃a e,v=.ref a/\b=[a]/\H a=some (.lst e)/\aQ G e ds
 | .m f c,b=>∃a,v=.ref a/\b=[a]/\jv G H a f c
inductive bp (G H:Hp):List (Str×V)->List (Str×Fl)->List (List Addr)->Prop where
 | nil:bp G H [] [] []
 | cons {n:Str}{v:V}{f:Fl}{fp:List Addr}{gs:List (Str×V)}{fs:List (Str×Fl)}{fps:List (List Addr)}:fS G H v f fp->bp G H gs fs fps->bp G H ((n,v)::gs) ((n,f)::fs) (fp::fps)
def qo(G H:Hp)(b:Addr)(c:List PyData):Prop:=∃a,H b=some (.lst a)/\aQ G a c
noncomputable def fG(G H:Hp)(a:Addr):Bx->List Addr->Prop
 | .l ds,c=>c=[a]/\∃g,H a=some (.lst g)/\aQ G g ds
 | .m j i,c=>c=[a]/\jv G H a j i
 | .o C fs,c=>∃f e b,c=a::f::b.flatten/\H a=some (.ins C f e)/\H f=some (.own a)/\bp G H e fs b
 | .sd fs,c=>∃e b,c=a::b.flatten/\H a=some (.dK (e.map fun p=>(Sum.inr p.1,p.2)))/\bp G H e fs b
 | .ll g,c=>∃bs:List Addr,c=a::bs/\H a=some (.lst (bs.map V.ref))/\Paired (qo G H) bs g
 | .pr C fs d,c=>∃h v f e b,G a=some (.tup [.ref h,v])/\c=h::f::b.flatten/\H h=some (.ins C f e)/\H f=some (.own h)/\bp G H e fs b/\DV G v d
noncomputable def Mv:HO->Prop
 | .lst _=>True
 | .dK _=>True
 | .dT _=>True
 | .ins _ _ _=>True
 | .own _=>True
 | _=>False
noncomputable def dG(K:Frag)(H:Hp)(O:List Addr)(v:V):ak->List Addr->Prop
 | .dat d,_=>DV (ay O H) v d
 | .own _ b,e=>∃a,v=.ref a/\fG (ay O H) H a b e
 | .scr ns,_=>∃a,v=.ref a/\iH K H a ns
 | .exc c,_=>∃a φ,v=.ref a/\ay O H a=some (.ext φ)/\∀h,φ h->Il K a c h
 | .vw b,_=>∃a e,v=.ref a/\fG (ay O H) (ay O H) a b e
section
variable{G G' H H':Hp}{a:Addr}{v:V}{fp:List Addr}
theorem jv.keep{c:Bool}{b:List (PyData×PyData)}(h:jv G H a c b)(k:H' a=H a)(g:bV G G'):jv G' H' a c b:=by
 cases c with
 | false=>obtain⟨d,e,p⟩:=h;exact⟨d,k.trans e,Paired.mapP p fun _ _ z=>⟨z.1,DV.mono g z.2⟩⟩
 | true=>obtain⟨d,e,p⟩:=h;exact⟨d,k.trans e,Paired.mapP p fun _ _ z=>⟨z.1,DV.mono g z.2⟩⟩
theorem jv.live{c:Bool}{b:List (PyData×PyData)}(h:jv G H a c b):∃o,H a=some o/\Mv o:=by
 cases c with
 | false=>obtain⟨d,e,p⟩:=h;exact⟨_,e,trivial⟩
 | true=>obtain⟨d,e,p⟩:=h;exact⟨_,e,trivial⟩
theorem fS.keep{f:Fl}(h:fS G H v f fp)(k:∀c∈fp,H' c=H c)(g:bV G G'):fS G' H' v f fp:=by
 cases f with
 | d x=>exact⟨h.1,DV.mono g h.2⟩
 | l ds=>obtain⟨a,j,e,b,i,n⟩:=h;exact⟨a,j,e,b,(k a (by simp[b])).trans i,aQ.mono g n⟩
 | m p o=>obtain⟨a,e,b,i⟩:=h;exact⟨a,e,b,i.keep (k a (by simp[b])) g⟩
theorem fS.live{f:Fl}(h:fS G H v f fp):∀c∈fp,∃o,H c=some o/\Mv o:=by
 cases f with
 | d x=>obtain⟨rfl,_⟩:=h;intro c b;cases b
 | l ds=>obtain⟨a,j,g,rfl,e,k⟩:=h;intro c b;obtain rfl:=List.mem_singleton.mp b;exact⟨_,e,trivial⟩
 | m n i=>obtain⟨a,g,rfl,e⟩:=h;intro c b;obtain rfl:=List.mem_singleton.mp b;exact e.live
theorem bp.keep{f:List (Str×V)}{fs:List (Str×Fl)}{d:List (List Addr)}(h:bp G H f fs d)(k:∀c∈d.flatten,H' c=H c)(g:bV G G'):bp G' H' f fs d:=by
 induction h with
 | nil=>exact .nil
 | cons a b i=>exact .cons (a.keep (fun c e=>k c (by simp[e])) g) (i fun c e=>k c (by rw[List.flatten_cons];exact bb _ e))
theorem bp.live{f:List (Str×V)}{fs:List (Str×Fl)}{e:List (List Addr)}(h:bp G H f fs e):∀c∈e.flatten,∃o,H c=some o/\Mv o:=by
 induction h with
 | nil=>intro c d;cases d
 | cons a b g=>
  intro c d;rw[List.flatten_cons] at d;rcases List.mem_append.mp d with d | d
  ·exact a.live c d
  ·exact g c d
theorem Lls.keep{bs:List Addr}{f:List (List PyData)}(h:Paired (qo G H) bs f)(k:∀c∈bs,H' c=H c)(g:bV G G'):Paired (qo G' H') bs f:=by
 induction h with
 | nil=>exact .nil
 | cons a b i=>obtain⟨j,e,d⟩:=a;exact .cons ⟨j,(k _ List.mem_cons_self).trans e,aQ.mono g d⟩ (i fun c l=>k c (bN _ l))
theorem Lls.live{bs:List Addr}{g:List (List PyData)}(h:Paired (qo G H) bs g):∀c∈bs,∃o,H c=some o/\Mv o:=by
 induction h with
 | nil=>intro c f;cases f
 | cons a b i=>
  intro c f;obtain⟨j,e,d⟩:=a;rcases List.mem_cons.mp f with rfl | f
  ·exact⟨_,e,trivial⟩
  ·exact i c f
theorem fG.keep{b:Bx}(h:fG G H a b fp)(k:∀c∈fp,H' c=H c)(g:bV G G'):fG G' H' a b fp:=by
 cases b with
 | l ds=>obtain⟨rfl,s,e,d⟩:=h;exact⟨rfl,s,(k a (by simp)).trans e,aQ.mono g d⟩
 | m y u=>obtain⟨rfl,d⟩:=h;exact⟨rfl,d.keep (k a (by simp)) g⟩
 | o C fs=>obtain⟨p,q,i,rfl,j,r,f⟩:=h;exact⟨p,q,i,rfl,(k a (by simp)).trans j,(k p (by simp)).trans r,f.keep (fun c n=>k c (by simp[n])) g⟩
 | sd fs=>obtain⟨q,i,rfl,j,f⟩:=h;exact⟨q,i,rfl,(k a (by simp)).trans j,f.keep (fun c n=>k c (by simp[n])) g⟩
 | ll s=>obtain⟨bs,rfl,j,f⟩:=h;exact⟨bs,rfl,(k a (by simp)).trans j,Lls.keep f (fun c n=>k c (by simp[n])) g⟩
 | pr C fs d=>obtain⟨t,v,p,q,i,w,rfl,j,r,f,x⟩:=h;exact⟨t,v,p,q,i,g _ _ w,rfl,(k t (by simp)).trans j,(k p (by simp)).trans r,f.keep (fun c n=>k c (by simp[n])) g,DV.mono g x⟩
theorem fG.live{b:Bx}(h:fG G H a b fp):∀c∈fp,∃o,H c=some o/\Mv o:=by
 cases b with
 | l ds=>obtain⟨rfl,p,e,d⟩:=h;intro c g;obtain rfl:=List.mem_singleton.mp g;exact⟨_,e,trivial⟩
 | m s q=>obtain⟨rfl,d⟩:=h;intro c g;obtain rfl:=List.mem_singleton.mp g;exact d.live
 | o C fs=>
  obtain⟨r,n,j,rfl,i,k,f⟩:=h;intro c g;rcases List.mem_cons.mp g with rfl | g
  ·exact⟨_,i,trivial⟩
  ·rcases List.mem_cons.mp g with rfl | g
   ·exact⟨_,k,trivial⟩
   ·exact f.live c g
 | sd fs=>
  obtain⟨n,j,rfl,i,f⟩:=h;intro c g;rcases List.mem_cons.mp g with rfl | g
  ·exact⟨_,i,trivial⟩
  ·exact f.live c g
 | ll p=>
  obtain⟨bs,rfl,i,f⟩:=h;intro c g;rcases List.mem_cons.mp g with rfl | g
  ·exact⟨_,i,trivial⟩
  ·exact Lls.live f c g
 | pr C fs d=>
  obtain⟨t,v,r,n,j,u,rfl,i,k,f,w⟩:=h;intro c g;rcases List.mem_cons.mp g with rfl | g
  ·exact⟨_,i,trivial⟩
  ·rcases List.mem_cons.mp g with rfl | g
   ·exact⟨_,k,trivial⟩
   ·exact f.live c g
end
theorem dG.keep{K:Frag}{H H':Hp}{O j:List Addr}{v:V}{c:ak}{fp:List Addr}(h:dG K H O v c fp)(s:aP O H j H')(k:∀b∈fp,H' b=H b)(z:∀b o u,H b=some (.frz o u)->H' b=some (.frz o u)):dG K H' j v c fp:=by
 cases c with
 | dat d=>exact DV.mono s.hid h
 | own io b=>obtain⟨a,e,q⟩:=h;exact⟨a,e,q.keep k s.hid⟩
 | scr ns=>obtain⟨a,f,q⟩:=h;exact⟨a,f,q.mono fun o u w=>z _ _ _ w⟩
 | exc c=>obtain⟨a,φ,f,g,q⟩:=h;exact⟨a,φ,f,s.hid _ _ g,q⟩
 | vw b=>obtain⟨a,i,f,q⟩:=h;exact⟨a,i,f,q.keep (fun c l=>by obtain⟨o,g,_⟩:=q.live c l;rw[g];exact s.hid _ _ g) s.hid⟩
structure bO (K:Frag) (F:Fx) (H:Hp) (Y:St) (U:al) (W:List (List Addr)):Prop where
 at_:∀(i:Nat) (c:ak),U[i]? = some (some c)->∃v fp,Y[i]? = some (some v)/\W[i]? = some fp/\dG K H (W.flatten++F.O₀) v c fp
 nd:(W.flatten++F.O₀).Nodup
 kept:∀b o,b∉F.A₀->F.H₀ b=some o->H b=some o
 new:∀a∈W.flatten,a∈F.A₀\/F.H₀ a=none
 live:∀a∈W.flatten++F.O₀,∃o,H a=some o/\Mv o
 len:U.length=Y.length
 lw:W.length=U.length
 io:∀(i:Nat) (b:Bx),U[i]? = some (some (.own true b))->Y[i]? = some (some (.ref (F.I₀ i)))
def aC(K:Frag)(F:Fx)(H:Hp)(Y:St)(U:al)(O:List Addr):Prop:=∃W,bO K F H Y U W/\O=W.flatten++F.O₀
theorem fT{α:Type}{l:List α}{i j:Nat}{x y:α}(e:(l.set i x)[j]? = some y):(j=i/\y=x/\i<l.length)\/(j≠i/\l[j]? = some y):=by
 by_cases b:j=i
 ·subst b;have a:j<l.length:=by
   have:=(List.getElem?_eq_some_iff.mp e).1
   rwa [List.length_set] at this
  rw[List.getElem?_set_self a] at e;exact .inl ⟨rfl,(Option.some.inj e).symm,a⟩
 ·rw[List.getElem?_set_ne (Ne.symm b)] at e;exact .inr ⟨b,e⟩
theorem fc{α:Type}{W:List (List α)}{i:Nat}{c:List α}{a:α}(h:a∈(W.set i c).flatten):a∈c\/∃j l,j≠i/\W[j]? = some l/\a∈l:=by
 obtain⟨l,f,d⟩:=List.mem_flatten.mp h;obtain⟨j,g⟩:=List.getElem?_of_mem f;rcases fT g with⟨_,rfl,_⟩ | ⟨b,e⟩
 ·exact .inl d
 ·exact .inr ⟨j,l,b,e,d⟩
theorem bM{α:Type}{W:List (List α)}{j:Nat}{l:List α}{a:α}(h:W[j]? = some l)(b:a∈l):a∈W.flatten:=List.mem_flatten.mpr ⟨l,List.mem_of_getElem? h,b⟩
theorem Im{α:Type}{W:List (List α)}{i j:Nat}{b l:List α}{a:α}(c:j≠i)(h:W[j]? = some l)(d:a∈l):a∈(W.set i b).flatten:=bM (j:=j) (by rw[List.getElem?_set_ne (Ne.symm c)];exact h) d
theorem zR{α:Type}{W:List (List α)}{i:Nat}{b:List α}{a:α}(c:i<W.length)(d:a∈b):a∈(W.set i b).flatten:=bM (j:=i) (List.getElem?_set_self c) d
theorem jR{α:Type}:∀{W:List (List α)}{i j:Nat}{l m:List α}{a:α},W.flatten.Nodup->W[i]? = some l->W[j]? = some m->i≠j->a∈l->a∉m
 | [],_,_,_,_,_,_,h,_,_,_=>by simp at h
 | w::W,0,0,_,_,_,_,_,_,d,_=>absurd rfl d
 | w::W,0,j+1,l,m,a,nd,h1,h2,_,b=>fun c=>by
  have e:w=l:=by simpa using h1
  subst e;rw[List.flatten_cons] at nd;exact(List.nodup_append.mp nd).2.2 a b a (bM (j:=j) (by simpa using h2) c) rfl
 | w::W,i+1,0,l,m,a,nd,h1,h2,_,b=>fun c=>by
  have e:w=m:=by simpa using h2
  subst e;rw[List.flatten_cons] at nd;exact(List.nodup_append.mp nd).2.2 a c a (bM (j:=i) (by simpa using h1) b) rfl
 | w::W,i+1,j+1,l,m,a,nd,h1,h2,d,b=>jR (W:=W) (i:=i) (j:=j) (by rw[List.flatten_cons] at nd;exact(List.nodup_append.mp nd).2.1) (by simpa using h1) (by simpa using h2) (by omega) b
theorem nN{α:Type}[DecidableEq α]:∀{W:List (List α)}{i:Nat}{fp O:List α},(W.flatten++O).Nodup->fp.Nodup->(∀a∈fp,(∀j l,j≠i->W[j]? = some l->a∉l)/\a∉O)->((W.set i fp).flatten++O).Nodup
 | [],i,fp,O,h,_,_=>by simpa using h
 | w::W,0,fp,O,h,f,hd=>by
  rw[List.set_cons_zero,List.flatten_cons,List.append_assoc];rw[List.flatten_cons,List.append_assoc] at h;refine List.nodup_append.mpr ⟨f,(List.nodup_append.mp h).2.1,fun a d b c e=>?_⟩;subst e;rcases List.mem_append.mp c with c | c
  ·obtain⟨l,g,k⟩:=List.mem_flatten.mp c;obtain⟨j,m⟩:=List.getElem?_of_mem g;exact(hd a d).1 (j+1) l (by omega) (by simpa using m) k
  ·exact(hd a d).2 c
 | w::W,i+1,fp,O,h,f,hd=>by
  rw[List.set_cons_succ,List.flatten_cons,List.append_assoc];rw[List.flatten_cons,List.append_assoc] at h;obtain⟨o,h2,h3⟩:=List.nodup_append.mp h;have n:=nN (W:=W) (i:=i) (fp:=fp) (O:=O) h2 f fun a d=>⟨fun j l m e=>(hd a d).1 (j+1) l (by omega) (by simpa using e),(hd a d).2⟩
  refine List.nodup_append.mpr ⟨o,n,fun a d b c e=>?_⟩;subst e;rcases List.mem_append.mp c with c | c
  ·rcases fc c with c | ⟨j,l,m,e,g⟩
   ·exact(hd a c).1 0 w (by omega) (by simp) d
   ·exact h3 a d a (bf _ (bM e g)) rfl
  ·exact h3 a d a (bb _ c) rfl
section
variable{K:Frag}{F:Fx}{H H':Hp}{Y:St}{U:al}{O O':List Addr}{W:List (List Addr)}
theorem bO.nofrz(st:bO K F H Y U W){b:Addr}(h:b∈W.flatten++F.O₀){o:Obj}{u:HO}:H b≠some (.frz o u):=fun z=>by obtain⟨a,e,m⟩:=st.live b h;rw[z] at e;cases e;exact m
theorem bO.put(st:bO K F H Y U W){i:Nat}{v:V}{c:ak}{fp:List Addr}(r:i<U.length)
  (keep:∀j l b,j≠i->W[j]? = some l->b∈l->H' b=H b) (f:∀b∈F.O₀,H' b=H b) (frz:∀b o,b∉W.flatten++F.O₀->H b=some o->H' b=some o)
  (C:fp.Nodup) (ap:∀a∈fp,(∀j l,j≠i->W[j]? = some l->a∉l)/\a∉F.O₀) (new:∀a∈fp,a∈W.flatten\/H a=none) (s:∀a∈fp,∃o,H' a=some o/\Mv o)
  (A:aP (W.flatten++F.O₀) H ((W.set i fp).flatten++F.O₀) H'->dG K H' ((W.set i fp).flatten++F.O₀) v c fp) (t:∀b,c=.own true b->v=.ref (F.I₀ i)) :
  bO K F H' (Y.set i (some v)) (U.set i (some c)) (W.set i fp)/\aP (W.flatten++F.O₀) H ((W.set i fp).flatten++F.O₀) H':=by
 have k:aP (W.flatten++F.O₀) H ((W.set i fp).flatten++F.O₀) H':=⟨frz,fun a h=>by
  rcases List.mem_append.mp h with h | h
  ·rcases fc h with h | ⟨j,l,_,e,n⟩
   ·exact(new a h).imp (bf _) id
   ·exact .inl (bf _ (bM e n))
  ·exact .inl (bb _ h)⟩
 have B:∀b o u,H b=some (.frz o u)->H' b=some (.frz o u):=fun b o u e=>frz b _ (fun z=>st.nofrz z e) e;have x:i<W.length:=by rw[st.lw];exact r
 refine⟨⟨fun j d e=>?_,nN st.nd C ap,fun b o p e=>?_,fun a h=>?_,fun a h=>?_,by rw[List.length_set,List.length_set,st.len],by rw[List.length_set,List.length_set,st.lw],fun j b e=>?_⟩,k⟩
 ·rcases fT e with⟨rfl,g,_⟩ | ⟨m,g⟩
  ·cases g;exact⟨v,fp,List.getElem?_set_self (by rw[<-st.len];exact r),List.getElem?_set_self x,A k⟩
  ·obtain⟨w,l,h1,h2,h3⟩:=st.at_ j d g;exact⟨w,l,by rw[List.getElem?_set_ne (Ne.symm m)];exact h1,by rw[List.getElem?_set_ne (Ne.symm m)];exact h2,h3.keep k (fun b D=>keep j l b m h2 D) B⟩
 ·have g:=st.kept b o p e
  by_cases y:b∈F.O₀
  ·rw[f b y];exact g
  ·refine frz b o (fun z=>?_) g;rcases List.mem_append.mp z with z | z
   ·rcases st.new b z with q | q
    ·exact p q
    ·rw[q] at e;cases e
   ·exact y z
 ·rcases fc h with h | ⟨j,l,_,e,n⟩
  ·rcases new a h with q | q
   ·exact st.new a q
   ·by_cases p:a∈F.A₀
    ·exact .inl p
    ·refine .inr ?_;cases e:F.H₀ a with
     | none=>rfl
     | some o=>rw[st.kept a o p e] at q;cases q
  ·exact st.new a (bM e n)
 ·rcases List.mem_append.mp h with h | h
  ·rcases fc h with h | ⟨j,l,m,e,n⟩
   ·exact s a h
   ·obtain⟨o,h1,h2⟩:=st.live a (bf _ (bM e n));exact⟨o,by rw[keep j l a m e n];exact h1,h2⟩
  ·obtain⟨o,h1,h2⟩:=st.live a (bb _ h);exact⟨o,by rw[f a h];exact h1,h2⟩
 ·rcases fT e with⟨rfl,g,_⟩ | ⟨m,g⟩
  ·rw[List.getElem?_set_self (by rw[<-st.len];exact r),t b (Option.some.inj g).symm]
  ·rw[List.getElem?_set_ne (Ne.symm m)];exact st.io j b g
theorem bO.grow(st:bO K F H Y U W)(s:bV H H'):bO K F H' Y U W where
 at_:=fun i c e=>let⟨v,fp,h1,h2,h3⟩:=st.at_ i c e;⟨v,fp,h1,h2,h3.keep (.same s) (fun b hb=>by
  obtain⟨o,e1,_⟩:=st.live b (bf _ (bM h2 hb));rw[e1];exact s _ _ e1) fun b o u e=>s _ _ e⟩
 nd:=st.nd
 kept:=fun b o n e=>s b o (st.kept b o n e)
 new:=st.new
 live:=fun a h=>let⟨o,e,m⟩:=st.live a h;⟨o,s _ _ e,m⟩
 len:=st.len
 lw:=st.lw
 io:=st.io
theorem aC.grow(st:aC K F H Y U O)(s:bV H H'):aC K F H' Y U O:=let⟨W,h,e⟩:=st;⟨W,h.grow s,e⟩
theorem aC.nofree(st:aC K F H Y U O):∀p,H p=none->p∉O:=fun p a z=>by obtain⟨W,h,rfl⟩:=st;obtain⟨o,e,_⟩:=h.live p z;rw[a] at e;cases e
theorem aC.lenE(st:aC K F H Y U O):U.length=Y.length:=let⟨_,h,_⟩:=st;h.len
theorem aC.dat(st:aC K F H Y U O){i:Nat}{d:PyData}(e:U[i]? = some (some (.dat d))):∃v,Y[i]? = some (some v)/\DV (ay O H) v d:=by obtain⟨W,h,rfl⟩:=st;obtain⟨v,a,h1,h2,h3⟩:=h.at_ i _ e;exact⟨v,h1,h3⟩
theorem aC.scr(st:aC K F H Y U O){i:Nat}{b:List Int}(e:U[i]? = some (some (.scr b))):∃a,Y[i]? = some (some (.ref a))/\iH K H a b:=by obtain⟨W,h,rfl⟩:=st;obtain⟨v,c,h1,h2,a,rfl,h3⟩:=h.at_ i _ e;exact⟨a,h1,h3⟩
theorem aC.set(st:aC K F H Y U O){i:Nat}{v:V}{d:PyData}(h:DV (ay O H) v d):aC K F H (Y.set i (some v)) (U.set i (some (.dat d))) O:=by
 obtain⟨W,st,rfl⟩:=st;refine⟨W,⟨fun j c e=>?_,st.nd,st.kept,st.new,st.live,by rw[List.length_set,List.length_set,st.len],by rw[List.length_set,st.lw],fun j b e=>?_⟩,rfl⟩
 rotate_left
 ·rcases fT e with⟨rfl,a,_⟩ | ⟨g,a⟩
  ·cases a
  ·rw[List.getElem?_set_ne (Ne.symm g)];exact st.io j b a
 rcases fT e with⟨rfl,a,f⟩ | ⟨g,a⟩
 ·cases a;obtain⟨k,m⟩:∃k,W[j]? = some k:=⟨W[j]'(by rw[st.lw];exact f),List.getElem?_eq_getElem _⟩
  exact⟨v,k,List.getElem?_set_self (by rw[<-st.len];exact f),m,h⟩
 ·obtain⟨w,l,h1,h2,h3⟩:=st.at_ j c a;exact⟨w,l,by rw[List.getElem?_set_ne (Ne.symm g)];exact h1,h2,h3⟩
theorem aC.box(st:aC K F H Y U O){i:Nat}{io:Bool}{b:Bx}(e:U[i]? = some (some (.own io b))):∃a m,Y[i]? = some (some (.ref a))/\fG (ay O H) H a b m/\(∀c∈m,c∈O)/\
  ∀(H':Hp) (t:Bx) (f:List Addr),(∀c o,c∉m->H c=some o->H' c=some o)->f.Nodup->(∀c∈f,c∈m\/H c=none)->(∀G,(∀O',aP O H O' H'->G=ay O' H'->(∀c∈f,c∈O')->bV (ay O H) G/\fG G H' a t f))->
   ∃O',aC K F H' Y (U.set i (some (.own io t))) O'/\aP O H O' H'/\(∀c∈O',c∈f\/c∈O):=by
 obtain⟨W,st,rfl⟩:=st;obtain⟨v,m,h1,h2,a,rfl,h3⟩:=st.at_ i _ e;have A:i<U.length:=(List.getElem?_eq_some_iff.mp e).1;have u:i<W.length:=by rw[st.lw];exact A
 refine⟨a,m,h1,h3,fun c d=>bf _ (bM h2 d),fun H' t f keep M w N=>?_⟩;have p:W.flatten.Nodup:=(List.nodup_append.mp st.nd).1;have B:∀c∈m,c∉F.O₀:=fun c d z=>(List.nodup_append.mp st.nd).2.2 c (bM h2 d) c z rfl;have D:∀j l c,j≠i->W[j]? = some l->c∈l->H' c=H c:=fun j l c n k d=>by obtain⟨o,g,_⟩:=st.live c (bf _ (bM k d));rw[g];exact keep c o (fun z=>jR p k h2 n d z) g
 have E:∀c∈F.O₀,H' c=H c:=fun c d=>by obtain⟨o,g,_⟩:=st.live c (bb _ d);rw[g];exact keep c o (fun z=>B c z d) g
 have ap:∀c∈f,(∀j l,j≠i->W[j]? = some l->c∉l)/\c∉F.O₀:=fun c d=>by
  rcases w c d with q | q
  ·exact⟨fun j l n k z=>jR p h2 k (Ne.symm n) q z,B c q⟩
  ·refine⟨fun j l _ k z=>?_,fun z=>?_⟩
   ·obtain⟨o,g,_⟩:=st.live c (bf _ (bM k z));rw[q] at g;cases g
   ·obtain⟨o,g,_⟩:=st.live c (bb _ z);rw[q] at g;cases g
 have frz:∀c o,c∉W.flatten++F.O₀->H c=some o->H' c=some o:=fun c o d I=>keep c o (fun z=>d (bf _ (bM h2 z))) I;have x:aP (W.flatten++F.O₀) H ((W.set i f).flatten++F.O₀) H':=⟨frz,fun c h=>by
  rcases List.mem_append.mp h with h | h
  ·rcases fc h with h | ⟨j,l,_,k,y⟩
   ·exact(w c h).imp (fun z=>bf _ (bM h2 z)) id
   ·exact .inl (bf _ (bM k y))
  ·exact .inl (bb _ h)⟩
 have r:∀c∈f,c∈(W.set i f).flatten++F.O₀:=fun c d=>bf _ (zR u d);have s:=(N _ _ x rfl r).2;obtain⟨C,J⟩:=st.put (H':=H') (i:=i) (v:=.ref a) (c:=.own io t) (fp:=f) A D E frz M ap (fun c d=>(w c d).imp (fun z=>bM h2 z) id) (fun c d=>s.live c d) (fun _=>⟨a,rfl,s⟩) (fun Q z=>by cases z;have:=st.io i b e;rw[h1] at this;exact(Option.some.inj (Option.some.inj this)));have L:Y.set i (some (.ref a))=Y:=by
  apply List.ext_getElem?;intro j
  by_cases n:j=i
  ·subst n;rw[List.getElem?_set_self (List.getElem?_eq_some_iff.mp h1).1,h1]
  ·rw[List.getElem?_set_ne (Ne.symm n)]
 rw[L] at C;refine⟨_,⟨_,C,rfl⟩,J,fun c d=>?_⟩;rcases List.mem_append.mp d with d | d
 ·rcases fc d with d | ⟨j,l,_,k,y⟩
  ·exact .inl d
  ·exact .inr (bf _ (bM k y))
 ·exact .inr (bb _ d)
theorem aC.freeze(st:aC K F H Y U O){i:Nat}{b:List PyData}(e:U[i]? = some (some (.own false (.l b)))) :
  ∃v O',Y[i]? = some (some v)/\aC K F H Y (U.set i (some (.dat (.list b)))) O'/\aP O H O' H/\DV (ay O' H) v (.list b):=by
 obtain⟨W,st,rfl⟩:=st;obtain⟨v,u,h1,h2,a,rfl,rfl,w,h3,o⟩:=st.at_ i _ e;have p:i<U.length:=(List.getElem?_eq_some_iff.mp e).1;have f:W.flatten.Nodup:=(List.nodup_append.mp st.nd).1;have g:a∉(W.set i []).flatten++F.O₀:=fun z=>by
  rcases List.mem_append.mp z with z | z
  ·rcases fc z with z | ⟨j,l,d,q,r⟩
   ·cases z
   ·exact jR f h2 q (Ne.symm d) List.mem_cons_self r
  ·exact(List.nodup_append.mp st.nd).2.2 a (bM h2 List.mem_cons_self) a z rfl
 have k:aP (W.flatten++F.O₀) H ((W.set i []).flatten++F.O₀) H->DV (ay ((W.set i []).flatten++F.O₀) H) (.ref a) (.list b):=fun s=>.lst (ib h3 g) (aQ.mono s.hid o);obtain⟨m,n⟩:=st.put (H':=H) (i:=i) (v:=.ref a) (c:=.dat (.list b)) (fp:=[]) p (fun _ _ _ _ _ _=>rfl) (fun _ _=>rfl) (fun _ _ _ e=>e) List.nodup_nil (fun a h=>by cases h) (fun a h=>by cases h) (fun a h=>by cases h) (fun s=>k s) (fun _ z=>by cases z);have t:Y.set i (some (.ref a))=Y:=by
  apply List.ext_getElem?;intro j
  by_cases d:j=i
  ·subst d;rw[List.getElem?_set_self (List.getElem?_eq_some_iff.mp h1).1,h1]
  ·rw[List.getElem?_set_ne (Ne.symm d)]
 rw[t] at m;exact⟨_,_,h1,⟨_,m,rfl⟩,n,k n⟩
end
abbrev DT:=al->(PyData->al->Prop)->Prop
def Mn(t:DT):Prop:=∀U Q a,(∀d b,Q d b->a d b)->t U Q->t U a
noncomputable def gO(K:Frag)(F:Fx)(t:DT):TE:=fun Y H Q=>∃U O,aC K F H Y U O/\t U fun d c=>∀v a b,aC K F a Y c b->aP O H b a->DV (ay b a) v d->Q v a
structure DE (X:Cx) (F:Fx) (e:Expr) (t:DT):Prop where
 mn:Mn t
 pe:PE X e (gO X.K F t)
theorem _root_.L2.PE.imp{X:Cx}{e:Expr}{t t':TE}(h:PE X e t)(k:∀Y H Q,t' Y H Q->t Y H Q):PE X e t':=fun a s Y H Q I q=>h a s Y H Q I (k Y H Q q)
theorem _root_.L2.PT.imp{X:Cx}{e:Expr}{t t':TT}(h:PT X e t)(k:∀Y H Q,t' Y H Q->t Y H Q):PT X e t':=fun a s Y H Q I q=>h a s Y H Q I (k Y H Q q)
theorem _root_.L2.PS.imp{X:Cx}{e:Stmt}{t t':TS}(h:PS X e t)(k:∀D Y H,t' D Y H->t D Y H):PS X e t':=fun a s Y H D I q=>h a s Y H D I (k D Y H q)
theorem _root_.L2.PSs.imp{X:Cx}{e:List Stmt}{t t':TS}(h:PSs X e t)(k:∀D Y H,t' D Y H->t D Y H):PSs X e t':=fun a s Y H D I q=>h a s Y H D I (k D Y H q)
section
variable{X:Cx}{F:Fx}{a b e:Expr}{ta tb:DT}{pos:Pos}
noncomputable def dC(d:PyData):DT:=fun U Q=>Q d U
noncomputable def dV(i:Nat):DT:=fun U Q=>(∃d,U[i]? = some (some (.dat d))/\Q d U)\/∃c,U[i]? = some (some (.own false (.l c)))/\Q (.list c) (U.set i (some (.dat (.list c))))
theorem Io{d:PyData}:Mn (dC d):=fun _ _ _ h q=>h _ _ q
theorem nO{d:PyData}{v:V}(h:PE X e (tC v))(hd:∀H,DV H v d):DE X F e (dC d):=
 ⟨Io,h.imp fun Y H Q ⟨U,O,st,q⟩=>q v H O st .refl (hd _)⟩
theorem au{i j}:DE X F (.Constant (.int i) j pos) (dC (.int i)):=nO ug fun _=>.int i
theorem fU{i j}:DE X F (.Constant (.bool i) j pos) (dC (.bool i)):=nO EJ fun _=>.bl i
theorem cM{j}:DE X F (.Constant .none j pos) (dC .none):=nO yB fun _=>.non
theorem bE{x j}:DE X F (.Constant (.str x) j pos) (dC (.str x)):=nO yC fun _=>.str x
theorem Ip(i:Nat){x:Str}(h:PE X (.Name x pos) (ca i)):DE X F (.Name x pos) (dV i):=
 ⟨fun _ _ _ k q=>q.imp (fun⟨d,e,q⟩=>⟨d,e,k _ _ q⟩) fun⟨d,e,q⟩=>⟨d,e,k _ _ q⟩,h.imp fun Y H Q ⟨U,O,st,q⟩=>by
  rcases q with⟨d,e,q⟩ | ⟨ds,e,q⟩
  ·obtain⟨v,h1,h2⟩:=st.dat e;exact⟨v,h1,q v H O st .refl h2⟩
  ·obtain⟨v,c,h1,h2,h3,f⟩:=st.freeze e;exact⟨v,h1,q v H c h2 h3 f⟩⟩
abbrev D2:=PyData->PyData->(PyData->Prop)->Prop
noncomputable def cQ(f:D2)(ta tb:DT):DT:=fun U Q=>ta U fun x c=>tb c fun y g=>f x y fun d=>Q d g
structure fe (r:R2) (f:D2):Prop where
 mn:∀x y Q Q',(∀d,Q d->Q' d)->f x y Q->f x y Q'
 ok:∀(O:List Addr) (H:Hp) (u v:V) (x y:PyData) (Q:VK),(∀p,H p=none->p∉O)->DV (ay O H) u x->DV (ay O H) v y->f x y (fun d=>∀w H',bV H H'->DV (ay O H') w d->Q w H')->r u v H Q
theorem qp{r:R2}{f:D2}{ta tb:DT}(o:fe r f)(k:Mn ta)(D:Mn tb){K:Frag}:∀Y H Q,gO K F (cQ f ta tb) Y H Q->nH r (gO K F ta) (gO K F tb) Y H Q:=fun Y H Q ⟨U,O,st,q⟩=>by refine⟨U,O,st,k _ _ _ (fun x l m v1 E n g p s=>?_) q⟩;refine⟨l,n,g,D _ _ _ (fun y G t u v h c i z=>?_) m⟩;refine o.ok h v v1 u x y Q c.nofree (DV.mono i.hid s) z (o.mn _ _ _ _ (fun d A w B j C=>?_) t);exact A w B h (c.grow j) (p.trans (i.trans (.same j))) C
theorem nP{r:R2}{f:D2}(o:fe r f)(c:Mn ta)(i:Mn tb):Mn (cQ f ta tb):=fun _ _ _ k q=>c _ _ _ (fun _ _ d=>i _ _ _ (fun _ _ g=>o.mn _ _ _ _ (fun _ h=>k _ _ h) g) d) q
theorem kT{op:Operator}{r:R2}{f:D2}(g:cK X (binaryOp op) r)(o:fe r f)(c:DE X F a ta)(d:DE X F b tb):DE X F (.BinOp a op b pos) (cQ f ta tb):=
 ⟨nP o c.mn d.mn,(FU g c.pe d.pe).imp (qp o c.mn d.mn)⟩
theorem mq{op:CmpOp}{r:R2}{f:D2}(h:cK X (compareOp op) r)(o:fe r f)(c:DE X F a ta)(d:DE X F b tb)(g:behindInMarks op b=false):DE X F (.Compare a [op] [b] pos) (cQ f ta tb):=
 ⟨nP o c.mn d.mn,(Gf h c.pe d.pe g).imp (qp o c.mn d.mn)⟩
theorem Iq{r:R2}{f:D2}(g:jt X r)(o:fe r f)(c:DE X F a ta)(d:DE X F b tb)(h:nK b):DE X F (.Subscript a b pos) (cQ f ta tb):=
 ⟨nP o c.mn d.mn,(uA g c.pe d.pe h).imp (qp o c.mn d.mn)⟩
noncomputable def fI(C:Int->Int->Prop)(g:Int->Int->PyData):D2:=fun x y Q=>∃i j,x=.int i/\y=.int j/\C i j/\Q (g i j)
theorem uR{C:Int->Int->Prop}{g:Int->Int->V}{g':Int->Int->PyData}(hg:∀i j H,DV H (g i j) (g' i j)):fe (rI C g) (fI C g') where
 mn:=fun _ _ _ _ k ⟨i,j,e1,e2,c,q⟩=>⟨i,j,e1,e2,c,k _ q⟩
 ok:=fun O H u v x y Q hO h1 h2 ⟨i,j,e1,e2,c,q⟩=>by subst e1 e2;exact⟨i,j,h1.int_inv,h2.int_inv,c,q _ H (fun _ _ h=>h) (hg i j _)⟩
theorem jS{g:Int->Int->V}{g':Int->Int->PyData}(hg:∀i j H,DV H (g i j) (g' i j)):fe (iF g) (fI (fun _ _=>True) g') where
 mn:=fun _ _ _ _ k ⟨i,j,e1,e2,c,q⟩=>⟨i,j,e1,e2,c,k _ q⟩
 ok:=fun O H u v x y Q hO h1 h2 ⟨i,j,e1,e2,_,q⟩=>by subst e1 e2;exact⟨i,j,h1.int_inv,h2.int_inv,q _ H (fun _ _ h=>h) (hg i j _)⟩
noncomputable def nQ(neg:Bool):D2:=fun x y Q=>SeqAt.shaped x=true/\SeqAt.shaped y=true/\Q (.bool (PyData.eqv x y != neg))
theorem uS{neg:Bool}:fe (uP neg) (nQ neg) where
 mn:=fun _ _ _ _ k ⟨e1,e2,q⟩=>⟨e1,e2,k _ q⟩
 ok:=fun O H u v x y Q hO h1 h2 ⟨e1,e2,q⟩=>⟨x,y,DV.mono ql h1,DV.mono ql h2,e1,e2,q _ H (fun _ _ h=>h) (.bl _)⟩
@[simp] noncomputable def isNone:PyData->Bool
 | .none=>true
 | _=>false
noncomputable def qr:D2:=fun x y Q=>y=.none/\Q (.bool (isNone x))
noncomputable def uT:D2:=fun x y Q=>y=.none/\Q (.bool (!isNone x))
theorem zS{H:Hp}{v:V}{d:PyData}(h:DV H v d):decide (v=.non)=isNone d:=by cases h<;>first | rfl | (exact decide_eq_false (fun z=>by cases z))
theorem zT:fe (fun x y H Q=>y=.non/\Q (.bl (decide (x=.non))) H) qr where
 mn:=fun _ _ _ _ k ⟨e,q⟩=>⟨e,k _ q⟩
 ok:=fun O H u v x y Q hO h1 h2 ⟨e,q⟩=>by subst e;exact⟨h2.non_inv,by rw[zS h1];exact q _ H (fun _ _ h=>h) (.bl _)⟩
theorem zU:fe (fun x y H Q=>y=.non/\Q (.bl (!decide (x=.non))) H) uT where
 mn:=fun _ _ _ _ k ⟨e,q⟩=>⟨e,k _ q⟩
 ok:=fun O H u v x y Q hO h1 h2 ⟨e,q⟩=>by subst e;exact⟨h2.non_inv,by rw[zS h1];exact q _ H (fun _ _ h=>h) (.bl _)⟩
noncomputable def zV:D2:=fun x y Q=>∃c i d,x=.tuple c/\y=.int i/\bK c i=some d/\Q d
noncomputable def zW:D2:=fun x y Q=>∃c i d,x=.list c/\y=.int i/\bK c i=some d/\Q d
theorem zX{H:Hp}{f:List V}{c:List PyData}{i:Int}{d:PyData}(h:aQ H f c)(e:bK c i=some d):∃v,bK f i=some v/\DV H v d:=by
 unfold bK at e ⊢;rw[h.length];cases q:dh c.length i with
 | none=>rw[q] at e;cases e
 | some j=>rw[q] at e;exact h.get e
theorem zY{K:Frag}:fe (uC K) zV where
 mn:=fun _ _ _ _ k ⟨ds,i,d,e1,e2,e3,q⟩=>⟨ds,i,d,e1,e2,e3,k _ q⟩
 ok:=fun O H u v x y Q hO h1 h2 ⟨ds,i,d,e1,e2,e3,q⟩=>by subst e1 e2;obtain⟨a,xs,rfl,ha,hd⟩:=h1.tup_inv;obtain⟨w,ew,hw⟩:=zX hd e3;exact⟨a,xs,i,w,rfl,h2.int_inv,.inl (jP ha).1,ew,q w H (fun _ _ h=>h) hw⟩
theorem zZ{K:Frag}:fe (uB K) zW where
 mn:=fun _ _ _ _ k ⟨ds,i,d,e1,e2,e3,q⟩=>⟨ds,i,d,e1,e2,e3,k _ q⟩
 ok:=fun O H u v x y Q hO h1 h2 ⟨ds,i,d,e1,e2,e3,q⟩=>by subst e1 e2;obtain⟨a,xs,rfl,ha,hd⟩:=h1.lst_inv;obtain⟨w,ew,hw⟩:=zX hd e3;exact⟨a,xs,i,w,rfl,h2.int_inv,.of (cP ha).1,ew,q w H (fun _ _ h=>h) hw⟩
theorem kU{O:List Addr}{H:Hp}{p:Addr}{c:List V}{d:List PyData}(f:H p=none)(g:p∉O)(h:aQ (ay O H) c d):DV (ay O (aM H p (.lst c))) (.ref p) (.list d):=
 .lst (ib cj g) (aQ.mono (jQ (bP f)) h)
theorem qt{O:List Addr}{H:Hp}{p:Addr}{c:List V}{d:List PyData}(f:H p=none)(g:p∉O)(h:aQ (ay O H) c d):DV (ay O (aM H p (.tup c))) (.ref p) (.tuple d):=
 .tup (.inl (ib cj g)) (aQ.mono (jQ (bP f)) h)
noncomputable def uU:D2:=fun x y Q=>∃d c,x=.list d/\y=.list c/\d.length+c.length<=sizeLine/\Q (.list (d++c))
theorem Ir:fe zp uU where
 mn:=fun _ _ _ _ k ⟨ds,es,e1,e2,e3,q⟩=>⟨ds,es,e1,e2,e3,k _ q⟩
 ok:=fun O H u v x y Q hO h1 h2 ⟨ds,es,e1,e2,e3,q⟩=>by subst e1 e2;obtain⟨a,xs,rfl,ha,hd⟩:=h1.lst_inv;obtain⟨b,ys,rfl,hb,he⟩:=h2.lst_inv;refine⟨a,b,xs,ys,rfl,rfl,(cP ha).1,(cP hb).1,by rw[hd.length,he.length];exact e3,fun p hp=>q _ _ (bP hp) (kU hp (hO p hp) (hd.append he))⟩
end
theorem jT{A B:Prop}(h:if true=true then A else B):A:=by rw[if_pos rfl] at h;exact h
theorem jU{A B:Prop}(h:if false=true then A else B):B:=by rw[if_neg Bool.false_ne_true] at h;exact h
abbrev dI:=al->(List PyData->al->Prop)->Prop
def qu(t:dI):Prop:=∀U Q a,(∀d b,Q d b->a d b)->t U Q->t U a
noncomputable def Aa(K:Frag)(F:Fx)(t:dI):TA:=fun Y H Q=>∃U O,aC K F H Y U O/\t U fun e d=>∀c a b,aC K F a Y d b->aP O H b a->aQ (ay b a) c e->Q c a
structure DA (X:Cx) (F:Fx) (es:List Expr) (t:dI):Prop where
 mn:qu t
 pa:PA X es (Aa X.K F t)
theorem _root_.L2.PA.imp{X:Cx}{e:List Expr}{t t':TA}(h:PA X e t)(k:∀Y H Q,t' Y H Q->t Y H Q):PA X e t':=fun pos a s Y H Q I q=>h pos a s Y H Q I (k Y H Q q)
section
variable{X:Cx}{F:Fx}{a b e c:Expr}{es:List Expr}{ta tb tc:DT}{tA:dI}{pos:Pos}
noncomputable def Iu:dI:=fun U Q=>Q [] U
noncomputable def Iw(ta:DT)(f:dI):dI:=fun U Q=>ta U fun d g=>f g fun i h=>Q (d::i) h
theorem Ix:DA X F [] Iu:=⟨fun _ _ _ k q=>k _ _ q,er.imp fun Y H Q ⟨U,O,st,q⟩=>q [] H O st .refl .nil⟩
theorem Iy(f:DE X F e ta)(g:DA X F es tA)(n:starEach (e::es) X.env=(false,eval e X.env)::starEach es X.env:=by rfl):DA X F (e::es) (Iw ta tA):=
 ⟨fun _ _ _ k q=>f.mn _ _ _ (fun _ _ h=>g.mn _ _ _ (fun _ _ i=>k _ _ i) h) q,(dE f.pe g.pa n).imp fun Y H Q ⟨U,O,st,q⟩=>
  ⟨U,O,st,f.mn _ _ _ (fun d o h v y p j r s=>⟨o,p,j,g.mn _ _ _ (fun A z i t u w l m x=>i (v::t) u w l (r.trans m) (.cons (DV.mono m.hid s) x)) h⟩) q⟩⟩
noncomputable def Iz(t:dI):DT:=fun U Q=>t U fun d f=>d.length<=sizeLine/\Q (.tuple d) f
noncomputable def IA(t:dI):DT:=fun U Q=>t U fun d f=>d.length<=sizeLine/\Q (.list d) f
theorem IB{j}(h:DA X F es tA):DE X F (.Tuple es j pos) (Iz tA):=
 ⟨fun _ _ _ k q=>h.mn _ _ _ (fun _ _ d=>⟨d.1,k _ _ d.2⟩) q,(uy h.pa).imp fun Y H Q ⟨U,O,st,q⟩=>
  ⟨U,O,st,h.mn _ _ _ (fun s n d o r l f m i=>⟨by rw[i.length];exact d.1,fun p g=>d.2 _ _ l (f.grow (bP g)) (m.trans (.same (bP g))) (qt g (f.nofree p g) i)⟩) q⟩⟩
theorem IC(h:DA X F es tA):DE X F (.List es pos) (IA tA):=
 ⟨fun _ _ _ k q=>h.mn _ _ _ (fun _ _ d=>⟨d.1,k _ _ d.2⟩) q,(qd h.pa).imp fun Y H Q ⟨U,O,st,q⟩=>
  ⟨U,O,st,h.mn _ _ _ (fun r m d n o j f l i=>⟨by rw[i.length];exact d.1,fun p g=>d.2 _ _ j (f.grow (bP g)) (l.trans (.same (bP g))) (kU g (f.nofree p g) i)⟩) q⟩⟩
noncomputable def ID(ta:DT):DT:=fun U Q=>ta U fun d f=>∃i,d=.int i/\Q (.int (-i)) f
theorem IE(f:DE X F a ta):DE X F (.UnaryOp .USub a pos) (ID ta):=
 ⟨fun _ _ _ k q=>f.mn _ _ _ (fun _ _ ⟨i,e,q⟩=>⟨i,e,k _ _ q⟩) q,(FV Ge f.pe).imp fun Y H Q ⟨U,O,st,q⟩=>
  ⟨U,O,st,f.mn _ _ _ (fun d o ⟨i,e,h⟩ v j l g m n=>by subst e;exact⟨i,n.int_inv,h _ j l g m (.int _)⟩) q⟩⟩
noncomputable def IF(ta:DT):DT:=fun U Q=>ta U fun d f=>∃b,d=.bool b/\Q (.bool (!b)) f
theorem IG(f:DE X F a ta):DE X F (.UnaryOp .Not a pos) (IF ta):=
 ⟨fun _ _ _ k q=>f.mn _ _ _ (fun _ _ ⟨i,e,q⟩=>⟨i,e,k _ _ q⟩) q,(Fb f.pe).imp fun Y H Q ⟨U,O,st,q⟩=>
  ⟨U,O,st,f.mn _ _ _ (fun d o ⟨i,e,h⟩ v j l g m n=>by subst e;exact⟨i,n.bl_inv,h _ j l g m (.bl _)⟩) q⟩⟩
noncomputable def IH(ta tb:DT):DT:=fun U Q=>ta U fun d f=>∃b,d=.bool b/\if b=true then tb f Q else Q (.bool false) f
noncomputable def II(ta tb:DT):DT:=fun U Q=>ta U fun d f=>∃b,d=.bool b/\if b=true then Q (.bool true) f else tb f Q
theorem IJ{op}(h:DE X F a ta):DE X F (.BoolOp op [a] pos) ta:=⟨h.mn,EY h.pe⟩
theorem IK{rest:List Expr}(g:DE X F a ta)(j:DE X F (.BoolOp .And (b::rest) pos) tb):DE X F (.BoolOp .And (a::b::rest) pos) (IH ta tb):=
 ⟨fun _ _ _ k q=>g.mn _ _ _ (fun _ _ ⟨i,e,q⟩=>⟨i,e,by cases i<;>first | exact k _ _ q | exact j.mn _ _ _ k q⟩) q,(EZ g.pe j.pe).imp fun Y H Q ⟨U,O,st,q⟩=>
  ⟨U,O,st,g.mn _ _ _ (fun d o ⟨i,e,l⟩ v p m f n r=>by
   subst e;refine⟨i,r.bl_inv,?_⟩;cases i with
   | true=>exact eX ⟨o,m,f,j.mn _ _ _ (fun d z s w t u h x y=>s w t u h (n.trans x) y) (jT l)⟩
   | false=>exact eW (jU l _ p m f n (.bl _))) q⟩⟩
theorem IL{rest:List Expr}(g:DE X F a ta)(j:DE X F (.BoolOp .Or (b::rest) pos) tb):DE X F (.BoolOp .Or (a::b::rest) pos) (II ta tb):=
 ⟨fun _ _ _ k q=>g.mn _ _ _ (fun _ _ ⟨i,e,q⟩=>⟨i,e,by cases i<;>first | exact k _ _ q | exact j.mn _ _ _ k q⟩) q,(Fa g.pe j.pe).imp fun Y H Q ⟨U,O,st,q⟩=>
  ⟨U,O,st,g.mn _ _ _ (fun d o ⟨i,e,l⟩ v p m f n r=>by
   subst e;refine⟨i,r.bl_inv,?_⟩;cases i with
   | false=>exact eW ⟨o,m,f,j.mn _ _ _ (fun d z s w t u h x y=>s w t u h (n.trans x) y) (jU l)⟩
   | true=>exact eX (jT l _ p m f n (.bl _))) q⟩⟩
noncomputable def uV(p f:Int->Int->Bool)(ta tb tc:DT):DT:=fun U Q=>ta U fun x g=>tb g fun y d=>∃i j,x=.int i/\y=.int j/\if p i j=true then tc d (fun z h=>∃k,z=.int k/\Q (.bool (f j k)) h) else Q (.bool false) d
theorem IM{op f:CmpOp}{p G:Int->Int->Bool}(ho:cK X (compareOp op) (iF fun i j=>.bl (p i j)))(m:cK X (compareOp f) (iF fun i j=>.bl (G i j)))(n:DE X F a ta)(E:DE X F b tb)(o:DE X F c tc)
  (N:lastMarks [op,f] [b,c]=false:=by with_unfolding_all rfl):DE X F (.Compare a [op,f] [b,c] pos) (uV p G ta tb tc):=
 ⟨fun _ _ _ k q=>n.mn _ _ _ (fun _ _ r=>E.mn _ _ _ (fun _ _ ⟨i,j,s,t,d⟩=>⟨i,j,s,t,by
   by_cases h:p i j=true
   ·rw[if_pos h] at d ⊢;exact o.mn _ _ _ (fun _ _ ⟨l,e,A⟩=>⟨l,e,k _ _ A⟩) d
   ·rw[if_neg h] at d ⊢;exact k _ _ d⟩) r) q,
  (Gi ho m n.pe E.pe o.pe N).imp fun Y H Q ⟨U,O,st,q⟩=>
  ⟨U,O,st,n.mn _ _ _ (fun x R r v H1 S B I T=>⟨R,S,B,E.mn _ _ _ (fun y Z ⟨i,j,s,t,d⟩ w H2 J g C L=>by
   subst s t;refine⟨i,j,(DV.mono C.hid T).int_inv,L.int_inv,p i j,rfl,?_⟩
   by_cases h:p i j=true
   ·rw[if_pos h] at d ⊢;exact⟨Z,J,g,o.mn _ _ _ (fun z U3 ⟨l,e,A⟩ u H3 O3 D M d3=>by subst e;exact⟨j,l,(DV.mono M.hid L).int_inv,d3.int_inv,A _ H3 O3 D (I.trans (C.trans M)) (.bl _)⟩) d⟩
   ·rw[if_neg h] at d ⊢;exact d _ H2 J g (I.trans C) (.bl _)) r⟩) q⟩⟩
end
abbrev cX:=al->(Bool->al->Prop)->Prop
def jV(t:cX):Prop:=∀U Q a,(∀d b,Q d b->a d b)->t U Q->t U a
noncomputable def kW(K:Frag)(F:Fx)(t:cX):TT:=fun Y H Q=>∃U O,aC K F H Y U O/\t U fun b d=>∀a c,aC K F a Y d c->aP O H c a->Q b a
structure DB (X:Cx) (F:Fx) (e:Expr) (t:cX):Prop where
 mn:jV t
 pt:PT X e (kW X.K F t)
section
variable{X:Cx}{F:Fx}{a b e c:Expr}{ta tb tc:DT}{tA tB:cX}{pos:Pos}
noncomputable def fV(ta:DT):cX:=fun U Q=>ta U fun d f=>∃b,d=.bool b/\Q b f
theorem Ab(h:Mn ta):jV (fV ta):=fun _ _ _ k q=>h _ _ _ (fun _ _ ⟨b,e,d⟩=>⟨b,e,k _ _ d⟩) q
theorem Ac{K:Frag}(h:Mn ta):∀Y H Q,kW K F (fV ta) Y H Q->gO K F ta Y H fun x g=>∃k,x=.bl k/\Q k g:=fun Y H Q ⟨U,O,st,q⟩=>⟨U,O,st,h _ _ _ (fun d o ⟨b,e,i⟩ v j l f m n=>by subst e;exact⟨b,n.bl_inv,i j l f m⟩) q⟩
theorem di(h:DE X F e ta)(d:∀whole,isTrue e X.env whole=(do let v <-whole;standAt e.pos;holding [v] (truthy v)):=by intro _;rfl):DB X F e (fV ta):=⟨Ab h.mn,(EK h.pe d).imp (Ac h.mn)⟩
theorem kX{op:CmpOp}{r:R2}{f:D2}(i:cK X (compareOp op) r)(o:fe r f)(d:DE X F a ta)(g:DE X F b tb)(h:behindInMarks op b=false):DB X F (.Compare a [op] [b] pos) (fV (cQ f ta tb)):=
 ⟨Ab (nP o d.mn g.mn),(yQ i d.pe g.pe h).imp fun Y H Q q=>qp o d.mn g.mn Y H _ (Ac (nP o d.mn g.mn) Y H Q q)⟩
noncomputable def IP(t:cX):cX:=fun U Q=>t U fun b d=>Q (!b) d
theorem IQ(h:DB X F a tA):DB X F (.UnaryOp .Not a pos) (IP tA):=⟨fun _ _ _ k q=>h.mn _ _ _ (fun _ _ q=>k _ _ q) q,(ET h.pt).imp fun Y H Q ⟨U,O,st,q⟩=>⟨U,O,st,h.mn _ _ _ (fun b l f g i d j=>f g i d j) q⟩⟩
structure DW (X:Cx) (F:Fx) (e:Expr) (t:cX):Prop where
 mn:jV t
 pw:PW X e (kW X.K F t)
theorem _root_.L2.PW.imp{X:Cx}{e:Expr}{t t':TT}(h:PW X e t)(k:∀Y H Q,t' Y H Q->t Y H Q):PW X e t':=fun f d s Y H Q I q=>h f d s Y H Q I (k Y H Q q)
theorem DW.db{t:cX}(h:DW X F e t):DB X F e t:=⟨h.mn,h.pw.pt⟩
noncomputable def IR(t u:cX):cX:=fun U Q=>t U fun b d=>if b=true then u d Q else Q false d
noncomputable def IS(t u:cX):cX:=fun U Q=>t U fun b d=>if b=true then Q true d else u d Q
theorem IT(h:DB X F a tA):DW X F (.BoolOp .And [a] pos) tA:=⟨h.mn,EO h.pt⟩
theorem IU(h:DB X F a tA):DW X F (.BoolOp .Or [a] pos) tA:=⟨h.mn,EQ h.pt⟩
theorem IV{rest:List Expr}(f:DB X F a tA)(h:DW X F (.BoolOp .And (b::rest) pos) tB):DW X F (.BoolOp .And (a::b::rest) pos) (IR tA tB):=
 ⟨fun _ _ _ k q=>f.mn _ _ _ (fun b _ q=>by cases b<;>first | exact k _ _ q | exact h.mn _ _ _ k q) q,(ER f.pt h.pw).imp fun Y H Q ⟨U,O,st,q⟩=>
  ⟨U,O,st,f.mn _ _ _ (fun b m i n j d l=>by
   cases b with
   | true=>exact eX ⟨m,j,d,h.mn _ _ _ (fun b t o p r g s=>o p r g (l.trans s)) (jT i)⟩
   | false=>exact eW (jU i n j d l)) q⟩⟩
theorem IW{rest:List Expr}(f:DB X F a tA)(h:DW X F (.BoolOp .Or (b::rest) pos) tB):DW X F (.BoolOp .Or (a::b::rest) pos) (IS tA tB):=
 ⟨fun _ _ _ k q=>f.mn _ _ _ (fun b _ q=>by cases b<;>first | exact k _ _ q | exact h.mn _ _ _ k q) q,(ES f.pt h.pw).imp fun Y H Q ⟨U,O,st,q⟩=>
  ⟨U,O,st,f.mn _ _ _ (fun b m i n j d l=>by
   cases b with
   | false=>exact eW ⟨m,j,d,h.mn _ _ _ (fun b t o p r g s=>o p r g (l.trans s)) (jU i)⟩
   | true=>exact eX (jT i n j d l)) q⟩⟩
noncomputable def IX(t:cX)(ta tb:DT):DT:=fun U Q=>t U fun b d=>if b=true then ta d Q else tb d Q
theorem IY(h:DB X F c tA)(i:DE X F a ta)(p:DE X F b tb):DE X F (.IfExp c a b pos) (IX tA ta tb):=
 ⟨fun _ _ _ k q=>h.mn _ _ _ (fun b _ q=>by cases b<;>first | exact i.mn _ _ _ k q | exact p.mn _ _ _ k q) q,(Fd h.pt i.pe p.pe).imp fun Y H Q ⟨U,O,st,q⟩=>
  ⟨U,O,st,h.mn _ _ _ (fun b r s x t g u=>by
   cases b with
   | true=>exact eX ⟨r,t,g,i.mn _ _ _ (fun d w j v l m f n o=>j v l m f (u.trans n) o) (jT s)⟩
   | false=>exact eW ⟨r,t,g,p.mn _ _ _ (fun d w j v l m f n o=>j v l m f (u.trans n) o) (jU s)⟩) q⟩⟩
end
abbrev DN:=List PyData->(PyData->Prop)->Prop
structure jw (r:List V->Hp->VK->Prop) (f:DN):Prop where
 mn:∀xs Q Q',(∀d,Q d->Q' d)->f xs Q->f xs Q'
 ok:∀(O:List Addr) (H:Hp) (vs:List V) (xs:List PyData) (Q:VK),(∀p,H p=none->p∉O)->aQ (ay O H) vs xs->f xs (fun d=>∀w H',bV H H'->DV (ay O H') w d->Q w H')->r vs H Q
noncomputable def nR(f:DN)(t:dI):DT:=fun U Q=>t U fun b a=>f b fun d=>Q d a
section
variable{X:Cx}{F:Fx}{e:Expr}{es:List Expr}{tA:dI}{pos p:Pos}{x:Str}{id T:String}{r:List V->Hp->VK->Prop}{f:DN}
theorem Ad{K:Frag}(o:jw r f)(h:qu tA):∀Y H Q,gO K F (nR f tA) Y H Q->uz r (Aa K F tA) Y H Q:=fun Y H Q ⟨U,O,st,q⟩=>⟨U,O,st,h _ _ _ (fun t u g i j b a k l=>o.ok b j i t Q a.nofree l (o.mn _ _ _ (fun d m w n c s=>m w n b (a.grow c) (k.trans (.same c)) s) g)) q⟩
theorem Ae(o:jw r f)(h:qu tA):Mn (nR f tA):=fun _ _ _ k q=>h _ _ _ (fun _ _ a=>o.mn _ _ _ (fun _ b=>k _ _ b) a) q
theorem jx(d:gL X (.builtin id) r)(o:jw r f)(g:Gl X x)(h:X.mg x=none)(i:bootBuiltins x=some (.builtin id))(a:DA X F (e::es) tA)(j:x≠"__name__":=by decide)(b:(x==("__debug__":Str))=false:=by decide)
  (k:starEach (e::es) X.env=(false,eval e X.env)::starEach es X.env:=by rfl) (c:(backTo pos (starEach es X.env)).any (·.1)=false:=by rfl):DE X F (.Call (.Name x p) (e::es) [] pos) (nR f tA):=
 ⟨Ae o a.mn,(mf d g h i a.pa j b k c).imp (Ad o a.mn)⟩
theorem uW(d:gL X (.type T) r)(o:jw r f)(g:Gl X x)(h:X.mg x=none)(i:bootBuiltins x=some (.type T))(a:DA X F (e::es) tA)(j:x≠"__name__":=by decide)(b:(x==("__debug__":Str))=false:=by decide)
  (k:starEach (e::es) X.env=(false,eval e X.env)::starEach es X.env:=by rfl) (c:(backTo pos (starEach es X.env)).any (·.1)=false:=by rfl):DE X F (.Call (.Name x p) (e::es) [] pos) (nR f tA):=
 ⟨Ae o a.mn,(zg d g h i a.pa j b k c).imp (Ad o a.mn)⟩
end
noncomputable def Af(n:String)(a:DT):DT:=fun U Q=>a U fun d c=>∃b,(∀K:Frag,kitOne K (.type (uQ d)) (.type n)=some b)/\Q (.bool b) c
section
variable{X:Cx}{F:Fx}{e:Expr}{ta:DT}{pos p p2:Pos}{T:String}{x:Str}
theorem iI(i:Gl X "isinstance")(j:X.mg "isinstance" = none)(h:DE X F e ta)(l:PE X (.Name x p2) (tC (.ty T)))
  (g:starEach [e,.Name x p2] X.env=(false,eval e X.env)::starEach [.Name x p2] X.env:=by rfl) (a:starEach [.Name x p2] X.env=(false,eval (.Name x p2) X.env)::starEach [] X.env:=by rfl) (c:(backTo pos (starEach [.Name x p2] X.env)).any (·.1)=false:=by rfl) :
  DE X F (.Call (.Name "isinstance" p) [e,.Name x p2] [] pos) (Af T ta):=
 ⟨fun _ _ _ k q=>h.mn _ _ _ (fun _ _ ⟨b,e,q⟩=>⟨b,e,k _ _ q⟩) q,
  (mf Ih i j (show bootBuiltins "isinstance" = some (.builtin "isinstance") by decide +kernel) (dE h.pe (dE l er a) g) (by decide) (by decide) g c).imp fun Y H Q ⟨U,O,st,q⟩=>
  ⟨U,O,st,h.mn _ _ _ (fun d t ⟨b,e,m⟩ v n o f r s=>⟨v,d,T,b,rfl,DV.mono ql s,e,m _ n o f r (.bl b)⟩) q⟩⟩
end
structure ExS (g:Heap) (H:Hp) (h:Heap) (a:Addr) (C:Value) (fl:Option Value):Prop where
 gh:∀b o,g.get? b=some o->∃o',h.get? b=some o'
 lo:g.get? a=none
 un:H a=none
 ob:∃oe vs a0,h.get? a=some oe/\oe.cls=C/\oe.data=.fields vs/\vs[0]? = some a0/\
  ((fl=none/\vs[1]? = some .none)\/∃T oT ts f,fl=some f/\vs[1]? = some (.ref T)/\g.get? T=none/\H T=none/\T≠a/\h.get? T=some oT/\oT.data=.fields ts/\ts[3]? = some f)
structure Ch (g:Heap) (H:Hp) (fs:List Addr) (h h':Heap):Prop where
 keep:∀b o,h.get? b=some o->((∃o',g.get? b=some o')\/H b≠none)->b∉fs->h'.get? b=some o
 slot:∀b o,b∈fs->h.get? b=some o->∃sl,h'.get? b=some { o with slots:=sl }
 there:∀b o,h.get? b=some o->∃o',h'.get? b=some o'
theorem Ch.refl{g:Heap}{H:Hp}{fs:List Addr}{h:Heap}:Ch g H fs h h:=⟨fun _ _ e _ _=>e,fun b o _ e=>⟨o.slots,e⟩,fun b o e=>⟨o,e⟩⟩
theorem Ch.trans{g:Heap}{H:Hp}{fs:List Addr}{h h1 h2:Heap}(x:Ch g H fs h h1)(y:Ch g H fs h1 h2):Ch g H fs h h2 where
 keep:=fun b o e q n=>y.keep b o (x.keep b o e q n) q n
 slot:=fun b o m e=>let⟨_,e1⟩:=x.slot b o m e;let⟨sl,e2⟩:=y.slot b _ m e1;⟨sl,e2⟩
 there:=fun b o e=>let⟨o1,e1⟩:=x.there b o e;y.there b o1 e1
theorem HOk.some_of{P:Program}{w:World}{H:Hp}{h:Heap}(k:HOk P w H h){b:Addr}(e:h.get? b=none):H b=none:=by
 cases q:H b with
 | none=>rfl
 | some u=>
  exfalso;have x:=k b u q;have:∀(u:HO),cq P w H h b u->∃o,h.get? b=some o:=by
   intro u
   induction u with
   | lst d=>exact fun⟨_,_,_,_,e⟩=>⟨_,e⟩
   | tup d=>exact fun⟨_,_,_,o,e,_⟩=>⟨_,e⟩
   | dK a=>exact fun⟨_,_,_,_,o,_,_,e,_⟩=>⟨_,e⟩
   | dT a=>exact fun⟨_,_,_,_,o,_,_,e,_⟩=>⟨_,e⟩
   | set S n=>exact fun⟨o,_,_,_,e,_⟩=>⟨_,e⟩
   | ins C g fs=>exact fun⟨_,_,_,e,_⟩=>⟨_,e⟩
   | own y=>exact fun⟨_,e⟩=>⟨_,e⟩
   | xd fs=>exact fun⟨_,⟨_,_,_,e,_⟩,_⟩=>⟨_,e⟩
   | rng lo i=>exact fun⟨_,_,_,e⟩=>⟨_,e⟩
   | frz ob u _=>exact fun⟨e,_⟩=>⟨_,e⟩
   | tbl j=>exact fun e=>⟨_,e⟩
   | met f y=>exact fun e=>⟨_,e⟩
   | ext φ=>exact fun⟨_,⟨_,e⟩,_⟩=>⟨_,e⟩
  obtain⟨o,c⟩:=this u x;rw[e] at c;cases c
theorem Ag{h base a:Heap}:∀{l:List Env},(∀b∈bI l,a.get? b=none)->h.FunFrames base l->h.FunFrames a l
 | [],_,_=>trivial
 | c::r,hb,⟨f,⟨L,o,d,_,ho,hd⟩,g⟩=>by
  have e:bI (c::r)=L::bI r:=by unfold bI;rw[List.filterMap_cons,d]
  exact⟨f,⟨L,o,d,hb L (by rw[e];exact List.mem_cons_self),ho,hd⟩,Ag (fun b h=>hb b (by rw[e];exact bN _ h)) g⟩
section
variable{P:Program}{w:World}{M:Model}{A:Around}{E:Value->Shared->Prop}{s:Shared}{g base:Heap}{H:Hp}{env:Env}{outer:List Env}{L a:Addr}{C fv:Value}{fl:Option Value}
theorem Ah{t:Obj}{u:Array Value}{head O:Value}{d:Bool}{Q:Unit->Shared->Prop}(v:A.frames=some (env::outer))(y:s.heap.FunFrames base (env::outer))(hf:env.frame=some L)(hk:∀b,s.heap.get? b=none->H b=none)
  (gh:∀b o,g.get? b=some o->∃i,s.heap.get? b=some i) (lo:g.get? a=none) (un:H a=none) (he:s.heap.get? a=some t) (hc:t.cls=C) (hd:t.data=.fields u) (B:1<u.size) (h0:u[0]? = some O)
  (h:∀f,Ch g H (bI (env::outer)) s.heap f->ExS g H f a C (some (rawInt L))->Q () { s with heap:=f }) :
  wpAny M A (do let x <-frameOf env;let pl <-entryPlaceOf L d;let b <-EntryCells.newEntry head x .none (rawInt L) .none pl;setField (.ref a) 1 b) Q E s:=by
 refine wpAny_entryW (base:=hideAll s.heap (a::bI (env::outer))) v (Ag (fun b l=>PySem.W.hideAll_none _ (bN _ l)) y) hf he (fun b o e=>PySem.W.of_hideAll _ e) (PySem.W.hideAll_none _ List.mem_cons_self) hd B h0 fun f ⟨k1,k2,k3,k4⟩=>?_;obtain⟨D,G,T,oT,R,S,⟨e2,I⟩,e3,e4,U,X,Y,Z,e9⟩:=k3;have m:∀b o,b∈bI (env::outer)->s.heap.get? b=some o->∃m,f.get? b=some { o with slots:=m }:=fun b o l e=>by obtain⟨_,i,c,J⟩:=y.mem l;rw[e] at c;cases c;exact k4 b o e J
 have kp:∀b o,s.heap.get? b=some o->b≠a->b∉bI (env::outer)->f.get? b=some o:=fun b o e p r=>k1 b o (hideAll_get _ e fun z=>(List.mem_cons.mp z).elim p r);have hT:g.get? T=none/\H T=none:=by
  cases q:s.heap.get? T with
  | some o=>
   exfalso
   by_cases j:T∈bI (env::outer)
   ·obtain⟨_,i,c,J⟩:=y.mem j;rw[q] at c;cases c;obtain⟨N,k⟩:=m T o j q;rw[Y] at k;cases k;exact J R Z
   ·rw[hideAll_get _ q (fun z=>(List.mem_cons.mp z).elim X j)] at U;cases U
  | none=>
   refine⟨?_,hk T q⟩;cases q2:g.get? T with
   | none=>rfl
   | some o=>obtain⟨i,c⟩:=gh T o q2;rw[q] at c;cases c
 have ch:Ch g H (bI (env::outer)) s.heap f:=⟨fun b o e q n=>kp b o e (fun z=>?_) n,fun b o l e=>m b o l e,fun b o e=>?_⟩
 ·refine h f ch ⟨fun b o e=>?_,lo,un,D,G,O,S,e2.trans hc,e3,I,.inr ⟨T,oT,R,_,rfl,e4,hT.1,hT.2,X,Y,Z,e9⟩⟩;obtain⟨i,c⟩:=gh b o e;exact ch.there b i c
 ·subst z;rcases q with⟨i,q⟩ | q
  ·rw[lo] at q;cases q
  ·exact q un
 ·by_cases r:b∈bI (env::outer)
  ·obtain⟨N,c⟩:=m b o r e;exact⟨_,c⟩
  ·by_cases p:b=a
   ·subst p;exact⟨_,S⟩
   ·exact⟨o,kp b o e p r⟩
theorem IZ{h:Heap}{l:List Env}{T:Addr}{d:Obj}{e:Array Value}{f:Obj->Obj}(i:h.FunFrames base l)(j:h.get? T=some d)(hd:d.data=.fields e):(h.update T f).FunFrames base l:=
 i.of_keeps fun b o c k=>⟨o,by rw[Heap.get?_update_other _ _ (fun z=>k e (by subst z;rw[j] at c;cases c;exact hd))];exact c,rfl⟩
theorem Ai{h:Heap}{fs:List Addr}{T:Addr}{c:Obj}{i:Array Value}{f:Array Value->Array Value}(j:h.get? T=some c)(hd:c.data=.fields i)(k:g.get? T=none)(l:H T=none)(d:T∉fs):Ch g H fs h (h.update T (Obj.mapFields f)):=by
 have self:(h.update T (Obj.mapFields f)).get? T=some (c.mapFields f):=Heap.get?_update_self _ j (Obj.isFreed_of_fields (Obj.data_mapFields hd f));refine⟨fun b o e q n=>?_,fun b o m e=>⟨o.slots,?_⟩,fun b o e=>?_⟩
 ·rw[Heap.get?_update_other _ _ (fun z=>?_)]
  ·exact e
  ·subst z;rcases q with⟨p,q⟩ | q
   ·rw[k] at q;cases q
   ·exact q l
 ·rw[Heap.get?_update_other _ _ (fun z=>d (by rw[z];exact m))];exact e
 ·by_cases z:b=T
  ·subst z;exact⟨_,self⟩
  ·exact⟨o,by rw[Heap.get?_update_other _ _ (Ne.symm z)];exact e⟩
theorem note_any{Q:Unit->Shared->Prop}(k:A.frames=some (env::outer))(t:s.heap.FunFrames base (env::outer))(u:env.frame=some L)(J:∀b,s.heap.get? b=none->H b=none)(x:ExS g H s.heap a C fl)
  (h:∀l,Ch g H (bI (env::outer)) s.heap l->ExS g H l a C (some (rawInt L))->Q () { s with heap:=l }):wpAny M A (noteFrame (.ref a) env) Q E s:=by
 obtain⟨I,lo,un,N,R,S,m,v,hd,y,U⟩:=x;unfold noteFrame;simp only[u];rcases U with⟨_,h1⟩ | ⟨T,X,O,f,_,h1,n,p,r,j,c,h3⟩
 ·refine aw (wpAny_field m hd h1 ?_);rw[if_neg (by decide)];exact Ah k t u J I lo un m v hd (Array.getElem?_eq_some_iff.mp h1).1 y h
 ·refine aw (wpAny_field m hd h1 ?_);rw[if_pos (show(Value.ref T != Value.none)=true from by simp)];refine aw (wpAny_field j c h3 ?_)
  by_cases d:(f==rawInt L)=true
  ·rw[if_pos d];have e:f=rawInt L:=by simpa using d
   subst e;exact bo (h s.heap .refl ⟨I,lo,un,N,R,S,m,v,hd,y,.inr ⟨T,X,O,_,rfl,h1,n,p,r,j,c,h3⟩⟩)
  ·rw[if_neg d];refine aw (wpAny_setField j c (Array.getElem?_eq_some_iff.mp h3).1 ?_);have B:T∉bI (env::outer):=fun z=>by obtain⟨_,D,i,Y⟩:=t.mem z;rw[j] at i;cases i;exact Y O c
   have G:=Ai (g:=g) (H:=H) (f:=(·.setIfInBounds 3 Value.none)) j c n p B;refine Ah (s:={ s with heap:=s.heap.update T (Obj.mapFields (·.setIfInBounds 3 Value.none)) }) k (IZ t j c) u (fun b e=>?_) (fun b o e=>?_) lo un ?_ v hd (Array.getElem?_eq_some_iff.mp h1).1 y fun l ch Z=>h l (G.trans ch) Z
   ·refine J b ?_;cases q:s.heap.get? b with
    | none=>rfl
    | some o=>obtain⟨D,i⟩:=G.there b o q;rw[show({ s with heap:=s.heap.update T (Obj.mapFields (·.setIfInBounds 3 Value.none)) }:Shared).heap=s.heap.update T (Obj.mapFields (·.setIfInBounds 3 Value.none)) from rfl] at e;rw[e] at i;cases i
   ·obtain⟨D,i⟩:=I b o e;exact G.there b D i
   ·show(s.heap.update T _).get? a=some N;rw[Heap.get?_update_other _ _ r];exact m
theorem flight_any{Q:Unit->Shared->Prop}{fs:List Addr}(m:Option Addr)(n:∀b∈fs,∃o,s.heap.get? b=some o/\∀p,o.data≠.fields p)(x:ExS g H s.heap a C (some fv))
  (h:∀q,Ch g H fs s.heap q->ExS g H q a C (some (m.elim Value.none fun f=>rawInt f))->Q () { s with heap:=q }):wpAny M A (setFlight (.ref a) m) Q E s:=by
 obtain⟨S,lo,un,y,p,B,t,D,hd,G,I⟩:=x;rcases I with⟨z,_⟩ | ⟨T,U,J,f,_,h1,d,i,j,l,c,h3⟩
 ·cases z
 ·unfold setFlight;refine aw (wpAny_field t hd h1 ?_);rw[if_pos (show(Value.ref T != Value.none)=true from by simp)];have r:T∉fs:=fun z=>by obtain⟨o,u,N⟩:=n T z;rw[l] at u;cases u;exact N J c
  have k:=(Array.getElem?_eq_some_iff.mp h3).1;have v:=Ai (g:=g) (H:=H) (f:=(·.setIfInBounds 3 (m.elim Value.none fun f=>rawInt f))) l c d i r;refine wpAny_setField l c k (h _ v ⟨fun b o e=>?_,lo,un,y,p,B,?_,D,hd,G,.inr ⟨T,_,_,_,rfl,h1,d,i,j,Heap.get?_update_self _ l (Obj.isFreed_of_fields (Obj.data_mapFields c _)),Obj.data_mapFields c _,?_⟩⟩)
  ·obtain⟨O,R⟩:=S b o e;exact v.there b O R
  ·rw[Heap.get?_update_other _ _ j];exact t
  ·simp[k]
theorem frames_some{h:Heap}{l:List Env}(c:h.FunFrames base l):∀b∈bI l,∃o,h.get? b=some o/\∀d,o.data≠.fields d:=fun b f=>let⟨_,o,e,n⟩:=c.mem f;⟨o,e,n⟩
theorem Ch.frames{fs:List Addr}{h d:Heap}{l:List Env}(c:Ch g H fs h d)(f:∀b∈bI l,b∈fs)(j:h.FunFrames base l):d.FunFrames base l:=by
 induction l with
 | nil=>trivial
 | cons env r k=>
  obtain⟨m,⟨L,o,i,n,ho,hd⟩,p⟩:=j;have e:bI (env::r)=L::bI r:=by unfold bI;rw[List.filterMap_cons,i]
  obtain⟨u,q⟩:=c.slot L o (f L (by rw[e];exact List.mem_cons_self)) ho;exact⟨m,⟨L,_,i,n,q,hd⟩,k (fun b t=>f b (by rw[e];exact bN _ t)) p⟩
theorem Aj{Q:Unit->Shared->Prop}(c:A.frames=some (env::outer))(e:s.heap.FunFrames base (env::outer))(i:env.frame=some L)(j:∀b,s.heap.get? b=none->H b=none)(x:ExS g H s.heap a C fl)
  (h:∀d,Ch g H (bI (env::outer)) s.heap d->ExS g H d a C (some .none)->Q () { s with heap:=d }):wpAny M A (leaving env (.ref a)) Q E s:=by
 unfold leaving;refine aw (note_any c e i j x fun n f k=>?_);refine flight_any (s:={ s with heap:=n }) (fs:=bI (env::outer)) none (frames_some (f.frames (fun _ h=>h) e)) k fun o l m=>h o (f.trans l) m
end
structure Cov (X:Cx) (pins:List (Addr×Obj)) (g:Heap):Prop where
 s0:∀b o,X.s₀.heap.get? b=some o->b∉X.ex->∃o',g.get? b=some o'
 loc:∃o,g.get? X.env.locals=some o
 cell:∀x c,X.env.cells.lookup x=some c->∃o,g.get? c=some o
 pin:∀p∈X.pn++pins,∃o,g.get? p.1=some o
section
variable{X:Cx}{pins:List (Addr×Obj)}{Y:St}{H:Hp}{s:Shared}{g h':Heap}
theorem _root_.L2.Inv.cov(I:Inv X pins Y H s):Cov X pins s.heap:=by
 refine⟨fun b o e n=>I.base.there b o e n,?_,fun x c e=>?_,fun p a=>⟨_,(I.pin p a).1⟩⟩
 ·obtain⟨m,⟨o,d,f,ho,_⟩,_⟩:=I.loc;exact⟨o,ho⟩
 ·obtain⟨v,o,ho,_⟩:=I.cell x c e;exact⟨o,ho⟩
theorem _root_.L2.Inv.stkIn(I:Inv X pins Y H s){b:Addr}(h:b∉bI X.stack):b∉X.fs:=by
 rcases I.ok.stk with e | ⟨e,a⟩
 ·rw[e] at h;exact h
 ·rw[e] at h;unfold bI at h;rw[List.filterMap_cons,a] at h;exact fun z=>h (bN _ z)
theorem _root_.L2.Inv.stkOut(I:Inv X pins Y H s){b:Addr}(h:b∉X.fs)(a:b≠X.env.locals):b∉bI X.stack:=fun z=>(List.mem_cons.mp (I.stkSub b z)).elim a h
theorem Ja{h h':Heap}{a:Addr}{m:Str->Option Value}(k:∀o,h.get? a=some o->∃b,h'.get? a=some { o with slots:=b })(c:h.Ns a m):h'.Ns a m:=by obtain⟨o,d,e,ho,hd,r⟩:=c;obtain⟨b,f⟩:=k o ho;exact⟨_,d,e,f,hd,r⟩
theorem _root_.L2.Inv.ch(I:Inv X pins Y H s)(C:Cov X pins g)(c:Ch g H (bI X.stack) s.heap h'):Inv X pins Y H { s with heap:=h' }:=by
 have M:∀b o,s.heap.get? b=some o->H b≠none->h'.get? b=some o:=fun b o e n=>c.keep b o e (.inr n) fun z=>n (I.stkFree b z);have G:∀x a,X.env.cells.lookup x=some a->∀o,s.heap.get? a=some o->∃A,h'.get? a=some A/\A.data=o.data:=fun x a e o h=>by
  by_cases t:a∈bI X.stack
  ·obtain⟨T,y⟩:=c.slot a o t h;exact⟨_,y,rfl⟩
  ·exact⟨o,c.keep a o h (.inl (C.cell x a e)) t,rfl⟩
 refine⟨I.ok,I.os,I.bare,⟨fun b o e n B w=>?_,fun b o e n B w=>?_,fun b o e n w=>I.base.free b o e n w,fun b o e w=>?_,I.base.tups,I.base.frzs,I.base.tbls⟩,?_,fun x a e=>?_,I.free,I.freeC,fun p J=>?_,fun b u e=>?_,I.len⟩
 ·have y:=I.base.keep b o e n B w;refine c.keep b o y (.inl (C.s0 b o e w)) (I.stkOut B fun z=>?_);have j:=I.ok.above;have f:b<X.s₀.heap.objs.size:=bq e;rw[z] at f;exact Nat.lt_irrefl _ (Nat.lt_of_lt_of_le f j)
 ·obtain⟨T,y⟩:=I.base.slot b o e n B w
  by_cases t:b∈bI X.stack
  ·obtain⟨E,N⟩:=c.slot b _ t y;exact⟨E,N⟩
  ·exact absurd B (I.stkIn t)
 ·obtain⟨O,y⟩:=I.base.there b o e w;exact c.there b O y
 ·obtain⟨m,Q,R⟩:=I.loc;refine⟨m,Ja (fun o h=>?_) Q,fun i x v j f D=>?_⟩
  ·by_cases t:X.env.locals∈bI X.stack
   ·exact c.slot _ o t h
   ·exact⟨o.slots,c.keep _ o h (.inl C.loc) t⟩
  ·obtain⟨u,r,l⟩:=R i x v j f D;refine⟨u,r,?_⟩;rcases l with l | ⟨k,a,e,o,h,hd⟩
   ·exact .inl l
   ·obtain⟨A,j,f⟩:=G x a e o h;exact .inr ⟨k,a,e,A,j,f.trans hd⟩
 ·obtain⟨v,o,h,hd⟩:=I.cell x a e;obtain⟨A,j,f⟩:=G x a e o h;exact⟨v,A,j,f.trans hd⟩
 ·obtain⟨j,f,D,L,S⟩:=I.pin p J;exact⟨c.keep _ _ j (.inl (C.pin p J)) (I.stkOut L D),f,D,L,S⟩
 ·refine(I.hok b u e).stay (fun d v hd q=>M d v q ?_) (fun _ q=>q) fun _ _ q=>q;rcases hd with rfl | hd
  ·rw[e];exact fun z=>by cases z
  ·rw[hd];exact fun z=>by cases z
noncomputable def ba(P:Program)(w:World):fC:=fun b H s E e c=>∃a C d,e=.ref a/\c.os=s.os/\AllBare c.gens/\Un (bI b) [] H d s.heap c.heap/\HOk P w d c.heap/\ExS s.heap d c.heap a C (some .none)/\E C none d
structure Fly (X:Cx) (pins:List (Addr×Obj)) (Y:St) (H:Hp) (s:Shared) (e:Value) (c:Str):Prop where
 inv:Inv X pins Y H s
 ex:∃a C g fl,e=.ref a/\Cov X pins g/\ExS g H s.heap a C fl/\X.mg c=some C
noncomputable def glob(x:Str):Option PyData:=if x="ANY_ZONE" then some (.tuple [.int 0,.tuple []]) else if x="NO_DEEDS" then some (.tuple []) else none
noncomputable def fW:HO->Bool
 | .tup _=>true
 | .frz _ (.tup _)=>true
 | _=>false
theorem Jb{u:HO}(h:fW u=true):¬ Mv u:=fun m=>by
 cases u with
 | tup _=>exact m
 | frz _ _=>exact m
 | _=>cases h
noncomputable def nU(H:Hp):Hp:=fun b=>match H b with
 | some u=>if fW u=true then some u else none
 | none=>none
theorem Jc{H:Hp}{b:Addr}{o:HO}(h:nU H b=some o):fW o=true/\H b=some o:=by
 unfold nU at h;split at h
 ·rename_i u e;split at h
  ·rename_i t;cases h;exact⟨t,e⟩
  ·cases h
 ·cases h
theorem Jd{H:Hp}{b:Addr}{u:HO}(t:fW u=true)(h:H b=some u):nU H b=some u:=by unfold nU;rw[h];exact if_pos t
def GH(a:Str->Option Value)(H:Hp):Prop:=∀x d u,glob x=some d->a x=some u->∃v,bn v u/\DV (nU H) v d
def GF(a:Str->Option Value)(F:Fx):Prop:=GH a fun b=>if b∈F.A₀ then none else F.H₀ b
theorem GH.mono{c:Str->Option Value}{H a:Hp}(g:GH c H)(k:∀b u,fW u=true->H b=some u->a b=some u):GH c a:=fun x d u i j=>by obtain⟨v,r,f⟩:=g x d u i j;exact⟨v,r,DV.mono (fun b o e=>by obtain⟨t,h⟩:=Jc e;exact Jd t (k b o t h)) f⟩
theorem GF.at{a:Str->Option Value}{K:Frag}{F:Fx}{H:Hp}{Y:St}{U:al}{O:List Addr}(g:GF a F)(st:aC K F H Y U O):GH a H:=GH.mono g fun b d t e=>by
 obtain⟨W,st,rfl⟩:=st;split at e
 ·cases e
 ·rename_i c;exact st.kept b _ c e
theorem GH.frame{d:Str->Option Value}{H:Hp}{A O:List Addr}{io:Nat->Addr}(g:GH d H)(h:∀a∈A,∃o,H a=some o/\Mv o):GF d ⟨H,A,O,io⟩:=GH.mono g fun b f t e=>by show(if b∈A then none else H b)=_;rw[if_neg,e];intro z;obtain⟨o,c,m⟩:=h b z;rw[e] at c;cases c;exact Jb t m
theorem GF.into{b:Str->Option Value}{K:Frag}{F:Fx}{H:Hp}{Y:St}{U:al}{O c:List Addr}{io:Nat->Addr}(g:GF b F)(st:aC K F H Y U O):GF b ⟨H,[],c,io⟩:=(g.at st).frame fun a h=>by cases h
def dO(X:Cx)(F:Fx)(E:Str->al->Prop):Prop:=GF X.mg F/\∀(pins:List (Addr×Obj)) (Y:St) (H:Hp) (s:Shared) (e:Value) (c:Str) (U:al) (O:List Addr),Fly X pins Y H s e c->aC X.K F H Y U O->E c U->X.xe e s
theorem ExS.weak{g c:Heap}{H:Hp}{h:Heap}{a:Addr}{C:Value}{j:Option Value}(x:ExS g H h a C j)(k:∀b o,c.get? b=some o->∃d,g.get? b=some d):ExS c H h a C j:=by
 have l:∀b,g.get? b=none->c.get? b=none:=fun b e=>by
  cases q:c.get? b with
  | none=>rfl
  | some o=>obtain⟨d,i⟩:=k b o q;rw[e] at i;cases i
 obtain⟨A,lo,un,m,n,p,r,t,hd,u,v⟩:=x;refine⟨fun b o e=>let⟨d,i⟩:=k b o e;A b d i,l a lo,un,m,n,p,r,t,hd,u,v.imp id ?_⟩;rintro⟨T,w,y,f,h1,h2,h3,z⟩;exact⟨T,w,y,f,h1,h2,l T h3,z⟩
theorem _root_.L2.Inv.flies{E:XK}{e:Value}{f:Shared}(I:Inv X pins Y H s)(h:ba X.prog X.w X.stack H s E e f):∃a C c,e=.ref a/\Inv X pins Y c f/\Cov X pins s.heap/\ExS s.heap c f.heap a C (some .none)/\E C none c:=by obtain⟨a,C,c,j,os,bare,un,hok,ex,q⟩:=h;obtain⟨k,g,d,t,i⟩:=f;obtain rfl:i = s.os:=os;exact⟨a,C,c,j,I.call (h':=k) (g':=g) (d':=d) (t':=t) (ch:=[]) un hok bare (fun b z=>absurd z (by simp)),I.cov,ex,q⟩
end
theorem Je{P:Program}{w:World}{K:Frag}{m:Str->Option Value}{base:Heap}{N:List Str}{i:Str}{d:Scope}{f:Addr}{j:Value}{A:Around}{h:List Env}{s:Shared}{H:Hp}{E:XK}{F:Fx}{n:Str->al->Prop}
  (v:GF m F) (x:∀c C p y r B,m c=some C->aC K F r y p B->n c p->E C none r):dO (jr (ba P w) P w K m base N i d f j A h s H E) F n:=by
 refine⟨v,?_⟩;intro t Y k D e c U O ⟨I,a,C,g,R,G,u,ex,L⟩ st q;subst G;have M:(A.deeper (envOfC i d s.heap.objs.size f j)).frames=some (envOfC i d s.heap.objs.size f j::h):=I.ok.frames;have hb:∀b,D.heap.get? b=none->k b=none:=fun b z=>HOk.some_of I.hok z;have stk:bI (envOfC i d s.heap.objs.size f j::h)=s.heap.objs.size::bI h:=rfl;refine Aj (base:=base) M I.stack rfl hb ex fun S ch l=>?_;have J:=I.ch u ch;refine⟨a,C,k,rfl,J.os,J.bare,J.base,J.hok,l.weak fun b o Q=>u.s0 b o Q (by intro z;cases z),x c C U Y k O L st q⟩
noncomputable def Fx.plus(F:Fx)(a:List Addr):Fx:={ F with O₀:=a++F.O₀ }
theorem Fx.plus_plus{F:Fx}{l m:List Addr}:(F.plus l).plus m=F.plus (m++l):=by unfold Fx.plus;simp
section
variable{K:Frag}{F:Fx}{H H':Hp}{Y:St}{U:al}{O O':List Addr}{W:List (List Addr)}{fp:List Addr}{v:V}{c:ak}
structure gr (K:Frag) (F:Fx) (H:Hp) (Y:St) (U:al) (O:List Addr) (v:V) (c:ak) (fp:List Addr):Prop where
 st:aC K (F.plus fp) H Y U O
 at_:dG K H O v c fp
 new:∀a∈fp,a∈F.A₀\/F.H₀ a=none
theorem fH(h:∀a∈O',a∈O):aP O H O' H:=⟨fun _ _ _ e=>e,fun a z=>.inl (h a z)⟩
theorem bO.less{b:Fx}(st:bO K F H Y U W)(d:b.H₀=F.H₀)(f:b.A₀=F.A₀)(g:b.I₀=F.I₀)(m:b.O₀.Sublist F.O₀):bO K b H Y U W:=by have sub:(W.flatten++b.O₀).Sublist (W.flatten++F.O₀):=List.Sublist.append (List.Sublist.refl _) m;have mem:∀a∈W.flatten++b.O₀,a∈W.flatten++F.O₀:=fun a h=>sub.subset h;refine⟨fun i c e=>?_,st.nd.sublist sub,by rw[d,f];exact st.kept,by rw[d,f];exact st.new,fun a h=>st.live a (mem a h),st.len,st.lw,by rw[g];exact st.io⟩;obtain⟨v,fp,j,k,l⟩:=st.at_ i c e;exact⟨v,fp,j,k,l.keep (fH mem) (fun _ _=>rfl) (fun _ _ _ e=>e)⟩
theorem aC.unplus(st:aC K (F.plus fp) H Y U O):∃O',aC K F H Y U O'/\aP O H O' H/\(∀a∈fp,a∉O'):=by
 obtain⟨W,st,rfl⟩:=st;have b:bO K F H Y U W:=st.less rfl rfl rfl (List.sublist_append_right _ _);refine⟨_,⟨W,b,rfl⟩,fH fun a h=>?_,fun a d z=>?_⟩
 ·rcases List.mem_append.mp h with h | h
  ·exact bf _ h
  ·exact bb _ (bb _ h)
 ·have nd:(W.flatten++(fp++F.O₀)).Nodup:=st.nd;obtain⟨_,e,f⟩:=List.nodup_append.mp nd;rcases List.mem_append.mp z with z | z
  ·exact f a z a (bf _ d) rfl
  ·exact(List.nodup_append.mp e).2.2 a d a z rfl
theorem gr.drop(r:gr K F H Y U O v c fp):∃O',aC K F H Y U O'/\aP O H O' H:=let⟨O',h1,h2,_⟩:=r.st.unplus;⟨O',h1,h2⟩
@[simp] noncomputable def frz:ak->Option PyData
 | .dat d=>some d
 | .own _ (.l ds)=>some (.list ds)
 | _=>none
theorem gr.frz{d:PyData}(r:gr K F H Y U O v c fp)(e:frz c=some d):∃O',aC K F H Y U O'/\aP O H O' H/\DV (ay O' H) v d:=by
 obtain⟨O',h1,h2,h3⟩:=r.st.unplus;refine⟨O',h1,h2,?_⟩;have f:=r.at_;cases c with
 | dat x=>cases e;exact DV.mono h2.hid f
 | scr ns=>cases e
 | exc c=>cases e
 | vw c=>cases e
 | own io b=>
  cases b with
  | l ds=>cases e;obtain⟨a,rfl,rfl,i,g,h⟩:=f;exact .lst (ib g (h3 a (by simp))) (aQ.mono h2.hid h)
  | m _ _=>cases e
  | o _ _=>cases e
  | sd _=>cases e
  | ll _=>cases e
  | pr _ _ _=>cases e
theorem Jf(st:aC K F H Y U O){d:PyData}(h:DV (ay O H) v d):gr K F H Y U O v (.dat d) []:=⟨st,h,fun a h=>by cases h⟩
theorem aC.put1{io:Bool}(st:aC K (F.plus fp) H Y U O)(s:dG K H O v c fp)(new:∀a∈fp,a∈F.A₀\/F.H₀ a=none){i:Nat}(n:i<U.length)(o:∀b,c=.own true b->v=.ref (F.I₀ i)) :
  ∃O',aC K F H (Y.set i (some v)) (U.set i (some c)) O'/\aP O H O' H:=by
 obtain⟨W,st,rfl⟩:=st;have nd:(W.flatten++(fp++F.O₀)).Nodup:=st.nd;obtain⟨t,u,r⟩:=List.nodup_append.mp nd;obtain⟨x,y,A⟩:=List.nodup_append.mp u;have p:i<W.length:=by rw[st.lw];exact n
 have sub:∀a∈(W.set i fp).flatten++F.O₀,a∈W.flatten++(fp++F.O₀):=fun a h=>by
  rcases List.mem_append.mp h with h | h
  ·rcases fc h with h | ⟨j,l,_,e,q⟩
   ·exact bb _ (bf _ h)
   ·exact bf _ (bM e q)
  ·exact bb _ (bb _ h)
 have f:=fH (H:=H) sub;refine⟨_,⟨W.set i fp,⟨fun j d e=>?_,nN (List.nodup_append.mpr ⟨t,y,fun a k b B=>r a k b (bb _ B)⟩) x fun a k=>⟨fun j l _ e z=>r a (bM e z) a (bf _ k) rfl,fun z=>A a k a z rfl⟩,st.kept,fun a h=>?_,fun a h=>st.live a (sub a h),by rw[List.length_set,List.length_set,st.len],by rw[List.length_set,List.length_set,st.lw],fun j b e=>?_⟩,rfl⟩,f⟩
 ·rcases fT e with⟨rfl,g,_⟩ | ⟨m,g⟩
  ·cases g;exact⟨v,fp,List.getElem?_set_self (by rw[<-st.len];exact n),List.getElem?_set_self p,s.keep f (fun _ _=>rfl) (fun _ _ _ e=>e)⟩
  ·obtain⟨w,l,h1,h2,h3⟩:=st.at_ j d g;exact⟨w,l,by rw[List.getElem?_set_ne (Ne.symm m)];exact h1,by rw[List.getElem?_set_ne (Ne.symm m)];exact h2,h3.keep f (fun _ _=>rfl) (fun _ _ _ e=>e)⟩
 ·rcases fc h with h | ⟨j,l,_,e,q⟩
  ·exact new a h
  ·exact st.new a (bM e q)
 ·rcases fT e with⟨rfl,g,_⟩ | ⟨m,g⟩
  ·rw[List.getElem?_set_self (by rw[<-st.len];exact n),o b (Option.some.inj g).symm]
  ·rw[List.getElem?_set_ne (Ne.symm m)];exact st.io j b g
theorem aC.take(st:aC K F H Y U O){i:Nat}{io:Bool}{b:Bx}(e:U[i]? = some (some (.own io b))):∃a fp O',Y[i]? = some (some (.ref a))/\aC K (F.plus fp) H Y (U.set i none) O'/\fG (ay O' H) H a b fp/\aP O H O' H/\aP O' H O H/\(∀a∈fp,a∈F.A₀\/F.H₀ a=none)/\(io=true->a=F.I₀ i):=by
 obtain⟨W,st,rfl⟩:=st;obtain⟨v,fp,h1,h2,a,rfl,h3⟩:=st.at_ i _ e;have G:i<U.length:=(List.getElem?_eq_some_iff.mp e).1;have I:i<W.length:=by rw[st.lw];exact G
 obtain⟨D,J,L⟩:=List.nodup_append.mp st.nd;have E:∀x∈(W.set i []).flatten++(fp++F.O₀),x∈W.flatten++F.O₀:=fun x h=>by
  rcases List.mem_append.mp h with h | h
  ·rcases fc h with h | ⟨j,l,_,g,m⟩
   ·cases h
   ·exact bf _ (bM g m)
  ·rcases List.mem_append.mp h with h | h
   ·exact bf _ (bM h2 h)
   ·exact bb _ h
 have M:∀x∈W.flatten++F.O₀,x∈(W.set i []).flatten++(fp++F.O₀):=fun x h=>by
  rcases List.mem_append.mp h with h | h
  ·obtain⟨l,m,f⟩:=List.mem_flatten.mp h;obtain⟨j,n⟩:=List.getElem?_of_mem m
   by_cases s:j=i
   ·subst s;rw[h2] at n;cases n;exact bb _ (bf _ f)
   ·exact bf _ (Im s n f)
  ·exact bb _ (bb _ h)
 have t:fp.Nodup:=by
  have:∀{W:List (List Addr)}{i:Nat}{l:List Addr},W.flatten.Nodup->W[i]? = some l->l.Nodup:=fun {W i l} R m=>R.sublist (by
   have:=List.mem_of_getElem? m;exact List.sublist_flatten_of_mem this)
  exact this D h2
 have u:((W.set i []).flatten++(fp++F.O₀)).Nodup:=by
  have q:((W.set i []).flatten++([]++F.O₀)).Nodup:=nN (fp:=[]) (O:=F.O₀) st.nd List.nodup_nil (fun a h=>by cases h);obtain⟨A,_,B⟩:=List.nodup_append.mp q;refine List.nodup_append.mpr ⟨A,List.nodup_append.mpr ⟨t,J,fun x f y o z=>L x (bM h2 f) y o z⟩,fun x f y o z=>?_⟩;subst z;rcases List.mem_append.mp o with o | o
  ·rcases fc f with f | ⟨j,l,n,g,m⟩
   ·cases f
   ·exact jR D h2 g (Ne.symm n) o m
  ·exact B x f x o rfl
 have p:=fH (H:=H) E;have k:=fH (H:=H) M;refine⟨a,fp,_,h1,⟨W.set i [],⟨fun j d g=>?_,u,st.kept,fun x h=>?_,fun x h=>st.live x (E x h),by rw[List.length_set,st.len],by rw[List.length_set,List.length_set,st.lw],fun j N g=>?_⟩,rfl⟩,h3.keep (fun _ _=>rfl) p.hid,p,k,fun x f=>st.new x (bM h2 f),fun C=>?_⟩
 ·rcases fT g with⟨rfl,r,_⟩ | ⟨n,r⟩
  ·cases r
  ·obtain⟨w,l,A,Q,B⟩:=st.at_ j d r;exact⟨w,l,A,by rw[List.getElem?_set_ne (Ne.symm n)];exact Q,B.keep p (fun _ _=>rfl) (fun _ _ _ e=>e)⟩
 ·rcases fc h with h | ⟨j,l,_,g,m⟩
  ·cases h
  ·exact st.new x (bM g m)
 ·rcases fT g with⟨rfl,r,_⟩ | ⟨n,r⟩
  ·cases r
  ·exact st.io j N r
 ·subst C;have:=st.io i b e;rw[h1] at this;cases this;rfl
theorem aC.swap{L L':List Addr}(st:aC K (F.plus L) H Y U O)(keep:∀b o,b∉L->H b=some o->H' b=some o)(D:L'.Nodup)(new:∀a∈L',a∈L\/H a=none)(t:∀a∈L,a∈F.A₀\/F.H₀ a=none)(l:∀a∈L',∃o,H' a=some o/\Mv o) :
  ∃O',aC K (F.plus L') H' Y U O'/\aP O H O' H'/\(∀a∈L',a∈O')/\(∀a∈O',a∈L'\/a∈O/\a∉L)/\∀a∈O,a∉L->a∈O':=by
 obtain⟨W,st,rfl⟩:=st;have m:(W.flatten++(L++F.O₀)).Nodup:=st.nd;obtain⟨w,x,p⟩:=List.nodup_append.mp m;obtain⟨E,y,A⟩:=List.nodup_append.mp x;have wl:∀a∈W.flatten,a∉L:=fun a h z=>p a h a (bf _ z) rfl;have ol:∀a∈F.O₀,a∉L:=fun a h z=>A a z a h rfl;have j:∀a∈W.flatten++F.O₀,∃o,H a=some o/\Mv o:=fun a h=>st.live a (by
  rcases List.mem_append.mp h with h | h
  ·exact bf _ h
  ·exact bb _ (bb _ h))
 have kp:∀a∈W.flatten++F.O₀,H' a=H a:=fun a h=>by obtain⟨o,e,_⟩:=j a h;rw[e];exact keep a o ((List.mem_append.mp h).elim (wl a) (ol a)) e
 have ap:∀a∈L',a∉W.flatten++F.O₀:=fun a h z=>by
  rcases new a h with q | q
  ·rcases List.mem_append.mp z with z | z
   ·exact wl a z q
   ·exact ol a z q
  ·obtain⟨o,e,_⟩:=j a z;rw[q] at e;cases e
 have f:aP (W.flatten++(L++F.O₀)) H (W.flatten++(L'++F.O₀)) H':=⟨fun b o d e=>keep b o (fun z=>d (bb _ (bf _ z))) e,fun a h=>by
  rcases List.mem_append.mp h with h | h
  ·exact .inl (bf _ h)
  ·rcases List.mem_append.mp h with h | h
   ·exact(new a h).imp (fun z=>bb _ (bf _ z)) id
   ·exact .inl (bb _ (bb _ h))⟩
 have B:∀b o u,H b=some (.frz o u)->H' b=some (.frz o u):=fun b o u e=>keep b _ (fun z=>st.nofrz (bb _ (bf _ z)) e) e;refine⟨_,⟨W,⟨fun i c e=>?_,?_,fun b o d e=>?_,st.new,fun a h=>?_,st.len,st.lw,st.io⟩,rfl⟩,f,fun a h=>bb _ (bf _ h),fun a h=>?_,fun a h C=>?_⟩
 ·obtain⟨v,fp,h1,h2,h3⟩:=st.at_ i c e;exact⟨v,fp,h1,h2,h3.keep f (fun b d=>kp b (bf _ (bM h2 d))) B⟩
 ·refine List.nodup_append.mpr ⟨w,List.nodup_append.mpr ⟨D,y,fun a k b d z=>?_⟩,fun a k b d z=>?_⟩
  ·subst z;exact ap a k (bb _ d)
  ·subst z;rcases List.mem_append.mp d with d | d
   ·exact ap a d (bf _ k)
   ·exact p a k a (bb _ d) rfl
 ·have g:=st.kept b o d e
  by_cases r:b∈L
  ·rcases t b r with q | q
   ·exact absurd q d
   ·have s:F.H₀ b=some o:=e;rw[q] at s;cases s
  ·exact keep b o r g
 ·rcases List.mem_append.mp h with h | h
  ·obtain⟨o,g,n⟩:=j a (bf _ h);exact⟨o,by rw[kp a (bf _ h)];exact g,n⟩
  ·rcases List.mem_append.mp h with h | h
   ·exact l a h
   ·obtain⟨o,g,n⟩:=j a (bb _ h);exact⟨o,by rw[kp a (bb _ h)];exact g,n⟩
 ·rcases List.mem_append.mp h with h | h
  ·exact .inr ⟨bf _ h,wl a h⟩
  ·rcases List.mem_append.mp h with h | h
   ·exact .inl h
   ·exact .inr ⟨bb _ (bb _ h),ol a h⟩
 ·rcases List.mem_append.mp h with h | h
  ·exact bf _ h
  ·rcases List.mem_append.mp h with h | h
   ·exact absurd h C
   ·exact bb _ (bb _ h)
end
abbrev gP:=al->(ak->al->Prop)->Prop
def Ak(t:gP):Prop:=∀U Q a,(∀c b,Q c b->a c b)->t U Q->t U a
noncomputable def Jg(K:Frag)(F:Fx)(t:gP):TE:=fun Y H Q=>∃U O,aC K F H Y U O/\t U fun c d=>∀v a b e,gr K F a Y d b v c e->aP O H b a->Q v a
structure DO (X:Cx) (F:Fx) (e:Expr) (t:gP):Prop where
 mn:Ak t
 pe:PE X e (Jg X.K F t)
section
variable{X:Cx}{F:Fx}{e:Expr}{te:DT}{to:gP}
noncomputable def Jh(t:gP):DT:=fun U Q=>t U fun c a=>∃d,frz c=some d/\Q d a
theorem DO.de(h:DO X F e to):DE X F e (Jh to):=
 ⟨fun _ _ _ k q=>h.mn _ _ _ (fun _ _ ⟨d,e,q⟩=>⟨d,e,k _ _ q⟩) q,h.pe.imp fun Y H Q ⟨U,O,st,q⟩=>⟨U,O,st,h.mn _ _ _ (fun c j ⟨d,e,q⟩ v b l m r s=>by
  obtain⟨f,a,g,i⟩:=r.frz e;exact q v b f a (s.trans g) i) q⟩⟩
end
abbrev eG:=PyData->al->(al->Prop)->Prop
noncomputable def nV(K:Frag)(F:Fx)(t:eG):TG:=fun v Y H Q=>∃U O d,aC K F H Y U O/\DV (ay O H) v d/\t d U fun e=>∀b a c,aC K F a b e c->aP O H c a->Q b a
structure DG (X:Cx) (F:Fx) (tg:Expr) (t:eG):Prop where
 mn:∀d U Q Q',(∀U',Q U'->Q' U')->t d U Q->t d U Q'
 pg:PG X tg (nV X.K F t)
abbrev jW:=List PyData->al->(al->Prop)->Prop
noncomputable def Ji(K:Frag)(F:Fx)(t:jW):jq:=fun e Y H Q=>∃U O d,aC K F H Y U O/\aQ (ay O H) e d/\t d U fun f=>∀b a c,aC K F a b f c->aP O H c a->Q b a
structure nW (X:Cx) (F:Fx) (tg:List Expr) (t:jW):Prop where
 mn:∀d U Q Q',(∀U',Q U'->Q' U')->t d U Q->t d U Q'
 pg:PGs X tg (Ji X.K F t)
theorem _root_.L2.PG.imp{X:Cx}{e:Expr}{t t':TG}(h:PG X e t)(k:∀v Y H Q,t' v Y H Q->t v Y H Q):PG X e t':=fun a s Y H v u Q I r q=>h a s Y H v u Q I r (k v Y H Q q)
theorem _root_.L2.PGs.imp{X:Cx}{e:List Expr}{t t':jq}(h:PGs X e t)(k:∀v Y H Q,t' v Y H Q->t v Y H Q):PGs X e t':=fun a s Y H v u Q I r q=>h a s Y H v u Q I r (k v Y H Q q)
section
variable{X:Cx}{F:Fx}{e:Expr}{es:List Expr}{pos:Pos}{x:Str}{t:eG}{ts:jW}
noncomputable def gN(i:Nat):eG:=fun d U Q=>Q (U.set i (some (.dat d)))
theorem Jj{i:Nat}(h:PG X (.Name x pos) (pX i)):DG X F (.Name x pos) (gN i):=⟨fun _ _ _ _ k q=>k _ q,h.imp fun v Y H Q ⟨U,O,d,st,hd,q⟩=>q _ H O (st.set hd) .refl⟩
noncomputable def Jk:jW:=fun a U Q=>a=[]/\Q U
noncomputable def Jl(t:eG)(u:jW):jW:=fun b U Q=>∃d r,b=d::r/\t d U fun a=>u r a Q
theorem Jm:nW X F [] Jk:=⟨fun _ _ _ _ k q=>⟨q.1,k _ q.2⟩,yF.imp fun a Y H Q ⟨U,O,ds,st,hd,e,q⟩=>by
 subst e;cases hd;exact⟨rfl,q _ H O st .refl⟩⟩
theorem Jn(f:DG X F e t)(g:nW X F es ts)(i:(assignEach (e::es) X.env).map (·.2)=assign e X.env::(assignEach es X.env).map (·.2):=by rfl):nW X F (e::es) (Jl t ts):=
 ⟨fun _ _ _ _ k ⟨d,r,e,q⟩=>⟨d,r,e,f.mn _ _ _ _ (fun _ a=>g.mn _ _ _ _ k a) q⟩,(uj f.pg g.pg i).imp fun v Y H Q ⟨U,O,ds,st,hd,d,r,e,q⟩=>by
  subst e;cases hd with
  | cons hd j=>
   exact⟨_,_,rfl,U,O,d,st,hd,f.mn _ _ _ _ (fun l a w y m b h=>⟨l,m,r,b,aQ.mono h.hid j,g.mn _ _ _ _ (fun z n o p s c u=>n o p s c (h.trans u)) a⟩) q⟩⟩
noncomputable def Jo(n:Nat)(t:jW):eG:=fun d U Q=>∃a,d=.tuple a/\a.length=n/\t a U Q
theorem Jp{k n:Nat}(g:X.calm=true)(h:nW X F es ts)(i:(assignEach es X.env).length=n:=by rfl)(b:(assignEach es X.env).findIdx? (·.1)=none:=by rfl):DG X F (.Tuple es k pos) (Jo n ts):=
 ⟨fun _ _ _ _ k ⟨c,e,l,q⟩=>⟨c,e,l,h.mn _ _ _ _ k q⟩,(yG g h.pg i b).imp fun v Y H Q ⟨U,O,d,st,hd,c,e,l,q⟩=>by
  subst e;obtain⟨a,j,rfl,m,f⟩:=hd.tup_inv;exact⟨a,j,rfl,.inl (jP m).1,by rw[f.length];exact l,U,O,c,st,f,q⟩⟩
end
structure dP where
 nx:al->Prop
 rt:ak->al->Prop
 bk:al->Prop:=fun _=>False
 ct:al->Prop:=fun _=>False
abbrev dQ:=dP->al->Prop
structure fJ (K:Frag) (F:Fx) (O:List Addr) (H:Hp) (D:eF) (DD:dP):Prop where
 nx:∀Y' H' U' O',aC K F H' Y' U' O'->aP O H O' H'->DD.nx U'->D.nx Y' H'
 rt:∀v Y' H' c U' O' fp,gr K F H' Y' U' O' v c fp->aP O H O' H'->DD.rt c U'->D.rt v H'
 bk:∀Y' H' U' O',aC K F H' Y' U' O'->aP O H O' H'->DD.bk U'->D.bk Y' H'
 ct:∀Y' H' U' O',aC K F H' Y' U' O'->aP O H O' H'->DD.ct U'->D.ct Y' H'
theorem fJ.later{K:Frag}{F:Fx}{O b:List Addr}{H d:Hp}{D:eF}{e:dP}(f:fJ K F O H D e)(s:aP O H b d):fJ K F b d D e:=
 ⟨fun Y H U O st a q=>f.nx Y H U O st (s.trans a) q,fun v Y H c U O g r a q=>f.rt v Y H c U O g r (s.trans a) q,fun Y H U O st a q=>f.bk Y H U O st (s.trans a) q,fun Y H U O st a q=>f.ct Y H U O st (s.trans a) q⟩
noncomputable def Al(K:Frag)(F:Fx)(t:dQ):TS:=fun D Y H=>∃U O a,aC K F H Y U O/\t a U/\fJ K F O H D a
def DS(X:Cx)(F:Fx)(s:Stmt)(t:dQ):Prop:=PS X s (Al X.K F t)
def gu(X:Cx)(F:Fx)(s:List Stmt)(t:dQ):Prop:=PSs X s (Al X.K F t)
section
variable{X:Cx}{F:Fx}{e:Expr}{es:List Expr}{st:Stmt}{rest:List Stmt}{t u:dQ}{te:DT}{to:gP}{tA:dI}{tc:cX}{tg:eG}{pos:Pos}{x:Str}
noncomputable def Jq:dQ:=fun D U=>D.nx U
noncomputable def Jr(t u:dQ):dQ:=fun D U=>t { D with nx:=fun a=>u D a } U
theorem Js:gu X F [] Jq:=Fh.imp fun D Y H ⟨U,O,a,st,q,f⟩=>f.nx Y H U O st .refl q
theorem Jt(i:DS X F st t)(j:gu X F rest u):gu X F (st::rest) (Jr t u):=
 (Fi i j).imp fun D Y H ⟨U,O,b,s,q,f⟩=>⟨U,O,_,s,q,⟨fun k l c d a g h=>⟨c,d,b,a,h,f.later g⟩,f.rt,f.bk,f.ct⟩⟩
theorem Ju(h:DS X F st t):gu X F [st] t:=Fj h
noncomputable def uX(te:DT)(tg:eG):dQ:=fun D U=>te U fun d a=>tg d a D.nx
theorem Jv{i:Nat}{a:Pos}(g:X.N.Nodup)(h:X.N[i]? = some x)(j:fQ X.env.scope x)(c:DE X F e te)(k:swapsWith e (some (.Name x a)) pos.line X.env=pure false:=by rfl)
  (l:X.fn x=true\/X.env.scope.names.lookup x=some .local:=by first | exact .inl rfl | exact .inr rfl | assumption):DS X F (.Assign [.Name x a] e pos) (uX te (gN i)):=
 (yI g h j c.pe k l).imp fun D Y H ⟨U,O,s,st,q,f⟩=>⟨U,O,st,c.mn _ _ _ (fun d w m v n o b p r=>f.nx _ n _ o (b.set r) p m) q⟩
noncomputable def Jw(te:DT):dQ:=fun D U=>te U fun d a=>D.rt (.dat d) a
theorem Jx(b:DE X F e te):DS X F (.Return (some e) pos) (Jw te):=
 (yD b.pe).imp fun D Y H ⟨U,O,l,st,q,f⟩=>⟨U,O,st,b.mn _ _ _ (fun d c g v h i a j k=>f.rt v Y h (.dat d) c i [] (Jf a k) j g) q⟩
noncomputable def Jy(to:gP):dQ:=fun D U=>to U fun c a=>D.rt c a
theorem Jz(a:DO X F e to):DS X F (.Return (some e) pos) (Jy to):=
 (yD a.pe).imp fun D Y H ⟨U,O,k,st,q,f⟩=>⟨U,O,st,a.mn _ _ _ (fun c b d v g h i r j=>f.rt v Y g c b h i r j d) q⟩
noncomputable def JA(i:Nat)(to:gP):dQ:=fun D U=>to U fun c a=>i<a.length/\(∀b,c≠.own true b)/\D.nx (a.set i (some c))
theorem JB{i:Nat}{a:Pos}(h:X.N.Nodup)(j:X.N[i]? = some x)(k:fQ X.env.scope x)(g:DO X F e to)(l:swapsWith e (some (.Name x a)) pos.line X.env=pure false:=by rfl)
  (m:X.fn x=true\/X.env.scope.names.lookup x=some .local:=by first | exact .inl rfl | exact .inr rfl | assumption):DS X F (.Assign [.Name x a] e pos) (JA i to):=
 (yI h j k g.pe l m).imp fun D Y H ⟨U,O,B,st,q,f⟩=>⟨U,O,st,g.mn _ _ _ (fun c C ⟨n,o,p⟩ v s E G r w=>by
  obtain⟨y,d,A⟩:=aC.put1 (io:=true) r.st r.at_ r.new n (fun b z=>absurd z (o b));exact f.nx _ s _ y d (w.trans A) p) q⟩
noncomputable def JC(to:gP):dQ:=fun D U=>to U fun _ a=>D.nx a
theorem JD(b:DO X F e to)(d:swapsWith e none pos.line X.env=pure false:=by rfl):DS X F (.Expr e pos) (JC to):=
 (pW b.pe d).imp fun D Y H ⟨U,O,j,st,q,f⟩=>⟨U,O,st,b.mn _ _ _ (fun c k g v l m n r h=>by
  obtain⟨o,a,i⟩:=r.drop;exact f.nx _ _ _ _ a (h.trans i) g) q⟩
noncomputable def JE(tc:cX)(t u:dQ):dQ:=fun D U=>tc U fun b a=>if b=true then t D a else u D a
theorem JF{c:Expr}{a b:List Stmt}(g:DB X F c tc)(m:gu X F a t)(n:gu X F b u):DS X F (.If c a b pos) (JE tc t u):=
 (Fp g.pt m n).imp fun D Y H ⟨U,O,h,st,q,f⟩=>⟨U,O,st,g.mn _ _ _ (fun b i j o k d l=>by
  cases b with
  | true=>exact eX ⟨i,k,h,d,jT j,f.later l⟩
  | false=>exact eW ⟨i,k,h,d,jU j,f.later l⟩) q⟩
end
inductive uY where
 | rt (c:ak) (outs:List Bx) | ex (c:Str) (outs:List Bx) | bad
noncomputable abbrev FM:=List ak->uY
inductive aU (K:Frag) (H:Hp) (O:List Addr):List V->List ak->List (List Addr)->Prop where
 | nil:aU K H O [] [] []
 | dat {v:V}{d:PyData}{vs:List V}{cs:List ak}{fps:List (List Addr)}:DV (ay O H) v d->aU K H O vs cs fps->aU K H O (v::vs) (.dat d::cs) ([]::fps)
 | oth {v:V}{c:ak}{vs:List V}{cs:List ak}{fps:List (List Addr)}:(∀d,c≠.dat d)->(∀io b,c≠.own io b)->dG K H O v c []->aU K H O vs cs fps->aU K H O (v::vs) (c::cs) ([]::fps)
 | own {a:Addr}{b:Bx}{fp:List Addr}{vs:List V}{cs:List ak}{fps:List (List Addr)}:fG (ay O H) H a b fp->aU K H O vs cs fps->aU K H O (.ref a::vs) (.own true b::cs) (fp::fps)
inductive aT (H:Hp) (O:List Addr):List V->List ak->List Bx->List (List Addr)->Prop where
 | nil:aT H O [] [] [] []
 | skip {v:V}{c:ak}{vs:List V}{cs:List ak}{bs:List Bx}{fps:List (List Addr)}:(∀io b,c≠.own io b)->aT H O vs cs bs fps->aT H O (v::vs) (c::cs) bs fps
 | own {a:Addr}{io:Bool}{b b':Bx}{fp:List Addr}{vs:List V}{cs:List ak}{bs:List Bx}{fps:List (List Addr)}:fG (ay O H) H a b' fp->aT H O vs cs bs fps->aT H O (.ref a::vs) (.own io b::cs) (b'::bs) (fp::fps)
structure fX (H H':Hp) (L L' O₀:List Addr):Prop where
 nd:(L'++O₀).Nodup
 live:∀a∈L',∃o,H' a=some o/\Mv o
 keep:∀b o,b∉L->H b=some o->H' b=some o
 new:∀a∈L',a∈L\/H a=none
noncomputable def bc(K:Frag)(l:Str->Option Value)(f:FM):Sp:=fun k H Q E=>GH l H/\∃(i:List ak) (d:List (List Addr)) (h:List Addr),aU K H (d.flatten++h) k i d/\(d.flatten++h).Nodup/\(∀a∈d.flatten++h,∃o,H a=some o/\Mv o)/\
 match f i with
 | .rt c e=>∀v g j b,dG K g (b.flatten++j++h) v c j->aT g (b.flatten++j++h) k i e b->fX H g d.flatten (b.flatten++j) h->Q v g
 | .ex c e=>∀C g b,l c=some C->aT g (b.flatten++h) k i e b->fX H g d.flatten b.flatten h->E C none g
 | .bad=>False
theorem aU.len{K:Frag}{H:Hp}{O:List Addr}{d:List V}{c:List ak}{b:List (List Addr)}(h:aU K H O d c b):d.length=c.length/\b.length=c.length:=by
 induction h with
 | nil=>exact⟨rfl,rfl⟩
 | dat _ _ a=>exact⟨congrArg Nat.succ a.1,congrArg Nat.succ a.2⟩
 | oth _ _ _ _ a=>exact⟨congrArg Nat.succ a.1,congrArg Nat.succ a.2⟩
 | own _ _ a=>exact⟨congrArg Nat.succ a.1,congrArg Nat.succ a.2⟩
theorem aU.get{K:Frag}{H:Hp}{O:List Addr}{d:List V}{f:List ak}{a:List (List Addr)}(h:aU K H O d f a):∀(i:Nat) (c:ak),f[i]? = some c->∃v g,d[i]? = some v/\a[i]? = some g/\dG K H O v c g:=by
 induction h with
 | nil=>intro i c e;simp at e
 | dat h _ b=>
  intro i c e;cases i with
  | zero=>simp at e;subst e;exact⟨_,_,rfl,rfl,h⟩
  | succ i=>exact b i c (by simpa using e)
 | oth _ _ h _ b=>
  intro i c e;cases i with
  | zero=>simp at e;subst e;exact⟨_,_,rfl,rfl,h⟩
  | succ i=>exact b i c (by simpa using e)
 | own h _ b=>
  intro i c e;cases i with
  | zero=>simp at e;subst e;exact⟨_,_,rfl,rfl,⟨_,rfl,h⟩⟩
  | succ i=>exact b i c (by simpa using e)
theorem aU.mono{K:Frag}{H:Hp}{O c:List Addr}{d:List V}{f:List ak}{a:List (List Addr)}(h:aU K H O d f a)(s:aP O H c H):aU K H c d f a:=by
 induction h with
 | nil=>exact .nil
 | dat h _ b=>exact .dat (DV.mono s.hid h) b
 | oth h1 h2 h _ b=>exact .oth h1 h2 (h.keep s (fun _ _=>rfl) (fun _ _ _ e=>e)) b
 | own h _ b=>exact .own (h.keep (fun _ _=>rfl) s.hid) b
theorem aT.mono{H:Hp}{O c:List Addr}{d:List V}{e:List ak}{bs:List Bx}{a:List (List Addr)}(h:aT H O d e bs a)(s:aP O H c H):aT H c d e bs a:=by
 induction h with
 | nil=>exact .nil
 | skip h1 _ b=>exact .skip h1 b
 | own h _ b=>exact .own (h.keep (fun _ _=>rfl) s.hid) b
inductive gv where
 | nx (U:al) | rt (c:ak) (U:al) | bk (U:al) | ct (U:al) | ex (c:Str) (U:al) | bad
noncomputable abbrev SM:=al->gv
noncomputable def bT(E:Str->al->Prop)(m:SM):dQ:=fun D U=>match m U with
 | .nx a=>D.nx a
 | .rt c a=>D.rt c a
 | .bk a=>D.bk a
 | .ct a=>D.ct a
 | .ex c a=>E c a
 | .bad=>False
@[simp] noncomputable def cu:List ak->al->Option (List Bx)
 | [],_=>some []
 | .own _ _::a,some (.own true b)::U=>(cu a U).map (b::·)
 | .own _ _::_,_=>none
 | _::a,_::U=>cu a U
 | _::_,[]=>none
@[simp] noncomputable def bj(n N:Nat)(m:SM):FM:=fun a=>if a.length=n then(match m (a.map some++List.replicate (N - n) none) with
 | .nx U=>(match cu a U with | some o=>.rt (.dat .none) o | none=>.bad)
 | .rt c U=>(match cu a U with | some o=>.rt c o | none=>.bad)
 | .ex c U=>(match cu a U with | some o=>.ex c o | none=>.bad)
 | _=>.bad) else .bad
section
variable{K:Frag}{F:Fx}{H:Hp}{Y:St}{U:al}{W:List (List Addr)}
theorem uZ{α:Type}{l:List α}{k:Nat}{x:α}{r:List α}(h:l.drop k=x::r):l[k]? = some x/\l.drop (k+1)=r:=by
 constructor
 ·rw[<-List.head?_drop,h];rfl
 ·rw[<-List.drop_drop,h];rfl
theorem qv(st:bO K F H Y U W):∀(l:List ak) (m:List V) (k:Nat) (g:List Bx),m.length=l.length->(∀(i:Nat) io b,l[i]? = some (.own io b)->m[i]? = some (.ref (F.I₀ (k+i))))->cu l (U.drop k)=some g->
  ∃j,aT H (W.flatten++F.O₀) m l g j/\j.flatten.Sublist (W.drop k).flatten
 | [],[],k,g,_,_,e=>by cases e;exact⟨[],.nil,by simp⟩
 | [],_::_,_,_,p,_,_=>by cases p
 | _::_,[],_,_,p,_,_=>by cases p
 | c::l,v::m,k,g,p,G,e=>by
  have t:m.length=l.length:=Nat.succ.inj p;have y:∀(i:Nat) io b,l[i]? = some (.own io b)->m[i]? = some (.ref (F.I₀ (k+1+i))):=fun i io b h=>by have:=G (i+1) io b (by simpa using h);rw[show k+1+i=k+(i+1) by omega];simpa using this
  have A:(W.drop (k+1)).flatten.Sublist (W.drop k).flatten:=by
   cases B:W.drop k with
   | nil=>rw[show W.drop (k+1)=[] from by rw[<-List.drop_drop,B];rfl];exact List.Sublist.refl _
   | cons w r=>rw[(uZ B).2,List.flatten_cons];exact List.sublist_append_right _ _
  cases hd:U.drop k with
  | nil=>
   rw[hd] at e;cases c with
   | own io b=>cases e
   | dat d=>cases e
   | scr n=>cases e
   | exc n=>cases e
   | vw n=>cases e
  | cons x r=>
   obtain⟨J,h2⟩:=uZ hd;rw[hd] at e;have f:(∀io b,c≠.own io b)->cu l r=some g->∃j,aT H (W.flatten++F.O₀) (v::m) (c::l) g j/\j.flatten.Sublist (W.drop k).flatten:=fun M N=>by obtain⟨j,o,s⟩:=qv st l m (k+1) g t y (by rw[h2];exact N);exact⟨j,.skip M o,s.trans A⟩
   cases c with
   | dat d=>exact f (fun _ _ z=>by cases z) e
   | scr n=>exact f (fun _ _ z=>by cases z) e
   | exc n=>exact f (fun _ _ z=>by cases z) e
   | vw n=>exact f (fun _ _ z=>by cases z) e
   | own io b=>
    cases x with
    | none=>cases e
    | some x=>
     cases x with
     | dat d=>cases e
     | scr n=>cases e
     | exc n=>cases e
     | vw n=>cases e
     | own C O=>
      cases C with
      | false=>cases e
      | true=>
       cases q:cu l r with
       | none=>simp[cu,q] at e
       | some Q=>
        simp[cu,q] at e;subst e;obtain⟨j,o,s⟩:=qv st l m (k+1) Q t y (by rw[h2];exact q);obtain⟨u,R,S,D,a,rfl,T⟩:=st.at_ k _ J;have I:=st.io k O J;rw[S] at I;have X:a=F.I₀ k:=by cases I;rfl
        have Z:=G 0 io b rfl;have E:v=.ref a:=by rw[X];simpa using Z
        subst E;refine⟨R::j,.own T o,?_⟩;cases B:W.drop k with
        | nil=>rw[<-List.head?_drop,B] at D;cases D
        | cons w wr=>obtain⟨L,w2⟩:=uZ B;rw[D] at L;cases L;rw[List.flatten_cons,List.flatten_cons];rw[w2] at s;exact List.Sublist.append (List.Sublist.refl _) s
end
theorem mr{α:Type}(n:Nat):(List.replicate n ([]:List α)).flatten=[]:=by induction n with | zero=>rfl | succ n a=>rw[List.replicate_succ,List.flatten_cons,a];rfl
noncomputable def gw(N n:Nat)(a:List ak):al:=a.map some++List.replicate (N - n) none
section
variable{P:Program}{w:World}{K:Frag}{mg:Str->Option Value}{base:Heap}{x qual:Str}{st:Stmt}{f:Addr}{fd:FuncData}{N ps:List Str}{k:Nat}{m:SM}
noncomputable def kY(b:List V)(i:Nat):Addr:=match b[i]? with
 | some (.ref a)=>a
 | _=>0
theorem Am{H:Hp}{l:List V}{j:List ak}{g:List (List Addr)}{p:List Addr}(q:aU K H (g.flatten++p) l j g)(s:(g.flatten++p).Nodup)(live:∀a∈g.flatten++p,∃o,H a=some o/\Mv o)(u:j.length<=N.length) :
  bO K ⟨H,g.flatten,p,kY l⟩ H (start N l) (gw N.length j.length j) (g++List.replicate (N.length - j.length) []):=by
 have n:(g++List.replicate (N.length - j.length) ([]:List Addr)).flatten=g.flatten:=by rw[List.flatten_append,mr,List.append_nil]
 obtain⟨t,l2⟩:=q.len;have get:∀(i:Nat) c,(gw N.length j.length j)[i]? = some (some c)->j[i]? = some c:=fun i c e=>by
  unfold gw at e
  by_cases h:i<j.length
  ·rw[List.getElem?_append_left (by simpa using h),List.getElem?_map] at e;obtain⟨d,h1,h2⟩:=Option.map_eq_some_iff.mp e;cases h2;exact h1
  ·rw[List.getElem?_append_right (by simpa using Nat.le_of_not_lt h),List.getElem?_replicate] at e;split at e<;>cases e
 have put:∀(i:Nat) v,l[i]? = some v->(start N l)[i]? = some (some v):=fun i v e=>by unfold start;rw[List.getElem?_append_left (by simpa using(List.getElem?_eq_some_iff.mp e).1),List.getElem?_map,e];rfl
 refine⟨fun i c e=>?_,by rw[n];exact s,fun _ _ _ h=>h,fun a h=>.inl (by rw[n] at h;exact h),by rw[n];exact live,?_,?_,fun i b e=>?_⟩
 ·obtain⟨v,r,h1,h2,h3⟩:=q.get i c (get i c e);exact⟨v,r,put i v h1,by rw[List.getElem?_append_left (List.getElem?_eq_some_iff.mp h2).1];exact h2,by rw[n];exact h3⟩
 ·unfold gw start;rw[List.length_append,List.length_append,List.length_map,List.length_map,List.length_replicate,List.length_replicate,t]
 ·unfold gw;rw[List.length_append,List.length_append,List.length_map,List.length_replicate,List.length_replicate,l2]
 ·obtain⟨v,r,h1,h2,a,rfl,h3⟩:=q.get i _ (get i _ e);rw[put i _ h1];show _=some (some (V.ref (kY l i)));unfold kY;rw[h1]
theorem aU.ios{H:Hp}{O:List Addr}{c:List V}{g:List ak}{d:List (List Addr)}(h:aU K H O c g d):∀(i:Nat) io b,g[i]? = some (.own io b)->c[i]? = some (.ref (kY c (0+i))):=fun i io b e=>by obtain⟨v,j,h1,_,a,rfl,_⟩:=h.get i _ e;rw[Nat.zero_add];unfold kY;rw[h1]
theorem bC(Fn:kR K x qual st f fd)(S:aa N ps (be st))(hN:ps.length<=N.length)
  (Z:∀(y:Value) (A:Around) (t:List Env) (s:Shared) (H:Hp) (E:XK) (F:Fx) (Y:Str->al->Prop),br k (A.deeper (envOfC qual (be st) s.heap.objs.size f y))->dO (jr (ba P w) P w K mg base N qual (be st) f y A t s H E) F Y->
   gu (jr (ba P w) P w K mg base N qual (be st) f y A t s H E) F (ia st) (bT Y m)):az P w K mg base (ba P w) (k+1) f fd ps (bc K mg (bj ps.length N.length m)):=by
 obtain⟨oc,od,kV,a3,pm,an,y,ct,a4,rfl,lk,a0⟩:=Fn.ex;have G:∀B H Q E,bc K mg (bj ps.length N.length m) B H Q E->B.length=ps.length:=fun B H Q E ⟨_,l,u,O₀,L,_,_,q⟩=>by
  rw[L.len.1];unfold bj at q
  by_cases h:l.length=ps.length
  ·exact h
  ·rw[if_neg h] at q;exact q.elim
 refine GG lk a0 S G fun A t s H B Q E hr M=>?_;have a5:=G B H Q E M;obtain⟨gh,l,u,O₀,L,nd,live,q⟩:=M;obtain⟨l1,l2⟩:=L.len;have O:l.length=ps.length:=by omega
 let F:Fx:=⟨H,u.flatten,O₀,kY B⟩
 have R:=Am (N:=N) L nd live (by omega);have fin:∀{T:St}{j:Hp}{n:al}{J:List Addr}{fp:List Addr}{g:List Bx},aC K (F.plus fp) j T n J->(∀a∈fp,a∈F.A₀\/F.H₀ a=none)->cu l n = some g->∃d,aT j (d.flatten++fp++O₀) B l g d/\fX H j u.flatten (d.flatten++fp) O₀/\aP J j (d.flatten++fp++O₀) j:=by
  rintro T j n J fp g ⟨W,p,rfl⟩ a1 ho;obtain⟨d,o,sb⟩:=qv p l B 0 g l1 (fun i io b e=>L.ios i io b e) ho;have X:d.flatten.Sublist W.flatten:=sb;have sub:(d.flatten++fp++O₀).Sublist (W.flatten++(fp++O₀)):=by rw[List.append_assoc];exact List.Sublist.append X (List.Sublist.refl _)
  have D:aP (W.flatten++(fp++O₀)) j (d.flatten++fp++O₀) j:=fH fun a h=>sub.subset h;refine⟨d,o.mono D,⟨p.nd.sublist sub,fun a h=>p.live a (sub.subset (bf _ h)),fun b o hb e=>p.kept b o hb e,fun a h=>?_⟩,D⟩;rcases List.mem_append.mp h with h | h
  ·exact p.new a (X.subset h)
  ·exact a1 a h
 have a2:bj ps.length N.length m l=(match m (gw N.length ps.length l) with
  | .nx U=>(match cu l U with | some o=>.rt (.dat .none) o | none=>.bad)
  | .rt c U=>(match cu l U with | some o=>.rt c o | none=>.bad)
  | .ex c U=>(match cu l U with | some o=>.ex c o | none=>.bad)
  | _=>.bad):=by unfold bj gw;rw[if_pos O]
 rw[a2] at q;rw[O] at R;let Y:Str->al->Prop:=fun c n=>∃g,cu l n = some g/\∀C j d,mg c=some C->aT j (d.flatten++O₀) B l g d->fX H j u.flatten d.flatten O₀->E C none j;refine⟨_,Z y A t s H E F Y hr (Je (gh.frame fun a h=>live a (bf _ h)) fun c C n T j J I p ⟨g,ho,k⟩=>?_),?_⟩
 ·obtain⟨d,o,b,_⟩:=fin (fp:=[]) p (fun a h=>by cases h) ho;rw[List.append_nil] at o b;exact k C j d I o b
 ·refine⟨gw N.length ps.length l,_,⟨fun n=>∃g,cu l n = some g/\∀j d,aT j (d.flatten++[]++O₀) B l g d->fX H j u.flatten (d.flatten++[]) O₀->Q .non j,fun c n=>∃g,cu l n = some g/\∀v j fp d,dG K j (d.flatten++fp++O₀) v c fp->aT j (d.flatten++fp++O₀) B l g d->fX H j u.flatten (d.flatten++fp) O₀->Q v j,fun _=>False,fun _=>False⟩,⟨_,R,rfl⟩,?_,?_⟩
  ·unfold bT;cases I:m (gw N.length ps.length l) with
   | nx n=>
    rw[I] at q;cases ho:cu l n with
    | none=>simp[ho] at q
    | some g=>simp only[ho] at q;exact⟨g,ho,fun j d o b=>q .non j [] d .non o b⟩
   | rt c n=>
    rw[I] at q;cases ho:cu l n with
    | none=>simp[ho] at q
    | some g=>simp only[ho] at q;exact⟨g,ho,q⟩
   | ex c n=>
    rw[I] at q;cases ho:cu l n with
    | none=>simp[ho] at q
    | some g=>simp only[ho] at q;exact⟨g,ho,q⟩
   | bk n=>rw[I] at q;exact q
   | ct n=>rw[I] at q;exact q
   | bad=>rw[I] at q;exact q
  ·refine⟨fun T j n J p s' ⟨g,ho,k⟩=>?_,fun v T j c n J fp r s' ⟨g,ho,k⟩=>?_,fun _ _ _ _ _ _ z=>z.elim,fun _ _ _ _ _ _ z=>z.elim⟩
   ·obtain⟨d,o,b,_⟩:=fin (fp:=[]) p (fun a h=>by cases h) ho;exact k j d o b
   ·obtain⟨d,o,b,D⟩:=fin r.st r.new ho;exact k v j fp d (r.at_.keep D (fun _ _=>rfl) (fun _ _ _ e=>e)) o b
end
inductive AX where
 | d (x:PyData) | s (j:Nat)
inductive cF (Y:St) (G:Hp):List V->List AX->Prop where
 | nil:cF Y G [] []
 | d {v:V}{x:PyData}{vs:List V}{as:List AX}:DV G v x->cF Y G vs as->cF Y G (v::vs) (.d x::as)
 | s {v:V}{j:Nat}{vs:List V}{as:List AX}:Y[j]? = some (some v)->cF Y G vs as->cF Y G (v::vs) (.s j::as)
abbrev gx:=al->(List AX->al->Prop)->Prop
def An(t:gx):Prop:=∀U Q a,(∀d b,Q d b->a d b)->t U Q->t U a
noncomputable def JG(K:Frag)(F:Fx)(t:gx):TA:=fun Y H Q=>∃U O,aC K F H Y U O/\t U fun as d=>∀c a b,aC K F a Y d b->aP O H b a->cF Y (ay b a) c as->Q c a
structure DX (X:Cx) (F:Fx) (es:List Expr) (t:gx):Prop where
 mn:An t
 pa:PA X es (JG X.K F t)
section
variable{X:Cx}{F:Fx}{e:Expr}{es:List Expr}{te:DT}{tX:gx}{x:Str}{p:Pos}{j:Nat}
noncomputable def JH:gx:=fun U Q=>Q [] U
noncomputable def JI(te:DT)(t:gx):gx:=fun U Q=>te U fun d a=>t a fun as b=>Q (.d d::as) b
noncomputable def JJ(j:Nat)(t:gx):gx:=fun U Q=>(∃c,U[j]? = some (some c))/\t U fun as a=>Q (.s j::as) a
theorem JK:DX X F [] JH:=⟨fun _ _ _ k q=>k _ _ q,er.imp fun Y H Q ⟨U,O,st,q⟩=>q [] H O st .refl .nil⟩
theorem JL(a:DE X F e te)(b:DX X F es tX)(l:starEach (e::es) X.env=(false,eval e X.env)::starEach es X.env:=by rfl):DX X F (e::es) (JI te tX):=
 ⟨fun _ _ _ k q=>a.mn _ _ _ (fun _ _ c=>b.mn _ _ _ (fun _ _ f=>k _ _ f) c) q,(dE a.pe b.pa l).imp fun Y H Q ⟨U,O,st,q⟩=>
  ⟨U,O,st,a.mn _ _ _ (fun d m c v y n g o r=>⟨m,n,g,b.mn _ _ _ (fun as z f s t u h i w=>f (v::s) t u h (o.trans i) (.d (DV.mono i.hid r) w)) c⟩) q⟩⟩
theorem JM(f:PE X (.Name x p) (ca j))(a:DX X F es tX)(g:starEach (.Name x p::es) X.env=(false,eval (.Name x p) X.env)::starEach es X.env:=by rfl):DX X F (.Name x p::es) (JJ j tX):=
 ⟨fun _ _ _ k ⟨h,q⟩=>⟨h,a.mn _ _ _ (fun _ _ b=>k _ _ b) q⟩,(dE f a.pa g).imp fun Y H Q ⟨U,O,st,⟨c,i⟩,q⟩=>by
  obtain⟨W,h,rfl⟩:=id st;obtain⟨v,t,h1,h2,h3⟩:=h.at_ j c i;exact⟨v,h1,U,_,st,a.mn _ _ _ (fun as u b l m n d o r=>b (v::l) m n d o (.s h1 r)) q⟩⟩
end
@[simp] noncomputable def gy(U:al):List AX->Option (List ak×List (Nat×Bool))
 | []=>some ([],[])
 | .d x::as=>(match gy U as with | some (e,a)=>some (.dat x::e,a) | none=>none)
 | .s j::as=>(match gy U as with
  | some (e,a)=>(match U[j]? with
   | some (some (.own io b))=>if a.any (fun p=>p.1==j) then none else some (.own true b::e,(j,io)::a)
   | some (some c)=>some (c::e,a)
   | _=>none)
  | none=>none)
@[simp] noncomputable def eI:List (Nat×Bool)->al->al
 | [],U=>U
 | (j,_)::r,U=>(eI r U).set j none
@[simp] noncomputable def cG:List (Nat×Bool)->List Bx->al->al
 | (j,io)::r,b::bs,U=>cG r bs (U.set j (some (.own io b)))
 | _,_,U=>U
theorem qw{a:List (Nat×Bool)}{U:al}:(eI a U).length=U.length:=by
 induction a with
 | nil=>rfl
 | cons p r b=>obtain⟨j,io⟩:=p;rw[eI,List.length_set,b]
theorem JN{a:List (Nat×Bool)}{U:al}{i:Nat}(h:∀p∈a,p.1≠i):(eI a U)[i]? = U[i]?:=by
 induction a with
 | nil=>rfl
 | cons p r b=>obtain⟨j,io⟩:=p;rw[eI,List.getElem?_set_ne (h (j,io) List.mem_cons_self),b fun q c=>h q (bN _ c)]
inductive eJ (Y:St) (F:Fx) (n:Nat):List V->List ak->List (Nat×Bool)->Prop where
 | nil:eJ Y F n [] [] []
 | skip {v:V}{c:ak}{vs:List V}{cs:List ak}{js:List (Nat×Bool)}:(∀io b,c≠.own io b)->eJ Y F n vs cs js->eJ Y F n (v::vs) (c::cs) js
 | own {a:Addr}{io:Bool}{b:Bx}{j:Nat}{vs:List V}{cs:List ak}{js:List (Nat×Bool)}:Y[j]? = some (some (.ref a))->(io=true->a=F.I₀ j)->j<n->eJ Y F n vs cs js->eJ Y F n (.ref a::vs) (.own true b::cs) ((j,io)::js)
section
variable{K:Frag}{F:Fx}{H H':Hp}{Y:St}{U:al}{O O':List Addr}
theorem qx(st:aC K F H Y U O):∀(as:List AX) (l:List V) (t:List ak) (u:List (Nat×Bool)),gy U as=some (t,u)->cF Y (ay O H) l as->
  ∃f O',aC K (F.plus f.flatten) H Y (eI u U) O'/\aU K H O' l t f/\aP O H O' H/\aP O' H O H/\(∀a∈f.flatten,a∈F.A₀\/F.H₀ a=none)/\eJ Y F U.length l t u
 | [],l,t,u,e,h=>by cases e;cases h;refine⟨[],O,st,.nil,.refl,.refl,?_,.nil⟩;intro a h;cases h
 | .d x::as,l,t,u,e,h=>by
  cases h with
  | d y G=>
   unfold gy at e;cases q:gy U as with
   | none=>rw[q] at e;cases e
   | some p=>obtain⟨k,g⟩:=p;rw[q] at e;simp only[Option.some.injEq,Prod.mk.injEq] at e;obtain⟨T,X⟩:=e;obtain⟨f,O',m,r,o,B,C,D⟩:=qx st as _ k g q G;subst T X;exact⟨[]::f,O',m,.dat (DV.mono o.hid y) r,o,B,C,.skip (fun _ _ z=>by cases z) D⟩
 | .s j::as,l,t,u,e,h=>by
  cases h with
  | @s v _ l _ y G=>
   unfold gy at e;cases q:gy U as with
   | none=>rw[q] at e;cases e
   | some p=>
    obtain⟨k,g⟩:=p;rw[q] at e;obtain⟨f,O',m,r,o,B,C,D⟩:=qx st as _ k g q G;cases w:U[j]? with
    | none=>rw[w] at e;cases e
    | some Z=>
     cases Z with
     | none=>rw[w] at e;cases e
     | some c=>
      rw[w] at e;obtain⟨W,I,J⟩:=id st;obtain⟨E,a0,h1,h2,h3⟩:=I.at_ j c w;rw[y] at h1;have ev:E = v:=by cases h1;rfl
      subst ev;rw[<-J] at h3;have other:(∀io b,c≠.own io b)->∃f O',aC K (F.plus f.flatten) H Y (eI g U) O'/\aU K H O' (E::l) (c::k) f/\aP O H O' H/\aP O' H O H/\(∀a∈f.flatten,a∈F.A₀\/F.H₀ a=none)/\eJ Y F U.length (E::l) (c::k) g:=fun N=>by
       refine⟨[]::f,O',m,?_,o,B,C,.skip N D⟩;cases c with
       | dat d=>exact .dat (DV.mono o.hid h3) r
       | own io b=>exact absurd rfl (N io b)
       | scr ns=>exact .oth (fun _ z=>by cases z) (fun _ _ z=>by cases z) (dG.keep (c:=.scr ns) (fp:=[]) h3 o (fun _ _=>rfl) (fun _ _ _ e=>e)) r
       | exc n=>exact .oth (fun _ z=>by cases z) (fun _ _ z=>by cases z) (dG.keep (c:=.exc n) (fp:=[]) h3 o (fun _ _=>rfl) (fun _ _ _ e=>e)) r
       | vw n=>exact .oth (fun _ z=>by cases z) (fun _ _ z=>by cases z) (dG.keep (c:=.vw n) (fp:=[]) h3 o (fun _ _=>rfl) (fun _ _ _ e=>e)) r
      cases c with
      | dat d=>simp only[Option.some.injEq,Prod.mk.injEq] at e;rw[<-e.1,<-e.2];exact other (fun _ _ z=>by cases z)
      | scr ns=>simp only[Option.some.injEq,Prod.mk.injEq] at e;rw[<-e.1,<-e.2];exact other (fun _ _ z=>by cases z)
      | exc n=>simp only[Option.some.injEq,Prod.mk.injEq] at e;rw[<-e.1,<-e.2];exact other (fun _ _ z=>by cases z)
      | vw n=>simp only[Option.some.injEq,Prod.mk.injEq] at e;rw[<-e.1,<-e.2];exact other (fun _ _ z=>by cases z)
      | own io b=>
       by_cases L:g.any (fun p=>p.1==j)=true
       ·simp only[if_pos L] at e;cases e
       ·simp only[if_neg L,Option.some.injEq,Prod.mk.injEq] at e;rw[<-e.1,<-e.2];have M:∀p∈g,p.1≠j:=fun p hp z=>L (List.any_eq_true.mpr ⟨p,hp,by simp[z]⟩);obtain⟨a,fp,O2,Q,R,t3,S,t5,t6,t7⟩:=m.take (i:=j) (io:=io) (b:=b) (by rw[JN M];exact w);rw[y] at Q;have ev:E = .ref a:=by cases Q;rfl
        subst ev;rw[Fx.plus_plus] at R;refine⟨fp::f,O2,R,.own t3 (r.mono S),o.trans S,t5.trans B,fun x A=>?_,.own y t7 (List.getElem?_eq_some_iff.mp w).1 D⟩;rcases List.mem_append.mp A with A | A
        ·exact t6 x A
        ·exact C x A
theorem qy{fp:List Addr}{n:Nat}{m:List V}{o:List ak}{p:List (Nat×Bool)}(u:eJ Y F n m o p):∀{d:List Bx}{e:List (List Addr)}{U:al}{O:List Addr},U.length=n->aC K (F.plus (e.flatten++fp)) H Y U O->aT H O m o d e->(∀a∈e.flatten,a∈F.A₀\/F.H₀ a=none)->
  ∃O',aC K (F.plus fp) H Y (cG p d U) O'/\aP O H O' H:=by
 induction u with
 | nil=>intro d e U O h st f k;cases f;exact⟨O,st,.refl⟩
 | skip g _ q=>
  intro d e U O h st f k;cases f with
  | skip _ f=>exact q h st f k
  | own _ _=>exact absurd rfl (g _ _)
 | @own a io b j m o p h1 h2 h3 u q=>
  intro d e U O h st f k;cases f with
  | skip g _=>exact absurd rfl (g _ _)
  | @own _ _ _ A f1 _ _ bs B hb f=>
   have r:aC K ((F.plus (B.flatten++fp)).plus f1) H Y U O:=by rw[Fx.plus_plus,<-List.append_assoc];exact st
   obtain⟨G,l,w⟩:=aC.put1 (io:=true) (c:=.own io A) (v:=.ref a) (i:=j) r ⟨a,rfl,hb⟩ (fun x s=>k x (by rw[List.flatten_cons];exact bf _ s)) (by rw[h];exact h3) (fun b z=>by cases z;rw[h2 rfl];rfl);have C:Y.set j (some (.ref a))=Y:=by
    apply List.ext_getElem?;intro i
    by_cases y:i=j
    ·subst y;rw[List.getElem?_set_self (List.getElem?_eq_some_iff.mp h1).1,h1]
    ·rw[List.getElem?_set_ne (Ne.symm y)]
   rw[C] at l;obtain⟨D,t,E⟩:=q (by rw[List.length_set];exact h) l (f.mono w) (fun x s=>k x (by rw[List.flatten_cons];exact bb _ s));exact⟨D,t,w.trans E⟩
end
def fY(f:FM)(E:Str->al->Prop)(Q:ak->al->Prop)(as:List AX)(U:al):Prop:=match gy U as with
 | some (d,b)=>(match f d with
  | .rt c a=>Q c (cG b a (eI b U))
  | .ex c a=>E c (cG b a (eI b U))
  | .bad=>False)
 | none=>False
noncomputable def va(f:FM)(E:Str->al->Prop)(t:gx):gP:=fun U Q=>t U fun as a=>fY f E Q as a
section
variable{X:Cx}{F:Fx}{e:Expr}{es:List Expr}{tX:gx}{E:Str->al->Prop}{pos p:Pos}{x:Str}{f:FM}{k:Nat}{g:Addr}{fd:FuncData}{ps:List Str}
theorem Ao{Q b:ak->al->Prop}{as:List AX}{U:al}(h:∀c d,Q c d->b c d)(q:fY f E Q as U):fY f E b as U:=by
 unfold fY at q ⊢;split
 ·rename_i i j e;rw[e] at q;simp only at q;split
  ·rename_i a;rw[a] at q;exact h _ _ q
  ·rename_i a;rw[a] at q;exact q
  ·rename_i a;rw[a] at q;exact q
 ·rename_i e;rw[e] at q;exact q
theorem vb{m:List (Addr×Obj)}{Y:St}{H:Hp}{s:Shared}{Q:VK}{us:List Value}{vs:List V}{as:List AX}{U:al}{O:List Addr}{QC:ak->al->Prop}(hx:dO X F E)(G:az X.prog X.w X.K X.mg X.base (ba X.prog X.w) k g fd ps (bc X.K X.mg f))(hr:br k X.A)(hb:gM X.K fd ps [])
  (I:Inv X m Y H s) (r:bh vs us) (st:aC X.K F H Y U O) (ax:cF Y (ay O H) vs as) (q:fY f E QC as U) (hQ:∀c L,QC c L->∀v b S M,gr X.K F b Y L S v c M->aP O H S b->Q v b) :
  wpAny (model X.prog X.w) X.A (call (.ref g) us) (EP X m Y Q) X.xe s:=by
 unfold fY at q;cases hc:gy U as with
 | none=>rw[hc] at q;exact q.elim
 | some p=>
  obtain⟨cs,js⟩:=p;rw[hc] at q;simp only at q;obtain⟨i,O2,T,ar,s1,a6,nw,ja⟩:=qx st as vs cs js hc ax;obtain⟨W,y,Z⟩:=id T;have a2:(W.flatten++(i.flatten++F.O₀)).Nodup:=y.nd;have l:∀a,a∈O2↔a∈i.flatten++(W.flatten++F.O₀):=fun a=>by
   rw[Z];show a∈W.flatten++(i.flatten++F.O₀)↔_;simp only[List.mem_append];constructor
   ·rintro(h | h | h)<;>simp[h]
   ·rintro(h | h | h)<;>simp[h]
  have perm:(i.flatten++(W.flatten++F.O₀)).Perm (W.flatten++(i.flatten++F.O₀)):=by rw[<-List.append_assoc,<-List.append_assoc];exact List.Perm.append_right _ List.perm_append_comm
  have a0:(i.flatten++(W.flatten++F.O₀)).Nodup:=perm.nodup_iff.mpr a2;have a3:aP O2 H (i.flatten++(W.flatten++F.O₀)) H:=fH fun a h=>(l a).mpr h;have N:∀(b:Hp) (n:List Addr) (a:Addr),(a∈n++(W.flatten++F.O₀))->a∈n\/(a∈O2/\a∉i.flatten):=fun b n a h=>by
   rcases List.mem_append.mp h with h | h
   ·exact .inl h
   ·refine .inr ⟨(l a).mpr (bb _ h),fun z=>?_⟩;exact(List.nodup_append.mp a0).2.2 a z a h rfl
  have j:∀(b:Hp) (n:List Addr),fX H b i.flatten n (W.flatten++F.O₀)->∃B,aC X.K (F.plus n) b Y (eI js U) B/\aP O2 H B b/\∀a,a∈B↔a∈n++(W.flatten++F.O₀):=fun b n t=>by
   obtain⟨B,t1,t2,t3,t4,t5⟩:=T.swap (H':=b) (L':=n) t.keep (List.nodup_append.mp t.nd).1 t.new nw t.live;refine⟨B,t1,t2,fun a=>⟨fun h=>?_,fun h=>?_⟩⟩
   ·rcases t4 a h with z | ⟨z1,z2⟩
    ·exact bf _ z
    ·rcases List.mem_append.mp ((l a).mp z1) with z | z
     ·exact absurd z z2
     ·exact bb _ z
   ·rcases N b n a h with z | ⟨z1,z2⟩
    ·exact t3 a z
    ·exact t5 a z1 z2
  have r2:bh (vs++[]) (us++[]):=by rw[List.append_nil,List.append_nil];exact r
  let EX:XK:=fun C _ b=>∃c L S,X.mg c=some C/\aC X.K F b Y L S/\E c L;have sp:bc X.K X.mg f vs H Q EX:=by
   refine⟨hx.1.at st,cs,i,W.flatten++F.O₀,ar.mono a3,a0,fun a h=>?_,?_⟩
   ·exact y.live a (by have:=(l a).mpr h;rw[Z] at this;exact this)
   ·cases hf:f cs with
    | bad=>rw[hf] at q;exact q
    | rt c a1=>
     rw[hf] at q;simp only at q ⊢;intro v b M d a4 R t;obtain⟨B,t1,t2,t3⟩:=j b (d.flatten++M) t;have D:aP (d.flatten++M++(W.flatten++F.O₀)) b B b:=fH fun a h=>(t3 a).mp h;have J:∀a∈d.flatten++M,a∈F.A₀\/F.H₀ a=none:=fun a h=>by
      rcases t.new a h with z | z
      ·exact nw a z
      ·by_cases hA:a∈F.A₀
       ·exact .inl hA
       ·refine .inr ?_;cases e:F.H₀ a with
        | none=>rfl
        | some o=>have:=y.kept a o hA e;rw[z] at this;cases this
     have lj:(eI js U).length=U.length:=qw;obtain⟨O4,u1,u2⟩:=qy (fp:=M) ja lj t1 (R.mono D) fun a h=>J a (bf _ h);exact hQ c _ q v b O4 M ⟨u1,a4.keep (D.trans u2) (fun _ _=>rfl) (fun _ _ _ e=>e),fun a h=>J a (bb _ h)⟩ (s1.trans (t2.trans u2))
    | ex c a1=>
     rw[hf] at q;simp only at q ⊢;intro C b d hm R t;obtain⟨B,t1,t2,t3⟩:=j b d.flatten t;have D:aP (d.flatten++(W.flatten++F.O₀)) b B b:=fH fun a h=>(t3 a).mp h;have J:∀a∈d.flatten,a∈F.A₀\/F.H₀ a=none:=fun a h=>by
      rcases t.new a h with z | z
      ·exact nw a z
      ·by_cases hA:a∈F.A₀
       ·exact .inl hA
       ·refine .inr ?_;cases e:F.H₀ a with
        | none=>rfl
        | some o=>have:=y.kept a o hA e;rw[z] at this;cases this
     have lj:(eI js U).length=U.length:=qw;obtain⟨O4,u1,u2⟩:=qy (fp:=[]) ja lj (by rw[List.append_nil];exact t1) (R.mono D) J;exact⟨c,_,O4,hm,u1,q⟩
  have hl:(us++[]).length=ps.length:=by rw[List.append_nil,<-r.length];exact G.len _ _ _ _ sp
  refine wpAny_call (codeAny_mono (G.run X.A X.stack s H ⟨us,[]⟩ us vs Q EX hr I.env0 (by have:=hb s us I.kIn hl;rw[List.append_nil] at this;exact this) r sp) fun r s' hq=>?_);cases r with
  | error e=>obtain⟨a,C,b,e1,I',cv,ex,c,L,S,hm,a5,hE⟩:=I.flies hq;exact hx.2 m Y b s' e c L S ⟨I',a,C,s.heap,_,e1,cv,ex,hm⟩ a5 hE
  | ok fl=>
   cases fl with
   | ret u=>exact I.after hq
   | next=>exact False.elim hq
   | brk=>exact False.elim hq
   | cont=>exact False.elim hq
theorem JO(L:dO X F E)(G:az X.prog X.w X.K X.mg X.base (ba X.prog X.w) k g fd ps (bc X.K X.mg f))(M:br k X.A)(N:Gl X x)(R:X.mg x=some (.ref g))(S:keepIn X.K (.ref g)=true)(hb:gM X.K fd ps [])
  (o:DX X F (e::es) tX) (t:(x==("__debug__":Str))=false:=by decide) (T:starEach (e::es) X.env=(false,eval e X.env)::starEach es X.env:=by rfl) (u:(backTo pos (starEach es X.env)).any (·.1)=false:=by rfl) :
  DO X F (.Call (.Name x p) (e::es) [] pos) (va f E tX):=by
 refine⟨fun U Q Q' k q=>o.mn _ _ _ (fun as b i=>Ao k i) q,fun j s Y H Q I ⟨U,O,st,q⟩=>?_⟩;refine wpAny_Call_Name_kw (lX I N R ?_ t);refine PySem.W.callWith_K (h₀:=X.base) I.ok.mod.kin S (aK (o.pa pos j s Y H (fun y l=>∃as b d,aC X.K F l Y b d/\aP O H d l/\cF Y (ay d l) y as/\fY f E (fun c D=>∀v m n z,gr X.K F m Y D n v c z->aP O H n m->Q v m) as b) I ⟨U,O,st,o.mn _ _ _ (fun as b i y l d a J B=>⟨as,b,d,a,J,B,i⟩) q⟩) fun us J ⟨y,l,I1,r,as,b,d,a,C,B,i⟩=>⟨I1.kIn,?_⟩) T u;exact vb L G M hb I1 r a B i fun c D h v m n z res Z=>h v m n z res (C.trans Z)
end
def kZ(H:Hp)(O:List Addr):Prop:=∀a∈O,∃o,H a=some o/\Mv o
theorem kZ.nofree{H:Hp}{O:List Addr}(h:kZ H O):∀p,H p=none->p∉O:=fun p a z=>by obtain⟨o,e,_⟩:=h p z;rw[a] at e;cases e
theorem aC.live{K:Frag}{F:Fx}{H:Hp}{Y:St}{U:al}{O:List Addr}(st:aC K F H Y U O):kZ H O:=by obtain⟨W,h,rfl⟩:=st;exact h.live
abbrev ff:=al->(List PyData->al->Prop)->Prop
def Wk(O:List Addr)(H:Hp)(J:It)(c:List PyData):Prop:=∀e b,aP O H e b->kZ b e->
 (∀i d,c[i]? = some d->J.go i b/\∀x a,J.yld i b x a->bV b a/\DV (ay e a) x d)/\J.stop c.length b
noncomputable def nX(K:Frag)(F:Fx)(s:ff):TI:=fun Y H R=>∃U O,aC K F H Y U O/\s U fun b d=>∀J a c,aC K F a Y d c->aP O H c a->Wk c a J b->R J a
structure DI (X:Cx) (F:Fx) (tg iter:Expr) (s:ff):Prop where
 mn:∀U Q Q',(∀d U',Q d U'->Q' d U')->s U Q->s U Q'
 pi:PI X tg iter (nX X.K F s)
theorem _root_.L2.PI.imp{X:Cx}{b e:Expr}{t t':TI}(h:PI X b e t)(k:∀Y H Q,t' Y H Q->t Y H Q):PI X b e t':=fun a s Y H Q I q=>h a s Y H Q I (k Y H Q q)
section
variable{X:Cx}{F:Fx}{tg e a b:Expr}{te:DT}{tA:dI}{pos p:Pos}
noncomputable def iL(te:DT):ff:=fun U Q=>te U fun d f=>∃c,d=.list c/\Q c f
noncomputable def iT(te:DT):ff:=fun U Q=>te U fun d f=>∃c,d=.tuple c/\Q c f
theorem JP{K:Frag}{O:List Addr}{H:Hp}{a:Addr}{c:List V}{j:List PyData}(k:ay O H a=some (.lst c))(hd:aQ (ay O H) c j):Wk O H (um K a) j:=fun t u s ok=>by obtain⟨r,l⟩:=cP k;have h2:=s.keep a _ l r;have f:=aQ.mono s.hid hd;refine⟨fun i d e=>?_,⟨c,.of h2,by rw[hd.length];exact bG _⟩⟩;obtain⟨v,g,m⟩:=f.get e;refine⟨⟨c,v,.of h2,g⟩,fun x n ⟨o,q⟩=>?_⟩;subst o;have:=q c (.of h2);rw[g] at this;cases this;exact⟨fun _ _ h=>h,m⟩
theorem JQ{K:Frag}{O:List Addr}{H:Hp}{a:Addr}{c:List V}{k:List PyData}(l:Rd (ay O H) a (.tup c))(hd:aQ (ay O H) c k):Wk O H (uo K a) k:=fun w m s ok=>by
 obtain⟨u,g⟩:=jP l;have h2:Rd m a (.tup c):=u.imp (fun e=>s.keep a _ g e) fun⟨o,e⟩=>⟨o,s.keep a _ g e⟩
 have f:=aQ.mono s.hid hd;refine⟨fun i d e=>?_,⟨c,.inl h2,by rw[hd.length];exact bG _⟩⟩;obtain⟨v,j,n⟩:=f.get e;refine⟨⟨c,v,.inl h2,j⟩,fun x q ⟨r,t⟩=>?_⟩;subst r;have:=t c (.inl h2);rw[j] at this;cases this;exact⟨fun _ _ h=>h,n⟩
theorem JR(h:DE X F e te):DI X F tg e (iL te):=
 ⟨fun _ _ _ k q=>h.mn _ _ _ (fun _ _ ⟨g,e,q⟩=>⟨g,e,k _ _ q⟩) q,(FF h.pe).imp fun Y H R ⟨U,O,st,q⟩=>
  ⟨U,O,st,h.mn _ _ _ (fun d r ⟨g,e,i⟩ v j l c m n=>by
   subst e;obtain⟨a,o,rfl,f,hd⟩:=n.lst_inv;exact⟨a,rfl,⟨o,.of (cP f).1⟩,i _ j l c m (JP f hd)⟩) q⟩⟩
theorem JS(h:DE X F e te):DI X F tg e (iT te):=
 ⟨fun _ _ _ k q=>h.mn _ _ _ (fun _ _ ⟨g,e,q⟩=>⟨g,e,k _ _ q⟩) q,(FH h.pe).imp fun Y H R ⟨U,O,st,q⟩=>
  ⟨U,O,st,h.mn _ _ _ (fun d r ⟨g,e,i⟩ v j l c m n=>by
   subst e;obtain⟨a,o,rfl,f,hd⟩:=n.tup_inv;exact⟨a,rfl,⟨o,.inl (jP f).1⟩,i _ j l c m (JQ f hd)⟩) q⟩⟩
noncomputable def intsFrom(lo:Int)(n:Nat):List PyData:=(List.range n).map fun(i:Nat)=>PyData.int (lo+i)
theorem qA(lo:Int)(n:Nat):(intsFrom lo n).length=n:=by unfold intsFrom;rw[List.length_map,List.length_range]
theorem JT{O:List Addr}{H:Hp}{lo:Int}{n:Nat}:Wk O H (pZ lo n) (intsFrom lo n):=fun q r s ok=>by refine⟨fun i d e=>?_,by show n<=(intsFrom lo n).length;rw[qA];exact bG _⟩;unfold intsFrom at e;rw[List.getElem?_map] at e;obtain⟨j,g,k⟩:=Option.map_eq_some_iff.mp e;obtain⟨c,f⟩:=List.getElem?_eq_some_iff.mp g;rw[List.length_range] at c;rw[List.getElem_range] at f;subst f k;exact⟨c,fun x l ⟨m,o⟩=>by subst m o;exact⟨fun _ _ h=>h,.int _⟩⟩
noncomputable def Ap(t:dI):ff:=fun U Q=>t U fun d c=>∃j:Int,d=[.int j]/\-(2 ^ 62)<=j/\j<2 ^ 62/\Q (intsFrom 0 j.toNat) c
theorem qC(g:Gl X "range")(h:X.mg "range" = none)(c:DA X F [a] tA)(i:starEach [a] X.env=[(false,eval a X.env)]:=by rfl):DI X F tg (.Call (.Name "range" p) [a] [] pos) (Ap tA):=
 ⟨fun _ _ _ k q=>c.mn _ _ _ (fun _ _ ⟨j,e,h1,h2,q⟩=>⟨j,e,h1,h2,k _ _ q⟩) q,(FL g h c.pa i).imp fun Y H R ⟨U,O,st,q⟩=>
  ⟨U,O,st,c.mn _ _ _ (fun v t ⟨j,e,h1,h2,l⟩ u m n f o s=>by
   subst e;cases s with
   | cons d r=>
    cases r;obtain rfl:=d.int_inv;exact⟨j,rfl,h1,h2,l _ m n f o JT⟩) q⟩⟩
noncomputable def numbered(c:List PyData):List PyData:=c.mapIdx fun i d=>PyData.tuple [.int i,d]
noncomputable def iE(t:dI):ff:=fun U Q=>t U fun f d=>∃c,f=[.list c]/\Q (numbered c) d
theorem JU{c:List Expr}{z:Nat}{f:Pos}(A:Gl X "enumerate")(B:X.mg "enumerate" = none)(l:DA X F [a] tA)(C:starEach [a] X.env=[(false,eval a X.env)]:=by rfl):DI X F (.Tuple c z f) (.Call (.Name "enumerate" p) [a] [] pos) (iE tA):=
 ⟨fun _ _ _ k q=>l.mn _ _ _ (fun _ _ ⟨j,e,q⟩=>⟨j,e,k _ _ q⟩) q,(Ik A B l.pa C).imp fun Y H R ⟨U,O,st,q⟩=>
  ⟨U,O,st,l.mn _ _ _ (fun ds U1 ⟨es,e,m⟩ vs D E n G I=>by
   subst e;cases I with
   | cons d r=>
    cases r;obtain⟨a,h,rfl,J,hd⟩:=d.lst_inv;obtain⟨g,o⟩:=cP J;refine⟨a,h,rfl,.of g,m _ D E n G fun O' H' s ok=>?_⟩;have h2:=s.keep a _ o g;have t:=aQ.mono s.hid hd;refine⟨fun i d e=>?_,⟨h,.of h2,by unfold numbered;rw[List.length_mapIdx,hd.length];exact bG _⟩⟩;unfold numbered at e;rw[List.getElem?_mapIdx] at e;obtain⟨d0,L,M⟩:=Option.map_eq_some_iff.mp e;subst M;obtain⟨v,w,N⟩:=t.get L;refine⟨⟨h,v,.of h2,w⟩,fun x Q ⟨T,y,m,u,S,Z⟩=>?_⟩;subst m S;have:=Z h (.of h2);rw[w] at this;cases this;exact⟨bP u,qt u (ok.nofree T u) (.cons (.int _) (.cons N .nil))⟩) q⟩⟩
end
noncomputable def JV(s:ff)(g:eG)(c:dQ):dQ:=fun D U=>s U fun a e=>∃b:Nat->al->Prop,b 0 e/\(∀i d U,a[i]? = some d->b i U->g d U fun f=>c { D with nx:=b (i+1),ct:=b (i+1),bk:=D.nx } f)/\∀U,b a.length U->D.nx U
section
variable{X:Cx}{F:Fx}{tg iter:Expr}{body:List Stmt}{s:ff}{g:eG}{tb:dQ}{pos:Pos}
theorem JW(hp:PassesOwn (model X.prog X.w) X.A X.env X.xe)(hc:X.calm=true)(hi:DI X F tg iter s)(hg:DG X F tg g)(hb:gu X F body tb)(hs:∀x,foldedSetIterable iter X.env x=pure x:=by intro _;rfl):DS X F (.For tg iter body [] pos) (JV s g tb):=
 (FR hp hc hi.pi hg.pg hb hs).imp fun D Y H ⟨U,O,DD,st,q,f⟩=>by
  refine⟨U,O,st,hi.mn _ _ _ (fun a U1 ⟨I,i0,step,fin⟩ J L y M N wk=>?_) q⟩;refine⟨fun i m Q z=>∃l u,aC X.K F z Q l u/\aP y L u z/\I i l/\i<=a.length/\m=a.length - i,⟨a.length,U1,y,M,.refl,i0,Nat.zero_le _,rfl⟩,?_⟩;rintro i m Q z ⟨l,u,n,R,iv,a2,rfl⟩;obtain⟨w1,w2⟩:=wk u z R n.live
  by_cases o:i<a.length
  ·obtain⟨go,yld⟩:=w1 i a[i] (List.getElem?_eq_getElem o);refine .inr ⟨go,fun Y2 B=>∃c p,aC X.K F B Y2 c p/\aP y L p B/\I (i+1) c,fun Y2 B ⟨c,p,S,s2,T⟩=>⟨a.length - (i+1),by omega,c,p,S,s2,T,o,rfl⟩,fun x B hy=>?_⟩;obtain⟨sm,dv⟩:=yld x B hy;refine⟨l,u,a[i],n.grow sm,dv,hg.mn _ _ _ _ (fun c q2 Y3 H3 Z a0 s3=>?_) (step i a[i] l (List.getElem?_eq_getElem o) iv)⟩;have r:aP y L Z H3:=R.trans ((aP.same sm).trans s3);have C:∀t h j k,aC X.K F h t j k->aP Z H3 k h->I (i+1) j->∃c p,aC X.K F h t c p/\aP y L p h/\I (i+1) c:=fun t h j k b E G=>⟨j,k,b,r.trans E,G⟩
   exact⟨c,Z,_,a0,q2,⟨C,fun v t h d j k a1 b E G=>f.rt v t h d j k a1 b (N.trans (r.trans E)) G,fun t h j k b E G=>f.nx t h j k b (N.trans (r.trans E)) G,C⟩⟩
  ·have e:i=a.length:=by omega
   subst e;exact .inl ⟨w2,f.nx Q z l u n (N.trans R) (fin l iv)⟩
end
@[simp] noncomputable def nY:Option (Option ak)->Option ak
 | some (some (.dat d))=>some (.dat d)
 | some (some (.scr ns))=>some (.scr ns)
 | some (some (.vw b))=>some (.vw b)
 | _=>none
noncomputable def cw(own:List Str)(a:List Nat)(U:al):al:=own.map (fun _=>none)++a.map fun j=>nY U[j]?
noncomputable def nZ(own:List Str)(f:List Nat)(s:ff)(g:eG)(l:cX)(m:DT):DT:=fun U Q=>s U fun c j=>∃e:Nat->List PyData->al->Prop,e 0 [] (cw own f j)/\
 (∀i d a h,c[i]? = some d->e i a h->g d h fun n=>l n fun b k=>if b=true then m k fun y o=>a.length<sizeLine/\e (i+1) (a++[y]) o else e (i+1) a k)/\
 ∀a h,e c.length a h->a.length<=sizeLine/\Q (.list a) j
def oa(s:ff):Prop:=∀U Q a,(∀d b,Q d b->a d b)->s U Q->s U a
section
variable{K:Frag}{F:Fx}{own:List Str}{caps:List Nat}{s:ff}{g:eG}{tc:cX}{te:DT}
theorem vc(c:oa s):Mn (nZ own caps s g tc te):=fun _ _ _ k q=>c _ _ _ (fun _ _ ⟨d,e,h1,h2⟩=>⟨d,e,h1,fun a b h=>⟨(h2 a b h).1,k _ _ (h2 a b h).2⟩⟩) q
theorem Aq{N:Fx->Prop}(Z:∀r Y w k O2,aC K F r Y w k->N ⟨r,[],O2,fun _=>0⟩)(hs:oa s)(hg:∀d U Q Q',(∀t,Q t->Q' t)->g d U Q->g d U Q')(ht:jV tc)(he:Mn te):∀Y H Q,gO K F (nZ own caps s g tc te) Y H Q->
  ml own caps (nX K F s) (fun v Y H Q=>∃A,N A/\nV K A g v Y H Q) (fun Y H Q=>∃A,N A/\kW K A tc Y H Q) (fun Y H Q=>∃A,N A/\gO K A te Y H Q) Y H Q:=fun Y H Q ⟨U,O,st,q⟩=>by
 refine⟨U,O,st,hs _ _ _ (fun f w ⟨Iv,i0,step,fin⟩ J r k l s1 wk=>?_) q⟩;refine⟨fun i m ys Y' G=>∃t D C,aC K ⟨r,[],k,fun _=>0⟩ G Y' t D/\Iv i C t/\aQ (ay D G) ys C/\i<=f.length/\m=f.length - i,⟨f.length,cw own caps w,k,[],?_,i0,.nil,Nat.zero_le _,rfl⟩,?_⟩
 ·have cell:∀(i:Nat) (c:ak),(cw own caps w)[i]? = some (some c)->(∀io b,c≠.own io b)/\∃v,(dF own caps Y)[i]? = some (some v)/\dG K r k v c []:=fun i c e=>by
   unfold cw at e;unfold dF
   by_cases R:i<own.length
   ·rw[List.getElem?_append_left (by simpa using R),List.getElem?_map] at e;cases h:own[i]? with
    | none=>rw[h] at e;cases e
    | some y=>rw[h] at e;cases e
   ·rw[List.getElem?_append_right (by simpa using Nat.le_of_not_lt R),List.length_map,List.getElem?_map] at e;rw[List.getElem?_append_right (by simpa using Nat.le_of_not_lt R),List.length_map,List.getElem?_map];obtain⟨j,h1,h2⟩:=Option.map_eq_some_iff.mp e;rw[h1];show _/\∃v,some ((Y[j]?).getD none)=some (some v)/\_;cases h3:w[j]? with
    | none=>rw[h3] at h2;cases h2
    | some o=>
     cases o with
     | none=>rw[h3] at h2;cases h2
     | some c'=>
      rw[h3] at h2;obtain⟨W,E,rfl⟩:=id l;obtain⟨v,fp,e1,_,I⟩:=E.at_ j c' h3;rw[e1];cases c' with
      | dat d=>cases h2;exact⟨(fun _ _ z=>by cases z),v,rfl,I⟩
      | scr ns=>cases h2;exact⟨(fun _ _ z=>by cases z),v,rfl,I⟩
      | own _ _=>cases h2
      | exc _=>cases h2
      | vw b=>cases h2;exact⟨(fun _ _ z=>by cases z),v,rfl,I⟩
  obtain⟨W,E,a0⟩:=id l;have ln:(cw own caps w).length=(dF own caps Y).length:=by unfold cw dF;simp
  have S:(List.replicate (cw own caps w).length ([]:List Addr)).flatten++k=k:=by rw[mr];rfl
  refine⟨List.replicate (cw own caps w).length [],⟨fun i c e=>?_,by show(_++k).Nodup;rw[S,a0];exact E.nd,fun _ _ _ h=>h,fun a h=>?_,by show kZ r (_++k);rw[S];exact l.live,ln,by simp,fun i b e=>absurd rfl ((cell i _ e).1 true b)⟩,S.symm⟩
  ·obtain⟨_,v,e1,I⟩:=cell i c e;refine⟨v,[],e1,?_,by show dG K r (_++k) v c [];rw[S];exact I⟩;rw[List.getElem?_replicate,if_pos (List.getElem?_eq_some_iff.mp e).1]
  ·rw[mr] at h;cases h
 ·rintro i m ys Y' G ⟨t,D,C,n,iv,dv,R,rfl⟩;have sm:bV r G:=fun b o e=>by obtain⟨W',T,_⟩:=id n;exact T.kept b o (by simp) e
  have a1:aP k r D G:=⟨fun b o _ e=>sm b o e,fun a h=>by
   obtain⟨W',T,rfl⟩:=id n;rcases List.mem_append.mp h with h | h
   ·exact(T.new a h).elim (fun z=>absurd z (by simp)) .inr
   ·exact .inl h⟩
  have B:∀a∈k,a∈D:=fun a h=>by obtain⟨W',T,rfl⟩:=id n;exact bb _ h
  obtain⟨w1,w2⟩:=wk D G a1 n.live
  by_cases u:i<f.length
  ·obtain⟨go,yld⟩:=w1 i f[i] (List.getElem?_eq_getElem u);refine .inr ⟨go,fun x H2 hy=>?_⟩;obtain⟨L,dx⟩:=yld x H2 hy;refine⟨⟨r,[],k,fun _=>0⟩,Z _ _ _ _ _ l,t,D,f[i],n.grow L,dx,hg _ _ _ _ (fun U2 q2 Y3 H3 O3 a2 s3=>?_) (step i f[i] C t (List.getElem?_eq_getElem u) iv)⟩;refine⟨⟨r,[],k,fun _=>0⟩,Z _ _ _ _ _ l,U2,O3,a2,ht _ _ _ (fun b U3 q3 H4 O4 M s4=>?_) q2⟩;have d4:aQ (ay O4 H4) ys C:=aQ.mono s4.hid (aQ.mono s3.hid (aQ.mono (jQ L) dv));cases b with
   | false=>exact eW ⟨f.length - (i+1),by omega,U3,O4,C,M,jU q3,d4,u,rfl⟩
   | true=>refine eX ⟨⟨r,[],k,fun _=>0⟩,Z _ _ _ _ _ l,U3,O4,M,he _ _ _ (fun y U4 q4 v H5 O5 a3 s5 dy=>?_) (jT q3)⟩;refine⟨by rw[d4.length];exact q4.1,f.length - (i+1),by omega,U4,O5,C++[y],a3,q4.2,(aQ.mono s5.hid d4).append (.cons dy .nil),u,rfl⟩
  ·have e:i=f.length:=by omega
   subst e;obtain⟨hz,q⟩:=fin C t iv;refine .inl ⟨w2,by rw[dv.length];exact hz,fun p X=>?_⟩;have a4:=n.nofree p X;exact q _ _ k (l.grow fun b o e=>bP X _ _ (sm b o e)) (s1.trans (.same fun b o e=>bP X _ _ (sm b o e))) (kU X (fun z=>a4 (B p z)) (aQ.mono (nM B) dv))
end
def og(X:Cx)(F:Fx)(a:List Expr)(t:cX):Prop:=jV t/\mj X a (kW X.K F t)
noncomputable def JX:cX:=fun U Q=>Q true U
theorem JY{X:Cx}{F:Fx}:og X F [] JX:=⟨fun _ _ _ k q=>k _ _ q,fun a s Y H Q I ⟨U,O,st,q⟩=>HN a s Y H Q I (q H O st .refl)⟩
theorem JZ{X:Cx}{F:Fx}{c:Expr}{t:cX}(h:DB X F c t):og X F [c] t:=⟨h.mn,HP h.pt⟩
section
variable{X:Cx}{F:Fx}{scope:Scope}{own capN:List Str}{caps:List Nat}{tg iter elt:Expr}{ifs:List Expr}{s:ff}{g:eG}{tc:cX}{te:DT}{pos:Pos}
theorem Ka(k:GF X.mg F)(S:aq X scope own capN caps)(l:X.calm=true)(j:DI X F tg iter s)
  (c:∀C d e f h b,GF X.mg b->DG (cg X scope (own++capN) C d e f h) b tg g/\og (cg X scope (own++capN) C d e f h) b ifs tc/\DE (cg X scope (own++capN) C d e f h) b elt te)
  (m:∀x,foldedSetIterable iter X.env x=pure x:=by intro _;rfl):DE X F (.ListComp elt [⟨tg,iter,ifs,0⟩] scope pos) (nZ own caps s g tc te):=by
 have t:Fx:=F;obtain⟨n,o,p⟩:=c 0 [] (PySem.start X.prog).1 (fun _=>none) [] F k;refine⟨vc j.mn,(zN S l j.pi (fun C d e f h=>⟨fun a s Y H v u Q I r ⟨b,i,q⟩=>(c C d e f h b i).1.pg a s Y H v u Q I r q,fun a s Y H Q I ⟨b,i,q⟩=>(c C d e f h b i).2.1.2 a s Y H Q I q,fun a s Y H Q I ⟨b,i,q⟩=>(c C d e f h b i).2.2.pe a s Y H Q I q⟩) m).imp (Aq (fun _ _ _ _ _ st=>k.into st) j.mn n.mn o.1 p.mn)⟩
theorem Kb{i:Nat}{y:Str}{py e:Pos}(z:X.N.Nodup)(n:X.N[i]? = some y)(A:fQ X.env.scope y)(w:GF X.mg F)(S:aq X scope own capN caps)(B:X.calm=true)(o:DI X F tg iter s)
  (c:∀C h j k l b,GF X.mg b->DG (cg X scope (own++capN) C h j k l) b tg g/\og (cg X scope (own++capN) C h j k l) b ifs tc/\DE (cg X scope (own++capN) C h j k l) b elt te)
  (p:swapsWith (.ListComp elt [⟨tg,iter,ifs,0⟩] scope pos) (some (.Name y py)) e.line X.env=pure true:=by rfl)
  (E:∀x,foldedSetIterable iter X.env x=pure x:=by intro _;rfl) (G:X.fn y=true\/X.env.scope.names.lookup y=some .local:=by first | exact .inl rfl | exact .inr rfl | assumption) :
  DS X F (.Assign [.Name y py] (.ListComp elt [⟨tg,iter,ifs,0⟩] scope pos) e) (uX (nZ own caps s g tc te) (gN i)):=by
 obtain⟨J,L,M⟩:=c 0 [] (PySem.start X.prog).1 (fun _=>none) [] F w;refine(HQ z n A S B o.pi (fun C h j k l=>⟨fun a s Y H v u Q I r ⟨b,m,q⟩=>(c C h j k l b m).1.pg a s Y H v u Q I r q,fun a s Y H Q I ⟨b,m,q⟩=>(c C h j k l b m).2.1.2 a s Y H Q I q,fun a s Y H Q I ⟨b,m,q⟩=>(c C h j k l b m).2.2.pe a s Y H Q I q⟩) p E G).imp
  fun D Y H ⟨U,O,DD,st,q,f⟩=>Aq (fun _ _ _ _ _ st=>w.into st) o.mn J.mn L.1 M.mn Y H _ ⟨U,O,st,vc o.mn _ _ _ (fun d U1 R v T Z t s1 d1=>f.nx _ T _ Z (t.set d1) s1 R) q⟩
end
end L2.L3
namespace L2
open PySem PySem.Spec PyProof.Rows
section
variable{X:Cx}{pins:List (Addr×Obj)}{Y:St}{H:Hp}{s:Shared}
theorem Inv.track{a:Addr}{o:HO}(I:Inv X pins Y H s)(f:fA X pins H a)(new:cq X.prog X.w (aM H a o) s.heap a o):Inv X pins Y (aM H a o) s:=by
 have g:=f.1;refine I.step (h':=s.heap) (g':=s.gens) (d':=s.drawn) (t':=s.toks) (ch:=[a]) (fun b h=>by obtain rfl:=List.mem_singleton.mp h;exact⟨f.2.2.2.1,f.2.1,f.2.2.2.2.1,f.2.2.2.2.2⟩) (fun b d _ _ _ e _=>e) (fun b d _ _ _ e _=>⟨d.slots,e⟩)
  (fun b d i _ n=>by rw[bi (fun z=>i (by simp[z]))];exact n) (fun b d _ e=>⟨d,e⟩) (fun b j e=>bP g b _ e) (fun b d u e=>bP g b _ e) (fun b l e=>⟨#[],by rw[bP g b _ e];simp⟩) (fun m k=>k) (fun b u e=>?_) I.bare
 by_cases h:b=a
 ·subst h;rw[cj] at e;cases e;exact new
 ·rw[bi h] at e;exact(I.hok b u e).stay (fun _ _ _ q=>q) (fun c q=>bP g c _ q) fun c j q=>bP g c _ q
end
theorem oh{x y z:V}{a:List Value}(r:bh [x,y,z] a):∃u v w,a=[u,v,w]/\bn x u/\bn y v/\bn z w:=by
 cases r with
 | cons b r=>cases r with
  | cons c r=>cases r with
   | cons d r=>cases r;exact⟨_,_,_,rfl,b,c,d⟩
section
variable{X:Cx}{a b c:Expr}{t:TA}{pos p1 p2 pos2:Pos}
noncomputable def Kc(t:TA):TE:=fun Y H Q=>t Y H fun n d=>∃k l m e g h,n=[.ref k,.ref l,.ref m]/\d k=some (.lst e)/\d l=some (.lst g)/\d m=some (.lst h)/\g.length=e.length/\h.length=e.length/\0<e.length/\
 ∀p f (j:List Addr),bV d f->d p=none->f p=some (.lst (j.map V.ref))->j.length=e.length->(∀(i:Nat) (q:Addr),j[i]? = some q->∃x y z,e[i]? = some x/\g[i]? = some y/\h[i]? = some z/\d q=none/\f q=some (.tup [x,y,z]))->Q (.ref p) f
theorem Ar:∀{acc:List Value},(∀(j:Nat) (w:Value),acc[j]? = some w->∃T,w=Value.ref T)->∃d:List Addr,acc=d.map Value.ref
 | [],_=>⟨[],rfl⟩
 | v::r,h=>by obtain⟨T,e⟩:=h 0 v rfl;obtain⟨d,f⟩:=Ar (acc:=r) fun j w e=>h (j+1) w (by simpa using e);exact⟨T::d,by rw[f,e];rfl⟩
theorem Kd{h:Heap}{n:Addr}{f g i:Array Value}{d:List Value}(t:qk h n f g i d):∃k:List Addr,d=k.map Value.ref:=
 Ar fun j w e=>by obtain⟨T,_,_,_,e,_⟩:=t j w e;exact⟨T,e⟩
theorem Ke(hc:X.calm=true)(c1:Gl X "list")(c2:X.mg "list" = none)(c3:Gl X "zip")(c4:X.mg "zip" = none)(ha:PA X [a,b,c] t)
  (he:starEach [.Call (.Name "zip" p2) [a,b,c] [] pos2] X.env=[(false,eval (.Call (.Name "zip" p2) [a,b,c] [] pos2) X.env)]:=by rfl)
  (hs:starEach [a,b,c] X.env=(false,eval a X.env)::starEach [b,c] X.env:=by rfl) (c5:(backTo pos2 (starEach [b,c] X.env)).any (·.1)=false:=by rfl) :
  PE X (.Call (.Name "list" p1) [.Call (.Name "zip" p2) [a,b,c] [] pos2] [] pos) (Kc t):=by
 intro g s Y H Q I h;refine wpAny_Call_Name_kw (jO I c1 c2 (show bootBuiltins "list" = some (.type "list") by decide +kernel) ?_ (by decide) (by decide));refine PyProof.Rows.callWith_type1 ?_ (by rw[he];rfl) rfl;rw[he];show wpAny _ _ (spliced [(false,eval (.Call (.Name "zip" p2) [a,b,c] [] pos2) X.env)]) _ _ s;refine Calls.spliced_cons ?_;refine wpAny_Call_Name_kw (jO I c3 c4 boot_zip ?_ (by decide) (by decide));refine PyProof.Rows.callWith_type1 (aK (ha pos2 g s Y H _ I h) fun us d ⟨vs,B,I1,r1,q1⟩=>?_) hs c5;obtain⟨l1,l2,l3,A,R,S,rfl,h1,N,h3,e2,e3,e5,q⟩:=q1;obtain⟨u1,u2,u3,rfl,c6,c7,c8⟩:=oh r1;cases c6;cases c7;cases c8;obtain⟨z1,U,n1,Z,g1⟩:=I1.hok _ _ h1;obtain⟨z2,a0,n2,a6,g2⟩:=I1.hok _ _ N;obtain⟨z3,a7,n3,a8,g3⟩:=I1.hok _ _ h3;have L1:d.heap.IsList l1 U.toArray:=⟨_,g1,rfl,_,rfl⟩
 have a9:d.heap.IsList l2 a0.toArray:=⟨_,g2,rfl,_,rfl⟩
 have b0:d.heap.IsList l3 a7.toArray:=⟨_,g3,rfl,_,rfl⟩
 have b1:=Z.length;have e6:=a6.length;have e7:=a8.length;refine Ia L1 a9 b0 fun v hz c9 d0 vK d1 d2 d3 hk=>?_;refine Calls.spliced_nil ?_;have b2:l1<d.heap.objs.size:=bq g1;have b3:l2<d.heap.objs.size:=bq g2;have b4:l3<d.heap.objs.size:=bq g3;have nd:[d.heap.objs.size+5,d.heap.objs.size+3,d.heap.objs.size+4,d.heap.objs.size,d.heap.objs.size+1,d.heap.objs.size+2].Nodup:=by generalize d.heap.objs.size=n;simp only[List.nodup_cons,List.mem_cons,List.not_mem_nil,or_false,not_or,not_false_eq_true,and_true,List.nodup_nil];refine⟨⟨?_,?_,?_,?_,?_⟩,⟨?_,?_,?_,?_⟩,⟨?_,?_,?_⟩,⟨?_,?_⟩,?_⟩<;>exact(by intro e;exact absurd (show(_:Nat)=_ from e) (by omega))
 have ge:∀j∈[d.heap.objs.size+5,d.heap.objs.size+3,d.heap.objs.size+4,d.heap.objs.size,d.heap.objs.size+1,d.heap.objs.size+2],d.heap.objs.size<=j:=fun j w=>by
  simp only[List.mem_cons,List.not_mem_nil,or_false] at w;rcases w with rfl | rfl | rfl | rfl | rfl | rfl
  ·exact Nat.le_add_right _ _
  ·exact Nat.le_add_right _ _
  ·exact Nat.le_add_right _ _
  ·exact bG _
  ·exact Nat.le_add_right _ _
  ·exact Nat.le_add_right _ _
 have I2:Inv X g Y B { d with heap:=v }:=I1.kept (t':=d.toks) hk;refine Ib (s:={ d with heap:=v }) (I1.ok.hd hc) nd (fun l hl j w=>?_) (fun j w=>?_) hz c9 d0 vK d1 d2 (L1.at fun o e=>hk _ _ e) (a9.at fun o e=>hk _ _ e) (b0.at fun o e=>hk _ _ e)
  (by simp only[List.size_toArray];omega) (by simp only[List.size_toArray];omega) (by simp only[List.size_toArray];omega) (by simp only[List.size_toArray];omega) fun N e8 cc vL hS hl tr=>?_
 ·simp only[List.mem_cons,List.not_mem_nil,or_false] at hl;rcases hl with rfl | rfl | rfl
  ·exact Nat.ne_of_lt (Nat.lt_of_lt_of_le b2 (ge j w))
  ·exact Nat.ne_of_lt (Nat.lt_of_lt_of_le b3 (ge j w))
  ·exact Nat.ne_of_lt (Nat.lt_of_lt_of_le b4 (ge j w))
 ·show j<v.objs.size;rw[d3];simp only[List.mem_cons,List.not_mem_nil,or_false] at w;generalize d.heap.objs.size=n at *;rcases w with rfl | rfl | rfl | rfl | rfl | rfl | rfl | rfl | rfl
  ·exact Nat.lt_succ_self _
  ·exact Nat.add_lt_add_left (show(3:Nat)<6 by decide) _
  ·exact Nat.add_lt_add_left (show(4:Nat)<6 by decide) _
  ·exact Nat.lt_add_of_pos_right (by decide)
  ·exact Nat.add_lt_add_left (show(1:Nat)<6 by decide) _
  ·exact Nat.add_lt_add_left (show(2:Nat)<6 by decide) _
  ·exact Nat.lt_of_lt_of_le b2 (Nat.le_add_right _ _)
  ·exact Nat.lt_of_lt_of_le b3 (Nat.le_add_right _ _)
  ·exact Nat.lt_of_lt_of_le b4 (Nat.le_add_right _ _)
 ·
  have kp:∀b ob,d.heap.get? b=some ob->N.get? b=some ob:=fun b ob e=>vL b ob (fun z=>absurd (ge b (by
   simp only[List.mem_cons,List.not_mem_nil,or_false] at z ⊢;rcases z with z | z | z | z | z<;>simp[z])) (Nat.not_le.mpr (bq e))) (hk b ob e)
  have I3:Inv X g Y B { d with heap:=N }:=I1.kept (t':=d.toks) kp;obtain⟨f,C⟩:=Kd tr;have big:∀b,v.objs.size<=b->fA X g B b:=fun b O=>I2.fpOk O (I2.hok.fresh O);have D:f.length=A.length:=by have:=congrArg List.length C;rw[List.length_map] at this;rw[<-this,hl,List.size_toArray];exact b1.symm
  have vq:∀f:List Addr,bh (f.map V.ref) (f.map Value.ref):=fun f=>by
   induction f with
   | nil=>exact .nil
   | cons q r ih=>exact .cons rfl ih
  have I4:Inv X g Y (aM B v.objs.size (.lst (f.map V.ref))) { d with heap:=N }:=I3.track (big _ (bG _)) ⟨by rw[List.length_map,D];exact z1,_,_,vq f,by rw[<-C];exact hS⟩;have all:∀k,k<=f.length->∃u,bV B u/\Inv X g Y u { d with heap:=N }/\u v.objs.size=some (.lst (f.map V.ref))/\(∀b,v.objs.size<b->u b=none\/∃row,u b=some (.tup row))/\
    ∀(i:Nat) (q:Addr),i<k->f[i]? = some q->∃x y z,A[i]? = some x/\R[i]? = some y/\S[i]? = some z/\B q=none/\u q=some (.tup [x,y,z]):=fun k=>by
   induction k with
   | zero=>exact fun _=>⟨_,bP (big _ (bG _)).1,I4,cj,fun b O=>.inl (by rw[bi (Nat.ne_of_gt O)];exact(big b (Nat.le_of_lt O)).1),fun i q h=>absurd h (Nat.not_lt_zero _)⟩
   | succ k ih=>
    intro b5;obtain⟨u,sm,J,hp,E,m⟩:=ih (Nat.le_of_succ_le b5);have b6:k<f.length:=b5;have G:f[k]? = some f[k]:=List.getElem?_eq_getElem b6;obtain⟨T,x',y',u',eT,hT,b7,ex,ey,eu⟩:=tr k (.ref f[k]) (by rw[C,List.getElem?_map,G];rfl);cases eT;have p:v.objs.size<f[k]:=hT;have kx:k<A.length:=by rw[<-D];exact b6
    have vx:A[k]? = some A[k]:=List.getElem?_eq_getElem kx;have vy:R[k]? = some (R[k]'(by omega)):=List.getElem?_eq_getElem (by omega);have vz:S[k]? = some (S[k]'(by omega)):=List.getElem?_eq_getElem (by omega);obtain⟨w1,d4,d5⟩:=Z.get vx;obtain⟨w2,d6,d7⟩:=a6.get vy;obtain⟨w3,d8,d9⟩:=a8.get vz;have e1:x' = w1:=by simp only[List.getElem?_toArray] at ex;rw[d4] at ex;exact(Option.some.inj ex).symm
    have e0:y' = w2:=by simp only[List.getElem?_toArray] at ey;rw[d6] at ey;exact(Option.some.inj ey).symm
    have e4:u' = w3:=by simp only[List.getElem?_toArray] at eu;rw[d8] at eu;exact(Option.some.inj eu).symm
    subst e1 e0 e4;have rel:bh [A[k],R[k]'(by omega),S[k]'(by omega)] [x',y',u']:=.cons d5 (.cons d7 (.cons d9 .nil));have b8:B f[k]=none:=(big _ (Nat.le_of_lt p)).1;rcases E f[k] p with hn | ⟨row,hr⟩
    ·refine⟨aM u f[k] (.tup [A[k],R[k]'(by omega),S[k]'(by omega)]),fun b o e=>bP hn _ _ (sm b o e),J.track ⟨hn,(big _ (Nat.le_of_lt p)).2⟩ ⟨by show 3<=sizeLine;decide,_,rel,⟨_,b7,rfl,_,rfl⟩⟩,
      by rw[bi (Nat.ne_of_lt p)];exact hp,fun b O=>?_,fun i q L M=>?_⟩
     ·by_cases e:b=f[k]
      ·subst e;exact .inr ⟨_,cj⟩
      ·rw[bi e];exact E b O
     ·rcases Nat.lt_succ_iff_lt_or_eq.mp L with L | rfl
      ·obtain⟨x,y,z,a1,a2,a3,a4,a5⟩:=m i q L M;exact⟨x,y,z,a1,a2,a3,a4,bP hn _ _ a5⟩
      ·rw[G] at M;cases M;exact⟨_,_,_,vx,vy,vz,b8,cj⟩
    ·have same:row=[A[k],R[k]'(by omega),S[k]'(by omega)]:=by
      obtain⟨_,b9,rv,o,eo,co,n,dn⟩:=J.hok _ _ hr;have c0:N.get? f[k]=some o:=eo;rw[b7] at c0;cases c0;have d':(#[x',y',u']:Array Value)=b9.toArray:=by injection dn
      have:b9=[x',y',u']:=by have:=congrArg Array.toList d';simpa using this.symm
      subst this;exact rv.inj rel
     refine⟨u,sm,J,hp,E,fun i q L M=>?_⟩;rcases Nat.lt_succ_iff_lt_or_eq.mp L with L | rfl
     ·exact m i q L M
     ·rw[G] at M;cases M;exact⟨_,_,_,vx,vy,vz,b8,by rw[hr,same]⟩
  obtain⟨u,sm,J,hp,_,m⟩:=all f.length (bG _);exact⟨.ref v.objs.size,u,J,rfl,q v.objs.size u f sm (big _ (bG _)).1 hp D fun i qq e=>m i qq (List.getElem?_eq_some_iff.mp e).1 e⟩
theorem Kf(E:X.calm=true):gL X (.builtin "all") (fun p H Q=>∃(l:Addr) (bs:List Bool),p=[.ref l]/\H l=some (.lst (bs.map V.bl))/\Q (.bl (bs.all id)) H):=by
 intro y s Y H p U Q I r h;obtain⟨l,bs,rfl,G,q⟩:=h;obtain⟨u,rfl,ru⟩:=cV r;cases ru;obtain⟨z,d,n,B,e⟩:=I.hok _ _ G;have L:s.heap.IsList l d.toArray:=⟨_,e,rfl,_,rfl⟩
 have f:l<s.heap.objs.size:=bq e;have len:=B.length;rw[List.length_map] at len;refine call_all_walk (wpAny_pyIter_list L ?_);refine⟨s.heap.objs.size,_,_,_,_,_,fun i=>bs.getD i true,rfl,Walks.list (A:=X.A.in1) (show X.A.in1.handled=none from I.ok.hd E) s.heap.objs.size l (Nat.ne_of_lt f) d.toArray,⟨⟨_,Heap.get?_push_size _ rfl,rfl,rfl⟩,L.push _⟩,?_,fun Z tk J=>?_⟩
 ·intro i v M N E' O k;have g:d[i]? = some v:=by simpa using O
  have f:i<bs.length:=by rw[len];exact(List.getElem?_eq_some_iff.mp g).1
  obtain⟨w,C,m⟩:=B.get (i:=i) (x:=.bl bs[i]) (by rw[List.getElem?_map,List.getElem?_eq_getElem f];rfl);rw[g] at C;cases C;cases m;refine wpAny_truthy_bool ?_;have:bs.getD i true=bs[i]:=by simp[List.getD,f]
  have k:N (bs.getD i true) M:=k;rw[this] at k;exact k
 ·have R:(List.range d.toArray.size).all (fun i=>bs.getD i true)=bs.all id:=by
   rw[List.size_toArray,<-len];rw[Bool.eq_iff_iff,List.all_eq_true,List.all_eq_true];constructor
   ·intro h b T;obtain⟨i,g,rfl⟩:=List.getElem_of_mem T;have:=h i (List.mem_range.mpr g);simpa[List.getD,g] using this
   ·intro h i g;have j:=List.mem_range.mp g;have:=h bs[i] (List.getElem_mem j);simpa[List.getD,j] using this
  rw[R];exact⟨.bl (bs.all id),H,I.kept fun b o D=>J b o (fun S=>absurd (bq D) (by rw[List.mem_singleton.mp S];exact Nat.lt_irrefl _)) (bv _ D),rfl,q⟩
end
end L2
namespace L2.L3
open PySem PySem.Spec PyProof.Rows
noncomputable def As:DN:=fun b Q=>∃a,(b=[.list a]\/b=[.tuple a])/\Q (.int a.length)
theorem oi{K:Frag}:jw (fun xs H Q=>∃p ys,xs=[.ref p]/\(cJ K H p ys\/fR K H p ys)/\Q (.int ys.length) H) As where
 mn:=fun _ _ _ k ⟨ds,e,q⟩=>⟨ds,e,k _ q⟩
 ok:=fun O H vs xs Q hO hd ⟨ds,e,q⟩=>by
  rcases e with rfl | rfl
  ·cases hd with
   | cons d r=>cases r;obtain⟨a,ys,rfl,ha,hy⟩:=d.lst_inv;exact⟨a,ys,rfl,.inl (.of (cP ha).1),by rw[hy.length];exact q _ H (fun _ _ h=>h) (.int _)⟩
  ·cases hd with
   | cons d r=>cases r;obtain⟨a,ys,rfl,ha,hy⟩:=d.tup_inv;exact⟨a,ys,rfl,.inr (.inl (jP ha).1),by rw[hy.length];exact q _ H (fun _ _ h=>h) (.int _)⟩
theorem vd{H:Hp}{c:List V}{a b:PyData}(h:aQ H c [a,b]):∃x y,c=[x,y]/\DV H x a/\DV H y b:=by cases h with | cons d r=>cases r with | cons e r=>cases r;exact⟨_,_,rfl,d,e⟩
theorem jy{H:Hp}{b:List V}{a:PyData}(h:aQ H b [a]):∃x,b=[x]/\DV H x a:=by cases h with | cons d r=>cases r;exact⟨_,rfl,d⟩
theorem ve{H:Hp}{f:List V}{a b c:PyData}(h:aQ H f [a,b,c]):∃x y z,f=[x,y,z]/\DV H x a/\DV H y b/\DV H z c:=by cases h with | cons d r=>cases r with | cons g r=>cases r with | cons e r=>cases r;exact⟨_,_,_,rfl,d,g,e⟩
noncomputable def At:DN:=fun a Q=>∃i j:Int,a=[.int i,.int j]/\Q (.int (max i j))
theorem Au:jw (fun xs H Q=>∃i j,xs=[.int i,.int j]/\Q (.int (if j>i then j else i)) H) At where
 mn:=fun _ _ _ k ⟨i,j,e,q⟩=>⟨i,j,e,k _ q⟩
 ok:=fun O H vs xs Q hO hd ⟨i,j,e,q⟩=>by
  subst e;obtain⟨x,y,rfl,h1,h2⟩:=vd hd;have e:(if j>i then j else i)=max i j:=by split<;>omega
  exact⟨i,j,by rw[h1.int_inv,h2.int_inv],by rw[e];exact q _ H (fun _ _ h=>h) (.int _)⟩
noncomputable def Av:DN:=fun b Q=>(∃a,b=[.list a]/\Q (.tuple a))\/∃a,b=[.tuple a]/\Q (.tuple a)
theorem vf{K:Frag}:jw (fun xs H Q=>∃p ys,xs=[.ref p]/\((cJ K H p ys/\∀l,H l=none->Q (.ref l) (aM H l (.tup ys)))\/(fR K H p ys/\Q (.ref p) H))) Av where
 mn:=fun _ _ _ k q=>q.imp (fun⟨i,e,q⟩=>⟨i,e,k _ q⟩) fun⟨i,e,q⟩=>⟨i,e,k _ q⟩
 ok:=fun O H vs xs Q hO hd q=>by
  rcases q with⟨ds,e,q⟩ | ⟨ds,e,q⟩
  ·subst e;obtain⟨x,rfl,h1⟩:=jy hd;obtain⟨a,ys,rfl,ha,hy⟩:=h1.lst_inv;exact⟨a,ys,rfl,.inl ⟨.of (cP ha).1,fun p hp=>q _ _ (bP hp) (qt hp (hO p hp) hy)⟩⟩
  ·subst e;obtain⟨x,rfl,h1⟩:=jy hd;obtain⟨a,ys,e,ha,hy⟩:=h1.tup_inv;subst e;exact⟨a,ys,rfl,.inr ⟨.inl (jP ha).1,q _ H (fun _ _ h=>h) h1⟩⟩
noncomputable def Aw:DN:=fun a Q=>∃bs:List Bool,a=[.list (bs.map .bool)]/\Q (.bool (bs.all id))
theorem vg{H:Hp}:∀{bs:List Bool}{a:List V},aQ H a (bs.map PyData.bool)->a=bs.map V.bl
 | [],_,h=>by cases h;rfl
 | b::r,_,h=>by
  cases h with
  | cons d q=>rw[d.bl_inv,vg q];rfl
theorem Kg:jw (fun xs H Q=>∃(l:Addr) (bs:List Bool),xs=[.ref l]/\H l=some (.lst (bs.map V.bl))/\Q (.bl (bs.all id)) H) Aw where
 mn:=fun _ _ _ k ⟨bs,e,q⟩=>⟨bs,e,k _ q⟩
 ok:=fun O H vs xs Q hO hd ⟨bs,e,q⟩=>by subst e;obtain⟨x,rfl,h1⟩:=jy hd;obtain⟨a,ys,rfl,ha,hy⟩:=h1.lst_inv;exact⟨a,bs,rfl,by rw[(cP ha).1,vg hy],q _ H (fun _ _ h=>h) (.bl _)⟩
noncomputable def oj(as bs a:List PyData):List PyData:=(as.zip (bs.zip a)).map fun q=>PyData.tuple [q.1,q.2.1,q.2.2]
noncomputable def Ax(t:dI):DT:=fun U Q=>t U fun c b=>∃as bs a,c=[.list as,.list bs,.list a]/\bs.length=as.length/\a.length=as.length/\0<as.length/\Q (.list (oj as bs a)) b
theorem Ay:∀{H:Hp}{a:List V}{b:List PyData},a.length=b.length->(∀(i:Nat) v d,a[i]? = some v->b[i]? = some d->DV H v d)->aQ H a b
 | _,[],[],_,_=>.nil
 | _,[],_::_,e,_=>by cases e
 | _,_::_,[],e,_=>by cases e
 | H,v::a,d::b,e,h=>.cons (h 0 v d rfl rfl) (Ay (by simpa using e) fun i c f g j=>h (i+1) c f (by simpa using g) (by simpa using j))
section
variable{X:Cx}{F:Fx}{a b c e:Expr}{te:DT}{tA:dI}{pos p1 p2 pos2:Pos}
theorem Kh(Z:X.calm=true)(o:Gl X "list")(r:X.mg "list" = none)(s:Gl X "zip")(t:X.mg "zip" = none)(u:DA X F [a,b,c] tA)
  (he:starEach [.Call (.Name "zip" p2) [a,b,c] [] pos2] X.env=[(false,eval (.Call (.Name "zip" p2) [a,b,c] [] pos2) X.env)]:=by rfl)
  (hs:starEach [a,b,c] X.env=(false,eval a X.env)::starEach [b,c] X.env:=by rfl) (w:(backTo pos2 (starEach [b,c] X.env)).any (·.1)=false:=by rfl) :
  DE X F (.Call (.Name "list" p1) [.Call (.Name "zip" p2) [a,b,c] [] pos2] [] pos) (Ax tA):=
 ⟨fun _ _ _ k q=>u.mn _ _ _ (fun _ _ ⟨x,y,z,e,h1,h2,h3,q⟩=>⟨x,y,z,e,h1,h2,h3,k _ _ q⟩) q,(Ke Z o r s t u.pa he hs w).imp fun Y H Q ⟨U,O,st,q⟩=>
  ⟨U,O,st,u.mn _ _ _ (fun ds U1 ⟨as,bs,cs,e,l1,l2,l3,q1⟩ vs H1 A g s1 B=>by
   subst e;obtain⟨x,y,z,rfl,h1,h2,h3⟩:=ve B;obtain⟨a1,xs,rfl,C,h⟩:=h1.lst_inv;obtain⟨a2,ys,rfl,D,M⟩:=h2.lst_inv;obtain⟨a3,zs,rfl,E,N⟩:=h3.lst_inv;refine⟨a1,a2,a3,xs,ys,zs,rfl,(cP C).1,(cP D).1,(cP E).1,by rw[h.length,M.length];exact l1,by rw[h.length,N.length];exact l2,by rw[h.length];exact l3,fun p H2 qs G hp I hl j=>?_⟩;have R:∀b,H1 b=none->b∉A:=g.nofree;refine q1 _ H2 A (g.grow G) (s1.trans (.same G)) (.lst (ib I (R p hp)) (Ay ?_ fun i v d S J=>?_))
   ·unfold oj;rw[List.length_map,List.length_map,List.length_zip,List.length_zip,hl,h.length];omega
   ·rw[List.getElem?_map] at S;obtain⟨T,e3,e4⟩:=Option.map_eq_some_iff.mp S;subst e4;obtain⟨x,y,z,g1,g2,g3,g4,g5⟩:=j i T e3;unfold oj at J;rw[List.getElem?_map] at J;obtain⟨⟨d0,B,d2⟩,e5,e6⟩:=Option.map_eq_some_iff.mp J;subst e6;obtain⟨e7,e8⟩:=List.getElem?_zip_eq_some.mp e5;obtain⟨e9,L⟩:=List.getElem?_zip_eq_some.mp e8;obtain⟨dx,k1,k2⟩:=h.get' g1;obtain⟨dy,k3,k4⟩:=M.get' g2;obtain⟨dz,k5,k6⟩:=N.get' g3;have l:as[i]? = some d0:=e7;have n:bs[i]? = some B:=e9;have f:cs[i]? = some d2:=L;rw[k1] at l;rw[k3] at n;rw[k5] at f;cases l;cases n;cases f;have m:=jQ (O:=A) G;exact .tup (.inl (ib g5 (R T g4))) (.cons (DV.mono m k2) (.cons (DV.mono m k4) (.cons (DV.mono m k6) .nil)))) q⟩⟩
noncomputable def Az(te:DT)(k:Nat):DT:=fun U Q=>te U fun d g=>∃f,d=.list f/\Q (.list (f.drop k)) g
theorem Ki{k j:Nat}{x n:Pos}(l:DE X F e te):DE X F (.Subscript e (.Slice (some (.Constant (.int (k:Int)) j x)) none none n) pos) (Az te k):=
 ⟨fun _ _ _ k q=>l.mn _ _ _ (fun _ _ ⟨m,e,q⟩=>⟨m,e,k _ _ q⟩) q,(GW Hf l.pe (GU ug) GS).imp fun Y H Q ⟨U,O,st,q⟩=>
  ⟨U,O,st,l.mn _ _ _ (fun d y ⟨m,e,o⟩ v z r f s t=>by
   subst e;obtain⟨a,g,rfl,u,w⟩:=t.lst_inv;refine⟨(k:Int),rfl,a,g,rfl,.of (cP u).1,fun p i=>o _ _ r (f.grow (bP i)) (s.trans (.same (bP i))) (kU i (f.nofree p i) ?_)⟩;have:mi g (some (k:Int)) none=g.drop k:=by
    unfold mi;rw[HT.sIx_none,HT.sIx_nat]
    by_cases h:k<=g.length
    ·rw[Nat.min_eq_left h,List.take_of_length_le (by rw[List.length_drop];exact bG _)]
    ·rw[Nat.min_eq_right (by omega),List.drop_of_length_le (bG _),List.drop_of_length_le (by omega)];simp
   rw[this];exact w.drop k) q⟩⟩
end
section
variable{X:Cx}{F:Fx}{a b c e:Expr}{te:DT}{tA:dI}{pos p p1 p2 pos2:Pos}{x:Str}{i:Nat}
noncomputable def AA(i:Nat):DT:=fun U Q=>∃d,U[i]? = some (some (.scr d))/\(d.length<=63->Q (.int d.length) U)
theorem AB(l:Gl X "len")(m:X.mg "len" = none)(h:PE X (.Name x p1) (ca i))(g:starEach [.Name x p1] X.env=(false,eval (.Name x p1) X.env)::starEach [] X.env:=by rfl)(d:(backTo pos (starEach [] X.env)).any (·.1)=false:=by rfl) :
  DE X F (.Call (.Name "len" p) [.Name x p1] [] pos) (AA i):=
 ⟨fun _ _ _ k ⟨f,e,q⟩=>⟨f,e,fun h=>k _ _ (q h)⟩,(mf kQ l m PySem.boot_len (dE h er g) (by decide) (by decide) g d).imp fun Y H Q ⟨U,O,st,f,e,q⟩=>by
  obtain⟨o,n,j⟩:=st.scr e;refine⟨_,n,o,f.map V.int,rfl,.inl j.sq,?_⟩;rw[List.length_map];exact q j.1 _ H O st .refl (.int _)⟩
noncomputable def AC(i:Nat)(te:DT):DT:=fun U Q=>∃f,U[i]? = some (some (.scr f))/\te U fun d g=>∃k n,d=.int k/\bK f k=some n/\Q (.int n) g
theorem Kj{α β:Type}{g:α->β}{l:List α}{k:Int}{n:α}(h:bK l k=some n):bK (l.map g) k=some (g n):=by
 unfold bK at h ⊢;rw[List.length_map];cases q:dh l.length k with
 | none=>rw[q] at h;cases h
 | some j=>rw[q] at h;show(l.map g)[j]? = some (g n);rw[List.getElem?_map];have h:l[j]? = some n:=h;rw[h];rfl
theorem AD(h:PE X (.Name x p1) (ca i))(g:DE X F e te)(j:nK e):DE X F (.Subscript (.Name x p1) e pos) (AC i te):=
 ⟨fun _ _ _ k ⟨f,e,q⟩=>⟨f,e,g.mn _ _ _ (fun _ _ ⟨B,n,l,r,q⟩=>⟨B,n,l,r,k _ _ q⟩) q⟩,(uA uD h g.pe j).imp fun Y H Q ⟨U,O,st,f,e,q⟩=>by
  obtain⟨A,C,j⟩:=st.scr e;refine⟨_,C,U,O,st,g.mn _ _ _ (fun d I ⟨k,n,l,r,D⟩ w v E s y G=>?_) q⟩;subst l;have t:iH X.K v A f:=j.mono fun o u q=>y.keep _ _ (fun z=>by obtain⟨J,e,m⟩:=st.live _ z;rw[q] at e;cases e;exact m) q;exact⟨A,f.map V.int,k,.int n,rfl,G.int_inv,t.sq,Kj r,D _ v E s y (.int _)⟩⟩
noncomputable def Kk(K:Frag):R2:=fun x y H Q=>∃a b d,x=.ref a/\y=.ref b/\cJ K H a (d.map V.int)/\H b=some (.lst [])/\Q (.bl (decide (d=[]))) H
theorem AE{h:Heap}:∀{d:List Int}{f:List Value},bh (d.map V.int) f->∃as,ReadsAll h f (d.map PyData.int) as
 | [],_,r=>by cases r;exact⟨_,.nil⟩
 | n::d,_,r=>by
  cases r with
  | cons g r=>obtain⟨t,rfl⟩:=g;obtain⟨as,q⟩:=AE r;exact⟨_,.cons (.int n t) q⟩
theorem Kl(l:X.A.units+64<cLine):cK X (compareOp .Eq) (Kk X.K):=by
 intro g s Y H x y v u Q I m t h;obtain⟨a,b,d,rfl,rfl,h1,h2,q⟩:=h;cases m;cases t;obtain⟨w,z,⟨o,n,e,B,_,C⟩,L⟩:=I.list h1;obtain⟨_,j,M,f,D⟩:=I.hok _ _ h2;cases f;obtain⟨as,E⟩:=AE (h:=s.heap) z;have G:PyData.eqv (.list (d.map .int)) (.list [])=decide (d=[]):=by cases d<;>rfl
 refine eq_dataH (reads_list_at e B C (by simpa using E)) (reads_list_at (xs:=[]) D rfl rfl .nil) ?_ (by decide) l (by rw[G];exact⟨.bl _,H,I,rfl,q⟩);unfold SeqAt.shaped;have J:PyData.canLay0 (.list (d.map .int))=true:=by
  have:∀d:List Int,PyData.canLayAll0 (d.map .int)=true:=fun d=>by
   induction d with
   | nil=>rfl
   | cons n r k=>rw[List.map_cons];simp only[PyData.canLayAll0,PyData.canLay0,k,Bool.and_self]
  simp only[PyData.canLay0,this]
 have dp:PyData.depth (.list (d.map .int))<=64:=by
  have:∀d:List Int,PyData.depthAll (d.map .int)<=1:=fun d=>by
   induction d with
   | nil=>simp[PyData.depthAll]
   | cons n r k=>rw[List.map_cons];simp only[PyData.depthAll,PyData.depth];omega
  have:=this d;simp only[PyData.depth];omega
 rw[J,Bool.true_and];exact decide_eq_true dp
noncomputable def AF(i:Nat):cX:=fun U Q=>∃d,U[i]? = some (some (.scr d))/\Q (decide (d=[])) U
theorem Km{g:Pos}(j:X.A.units+64<cLine)(h:PE X (.Name x p1) (ca i)):DB X F (.Compare (.Name x p1) [.Eq] [.List [] g] pos) (AF i):=
 ⟨fun _ _ _ k ⟨f,e,q⟩=>⟨f,e,k _ _ q⟩,(yQ (Kl j) h (qd er) (bw _)).imp fun Y H Q ⟨U,O,st,f,e,q⟩=>by
  obtain⟨n,l,m⟩:=st.scr e;refine⟨_,l,Nat.zero_le _,fun p d=>⟨n,p,f,rfl,rfl,(bP d).seq m.sq,cj,_,rfl,q _ O (st.grow (bP d)) (.same (bP d))⟩⟩⟩
end
structure FD (K:Frag) (mg:Str->Option Value) (x:Str) (st:Stmt) (ps:List Str) (g:Addr) (fd:FuncData):Prop where
 fn:kR K x x st g fd
 mgf:mg x=some (.ref g)
 b:gM K fd ps []
section
variable{X:Cx}{scope:Scope}{own capN:List Str}{caps:List Nat}
theorem aq.of(h1:scope.kind=.function:=by rfl)(h2:(scope.names.all fun y=>scope.names.lookup y.1==some y.2)=true:=by rfl)
  (h3:(scope.names.all fun y=>y.2 != .free||(X.env.kindOf y.1==some .cell||X.env.kindOf y.1==some .free))=true:=by rfl)
  (h4:(scope.names.all fun y=>y.2 != .local||scope.names.lookup y.1==some .local)=true:=by rfl) (h5:caps.map (fun j=>X.N[j]?)=capN.map some:=by rfl)
  (h6:(capN.all fun x=>scope.names.lookup x==some .free)=true:=by rfl):aq X scope own capN caps where
 kind:=h1
 one:=fun y hy=>eq_of_beq (List.all_eq_true.mp h2 y hy)
 free:=fun y hy e=>by
  have:=List.all_eq_true.mp h3 y hy;rw[e] at this;rw[Bool.or_eq_true] at this;rcases this with z | z
  ·exact absurd z (by decide)
  ·rw[Bool.or_eq_true] at z;exact z.imp (fun z=>eq_of_beq z) fun z=>eq_of_beq z
 loc:=fun y hy e=>by
  have:=List.all_eq_true.mp h4 y hy;rw[e] at this;rw[Bool.or_eq_true] at this;rcases this with z | z
  ·exact absurd z (by decide)
  ·exact eq_of_beq z
 caps:=h5
 capf:=fun x hx=>eq_of_beq (List.all_eq_true.mp h6 x hx)
end
section
variable{X:Cx}{F:Fx}{a b c e:Expr}{ta tb tc:DT}{pos:Pos}
noncomputable abbrev qI(g:Int->Int->Int):D2:=fI (fun _ _=>True) fun i j=>.int (g i j)
noncomputable abbrev qB(g:Int->Int->Bool):D2:=fI (fun _ _=>True) fun i j=>.bool (g i j)
theorem Kn(d:DE X F a ta)(f:DE X F b tb):DE X F (.BinOp a .Add b pos) (cQ (qI fun i j=>i+j) ta tb):=kT FY (jS fun _ _ _=>.int _) d f
theorem Ko(d:DE X F a ta)(f:DE X F b tb):DE X F (.BinOp a .Sub b pos) (cQ (qI fun i j=>i - j) ta tb):=kT FZ (jS fun _ _ _=>.int _) d f
theorem Kp(d:DE X F a ta)(f:DE X F b tb):DE X F (.BinOp a .Mult b pos) (cQ (fI nI fun i j=>.int (i * j)) ta tb):=kT Ga (uR fun _ _ _=>.int _) d f
theorem Kq(d:DE X F a ta)(f:DE X F b tb):DE X F (.BinOp a .FloorDiv b pos) (cQ (fI uw fun i j=>.int (i / j)) ta tb):=kT Gb (uR fun _ _ _=>.int _) d f
theorem Kr(d:DE X F a ta)(f:DE X F b tb):DE X F (.BinOp a .Mod b pos) (cQ (fI (fun _ j=>0<j) fun i j=>.int (i % j)) ta tb):=kT Gc (uR fun _ _ _=>.int _) d f
theorem Ks(d:DE X F a ta)(f:DE X F b tb):DE X F (.BinOp a .Add b pos) (cQ uU ta tb):=kT Hq Ir d f
theorem Kt(d:DE X F a ta)(f:DE X F b tb):DE X F (.Compare a [.Lt] [b] pos) (cQ (qB fun i j=>decide (i<j)) ta tb):=mq yM (jS fun _ _ _=>.bl _) d f (bw _)
theorem Ku(d:DE X F a ta)(f:DE X F b tb):DE X F (.Compare a [.LtE] [b] pos) (cQ (qB fun i j=>decide (i<=j)) ta tb):=mq qa (jS fun _ _ _=>.bl _) d f (bw _)
theorem Kv(d:DE X F a ta)(f:DE X F b tb):DE X F (.Compare a [.Gt] [b] pos) (cQ (qB fun i j=>decide (j<i)) ta tb):=mq yN (jS fun _ _ _=>.bl _) d f (bw _)
theorem Kw(d:DE X F a ta)(f:DE X F b tb):DB X F (.Compare a [.Lt] [b] pos) (fV (cQ (qB fun i j=>decide (i<j)) ta tb)):=kX yM (jS fun _ _ _=>.bl _) d f (bw _)
theorem Kx(d:DE X F a ta)(f:DE X F b tb):DB X F (.Compare a [.LtE] [b] pos) (fV (cQ (qB fun i j=>decide (i<=j)) ta tb)):=kX qa (jS fun _ _ _=>.bl _) d f (bw _)
theorem Ky(d:DE X F a ta)(f:DE X F b tb):DB X F (.Compare a [.Gt] [b] pos) (fV (cQ (qB fun i j=>decide (j<i)) ta tb)):=kX yN (jS fun _ _ _=>.bl _) d f (bw _)
theorem Kz(d:X.A.units+64<cLine)(f:DE X F a ta)(g:DE X F b tb):DE X F (.Compare a [.Eq] [b] pos) (cQ (nQ false) ta tb):=mq (zP d) uS f g (bw _)
theorem KA(d:X.A.units+64<cLine)(f:DE X F a ta)(g:DE X F b tb):DB X F (.Compare a [.Eq] [b] pos) (fV (cQ (nQ false) ta tb)):=kX (zP d) uS f g (bw _)
theorem KB(d:X.A.units+64<cLine)(f:DE X F a ta)(g:DE X F b tb):DB X F (.Compare a [.NotEq] [b] pos) (fV (cQ (nQ true) ta tb)):=kX (Ie d) uS f g (bw _)
theorem KC(d:DE X F a ta)(f:DE X F b tb):DE X F (.Compare a [.Is] [b] pos) (cQ qr ta tb):=mq yO zT d f (bw _)
theorem KD(d:DE X F a ta)(f:DE X F b tb):DB X F (.Compare a [.Is] [b] pos) (fV (cQ qr ta tb)):=kX yO zT d f (bw _)
theorem KE(d:DE X F a ta)(f:DE X F b tb):DB X F (.Compare a [.IsNot] [b] pos) (fV (cQ uT ta tb)):=kX yP zU d f (bw _)
theorem KG(d:DE X F a ta)(h:DE X F b tb)(f:DE X F c tc)(g:lastMarks [.LtE,.LtE] [b,c]=false:=by with_unfolding_all rfl):DE X F (.Compare a [.LtE,.LtE] [b,c] pos) (uV (fun i j=>decide (i<=j)) (fun i j=>decide (i<=j)) ta tb tc):=IM qa qa d h f g
theorem dR{x:Str}{i:Int}{t:Tok}(d:Gl X x)(f:X.mg x=some (.int i t))(hd:(x==("__debug__":Str))=false:=by decide):DE X F (.Name x pos) (dC (.int i)):=nO (v:=.int i) (pV d f ⟨t,rfl⟩ hd) fun _=>.int i
mutual
theorem AG:∀(d:PyData),d.canLay0=true->PyData.eqv d d=true
 | .none,_=>rfl
 | .bool b,_=>by simp[PyData.eqv]
 | .int i,_=>by simp[PyData.eqv]
 | .str s,_=>by simp[PyData.eqv]
 | .list xs,h=>by rw[PyData.eqv];exact vh xs (by simpa[PyData.canLay0] using h)
 | .tuple xs,h=>by rw[PyData.eqv];exact vh xs (by simpa[PyData.canLay0] using h)
 | .dict kvs,h=>by simp[PyData.canLay0] at h
theorem vh:∀(ds:List PyData),PyData.canLayAll0 ds=true->PyData.eqvAll ds ds=true
 | [],_=>rfl
 | x::xs,h=>by simp only[PyData.canLayAll0,Bool.and_eq_true] at h;rw[PyData.eqvAll,AG x h.1,vh xs h.2];rfl
end
theorem AH{d:PyData}(h:SeqAt.shaped d=true):PyData.eqv d d=true:=AG d (SeqAt.canLay_of_shaped h)
end
section
variable{X:Cx}{F:Fx}{a b:Expr}{ta tb:DT}{pos:Pos}{q:PyData->Prop}
noncomputable def vi:D2:=fun x y Q=>∃c k,x=.list c/\y=.int k/\(-(2 ^ 63)<=k/\k<2 ^ 63/\c.length * k.toNat<=sizeLine)/\Q (.list (List.replicate k.toNat c).flatten)
theorem AI{H:Hp}{c:List V}{d:List PyData}(r:aQ H c d):∀k:Nat,aQ H (List.replicate k c).flatten (List.replicate k d).flatten
 | 0=>.nil
 | k+1=>by rw[List.replicate_succ,List.replicate_succ,List.flatten_cons,List.flatten_cons];exact r.append (AI r k)
theorem KH:fe zq vi where
 mn:=fun _ _ _ _ k ⟨ds,n,e1,e2,e3,q⟩=>⟨ds,n,e1,e2,e3,k _ q⟩
 ok:=fun O H u v x y Q hO h1 h2 ⟨ds,k,e1,e2,⟨e3,e4,e5⟩,q⟩=>by subst e1 e2;obtain⟨a,xs,rfl,ha,hd⟩:=h1.lst_inv;refine⟨a,k,xs,rfl,h2.int_inv,(cP ha).1,e3,e4,by rw[hd.length];exact e5,fun p hp=>q _ _ (bP hp) (kU hp (hO p hp) (AI hd _))⟩
theorem KJ(c:DE X F a ta)(d:DE X F b tb):DE X F (.BinOp a .Mult b pos) (cQ vi ta tb):=kT Hs KH c d
end
inductive eg (α:Type) where
 | ok (a:α) (U:al) | ex (c:Str) (U:al) | bad
@[simp] noncomputable def eg.bind{α β:Type}(o:eg α)(k:α->al->eg β):eg β:=match o with
 | .ok a U=>k a U
 | .ex c U=>.ex c U
 | .bad=>.bad
@[simp] noncomputable def lift{α:Type}(o:Option α)(U:al):eg α:=match o with
 | some a=>.ok a U
 | none=>.bad
noncomputable abbrev XM(α:Type):=al->eg α
noncomputable def wp{α:Type}(E:Str->al->Prop)(m:XM α):al->(α->al->Prop)->Prop:=fun U Q=>match m U with
 | .ok a b=>Q a b
 | .ex c b=>E c b
 | .bad=>False
section
variable{α β:Type}{E:Str->al->Prop}
theorem aH{m:XM α}:∀U (Q e:α->al->Prop),(∀d b,Q d b->e d b)->wp E m U Q->wp E m U e:=fun U Q e k q=>by
 unfold wp at q ⊢;generalize m U=o at q ⊢;cases o with
 | ok a b=>exact k _ _ q
 | ex c b=>exact q
 | bad=>exact q
theorem bQ{m:XM α}{k:α->XM β}{U:al}{Q:β->al->Prop}(h:wp E (fun U=>(m U).bind k) U Q):wp E m U fun a b=>wp E (k a) b Q:=by
 unfold wp at h ⊢;unfold eg.bind at h;simp only at h;generalize m U=o at h ⊢;cases o with
 | ok a b=>exact h
 | ex c b=>exact h
 | bad=>exact h
theorem dj{o:Option α}{U:al}{Q:α->al->Prop}(h:wp E (lift o) U Q):∃a,o=some a/\Q a U:=by
 unfold wp lift at h;cases o with
 | some a=>exact⟨a,rfl,h⟩
 | none=>exact h.elim
end
section
variable{X:Cx}{F:Fx}{E:Str->al->Prop}{e a b c:Expr}{es:List Expr}{pos:Pos}
theorem DE.imp{t t':DT}(h:DE X F e t)(d:Mn t')(k:∀U Q,t' U Q->t U Q):DE X F e t':=⟨d,h.pe.imp fun Y H Q ⟨U,O,st,q⟩=>⟨U,O,st,k U _ q⟩⟩
theorem DO.imp{t t':gP}(h:DO X F e t)(d:Ak t')(k:∀U Q,t' U Q->t U Q):DO X F e t':=⟨d,h.pe.imp fun Y H Q ⟨U,O,st,q⟩=>⟨U,O,st,k U _ q⟩⟩
theorem DA.imp{t t':dI}(h:DA X F es t)(d:qu t')(k:∀U Q,t' U Q->t U Q):DA X F es t':=⟨d,h.pa.imp fun Y H Q ⟨U,O,st,q⟩=>⟨U,O,st,k U _ q⟩⟩
theorem DX.imp{t t':gx}(h:DX X F es t)(d:An t')(k:∀U Q,t' U Q->t U Q):DX X F es t':=⟨d,h.pa.imp fun Y H Q ⟨U,O,st,q⟩=>⟨U,O,st,k U _ q⟩⟩
theorem DB.imp{t t':cX}(h:DB X F e t)(d:jV t')(k:∀U Q,t' U Q->t U Q):DB X F e t':=⟨d,h.pt.imp fun Y H Q ⟨U,O,st,q⟩=>⟨U,O,st,k U _ q⟩⟩
theorem DW.imp{t t':cX}(h:DW X F e t)(d:jV t')(k:∀U Q,t' U Q->t U Q):DW X F e t':=⟨d,h.pw.imp fun Y H Q ⟨U,O,st,q⟩=>⟨U,O,st,k U _ q⟩⟩
theorem gu.imp{d:List Stmt}{t t':dQ}(h:gu X F d t)(k:∀D U,t' D U->t D U):gu X F d t':=PSs.imp h fun D Y H ⟨U,O,g,st,q,f⟩=>⟨U,O,g,st,k g U q,f⟩
theorem DS.imp{s:Stmt}{t t':dQ}(h:DS X F s t)(k:∀D U,t' D U->t D U):DS X F s t':=PS.imp h fun D Y H ⟨U,O,d,st,q,f⟩=>⟨U,O,d,st,k d U q,f⟩
abbrev FE(X:Cx)(F:Fx)(E:Str->al->Prop)(e:Expr)(m:XM PyData):Prop:=DE X F e (wp E m)
abbrev FO(X:Cx)(F:Fx)(E:Str->al->Prop)(e:Expr)(m:XM ak):Prop:=DO X F e (wp E m)
abbrev FB(X:Cx)(F:Fx)(E:Str->al->Prop)(e:Expr)(m:XM Bool):Prop:=DB X F e (wp E m)
abbrev FW(X:Cx)(F:Fx)(E:Str->al->Prop)(e:Expr)(m:XM Bool):Prop:=DW X F e (wp E m)
abbrev FA(X:Cx)(F:Fx)(E:Str->al->Prop)(es:List Expr)(m:XM (List PyData)):Prop:=DA X F es (wp E m)
abbrev FX(X:Cx)(F:Fx)(E:Str->al->Prop)(es:List Expr)(m:XM (List AX)):Prop:=DX X F es (wp E m)
abbrev FI(X:Cx)(F:Fx)(E:Str->al->Prop)(d iter:Expr)(m:XM (List PyData)):Prop:=DI X F d iter (wp E m)
noncomputable abbrev GM:=PyData->al->Option al
noncomputable def eK(g:GM):eG:=fun d U Q=>match g d U with
 | some f=>Q f
 | none=>False
abbrev FG(X:Cx)(F:Fx)(d:Expr)(g:GM):Prop:=DG X F d (eK g)
abbrev FS(X:Cx)(F:Fx)(E:Str->al->Prop)(s:Stmt)(m:SM):Prop:=DS X F s (bT E m)
abbrev ie(X:Cx)(F:Fx)(E:Str->al->Prop)(s:List Stmt)(m:SM):Prop:=gu X F s (bT E m)
@[simp] noncomputable def xC(d:PyData):XM PyData:=fun U=>.ok d U
@[simp] noncomputable def xV(i:Nat):XM PyData:=fun U=>match U[i]? with
 | some (some (.dat d))=>.ok d U
 | some (some (.own false (.l ds)))=>.ok (.list ds) (U.set i (some (.dat (.list ds))))
 | _=>.bad
theorem ae{d:PyData}(h:DE X F e (dC d)):FE X F E e (xC d):=h.imp aH fun _ _ q=>q
theorem KL{i:Nat}(h:DE X F e (dV i)):FE X F E e (xV i):=h.imp aH fun U Q q=>by
 unfold wp xV at q;unfold dV;cases h:U[i]? with
 | none=>rw[h] at q;exact q.elim
 | some o=>
  rw[h] at q;cases o with
  | none=>exact q.elim
  | some c=>
   cases c with
   | dat d=>exact .inl ⟨d,rfl,q⟩
   | scr n=>exact q.elim
   | exc n=>exact q.elim
   | vw n=>exact q.elim
   | own io f=>
    cases io with
    | true=>exact q.elim
    | false=>
     cases f with
     | l ds=>exact .inr ⟨ds,rfl,q⟩
     | m _ _=>exact q.elim
     | o _ _=>exact q.elim
     | sd _=>exact q.elim
     | ll _=>exact q.elim
     | pr _ _ _=>exact q.elim
@[simp] noncomputable def ag(g:PyData->PyData->Option PyData)(a b:XM PyData):XM PyData:=fun U=>(a U).bind fun x d=>(b d).bind fun y=>lift (g x y)
def F2(f:D2)(g:PyData->PyData->Option PyData):Prop:=∀x y d Q,g x y=some d->Q d->f x y Q
theorem fZ{f:D2}{g:PyData->PyData->Option PyData}{i j:XM PyData}(k:F2 f g)(h:DE X F e (cQ f (wp E i) (wp E j))):FE X F E e (ag g i j):=h.imp aH fun U Q q=>by refine aH _ _ _ (fun x p l=>?_) (bQ q);refine aH _ _ _ (fun y r m=>?_) (bQ l);obtain⟨d,n,o⟩:=dj m;exact k x y d _ n o
@[simp] noncomputable def aV(m:XM PyData):XM Bool:=fun U=>(m U).bind fun d=>lift (match d with | .bool b=>some b | _=>none)
theorem AJ{U:al}{Q:Bool->al->Prop}{m:XM PyData}(q:wp E (aV m) U Q):fV (wp E m) U Q:=aH _ _ _ (fun d i g=>by
 obtain⟨b,f,h⟩:=dj g;cases d with
 | bool j=>cases f;exact⟨_,rfl,h⟩
 | _=>cases f) (bQ q)
theorem lb{f:D2}{g:PyData->PyData->Option PyData}{i j:XM PyData}(k:F2 f g)(h:DB X F e (fV (cQ f (wp E i) (wp E j)))):FB X F E e (aV (ag g i j)):=h.imp aH fun U Q q=>by have l:=AJ q;refine aH _ _ _ (fun x r m=>?_) (bQ l);refine aH _ _ _ (fun y s n=>?_) (bQ m);obtain⟨d,o,p⟩:=dj n;exact k x y d _ o p
theorem dk{m:XM PyData}(h:DB X F e (fV (wp E m))):FB X F E e (aV m):=h.imp aH fun U Q q=>AJ q
@[simp] noncomputable def gI(g:Int->Int->PyData):PyData->PyData->Option PyData:=fun x y=>match x,y with
 | .int i,.int j=>some (g i j)
 | _,_=>none
@[simp] noncomputable def om(C:Int->Int->Bool)(g:Int->Int->PyData):PyData->PyData->Option PyData:=fun x y=>match x,y with
 | .int i,.int j=>if C i j=true then some (g i j) else none
 | _,_=>none
theorem jX{g:Int->Int->PyData}:F2 (fI (fun _ _=>True) g) (gI g):=fun x y d Q e q=>by
 unfold gI at e;split at e
 ·cases e;exact⟨_,_,rfl,rfl,trivial,q⟩
 ·cases e
theorem vj{C:Int->Int->Bool}{P:Int->Int->Prop}{g:Int->Int->PyData}(h:∀i j,C i j=true->P i j):F2 (fI P g) (om C g):=fun x y d Q e q=>by
 unfold om at e;split at e
 ·split at e
  ·rename_i f;cases e;exact⟨_,_,rfl,rfl,h _ _ f,q⟩
  ·cases e
 ·cases e
noncomputable def jY(i j:Int):Bool:=(decide (-(2 ^ 64)<i)&&decide (i<2 ^ 64))||(decide (-(2 ^ 64)<j)&&decide (j<2 ^ 64))
noncomputable def qD(_ j:Int):Bool:=decide (0<j)&&decide (j<1073741824)
noncomputable def ms(_ j:Int):Bool:=decide (0<j)
theorem KM(i j:Int)(h:jY i j=true):nI i j:=by unfold jY at h;simp only[Bool.or_eq_true,Bool.and_eq_true,decide_eq_true_eq] at h;exact h
theorem KN(i j:Int)(h:qD i j=true):uw i j:=by unfold qD at h;simp only[Bool.and_eq_true,decide_eq_true_eq] at h;exact h
theorem KO(i j:Int)(h:ms i j=true):0<j:=by unfold ms at h;simpa using h
noncomputable def aJ(neg:Bool):PyData->PyData->Option PyData:=fun x y=>if (SeqAt.shaped x&&SeqAt.shaped y)=true then some (.bool (PyData.eqv x y != neg)) else none
theorem vk{neg:Bool}:F2 (nQ neg) (aJ neg):=fun x y d Q e q=>by
 unfold aJ at e;split at e
 ·rename_i h;cases e;exact⟨(Bool.and_eq_true_iff.mp h).1,(Bool.and_eq_true_iff.mp h).2,q⟩
 ·cases e
@[simp] noncomputable def lg:PyData->PyData->Option PyData:=fun x y=>match y with | .none=>some (.bool (isNone x)) | _=>none
@[simp] noncomputable def gQ:PyData->PyData->Option PyData:=fun x y=>match y with | .none=>some (.bool (!isNone x)) | _=>none
theorem AK:F2 qr lg:=fun x y d Q e q=>by
 unfold lg at e;split at e
 ·cases e;exact⟨rfl,q⟩
 ·cases e
theorem AL:F2 uT gQ:=fun x y d Q e q=>by
 unfold gQ at e;split at e
 ·cases e;exact⟨rfl,q⟩
 ·cases e
@[simp] noncomputable def jz:PyData->PyData->Option PyData:=fun x y=>match x,y with
 | .list ds,.list es=>if ds.length+es.length<=sizeLine then some (.list (ds++es)) else none
 | _,_=>none
theorem KP:F2 uU jz:=fun x y d Q e q=>by
 unfold jz at e;split at e
 ·split at e
  ·rename_i h;cases e;exact⟨_,_,rfl,rfl,h,q⟩
  ·cases e
 ·cases e
@[simp] noncomputable def qE:PyData->PyData->Option PyData:=fun x y=>match x,y with
 | .list ds,.int k=>if (decide (-(2 ^ 63)<=k)&&decide (k<2 ^ 63)&&decide (ds.length * k.toNat<=sizeLine))=true then some (.list (List.replicate k.toNat ds).flatten) else none
 | _,_=>none
theorem KQ:F2 vi qE:=fun x y d Q e q=>by
 unfold qE at e;split at e
 ·split at e
  ·rename_i h;cases e;simp only[Bool.and_eq_true,decide_eq_true_eq] at h;exact⟨_,_,rfl,rfl,⟨h.1.1,h.1.2,h.2⟩,q⟩
  ·cases e
 ·cases e
@[simp] noncomputable def qF(a:XM PyData):XM PyData:=fun U=>(a U).bind fun d=>lift (match d with | .int i=>some (.int (-i)) | _=>none)
theorem vl{f:XM PyData}(h:FE X F E a f):FE X F E (.UnaryOp .USub a pos) (qF f):=(IE h).imp aH fun U Q q=>aH _ _ _ (fun d l j=>by
 obtain⟨y,g,k⟩:=dj j;cases d with
 | int i=>cases g;exact⟨i,rfl,k⟩
 | _=>cases g) (bQ q)
@[simp] noncomputable def AM(a:XM PyData):XM PyData:=fun U=>(a U).bind fun d=>lift (match d with | .bool b=>some (.bool (!b)) | _=>none)
theorem KR{f:XM PyData}(h:FE X F E a f):FE X F E (.UnaryOp .Not a pos) (AM f):=(IG h).imp aH fun U Q q=>aH _ _ _ (fun d k i=>by
 obtain⟨y,g,j⟩:=dj i;cases d with
 | bool b=>cases g;exact⟨b,rfl,j⟩
 | _=>cases g) (bQ q)
@[simp] noncomputable def AN(b:XM PyData)(d:PyData):XM PyData:=fun f=>match d with
 | .bool true=>b f
 | .bool false=>.ok (.bool false) f
 | _=>.bad
@[simp] noncomputable def AO(b:XM PyData)(d:PyData):XM PyData:=fun f=>match d with
 | .bool true=>.ok (.bool true) f
 | .bool false=>b f
 | _=>.bad
@[simp] noncomputable def eL(a b:XM PyData):XM PyData:=fun U=>(a U).bind (AN b)
@[simp] noncomputable def vm(a b:XM PyData):XM PyData:=fun U=>(a U).bind (AO b)
theorem fg{rest:List Expr}{h f:XM PyData}(i:FE X F E a h)(j:FE X F E (.BoolOp .And (b::rest) pos) f):FE X F E (.BoolOp .And (a::b::rest) pos) (eL h f):=(IK i j).imp aH fun U Q q=>aH _ _ _ (fun d l g=>by
 cases d with
 | bool b=>cases b with
  | true=>exact⟨true,rfl,eX g⟩
  | false=>exact⟨false,rfl,eW g⟩
 | _=>exact g.elim) (bQ (k:=AN f) q)
theorem AQ{rest:List Expr}{h f:XM PyData}(i:FE X F E a h)(j:FE X F E (.BoolOp .Or (b::rest) pos) f):FE X F E (.BoolOp .Or (a::b::rest) pos) (vm h f):=(IL i j).imp aH fun U Q q=>aH _ _ _ (fun d l g=>by
 cases d with
 | bool b=>cases b with
  | true=>exact⟨true,rfl,eX g⟩
  | false=>exact⟨false,rfl,eW g⟩
 | _=>exact g.elim) (bQ (k:=AO f) q)
theorem gz{op}{d:XM PyData}(h:FE X F E a d):FE X F E (.BoolOp op [a] pos) d:=IJ h
@[simp] noncomputable def vn(p f:Int->Int->Bool)(a b c:XM PyData):XM PyData:=fun U=>(a U).bind fun x g=>(b g).bind fun y d=>match x,y with
 | .int i,.int j=>if p i j=true then(c d).bind (fun z=>lift (match z with | .int k=>some (.bool (f j k)) | _=>none)) else .ok (.bool false) d
 | _,_=>.bad
theorem KS{p l:Int->Int->Bool}{o r n:XM PyData}(h:DE X F e (uV p l (wp E o) (wp E r) (wp E n))):FE X F E e (vn p l o r n):=h.imp aH fun U Q q=>by
 refine aH _ _ _ (fun x w t=>?_) (bQ q);refine aH _ _ _ (fun y A f=>?_) (bQ t);unfold wp at f;cases x with
 | int i=>cases y with
  | int j=>
   refine⟨i,j,rfl,rfl,?_⟩
   by_cases g:p i j=true
   ·simp only[if_pos g] at f;rw[if_pos g];refine aH _ _ _ (fun z B u=>?_) (bQ (m:=n) (k:=fun z=>lift (match z with | .int k=>some (PyData.bool (l j k)) | _=>none)) f);obtain⟨d,s,v⟩:=dj u;cases z with
    | int k=>cases s;exact⟨k,rfl,v⟩
    | _=>cases s
   ·simp only[if_neg g] at f;rw[if_neg g];exact f
  | _=>exact f.elim
 | _=>exact f.elim
@[simp] noncomputable def eM(a:XM Bool):XM Bool:=fun U=>(a U).bind fun b d=>.ok (!b) d
theorem fh{f:XM Bool}(h:FB X F E a f):FB X F E (.UnaryOp .Not a pos) (eM f):=(IQ h).imp aH fun U Q q=>aH _ _ _ (fun d g i=>i) (bQ (k:=fun b g=>.ok (!b) g) q)
@[simp] noncomputable def lh(a b:XM Bool):XM Bool:=fun U=>(a U).bind fun x d=>if x=true then b d else .ok false d
@[simp] noncomputable def ig(a b:XM Bool):XM Bool:=fun U=>(a U).bind fun x d=>if x=true then .ok true d else b d
theorem vo{d:XM Bool}(h:FB X F E a d):FW X F E (.BoolOp .And [a] pos) d:=IT h
theorem jZ{d:XM Bool}(h:FB X F E a d):FW X F E (.BoolOp .Or [a] pos) d:=IU h
theorem vp{rest:List Expr}{h f:XM Bool}(j:FB X F E a h)(l:FW X F E (.BoolOp .And (b::rest) pos) f):FW X F E (.BoolOp .And (a::b::rest) pos) (lh h f):=(IV j l).imp aH fun U Q q=>aH _ _ _ (fun d g i=>by
 cases d with
 | true=>exact eX i
 | false=>exact eW i) (bQ (k:=fun x g=>if x=true then f g else .ok false g) q)
theorem jA{rest:List Expr}{h f:XM Bool}(j:FB X F E a h)(l:FW X F E (.BoolOp .Or (b::rest) pos) f):FW X F E (.BoolOp .Or (a::b::rest) pos) (ig h f):=(IW j l).imp aH fun U Q q=>aH _ _ _ (fun d g i=>by
 cases d with
 | true=>exact eX i
 | false=>exact eW i) (bQ (k:=fun x g=>if x=true then .ok true g else f g) q)
theorem ij{d:XM Bool}(h:FW X F E e d):FB X F E e d:=h.db
@[simp] noncomputable def qG{α:Type}(t:XM Bool)(a b:XM α):XM α:=fun U=>(t U).bind fun x d=>if x=true then a d else b d
theorem vr{mt:XM Bool}{f g:XM PyData}(j:FB X F E c mt)(l:FE X F E a f)(m:FE X F E b g):FE X F E (.IfExp c a b pos) (qG mt f g):=(IY j l m).imp aH fun U Q q=>aH _ _ _ (fun d h i=>by
 cases d with
 | true=>exact eX i
 | false=>exact eW i) (bQ (k:=fun x h=>if x=true then f h else g h) q)
@[simp] noncomputable def aN:XM (List PyData):=fun U=>.ok [] U
@[simp] noncomputable def ai(a:XM PyData)(r:XM (List PyData)):XM (List PyData):=fun U=>(a U).bind fun d f=>(r f).bind fun h g=>.ok (d::h) g
theorem aY:FA X F E [] aN:=Ix.imp aH fun _ _ q=>q
theorem KU{i:XM PyData}{h:XM (List PyData)}(l:FE X F E e i)(m:FA X F E es h)(n:starEach (e::es) X.env=(false,eval e X.env)::starEach es X.env:=by rfl):FA X F E (e::es) (ai i h):=(Iy l m n).imp aH fun U Q q=>aH _ _ _ (fun d j o=>aH _ _ _ (fun g f p=>p) (bQ (k:=fun g f=>.ok (d::g) f) o)) (bQ (k:=fun d j=>(h j).bind fun g f=>.ok (d::g) f) q)
@[simp] noncomputable def bW(a:XM (List PyData)):XM PyData:=fun U=>(a U).bind fun d=>lift (if d.length<=sizeLine then some (.tuple d) else none)
@[simp] noncomputable def dJ(a:XM (List PyData)):XM PyData:=fun U=>(a U).bind fun d=>lift (if d.length<=sizeLine then some (.list d) else none)
theorem cb{i}{g:XM (List PyData)}(h:FA X F E es g):FE X F E (.Tuple es i pos) (bW g):=(IB h).imp aH fun U Q q=>aH _ _ _ (fun m l j=>by
 obtain⟨d,f,k⟩:=dj j;split at f
 ·rename_i h;cases f;exact⟨h,k⟩
 ·cases f) (bQ q)
theorem et{g:XM (List PyData)}(h:FA X F E es g):FE X F E (.List es pos) (dJ g):=(IC h).imp aH fun U Q q=>aH _ _ _ (fun l k i=>by
 obtain⟨d,f,j⟩:=dj i;split at f
 ·rename_i h;cases f;exact⟨h,j⟩
 ·cases f) (bQ q)
@[simp] noncomputable def eh(g:List PyData->Option PyData)(a:XM (List PyData)):XM PyData:=fun U=>(a U).bind fun d=>lift (g d)
def FN(f:DN)(g:List PyData->Option PyData):Prop:=∀h d Q,g h=some d->Q d->f h Q
theorem gR{f:DN}{g:List PyData->Option PyData}{i:XM (List PyData)}(j:FN f g)(h:DE X F e (nR f (wp E i))):FE X F E e (eh g i):=h.imp aH fun U Q q=>aH _ _ _ (fun n o k=>by
 obtain⟨d,l,m⟩:=dj k;exact j n d _ l m) (bQ q)
end
section
variable{X:Cx}{F:Fx}{E:Str->al->Prop}{e a b c:Expr}{es:List Expr}{st:Stmt}{rest:List Stmt}{pos:Pos}{x:Str}
@[simp] noncomputable def iJ:List PyData->Option PyData:=fun d=>match d with
 | [.list ds]=>some (.int ds.length)
 | [.tuple ds]=>some (.int ds.length)
 | _=>none
theorem on:FN As iJ:=fun f d Q e q=>by
 unfold iJ at e;split at e
 ·cases e;exact⟨_,.inl rfl,q⟩
 ·cases e;exact⟨_,.inr rfl,q⟩
 ·cases e
@[simp] noncomputable def qH:List PyData->Option PyData:=fun d=>match d with
 | [.int i,.int j]=>some (.int (max i j))
 | _=>none
theorem AR:FN At qH:=fun f d Q e q=>by
 unfold qH at e;split at e
 ·cases e;exact⟨_,_,rfl,q⟩
 ·cases e
@[simp] noncomputable def li:List PyData->Option PyData:=fun d=>match d with
 | [.list ds]=>some (.tuple ds)
 | [.tuple ds]=>some (.tuple ds)
 | _=>none
theorem vt:FN Av li:=fun f d Q e q=>by
 unfold li at e;split at e
 ·cases e;exact .inl ⟨_,rfl,q⟩
 ·cases e;exact .inr ⟨_,rfl,q⟩
 ·cases e
noncomputable def bools?:List PyData->Option (List Bool)
 | []=>some []
 | .bool i::r=>(bools? r).map (i::·)
 | _::_=>none
theorem vu:∀{g:List PyData}{f:List Bool},bools? g=some f->g=f.map .bool
 | [],_,e=>by cases e;rfl
 | d::r,f,e=>by
  cases d with
  | bool i=>
   cases q:bools? r with
   | none=>simp[bools?,q] at e
   | some l=>simp[bools?,q] at e;subst e;rw[vu q];rfl
  | _=>cases e
noncomputable def mu:List PyData->Option PyData:=fun d=>match d with
 | [.list ds]=>(bools? ds).map fun bs=>.bool (bs.all id)
 | _=>none
theorem KW:FN Aw mu:=fun h d Q e q=>by
 unfold mu at e;split at e
 ·obtain⟨bs,f,g⟩:=Option.map_eq_some_iff.mp e;rw[vu f];subst g;exact⟨bs,rfl,q⟩
 ·cases e
@[simp] noncomputable def qJ(i:Nat):XM PyData:=fun U=>match U[i]? with
 | some (some (.scr ns))=>if ns.length<=63 then .ok (.int ns.length) U else .bad
 | _=>.bad
@[simp] noncomputable def qK(i:Nat)(a:XM PyData):XM PyData:=fun U=>match U[i]? with
 | some (some (.scr ns))=>(a U).bind fun d=>lift (match d with | .int k=>(bK ns k).map .int | _=>none)
 | _=>.bad
@[simp] noncomputable def vv(i:Nat):XM Bool:=fun U=>match U[i]? with
 | some (some (.scr ns))=>.ok (decide (ns=[])) U
 | _=>.bad
theorem AS{i:Nat}(h:DE X F e (AA i)):FE X F E e (qJ i):=h.imp aH fun U Q q=>by
 unfold wp qJ at q;cases h:U[i]? with
 | none=>rw[h] at q;exact q.elim
 | some o=>
  rw[h] at q;cases o with
  | none=>exact q.elim
  | some c=>
   cases c with
   | scr ns=>
    simp only at q
    by_cases d:ns.length<=63
    ·rw[if_pos d] at q;exact⟨ns,h,fun _=>q⟩
    ·rw[if_neg d] at q;exact q.elim
   | _=>exact q.elim
theorem AU{i:Nat}{f:XM PyData}(h:DE X F e (AC i (wp E f))):FE X F E e (qK i f):=h.imp aH fun U Q q=>by
 unfold wp qK at q;cases h:U[i]? with
 | none=>rw[h] at q;exact q.elim
 | some o=>
  rw[h] at q;cases o with
  | none=>exact q.elim
  | some c=>
   cases c with
   | scr ns=>
    refine⟨ns,h,aH _ _ _ (fun d s j=>?_) (bQ (m:=f) (k:=fun d=>lift (match d with | .int k=>(bK ns k).map PyData.int | _=>none)) q)⟩;obtain⟨y,g,l⟩:=dj j;cases d with
    | int k=>obtain⟨n,p,r⟩:=Option.map_eq_some_iff.mp g;subst r;exact⟨k,n,rfl,p,l⟩
    | _=>cases g
   | _=>exact q.elim
theorem KY{i:Nat}(h:DB X F e (AF i)):FB X F E e (vv i):=h.imp aH fun U Q q=>by
 unfold wp vv at q;cases h:U[i]? with
 | none=>rw[h] at q;exact q.elim
 | some o=>
  rw[h] at q;cases o with
  | none=>exact q.elim
  | some c=>
   cases c with
   | scr ns=>exact⟨ns,h,q⟩
   | _=>exact q.elim
@[simp] noncomputable def aI(i:Nat):GM:=fun d U=>some (U.set i (some (.dat d)))
theorem KZ{i:Nat}(h:DG X F e (gN i)):FG X F e (aI i):=⟨fun d U Q f k q=>k _ q,h.pg.imp fun v Y H Q ⟨U,O,d,st,hd,q⟩=>⟨U,O,d,st,hd,q⟩⟩
noncomputable abbrev jB:=List PyData->al->Option al
noncomputable def mw(g:jB):jW:=fun d U Q=>match g d U with
 | some f=>Q f
 | none=>False
abbrev qL(X:Cx)(F:Fx)(d:List Expr)(g:jB):Prop:=nW X F d (mw g)
@[simp] noncomputable def ka:jB:=fun d U=>match d with | []=>some U | _=>none
@[simp] noncomputable def fi(t:GM)(u:jB):jB:=fun g U=>match g with | d::r=>(t d U).bind fun f=>u r f | []=>none
theorem La{g:GM}:∀d U (Q f:al->Prop),(∀h,Q h->f h)->eK g d U Q->eK g d U f:=fun d U Q f k q=>by
 unfold eK at q ⊢;generalize g d U=o at q ⊢;cases o with
 | some h=>exact k _ q
 | none=>exact q
theorem AV{g:jB}:∀d U (Q f:al->Prop),(∀h,Q h->f h)->mw g d U Q->mw g d U f:=fun d U Q f k q=>by
 unfold mw at q ⊢;generalize g d U=o at q ⊢;cases o with
 | some h=>exact k _ q
 | none=>exact q
theorem vA:qL X F [] ka:=⟨AV,Jm.pg.imp fun v Y H Q ⟨U,O,d,st,hd,q⟩=>⟨U,O,d,st,hd,by
 unfold mw ka at q;cases d with
 | nil=>exact⟨rfl,q⟩
 | cons _ _=>exact q.elim⟩⟩
theorem lm{g:GM}{f:jB}(j:FG X F e g)(k:qL X F es f)(i:(assignEach (e::es) X.env).map (·.2)=assign e X.env::(assignEach es X.env).map (·.2):=by rfl):qL X F (e::es) (fi g f):=⟨AV,(Jn j k i).pg.imp fun v Y H Q ⟨U,O,d,st,hd,q⟩=>⟨U,O,d,st,hd,by
 unfold mw fi at q;cases d with
 | nil=>exact q.elim
 | cons d r=>
  refine⟨d,r,rfl,?_⟩;unfold eK;simp only at q;cases h:g d U with
  | none=>rw[h] at q;exact q
  | some l=>rw[h] at q;exact q⟩⟩
@[simp] noncomputable def kb(n:Nat)(t:jB):GM:=fun d U=>match d with | .tuple ds=>if ds.length=n then t ds U else none | _=>none
theorem vB{k n:Nat}{i:jB}(j:X.calm=true)(h:qL X F es i)(l:(assignEach es X.env).length=n:=by rfl)(f:(assignEach es X.env).findIdx? (·.1)=none:=by rfl):FG X F (.Tuple es k pos) (kb n i):=⟨La,(Jp j h l f).pg.imp fun v Y H Q ⟨U,O,d,st,hd,q⟩=>⟨U,O,d,st,hd,by
 unfold eK kb at q;cases d with
 | tuple ds=>
  simp only at q
  by_cases g:ds.length=n
  ·rw[if_pos g] at q;exact⟨ds,rfl,g,q⟩
  ·rw[if_neg g] at q;exact q.elim
 | _=>exact q.elim⟩⟩
@[simp] noncomputable def aB:XM (List AX):=fun U=>.ok [] U
@[simp] noncomputable def af(a:XM PyData)(r:XM (List AX)):XM (List AX):=fun U=>(a U).bind fun d f=>(r f).bind fun as g=>.ok (.d d::as) g
@[simp] noncomputable def aR(j:Nat)(r:XM (List AX)):XM (List AX):=fun U=>match U[j]? with
 | some (some _)=>(r U).bind fun as d=>.ok (.s j::as) d
 | _=>.bad
theorem aF:FX X F E [] aB:=JK.imp aH fun _ _ q=>q
theorem Lb{g:XM PyData}{h:XM (List AX)}(j:FE X F E e g)(l:FX X F E es h)(n:starEach (e::es) X.env=(false,eval e X.env)::starEach es X.env:=by rfl):FX X F E (e::es) (af g h):=(JL j l n).imp aH fun U Q q=>aH _ _ _ (fun d i o=>aH _ _ _ (fun r f p=>p) (bQ (k:=fun as f=>eg.ok (AX.d d::as) f) o)) (bQ (m:=g) (k:=fun d i=>(h i).bind fun as f=>eg.ok (AX.d d::as) f) q)
theorem Lc{p:Pos}{j:Nat}{d:XM (List AX)}(g:PE X (.Name x p) (ca j))(i:FX X F E es d)(l:starEach (.Name x p::es) X.env=(false,eval (.Name x p) X.env)::starEach es X.env:=by rfl):FX X F E (.Name x p::es) (aR j d):=(JM g i l).imp aH fun U Q q=>by
 unfold wp aR at q;cases h:U[j]? with
 | none=>rw[h] at q;exact q.elim
 | some o=>
  rw[h] at q;cases o with
  | none=>exact q.elim
  | some c=>exact⟨⟨c,h⟩,aH _ _ _ (fun as f n=>n) (bQ (m:=d) (k:=fun as f=>eg.ok (AX.s j::as) f) (show wp E (fun U=>(d U).bind fun as f=>eg.ok (AX.s j::as) f) U Q from q))⟩
@[simp] noncomputable def lp(f:FM)(as:List AX):XM ak:=fun U=>match gy U as with
 | some (h,g)=>(match f h with
  | .rt c d=>.ok c (cG g d (eI g U))
  | .ex c d=>.ex c (cG g d (eI g U))
  | .bad=>.bad)
 | none=>.bad
@[simp] noncomputable def aG(f:FM)(a:XM (List AX)):XM ak:=fun U=>(a U).bind (lp f)
theorem vC{g:FM}{j:XM (List AX)}(h:DO X F e (va g E (wp E j))):FO X F E e (aG g j):=h.imp aH fun U Q q=>aH _ _ _ (fun as m d=>by
 unfold wp lp at d;unfold fY;cases l:gy m as with
 | none=>rw[l] at d;exact d
 | some p=>
  obtain⟨n,o⟩:=p;rw[l] at d;simp only at d ⊢;cases i:g n with
  | rt c f=>rw[i] at d;exact d
  | ex c f=>rw[i] at d;exact d
  | bad=>rw[i] at d;exact d) (bQ (k:=lp g) q)
@[simp] noncomputable def aL(a:XM ak):XM PyData:=fun U=>(a U).bind fun c=>lift (frz c)
theorem aW{d:XM ak}(h:FO X F E e d):FE X F E e (aL d):=h.de.imp aH fun U Q q=>aH _ _ _ (fun c g f=>dj f) (bQ q)
@[simp] noncomputable def bD:SM:=fun U=>.nx U
@[simp] noncomputable def aA(m k:SM):SM:=fun U=>match m U with
 | .nx d=>k d
 | o=>o
theorem bJ:ie X F E [] bD:=Js.imp fun _ _ q=>q
theorem aD{m k:SM}(d:FS X F E st m)(f:ie X F E rest k):ie X F E (st::rest) (aA m k):=(Jt d f).imp fun D U q=>by
 show bT E m _ U;unfold bT aA at q;unfold bT;generalize m U=o at q ⊢;cases o with
 | nx g=>exact q
 | _=>exact q
theorem aE{m:SM}(h:FS X F E st m):ie X F E [st] m:=Ju h
@[simp] noncomputable def eA{α:Type}(o:eg α)(k:α->al->gv):gv:=match o with
 | .ok a U=>k a U
 | .ex c U=>.ex c U
 | .bad=>.bad
theorem gb{α:Type}{m:XM α}{k:α->SM}{D:dP}{U:al}(q:bT E (fun U=>eA (m U) k) D U):wp E m U fun a d=>bT E (k a) D d:=by
 unfold bT eA at q;unfold wp;simp only at q;generalize m U=o at q ⊢;cases o with
 | ok a d=>exact q
 | ex c d=>exact q
 | bad=>exact q
@[simp] noncomputable def vD(o:Option al):gv:=match o with
 | some U=>.nx U
 | none=>.bad
@[simp] noncomputable def bF(m:XM PyData)(g:GM):SM:=fun U=>eA (m U) fun d f=>vD (g d f)
theorem AW{m:XM PyData}{g:GM}{D:dP}{U:al}(q:bT E (bF m g) D U):uX (wp E m) (eK g) D U:=aH _ _ _ (fun d h f=>by
 unfold bT vD at f;unfold eK;simp only at f;generalize g d h=o at f ⊢;cases o with
 | some i=>exact f
 | none=>exact f) (gb (k:=fun d h=>vD (g d h)) q)
theorem bU{i:Nat}{d:Pos}{m:XM PyData}(f:X.N.Nodup)(g:X.N[i]? = some x)(h:fQ X.env.scope x)(j:FE X F E e m)(k:swapsWith e (some (.Name x d)) pos.line X.env=pure false:=by rfl)
  (l:X.fn x=true\/X.env.scope.names.lookup x=some .local:=by first | exact .inl rfl | exact .inr rfl | assumption):FS X F E (.Assign [.Name x d] e pos) (bF m (aI i)):=(Jv f g h j k l).imp fun D U q=>AW q
@[simp] noncomputable def vE(i:Nat)(c:ak):SM:=fun d=>if i<d.length then(match c with | .own true _=>.bad | c=>.nx (d.set i (some c))) else .bad
@[simp] noncomputable def gA(i:Nat)(m:XM ak):SM:=fun U=>eA (m U) (vE i)
theorem iK{i:Nat}{g:Pos}{m:XM ak}(j:X.N.Nodup)(l:X.N[i]? = some x)(n:fQ X.env.scope x)(o:FO X F E e m)(p:swapsWith e (some (.Name x g)) pos.line X.env=pure false:=by rfl)
  (r:X.fn x=true\/X.env.scope.names.lookup x=some .local:=by first | exact .inl rfl | exact .inr rfl | assumption):FS X F E (.Assign [.Name x g] e pos) (gA i m):=(JB j l n o p r).imp fun D U q=>aH _ _ _ (fun c s f=>by
 unfold bT vE at f
 by_cases h:i<s.length
 ·simp only[if_pos h] at f;cases c with
  | own io b=>cases io with
   | true=>exact f.elim
   | false=>exact⟨h,(fun _ z=>by cases z),f⟩
  | dat d=>exact⟨h,(fun _ z=>by cases z),f⟩
  | scr d=>exact⟨h,(fun _ z=>by cases z),f⟩
  | exc d=>exact⟨h,(fun _ z=>by cases z),f⟩
  | vw d=>exact⟨h,(fun _ z=>by cases z),f⟩
 ·simp only[if_neg h] at f) (gb (k:=vE i) q)
@[simp] noncomputable def bt(m:XM PyData):SM:=fun U=>eA (m U) fun d f=>.rt (.dat d) f
@[simp] noncomputable def cN(m:XM ak):SM:=fun U=>eA (m U) fun c d=>.rt c d
@[simp] noncomputable def gS(m:XM ak):SM:=fun U=>eA (m U) fun _ d=>.nx d
theorem bA{m:XM PyData}(g:FE X F E e m):FS X F E (.Return (some e) pos) (bt m):=(Jx g).imp fun D U q=>aH _ _ _ (fun c f h=>h) (gb (k:=fun d f=>.rt (.dat d) f) q)
theorem cR{m:XM ak}(g:FO X F E e m):FS X F E (.Return (some e) pos) (cN m):=(Jz g).imp fun D U q=>aH _ _ _ (fun c f h=>h) (gb (k:=fun d f=>.rt d f) q)
theorem ik{m:XM ak}(f:FO X F E e m)(g:swapsWith e none pos.line X.env=pure false:=by rfl):FS X F E (.Expr e pos) (gS m):=(JD f g).imp fun D U q=>aH _ _ _ (fun c d h=>h) (gb (k:=fun _ d=>.nx d) q)
@[simp] noncomputable def bx(t:XM Bool)(a b:SM):SM:=fun U=>eA (t U) fun x d=>if x=true then a d else b d
theorem bH{d:Expr}{l i:List Stmt}{mt:XM Bool}{f g:SM}(m:FB X F E d mt)(n:ie X F E l f)(o:ie X F E i g):FS X F E (.If d l i pos) (bx mt f g):=(JF m n o).imp fun D U q=>aH _ _ _ (fun x h j=>by
 cases x with
 | true=>exact eX j
 | false=>exact eW j) (gb (k:=fun x h=>if x=true then f h else g h) q)
end
noncomputable def ck(d n:String):Option Bool:=if d=n then some true else
 if d="bool"/\n="int" then some true else
 if (d="int"\/d="bool"\/d="str"\/d="list"\/d="tuple"\/d="NoneType")/\(n="int"\/n="bool"\/n="str"\/n="list"\/n="tuple") then some false else none
theorem Ld{d n:String}{b:Bool}(h:ck d n=some b)(K:Frag):kitOne K (.type d) (.type n)=some b:=by
 unfold ck at h;split at h
 ·rename_i e;cases h;subst e;unfold kitOne;rw[if_pos (by simp)]
 ·split at h
  ·rename_i e;cases h;obtain⟨rfl,rfl⟩:=e;rfl
  ·rename_i a c;split at h
   ·rename_i e;cases h;obtain⟨f,g⟩:=e;rcases f with rfl | rfl | rfl | rfl | rfl | rfl<;>rcases g with rfl | rfl | rfl | rfl | rfl<;>first | rfl | (exact absurd rfl a) | (exact absurd ⟨rfl,rfl⟩ c)
   ·cases h
@[simp] noncomputable def gB(n:String)(a:XM PyData):XM PyData:=fun U=>(a U).bind fun d=>lift ((ck (uQ d) n).map .bool)
section
variable{X:Cx}{F:Fx}{E:Str->al->Prop}{e a b c:Expr}{es:List Expr}{st:Stmt}{rest:List Stmt}{pos:Pos}{x:Str}
theorem iM{n:String}{f:XM PyData}(h:DE X F e (Af n (wp E f))):FE X F E e (gB n f):=h.imp aH fun U Q q=>aH _ _ _ (fun d m g=>by
 obtain⟨y,i,j⟩:=dj g;obtain⟨b,k,l⟩:=Option.map_eq_some_iff.mp i;subst l;exact⟨b,Ld k,j⟩) (bQ q)
noncomputable def dm(g:GM)(b:SM):List PyData->SM
 | [],U=>.nx U
 | d::r,U=>(match g d U with
  | some h=>(match b h with
   | .nx f=>dm g b r f
   | .ct f=>dm g b r f
   | .bk f=>.nx f
   | o=>o)
  | none=>.bad)
@[simp] noncomputable def jC(s:XM (List PyData))(g:GM)(b:SM):SM:=fun U=>eA (s U) (dm g b)
theorem mx{n iter:Expr}{body:List Stmt}{s:XM (List PyData)}{g:GM}{l:SM}(t:PassesOwn (model X.prog X.w) X.A X.env X.xe)(u:X.calm=true)(f:FI X F E n iter s)(v:FG X F n g)(G:ie X F E body l)(y:∀x,foldedSetIterable iter X.env x=pure x:=by intro _;rfl):FS X F E (.For n iter body [] pos) (jC s g l):=
 (JW t u f v G y).imp fun D U q=>aH _ _ _ (fun j p z=>by
  refine⟨fun i U=>bT E (dm g l (j.drop i)) D U,z,fun i d U hd f=>?_,fun U h=>?_⟩
  ·have e:j.drop i=d::j.drop (i+1):=by obtain⟨r,B⟩:=List.getElem?_eq_some_iff.mp hd;rw[<-B];exact List.drop_eq_getElem_cons r
   simp only[e] at f;unfold bT dm at f;unfold eK;generalize g d U=o at f ⊢;cases o with
   | none=>exact f
   | some p=>
    show bT E l _ p;simp only at f;unfold bT;generalize l p=C at f ⊢;cases C with
    | nx m=>exact f
    | ct m=>exact f
    | bk m=>exact f
    | rt c m=>exact f
    | ex c m=>exact f
    | bad=>exact f
  ·simp only[List.drop_length] at h;exact h) (gb (k:=dm g l) q)
@[simp] noncomputable def oo(a:XM PyData):XM (List PyData):=fun U=>(a U).bind fun d=>lift (match d with | .list ds=>some ds | _=>none)
@[simp] noncomputable def lq(a:XM PyData):XM (List PyData):=fun U=>(a U).bind fun d=>lift (match d with | .tuple ds=>some ds | _=>none)
theorem DI.imp{f iter:Expr}{t t':ff}(h:DI X F f iter t)(j:∀U Q g,(∀d i,Q d i->g d i)->t' U Q->t' U g)(k:∀U Q,t' U Q->t U Q):DI X F f iter t':=⟨j,h.pi.imp fun Y H Q ⟨U,O,st,q⟩=>⟨U,O,st,k U _ q⟩⟩
theorem vF{i:Expr}{f:XM PyData}(h:FE X F E e f):FI X F E i e (oo f):=(JR h).imp aH fun U Q q=>aH _ _ _ (fun d l j=>by
 obtain⟨y,g,k⟩:=dj j;cases d with
 | list ds=>cases g;exact⟨_,rfl,k⟩
 | _=>cases g) (bQ q)
theorem my{i:Expr}{f:XM PyData}(h:FE X F E e f):FI X F E i e (lq f):=(JS h).imp aH fun U Q q=>aH _ _ _ (fun d l j=>by
 obtain⟨y,g,k⟩:=dj j;cases d with
 | tuple ds=>cases g;exact⟨_,rfl,k⟩
 | _=>cases g) (bQ q)
@[simp] noncomputable def il(g:List PyData->Option (List PyData))(a:XM (List PyData)):XM (List PyData):=fun U=>(a U).bind fun d=>lift (g d)
@[simp] noncomputable def df:List PyData->Option (List PyData):=fun d=>match d with
 | [.int j]=>if (decide (-(2 ^ 62)<=j)&&decide (j<2 ^ 62))=true then some (intsFrom 0 j.toNat) else none
 | _=>none
theorem qM{f:Expr}{g:XM (List PyData)}(h:DI X F f e (Ap (wp E g))):FI X F E f e (il df g):=h.imp aH fun U Q q=>aH _ _ _ (fun l k i=>by
 obtain⟨y,d,j⟩:=dj i;unfold df at d;split at d
 ·split at d
  ·rename_i h;cases d;simp only[Bool.and_eq_true,decide_eq_true_eq] at h;exact⟨_,rfl,h.1,h.2,j⟩
  ·cases d
 ·cases d) (bQ q)
@[simp] noncomputable def lr:List PyData->Option (List PyData):=fun d=>match d with
 | [.list ds]=>some (numbered ds)
 | _=>none
theorem Le{f:Expr}{g:XM (List PyData)}(h:DI X F f e (iE (wp E g))):FI X F E f e (il lr g):=h.imp aH fun U Q q=>aH _ _ _ (fun l k i=>by
 obtain⟨y,d,j⟩:=dj i;unfold lr at d;split at d
 ·cases d;exact⟨_,rfl,j⟩
 ·cases d) (bQ q)
noncomputable def cS(g:GM)(t:XM Bool)(m:XM PyData):List PyData->List PyData->al->Option (List PyData)
 | [],f,_=>some f
 | d::r,f,U=>(match g d U with
  | some i=>(match t i with
   | .ok true h=>(match m h with
    | .ok y j=>if f.length<sizeLine then cS g t m r (f++[y]) j else none
    | _=>none)
   | .ok false h=>cS g t m r f h
   | _=>none)
  | none=>none)
@[simp] noncomputable def jD(own:Nat)(d:List Nat)(U:al):al:=List.replicate own none++d.map fun j=>nY U[j]?
@[simp] noncomputable def AY(own:Nat)(d:List Nat)(g:GM)(t:XM Bool)(m:XM PyData)(f:List PyData):XM PyData:=fun h=>lift ((cS g t m f [] (jD own d h)).bind fun i=>if i.length<=sizeLine then some (.list i) else none) h
@[simp] noncomputable def jE(own:Nat)(d:List Nat)(s:XM (List PyData))(g:GM)(t:XM Bool)(m:XM PyData):XM PyData:=fun U=>(s U).bind (AY own d g t m)
noncomputable abbrev eN:Str->al->Prop:=fun _ _=>False
theorem AZ{own:List Str}{j:List Nat}{s:XM (List PyData)}{g:GM}{t:XM Bool}{m:XM PyData}{U:al}{Q:PyData->al->Prop}(q:wp E (jE own.length j s g t m) U Q):nZ own j (wp E s) (eK g) (wp eN t) (wp eN m) U Q:=aH _ _ _ (fun l r G=>by
 obtain⟨y,H,A⟩:=dj (o:=(cS g t m l [] (jD own.length j r)).bind fun p=>if p.length<=sizeLine then some (PyData.list p) else none) (U:=r) (E:=E) (Q:=Q) G;obtain⟨n,I,u⟩:=Option.bind_eq_some_iff.mp H;have B:n.length<=sizeLine/\y=.list n:=by
  split at u
  ·rename_i h;cases u;exact⟨h,rfl⟩
  ·cases u
 have J:cw own j r=jD own.length j r:=by unfold cw jD;rw[List.map_const']
 refine⟨fun i p U=>cS g t m (l.drop i) p U=some n,by rw[J];exact I,fun i d p U hd f=>?_,fun p U h=>?_⟩
 ·have e:l.drop i=d::l.drop (i+1):=by obtain⟨v,L⟩:=List.getElem?_eq_some_iff.mp hd;rw[<-L];exact List.drop_eq_getElem_cons v
  simp only[e] at f;unfold cS at f;unfold eK;cases C:g d U with
  | none=>rw[C] at f;cases f
  | some M=>
   rw[C] at f;simp only at f ⊢;unfold wp;cases w:t M with
   | ex c D=>rw[w] at f;cases f
   | bad=>rw[w] at f;cases f
   | ok b D=>
    rw[w] at f;cases b with
    | false=>exact eW f
    | true=>
     refine eX ?_;simp only at f ⊢;cases z:m D with
     | ex c N=>rw[z] at f;cases f
     | bad=>rw[z] at f;cases f
     | ok O N=>
      rw[z] at f;simp only at f ⊢;split at f
      ·rename_i h;exact⟨h,f⟩
      ·cases f
 ·simp only[List.drop_length] at h;have:p=n:=by unfold cS at h;exact Option.some.inj h
  subst this;rw[B.2] at A;exact⟨B.1,A⟩) (bQ (k:=AY own.length j g t m) q)
abbrev oq(X:Cx)(F:Fx)(E:Str->al->Prop)(d:List Expr)(m:XM Bool):Prop:=og X F d (wp E m)
noncomputable def fK:XM Bool:=fun U=>.ok true U
theorem mz:oq X F E [] fK:=⟨aH,fun d s Y H Q I ⟨U,O,st,q⟩=>JY.2 d s Y H Q I ⟨U,O,st,q⟩⟩
theorem Lf{d:XM Bool}(h:FB X F E c d):oq X F E [c] d:=JZ h
theorem qN{d:Scope}{own f:List Str}{h:List Nat}{l iter i:Expr}{j:List Expr}{s:XM (List PyData)}{g:GM}{t:XM Bool}{m:XM PyData}{n:Nat}(w:GF X.mg F)(S:aq X d own f h)(y:X.calm=true)(z:own.length=n)(A:FI X F E l iter s)
  (o:∀C p r u v k,GF X.mg k->FG (cg X d (own++f) C p r u v) k l g/\oq (cg X d (own++f) C p r u v) k eN j t/\FE (cg X d (own++f) C p r u v) k eN i m)
  (B:∀x,foldedSetIterable iter X.env x=pure x:=by intro _;rfl):FE X F E (.ListComp i [⟨l,iter,j,0⟩] d pos) (jE n h s g t m):=by
 subst z;exact(Ka w S y A o B).imp aH fun U Q q=>AZ q
theorem Ba{f:Scope}{own capN:List Str}{caps:List Nat}{o iter k:Expr}{l:List Expr}{s:XM (List PyData)}{g:GM}{t:XM Bool}{m:XM PyData}{n i:Nat}{y:Str}{py j:Pos}(H:X.N.Nodup)(r:X.N[i]? = some y)(I:fQ X.env.scope y)(J:GF X.mg F)(S:aq X f own capN caps)(L:X.calm=true)(M:own.length=n)(O:FI X F E o iter s)
  (u:∀C v w z B p,GF X.mg p->FG (cg X f (own++capN) C v w z B) p o g/\oq (cg X f (own++capN) C v w z B) p eN l t/\FE (cg X f (own++capN) C v w z B) p eN k m)
  (A:swapsWith (.ListComp k [⟨o,iter,l,0⟩] f pos) (some (.Name y py)) j.line X.env=pure true:=by rfl)
  (R:∀x,foldedSetIterable iter X.env x=pure x:=by intro _;rfl) (T:X.fn y=true\/X.env.scope.names.lookup y=some .local:=by first | exact .inl rfl | exact .inr rfl | assumption) :
  FS X F E (.Assign [.Name y py] (.ListComp k [⟨o,iter,l,0⟩] f pos) j) (bF (jE n caps s g t m) (aI i)):=by
 subst M;exact(Kb H r I J S L O u A R T).imp fun D U q=>by have Y:=AW q;exact vc (s:=wp E s) aH U _ _ (fun d G h=>h) (AZ (Q:=fun d G=>eK (aI i) d G D.nx) Y)
end
section
variable{K:Frag}{F:Fx}{H H':Hp}{Y:St}{U:al}{O O':List Addr}
theorem aC.fresh(st:aC K F H Y U O){p:Addr}{o:HO}(c:H p=none)(d:Mv o):∃O',aC K (F.plus [p]) (aM H p o) Y U O'/\aP O H O' (aM H p o):=by obtain⟨O',h1,h2,_⟩:=aC.swap (L:=[]) (L':=[p]) (H':=aM H p o) (F:=F) st (fun b u _ e=>bP c b u e) (by simp) (fun a h=>.inr (by obtain rfl:=List.mem_singleton.mp h;exact c)) (fun a h=>by cases h) (fun a h=>by obtain rfl:=List.mem_singleton.mp h;exact⟨o,cj,d⟩);exact⟨O',h1,h2⟩
theorem aC.new1(st:aC K F H Y U O){p:Addr}(c:H p=none):∀a∈[p],a∈F.A₀\/F.H₀ a=none:=fun a h=>by
 obtain rfl:=List.mem_singleton.mp h
 by_cases b:a∈F.A₀
 ·exact .inl b
 ·refine .inr ?_;cases e:F.H₀ a with
  | none=>rfl
  | some o=>obtain⟨W,h,_⟩:=st;have:=h.kept a o b e;rw[c] at this;cases this
end
section
variable{X:Cx}{F:Fx}{E:Str->al->Prop}{e a b c:Expr}{es:List Expr}{st:Stmt}{rest:List Stmt}{pos:Pos}{x:Str}
noncomputable def Lg(t:dI):gP:=fun U Q=>t U fun d f=>d.length<=sizeLine/\Q (.own false (.l d)) f
theorem Lh{i:dI}(h:DA X F es i):DO X F (.List es pos) (Lg i):=
 ⟨fun _ _ _ k q=>h.mn _ _ _ (fun _ _ d=>⟨d.1,k _ _ d.2⟩) q,(qd h.pa).imp fun Y H Q ⟨U,O,st,q⟩=>
  ⟨U,O,st,h.mn _ _ _ (fun w t d j u v f r l=>⟨by rw[l.length];exact d.1,fun p m=>by
   obtain⟨s,g,n⟩:=f.fresh (o:=.lst j) m trivial;exact d.2 _ _ s [p] ⟨g,⟨p,rfl,rfl,j,cj,aQ.mono n.hid l⟩,f.new1 m⟩ (r.trans n)⟩) q⟩⟩
@[simp] noncomputable def iN(a:XM (List PyData)):XM ak:=fun U=>(a U).bind fun d=>lift (if d.length<=sizeLine then some (.own false (.l d)) else none)
theorem ls{g:XM (List PyData)}(h:FA X F E es g):FO X F E (.List es pos) (iN g):=(Lh h).imp aH fun U Q q=>aH _ _ _ (fun l k i=>by
 obtain⟨d,f,j⟩:=dj i;split at f
 ·rename_i h;cases f;exact⟨h,j⟩
 ·cases f) (bQ q)
@[simp] noncomputable def vG(i:Nat)(d:PyData):SM:=fun f=>match f[i]? with
 | some (some (.own io (.l ds)))=>if ds.length<sizeLine then .nx (f.set i (some (.own io (.l (ds++[d]))))) else .bad
 | _=>.bad
@[simp] noncomputable def iO(i:Nat)(m:XM PyData):SM:=fun U=>match U[i]? with
 | some (some (.own _ (.l _)))=>eA (m U) (vG i)
 | _=>.bad
theorem mB{i:Nat}{m:XM PyData}{r apos g:Pos}(N:PE X (.Name x r) (ca i))(Q:FE X F E e m)(y:swapsWith (.Call (.Attribute (.Name x r) "append" apos) [e] [] g) none pos.line X.env=pure false:=by rfl)
  (n:attributeBase (.Name x r) "append" X.env (eval (.Name x r) X.env)=eval (.Name x r) X.env:=by rfl)
  (t:((backTo g (starEach [e] X.env)).all (fun x=>!x.1)&&(backToKw g (keywordEach [] X.env)).all (fun x=>x.1.isSome)&&decide (([e]:List Expr).length+([]:List Keyword).length+(if ([]:List Keyword).isEmpty then 0 else 1)<30))=true:=by rfl)
  (p:(apos.endLine==g.line)=true:=by rfl) (M:starEach [e] X.env=(false,eval e X.env)::starEach [] X.env:=by rfl) (j:(backTo g (starEach [] X.env)).any (·.1)=false:=by rfl) :
  FS X F E (.Expr (.Call (.Attribute (.Name x r) "append" apos) [e] [] g) pos) (iO i m):=
 (pW (qf PySem.F.plainAttrs_list PySem.F.slot_list_append PySem.F.type_list_append zo N (dE Q.pe er M) n t p M j) y).imp fun D Y H ⟨U,O,DD,st,q,f⟩=>by
  unfold bT iO at q;cases z:U[i]? with
  | none=>rw[z] at q;exact q.elim
  | some o=>
   rw[z] at q;cases o with
   | none=>exact q.elim
   | some R=>
    cases R with
    | dat d=>exact q.elim
    | scr d=>exact q.elim
    | exc d=>exact q.elim
    | vw d=>exact q.elim
    | own S T=>
     cases T with
     | m _ _=>exact q.elim
     | o _ _=>exact q.elim
     | sd _=>exact q.elim
     | ll _=>exact q.elim
     | pr _ _ _=>exact q.elim
     | l Z=>
      obtain⟨a,fp,u,⟨_,xs,hH,_⟩,_,_⟩:=st.box z;refine⟨_,u,.inl ⟨rfl,xs,.of hH⟩,U,O,st,aH _ _ _ (fun d U1 h w H1 O1 A s1 d1=>?_) (gb (m:=m) (k:=vG i) q)⟩;unfold bT vG at h;cases h1:U1[i]? with
      | none=>rw[h1] at h;exact h.elim
      | some o=>
       rw[h1] at h;cases o with
       | none=>exact h.elim
       | some c1=>
        cases c1 with
        | dat d=>exact h.elim
        | scr d=>exact h.elim
        | exc d=>exact h.elim
        | vw d=>exact h.elim
        | own a0 b1=>
         cases b1 with
         | m _ _=>exact h.elim
         | o _ _=>exact h.elim
         | sd _=>exact h.elim
         | ll _=>exact h.elim
         | pr _ _ _=>exact h.elim
         | l ds=>
          simp only at h;obtain⟨a1,a2,v,⟨e1,B,C,hd⟩,hO,up⟩:=A.box h1;rw[u] at v;cases v;subst e1
          by_cases I:ds.length<sizeLine
          ·rw[if_pos I] at h;refine⟨a,B,w,rfl,rfl,C,by rw[hd.length];exact I,?_⟩;obtain⟨O2,J,s2,_⟩:=up (aM H1 a (.lst (B++[w]))) (.l (ds++[d])) [a] (fun c o L e=>by rw[bi (by simpa using L)];exact e) (by simp) (fun c L=>.inl L) (fun G O' s hG _=>by
            subst hG;exact⟨s.hid,rfl,B++[w],cj,(aQ.mono s.hid hd).append (.cons (DV.mono s.hid d1) .nil)⟩)
           exact f.nx _ _ _ _ J (s1.trans s2) h
          ·rw[if_neg I] at h;exact h.elim
@[simp] noncomputable def Li:ak->Option PyData
 | .dat (.list ds)=>some (.int ds.length)
 | .dat (.tuple ds)=>some (.int ds.length)
 | .own _ (.l ds)=>some (.int ds.length)
 | _=>none
@[simp] noncomputable def vH(i:Nat):XM PyData:=fun U=>match U[i]? with
 | some (some c)=>lift (Li c) U
 | _=>.bad
theorem Lj{i:Nat}{p j:Pos}(t:Gl X "len")(u:X.mg "len" = none)(h:PE X (.Name x j) (ca i))(s:starEach [.Name x j] X.env=(false,eval (.Name x j) X.env)::starEach [] X.env:=by rfl)(n:(backTo pos (starEach [] X.env)).any (·.1)=false:=by rfl) :
  FE X F E (.Call (.Name "len" p) [.Name x j] [] pos) (vH i):=
 ⟨aH,(mf kQ t u PySem.boot_len (dE h er s) (by decide) (by decide) s n).imp fun Y H Q ⟨U,O,st,q⟩=>by
  unfold wp vH at q;cases k:U[i]? with
  | none=>rw[k] at q;exact q.elim
  | some o=>
   rw[k] at q;cases o with
   | none=>exact q.elim
   | some w=>
    unfold lift at q;cases w with
    | scr d=>exact q.elim
    | exc d=>exact q.elim
    | vw d=>exact q.elim
    | dat d=>
     obtain⟨v,m,hd⟩:=st.dat k;cases d with
     | list ds=>obtain⟨a,f,rfl,r,g⟩:=hd.lst_inv;exact⟨_,m,a,f,rfl,.inl (.of (cP r).1),by rw[g.length];exact q _ H O st .refl (.int _)⟩
     | tuple ds=>obtain⟨a,f,rfl,r,g⟩:=hd.tup_inv;exact⟨_,m,a,f,rfl,.inr (.inl (jP r).1),by rw[g.length];exact q _ H O st .refl (.int _)⟩
     | _=>exact q.elim
    | own io b=>
     cases b with
     | l ds=>obtain⟨a,z,m,⟨_,f,y,g⟩,_,_⟩:=st.box k;exact⟨_,m,a,f,rfl,.inl (.of y),by rw[g.length];exact q _ H O st .refl (.int _)⟩
     | _=>exact q.elim⟩
end
noncomputable def iP:PyData->Option bd
 | .int i=>some (.inl i)
 | .str x=>some (.inr x)
 | _=>none
noncomputable def iQ:List PyData->Option (List bd)
 | []=>some []
 | d::r=>(match iP d,iQ r with | some k,some l=>some (k::l) | _,_=>none)
noncomputable def im:Bool->PyData->Option (List bd)
 | false,d=>(iP d).map fun k=>[k]
 | true,.tuple ds=>iQ ds
 | true,_=>none
noncomputable abbrev jF:=List (PyData×PyData)
noncomputable def kc(a:Bool):jF->List bd->Option PyData
 | [],_=>none
 | p::r,k=>if im a p.1=some k then some p.2 else kc a r k
noncomputable def lu(a:Bool)(k:List bd)(v:PyData):jF->jF
 | []=>[]
 | p::r=>(if im a p.1=some k then(p.1,v) else p)::lu a k v r
noncomputable def ke(b:Bool)(a:jF)(d:PyData)(k:List bd)(v:PyData):jF:=if (kc b a k).isSome=true then lu b k v a else a++[(d,v)]
theorem Bb{G:Hp}{v:V}{d:PyData}{k:bd}(h:DV G v d)(e:iP d=some k):v=kV k:=by
 cases d with
 | int i=>cases e;exact h.int_inv
 | str x=>cases e;exact h.str_inv
 | _=>cases e
theorem vI{k:bd}:iP (ic k)=some k:=by cases k<;>rfl
theorem Bc{d:PyData}{k:bd}(e:iP d=some k):d=ic k:=by
 cases d with
 | int i=>cases e;rfl
 | str x=>cases e;rfl
 | _=>cases e
theorem Be:∀{a:List bd},iQ (a.map ic)=some a
 | []=>rfl
 | k::r=>by show(match iP (ic k),iQ (r.map ic) with | some k,some l=>some (k::l) | _,_=>none)=_;rw[vI,Be]
theorem vJ:∀{b:List PyData}{a:List bd},iQ b=some a->b=a.map ic
 | [],a,e=>by cases e;rfl
 | d::r,a,e=>by
  unfold iQ at e;cases h1:iP d with
  | none=>rw[h1] at e;cases e
  | some k=>
   cases h2:iQ r with
   | none=>rw[h1,h2] at e;cases e
   | some l=>rw[h1,h2] at e;cases e;rw[Bc h1,vJ h2];rfl
theorem Bf{G:Hp}:∀{a:List V}{b:List bd},aQ G a (b.map ic)->a=b.map kV
 | [],[],_=>rfl
 | _::_,k::r,.cons h1 h2=>by rw[Bb h1 vI,Bf h2];rfl
theorem Bg{κ:Type}[DecidableEq κ]{R:κ->PyData->Prop}{G:Hp}{f:Bool}{inj:κ->List bd}(g:∀k d,R k d->im f d=some (inj k))(j:∀a b,inj a=inj b->a=b) :
  ∀{i:List (κ×V)}{c:jF}(k:κ),Paired (fun(p:κ×V) (q:PyData×PyData)=>R p.1 q.1/\DV G p.2 q.2) i c->(iG i k=none/\kc f c (inj k)=none)\/∃v d,iG i k=some v/\kc f c (inj k)=some d/\DV G v d
 | [],[],k,_=>.inl ⟨rfl,rfl⟩
 | p::r,q::s,k,.cons h t=>by
  by_cases e:p.1=k
  ·refine .inr ⟨p.2,q.2,uG e,?_,h.2⟩;unfold kc;rw[if_pos (by rw[g _ _ h.1,e])]
  ·rw[uH e];unfold kc;rw[if_neg (by rw[g _ _ h.1];exact fun z=>e (j _ _ (Option.some.inj z)))];exact Bg g j k t
theorem Bh{κ:Type}[DecidableEq κ]{R:κ->PyData->Prop}{G:Hp}{i:Bool}{inj:κ->List bd}(f:∀k d,R k d->im i d=some (inj k))(j:∀a b,inj a=inj b->a=b){v:V}{x:PyData}(l:DV G v x) :
  ∀{m:List (κ×V)}{c:jF}(k:κ),Paired (fun(p:κ×V) (q:PyData×PyData)=>R p.1 q.1/\DV G p.2 q.2) m c->Paired (fun(p:κ×V) (q:PyData×PyData)=>R p.1 q.1/\DV G p.2 q.2) (m.map fun g=>if g.1=k then(g.1,v) else g) (lu i (inj k) x c)
 | [],[],k,_=>.nil
 | p::r,q::s,k,.cons h t=>by
  refine .cons ?_ (Bh f j l k t);dsimp only
  by_cases e:p.1=k
  ·rw[if_pos e,if_pos (by rw[f _ _ h.1,e])];exact⟨h.1,l⟩
  ·rw[if_neg e,if_neg (by rw[f _ _ h.1];exact fun z=>e (j _ _ (Option.some.inj z)))];exact h
theorem Bi{α β:Type}{R:α->β->Prop}:∀{a:List α}{b:List β}{c:List α}{d:List β},Paired R a b->Paired R c d->Paired R (a++c) (b++d)
 | _,_,_,_,.nil,h=>h
 | _,_,_,_,.cons h t,r=>.cons h (Bi t r)
theorem Bj{κ:Type}[DecidableEq κ]{R:κ->PyData->Prop}{G:Hp}{g:Bool}{inj:κ->List bd}(i:∀k d,R k d->im g d=some (inj k))(j:∀a b,inj a=inj b->a=b){v:V}{x d:PyData}(l:DV G v x)
  {m:List (κ×V)}{c:jF}{k:κ}(hd:R k d) (h:Paired (fun(p:κ×V) (q:PyData×PyData)=>R p.1 q.1/\DV G p.2 q.2) m c):Paired (fun(p:κ×V) (q:PyData×PyData)=>R p.1 q.1/\DV G p.2 q.2) (eZ m k v) (ke g c d (inj k) x):=by
 rcases Bg i j k h with⟨e,f⟩ | ⟨n,o,e,f,_⟩
 ·rw[Hx v e];unfold ke;rw[f,if_neg (by simp)];exact Bi h (.cons ⟨hd,l⟩ .nil)
 ·unfold ke;rw[f,if_pos (by rfl)];unfold eZ;rw[if_pos (by rw[qg,e];rfl)];exact Bh i j l k h
theorem Lk:∀(k:bd) (d:PyData),ic k=d->im false d=some [k]:=fun k d e=>by subst e;show(iP (ic k)).map _=_;rw[vI];rfl
theorem vK:∀(a b:bd),[a]=[b]->a=b:=fun a b e=>by cases e;rfl
theorem vL:∀(k:List bd) (d:PyData),qm k=d->im true d=some k:=fun k d e=>by subst e;exact Be
@[simp] noncomputable def ot(a:Bool)(d:PyData):Option (List bd):=match d with
 | .tuple []=>none
 | d=>im a d
theorem Ll{a:Bool}{d:PyData}{k:List bd}(e:ot a d=some k):im a d=some k/\d≠.tuple []:=by
 unfold ot at e;split at e
 ·cases e
 ·rename_i h;exact⟨e,h⟩
theorem Bk:∀{ds:List PyData}{k:List bd},iQ ds=some k->ds≠[]->cE ds=false
 | [],_,_,h=>absurd rfl h
 | [d],k,e,_=>by cases d<;>first | rfl | (simp[iQ,iP] at e)
 | d::f::r,k,e,_=>by
  unfold iQ at e;split at e
  ·rename_i g l a b;have c:=Bk (ds:=f::r) b (by simp);cases d<;>first | (exact(by simpa[cE] using c)) | (exfalso;simp[iP] at a)
  ·cases e
section
variable{G H:Hp}{a:Addr}{tk:Bool}{kvs:jF}
theorem Lm(h:jv G H a tk kvs)(p:bV G H){y v:V}{d x:PyData}{k:List bd}(i:DV G y d)(j:DV G v x)(e:ot tk d=some k)(l:kvs.length<sizeLine) :
  ∃o,kS H a y v (aM H a o)/\Mv o/\∀c,bV G c->jv c (aM H a o) a tk (ke tk kvs d k x):=by
 obtain⟨e,f⟩:=Ll e;cases tk with
 | false=>obtain⟨q,g,pr⟩:=h;obtain⟨u,m,r⟩:=Option.map_eq_some_iff.mp e;subst r;obtain rfl:=Bb i m;refine⟨_,.k g (by rw[Paired.length pr];exact l),trivial,fun c s=>⟨_,cj,Bj Lk vK (DV.mono s j) (Bc m).symm (Paired.mapP pr fun _ _ z=>⟨z.1,DV.mono s z.2⟩)⟩⟩
 | true=>
  obtain⟨q,g,pr⟩:=h;cases d with
  | tuple ds=>obtain⟨b,w,rfl,hb,n⟩:=i.tup_invK (Bk e fun z=>f (by rw[z]));rw[vJ e] at n;rw[Bf n] at hb;exact⟨_,.t g (p _ _ hb) (by rw[Paired.length pr];exact l),trivial,fun c s=>⟨_,cj,Bj (inj:=id) vL (fun _ _ z=>z) (DV.mono s j) (show qm k=_ by unfold qm;rw[<-vJ e]) (Paired.mapP pr fun _ _ z=>⟨z.1,DV.mono s z.2⟩)⟩⟩
  | _=>cases e
end
section
variable{X:Cx}{F:Fx}{E:Str->al->Prop}{e a b c:Expr}{es:List Expr}{st:Stmt}{rest:List Stmt}{pos:Pos}{x:Str}
@[simp] noncomputable def vM:List PyData->Option PyData:=fun f=>match f with
 | [.list as,.list bs,.list d]=>if bs.length=as.length/\d.length=as.length/\0<as.length then some (.list (oj as bs d)) else none
 | _=>none
theorem Ln{g:XM (List PyData)}(h:DE X F e (Ax (wp E g))):FE X F E e (eh vM g):=h.imp aH fun U Q q=>aH _ _ _ (fun l k i=>by
 obtain⟨d,f,j⟩:=dj i;unfold vM at f;split at f
 ·split at f
  ·rename_i h;cases f;exact⟨_,_,_,rfl,h.1,h.2.1,h.2.2,j⟩
  ·cases f
 ·cases f) (bQ q)
@[simp] noncomputable def Bl(k:Nat):PyData->Option PyData:=fun d=>match d with | .list ds=>some (.list (ds.drop k)) | _=>none
@[simp] noncomputable def xU(g:PyData->Option PyData)(a:XM PyData):XM PyData:=fun U=>(a U).bind fun d=>lift (g d)
theorem Lo{k:Nat}{f:XM PyData}(h:DE X F e (Az (wp E f) k)):FE X F E e (xU (Bl k) f):=h.imp aH fun U Q q=>aH _ _ _ (fun d l i=>by
 obtain⟨y,g,j⟩:=dj i;cases d with
 | list ds=>cases g;exact⟨_,rfl,j⟩
 | _=>cases g) (bQ q)
end
noncomputable abbrev ou:List Value:=[.type "ValueError",.type "Exception",.type "BaseException",.type "object"]
def vN(h:Heap)(C:Addr):Prop:=∃c N e q bs a f sub g b n i j k l m d,h.get? C=some (excClassObj e q C N bs c a f sub g b n i j k l m "ValueError.__new__")/\h.Ns N d/\d "__init__" = none/\OwnTail h ou c
theorem vO{K:Frag}{h:Heap}{C:Addr}(X:K.In h)(e:excIn K C ou "ValueError.__new__" = true):vN h C:=by
 unfold excIn at e;split at e
 ·rename_i j k m n;split at e
  ·rename_i I o p q r s J t d a;have f:=e;simp only[Bool.and_eq_true,beq_iff_eq] at f;obtain⟨⟨⟨⟨⟨u,v⟩,g⟩,w⟩,b⟩,i⟩:=f;obtain⟨x,y,L,z,A,B,D,E,G,c,H⟩:=k;obtain⟨l⟩:=m;simp at g d a b i;subst u v g d a;exact⟨o,z,x,A,y,B,D,E,G,c,j,p,q,r,s,t,_,X _ _ n,.of_isNs (PySem.W.isNs_of_in X b),PySem.W.nsMap_none_of_in X b i,PySem.W.tail_of_in X w⟩
  ·cases e
 ·cases e
structure EC (K:Frag) (mg:Str->Option Value) (c:Str) (C:Addr):Prop where
 mg:mg c=some (.ref C)
 ns:nsIn K mainGlobals c=some (some (.ref C))
 ex:excIn K C ou "ValueError.__new__" = true
@[simp] noncomputable def ip(c:Str):SM:=fun U=>.ex c U
section
variable{X:Cx}{F:Fx}{E:Str->al->Prop}
theorem _root_.L2.Inv.madeX{a:List (Addr×Obj)}{Y:St}{H:Hp}{s:Shared}{c:Heap}{e:Addr}{C:Value}{d:List Value}(I:Inv X a Y H s)(m:Heap.MadeExcOf s.heap c e C d):Inv X a Y H { s with heap:=c }/\Cov X a s.heap/\ExS s.heap H c e C none:=by have hb:∀b,s.heap.get? b=none->H b=none:=fun b z=>HOk.some_of I.hok z;obtain⟨t,h1,h2,h3⟩:=m.there;refine⟨I.ch I.cov ⟨fun b o q _ _=>m.keeps b o q,fun b o _ q=>⟨o.slots,m.keeps b o q⟩,fun b o q=>⟨o,m.keeps b o q⟩⟩,I.cov,⟨fun b o q=>⟨o,m.keeps b o q⟩,m.new,hb e m.new,_,_,_,h1,rfl,rfl,rfl,.inl ⟨rfl,rfl⟩⟩⟩
theorem iR{c g:Str}{C:Addr}{j:Nat}{np a pos h:Pos}(u:dO X F E)(v:X.A.handled=none)(x:Gl X c)(i:EC X.K X.mg c C)(k:(c==("__debug__":Str))=false:=by decide)
  (l:starEach [.Constant (.str g) j h] X.env=(false,eval (.Constant (.str g) j h) X.env)::starEach [] X.env:=by rfl) :
  FS X F E (.Raise (some (.Call (.Name c np) [.Constant (.str g) j h] [] a)) none pos) (ip c):=fun b s Y H D I ⟨U,O,DD,st,q,f⟩=>by
 obtain⟨y,N,z,B,bs,d,G,sub,J,n,dd,L,M,Q,R,S,Z,hC,hN,o,T⟩:=vO I.ok.mod.kin i.ex;refine wpAny_Raise_call_subU (C:=C) (nm:=z) (q:=B) (N:=N) (bs:=bs) (bm:=y) (hdct:=d) (sn:=G) (sub:=sub) (ab:=J) (col:=n) (dd:=dd) (k0:=L) (k1:=M) (k2:=Q) (k3:=R) (k5:=S) (mN:=Z)
  PySem.F.excBase_ValueError (by decide) PySem.F.excBase_ValueError (T.hasType (by decide)) v (by rw[l];rfl) o (lX I x i.mg ⟨rfl,?_⟩ k)
 have pa:PA X [.Constant (.str g) j h] _:=dE (yC (X:=X)) er l;have w:=pa a b s Y H (fun p t=>p.length=1/\t=H) I (by exact⟨rfl,rfl⟩);rw[l] at w ⊢;refine Calls.evalArgs_plain (aK w fun us s2 ⟨p,t,I1,r,h1,h2⟩=>?_);subst h2;refine⟨rfl,by show us.length<=_;rw[<-r.length,h1];decide,I1.bk _ _ hC,hN.keeps I1.bk,T.keeps I1.bk,fun h' e m=>?_⟩;obtain⟨I2,cv,ex⟩:=I1.madeX m;exact u.2 b Y _ _ _ c U O ⟨I2,e,.ref C,s2.heap,none,rfl,cv,ex,i.mg⟩ st q
end
noncomputable def qO(K:Frag)(C D:Addr):Bool:=match K.lookup C with
 | some ⟨_,_,.cls a,_⟩=>a.mro.contains (.ref D)
 | _=>false
noncomputable def ow(K:Frag)(C:Addr):Bool:=findIn K (.ref C) "__getattribute__"==some (some (.builtin "BaseException.__getattribute__"))&&findIn K (.ref C) "__class__"==some (some (.builtin "object.__class__"))&&findIn K (.ref C) "__getattr__"==some none &&
 mroIn K C (.type "BaseException")==some true&&mroIn K C (.type "object")==some true
noncomputable def Bm(K:Frag)(D:Addr)(l:List Str):Bool:=l.all fun c=>match nsIn K mainGlobals c with
 | some (some (.ref C))=>excIn K C ou "ValueError.__new__"&&qO K C D&&ow K C&&(kitOne K (.ref C) (.type "ValueError")==some true)&&l.all fun d=>match nsIn K mainGlobals d with
  | some (some (.ref a))=>kitOne K (.ref C) (.ref a)==some (c==d)
  | _=>false
 | _=>false
structure XT (K:Frag) (mg:Str->Option Value) (l:List Str) (D:Addr):Prop where
 top:EC K mg "DueError" D
 tab:Bm K D l=true
 mgs:∀c C,nsIn K mainGlobals c=some (some (.ref C))->mg c=some (.ref C)
theorem XT.at_{K:Frag}{b:Str->Option Value}{l:List Str}{D:Addr}(x:XT K b l D){c:Str}(h:c∈l):∃C,EC K b c C/\qO K C D=true/\ow K C=true/\kitOne K (.ref C) (.type "ValueError")=some true/\
  ∀d∈l,∃a,b d=some (.ref a)/\nsIn K mainGlobals d=some (some (.ref a))/\kitOne K (.ref C) (.ref a)=some (c==d):=by
 have t:=List.all_eq_true.mp x.tab c h;split at t
 ·rename_i C e;simp only[Bool.and_eq_true] at t;obtain⟨⟨⟨⟨g,i⟩,j⟩,k⟩,m⟩:=t;refine⟨C,⟨x.mgs c C e,e,g⟩,i,j,by simpa using k,fun d hd=>?_⟩;have u:=List.all_eq_true.mp m d hd;split at u
  ·rename_i a f;exact⟨a,x.mgs d a f,f,by simpa using u⟩
  ·cases u
 ·cases t
theorem Lp{K:Frag}{h:Heap}{C D N:Addr}{f q:Str}{bs d:List Value}{b:Bool}{g:List Str}{sub:List Value}{i:Bool}{c:Option Bool}{r:Option Addr}{j k l m n:Option Value}{a:String}
  (X:K.In h) (e:qO K C D=true) (p:h.get? C=some (excClassObj f q C N bs d b g sub i c r j k l m n a)):(Value.ref C::d).contains (.ref D)=true:=by
 unfold qO at e;split at e
 ·rename_i o;have:=X _ _ o;rw[p] at this;cases this;exact e
 ·cases e
theorem Lq{M:Model}{A:Around}{E:Value->Shared->Prop}{h:Heap}{g:Array GenState}{d:Drawn}{t:Nat}{os:OsState}{e C D:Addr}{n:Obj}{Q:Bool->Shared->Prop}
  (I:vN h C) (xd:vN h D) (J:∀{o q N bs k a p sub r i H s u v w x c},h.get? C=some (excClassObj o q C N bs k a p sub r i H s u v w x c)->(Value.ref C::k).contains (.ref D)=true)
  (L:h.get? e=some n) (j:n.cls=.ref C) (O:Q true ⟨h,g,d,t,os⟩):wpAny M A (excMatches (.ref e) (.ref D)) Q E ⟨h,g,d,t,os⟩:=by
 obtain⟨k,N,o,q,bs,a,p,sub,r,i,H,s,u,v,w,x,mN,y,_,_,_⟩:=I;obtain⟨l,N',R,q',S,m,T,z,U,B,Y,Z,a0,a1,a2,a3,a4,G,_,_,T'⟩:=xd;have cB:(Value.ref D::l).contains (.type "BaseException")=true:=by rw[List.contains_cons,T'.hasType (X:="BaseException") (b:=true) (by decide),Bool.or_true]
 have cC:=J y;have f:=tc_notTuple;unfold excMatches
 repeat (first | (with_reducible refine wpAny_loadPart_at L ?_;rw[j]) | with_reducible refine wpAny_loadPart_at G ?_ | (with_reducible refine wpAny_isSubtype_exc G ?_;rw[cB]) | (with_reducible refine wpAny_isSubtype_exc y ?_;rw[cC]) | wp_step)
 exact O
noncomputable abbrev iS(X:Cx)(A:Around)(b:Bool)(a:List (Addr×Obj))(c:Value->Shared->Prop):Cx:={ X with A:=A,calm:=b,pn:=a,xe:=c }
section
variable{X:Cx}{F:Fx}{E:Str->al->Prop}{pins pins':List (Addr×Obj)}{Y:St}{H:Hp}{s:Shared}{A:Around}{b:Bool}{xe:Value->Shared->Prop}
theorem _root_.L2.Inv.re(I:Inv X pins Y H s)(A:Around)(b:Bool)(xe:Value->Shared->Prop)(a:A.frames=X.A.frames)(d:b=true->A.handled=none):Inv (iS X A b (X.pn++pins) xe) [] Y H s:=
 ⟨⟨I.ok.mod,I.ok.kind,I.ok.glob,I.ok.blt,I.ok.above,I.ok.inj,I.ok.has,I.ok.cab,d,a.trans I.ok.frames,I.ok.stk,I.ok.exf,I.ok.bs,I.ok.bsz,I.ok.noex,I.ok.exfs,I.ok.funs,I.ok.frf⟩,I.os,I.bare,I.base,I.loc,I.cell,I.free,I.freeC,fun p c=>I.pin p (by simpa using c),I.hok,I.len⟩
theorem _root_.L2.Inv.unre(ok:X.Ok)(I:Inv (iS X A b (X.pn++pins) xe) pins' Y H s):Inv X pins Y H s:=
 ⟨ok,I.os,I.bare,I.base,I.loc,I.cell,I.free,I.freeC,fun p a=>I.pin p (bf _ a),I.hok,I.len⟩
theorem kf(ok:X.Ok){D:eF}{f:Flow}{d:Shared}(h:SP (iS X A b (X.pn++pins) xe) pins' D f d):SP X pins D f d:=by
 cases f with
 | next=>obtain⟨a,c,I,q⟩:=h;exact⟨a,c,I.unre ok,q⟩
 | brk=>obtain⟨a,c,I,q⟩:=h;exact⟨a,c,I.unre ok,q⟩
 | cont=>obtain⟨a,c,I,q⟩:=h;exact⟨a,c,I.unre ok,q⟩
 | ret u=>obtain⟨v,a,c,I,r,q⟩:=h;exact⟨v,a,c,I.unre ok,r,q⟩
theorem _root_.L2.Inv.caught{g:Heap}{a:Addr}{C:Value}{M:Option Value}(I:Inv X pins Y H s)(j:Cov X pins g)(t:ExS g H s.heap a C M):Inv X pins Y (aM H a (.ext fun h=>∃o,h.get? a=some o/\o.cls=C)) s:=by
 have l:∀b o,g.get? b=some o->b≠a:=fun b o e z=>by subst z;rw[t.lo] at e;cases e
 obtain⟨w,S,T,y,N,_⟩:=t.ob;have i:bV H (aM H a (.ext fun h=>∃o,h.get? a=some o/\o.cls=C)):=bP t.un;refine⟨I.ok,I.os,I.bare,⟨I.base.keep,I.base.slot,fun b o e n B=>?_,I.base.there,fun b D e=>i _ _ (I.base.tups b D e),fun b o u e=>i _ _ (I.base.frzs b o u e),fun b O e=>let⟨m,q⟩:=I.base.tbls b O e;⟨m,i _ _ q⟩⟩,I.loc,I.cell,?_,fun x c e=>?_,fun p G=>?_,fun b u e=>?_,I.len⟩
 ·obtain⟨r,f⟩:=j.s0 b o e B;rw[bi (l _ _ f)];exact I.base.free b o e n B
 ·obtain⟨r,f⟩:=j.loc;rw[bi (l _ _ f)];exact I.free
 ·obtain⟨r,f⟩:=j.cell x c e;rw[bi (l _ _ f)];exact I.freeC x c e
 ·obtain⟨r,f⟩:=j.pin p G;obtain⟨J,L,h3⟩:=I.pin p G;exact⟨J,by rw[bi (l _ _ f)];exact L,h3⟩
 ·by_cases z:b=a
  ·subst z;rw[cj] at e;cases e;refine⟨⟨w,y,N⟩,⟨w,y⟩,fun J L ⟨o,Q,R⟩ k=>⟨o,k o Q,R⟩⟩
  ·rw[bi z] at e;exact(I.hok b u e).stay (fun d v hd q=>q) (fun d q=>i _ _ q) fun d D q=>i _ _ q
theorem Lr{M:Model}{A:Around}{E:Value->Shared->Prop}{i:Nat}{x:Str}{pos:Pos}{Q:Unit->Shared->Prop}(I:Inv X pins Y H s)(G:X.N.Nodup)(J:X.N[i]? = some x)(a:X.env.scope.names.lookup x=some .local)
  (h:∀B,Inv X pins (Y.set i none) H B->Q () B):wpAny M A (do bindName X.env x .none;unbindBehindTheSuite X.env x pos) Q E s:=by
 obtain⟨m,C,L⟩:=id I.loc;have l:(X.env.scope.kind==.class||(X.env.scope.kind==.module&&X.env.locals != X.env.globals))=false:=by rw[I.ok.kind];rfl
 have cne:=I.cne;obtain⟨oL,_,_,O,_⟩:=id C;refine wpAny_nameGoes_keeps a C l fun h' v t f=>h _ ⟨I.ok,I.os,I.bare,⟨fun b o e n w a=>?_,fun b o e n w a=>?_,I.base.free,fun b o e a=>?_,I.base.tups,I.base.frzs,I.base.tbls⟩,⟨_,t,fun j y R g S T=>?_⟩,fun y c e=>?_,I.free,I.freeC,fun p U=>?_,fun b ob e=>?_,?_⟩
 ·exact(f.2 b (Nat.ne_of_lt (Nat.lt_of_lt_of_le (bq e) I.ok.above))).trans (I.base.keep b o e n w a)
 ·obtain⟨sl,g⟩:=I.base.slot b o e n w a;exact⟨sl,(f.2 b (Nat.ne_of_lt (Nat.lt_of_lt_of_le (bq e) I.ok.above))).trans g⟩
 ·obtain⟨Z,g⟩:=I.base.there b o e a;exact⟨Z,(f.2 b (Nat.ne_of_lt (Nat.lt_of_lt_of_le (bq e) I.ok.above))).trans g⟩
 ·rcases fT S with⟨_,z,_⟩ | ⟨hj,u⟩
  ·cases z
  ·obtain⟨u',r',q⟩:=L j y R g u T;refine⟨u',r',?_⟩;rcases q with⟨k,e⟩ | ⟨k,c,e,z⟩
   ·refine .inl ⟨k,?_⟩;have:y≠x:=fun e=>hj (ue G g (e▸J));simp[this,e]
   ·exact .inr ⟨k,c,e,z.sameBut f (cne y c e)⟩
 ·obtain⟨D,z⟩:=I.cell y c e;exact⟨D,z.sameBut f (cne y c e)⟩
 ·obtain⟨e,n,ne,nf,d⟩:=I.pin p U;exact⟨(f.2 p.1 ne).trans e,n,ne,nf,d⟩
 ·refine(I.hok b ob e).stay (fun c D r q=>(f.2 c ?_).trans q) (fun _ q=>q) fun _ _ q=>q;rintro rfl;rcases r with rfl | r
  ·rw[I.free] at e;cases e
  ·rw[I.free] at r;cases r
 ·rw[List.length_set];exact I.len
end
section
variable{K:Frag}{F:Fx}{H H':Hp}{Y Y':St}{U U':al}{O O':List Addr}{W:List (List Addr)}
noncomputable def Fx.here(F:Fx)(H:Hp)(L:List Addr):Fx:=⟨H,L,F.O₀,F.I₀⟩
theorem bO.here(st:bO K F H Y U W):bO K (F.here H W.flatten) H Y U W:=⟨st.at_,st.nd,fun _ _ _ e=>e,fun _ h=>.inl h,st.live,st.len,st.lw,st.io⟩
theorem qP(st:bO K F H Y U W){a:Addr}(h:a∈W.flatten\/H a=none):a∈F.A₀\/F.H₀ a=none:=by
 rcases h with h | h
 ·exact st.new a h
 ·by_cases b:a∈F.A₀
  ·exact .inl b
  ·refine .inr ?_;cases e:F.H₀ a with
   | none=>rfl
   | some o=>have:=st.kept a o b e;rw[h] at this;cases this
theorem cT{fp:List Addr}(st:bO K F H Y U W)(c:aC K ((F.here H W.flatten).plus fp) H' Y' U' O'):aC K (F.plus fp) H' Y' U' O':=by
 obtain⟨f,h,e⟩:=c;refine⟨f,⟨h.at_,h.nd,fun b o d e=>h.kept b o (fun z=>?_) (st.kept b o d e),fun a g=>qP st (h.new a g),h.live,h.len,h.lw,h.io⟩,e⟩;rcases st.new b z with q | q
 ·exact d q
 ·rw[show F.H₀ b=some o from e] at q;cases q
theorem Bn(c:aC K (F.here H W.flatten) H' Y' U' O'):aP (W.flatten++F.O₀) H O' H':=by
 obtain⟨g,h,rfl⟩:=c;refine⟨fun b o f e=>h.kept b o (fun z=>f (bf _ z)) e,fun a d=>?_⟩;rcases List.mem_append.mp d with z | z
 ·exact(h.new a z).imp (bf _) id
 ·exact .inl (bb _ z)
theorem fJ.here{D:eF}{e:dP}(st:bO K F H Y U W)(f:fJ K F O H D e):fJ K (F.here H W.flatten) O H D e:=
 ⟨fun Y' H' U' O' d b q=>f.nx Y' H' U' O' (cT (fp:=[]) st d) b q,fun v Y' H' c U' O' g r b q=>f.rt v Y' H' c U' O' g ⟨cT st r.st,r.at_,fun a h=>qP st (r.new a h)⟩ b q,
  fun Y' H' U' O' d b q=>f.bk Y' H' U' O' (cT (fp:=[]) st d) b q,fun Y' H' U' O' d b q=>f.ct Y' H' U' O' (cT (fp:=[]) st d) b q⟩
theorem aC.clear(st:aC K F H Y U O)(i:Nat):∃O',aC K F H Y (U.set i none) O'/\aP O H O' H:=by
 obtain⟨W,h,rfl⟩:=st;have sub:∀a∈(W.set i []).flatten,a∈W.flatten:=fun a d=>by
  rcases fc d with z | ⟨j,l,_,e,m⟩
  ·cases z
  ·exact bM e m
 have f:aP (W.flatten++F.O₀) H ((W.set i []).flatten++F.O₀) H:=fH fun a d=>by
  rcases List.mem_append.mp d with z | z
  ·exact bf _ (sub a z)
  ·exact bb _ z
 refine⟨_,⟨W.set i [],⟨fun j c e=>?_,nN h.nd List.nodup_nil (fun a d=>by cases d),h.kept,fun a d=>h.new a (sub a d),fun a d=>h.live a ?_,by rw[List.length_set];exact h.len,by rw[List.length_set,List.length_set];exact h.lw,fun j b e=>?_⟩,rfl⟩,f⟩
 ·rcases fT e with⟨_,z,_⟩ | ⟨k,g⟩
  ·cases z
  ·obtain⟨v,n,h1,h2,h3⟩:=h.at_ j c g;exact⟨v,n,h1,by rw[List.getElem?_set_ne (Ne.symm k)];exact h2,h3.keep f (fun _ _=>rfl) fun _ _ _ e=>e⟩
 ·rcases List.mem_append.mp d with z | z
  ·exact bf _ (sub a z)
  ·exact bb _ z
 ·rcases fT e with⟨_,z,_⟩ | ⟨k,g⟩
  ·cases z
  ·exact h.io j b g
end
noncomputable def fL(l:List Str)(i:Nat)(b e:SM):SM:=fun U=>match b U with
 | .ex c f=>if c∈l then(match e (f.set i (some (.exc c))) with | .rt d a=>.rt d (a.set i none) | _=>.bad) else .bad
 | o=>o
noncomputable def ox(l:List Str)(b e:SM):SM:=fun U=>match b U with
 | .ex c f=>if c∈l then(match e f with | .rt d a=>.rt d a | _=>.bad) else .bad
 | o=>o
section
variable{X:Cx}{F:Fx}{E:Str->al->Prop}
theorem Bp{l:List Str}{D a:Addr}{c:Str}{C:Value}{g:Heap}{O:Option Value}{np e:Pos}{p:Option Str}{G:Stmt}{i:List Stmt}{d:List (Addr×Obj)}{Y:St}{H:Hp}{s:Shared}{Q:Flow->Shared->Prop}{k:Value->Shared->Prop}
  (t:XT X.K X.mg l D) (R:Gl X "DueError") (j:X.stack=X.env::X.outer) (u:X.env.frame=some X.env.locals) (S:c∈l) (J:Inv X d Y H s) (T:Cov X d g) (ex:ExS g H s.heap a C O) (U:X.mg c=some C)
  (h:∀v,Inv X d Y H v->ExS g H v.heap a C (some .none)->codeAny (model X.prog X.w) (X.A.mark (some (.ref a))) (.handlers (.ref a) [.ExceptHandler none p (G::i) e] X.env) (fun r m=>match r with
     | .ok f=>(match p with
      | none=>Q f m
      | some n=>wpAny (model X.prog X.w) X.A (do bindName X.env n .none;unbindBehindTheSuite X.env n e) (fun _ y=>Q f y) k m)
     | .error x=>cameBackBy (model X.prog X.w) X.A X.env k x m) v) :
  wpAny (model X.prog X.w) X.A (noteFrame (.ref a) X.env) (fun _ m=>wpAny (model X.prog X.w) X.A (setFlight (.ref a) none) (fun _ y=>wpAny (model X.prog X.w) X.A (handleBy (.ref a) X.env [.ExceptHandler (some (.Name "DueError" np)) p (G::i) e]) Q k y) k m) k s:=by
 have Z:X.A.frames=some (X.env::X.outer):=by rw[J.ok.frames,j]
 have stk:s.heap.FunFrames X.base (X.env::X.outer):=by have:=J.stack;rw[j] at this;exact this
 have hb:∀b,s.heap.get? b=none->H b=none:=fun b z=>HOk.some_of J.hok z;refine note_any (base:=X.base) Z stk u hb ex fun h1 I x1=>?_;refine flight_any (s:={ s with heap:=h1 }) (fs:=bI (X.env::X.outer)) none (frames_some (I.frames (fun _ h=>h) stk)) x1 fun h2 c2 L=>?_;have o:Inv X d Y H { s with heap:=h2 }:=J.ch T (by rw[j];exact I.trans c2);refine wpAny_handleBy_cons (codeAny_handlers_test ?_) (by intro q;cases q);have J3:=o.re (X.A.mark (some (.ref a))) false X.xe rfl (fun z=>by cases z);refine lX (X:=iS X (X.A.mark (some (.ref a))) false (X.pn++d) X.xe) J3 R t.top.mg ?_ (by decide);obtain⟨M,N,hu,_⟩:=t.at_ S;have eC:C=.ref M:=Option.some.inj (U.symm.trans N.mg);obtain⟨oe,vs,a0,he,B,_⟩:=L.ob;refine Lq (C:=M) (vO o.kIn N.ex) (vO o.kIn t.top.ex) (fun hC=>Lp o.kIn hu hC) he (B.trans eC) ?_;exact h _ o L
theorem Bq{l:List Str}{D:Addr}{i:Nat}{n:Str}{np M pos:Pos}{body k:List Stmt}{b₀:Stmt}{mb mh:SM}(xt:XT X.K X.mg l D)(hg:Gl X "DueError")(y:X.stack=X.env::X.outer)(a0:X.env.frame=some X.env.locals)(hN:X.N.Nodup)(hi:X.N[i]? = some n)(hn:X.env.scope.names.lookup n=some .local)
  (hG:GF X.mg F) (hb:∀Q pn Z R,dO (iS X X.A X.calm pn Z) Q R->PassesOwn (model X.prog X.w) X.A X.env Z->ie (iS X X.A X.calm pn Z) Q R body mb)
  (hs:∀Q e pn Z,GF X.mg Q->ie (iS X (X.A.mark (some e)) false pn Z) Q eN (b₀::k) mh) :
  FS X F E (.Try body [.ExceptHandler (some (.Name "DueError" np)) (some n) (b₀::k) M] [] [] pos) (fL l i mb mh):=fun b s Y H D' I ⟨U,O,DD,st,q,f⟩=>by
 obtain⟨W,m,rfl⟩:=id st;have S:GF X.mg (F.here H W.flatten):=(hG.at st).frame fun a h=>m.live a (bf _ h);let R:Str->al->Prop:=fun c T=>c∈l/\∃d j,mh (T.set i (some (.exc c)))=.rt d j/\DD.rt d (j.set i none);have q1:bT R mb DD U:=by
  unfold bT fL at q;unfold bT;generalize mb U=o at q ⊢;cases o with
  | ex c T=>
   simp only at q
   by_cases G:c∈l
   ·rw[if_pos G] at q;refine⟨G,?_⟩;generalize mh (T.set i (some (.exc c)))=o2 at q ⊢;cases o2 with
    | rt d j=>exact⟨d,j,rfl,q⟩
    | _=>exact q.elim
   ·rw[if_neg G] at q;exact q.elim
  | _=>exact q
 refine wpAny_Try_except ?_;refine aK (hb (F.here H W.flatten) (X.pn++b) _ R ?_ PassesOwn.looking [] s Y H D' (I.re X.A X.calm _ rfl I.ok.hd) ⟨U,_,DD,⟨W,m.here,rfl⟩,q1,f.here m⟩) fun fw s1 h=>?_
 ·refine⟨S,?_⟩;intro a1 Y' H' s' e c T O' ⟨J1,a,C,g,fl,e1,cv,ex,hm⟩ t ⟨G,d,j,a2,hd⟩;subst e1;have J:Inv X b Y' H' s':=J1.unre I.ok;have B:Cov X b g:=⟨cv.s0,cv.loc,cv.cell,fun p hp=>cv.pin p (bf _ hp)⟩
  have a3:i<T.length:=by rw[t.lenE,J.len];exact(List.getElem?_eq_some_iff.mp hi).1
  refine Bp xt hg y a0 G J B ex hm fun L J3 x3=>codeAny_handlers_suite_as ?_;have stk:L.heap.FunFrames X.base (X.env::X.outer):=by have:=J3.stack;rw[y] at this;exact this
  refine flight_any (s:=L) (fs:=bI (X.env::X.outer)) none (frames_some stk) x3 fun h4 c4 x4=>?_;have J4:Inv X b Y' H' { L with heap:=h4 }:=J3.ch B (by rw[y];exact c4);have J5:=J4.caught B x4;obtain⟨C',ec,_⟩:=xt.at_ G;have eC:C=.ref C':=Option.some.inj (hm.symm.trans ec.mg);refine uf J5 hN hi (.inl hn) (v:=.ref a) rfl (fun s5 J6=>?_) (.inr hn);have sm:=bP (o:=.ext fun h=>∃o,h.get? a=some o/\o.cls=C) ex.un;have na:a∉O':=t.nofree a ex.un;have cell:dG X.K (aM H' a (.ext fun h=>∃o,h.get? a=some o/\o.cls=C)) O' (.ref a) (.exc c) []:=⟨a,_,rfl,ib cj na,fun h ⟨o,z1,z2⟩=>⟨C',o,ec.ns,z1,z2.trans eC⟩⟩
  obtain⟨O6,a4,s6⟩:=aC.put1 (io:=false) (F:=F.here H W.flatten) (fp:=[]) (i:=i) (t.grow sm) cell (fun _ z=>by cases z) a3 (fun _ z=>by cases z);have step:aP (W.flatten++F.O₀) H O6 _:=(Bn t).trans ((aP.same sm).trans s6);refine aK (hs (F.here H W.flatten) (.ref a) (X.pn++b) _ S [] s5 _ _ ⟨fun _ _=>False,D'.rt,fun _ _=>False,fun _ _=>False⟩ (J6.re (X.A.mark (some (.ref a))) false _ rfl (fun z=>by cases z)) ⟨_,O6,⟨fun _=>False,fun d j=>DD.rt d (j.set i none),fun _=>False,fun _=>False⟩,a4,?_,?_⟩) fun fw s6 h6=>?_
  ·unfold bT;rw[a2];exact hd
  ·refine⟨fun _ _ _ _ _ _ z=>z.elim,fun v Y2 H2 c2 U2 O2 fp r s2 qq=>?_,fun _ _ _ _ _ _ z=>z.elim,fun _ _ _ _ _ _ z=>z.elim⟩;have r2:aC X.K (F.plus fp) H2 Y2 U2 O2:=cT m r.st;obtain⟨O3,r3,L⟩:=r2.clear i;exact f.rt v Y2 H2 c2 _ O3 fp ⟨r3,r.at_.keep L (fun _ _=>rfl) (fun _ _ _ e=>e),fun x hx=>qP m (r.new x hx)⟩ (step.trans (s2.trans L)) qq
  ·cases fw with
   | next=>obtain⟨_,_,_,z⟩:=h6;exact z.elim
   | brk=>obtain⟨_,_,_,z⟩:=h6;exact z.elim
   | cont=>obtain⟨_,_,_,z⟩:=h6;exact z.elim
   | ret u=>obtain⟨v,Y7,H7,J8,r8,q8⟩:=h6;exact Lr (J8.unre I.ok) hN hi hn fun s9 J9=>⟨v,_,H7,J9,r8,q8⟩
 ·cases fw with
  | next=>exact wpAny_execs_nil (kf I.ok h)
  | brk=>exact kf I.ok h
  | cont=>exact kf I.ok h
  | ret u=>exact kf I.ok h
theorem Ls{l:List Str}{D:Addr}{np n pos:Pos}{body j:List Stmt}{b₀:Stmt}{Q R:SM}(xt:XT X.K X.mg l D)(hg:Gl X "DueError")(m:X.stack=X.env::X.outer)(a0:X.env.frame=some X.env.locals)
  (hG:GF X.mg F) (hb:∀t pn N y,dO (iS X X.A X.calm pn N) t y->PassesOwn (model X.prog X.w) X.A X.env N->ie (iS X X.A X.calm pn N) t y body Q)
  (hs:∀t e pn N,GF X.mg t->ie (iS X (X.A.mark (some e)) false pn N) t eN (b₀::j) R) :
  FS X F E (.Try body [.ExceptHandler (some (.Name "DueError" np)) none (b₀::j) n] [] [] pos) (ox l Q R):=fun b s Y H D' I ⟨U,O,S,st,q,f⟩=>by
 obtain⟨W,k,rfl⟩:=id st;have B:GF X.mg (F.here H W.flatten):=(hG.at st).frame fun a h=>k.live a (bf _ h);let y:Str->al->Prop:=fun c T=>c∈l/\∃d i,R T = .rt d i/\S.rt d i;have q1:bT y Q S U:=by
  unfold bT ox at q;unfold bT;generalize Q U=o at q ⊢;cases o with
  | ex c T=>
   simp only at q
   by_cases G:c∈l
   ·rw[if_pos G] at q;refine⟨G,?_⟩;generalize R T = o2 at q ⊢;cases o2 with
    | rt d i=>exact⟨d,i,rfl,q⟩
    | _=>exact q.elim
   ·rw[if_neg G] at q;exact q.elim
  | _=>exact q
 refine wpAny_Try_except ?_;refine aK (hb (F.here H W.flatten) (X.pn++b) _ y ?_ PassesOwn.looking [] s Y H D' (I.re X.A X.calm _ rfl I.ok.hd) ⟨U,_,S,⟨W,k.here,rfl⟩,q1,f.here k⟩) fun fw s1 h=>?_
 ·refine⟨B,?_⟩;intro a1 Y' H' s' e c T O' ⟨J1,a,C,g,fl,e1,Z,ex,hm⟩ L ⟨G,d,i,a2,hd⟩;subst e1;have J:Inv X b Y' H' s':=J1.unre I.ok;have M:Cov X b g:=⟨Z.s0,Z.loc,Z.cell,fun p hp=>Z.pin p (bf _ hp)⟩
  refine Bp xt hg m a0 G J M ex hm fun s3 J3 x3=>codeAny_handlers_suite ?_;have stk:s3.heap.FunFrames X.base (X.env::X.outer):=by have:=J3.stack;rw[m] at this;exact this
  refine flight_any (s:=s3) (fs:=bI (X.env::X.outer)) none (frames_some stk) x3 fun h4 c4 x4=>?_;have J4:Inv X b Y' H' { s3 with heap:=h4 }:=J3.ch M (by rw[m];exact c4);have step:aP (W.flatten++F.O₀) H O' H':=Bn L;refine aK (hs (F.here H W.flatten) (.ref a) (X.pn++b) _ B [] _ _ _ ⟨fun _ _=>False,D'.rt,fun _ _=>False,fun _ _=>False⟩ (J4.re (X.A.mark (some (.ref a))) false _ rfl (fun z=>by cases z)) ⟨_,O',⟨fun _=>False,fun d i=>S.rt d i,fun _=>False,fun _=>False⟩,L,?_,?_⟩) fun fw s6 h6=>?_
  ·unfold bT;rw[a2];exact hd
  ·refine⟨fun _ _ _ _ _ _ z=>z.elim,fun v Y2 H2 c2 U2 O2 fp r s2 qq=>?_,fun _ _ _ _ _ _ z=>z.elim,fun _ _ _ _ _ _ z=>z.elim⟩;exact f.rt v Y2 H2 c2 _ O2 fp ⟨cT k r.st,r.at_,fun x hx=>qP k (r.new x hx)⟩ (step.trans s2) qq
  ·cases fw with
   | next=>obtain⟨_,_,_,z⟩:=h6;exact z.elim
   | brk=>obtain⟨_,_,_,z⟩:=h6;exact z.elim
   | cont=>obtain⟨_,_,_,z⟩:=h6;exact z.elim
   | ret u=>obtain⟨v,Y7,H7,J8,r8,q8⟩:=h6;exact⟨v,_,H7,J8.unre I.ok,r8,q8⟩
 ·cases fw with
  | next=>exact wpAny_execs_nil (kf I.ok h)
  | brk=>exact kf I.ok h
  | cont=>exact kf I.ok h
  | ret u=>exact kf I.ok h
end
structure cp (k:Nat) (A:Around):Prop where
 dp:A.depth+3 * k+5<recursionLimit
 un:A.units+16 * k+200<cLine
theorem br.h{k:Nat}{A:Around}(r:br k A)(v:Option Value):cp k (A.mark v):=⟨r.dp,r.un⟩
theorem cp.deeper{k:Nat}{A:Around}(r:cp (k+1) A)(a:Env):cp k (A.deeper a):=
 ⟨by have:=r.dp;show A.depth+1+3 * k+5<_;omega,by have:=r.un;show A.units+3+16 * k+200<_;omega⟩
structure eO (P:Program) (w:World) (K:Frag) (mg:Str->Option Value) (base:Heap) (CX:fC) (k:Nat) (f:Addr) (fd:FuncData) (ps:List Str) (sp:Sp):Prop where
 len:∀vs H Q E,sp vs H Q E->vs.length=ps.length
 run:∀(A:Around) (outer:List Env) (s:Shared) (H:Hp) (args:Args) (us:List Value) (vs:List V) (Q:VK) (E:XK),cp k A->dH P w K mg base A outer s H->BindsTo s fd args (ps.zip us)->bh vs us->sp vs H Q E->
  codeAny (model P w) A (.call (.ref f) args) (CR CX outer P w H s Q E) s
noncomputable abbrev lv(d:fC)(P:Program)(w:World)(K:Frag)(g:Str->Option Value)(base:Heap)(N:List Str)(c:Str)(a:Scope)(f:Addr)(e:Value)(A:Around)(b:List Env)(s:Shared)(H:Hp)(E:XK):Cx:=
 { jr d P w K g base N c a f e A b s H E with calm:=false }
theorem Lu{k:fC}{P:Program}{w:World}{K:Frag}{j:Str->Option Value}{base:Heap}{N e:List Str}{c:Str}{a:Scope}{f:Addr}{g:Value}{A:Around}{b:List Env}{s l:Shared}{H:Hp}{E:XK}{h:List Value}{i:List V}
  (S:aa N e a) (d:dH P w K j base A b s H) (m:i.length=e.length) (r:bh i h)
  (x:InCallC s s.heap.objs.size (bindL (envOfC c a s.heap.objs.size f g).kindOf (e.zip h) fun _=>none) (cellsFrom (s.heap.objs.size+1) a.names []) (bindC (envOfC c a s.heap.objs.size f g).kindOf (e.zip h) fun _=>none) l) :
  Inv (lv k P w K j base N c a f g A b s H E) [] (start N i) H l:=by
 have n:dH P w K j base { A with handled:=none } b s H:=⟨d.frames,d.mod,d.bs,d.bsz,d.funs,d.frf,d.hok,d.bare⟩
 have I:=zf (CX:=k) (E:=E) (qual:=c) (f:=f) (cd:=g) S rfl n m r x;exact⟨⟨I.ok.mod,I.ok.kind,I.ok.glob,I.ok.blt,I.ok.above,I.ok.inj,I.ok.has,I.ok.cab,(fun z=>by cases z),I.ok.frames,I.ok.stk,I.ok.exf,I.ok.bs,I.ok.bsz,I.ok.noex,I.ok.exfs,I.ok.funs,I.ok.frf⟩,I.os,I.bare,I.base,I.loc,I.cell,I.free,I.freeC,I.pin,I.hok,I.len⟩
theorem Lv{D:fC}{P:Program}{w:World}{K:Frag}{M:Str->Option Value}{base:Heap}{k:Nat}{f:Addr}{name d:Str}{h:Arguments}{body:List Stmt}{a:Scope}{dV kV z pm g ct oc:Value}{Z od:Option Addr}
  {O:Array (Option Value)}{N G:List Str}{R:Sp}(lk:K.lookup f=some ⟨oc,od,.func (fnOf name d h body a dV kV z pm Z g ct),O⟩) (T:codeIn K g d=true) (S:aa N G a)
  (len:∀i H Q E,R i H Q E->i.length=G.length)
  (l:∀(A:Around) (c:List Env) (s:Shared) (H:Hp) (i:List V) (Q:VK) (E:XK),cp k (A.deeper (envOfC d a s.heap.objs.size f g))->R i H Q E->
   ∃t,PSs (lv D P w K M base N d a f g A c s H E) body t/\t { nx:=fun _ j=>Q .non j,rt:=Q } (start N i) H) :
  eO P w K M base D (k+1) f (fnOf name d h body a dV kV z pm Z g ct) G R:=by
 refine⟨len,fun A c s H args us i Q E hr B hb r C=>?_⟩;have hl:=len _ _ _ _ C;have KX:K.In s.heap:=B.mod.kin.keeps fun b o e=>(B.bs b o e).1;have U:s.heap.NoLimit:=B.mod.nolimit.keeps fun b o e=>(B.bs b o e).1;have m:∀y∈G.zip us,a.names.lookup y.1=some .local\/(a.names.lookup y.1=some .cell/\((cellsFrom (s.heap.objs.size+1) a.names []).lookup y.1).isSome=true):=fun⟨n,v⟩ hy=>by
  rcases S.par n (List.of_mem_zip hy).1 with q | q
  ·exact .inl q
  ·exact .inr ⟨q,PySem.W.cellsFrom_some _ _ _ (.inl q)⟩
 refine codeAny_call_function (by have:=hr.dp;omega) (KX _ _ lk) rfl S.co S.gen rfl (PySem.W.codeRec_of KX T) (hb _ _ _ _ ?_);refine wpAny_newFunctionEnv_cells S.kind m fun a0 he s1 x=>?_;subst he;refine⟨U.keeps x.toInCall.keep,codeAny_func ?_⟩;obtain⟨t,ht,hq⟩:=l A c s H i Q E (hr.deeper _) C;have I:Inv (lv D P w K M base N d a f g A c s H E) [] (start N i) H s1:=Lu S B hl r x;refine wpAny_mono (ht [] s1 (start N i) H _ I hq) (fun fl X p=>?_) fun e X p=>p;have fin:∀{L:St}{j:Hp}{v:V}{u:Value},Inv (lv D P w K M base N d a f g A c s H E) [] L j X->bn v u->Q v j->CE c P w H s Q u X:=
  fun {L j v u} J Y q=>⟨v,j,J.os,J.bare,J.base,J.hok,Y,q⟩
 cases fl with
 | ret u=>obtain⟨v,L,j,J,Y,q⟩:=p;exact fin J Y q
 | next=>obtain⟨L,j,J,q⟩:=p;exact fin (v:=V.non) (u:=Value.none) J rfl q
 | brk=>obtain⟨_,_,_,q⟩:=p;exact False.elim q
 | cont=>obtain⟨_,_,_,q⟩:=p;exact False.elim q
theorem Lw{P:Program}{w:World}{K:Frag}{m:Str->Option Value}{base:Heap}{N:List Str}{i:Str}{d:Scope}{f:Addr}{j:Value}{A:Around}{h:List Env}{s:Shared}{H:Hp}{E:XK}{F:Fx}{n:Str->al->Prop}
  (v:GF m F) (x:∀c C p y r B,m c=some C->aC K F r y p B->n c p->E C none r):dO (lv (ba P w) P w K m base N i d f j A h s H E) F n:=by
 refine⟨v,?_⟩;intro t Y k D e c U O ⟨I,a,C,g,R,G,u,ex,L⟩ st q;subst G;have M:(A.deeper (envOfC i d s.heap.objs.size f j)).frames=some (envOfC i d s.heap.objs.size f j::h):=I.ok.frames;have hb:∀b,D.heap.get? b=none->k b=none:=fun b z=>HOk.some_of I.hok z;have stk:bI (envOfC i d s.heap.objs.size f j::h)=s.heap.objs.size::bI h:=rfl;refine Aj (base:=base) M I.stack rfl hb ex fun S ch l=>?_;have J:=I.ch u ch;refine⟨a,C,k,rfl,J.os,J.bare,J.base,J.hok,l.weak fun b o Q=>u.s0 b o Q (by intro z;cases z),x c C U Y k O L st q⟩
section
variable{P:Program}{w:World}{K:Frag}{mg:Str->Option Value}{base:Heap}{x qual:Str}{st:Stmt}{f:Addr}{fd:FuncData}{N ps:List Str}{k:Nat}{m:SM}
theorem Lx(Fn:kR K x qual st f fd)(S:aa N ps (be st))(hN:ps.length<=N.length)
  (Z:∀(y:Value) (A:Around) (t:List Env) (s:Shared) (H:Hp) (E:XK) (F:Fx) (Y:Str->al->Prop),cp k (A.deeper (envOfC qual (be st) s.heap.objs.size f y))->dO (lv (ba P w) P w K mg base N qual (be st) f y A t s H E) F Y->
   gu (lv (ba P w) P w K mg base N qual (be st) f y A t s H E) F (ia st) (bT Y m)):eO P w K mg base (ba P w) (k+1) f fd ps (bc K mg (bj ps.length N.length m)):=by
 obtain⟨oc,od,kV,a3,pm,an,y,ct,a4,rfl,lk,a0⟩:=Fn.ex;have G:∀B H Q E,bc K mg (bj ps.length N.length m) B H Q E->B.length=ps.length:=fun B H Q E ⟨_,l,u,O₀,L,_,_,q⟩=>by
  rw[L.len.1];unfold bj at q
  by_cases h:l.length=ps.length
  ·exact h
  ·rw[if_neg h] at q;exact q.elim
 refine Lv lk a0 S G fun A t s H B Q E hr M=>?_;have a5:=G B H Q E M;obtain⟨gh,l,u,O₀,L,nd,live,q⟩:=M;obtain⟨l1,l2⟩:=L.len;have O:l.length=ps.length:=by omega
 let F:Fx:=⟨H,u.flatten,O₀,kY B⟩
 have R:=Am (N:=N) L nd live (by omega);have fin:∀{T:St}{j:Hp}{n:al}{J:List Addr}{fp:List Addr}{g:List Bx},aC K (F.plus fp) j T n J->(∀a∈fp,a∈F.A₀\/F.H₀ a=none)->cu l n = some g->∃d,aT j (d.flatten++fp++O₀) B l g d/\fX H j u.flatten (d.flatten++fp) O₀/\aP J j (d.flatten++fp++O₀) j:=by
  rintro T j n J fp g ⟨W,p,rfl⟩ a1 ho;obtain⟨d,o,sb⟩:=qv p l B 0 g l1 (fun i io b e=>L.ios i io b e) ho;have X:d.flatten.Sublist W.flatten:=sb;have sub:(d.flatten++fp++O₀).Sublist (W.flatten++(fp++O₀)):=by rw[List.append_assoc];exact List.Sublist.append X (List.Sublist.refl _)
  have D:aP (W.flatten++(fp++O₀)) j (d.flatten++fp++O₀) j:=fH fun a h=>sub.subset h;refine⟨d,o.mono D,⟨p.nd.sublist sub,fun a h=>p.live a (sub.subset (bf _ h)),fun b o hb e=>p.kept b o hb e,fun a h=>?_⟩,D⟩;rcases List.mem_append.mp h with h | h
  ·exact p.new a (X.subset h)
  ·exact a1 a h
 have a2:bj ps.length N.length m l=(match m (gw N.length ps.length l) with
  | .nx U=>(match cu l U with | some o=>.rt (.dat .none) o | none=>.bad)
  | .rt c U=>(match cu l U with | some o=>.rt c o | none=>.bad)
  | .ex c U=>(match cu l U with | some o=>.ex c o | none=>.bad)
  | _=>.bad):=by unfold bj gw;rw[if_pos O]<;>rfl
 rw[a2] at q;rw[O] at R;let Y:Str->al->Prop:=fun c n=>∃g,cu l n = some g/\∀C j d,mg c=some C->aT j (d.flatten++O₀) B l g d->fX H j u.flatten d.flatten O₀->E C none j;refine⟨_,Z y A t s H E F Y hr (Lw (gh.frame fun a h=>live a (bf _ h)) fun c C n T j J I p ⟨g,ho,k⟩=>?_),?_⟩
 ·obtain⟨d,o,b,_⟩:=fin (fp:=[]) p (fun a h=>by cases h) ho;rw[List.append_nil] at o b;exact k C j d I o b
 ·refine⟨gw N.length ps.length l,_,⟨fun n=>∃g,cu l n = some g/\∀j d,aT j (d.flatten++[]++O₀) B l g d->fX H j u.flatten (d.flatten++[]) O₀->Q .non j,fun c n=>∃g,cu l n = some g/\∀v j fp d,dG K j (d.flatten++fp++O₀) v c fp->aT j (d.flatten++fp++O₀) B l g d->fX H j u.flatten (d.flatten++fp) O₀->Q v j,fun _=>False,fun _=>False⟩,⟨_,R,rfl⟩,?_,?_⟩
  ·unfold bT;cases I:m (gw N.length ps.length l) with
   | nx n=>
    rw[I] at q;cases ho:cu l n with
    | none=>simp[ho] at q
    | some g=>simp only[ho] at q;exact⟨g,ho,fun j d o b=>q .non j [] d .non o b⟩
   | rt c n=>
    rw[I] at q;cases ho:cu l n with
    | none=>simp[ho] at q
    | some g=>simp only[ho] at q;exact⟨g,ho,q⟩
   | ex c n=>
    rw[I] at q;cases ho:cu l n with
    | none=>simp[ho] at q
    | some g=>simp only[ho] at q;exact⟨g,ho,q⟩
   | bk n=>rw[I] at q;exact q
   | ct n=>rw[I] at q;exact q
   | bad=>rw[I] at q;exact q
  ·refine⟨fun T j n J p s' ⟨g,ho,k⟩=>?_,fun v T j c n J fp r s' ⟨g,ho,k⟩=>?_,fun _ _ _ _ _ _ z=>z.elim,fun _ _ _ _ _ _ z=>z.elim⟩
   ·obtain⟨d,o,b,_⟩:=fin (fp:=[]) p (fun a h=>by cases h) ho;exact k j d o b
   ·obtain⟨d,o,b,D⟩:=fin r.st r.new ho;exact k v j fp d (r.at_.keep D (fun _ _=>rfl) (fun _ _ _ e=>e)) o b
end
section
variable{X:Cx}{F:Fx}{e:Expr}{es:List Expr}{tX:gx}{E:Str->al->Prop}{pos p:Pos}{x:Str}{f:FM}{k:Nat}{g:Addr}{fd:FuncData}{ps:List Str}
theorem Lz{m:List (Addr×Obj)}{Y:St}{H:Hp}{s:Shared}{Q:VK}{L:List Value}{T:List V}{as:List AX}{U:al}{O:List Addr}{QC:ak->al->Prop}(hx:dO X F E)(G:eO X.prog X.w X.K X.mg X.base (ba X.prog X.w) k g fd ps (bc X.K X.mg f))(hr:cp k X.A)(hb:gM X.K fd ps [])
  (I:Inv X m Y H s) (r:bh T L) (st:aC X.K F H Y U O) (ax:cF Y (ay O H) T as) (q:fY f E QC as U) (hQ:∀c M,QC c M->∀v b Z N,gr X.K F b Y M Z v c N->aP O H Z b->Q v b) :
  wpAny (model X.prog X.w) X.A (call (.ref g) L) (EP X m Y Q) X.xe s:=by
 unfold fY at q;cases hc:gy U as with
 | none=>rw[hc] at q;exact q.elim
 | some p=>
  obtain⟨cs,js⟩:=p;rw[hc] at q;simp only at q;obtain⟨i,O2,a0,ar,s1,a8,nw,ja⟩:=qx st as T cs js hc ax;obtain⟨W,y,a1⟩:=id a0;have a4:(W.flatten++(i.flatten++F.O₀)).Nodup:=y.nd;have l:∀a,a∈O2↔a∈i.flatten++(W.flatten++F.O₀):=fun a=>by
   rw[a1];show a∈W.flatten++(i.flatten++F.O₀)↔_;simp only[List.mem_append];constructor
   ·rintro(h | h | h)<;>simp[h]
   ·rintro(h | h | h)<;>simp[h]
  have perm:(i.flatten++(W.flatten++F.O₀)).Perm (W.flatten++(i.flatten++F.O₀)):=by rw[<-List.append_assoc,<-List.append_assoc];exact List.Perm.append_right _ List.perm_append_comm
  have a2:(i.flatten++(W.flatten++F.O₀)).Nodup:=perm.nodup_iff.mpr a4;have a5:aP O2 H (i.flatten++(W.flatten++F.O₀)) H:=fH fun a h=>(l a).mpr h;have R:∀(b:Hp) (n:List Addr) (a:Addr),(a∈n++(W.flatten++F.O₀))->a∈n\/(a∈O2/\a∉i.flatten):=fun b n a h=>by
   rcases List.mem_append.mp h with h | h
   ·exact .inl h
   ·refine .inr ⟨(l a).mpr (bb _ h),fun z=>?_⟩;exact(List.nodup_append.mp a2).2.2 a z a h rfl
  have j:∀(b:Hp) (n:List Addr),fX H b i.flatten n (W.flatten++F.O₀)->∃B,aC X.K (F.plus n) b Y (eI js U) B/\aP O2 H B b/\∀a,a∈B↔a∈n++(W.flatten++F.O₀):=fun b n t=>by
   obtain⟨B,t1,t2,t3,t4,t5⟩:=a0.swap (H':=b) (L':=n) t.keep (List.nodup_append.mp t.nd).1 t.new nw t.live;refine⟨B,t1,t2,fun a=>⟨fun h=>?_,fun h=>?_⟩⟩
   ·rcases t4 a h with z | ⟨z1,z2⟩
    ·exact bf _ z
    ·rcases List.mem_append.mp ((l a).mp z1) with z | z
     ·exact absurd z z2
     ·exact bb _ z
   ·rcases R b n a h with z | ⟨z1,z2⟩
    ·exact t3 a z
    ·exact t5 a z1 z2
  have r2:bh (T++[]) (L++[]):=by rw[List.append_nil,List.append_nil];exact r
  let EX:XK:=fun C _ b=>∃c M Z,X.mg c=some C/\aC X.K F b Y M Z/\E c M;have sp:bc X.K X.mg f T H Q EX:=by
   refine⟨hx.1.at st,cs,i,W.flatten++F.O₀,ar.mono a5,a2,fun a h=>?_,?_⟩
   ·exact y.live a (by have:=(l a).mpr h;rw[a1] at this;exact this)
   ·cases hf:f cs with
    | bad=>rw[hf] at q;exact q
    | rt c a3=>
     rw[hf] at q;simp only at q ⊢;intro v b N d a6 S t;obtain⟨B,t1,t2,t3⟩:=j b (d.flatten++N) t;have D:aP (d.flatten++N++(W.flatten++F.O₀)) b B b:=fH fun a h=>(t3 a).mp h;have J:∀a∈d.flatten++N,a∈F.A₀\/F.H₀ a=none:=fun a h=>by
      rcases t.new a h with z | z
      ·exact nw a z
      ·by_cases hA:a∈F.A₀
       ·exact .inl hA
       ·refine .inr ?_;cases e:F.H₀ a with
        | none=>rfl
        | some o=>have:=y.kept a o hA e;rw[z] at this;cases this
     have lj:(eI js U).length=U.length:=qw;obtain⟨O4,u1,u2⟩:=qy (fp:=N) ja lj t1 (S.mono D) fun a h=>J a (bf _ h);exact hQ c _ q v b O4 N ⟨u1,a6.keep (D.trans u2) (fun _ _=>rfl) (fun _ _ _ e=>e),fun a h=>J a (bb _ h)⟩ (s1.trans (t2.trans u2))
    | ex c a3=>
     rw[hf] at q;simp only at q ⊢;intro C b d hm S t;obtain⟨B,t1,t2,t3⟩:=j b d.flatten t;have D:aP (d.flatten++(W.flatten++F.O₀)) b B b:=fH fun a h=>(t3 a).mp h;have J:∀a∈d.flatten,a∈F.A₀\/F.H₀ a=none:=fun a h=>by
      rcases t.new a h with z | z
      ·exact nw a z
      ·by_cases hA:a∈F.A₀
       ·exact .inl hA
       ·refine .inr ?_;cases e:F.H₀ a with
        | none=>rfl
        | some o=>have:=y.kept a o hA e;rw[z] at this;cases this
     have lj:(eI js U).length=U.length:=qw;obtain⟨O4,u1,u2⟩:=qy (fp:=[]) ja lj (by rw[List.append_nil];exact t1) (S.mono D) J;exact⟨c,_,O4,hm,u1,q⟩
  have hl:(L++[]).length=ps.length:=by rw[List.append_nil,<-r.length];exact G.len _ _ _ _ sp
  refine wpAny_call (codeAny_mono (G.run X.A X.stack s H ⟨L,[]⟩ L T Q EX hr I.env0 (by have:=hb s L I.kIn hl;rw[List.append_nil] at this;exact this) r sp) fun r s' hq=>?_);cases r with
  | error e=>obtain⟨a,C,b,e1,I',cv,ex,c,M,Z,hm,a7,hE⟩:=I.flies hq;exact hx.2 m Y b s' e c M Z ⟨I',a,C,s.heap,_,e1,cv,ex,hm⟩ a7 hE
  | ok fl=>
   cases fl with
   | ret u=>exact I.after hq
   | next=>exact False.elim hq
   | brk=>exact False.elim hq
   | cont=>exact False.elim hq
theorem Br(L:dO X F E)(G:eO X.prog X.w X.K X.mg X.base (ba X.prog X.w) k g fd ps (bc X.K X.mg f))(M:cp k X.A)(N:Gl X x)(R:X.mg x=some (.ref g))(S:keepIn X.K (.ref g)=true)(hb:gM X.K fd ps [])
  (o:DX X F (e::es) tX) (t:(x==("__debug__":Str))=false:=by decide) (T:starEach (e::es) X.env=(false,eval e X.env)::starEach es X.env:=by rfl) (u:(backTo pos (starEach es X.env)).any (·.1)=false:=by rfl) :
  DO X F (.Call (.Name x p) (e::es) [] pos) (va f E tX):=by
 refine⟨fun U Q Q' k q=>o.mn _ _ _ (fun as b i=>Ao k i) q,fun j s Y H Q I ⟨U,O,st,q⟩=>?_⟩;refine wpAny_Call_Name_kw (lX I N R ?_ t);refine PySem.W.callWith_K (h₀:=X.base) I.ok.mod.kin S (aK (o.pa pos j s Y H (fun y l=>∃as b d,aC X.K F l Y b d/\aP O H d l/\cF Y (ay d l) y as/\fY f E (fun c D=>∀v m n z,gr X.K F m Y D n v c z->aP O H n m->Q v m) as b) I ⟨U,O,st,o.mn _ _ _ (fun as b i y l d a J B=>⟨as,b,d,a,J,B,i⟩) q⟩) fun us J ⟨y,l,I1,r,as,b,d,a,C,B,i⟩=>⟨I1.kIn,?_⟩) T u;exact Lz L G M hb I1 r a B i fun c D h v m n z res Z=>h v m n z res (C.trans Z)
end
end L2.L3
namespace L2.L3
open PySem PySem.Spec PyProof.Rows Builtin Builtin.ObjectAttr Builtin.Getset_descriptor
section
variable{prog:Program}{w:World}{A:Around}{E:Value->Shared->Prop}{K:Frag}{h:Heap}{g:Array GenState}{d:Drawn}{t:Nat}{os:OsState}{a C:Addr}{o:Obj}
theorem LA{Q:Option Value->Shared->Prop}(X:K.In h)(e:h.get? a=some o)(f:o.cls=.ref C)(f1:findIn K (.ref C) "__getattribute__" = some (some (.builtin "BaseException.__getattribute__")))
  (f2:findIn K (.ref C) "__class__" = some (some (.builtin "object.__class__"))) (i:findIn K (.ref C) "__getattr__" = some none) (j:mroIn K C (.type "BaseException")=some true) (k:mroIn K C (.type "object")=some true)
  (q:Q (some (.ref C)) ⟨h,g,d,t+1,os⟩):wpAny (model prog w) A (getAttr? (.ref a) "__class__") Q E ⟨h,g,d,t,os⟩:=by
 have b:PySem.W.Looks (model prog w) h (typeOf (.ref a)) (.ref C):=f▸(PySem.W.Looks.ld e).andThen .now;have l:=PySem.W.looks_findIn (M:=model prog w) X f1;have L2:=PySem.W.looks_findIn (M:=model prog w) X i;have L3:=PySem.W.looks_findIn (M:=model prog w) X f2;have m:=PySem.W.looks_mroIn (M:=model prog w) X j;have c:=PySem.W.looks_mroIn (M:=model prog w) X k;have g3:=F.attrBase_ValueError.ga.bind (.ref a);unfold getAttr? getAttrBy? getAttrBy;refine aw (wpAny_mkText (aw (wpAny_attempt (wpAny_holding (aw (b.at (aw (l.at ?_))))))));show wpAny _ _ (getAttrByItsOwn _ _ _ _ _ _) _ _ _;unfold getAttrByItsOwn
 repeat (any_goals (first | assumption | with_reducible refine b.at ?_ | with_reducible refine L2.at ?_ | wp_step))
 refine codeAny_call_builtin F.attrBase_ValueError.ga.plain F.entry_bexc_ga ?_;have n:builtinKind "BaseException.__getattribute__" = some .slot:=by decide +kernel
 have p:splitId "BaseException.__getattribute__" = some ("BaseException","__getattribute__"):=by decide +kernel
 have r:=F.args_bexc_ga (.ref a) (.str "__class__" t);simp only[checkBuiltinCall,n,p];refine aw ?_;unfold isInstance
 repeat (any_goals (first | assumption | with_reducible refine b.at ?_ | with_reducible refine m.at ?_ | wp_step))
 have s:typeOf (.builtin "object.__class__")=pure (.type "getset_descriptor"):=PySem.W.KF.type_class;have u:=F.slot_gs_get.lookup;have v:=F.slot_gs_set.lookup
 repeat (any_goals (first | assumption | with_reducible refine b.at ?_ | with_reducible refine L3.at ?_ | wp_step))
 refine codeAny_call_builtin PySem.W.KF.slot_gs.plain PySem.W.KF.entry_gs (PySem.W.KF.slot_gs.check _ _ _ _ _ _ _ _ PySem.W.KF.type_class (PySem.W.KF.args_gs _ _ _) ?_);unfold Builtin.«getset_descriptor.__get__» descrGet;rw[PySem.W.dga_obj];refine aw (bo ?_);unfold descrGetter descrCheckInstance descrNameAndClass isInstance;simp only[PySem.W.KF.owner_class]
 repeat (any_goals (first | assumption | with_reducible refine b.at ?_ | with_reducible refine c.at ?_ | wp_step))
 refine⟨Code.quiet_builtin _ (by decide +kernel),codeAny_builtin PySem.W.KF.entry_class ?_⟩;unfold Builtin.«object.__class__» PySem.shownTypeOf
 repeat (any_goals (first | assumption | with_reducible refine b.at ?_ | with_reducible refine c.at ?_ | wp_step))
theorem LB(f:ow K C=true)(m:(clsIn K C).isSome=true):PySem.W.KitX K (.ref a) (.ref C) (fun h=>∃o,h.get? a=some o/\o.cls=.ref C):=by
 unfold ow at f;simp only[Bool.and_eq_true,beq_iff_eq] at f;obtain⟨⟨⟨⟨f1,f2⟩,p⟩,r⟩,u⟩:=f;obtain⟨z,b⟩:=Option.isSome_iff_exists.mp m;unfold clsIn at b;split at b
 ·rename_i B D G H l;refine⟨fun M h X ⟨o,c,i⟩=>i▸(PySem.W.Looks.ld c).andThen .now,fun M h X _=>?_,fun h v R x n S X j=>?_,fun {prog w A E Q s} X ⟨o,c,i⟩ k=>?_⟩
  ·intro I J L N k q;unfold isType loadHead;exact aw (wpAny_loadPart (k _ _ (X _ _ l)) (bo q))
  ·refine Bool.eq_false_iff.mpr fun q=>?_;have e:C=v:=Value.ref.inj (beq_iff_eq.mp q);subst e;have y:=(X _ _ l).symm.trans j;cases y
  ·obtain⟨O,g,d,t,os⟩:=s;exact LA X c i f1 f2 p r u k
 ·cases b
end
end L2.L3
namespace L2.L3
open PySem PySem.Spec PyProof.Rows
noncomputable def iU:Value->V
 | .bool b=>.bl b
 | .int i _=>.int i
 | .str x _=>.str x
 | _=>.non
theorem Bs{v:V}{z:Value}(r:bn v z)(f:hV v=true):iU z=v:=by
 cases v with
 | non=>cases r;rfl
 | bl b=>cases r;rfl
 | int i=>obtain⟨t,rfl⟩:=r;rfl
 | str i=>obtain⟨t,rfl⟩:=r;rfl
 | _=>cases f
theorem vP{A:Around}{s:Shared}{y:V}{u:Value}(e:bn y u)(f:hV y=true):∀{c:List V}{a:List Value},bh c a->c.all hV=true->(∀z∈a,SeqAt.EqAt A s z u (ee (iU z) y))/\a.map iU=c
 | _,_,.nil,_=>⟨(fun _ h=>nomatch h),rfl⟩
 | _,_,.cons h t,b=>by
  rw[List.all_cons,Bool.and_eq_true] at b;obtain⟨g,h2⟩:=vP (A:=A) (s:=s) e f t b.2;refine⟨fun z d=>?_,?_⟩
  ·rcases List.mem_cons.mp d with rfl | d
   ·rw[Bs h b.1];exact Hg h e b.1 f
   ·exact g z d
  ·rw[List.map_cons,h2,Bs h b.1]
section
variable{X:Cx}{F:Fx}{E:Str->al->Prop}{e a b c:Expr}{es:List Expr}{st:Stmt}{rest:List Stmt}{pos:Pos}{x:Str}
noncomputable def Bt:V->List V->Hp->VK->Prop:=fun x f H Q=>∃l d y,x=.ref l/\f=[y]/\H l=some (.lst d)/\d.all hV=true/\hV y=true/\Q (.int (d.countP fun z=>ee z y:Nat)) H
theorem LC:qe X "list.count" Bt:=by
 intro f s Y H x w v B Q I g i h;obtain⟨l,j,y,rfl,rfl,k,m,o,q⟩:=h;cases g;obtain⟨u,rfl,ru⟩:=i.one;obtain⟨z,d,n,r,C,e⟩:=I.lstM k;obtain⟨t,h2⟩:=vP (A:=X.A.in1) (s:=s) ru o r m;refine call_meets F.slot_list_count ⟨_,e,rfl⟩ F.entry_list_count (F.args_list_count_2 _ _) (SeqAt.list_countAt l d.toArray n none #[] u fun z=>ee (iU z) y) ⟨e,fun z p=>t z (by simpa using p),?_⟩;refine⟨.int _,H,I.tok _,⟨_,rfl⟩,?_⟩;have:d.countP (fun z=>ee (iU z) y)=j.countP fun z=>ee z y:=by rw[<-h2,List.countP_map];rfl
 rw[this];exact q
noncomputable def Bu:V->List V->Hp->VK->Prop:=fun x f H Q=>∃l d y,x=.ref l/\f=[y]/\H l=some (.lst d)/\d.all hV=true/\hV y=true/\(d.findIdx fun z=>ee z y)<d.length/\Q (.int (d.findIdx fun z=>ee z y:Nat)) H
theorem LD:qe X "list.index" Bu:=by
 intro k s Y H x J v L Q I o p h;obtain⟨l,f,y,rfl,rfl,t,B,C,g,q⟩:=h;cases o;obtain⟨u,rfl,ru⟩:=p.one;obtain⟨z,d,n,r,M,e⟩:=I.lstM t;obtain⟨G,h2⟩:=vP (A:=X.A.in1) (s:=s) ru C r B;have gt:∀m (i:m<d.length),ee (iU d[m]) y=ee (f[m]'(by omega)) y:=fun m i=>by
  have:f[m]'(by omega)=iU d[m]:=by subst h2;simp
  rw[this]
 have big:((f.findIdx fun z=>ee z y:Nat):Int)<2 ^ 63 - 1:=by
  have:sizeLine<2 ^ 62:=by decide
  omega
 refine call_meets F.slot_list_index ⟨_,e,rfl⟩ F.entry_list_index (F.args_list_index_2 _ _) (SeqAt.list_indexAt l d.toArray n none #[] u (fun z=>ee (iU z) y) (f.findIdx fun z=>ee z y) (by rw[List.size_toArray];omega) big ?_ ?_) ⟨e,fun z D=>G z (by simpa using D),?_⟩
 ·show ee (iU d[f.findIdx fun z=>ee z y]) y=true;rw[gt _ (by omega)];exact List.findIdx_getElem (w:=g)
 ·intro m i h;have j:m<d.length:=by simpa using i
  show ee (iU d[m]) y=false;rw[gt m j];have:=List.not_of_lt_findIdx h;simpa using this
 ·exact⟨.int _,H,I.tok _,⟨_,rfl⟩,q⟩
@[simp] noncomputable def Bv:ak->Option (List PyData)
 | .dat (.list ds)=>some ds
 | .own _ (.l ds)=>some ds
 | _=>none
@[simp] noncomputable def lx(U:al)(i:Nat):Option (List PyData):=match U[i]? with
 | some (some c)=>Bv c
 | _=>none
theorem Bw{K:Frag}{H:Hp}{Y:St}{U:al}{O:List Addr}{i:Nat}{k:List PyData}(st:aC K F H Y U O)(h:lx U i=some k):∃p j,Y[i]? = some (some (.ref p))/\H p=some (.lst j)/\aQ (ay O H) j k:=by
 unfold lx at h;split at h
 ·rename_i c e;unfold Bv at h;split at h
  ·cases h;obtain⟨v,d,hd⟩:=st.dat e;obtain⟨p,f,rfl,l,g⟩:=hd.lst_inv;exact⟨p,f,d,(cP l).1,g⟩
  ·cases h;obtain⟨p,n,d,⟨_,f,m,g⟩,_⟩:=st.box e;exact⟨p,f,d,m,g⟩
  ·cases h
 ·cases h
@[simp] noncomputable def oy:PyData->Option V
 | .none=>some .non
 | .bool b=>some (.bl b)
 | .int i=>some (.int i)
 | .str x=>some (.str x)
 | _=>none
@[simp] noncomputable def mC:List PyData->Option (List V)
 | []=>some []
 | d::r=>(match oy d,mC r with | some v,some l=>some (v::l) | _,_=>none)
theorem vQ{G:Hp}{v w:V}{d:PyData}(h:DV G v d)(e:oy d=some w):v=w/\hV v=true:=by
 cases d with
 | none=>cases e;rw[h.non_inv];exact⟨rfl,rfl⟩
 | bool b=>cases e;rw[h.bl_inv];exact⟨rfl,rfl⟩
 | int b=>cases e;rw[h.int_inv];exact⟨rfl,rfl⟩
 | str b=>cases e;rw[h.str_inv];exact⟨rfl,rfl⟩
 | _=>cases e
theorem vR{G:Hp}:∀{f i:List V}{g:List PyData},aQ G f g->mC g=some i->f=i/\f.all hV=true
 | [],_,[],.nil,e=>by cases e;exact⟨rfl,rfl⟩
 | v::f,_,d::g,.cons h t,e=>by
  unfold mC at e;cases h1:oy d with
  | none=>rw[h1] at e;cases e
  | some w=>
   cases h2:mC g with
   | none=>rw[h1,h2] at e;cases e
   | some l=>rw[h1,h2] at e;cases e;obtain⟨j,f1⟩:=vQ h h1;obtain⟨k,f2⟩:=vR t h2;exact⟨by rw[j,k],by rw[List.all_cons,f1,f2];rfl⟩
@[simp] noncomputable def qQ(f:List PyData)(y:PyData):Option PyData:=match mC f,oy y with
 | some d,some w=>some (.int (d.countP fun z=>ee z w:Nat))
 | _,_=>none
@[simp] noncomputable def qR(f:List PyData)(y:PyData):Option PyData:=match mC f,oy y with
 | some d,some w=>if (d.findIdx fun z=>ee z w)<d.length then some (.int (d.findIdx fun z=>ee z w:Nat)) else none
 | _,_=>none
@[simp] noncomputable def By(g:List PyData->PyData->Option PyData)(i:Nat)(d:PyData):XM PyData:=fun U=>lift (match lx U i with
 | some ds=>g ds d
 | none=>none) U
@[simp] noncomputable def qS(g:List PyData->PyData->Option PyData)(i:Nat)(m:XM PyData):XM PyData:=fun U=>match lx U i with
 | some _=>(m U).bind (By g i)
 | none=>.bad
theorem Bz{i:Nat}{m:XM PyData}{s apos f:Pos}{I:Str}{id:String}{r:V->List V->Hp->VK->Prop}{g:List PyData->PyData->Option PyData}(slot:Slot "list" I id)(J:typeOf (.builtin id)=pure (.type "method_descriptor"))(hm:qe X id r)
  (hg:∀G l Z D y d z H Q,H l=some (.lst Z)->aQ G Z D->DV G y d->g D d=some z->(∀u,DV G u z->Q u H)->r (.ref l) [y] H Q)
  (hv:PE X (.Name x s) (ca i)) (he:FE X F E e m)
  (j:attributeBase (.Name x s) I X.env (eval (.Name x s) X.env)=eval (.Name x s) X.env:=by rfl)
  (t:((backTo f (starEach [e] X.env)).all (fun x=>!x.1)&&(backToKw f (keywordEach [] X.env)).all (fun x=>x.1.isSome)&&decide (([e]:List Expr).length+([]:List Keyword).length+(if ([]:List Keyword).isEmpty then 0 else 1)<30))=true:=by rfl)
  (n:(apos.endLine==f.line)=true:=by rfl) (hs:starEach [e] X.env=(false,eval e X.env)::starEach [] X.env:=by rfl) (h:(backTo f (starEach [] X.env)).any (·.1)=false:=by rfl) :
  FE X F E (.Call (.Attribute (.Name x s) I apos) [e] [] f) (qS g i m):=
 ⟨aH,(qf PySem.F.plainAttrs_list slot J hm hv (dE he.pe er hs) j t n hs h).imp fun Y H Q ⟨U,O,st,q⟩=>by
  unfold wp qS at q;cases L:lx U i with
  | none=>rw[L] at q;exact q.elim
  | some a0=>
   rw[L] at q;obtain⟨p,M,v,N,_⟩:=Bw st L;refine⟨_,v,.inl ⟨rfl,M,.of N⟩,U,O,st,aH _ _ _ (fun d R q1 w H1 O1 A s1 d1=>?_) (bQ (m:=m) (k:=By g i) q)⟩;obtain⟨z,C,q2⟩:=dj (o:=match lx R i with | some D=>g D d | none=>none) (U:=R) (E:=E) q1;cases h1:lx R i with
   | none=>rw[h1] at C;cases C
   | some a1=>
    rw[h1] at C;obtain⟨p',a2,B,S,T⟩:=Bw A h1;rw[v] at B;cases B;exact hg _ _ _ _ _ _ _ _ _ S T d1 C fun u hu=>q2 u H1 O1 A s1 hu⟩
theorem LF:∀G l f g y d z H Q,H l=some (.lst f)->aQ G f g->DV G y d->qQ g d=some z->(∀u,DV G u z->Q u H)->Bt (.ref l) [y] H Q:=fun G l f g y d z H Q h i j e q=>by
 unfold qQ at e;split at e
 ·rename_i k w h1 h2;cases e;obtain⟨rfl,f1⟩:=vR i h1;obtain⟨rfl,f2⟩:=vQ j h2;exact⟨l,f,y,rfl,rfl,h,f1,f2,q _ (.int _)⟩
 ·cases e
theorem LG:∀G l f g y d z H Q,H l=some (.lst f)->aQ G f g->DV G y d->qR g d=some z->(∀u,DV G u z->Q u H)->Bu (.ref l) [y] H Q:=fun G l f g y d z H Q h i j e q=>by
 unfold qR at e;split at e
 ·rename_i m w h1 h2;split at e
  ·rename_i k;cases e;obtain⟨rfl,f1⟩:=vR i h1;obtain⟨rfl,f2⟩:=vQ j h2;exact⟨l,f,y,rfl,rfl,h,f1,f2,k,q _ (.int _)⟩
  ·cases e
 ·cases e
end
section
variable{X:Cx}{F:Fx}{E:Str->al->Prop}{e a b c:Expr}{es:List Expr}{st:Stmt}{rest:List Stmt}{pos:Pos}{x:Str}
@[simp] noncomputable def jG(U:al)(i:Nat):Option (Bool×List PyData):=match U[i]? with
 | some (some (.own io (.l ds)))=>some (io,ds)
 | _=>none
theorem vS{U:al}{i:Nat}{io:Bool}{d:List PyData}(h:jG U i=some (io,d)):U[i]? = some (some (.own io (.l d))):=by
 unfold jG at h;split at h
 ·rename_i e;cases h;exact e
 ·cases h
@[simp] noncomputable def vT(i:Nat)(d:PyData):SM:=fun f=>match jG f i,d with
 | some (io,ds),.list g=>if ds.length+g.length<=sizeLine then .nx (f.set i (some (.own io (.l (ds++g))))) else .bad
 | _,_=>.bad
@[simp] noncomputable def qT(i:Nat)(m:XM PyData):SM:=fun U=>match jG U i with
 | some _=>eA (m U) (vT i)
 | none=>.bad
theorem BA{i:Nat}{m:XM PyData}{n apos g:Pos}(Z:PE X (.Name x n) (ca i))(he:FE X F E e m)(B:swapsWith (.Call (.Attribute (.Name x n) "extend" apos) [e] [] g) none pos.line X.env=pure false:=by rfl)
  (r:attributeBase (.Name x n) "extend" X.env (eval (.Name x n) X.env)=eval (.Name x n) X.env:=by rfl)
  (u:((backTo g (starEach [e] X.env)).all (fun x=>!x.1)&&(backToKw g (keywordEach [] X.env)).all (fun x=>x.1.isSome)&&decide (([e]:List Expr).length+([]:List Keyword).length+(if ([]:List Keyword).isEmpty then 0 else 1)<30))=true:=by rfl)
  (t:(apos.endLine==g.line)=true:=by rfl) (S:starEach [e] X.env=(false,eval e X.env)::starEach [] X.env:=by rfl) (j:(backTo g (starEach [] X.env)).any (·.1)=false:=by rfl) :
  FS X F E (.Expr (.Call (.Attribute (.Name x n) "extend" apos) [e] [] g) pos) (qT i m):=
 (pW (qf PySem.F.plainAttrs_list PySem.F.slot_list_extend PySem.F.type_list_extend Hn Z (dE he.pe er S) r u t S j) B).imp fun D Y H ⟨U,O,DD,st,q,f⟩=>by
  unfold bT qT at q;cases C:jG U i with
  | none=>rw[C] at q;exact q.elim
  | some p0=>
   obtain⟨a0,a1⟩:=p0;rw[C] at q;obtain⟨p,fp,v,⟨_,xs,hH,_⟩,_,_⟩:=st.box (vS C);refine⟨_,v,.inl ⟨rfl,xs,.of hH⟩,U,O,st,aH _ _ _ (fun d U1 h w H1 O1 I s1 d1=>?_) (gb (m:=m) (k:=vT i) q)⟩;unfold bT vT at h;cases h1:jG U1 i with
   | none=>rw[h1] at h;exact h.elim
   | some n=>
    obtain⟨a2,y⟩:=n;rw[h1] at h;cases d with
    | list T=>
     simp only at h;obtain⟨p',a3,z,⟨e1,J,L,hd⟩,hO,up⟩:=I.box (vS h1);rw[v] at z;cases z;subst e1;obtain⟨b,M,rfl,hb,A⟩:=d1.lst_inv
     by_cases N:y.length+T.length<=sizeLine
     ·rw[if_pos N] at h;refine⟨p,b,J,M,rfl,rfl,L,(cP hb).1,by rw[hd.length,A.length];exact N,?_⟩;obtain⟨O2,Q,s2,_⟩:=up (aM H1 p (.lst (J++M))) (.l (y++T)) [p] (fun c o R e=>by rw[bi (by simpa using R)];exact e) (by simp) (fun c R=>.inl R) (fun G O' s hG _=>by
       subst hG;exact⟨s.hid,rfl,J++M,cj,(aQ.mono s.hid hd).append (aQ.mono s.hid A)⟩)
      exact f.nx _ _ _ _ Q (s1.trans s2) h
     ·rw[if_neg N] at h;exact h.elim
    | _=>exact h.elim
noncomputable def LH(K:Frag):List V->Hp->VK->Prop:=fun d H Q=>∃a φ C w b,d=[.ref a,w]/\H a=some (.ext φ)/\(∀h,φ h->∃o,h.get? a=some o/\o.cls=.ref C)/\ow K C=true/\(clsIn K C).isSome=true/\(∀u,bn w u->kitOne K (.ref C) u=some b)/\Q (.bl b) H
theorem BB:gL X (.builtin "isinstance") (LH X.K):=by
 intro d s Y H l m Q I r h;obtain⟨a,φ,C,w,b,rfl,f,g,at_,cl,e,q⟩:=h;obtain⟨u,n,rfl,i,j⟩:=hJ r;cases i;obtain⟨p,_,_⟩:=(show cq X.prog X.w H s.heap a (.ext φ) from I.hok a _ f)
 exact kia_one (LB at_ cl) I.kIn (g _ p) (e _ j) (fun z=>nomatch z) fun k=>⟨.bl b,H,I.tok k,rfl,q⟩
theorem BC{K:Frag}{C:Addr}{l:List Value}{n:String}(h:excIn K C l n=true):(clsIn K C).isSome=true:=by
 unfold excIn at h;unfold clsIn;split at h
 ·rename_i e;rw[e];rfl
 ·cases h
@[simp] noncomputable def mD(U:al)(i:Nat):Option Str:=match U[i]? with
 | some (some (.exc c))=>some c
 | _=>none
theorem BD{U:al}{i:Nat}{c:Str}(h:mD U i=some c):U[i]? = some (some (.exc c)):=by
 unfold mD at h;split at h
 ·rename_i e;cases h;exact e
 ·cases h
@[simp] noncomputable def gD(i:Nat)(l:List Str)(cls:Str):XM PyData:=fun U=>match mD U i with
 | some c=>if c∈l/\cls∈l then .ok (.bool (c==cls)) U else .bad
 | none=>.bad
@[simp] noncomputable def vU(i:Nat)(l:List Str):XM PyData:=fun U=>match mD U i with
 | some c=>if c∈l then .ok (.bool true) U else .bad
 | none=>.bad
theorem BE{K:Frag}{m:Str->Option Value}{H:Hp}{Y:St}{U:al}{O:List Addr}{i:Nat}{c:Str}{C:Addr}(st:aC K F H Y U O)(h:U[i]? = some (some (.exc c)))(f:EC K m c C):∃a φ,Y[i]? = some (some (.ref a))/\H a=some (.ext φ)/\∀h,φ h->∃o,h.get? a=some o/\o.cls=.ref C:=by obtain⟨W,g,rfl⟩:=st;obtain⟨v,n,h1,h2,a,φ,rfl,h3,j⟩:=g.at_ i _ h;refine⟨a,φ,h1,(cP h3).1,fun h p=>?_⟩;obtain⟨q,o,d,k,l⟩:=j h p;rw[f.ns] at d;cases d;exact⟨o,k,l⟩
theorem iq{l:List Str}{D:Addr}{i:Nat}{cls:Str}{p f d:Pos}(t:XT X.K X.mg l D)(h:Gl X "isinstance")(j:X.mg "isinstance" = none)(B:PE X (.Name x f) (ca i))(k:Gl X cls)(m:cls∈l)(n:(cls==("__debug__":Str))=false:=by decide)
  (w:starEach [.Name x f,.Name cls d] X.env=(false,eval (.Name x f) X.env)::starEach [.Name cls d] X.env:=by rfl) (o:starEach [.Name cls d] X.env=(false,eval (.Name cls d) X.env)::starEach [] X.env:=by rfl) (r:(backTo pos (starEach [.Name cls d] X.env)).any (·.1)=false:=by rfl) :
  FE X F E (.Call (.Name "isinstance" p) [.Name x f,.Name cls d] [] pos) (gD i l cls):=by
 obtain⟨y,z,_⟩:=t.at_ m;refine⟨aH,(mf BB h j (show bootBuiltins "isinstance" = some (.builtin "isinstance") by decide +kernel) (dE B (dE (pV (v:=.ref y) k z.mg rfl n) er o) w) (by decide) (by decide) w r).imp fun Y H Q ⟨U,O,st,q⟩=>?_⟩;unfold wp gD at q;cases s:mD U i with
 | none=>rw[s] at q;exact q.elim
 | some c=>
  rw[s] at q
  by_cases g:c∈l/\cls∈l
  ·simp only[if_pos g] at q;obtain⟨C,A,_,at_,_,G⟩:=t.at_ g.1;obtain⟨D2,I,M,J⟩:=G cls g.2;have L:D2=y:=by have:=z.mg.symm.trans I;cases this;rfl
   subst L;obtain⟨a,φ,h1,h2,h3⟩:=BE st (BD s) A;exact⟨_,h1,a,φ,C,.ref D2,_,rfl,h2,h3,at_,BC A.ex,fun u ru=>by cases ru;exact J,q _ H O st .refl (.bl _)⟩
  ·simp only[if_neg g] at q
theorem LI{l:List Str}{D:Addr}{i:Nat}{p f d:Pos}(w:XT X.K X.mg l D)(g:Gl X "isinstance")(h:X.mg "isinstance" = none)(y:PE X (.Name x f) (ca i))(j:Gl X "ValueError")(k:X.mg "ValueError" = none)
  (s:starEach [.Name x f,.Name "ValueError" d] X.env=(false,eval (.Name x f) X.env)::starEach [.Name "ValueError" d] X.env:=by rfl) (m:starEach [.Name "ValueError" d] X.env=(false,eval (.Name "ValueError" d) X.env)::starEach [] X.env:=by rfl) (n:(backTo pos (starEach [.Name "ValueError" d] X.env)).any (·.1)=false:=by rfl) :
  FE X F E (.Call (.Name "isinstance" p) [.Name x f,.Name "ValueError" d] [] pos) (vU i l):=by
 refine⟨aH,(mf BB g h (show bootBuiltins "isinstance" = some (.builtin "isinstance") by decide +kernel) (dE y (dE (hI (v:=.ty "ValueError") j k (show bootBuiltins "ValueError" = some (.type "ValueError") by decide +kernel) rfl) er m) s) (by decide) (by decide) s n).imp fun Y H Q ⟨U,O,st,q⟩=>?_⟩;unfold wp vU at q;cases o:mD U i with
 | none=>rw[o] at q;exact q.elim
 | some c=>
  rw[o] at q
  by_cases r:c∈l
  ·simp only[if_pos r] at q;obtain⟨C,t,_,at_,z,A⟩:=w.at_ r;obtain⟨a,φ,h1,h2,h3⟩:=BE st (BD o) t;exact⟨_,h1,a,φ,C,.ty "ValueError",_,rfl,h2,h3,at_,BC t.ex,fun u ru=>by cases ru;exact z,q _ H O st .refl (.bl _)⟩
  ·simp only[if_neg r] at q
end
section
variable{X:Cx}{F:Fx}{E:Str->al->Prop}{e a b c:Expr}{es:List Expr}{st:Stmt}{rest:List Stmt}{pos:Pos}{x:Str}{ma mb mc:XM PyData}
@[simp] noncomputable def dL:=gI fun i j=>.int (i+j)
@[simp] noncomputable def iD:=gI fun i j=>.int (i - j)
@[simp] noncomputable def kg:=om jY fun i j=>.int (i * j)
@[simp] noncomputable def BF:=om qD fun i j=>.int (i / j)
@[simp] noncomputable def mE:=om ms fun i j=>.int (i % j)
@[simp] noncomputable def kh:=gI fun i j=>.bool (decide (i<j))
@[simp] noncomputable def qU:=gI fun i j=>.bool (decide (i<=j))
@[simp] noncomputable def ki:=gI fun i j=>.bool (decide (j<i))
theorem ei(d:FE X F E a ma)(f:FE X F E b mb):FE X F E (.BinOp a .Add b pos) (ag dL ma mb):=fZ jX (Kn d f)
theorem lz(d:FE X F E a ma)(f:FE X F E b mb):FE X F E (.BinOp a .Sub b pos) (ag iD ma mb):=fZ jX (Ko d f)
theorem lA(d:FE X F E a ma)(f:FE X F E b mb):FE X F E (.BinOp a .Mult b pos) (ag kg ma mb):=fZ (vj KM) (Kp d f)
theorem LJ(d:FE X F E a ma)(f:FE X F E b mb):FE X F E (.BinOp a .FloorDiv b pos) (ag BF ma mb):=fZ (vj KN) (Kq d f)
theorem oz(d:FE X F E a ma)(f:FE X F E b mb):FE X F E (.BinOp a .Mod b pos) (ag mE ma mb):=fZ (vj KO) (Kr d f)
theorem qV(d:FE X F E a ma)(f:FE X F E b mb):FE X F E (.BinOp a .Add b pos) (ag jz ma mb):=fZ KP (Ks d f)
theorem LL(d:FE X F E a ma)(f:FE X F E b mb):FE X F E (.BinOp a .Mult b pos) (ag qE ma mb):=fZ KQ (KJ d f)
theorem BG(d:FE X F E a ma)(f:FE X F E b mb):FE X F E (.Compare a [.Lt] [b] pos) (ag kh ma mb):=fZ jX (Kt d f)
theorem LM(d:FE X F E a ma)(f:FE X F E b mb):FE X F E (.Compare a [.LtE] [b] pos) (ag qU ma mb):=fZ jX (Ku d f)
theorem LN(d:FE X F E a ma)(f:FE X F E b mb):FE X F E (.Compare a [.Gt] [b] pos) (ag ki ma mb):=fZ jX (Kv d f)
theorem qW(d:FE X F E a ma)(f:FE X F E b mb):FB X F E (.Compare a [.Lt] [b] pos) (aV (ag kh ma mb)):=lb jX (Kw d f)
theorem LO(d:FE X F E a ma)(f:FE X F E b mb):FB X F E (.Compare a [.LtE] [b] pos) (aV (ag qU ma mb)):=lb jX (Kx d f)
theorem qX(d:FE X F E a ma)(f:FE X F E b mb):FB X F E (.Compare a [.Gt] [b] pos) (aV (ag ki ma mb)):=lb jX (Ky d f)
theorem lB(d:X.A.units+64<cLine)(f:FE X F E a ma)(g:FE X F E b mb):FE X F E (.Compare a [.Eq] [b] pos) (ag (aJ false) ma mb):=fZ vk (Kz d f g)
theorem eB(d:X.A.units+64<cLine)(f:FE X F E a ma)(g:FE X F E b mb):FB X F E (.Compare a [.Eq] [b] pos) (aV (ag (aJ false) ma mb)):=lb vk (KA d f g)
theorem iV(d:X.A.units+64<cLine)(f:FE X F E a ma)(g:FE X F E b mb):FB X F E (.Compare a [.NotEq] [b] pos) (aV (ag (aJ true) ma mb)):=lb vk (KB d f g)
theorem LP(d:FE X F E a ma)(f:FE X F E b mb):FE X F E (.Compare a [.Is] [b] pos) (ag lg ma mb):=fZ AK (KC d f)
theorem vV(d:FE X F E a ma)(f:FE X F E b mb):FE X F E (.Compare a [.IsNot] [b] pos) (ag gQ ma mb):=fZ AL (mq yP zU d f (bw _))
theorem BH(d:FE X F E a ma)(f:FE X F E b mb):FB X F E (.Compare a [.Is] [b] pos) (aV (ag lg ma mb)):=lb AK (KD d f)
theorem qY(d:FE X F E a ma)(f:FE X F E b mb):FB X F E (.Compare a [.IsNot] [b] pos) (aV (ag gQ ma mb)):=lb AL (KE d f)
theorem LQ(d:FE X F E a ma)(h:FE X F E b mb)(f:FE X F E c mc)(g:lastMarks [.LtE,.LtE] [b,c]=false:=by with_unfolding_all rfl):FE X F E (.Compare a [.LtE,.LtE] [b,c] pos) (vn (fun i j=>decide (i<=j)) (fun i j=>decide (i<=j)) ma mb mc):=KS (KG d h f g)
@[simp] noncomputable def aO:PyData->PyData->Option PyData:=fun x y=>match x,y with
 | .tuple ds,.int i=>bK ds i
 | .list ds,.int i=>bK ds i
 | _,_=>none
noncomputable def BI:D2:=fun x y Q=>zV x y Q\/zW x y Q
theorem LR{K:Frag}:fe (fun x y H Q=>uC K x y H Q\/uB K x y H Q) BI where
 mn:=fun x y Q Q' k h=>h.imp (zY (K:=K).mn x y Q Q' k) (zZ (K:=K).mn x y Q Q' k)
 ok:=fun O H u v x y Q hO h1 h2 h=>h.imp (zY.ok O H u v x y Q hO h1 h2) (zZ.ok O H u v x y Q hO h1 h2)
theorem LS:F2 BI aO:=fun x y d Q e q=>by
 unfold aO at e;split at e
 ·exact .inl ⟨_,_,_,rfl,rfl,e,q⟩
 ·exact .inr ⟨_,_,_,rfl,rfl,e,q⟩
 ·cases e
theorem aX(d:FE X F E a ma)(g:FE X F E b mb)(f:nK b:=by intro _ _;rfl):FE X F E (.Subscript a b pos) (ag aO ma mb):=fZ LS (Iq (jt.or GY uD) LR d g f)
end
noncomputable def vW:Expr->Bool
 | .Starred ..=>true
 | _=>false
theorem vX{e:Expr}{b:List Expr}{a:Env}(h:vW e=false):starEach (e::b) a=(false,eval e a)::starEach b a:=by cases e<;>first | rfl | cases h
section
variable{X:Cx}{F:Fx}{E:Str->al->Prop}{e a b c:Expr}{es:List Expr}{pos:Pos}{x:Str}
theorem av{d:XM PyData}{f:XM (List PyData)}(g:FE X F E e d)(h:FA X F E es f)(i:vW e=false:=by rfl):FA X F E (e::es) (ai d f):=KU g h (vX i)
theorem ao{d:XM PyData}{f:XM (List AX)}(g:FE X F E e d)(h:FX X F E es f)(i:vW e=false:=by rfl):FX X F E (e::es) (af d f):=Lb g h (vX i)
theorem aZ{p:Pos}{j:Nat}{d:XM (List AX)}(f:PE X (.Name x p) (ca j))(g:FX X F E es d):FX X F E (.Name x p::es) (aR j d):=Lc f g (vX rfl)
end
noncomputable def bL(f:Str)(v:Fl):List (Str×Fl)->List (Str×Fl)
 | []=>[(f,v)]
 | (g,x)::r=>if g=f then(g,v)::r else(g,x)::bL f v r
noncomputable def fj:Option Fl->Bool
 | none=>true
 | some (.d _)=>true
 | _=>false
noncomputable def bR(C:Addr)(U:al)(i:Nat):Option (Bool×List (Str×Fl)):=match U[i]? with
 | some (some (.own io (.o a fs)))=>if a = C then some (io,fs) else none
 | _=>none
theorem iW{C:Addr}{U:al}{i:Nat}{io:Bool}{fs:List (Str×Fl)}(h:bR C U i=some (io,fs)):U[i]? = some (some (.own io (.o C fs))):=by
 unfold bR at h;split at h
 ·rename_i e;split at h
  ·rename_i a;cases h;rw[e,a]
  ·cases h
 ·cases h
section
variable{G H:Hp}
theorem oA{b:List (Str×V)}{fs:List (Str×Fl)}{a:List (List Addr)}(h:bp G H b fs a)(f:Str):(b.lookup f=none/\fs.lookup f=none)\/∃v x c,b.lookup f=some v/\fs.lookup f=some x/\fS G H v x c/\c∈a:=by
 induction h with
 | nil=>exact .inl ⟨rfl,rfl⟩
 | @cons n v x c b fs a h1 h2 g=>
  by_cases e:f=n
  ·subst e;exact .inr ⟨v,x,c,by simp[List.lookup],by simp[List.lookup],h1,List.mem_cons_self⟩
  ·have i:(f==n)=false:=by simpa using e
   rw[List.lookup_cons,List.lookup_cons,i];rcases g with q | ⟨j,k,d,l,m,o,p⟩
   ·exact .inl q
   ·exact .inr ⟨j,k,d,l,m,o,bN _ p⟩
end
theorem BJ{α:Type}:∀{W:List (List α)}{i:Nat}{l:List α},W.flatten.Nodup->W[i]? = some l->l.Nodup
 | w::W,0,l,nd,h=>by simp only[List.getElem?_cons_zero,Option.some.injEq] at h;subst h;rw[List.flatten_cons] at nd;exact(List.nodup_append.mp nd).1
 | w::W,i+1,l,nd,h=>by rw[List.flatten_cons] at nd;exact BJ (List.nodup_append.mp nd).2.1 (by simpa using h)
theorem aC.boxN{K:Frag}{F:Fx}{H:Hp}{Y:St}{U:al}{O:List Addr}(st:aC K F H Y U O){i:Nat}{io:Bool}{b:Bx}(e:U[i]? = some (some (.own io b))):∃a n,Y[i]? = some (some (.ref a))/\fG (ay O H) H a b n/\(∀c∈n,c∈O)/\n.Nodup/\
  ∀(g:Hp) (w:Bx) (f:List Addr),(∀c o,c∉n->H c=some o->g c=some o)->f.Nodup->(∀c∈f,c∈n\/H c=none)->(∀G,(∀p,aP O H p g->G=ay p g->(∀c∈f,c∈p)->bV (ay O H) G/\fG G g a w f))->
   ∃p,aC K F g Y (U.set i (some (.own io w))) p/\aP O H p g/\(∀c∈p,c∈f\/c∈O):=by
 obtain⟨W,st,rfl⟩:=st;obtain⟨v,n,h1,h2,a,rfl,h3⟩:=st.at_ i _ e;have C:i<U.length:=(List.getElem?_eq_some_iff.mp e).1;have x:i<W.length:=by rw[st.lw];exact C
 refine⟨a,n,h1,h3,fun c d=>bf _ (bM h2 d),(BJ (List.nodup_append.mp st.nd).1 h2),fun g w f keep Q y R=>?_⟩;have s:W.flatten.Nodup:=(List.nodup_append.mp st.nd).1;have D:∀c∈n,c∉F.O₀:=fun c d z=>(List.nodup_append.mp st.nd).2.2 c (bM h2 d) c z rfl;have I:∀j l c,j≠i->W[j]? = some l->c∈l->g c=H c:=fun j l c r m d=>by obtain⟨o,k,_⟩:=st.live c (bf _ (bM m d));rw[k];exact keep c o (fun z=>jR s m h2 r d z) k
 have J:∀c∈F.O₀,g c=H c:=fun c d=>by obtain⟨o,k,_⟩:=st.live c (bb _ d);rw[k];exact keep c o (fun z=>D c z d) k
 have ap:∀c∈f,(∀j l,j≠i->W[j]? = some l->c∉l)/\c∉F.O₀:=fun c d=>by
  rcases y c d with q | q
  ·exact⟨fun j l r m z=>jR s h2 m (Ne.symm r) q z,D c q⟩
  ·refine⟨fun j l _ m z=>?_,fun z=>?_⟩
   ·obtain⟨o,k,_⟩:=st.live c (bf _ (bM m z));rw[q] at k;cases k
   ·obtain⟨o,k,_⟩:=st.live c (bb _ z);rw[q] at k;cases k
 have frz:∀c o,c∉W.flatten++F.O₀->H c=some o->g c=some o:=fun c o d L=>keep c o (fun z=>d (bf _ (bM h2 z))) L;have A:aP (W.flatten++F.O₀) H ((W.set i f).flatten++F.O₀) g:=⟨frz,fun c h=>by
  rcases List.mem_append.mp h with h | h
  ·rcases fc h with h | ⟨j,l,_,m,B⟩
   ·exact(y c h).imp (fun z=>bf _ (bM h2 z)) id
   ·exact .inl (bf _ (bM m B))
  ·exact .inl (bb _ h)⟩
 have t:∀c∈f,c∈(W.set i f).flatten++F.O₀:=fun c d=>bf _ (zR x d);have u:=(R _ _ A rfl t).2;obtain⟨E,M⟩:=st.put (H':=g) (i:=i) (v:=.ref a) (c:=.own io w) (fp:=f) C I J frz Q ap (fun c d=>(y c d).imp (fun z=>bM h2 z) id) (fun c d=>u.live c d) (fun _=>⟨a,rfl,u⟩) (fun S z=>by cases z;have:=st.io i b e;rw[h1] at this;exact(Option.some.inj (Option.some.inj this)));have N:Y.set i (some (.ref a))=Y:=by
  apply List.ext_getElem?;intro j
  by_cases r:j=i
  ·subst r;rw[List.getElem?_set_self (List.getElem?_eq_some_iff.mp h1).1,h1]
  ·rw[List.getElem?_set_ne (Ne.symm r)]
 rw[N] at E;refine⟨_,⟨_,E,rfl⟩,M,fun c d=>?_⟩;rcases List.mem_append.mp d with d | d
 ·rcases fc d with d | ⟨j,l,_,m,B⟩
  ·exact .inl d
  ·exact .inr (bf _ (bM m B))
 ·exact .inr (bb _ d)
theorem bp.len{G H:Hp}{b:List (Str×V)}{fs:List (Str×Fl)}{a:List (List Addr)}(h:bp G H b fs a):b.length=fs.length:=by
 induction h with
 | nil=>rfl
 | cons _ _ c=>simp[c]
theorem bp.putD{G r H p:Hp}{s:List (Str×V)}{fs:List (Str×Fl)}{a:List (List Addr)}{f:Str}{v:V}{d:PyData}(h:bp G H s fs a)(i:fj (fs.lookup f)=true)(hd:DV r v d)(g:bV G r)(k:∀c∈a.flatten,p c=H c) :
  bp r p (cz f v s) (bL f (.d d) fs) (if (fs.lookup f).isSome=true then a else a++[[]]):=by
 induction h with
 | nil=>exact .cons ⟨rfl,hd⟩ .nil
 | @cons n w x D s fs a h1 h2 u=>
  unfold cz bL
  by_cases e:n=f
  ·subst e;have A:List.lookup n ((n,x)::fs)=some x:=by simp[List.lookup]
   rw[A] at i ⊢;rw[if_pos rfl,if_pos rfl];have t:=h2.keep (H':=p) (fun c j=>k c (by simp only[List.flatten_cons,List.mem_append];exact .inr j)) g;cases x with
   | d y=>obtain⟨rfl,_⟩:=h1;exact .cons ⟨rfl,hd⟩ t
   | l ds=>cases i
   | m E B=>cases i
  ·have C:(f==n)=false:=by simpa using fun z=>e z.symm
   rw[List.lookup_cons,C] at i ⊢;rw[if_neg e,if_neg e];have o:=h1.keep (H':=p) (fun c j=>k c (by simp only[List.flatten_cons,List.mem_append];exact .inl j)) g;have b:=u i fun c j=>k c (by simp only[List.flatten_cons,List.mem_append];exact .inr j);simp only at b ⊢;split
   ·rename_i q;rw[if_pos q] at b;exact .cons o b
   ·rename_i q;rw[if_neg q] at b;exact .cons o b
section
variable{X:Cx}{F:Fx}{E:Str->al->Prop}{e a b c:Expr}{es:List Expr}{st:Stmt}{pos p1:Pos}{x f:Str}{C:Addr}{i:Nat}
noncomputable def cm(C:Addr)(i:Nat)(f:Str):XM PyData:=fun U=>match bR C U i with
 | some (_,fs)=>(match fs.lookup f with
  | some (.d d)=>.ok d U
  | _=>.bad)
 | none=>.bad
theorem cY(cl:da X.K C)(h:cL X.K C f)(j:PE X (.Name x p1) (ca i))(z:attributeBase (.Name x p1) f X.env (eval (.Name x p1) X.env)=eval (.Name x p1) X.env:=by rfl):FE X F E (.Attribute (.Name x p1) f pos) (cm C i f):=
 ⟨aH,(me j z).imp fun Y H Q ⟨U,O,st,q⟩=>by
  unfold wp cm at q;cases ho:bR C U i with
  | none=>rw[ho] at q;exact q.elim
  | some p=>
   obtain⟨io,fs⟩:=p;rw[ho] at q;simp only at q;obtain⟨k,A,g,⟨n,o,r,B,s,D,t⟩,_,_⟩:=st.box (iW ho);rcases oA t f with⟨l1,l2⟩ | ⟨v,y,u,l1,l2,l3,_⟩
   ·rw[l2] at q;exact q.elim
   ·rw[l2] at q;cases y with
    | d d=>exact⟨_,g,k,C,n,o,v,rfl,s,cl,h,l1,q v H O st (.refl ..) l3.2⟩
    | l ds=>exact q.elim
    | m G w=>exact q.elim⟩
noncomputable def fk(C:Addr)(i:Nat)(f:Str)(d:PyData):SM:=fun U=>match bR C U i with
 | some (io,fs)=>if fs.length<1000/\fj (fs.lookup f)=true then .nx (U.set i (some (.own io (.o C (bL f (.d d) fs))))) else .bad
 | none=>.bad
noncomputable def cA(C:Addr)(i:Nat)(f:Str)(m:XM PyData):SM:=fun U=>eA (m U) (fk C i f)
theorem fm{m:XM PyData}{h:Pos}(cl:da X.K C)(L:cL X.K C f)(M:PE X (.Name x p1) (ca i))(N:FE X F E e m)(Q:swapsWith e (some (.Attribute (.Name x p1) f h)) pos.line X.env=pure false:=by rfl):FS X F E (.Assign [.Attribute (.Name x p1) f h] e pos) (cA C i f m):=
 (qc M N.pe Q).imp fun D Y H ⟨U,O,DD,st,q,R⟩=>⟨U,O,st,aH _ _ _ (fun d S g I T O1 t Z d1=>by
  unfold bT fk at g;cases ho:bR C S i with
  | none=>rw[ho] at g;exact g.elim
  | some p=>
   obtain⟨io,fs⟩:=p;rw[ho] at g;simp only at g
   by_cases j:fs.length<1000/\fj (fs.lookup f)=true
   ·rw[if_pos j] at g;obtain⟨r,fp,u,⟨n,v,l,e1,e2,e3,J⟩,hO,nd,up⟩:=t.boxN (iW ho);subst e1;obtain⟨y,_⟩:n≠r/\True:=⟨fun z=>by subst z;simp at nd,trivial⟩
    refine⟨_,u,r,C,n,v,rfl,e2,cl,L,by rw[J.len];exact j.1,?_⟩;obtain⟨O3,A,s3,_⟩:=up (aM T r (.ins C n (cz f I v))) (.o C (bL f (.d d) fs)) (r::n::l.flatten) (fun c o B e=>by rw[bi (fun z=>B (by simp[z]))];exact e) nd (fun c j=>.inl j) (fun G O' s hG _=>by
     subst hG;refine⟨s.hid,n,cz f I v,if (fs.lookup f).isSome=true then l else l++[[]],?_,cj,by rw[bi y];exact e3,?_⟩
     ·split
      ·rfl
      ·simp
     ·refine J.putD j.2 (DV.mono s.hid d1) s.hid fun c j=>bi (fun z=>?_);subst z;exact absurd j (by
       have:=(List.nodup_cons.mp nd).1;exact fun w=>this (bN _ w)))
    exact R.nx _ _ _ _ A (Z.trans s3) g
   ·rw[if_neg j] at g;exact g.elim) (gb (m:=m) (k:=fk C i f) q)⟩
end
section
variable{X:Cx}{F:Fx}{E:Str->al->Prop}{e:Expr}{es:List Expr}{pos p1 apos p:Pos}{x m:Str}{C:Addr}{i:Nat}{k:Nat}{g:Addr}{fd:FuncData}{ps:List Str}{f:FM}{mX:XM (List AX)}
theorem BK{as:List AX}{d:al}{Q:ak->al->Prop}(a:wp E (lp f as) d Q):fY f E Q as d:=by
 unfold wp lp at a;unfold fY;cases j:gy d as with
 | none=>rw[j] at a;exact a
 | some p=>
  obtain⟨l,n⟩:=p;rw[j] at a;simp only at a ⊢;cases h:f l with
  | rt c b=>rw[h] at a;exact a
  | ex c b=>rw[h] at a;exact a
  | bad=>rw[h] at a;exact a
noncomputable def bX(f:FM)(i:Nat)(as:List AX):XM ak:=lp f (.s i::as)
noncomputable def bu(C:Addr)(i:Nat)(m:Str)(f:FM)(mX:XM (List AX)):XM ak:=fun U=>match bR C U i with
 | some (_,fs)=>if fs.lookup m=none then(mX U).bind (bX f i) else .bad
 | none=>.bad
theorem LU{pl:Sem Bool}(hx:dO X F E)(cl:da X.K C)(Z:hU X.K C m g)(G:az X.prog X.w X.K X.mg X.base (ba X.prog X.w) k g fd ps (bc X.K X.mg f))(hr:br k X.A)(hb:gM X.K fd ps [])(hv:PE X (.Name x p1) (ca i))(ha:FX X F E (e::es) mX)
  (J:starEach (e::es) X.env=(false,eval e X.env)::starEach es X.env:=by rfl) (L:(backTo pos (starEach es X.env)).any (·.1)=false:=by rfl)
  (ht:eval (.Call (.Attribute (.Name x p1) m apos) (e::es) [] pos) X.env=(do
   let ov <-eval (.Name x p1) X.env
   standAt apos.atName
   let(f,first) <-holding [ov] (getMethod ov m pl)
   callWith pos f first (backTo pos (starEach (e::es) X.env)) (backToKw pos (keywordEach [] X.env))):=by rfl) :
  FO X F E (.Call (.Attribute (.Name x p1) m apos) (e::es) [] pos) (bu C i m f mX):=by
 refine⟨aH,fun a s Y H Q I ⟨U,O,st,q⟩=>?_⟩;unfold wp bu at q;cases ho:bR C U i with
 | none=>rw[ho] at q;exact q.elim
 | some p=>
  obtain⟨io,fs⟩:=p;rw[ho] at q;simp only at q
  by_cases M:fs.lookup m=none
  ·rw[if_pos M] at q;obtain⟨b,z,l,⟨dx,gs,a1,e1,e2,e3,e4⟩,_,_⟩:=st.box (iW ho);have hg:gs.lookup m=none:=by
    rcases oA e4 m with⟨l1,_⟩ | ⟨_,_,_,_,l2,_⟩
    ·exact l1
    ·rw[M] at l2;cases l2
   refine PySem.W.methodCall_KW (pl:=pl) (aK (hv a s Y H (fun v n=>v=.ref b/\n=H) I ⟨_,l,rfl,rfl⟩) fun u N ⟨v,n,I1,rx,ex,eH⟩=>?_) ht;subst ex eH;obtain rfl:u=Value.ref b:=rx;refine yV I1 e2 cl Z hg ?_;have q':=bQ (E:=E) (m:=mX) (k:=bX f i) (U:=U) q;refine PySem.W.callWith_K (first:=[.ref b]) (h₀:=X.base) I.ok.mod.kin Z.kp (aK (ha.pa pos a N Y n (fun B o=>∃as t j,aC X.K F o Y t j/\aP O n j o/\cF Y (ay j o) B as/\fY f E (fun c U'=>∀v y D z,gr X.K F y Y U' D v c z->aP O n D y->Q v y) (.s i::as) t) I1 ⟨U,O,st,ha.mn _ _ _ (fun as t R B o j d N S=>⟨as,t,j,d,N,S,BK R⟩) q'⟩) fun us s2 ⟨B,o,I2,r,as,t,j,d,T,S,R⟩=>⟨I2.kIn,?_⟩) J L;exact vb hx G hr hb I2 (vs:=V.ref b::B) (us:=Value.ref b::us) (.cons (show bn (.ref b) (.ref b) from rfl) r) d (cF.s l S) R fun c U' h v y D z res s2=>h v y D z res (T.trans s2)
  ·rw[if_neg M] at q;exact q.elim
noncomputable def dq(C:Addr)(i:Nat)(m:Str)(f:FM):XM ak:=fun U=>match bR C U i with
 | some (_,fs)=>if fs.lookup m=none then lp f [.s i] U else .bad
 | none=>.bad
theorem LV{pl:Sem Bool}(t:dO X F E)(cl:da X.K C)(l:hU X.K C m g)(G:az X.prog X.w X.K X.mg X.base (ba X.prog X.w) k g fd ps (bc X.K X.mg f))(y:br k X.A)(hb:gM X.K fd ps [])(z:PE X (.Name x p1) (ca i))
  (B:eval (.Call (.Attribute (.Name x p1) m apos) [] [] pos) X.env=(do
   let n <-eval (.Name x p1) X.env
   standAt apos.atName
   let(f,first) <-holding [n] (getMethod n m pl)
   callWith pos f first (backTo pos (starEach [] X.env)) (backToKw pos (keywordEach [] X.env))):=by rfl) :
  FO X F E (.Call (.Attribute (.Name x p1) m apos) [] [] pos) (dq C i m f):=by
 refine⟨aH,fun b s Y H Q I ⟨U,O,st,q⟩=>?_⟩;unfold wp dq at q;cases ho:bR C U i with
 | none=>rw[ho] at q;exact q.elim
 | some p=>
  obtain⟨io,fs⟩:=p;rw[ho] at q;simp only at q
  by_cases j:fs.lookup m=none
  ·rw[if_pos j] at q;obtain⟨a,o,d,⟨dx,D,J,e1,L,e3,M⟩,_,_⟩:=st.box (iW ho);have N:D.lookup m=none:=by
    rcases oA M m with⟨l1,_⟩ | ⟨_,_,_,_,l2,_⟩
    ·exact l1
    ·rw[j] at l2;cases l2
   refine PySem.W.methodCall_KW (pl:=pl) (aK (z b s Y H (fun v r=>v=.ref a/\r=H) I ⟨_,d,rfl,rfl⟩) fun u s1 ⟨v,r,I1,R,ex,S⟩=>?_) B;subst ex S;obtain rfl:u=Value.ref a:=R;refine yV I1 L cl l N ?_;refine PySem.W.callWith_K0 (first:=[.ref a]) I1.kIn l.kp ?_;exact vb (vs:=[V.ref a]) (us:=[Value.ref a]) (as:=[.s i]) t G y hb I1 (.cons (show bn (.ref a) (.ref a) from rfl) .nil) st (cF.s d .nil) (BK q) fun c U' h v T Z o res s2=>h v T Z o res s2
  ·rw[if_neg j] at q;exact q.elim
noncomputable def ir(C:Addr)(f:FM)(a:List PyData):XM ak:=fun U=>match f (.own true (.o C [])::a.map .dat) with
 | .rt (.dat .none) [b]=>.ok (.own false b) U
 | .ex c _=>.ex c U
 | _=>.bad
noncomputable def iu(C:Addr)(f:FM)(a:XM (List PyData)):XM ak:=fun U=>(a U).bind (ir C f)
theorem BL{K:Frag}{H:Hp}{O:List Addr}:∀{b:List V}{a:List PyData},aQ (ay O H) b a->aU K H O b (a.map .dat) (a.map fun _=>[])
 | _,_,.nil=>.nil
 | _,_,.cons h t=>.dat h (BL t)
theorem BM{H:Hp}{O:List Addr}{a:Addr}{b:Bx}:∀{j:List PyData}{l:List V}{bs:List Bx}{c:List (List Addr)},aT H O l (j.map ak.dat) bs c->bs=[]/\c=[]
 | [],_,_,_,.nil=>⟨rfl,rfl⟩
 | d::j,_,_,_,.skip _ h=>BM (a:=a) (b:=b) h
theorem vY{α β:Type}:∀l:List α,(l.map fun _=>([]:List β)).flatten=[]
 | []=>rfl
 | _::r=>by simp[vY r]
theorem vZ{mA:XM (List PyData)}(hx:dO X F E)(M:Mk X.K C g)(G:az X.prog X.w X.K X.mg X.base (ba X.prog X.w) k g fd ps (bc X.K X.mg f))(hr:br (k+1) X.A)(hg:Gl X x)(hm:X.mg x=some (.ref C))(hb:gM X.K fd ps [])(j:FA X F E (e::es) mA)
  (b3:(x==("__debug__":Str))=false:=by decide) (he:starEach (e::es) X.env=(false,eval e X.env)::starEach es X.env:=by rfl) (b4:(backTo pos (starEach es X.env)).any (·.1)=false:=by rfl) :
  FO X F E (.Call (.Name x p) (e::es) [] pos) (iu C f mA):=by
 refine⟨aH,fun T s Y H Q I ⟨U,O,st,q⟩=>?_⟩;refine wpAny_Call_Name_kw (lX I hg hm ?_ b3);have q':=bQ (E:=E) (m:=mA) (k:=ir C f) (U:=U) q;refine PySem.W.callWith_K (h₀:=X.base) I.ok.mod.kin M.kp (aK (j.pa pos T s Y H (fun vs t=>∃R Z n,aC X.K F t Y Z n/\aP O H n t/\aQ (ay n t) vs R/\wp E (ir C f R) Z (fun c U'=>∀v l O' fp,gr X.K F l Y U' O' v c fp->aP O H O' l->Q v l)) I ⟨U,O,st,j.mn _ _ _ (fun R Z B vs t n D J dv=>⟨R,Z,n,D,J,dv,B⟩) q'⟩) fun us J ⟨vs,t,I1,r,R,Z,n,D,b5,dv,B⟩=>⟨I1.kIn,?_⟩) he b4;let EX:XK:=fun C _ l=>∃c U' O',X.mg c=some C/\aC X.K F l Y U' O'/\E c U';have h:∀x d,t x=none->t d=none->d≠x->bc X.K X.mg f (.ref x::vs) (aM (aM t d (.own x)) x (.ins C d [])) (fun v H2=>v=.non/\Q (.ref x) H2) EX:=fun x d h1 h2 a1=>by
  obtain⟨W,a2,a8⟩:=id D;have a3:∀a∈n,∃o,t a=some o/\Mv o:=fun a h=>a2.live a (by rw[<-a8];exact h);have nx:x∉n:=fun z=>by obtain⟨o,e,_⟩:=a3 x z;rw[h1] at e;cases e
  have b6:d∉n:=fun z=>by obtain⟨o,e,_⟩:=a3 d z;rw[h2] at e;cases e
  have a4:n.Nodup:=by rw[a8];exact a2.nd
  have up:∀b o,t b=some o->aM (aM t d (.own x)) x (.ins C d []) b=some o:=fun b o e=>by rw[bi (fun z=>by subst z;rw[h1] at e;cases e),bi (fun z=>by subst z;rw[h2] at e;cases e)];exact e
  have fl:(([x,d]::R.map fun _=>([]:List Addr)).flatten++n)=x::d::n:=by rw[List.flatten_cons,vY];rfl
  have hid:bV (ay n t) (ay (x::d::n) (aM (aM t d (.own x)) x (.ins C d []))):=fun b o e=>by
   obtain⟨S,n1⟩:=cP e;refine ib (up b o S) fun z=>?_;rcases List.mem_cons.mp z with z | z
   ·subst z;rw[h1] at S;cases S
   ·rcases List.mem_cons.mp z with z | z
    ·subst z;rw[h2] at S;cases S
    ·exact n1 z
  refine⟨(hx.1.at D).mono fun b u _ e=>up b u e,.own true (.o C [])::R.map .dat,[x,d]::R.map fun _=>[],n,?_,?_,?_,?_⟩
  ·rw[fl];exact .own ⟨d,[],[],rfl,cj,by rw[bi a1,cj],.nil⟩ (BL (aQ.mono hid dv))
  ·rw[fl];refine List.nodup_cons.mpr ⟨fun z=>?_,List.nodup_cons.mpr ⟨b6,a4⟩⟩;rcases List.mem_cons.mp z with z | z
   ·exact a1 z.symm
   ·exact nx z
  ·rw[fl];intro a j;rcases List.mem_cons.mp j with rfl | j
   ·exact⟨.ins C d [],cj,trivial⟩
   ·rcases List.mem_cons.mp j with rfl | j
    ·exact⟨.own x,by rw[bi a1,cj],trivial⟩
    ·obtain⟨o,S,e2⟩:=a3 a j;exact⟨o,up a o S,e2⟩
  ·unfold wp ir at B;have hL:([x,d]::R.map fun _=>([]:List Addr)).flatten=[x,d]:=by rw[List.flatten_cons,vY];rfl
   have a9:aC X.K (F.plus []) t Y Z n:=D;have lift:∀(l:Hp) (L':List Addr),fX (aM (aM t d (.own x)) x (.ins C d [])) l [x,d] L' n->∃N,aC X.K (F.plus L') l Y Z N/\aP n t N l/\(∀a∈L',a∈N)/\(∀a∈N,a∈L'\/a∈n)/\∀a∈L',a∈F.A₀\/F.H₀ a=none:=fun l L' y=>by
    have new1:∀a∈L',t a=none:=fun a j=>by
     rcases y.new a j with z | z
     ·simp only[List.mem_cons,List.not_mem_nil,or_false] at z;rcases z with rfl | rfl
      ·exact h1
      ·exact h2
     ·cases e:t a with
      | none=>rfl
      | some o=>rw[up a o e] at z;cases z
    obtain⟨N,t1,t2,t3,t4,_⟩:=a9.swap (L':=L') (H':=l) (fun b o _ e=>y.keep b o (fun z=>by
     simp only[List.mem_cons,List.not_mem_nil,or_false] at z;rcases z with rfl | rfl
     ·rw[h1] at e;cases e
     ·rw[h2] at e;cases e) (up b o e)) (List.nodup_append.mp y.nd).1 (fun a j=>.inr (new1 a j)) (fun a h=>by cases h) y.live
    refine⟨N,t1,t2,t3,fun a j=>(t4 a j).imp id (·.1),fun a j=>?_⟩
    by_cases hA:a∈F.A₀
    ·exact .inl hA
    ·refine .inr ?_;cases e:F.H₀ a with
     | none=>rfl
     | some o=>have:=a2.kept a o hA e;rw[new1 a j] at this;cases this
   cases hf:f (.own true (.o C [])::R.map .dat) with
   | bad=>rw[hf] at B;exact B
   | ex c a0=>rw[hf] at B;intro C' l b0 a5 b1 y;rw[hL] at y;obtain⟨N,t1,t2,t3,t4,t5⟩:=lift l [] ⟨a4,fun a h=>(by cases h),y.keep,fun a h=>(by cases h)⟩;exact⟨c,Z,N,a5,t1,B⟩
   | rt c a0=>
    rw[hf] at B;intro v l fp b0 b7 b1 y;rw[hL] at y
    match c,a0,B with
    | .dat .none,[b'],B=>
     have hv:v=.non:=DV.non_inv b7;cases b1 with
     | skip b8 _=>exact absurd rfl (b8 _ _)
     | @own _ _ _ _ a6 _ _ _ c1 b2 a7=>
      obtain⟨_,rfl⟩:=BM (a:=0) (b:=b') a7;refine⟨hv,?_⟩;simp only[List.flatten_cons,List.flatten_nil,List.append_nil] at b2 y;have b9:fX (aM (aM t d (.own x)) x (.ins C d [])) l [x,d] a6 n:=⟨by
       have n1:=y.nd;rw[List.append_assoc] at n1;obtain⟨m1,m2,m3⟩:=List.nodup_append.mp n1;exact List.nodup_append.mpr ⟨m1,a4,fun a j b hb=>m3 a j b (bb _ hb)⟩,fun a j=>y.live a (bf _ j),y.keep,fun a j=>y.new a (bf _ j)⟩
      obtain⟨N,t1,t2,t3,t4,t5⟩:=lift l a6 b9;refine B (.ref x) l N a6 ⟨t1,⟨x,rfl,b2.keep (fun _ _=>rfl) (nM fun a j=>?_)⟩,t5⟩ (b5.trans t2);rcases t4 a j with z | z
      ·exact bf _ (bf _ z)
      ·exact bb _ z
 have hq:=h (J.heap.objs.size+1) J.heap.objs.size (I1.hok.fresh (Nat.le_succ _)) (I1.hok.fresh (bG _)) (Nat.ne_of_lt (Nat.lt_succ_self _));have I2:=Inv.made (C:=C) I1;have r2:bh (V.ref (J.heap.objs.size+1)::vs) (Value.ref (J.heap.objs.size+1)::us):=.cons rfl r;have hl:(Value.ref (J.heap.objs.size+1)::us++[]).length=ps.length:=by have e:=r2.length;rw[G.len _ _ _ _ hq] at e;rw[List.append_nil];exact e.symm
 refine wpAny_call (Go (f:=g) I1.kIn M.makes M.init (beq_iff_eq.mp M.fn) (codeAny_mono (G.run _ X.stack _ _ ⟨Value.ref (J.heap.objs.size+1)::us,[]⟩ (Value.ref (J.heap.objs.size+1)::us) _ _ EX (hr.make C us [])
  (I2.env0.make C us []) (by have:=hb _ (Value.ref (J.heap.objs.size+1)::us) I2.kIn hl;rw[List.append_nil] at this;exact this) r2 hq) fun r s' L=>?_))
 cases r with
 | error e=>obtain⟨a,C',l,S,I',cv,ex,c,U',O',a5,c0,hE⟩:=I2.flies L;exact hx.2 T Y l s' e c U' O' ⟨I',a,C',_,_,S,cv,ex,a5⟩ c0 hE
 | ok fl=>
  cases fl with
  | ret u=>obtain⟨v,l,I3,rv,ev,q3⟩:=I2.after L;subst ev;exact⟨rv,⟨V.ref (J.heap.objs.size+1),l,I3,rfl,q3⟩⟩
  | next=>exact False.elim L
  | brk=>exact False.elim L
  | cont=>exact False.elim L
end
noncomputable def wa:Fl->Bool
 | .d _=>false
 | _=>true
theorem LW{G H:Hp}{v:V}{x:Fl}{f:List Addr}(h:fS G H v x f)(i:wa x=true):∃b,v=.ref b/\f=[b]:=by
 cases x with
 | d _=>cases i
 | l ds=>obtain⟨a,j,c,e,_⟩:=h;exact⟨a,c,e⟩
 | m k g=>obtain⟨a,c,e,_⟩:=h;exact⟨a,c,e⟩
theorem BN{G H:Hp}{f:Str}{x:Fl}(t:wa x=true):∀{o:List (Str×V)}{fs:List (Str×Fl)}{a:List (List Addr)},bp G H o fs a->fs.lookup f=some x->a.flatten.Nodup->
  ∃b,o.lookup f=some (.ref b)/\fS G H (.ref b) x [b]/\b∈a.flatten/\∀(i j:Hp) (l:Fl),bV G i->(∀c∈a.flatten,c≠b->j c=H c)->fS i j (.ref b) l [b]->bp i j o (bL f l fs) a
 | _,_,_,.nil,m,_=>by cases m
 | (n,v)::o,(_,y)::fs,D::a,.cons h1 h2,m,nd=>by
  rw[List.flatten_cons] at nd;obtain⟨E,u,q⟩:=List.nodup_append.mp nd
  by_cases e:f=n
  ·subst e;have w:y=x:=by simpa[List.lookup] using m
   subst w;obtain⟨b,rfl,rfl⟩:=LW h1 t;refine⟨b,by simp[List.lookup],h1,by simp,fun i j l g k d=>?_⟩;unfold bL;rw[if_pos rfl];refine .cons d (h2.keep (fun c h=>k c (by rw[List.flatten_cons];exact bb _ h) fun z=>?_) g);exact q b (by simp) c h z.symm
  ·have r:(f==n)=false:=by simpa using e
   rw[List.lookup_cons,r] at m;obtain⟨b,A,B,s,C⟩:=BN t h2 m u;refine⟨b,by rw[List.lookup_cons,r];exact A,B,by rw[List.flatten_cons];exact bb _ s,fun i j l g k d=>?_⟩;unfold bL;rw[if_neg (fun z=>e z.symm)];refine .cons (h1.keep (fun c h=>k c (by rw[List.flatten_cons];exact bf _ h) fun z=>?_) g) (C i j l g (fun c h p=>k c (by rw[List.flatten_cons];exact bb _ h) p) d);exact q c h b s z
theorem aC.fldUp{K:Frag}{F:Fx}{H:Hp}{Y:St}{U:al}{O:List Addr}{C:Addr}{i:Nat}{io:Bool}{fs:List (Str×Fl)}{f:Str}{x:Fl}(st:aC K F H Y U O)(T:bR C U i=some (io,fs))(lk:fs.lookup f=some x)(w:wa x=true) :
  ∃a d h b,Y[i]? = some (some (.ref a))/\H a=some (.ins C d h)/\h.lookup f=some (.ref b)/\fS (ay O H) H (.ref b) x [b]/\
   ∀(g:HO) (j:Fl),Mv g->(∀G,bV (ay O H) G->fS G (aM H b g) (.ref b) j [b])->∃k,aC K F (aM H b g) Y (U.set i (some (.own io (.o C (bL f j fs))))) k/\aP O H k (aM H b g):=by
 obtain⟨a,X,n,⟨d,h,l,y,v,A,B⟩,Z,nd,up⟩:=st.boxN (iW T);subst y;have m:=nd;rw[List.nodup_cons,List.nodup_cons] at m;obtain⟨D,p,E⟩:=m;obtain⟨b,I,J,q,L⟩:=BN w B lk E;have M:a≠b:=fun z=>D (by rw[z];exact bN _ q);have N:d≠b:=fun z=>p (by rw[z];exact q);refine⟨a,d,h,b,n,v,I,J,fun g j hM Q=>?_⟩;obtain⟨k,r,R,_⟩:=up (aM H b g) (.o C (bL f j fs)) (a::d::l.flatten) (fun c o t e=>by rw[bi (fun z=>t (by rw[z];exact bN _ (bN _ q)))];exact e) nd (fun c t=>.inl t) (fun G k s S _=>by
  subst S;exact⟨s.hid,d,h,l,rfl,by rw[bi M];exact v,by rw[bi N];exact A,L _ _ j s.hid (fun c _ u=>bi u) (Q _ s.hid)⟩)
 exact⟨k,r,R⟩
section
variable{X:Cx}{F:Fx}{E:Str->al->Prop}{e a b c:Expr}{es:List Expr}{st:Stmt}{pos p1 apos cpos fpos:Pos}{x f:Str}{C:Addr}{i:Nat}{m:XM PyData}
noncomputable def mF(C:Addr)(i:Nat)(f:Str)(d:PyData):SM:=fun U=>match bR C U i with
 | some (io,fs)=>(match fs.lookup f with
  | some (.l ds)=>if ds.length<sizeLine then .nx (U.set i (some (.own io (.o C (bL f (.l (ds++[d])) fs))))) else .bad
  | _=>.bad)
 | none=>.bad
noncomputable def eE(U:al)(j:Nat):Option PyData:=match U[j]? with
 | some (some (.dat d))=>some d
 | _=>none
theorem oB{U:al}{j:Nat}{d:PyData}(h:eE U j=some d):U[j]? = some (some (.dat d)):=by
 unfold eE at h;split at h
 ·rename_i e;cases h;exact e
 ·cases h
noncomputable def lC(C:Addr)(i:Nat)(f:Str)(j:Nat):SM:=fun U=>match eE U j with
 | some d=>mF C i f d U
 | none=>.bad
theorem LX{y:Str}{k:Pos}{j:Nat}(cl:da X.K C)(R:cL X.K C f)(S:PE X (.Name x p1) (ca i))(T:PE X (.Name y k) (ca j))(hb:attributeBase (.Name x p1) f X.env (eval (.Name x p1) X.env)=eval (.Name x p1) X.env:=by rfl)
  (A:swapsWith (.Call (.Attribute (.Attribute (.Name x p1) f fpos) "append" apos) [.Name y k] [] cpos) none pos.line X.env=pure false:=by rfl)
  (n:attributeBase (.Attribute (.Name x p1) f fpos) "append" X.env (eval (.Attribute (.Name x p1) f fpos) X.env)=eval (.Attribute (.Name x p1) f fpos) X.env:=by rfl)
  (t:((backTo cpos (starEach [.Name y k] X.env)).all (fun x=>!x.1)&&(backToKw cpos (keywordEach [] X.env)).all (fun x=>x.1.isSome)&&decide (([.Name y k]:List Expr).length+([]:List Keyword).length+(if ([]:List Keyword).isEmpty then 0 else 1)<30))=true:=by rfl)
  (o:(apos.endLine==cpos.line)=true:=by rfl) (N:starEach [.Name y k] X.env=(false,eval (.Name y k) X.env)::starEach [] X.env:=by rfl) (h:(backTo cpos (starEach [] X.env)).any (·.1)=false:=by rfl) :
  FS X F E (.Expr (.Call (.Attribute (.Attribute (.Name x p1) f fpos) "append" apos) [.Name y k] [] cpos) pos) (lC C i f j):=
 (pW (qf PySem.F.plainAttrs_list PySem.F.slot_list_append PySem.F.type_list_append zo (me S hb) (dE T er N) n t o N h) A).imp fun D Y H ⟨U,O,DD,st,q,Z⟩=>by
  unfold bT lC at q;cases r:eE U j with
  | none=>rw[r] at q;exact q.elim
  | some d=>
   have hd:=oB r;rw[r] at q;simp only at q;unfold mF at q;cases ho:bR C U i with
   | none=>rw[ho] at q;exact q.elim
   | some p=>
    obtain⟨io,fs⟩:=p;rw[ho] at q;simp only at q;cases s:fs.lookup f with
    | none=>rw[s] at q;exact q.elim
    | some z=>
     rw[s] at q;cases z with
     | d _=>exact q.elim
     | m _ _=>exact q.elim
     | l ds=>
      simp only at q
      by_cases B:ds.length<sizeLine
      ·rw[if_pos B] at q;obtain⟨a0,dx,gs,I,J,e2,q1,⟨b1,v,eb,_,Q,u⟩,up⟩:=st.fldUp ho s rfl;cases eb;obtain⟨w,hw,L⟩:=st.dat hd;obtain⟨O2,M,s2⟩:=up (.lst (v++[w])) (.l (ds++[d])) trivial (fun G g=>⟨I,v++[w],rfl,rfl,cj,(aQ.mono g u).append (.cons (DV.mono g L) .nil)⟩);exact⟨_,J,a0,C,dx,gs,.ref I,rfl,e2,cl,R,q1,.inl ⟨rfl,v,.of Q⟩,w,hw,I,v,w,rfl,rfl,Q,by rw[u.length];exact B,Z.nx _ _ _ _ M s2 q⟩
      ·rw[if_neg B] at q;exact q.elim
noncomputable def lD(C:Addr)(i:Nat)(f:Str)(j l:Nat)(v:PyData):SM:=fun U=>match bR C U i,eE U j,eE U l with
 | some (io,fs),some y,some z=>(match fs.lookup f,ot true (.tuple [y,z]) with
  | some (.m true d),some k=>if d.length<sizeLine then .nx (U.set i (some (.own io (.o C (bL f (.m true (ke true d (.tuple [y,z]) k v)) fs))))) else .bad
  | _,_=>.bad)
 | _,_,_=>.bad
noncomputable def mG(C:Addr)(i:Nat)(f:Str)(j l:Nat)(m:XM PyData):SM:=fun U=>eA (m U) (lD C i f j l)
theorem LY{y z:Str}{w s p4 r:Pos}{j l kx:Nat}(hu:X.A.units+1<cLine)(cl:da X.K C)(na:cL X.K C f)(hv:PE X (.Name x p1) (ca i))(hy:PE X (.Name y w) (ca j))(hz:PE X (.Name z s) (ca l))(he:FE X F E e m)(hb:attributeBase (.Name x p1) f X.env (eval (.Name x p1) X.env)=eval (.Name x p1) X.env:=by rfl)
  (h1:starEach [.Name y w,.Name z s] X.env=(false,eval (.Name y w) X.env)::starEach [.Name z s] X.env:=by rfl) (h2:starEach [.Name z s] X.env=(false,eval (.Name z s) X.env)::starEach [] X.env:=by rfl)
  (hs:swapsWith e (some (.Subscript (.Attribute (.Name x p1) f fpos) (.Tuple [.Name y w,.Name z s] kx p4) r)) pos.line X.env=pure false:=by rfl) :
  FS X F E (.Assign [.Subscript (.Attribute (.Name x p1) f fpos) (.Tuple [.Name y w,.Name z s] kx p4) r] e pos) (mG C i f j l m):=
 (HH hu (me hv hb) (uy (dE hy (dE hz er h2) h1)) he.pe hs).imp fun D Y H ⟨U,O,DD,st,q,fD⟩=>⟨U,O,st,aH _ _ _ (fun v N h vy H1 O1 n s1 d1=>by
  unfold bT lD at h;cases ho:bR C N i with
  | none=>rw[ho] at h;exact h.elim
  | some p=>
   obtain⟨io,fs⟩:=p;cases L:eE N j with
   | none=>rw[ho,L] at h;exact h.elim
   | some y0=>
    cases Q:eE N l with
    | none=>rw[ho,L,Q] at h;exact h.elim
    | some z0=>
     rw[ho,L,Q] at h;simp only at h;cases o:fs.lookup f with
     | none=>rw[o] at h;exact h.elim
     | some t=>
      rw[o] at h;cases t with
      | d _=>exact h.elim
      | l _=>exact h.elim
      | m tk B=>
       cases tk with
       | false=>exact h.elim
       | true=>
        cases R:ot true (.tuple [y0,z0]) with
        | none=>rw[R] at h;exact h.elim
        | some k=>
         rw[R] at h;simp only at h
         by_cases u:B.length<sizeLine
         ·rw[if_pos u] at h;obtain⟨a0,dx,gs,S,I,e2,l1,_,_⟩:=n.fldUp ho o rfl;obtain⟨w1,T,Z⟩:=n.dat (oB L);obtain⟨w2,a2,a3⟩:=n.dat (oB Q);refine⟨_,I,a0,C,dx,gs,.ref S,rfl,e2,cl,na,l1,w1,T,w2,a2,show 2<=sizeLine by decide,fun p hp=>?_⟩;have M:bV H1 (aM H1 p (.tup [w1,w2])):=bP hp;have a4:=n.grow M;have hd:=jQ (O:=O1) M;obtain⟨a1,a7,a8,b1,J,e3,l2,⟨b2,eb,_,a5⟩,up⟩:=a4.fldUp ho o rfl;rw[I] at J;cases J;rw[M _ _ e2] at e3;cases e3;rw[l1] at l2;cases l2;cases eb;obtain⟨o',g1,mv,g2⟩:=Lm a5 ql (qt hp (n.nofree p hp) (.cons Z (.cons a3 .nil))) (DV.mono hd d1) R u;obtain⟨O3,a6,s3⟩:=up o' (.m true (ke true B (.tuple [y0,z0]) k v)) mv (fun G g=>⟨S,rfl,rfl,g2 G g⟩);exact⟨S,_,rfl,g1,fD.nx _ _ _ _ a6 (s1.trans ((aP.same M).trans s3)) h⟩
         ·rw[if_neg u] at h;exact h.elim) (gb (m:=m) (k:=lD C i f j l) q)⟩
end
section
variable{X:Cx}{F:Fx}{E:Str->al->Prop}{e a b c:Expr}{es:List Expr}{st:Stmt}{pos p1 apos cpos fpos:Pos}{x f:Str}{C:Addr}{i:Nat}{m:XM PyData}
noncomputable def oD(C:Addr)(i:Nat)(f:Str)(j:Nat):XM PyData:=fun U=>match bR C U i,eE U j with
 | some (_,fs),some (.int k)=>(match fs.lookup f with
  | some (.l ds)=>lift (bK ds k) U
  | some (.d (.list ds))=>lift (bK ds k) U
  | some (.d (.tuple ds))=>.bad
  | _=>.bad)
 | _,_=>.bad
theorem BO{G:Hp}{l:List V}{g:List PyData}{k:Int}{d:PyData}(h:aQ G l g)(e:bK g k=some d):∃v,bK l k=some v/\DV G v d:=by
 unfold bK at e ⊢;rw[h.length];cases n:dh g.length k with
 | none=>rw[n] at e;cases e
 | some j=>rw[n] at e;exact h.get e
theorem LZ{y:Str}{s:Pos}{j:Nat}(cl:da X.K C)(N:cL X.K C f)(T:PE X (.Name x p1) (ca i))(Z:PE X (.Name y s) (ca j))(hb:attributeBase (.Name x p1) f X.env (eval (.Name x p1) X.env)=eval (.Name x p1) X.env:=by rfl)(hs:nK (.Name y s):=by intro _ _;rfl) :
  FE X F E (.Subscript (.Attribute (.Name x p1) f fpos) (.Name y s) pos) (oD C i f j):=
 ⟨aH,(uA uD (me T hb) Z hs).imp fun Y H Q ⟨U,O,st,q⟩=>by
  unfold wp oD at q;cases ho:bR C U i with
  | none=>rw[ho] at q;exact q.elim
  | some p=>
   obtain⟨io,fs⟩:=p;cases u:eE U j with
   | none=>rw[ho,u] at q;exact q.elim
   | some y0=>
    rw[ho,u] at q;cases y0 with
    | int k=>
     simp only at q;obtain⟨w,R,dw⟩:=st.dat (oB u);obtain rfl:=dw.int_inv;cases g:fs.lookup f with
     | none=>rw[g] at q;exact q.elim
     | some t=>
      rw[g] at q;cases t with
      | m _ _=>exact q.elim
      | l ds=>obtain⟨z,A,B,S,h,D,l1,⟨G,I,eb,_,J,n⟩,_⟩:=st.fldUp ho g rfl;cases eb;obtain⟨d,r,L⟩:=dj (o:=bK ds k) (U:=U) (E:=E) q;obtain⟨v,ev,M⟩:=BO n r;exact⟨_,h,z,C,A,B,.ref S,rfl,D,cl,N,l1,_,R,S,I,k,v,rfl,rfl,.of J,ev,L v H O st .refl M⟩
      | d x0=>
       cases x0 with
       | list ds=>
        obtain⟨z,fp,h,⟨A,B,a1,r,D,e3,e4⟩,_,_⟩:=st.box (iW ho);rcases oA e4 f with⟨_,l2⟩ | ⟨v,y1,a2,l1,l2,l3,_⟩
        ·rw[g] at l2;cases l2
        ·rw[g] at l2;cases l2;obtain⟨G,I,rfl,J,n⟩:=l3.2.lst_inv;obtain⟨d,r,L⟩:=dj (o:=bK ds k) (U:=U) (E:=E) q;obtain⟨v,ev,M⟩:=BO n r;exact⟨_,h,z,C,A,B,.ref G,rfl,D,cl,N,l1,_,R,G,I,k,v,rfl,rfl,.of (cP J).1,ev,L v H O st .refl M⟩
       | _=>exact q.elim
    | _=>exact q.elim⟩
noncomputable def lE(C:Addr)(i:Nat)(f:Str)(j:Nat)(v:PyData):SM:=fun U=>match bR C U i,eE U j with
 | some (io,fs),some (.int k)=>(match fs.lookup f with
  | some (.l ds)=>(match dh ds.length k with
   | some n=>.nx (U.set i (some (.own io (.o C (bL f (.l (ds.set n v)) fs)))))
   | none=>.bad)
  | _=>.bad)
 | _,_=>.bad
noncomputable def mH(C:Addr)(i:Nat)(f:Str)(j:Nat)(m:XM PyData):SM:=fun U=>eA (m U) (lE C i f j)
theorem BP{G:Hp}{v:V}{d:PyData}(hd:DV G v d):∀{g:List V}{j:List PyData}(n:Nat),aQ G g j->aQ G (g.set n v) (j.set n d)
 | _,_,_,.nil=>.nil
 | _,_,0,.cons _ t=>.cons hd t
 | _,_,n+1,.cons h t=>.cons h (BP hd n t)
theorem Ma{y:Str}{r h:Pos}{j:Nat}(cl:da X.K C)(Z:cL X.K C f)(hv:PE X (.Name x p1) (ca i))(hy:PE X (.Name y r) (ca j))(he:FE X F E e m)(hb:attributeBase (.Name x p1) f X.env (eval (.Name x p1) X.env)=eval (.Name x p1) X.env:=by rfl)
  (hs:swapsWithSole [.Subscript (.Attribute (.Name x p1) f fpos) (.Name y r) h] e pos.line X.env=pure false:=by rfl) (hw:swappedStores [.Subscript (.Attribute (.Name x p1) f fpos) (.Name y r) h] e X.env=pure none:=by rfl)
  (h1:(assignEach [.Subscript (.Attribute (.Name x p1) f fpos) (.Name y r) h] X.env).map (·.2)=[assign (.Subscript (.Attribute (.Name x p1) f fpos) (.Name y r) h) X.env]:=by rfl)
  (hq:∀v,assign (.Subscript (.Attribute (.Name x p1) f fpos) (.Name y r) h) X.env v=(do
   let A <-holding [v] (eval (.Attribute (.Name x p1) f fpos) X.env);let B <-holding [v,A] (eval (.Name y r) X.env)
   standAt h
   holding [v,A,B] (setItem A B v)
   release [v,A,B] []):=by intro _;rfl) :
  FS X F E (.Assign [.Subscript (.Attribute (.Name x p1) f fpos) (.Name y r) h] e pos) (mH C i f j m):=
 (yH he.pe (Fu (me hv hb) hy Hb hq) hs hw h1).imp fun D Y H ⟨U,O,DD,st,q,fD⟩=>⟨U,O,st,aH _ _ _ (fun v S o T H1 O1 u s1 d1=>by
  unfold bT lE at o;cases ho:bR C S i with
  | none=>rw[ho] at o;exact o.elim
  | some p=>
   obtain⟨io,fs⟩:=p;cases I:eE S j with
   | none=>rw[ho,I] at o;exact o.elim
   | some y0=>
    rw[ho,I] at o;cases y0 with
    | int k=>
     simp only at o;cases s:fs.lookup f with
     | none=>rw[s] at o;exact o.elim
     | some t=>
      rw[s] at o;cases t with
      | d _=>exact o.elim
      | m _ _=>exact o.elim
      | l ds=>
       simp only at o;cases J:dh ds.length k with
       | none=>rw[J] at o;exact o.elim
       | some n=>rw[J] at o;obtain⟨w,L,dw⟩:=u.dat (oB I);obtain rfl:=dw.int_inv;obtain⟨a0,dx,gs,M,N,e2,l1,⟨b1,Q,eb,_,hH,z⟩,up⟩:=u.fldUp ho s rfl;cases eb;obtain⟨O2,R,s2⟩:=up (.lst (Q.set n T)) (.l (ds.set n v)) trivial (fun G g=>⟨M,Q.set n T,rfl,rfl,cj,BP (DV.mono g d1) n (aQ.mono g z)⟩);exact⟨_,N,a0,C,dx,gs,.ref M,rfl,e2,cl,Z,l1,_,L,M,Q,k,n,rfl,rfl,hH,by rw[z.length];exact J,fD.nx _ _ _ _ R (s1.trans s2) o⟩
    | _=>exact o.elim) (gb (m:=m) (k:=lE C i f j) q)⟩
noncomputable def qZ(C:Addr)(i:Nat)(f:Str)(n:Int):SM:=fun U=>match bR C U i with
 | some (io,fs)=>(match fs.lookup f with
  | some (.d (.int v))=>if fs.length<1000 then .nx (U.set i (some (.own io (.o C (bL f (.d (.int (v+n))) fs))))) else .bad
  | _=>.bad)
 | none=>.bad
theorem Mb{n:Int}{k:Pos}(cl:da X.K C)(R:cL X.K C f)(S:PE X (.Name x p1) (ca i))(T:PE X e (fun Y H Q=>Q (.int n) H)):FS X F E (.AugAssign (.Attribute (.Name x p1) f k) .Add e pos) (qZ C i f n):=
 (Gv S T Gx).imp fun D Y H ⟨U,O,DD,st,q,Z⟩=>by
  unfold bT qZ at q;cases ho:bR C U i with
  | none=>rw[ho] at q;exact q.elim
  | some p=>
   obtain⟨io,fs⟩:=p;rw[ho] at q;simp only at q;cases g:fs.lookup f with
   | none=>rw[g] at q;exact q.elim
   | some t=>
    rw[g] at q;cases t with
    | l _=>exact q.elim
    | m _ _=>exact q.elim
    | d x0=>
     cases x0 with
     | int v0=>
      simp only at q
      by_cases y:fs.length<1000
      ·rw[if_pos y] at q;obtain⟨r,fp,A,⟨j,u,h,e1,N,e3,B⟩,hO,nd,up⟩:=st.boxN (iW ho);subst e1;have I:j≠r:=fun z=>by subst z;simp at nd
       rcases oA B f with⟨_,l2⟩ | ⟨v,y1,a1,l1,l2,l3,_⟩
       ·rw[g] at l2;cases l2
       ·rw[g] at l2;cases l2;obtain rfl:=l3.2.int_inv;obtain⟨O3,J,s3,_⟩:=up (aM H r (.ins C j (cz f (.int (v0+n)) u))) (.o C (bL f (.d (.int (v0+n))) fs)) (r::j::h.flatten) (fun c o L e=>by rw[bi (fun z=>L (by simp[z]))];exact e) nd (fun c M=>.inl M) (fun G O' s hG _=>by
         subst hG;refine⟨s.hid,j,cz f (.int (v0+n)) u,if (fs.lookup f).isSome=true then h else h++[[]],?_,cj,by rw[bi I];exact e3,?_⟩
         ·split
          ·rfl
          ·simp
         ·refine B.putD (by rw[g];rfl) (.int _) s.hid fun c M=>bi (fun z=>?_);subst z;exact absurd M (fun w=>(List.nodup_cons.mp nd).1 (bN _ w)))
        exact⟨_,A,r,C,j,u,_,rfl,N,cl,R,l1,v0,n,rfl,rfl,j,u,N,by rw[B.len];exact y,Z.nx _ _ _ _ J s3 q⟩
      ·rw[if_neg y] at q;exact q.elim
     | _=>exact q.elim
end
theorem BQ{G b H d:Hp}{f:Str}{p:Addr}{y:Fl}:∀{i:List (Str×V)}{fs:List (Str×Fl)}{a:List (List Addr)},bp G H i fs a->fs.lookup f=none->bV G b->(∀c∈a.flatten,d c=H c)->fS b d (.ref p) y [p]->bp b d (cz f (.ref p) i) (bL f y fs) (a++[[p]])
 | _,_,_,.nil,_,_,_,h=>.cons h .nil
 | (n,v)::i,(_,z)::fs,o::a,.cons h1 h2,j,g,k,h=>by
  by_cases e:f=n
  ·subst e;simp[List.lookup] at j
  ·have m:(f==n)=false:=by simpa using e
   rw[List.lookup_cons,m] at j;unfold cz bL;rw[if_neg (fun z=>e z.symm),if_neg (fun z=>e z.symm)];exact .cons (h1.keep (fun c l=>k c (by rw[List.flatten_cons];exact bf _ l)) g) (BQ h2 j g (fun c l=>k c (by rw[List.flatten_cons];exact bb _ l)) h)
theorem aC.fldNew{K:Frag}{F:Fx}{H:Hp}{Y:St}{U:al}{O:List Addr}{C:Addr}{i:Nat}{io:Bool}{fs:List (Str×Fl)}{f:Str}(st:aC K F H Y U O)(S:bR C U i=some (io,fs))(lk:fs.lookup f=none) :
  ∃a d g,Y[i]? = some (some (.ref a))/\H a=some (.ins C d g)/\g.length=fs.length/\
   ∀(p:Addr) (h:HO) (y:Fl),H p=none->Mv h->(∀G,bV (ay O H) G->fS G (aM (aM H p h) a (.ins C d (cz f (.ref p) g))) (.ref p) y [p])->aM H p h a=some (.ins C d g)/\∃l,aC K F (aM (aM H p h) a (.ins C d (cz f (.ref p) g))) Y (U.set i (some (.own io (.o C (bL f y fs))))) l/\aP O H l (aM (aM H p h) a (.ins C d (cz f (.ref p) g))):=by
 obtain⟨a,T,n,⟨d,g,j,D,q,v,w⟩,E,nd,up⟩:=st.boxN (iW S);subst D;have m:=nd;rw[List.nodup_cons,List.nodup_cons] at m;obtain⟨r,t,I⟩:=m;have ad:d≠a:=fun z=>r (by rw[z];exact List.mem_cons_self);refine⟨a,d,g,n,q,w.len,fun p h y k X J=>?_⟩;have pa:a≠p:=fun z=>by subst z;rw[q] at k;cases k
 have A:d≠p:=fun z=>by subst z;rw[v] at k;cases k
 have L:=st.live;have B:p∉j.flatten:=fun z=>by exact absurd (E p (bN _ (bN _ z))) (st.nofree p k)
 refine⟨by rw[bi pa];exact q,?_⟩;obtain⟨l,u,M,_⟩:=up (aM (aM H p h) a (.ins C d (cz f (.ref p) g))) (.o C (bL f y fs)) (a::d::(j++[[p]]).flatten) (fun c o b e=>by
   rw[bi (fun z=>b (by simp[z])),bi (fun z=>by subst z;rw[k] at e;cases e)];exact e) (by
   rw[List.flatten_append];simp only[List.flatten_cons,List.flatten_nil,List.append_nil];refine List.nodup_cons.mpr ⟨fun z=>?_,List.nodup_cons.mpr ⟨fun z=>?_,List.nodup_append.mpr ⟨I,by simp,fun x N y Q=>?_⟩⟩⟩
   ·rcases List.mem_cons.mp z with z | z
    ·exact ad z.symm
    ·rcases List.mem_append.mp z with z | z
     ·exact r (bN _ z)
     ·exact pa (List.mem_singleton.mp z)
   ·rcases List.mem_append.mp z with z | z
    ·exact t z
    ·exact A (List.mem_singleton.mp z)
   ·rw[List.mem_singleton.mp Q];exact fun z=>B (by rw[<-z];exact N)) (fun c b=>by
   rw[List.flatten_append] at b;simp only[List.flatten_cons,List.flatten_nil,List.append_nil] at b;rcases List.mem_cons.mp b with rfl | b
   ·exact .inl List.mem_cons_self
   ·rcases List.mem_cons.mp b with rfl | b
    ·exact .inl (by simp)
    ·rcases List.mem_append.mp b with b | b
     ·exact .inl (bN _ (bN _ b))
     ·exact .inr (by rw[List.mem_singleton.mp b];exact k)) (fun G l s R _=>by
  subst R;refine⟨s.hid,d,cz f (.ref p) g,j++[[p]],rfl,cj,by rw[bi ad,bi A];exact v,BQ w lk s.hid (fun c b=>?_) (J _ s.hid)⟩;rw[bi (fun z=>r (by rw[<-z];exact bN _ b)),bi (fun z=>B (by rw[<-z];exact b))])
 exact⟨l,u,M⟩
section
variable{X:Cx}{F:Fx}{E:Str->al->Prop}{e a b c:Expr}{es:List Expr}{st:Stmt}{pos p1 p2 apos cpos fpos pos':Pos}{x f:Str}{C:Addr}{i:Nat}{m:XM PyData}
noncomputable def lF(C:Addr)(i:Nat)(f:Str)(y:Fl):SM:=fun U=>match bR C U i with
 | some (io,fs)=>if fs.lookup f=none/\fs.length<1000 then .nx (U.set i (some (.own io (.o C (bL f y fs))))) else .bad
 | none=>.bad
theorem Mc(cl:da X.K C)(o:cL X.K C f)(r:PE X (.Name x p1) (ca i))(s:swapsWith (.List [] p2) (some (.Attribute (.Name x p1) f pos')) pos.line X.env=pure false:=by rfl):FS X F E (.Assign [.Attribute (.Name x p1) f pos'] (.List [] p2) pos) (lF C i f (.l [])):=
 (qc r (qd er) s).imp fun D Y H ⟨U,O,J,st,q,t⟩=>by
  unfold bT lF at q;cases ho:bR C U i with
  | none=>rw[ho] at q;exact q.elim
  | some p=>
   obtain⟨io,fs⟩:=p;rw[ho] at q;simp only at q
   by_cases d:fs.lookup f=none/\fs.length<1000
   ·rw[if_pos d] at q;obtain⟨n,u,v,h,w,y,A⟩:=st.fldNew ho d.1;refine⟨Nat.zero_le _,fun p j=>?_⟩;have pa:n≠p:=fun z=>by subst z;rw[w] at j;cases j
    obtain⟨I,L,k,B⟩:=A p (.lst []) (.l []) j trivial (fun G g=>⟨p,[],rfl,rfl,by rw[bi (fun z=>pa z.symm),cj],.nil⟩);exact⟨_,h,n,C,u,v,rfl,I,cl,o,by rw[y];exact d.2,t.nx _ _ _ _ k B q⟩
   ·rw[if_neg d] at q;exact q.elim
theorem Md(cl:da X.K C)(n:cL X.K C f)(o:PE X (.Name x p1) (ca i))(r:swapsWith (.Dict [] [] p2) (some (.Attribute (.Name x p1) f pos')) pos.line X.env=pure false:=by rfl):FS X F E (.Assign [.Attribute (.Name x p1) f pos'] (.Dict [] [] p2) pos) (lF C i f (.m true [])):=
 (qc o HK r).imp fun D Y H ⟨U,O,J,st,q,s⟩=>by
  unfold bT lF at q;cases ho:bR C U i with
  | none=>rw[ho] at q;exact q.elim
  | some p=>
   obtain⟨io,fs⟩:=p;rw[ho] at q;simp only at q
   by_cases d:fs.lookup f=none/\fs.length<1000
   ·rw[if_pos d] at q;obtain⟨l,t,u,h,v,w,y⟩:=st.fldNew ho d.1;intro p j;have B:l≠p:=fun z=>by subst z;rw[v] at j;cases j
    obtain⟨I,L,k,A⟩:=y p (.dT []) (.m true []) j trivial (fun G g=>⟨p,rfl,rfl,[],by rw[bi (fun z=>B z.symm),cj],.nil⟩);exact⟨_,h,l,C,t,u,rfl,I,cl,n,by rw[w];exact d.2,s.nx _ _ _ _ k A q⟩
   ·rw[if_neg d] at q;exact q.elim
noncomputable def ra(C:Addr)(i:Nat)(f:Str):XM PyData:=fun U=>match bR C U i with
 | some (_,fs)=>(match fs.lookup f with
  | some (.l ds)=>.ok (.list ds) U
  | _=>.bad)
 | none=>.bad
theorem Me{s:Pos}(u:Gl X "list")(v:X.mg "list" = none)(cl:da X.K C)(w:cL X.K C f)(y:PE X (.Name x p1) (ca i))(L:attributeBase (.Name x p1) f X.env (eval (.Name x p1) X.env)=eval (.Name x p1) X.env:=by rfl)
  (o:starEach [.Attribute (.Name x p1) f fpos] X.env=(false,eval (.Attribute (.Name x p1) f fpos) X.env)::starEach [] X.env:=by rfl) (j:(backTo pos (starEach [] X.env)).any (·.1)=false:=by rfl) :
  FE X F E (.Call (.Name "list" s) [.Attribute (.Name x p1) f fpos] [] pos) (ra C i f):=
 ⟨aH,(zg Hh u v (show bootBuiltins "list" = some (.type "list") by decide +kernel) (dE (me y L) er o) (by decide) (by decide) o j).imp fun Y H Q ⟨U,O,st,q⟩=>by
  unfold wp ra at q;cases ho:bR C U i with
  | none=>rw[ho] at q;exact q.elim
  | some p=>
   obtain⟨io,fs⟩:=p;rw[ho] at q;simp only at q;cases g:fs.lookup f with
   | none=>rw[g] at q;exact q.elim
   | some t=>
    rw[g] at q;cases t with
    | d _=>exact q.elim
    | m _ _=>exact q.elim
    | l ds=>
     obtain⟨z,A,B,r,k,D,l1,⟨M,G,I,_,J,n⟩,_⟩:=st.fldUp ho g rfl;cases I;exact⟨_,k,z,C,A,B,.ref r,rfl,D,cl,w,l1,r,G,rfl,.inl (.of J),fun p h=>q _ _ O (st.grow (bP h)) (.same (bP h)) (kU h (st.nofree p h) n)⟩⟩
end
end L2.L3
namespace L2
open PySem
section
variable{prog:Program}{w:World}{A:Around}{E:Value->Shared->Prop}{s:Shared}
theorem BR(a d:Value):argsOk "min" ⟨[a],[("default",d)]⟩:=by unfold argsOk;kernel_rfl
theorem BS{id:String}{b:Builtin}{args:List Value}{d:List (Str×Value)}{Q:Value->Shared->Prop}(k:builtinKind id=none)(l:plainId id=true)(n:entryFor table id=some b)(m:argsOk id ⟨args,d⟩)
  (i:wpAny (model prog w) A.in1 (b ⟨args,d⟩) (fun fin a=>match fin with
   | .done f=>(match (Except.ok f:Result) with | .ok (.ret v)=>Q v a | .ok _=>False | .error e=>E e a)
   | .again j=>j.quiet=true/\codeAny (model prog w) A j (fun r a=>match r with | .ok (.ret v)=>Q v a | .ok _=>False | .error e=>E e a) a) E s):wpAny (model prog w) A (call (.builtin id) args d) Q E s:=by
 refine wpAny_call (codeAny_call_builtin l n ?_);simp only[checkBuiltinCall,k];cases c:Manifest.signature? id with
 | none=>exact bo i
 | some g=>
  have h:Bind.checkArgs id g ⟨args,d⟩=pure ():=by simpa only[argsOk,c] using m
  simp only[h];exact bo i
theorem Mf{l:Addr}{d:Value}{Q:Value->Shared->Prop}(p:A.handled=none)(k:s.heap.IsList l #[])(q:∀c,(∀b o,s.heap.get? b=some o->c.get? b=some o)->Q d { s with heap:=c }) :
  wpAny (model prog w) A (call (.builtin "min") [.ref l] [("default",d)]) Q E s:=by
 refine BS F.kind_min F.plain_min F.entry_min (BR _ _) ?_;show wpAny _ A.in1 (Builtin.Builtins.bindParams "min" ["key","default"] 0 ⟨[],[("default",d)]⟩ >>= _) _ _ s;refine aw (wpAny_of_eq (show Builtin.Builtins.bindParams "min" ["key","default"] 0 ⟨[],[("default",d)]⟩=pure [none,some d] from rfl) ?_);refine aw (bo ?_);refine aw (wpAny_pyIter_list k ?_);refine aw (wpAny_newObj_type ?_);have a:(toString "min"++toString ".loop":String)="min.loop":=by decide
 rw[a];obtain⟨ol,f,g,nl,h⟩:=id k;generalize m:(s.heap.push { cls:=.type "list_iterator",data:=.fields #[.ref l,.int 0 0] })=h1;have r:h1.get? s.heap.objs.size=some { cls:=.type "list_iterator",data:=.fields #[.ref l,.int 0 0] }:=by rw[<-m];exact Heap.get?_push_size _ rfl
 have n:∀b o,s.heap.get? b=some o->h1.get? b=some o:=fun b o e=>by rw[<-m];exact bv _ e
 refine bo ⟨plainId_quiet F.plain_min_loop _,?_⟩;refine codeAny_builtin F.entry_min_loop ?_;rw[Around.under_plainId F.plain_min_loop _];have t:(h1.push { cls:=.type "list",data:=.seq #[] }).get? h1.objs.size=some { cls:=.type "list",data:=.seq #[] }:=Heap.get?_push_size _ rfl;show wpAny _ A.in1 (seqItems? (.ref h1.objs.size) >>= _) _ _ _;refine aw (wpAny_seqItems t rfl ?_);show wpAny _ A.in1 (tryCatch (pyNext (.ref s.heap.objs.size)) _ >>= _) _ _ _;refine aw (wpAny_tryCatch (wpAny_pyNext_list_end (i:=0) (l:=l) (items:=#[]) p ⟨_,bv _ r,rfl,rfl⟩ ⟨ol,bv _ (n _ _ f),g,nl,h⟩ rfl fun c j=>?_));refine aw (wpAny_rule (bo ?_));exact q c fun b o e=>j b o (Nat.ne_of_lt (bq e)) (bv _ (n b o e))
end
end L2
namespace L2.L3
open PySem PySem.Spec PyProof.Rows
section
variable{X:Cx}{F:Fx}{E:Str->al->Prop}{pos:Pos}
theorem DE.imp'{e:Expr}{t t':DT}(h:DE X F e t)(a:Mn t')(k:∀U Q,t' U Q->t U Q):DE X F e t':=⟨a,h.pe.imp fun Y H Q ⟨U,O,st,q⟩=>⟨U,O,st,k U _ q⟩⟩
end
section
variable{K:Frag}{F:Fx}{own:List Str}{caps:List Nat}{s:ff}{g:eG}{tc:cX}{te:DT}
theorem Mg{T:Fx->Prop}(hP:∀u Y w k O2,aC K F u Y w k->T ⟨u,[],O2,fun _=>0⟩)(hs:oa s)(hg:∀d U Q Q',(∀n,Q n->Q' n)->g d U Q->g d U Q')(ht:jV tc)(he:Mn te):∀(Y:St) (H:Hp) (Q:VK),(∃U O,aC K F H Y U O/\s U fun f w=>∃G:Nat->List PyData->al->Prop,G 0 [] (cw own caps w)/\
   (∀i d r n,f[i]? = some d->G i r n->g d n fun U2=>tc U2 fun b L=>if b=true then te L fun y U4=>r.length<sizeLine/\G (i+1) (r++[y]) U4 else G (i+1) r L)/\
   ∀r n,G f.length r n->r.length<=sizeLine/\∀t A vs p,aC K F t Y w A->aP O H A t->aQ (ay A t) vs r->t p=none->Q (.ref p) (aM t p (.lst vs)))->
  ml own caps (nX K F s) (fun v Y H Q=>∃D,T D/\nV K D g v Y H Q) (fun Y H Q=>∃D,T D/\kW K D tc Y H Q) (fun Y H Q=>∃D,T D/\gO K D te Y H Q) Y H Q:=fun Y H Q ⟨U,O,st,q⟩=>by
 refine⟨U,O,st,hs _ _ _ (fun f w ⟨G,i0,step,fin⟩ J u k l s1 wk=>?_) q⟩;refine⟨fun i m r Y' t=>∃n A E,aC K ⟨u,[],k,fun _=>0⟩ t Y' n A/\G i E n/\aQ (ay A t) r E/\i<=f.length/\m=f.length - i,⟨f.length,cw own caps w,k,[],?_,i0,.nil,Nat.zero_le _,rfl⟩,?_⟩
 ·have cell:∀(i:Nat) (c:ak),(cw own caps w)[i]? = some (some c)->(∀io b,c≠.own io b)/\∃v,(dF own caps Y)[i]? = some (some v)/\dG K u k v c []:=fun i c e=>by
   unfold cw at e;unfold dF
   by_cases X:i<own.length
   ·rw[List.getElem?_append_left (by simpa using X),List.getElem?_map] at e;cases h:own[i]? with
    | none=>rw[h] at e;cases e
    | some y=>rw[h] at e;cases e
   ·rw[List.getElem?_append_right (by simpa using Nat.le_of_not_lt X),List.length_map,List.getElem?_map] at e;rw[List.getElem?_append_right (by simpa using Nat.le_of_not_lt X),List.length_map,List.getElem?_map];obtain⟨j,h1,h2⟩:=Option.map_eq_some_iff.mp e;rw[h1];show _/\∃v,some ((Y[j]?).getD none)=some (some v)/\_;cases h3:w[j]? with
    | none=>rw[h3] at h2;cases h2
    | some o=>
     cases o with
     | none=>rw[h3] at h2;cases h2
     | some c'=>
      rw[h3] at h2;obtain⟨W,I,rfl⟩:=id l;obtain⟨v,fp,e1,_,M⟩:=I.at_ j c' h3;rw[e1];cases c' with
      | dat d=>cases h2;exact⟨(fun _ _ z=>by cases z),v,rfl,M⟩
      | scr ns=>cases h2;exact⟨(fun _ _ z=>by cases z),v,rfl,M⟩
      | own _ _=>cases h2
      | exc _=>cases h2
      | vw b=>cases h2;exact⟨(fun _ _ z=>by cases z),v,rfl,M⟩
  obtain⟨W,I,a0⟩:=id l;have ln:(cw own caps w).length=(dF own caps Y).length:=by unfold cw dF;simp
  have Z:(List.replicate (cw own caps w).length ([]:List Addr)).flatten++k=k:=by rw[mr];rfl
  refine⟨List.replicate (cw own caps w).length [],⟨fun i c e=>?_,by show(_++k).Nodup;rw[Z,a0];exact I.nd,fun _ _ _ h=>h,fun a h=>?_,by show kZ u (_++k);rw[Z];exact l.live,ln,by simp,fun i b e=>absurd rfl ((cell i _ e).1 true b)⟩,Z.symm⟩
  ·obtain⟨_,v,e1,M⟩:=cell i c e;refine⟨v,[],e1,?_,by show dG K u (_++k) v c [];rw[Z];exact M⟩;rw[List.getElem?_replicate,if_pos (List.getElem?_eq_some_iff.mp e).1]
  ·rw[mr] at h;cases h
 ·rintro i m r Y' t ⟨n,A,E,B,iv,dv,X,rfl⟩;have sm:bV u t:=fun b o e=>by obtain⟨W',h',_⟩:=id B;exact h'.kept b o (by simp) e
  have a1:aP k u A t:=⟨fun b o _ e=>sm b o e,fun a h=>by
   obtain⟨W',h',rfl⟩:=id B;rcases List.mem_append.mp h with h | h
   ·exact(h'.new a h).elim (fun z=>absurd z (by simp)) .inr
   ·exact .inl h⟩
  have N:∀a∈k,a∈A:=fun a h=>by obtain⟨W',h',rfl⟩:=id B;exact bb _ h
  obtain⟨w1,w2⟩:=wk A t a1 B.live
  by_cases C:i<f.length
  ·obtain⟨go,yld⟩:=w1 i f[i] (List.getElem?_eq_getElem C);refine .inr ⟨go,fun x H2 hy=>?_⟩;obtain⟨R,dx⟩:=yld x H2 hy;refine⟨⟨u,[],k,fun _=>0⟩,hP _ _ _ _ _ l,n,A,f[i],B.grow R,dx,hg _ _ _ _ (fun U2 q2 Y3 H3 O3 a2 s3=>?_) (step i f[i] E n (List.getElem?_eq_getElem C) iv)⟩;refine⟨⟨u,[],k,fun _=>0⟩,hP _ _ _ _ _ l,U2,O3,a2,ht _ _ _ (fun b L q3 H4 O4 S s4=>?_) q2⟩;have d4:aQ (ay O4 H4) r E:=aQ.mono s4.hid (aQ.mono s3.hid (aQ.mono (jQ R) dv));cases b with
   | false=>exact eW ⟨f.length - (i+1),by omega,L,O4,E,S,jU q3,d4,C,rfl⟩
   | true=>refine eX ⟨⟨u,[],k,fun _=>0⟩,hP _ _ _ _ _ l,L,O4,S,he _ _ _ (fun y U4 q4 v H5 O5 a3 s5 dy=>?_) (jT q3)⟩;refine⟨by rw[d4.length];exact q4.1,f.length - (i+1),by omega,U4,O5,E++[y],a3,q4.2,(aQ.mono s5.hid d4).append (.cons dy .nil),C,rfl⟩
  ·have e:i=f.length:=by omega
   subst e;obtain⟨hz,q⟩:=fin E n iv;exact .inl ⟨w2,by rw[dv.length];exact hz,fun p hp=>q t k r p (l.grow sm) (s1.trans (.same sm)) (aQ.mono (nM N) dv) hp⟩
end
section
variable{X:Cx}{F:Fx}{E:Str->al->Prop}{pos:Pos}
theorem Mh{own:List Str}{k:List Nat}{s:XM (List PyData)}{g:GM}{t:XM Bool}{m:XM PyData}{U:al}{P:List PyData->al->Prop}(q:wp E s U fun f l=>∃j,cS g t m f [] (jD own.length k l)=some j/\j.length<=sizeLine/\P j l) :
  wp E s U fun f l=>∃n:Nat->List PyData->al->Prop,n 0 [] (cw own k l)/\
   (∀i d j r,f[i]? = some d->n i j r->eK g d r fun u=>wp eN t u fun b o=>if b=true then wp eN m o fun y v=>j.length<sizeLine/\n (i+1) (j++[y]) v else n (i+1) j o)/\
   ∀j r,n f.length j r->j.length<=sizeLine/\P j l:=aH _ _ _ (fun f l ⟨p,B,C,D⟩=>by
 have G:cw own k l=jD own.length k l:=by unfold cw jD;rw[List.map_const']
 refine⟨fun i j U=>cS g t m (f.drop i) j U=some p,by rw[G];exact B,fun i d j U hd a=>?_,fun j U h=>?_⟩
 ·have e:f.drop i=d::f.drop (i+1):=by obtain⟨w,H⟩:=List.getElem?_eq_some_iff.mp hd;rw[<-H];exact List.drop_eq_getElem_cons w
  simp only[e] at a;unfold cS at a;unfold eK;cases A:g d U with
  | none=>rw[A] at a;cases a
  | some u=>
   rw[A] at a;simp only at a ⊢;unfold wp;cases x:t u with
   | ex c o=>rw[x] at a;cases a
   | bad=>rw[x] at a;cases a
   | ok b o=>
    rw[x] at a;cases b with
    | false=>exact eW a
    | true=>
     refine eX ?_;simp only at a ⊢;cases z:m o with
     | ex c v=>rw[z] at a;cases a
     | bad=>rw[z] at a;cases a
     | ok I v=>
      rw[z] at a;simp only at a ⊢;split at a
      ·rename_i h;exact⟨h,a⟩
      ·cases a
 ·simp only[List.drop_length] at h;have:j=p:=by unfold cS at h;exact Option.some.inj h
  subst this;exact⟨C,D⟩) q
noncomputable def rb(C:Addr)(i:Nat)(f:Str)(own:Nat)(a:List Nat)(g:GM)(t:XM Bool)(m:XM PyData)(b:List PyData):SM:=fun U=>match cS g t m b [] (jD own a U),bR C U i with
 | some c,some (io,fs)=>if c.length<=sizeLine/\fs.lookup f=none/\fs.length<1000 then .nx (U.set i (some (.own io (.o C (bL f (.l c) fs))))) else .bad
 | _,_=>.bad
noncomputable def wb(C:Addr)(i:Nat)(f:Str)(own:Nat)(a:List Nat)(s:XM (List PyData))(g:GM)(t:XM Bool)(m:XM PyData):SM:=fun U=>eA (s U) (rb C i f own a g t m)
theorem Mi{C:Addr}{i:Nat}{f x:Str}{T w y:Pos}{a:Scope}{own capN:List Str}{caps:List Nat}{N iter h:Expr}{j:List Expr}{s:XM (List PyData)}{g:GM}{t:XM Bool}{m:XM PyData}{n:Nat}(cl:da X.K C)(na:cL X.K C f)(hv:PE X (.Name x T) (ca i))(hG:GF X.mg F)(S:aq X a own capN caps)(hc:X.calm=true)(hn:own.length=n)(hi:FI X F E N iter s)
  (o:∀C A B J M b,GF X.mg b->FG (cg X a (own++capN) C A B J M) b N g/\oq (cg X a (own++capN) C A B J M) b eN j t/\FE (cg X a (own++capN) C A B J M) b eN h m)
  (Z:swapsWith (.ListComp h [⟨N,iter,j,0⟩] a pos) (some (.Attribute (.Name x T) f w)) y.line X.env=pure false:=by rfl)
  (hs:∀x,foldedSetIterable iter X.env x=pure x:=by intro _;rfl):FS X F E (.Assign [.Attribute (.Name x T) f w] (.ListComp h [⟨N,iter,j,0⟩] a pos) y) (wb C i f n caps s g t m):=by
 subst hn;obtain⟨hg,ht,he⟩:=o 0 [] (PySem.start X.prog).1 (fun _=>none) [] F hG;have pe:PE X (.ListComp h [⟨N,iter,j,0⟩] a pos) (ml own caps (nX X.K F (wp E s)) (fun v Y H Q=>∃b,GF X.mg b/\nV X.K b (eK g) v Y H Q) (fun Y H Q=>∃b,GF X.mg b/\kW X.K b (wp eN t) Y H Q) (fun Y H Q=>∃b,GF X.mg b/\gO X.K b (wp eN m) Y H Q)):=zN S hc hi.pi (fun C A B J M=>⟨fun c s Y H v u Q I r ⟨b,R,q⟩=>(o C A B J M b R).1.pg c s Y H v u Q I r q,fun c s Y H Q I ⟨b,R,q⟩=>(o C A B J M b R).2.1.2 c s Y H Q I q,fun c s Y H Q I ⟨b,R,q⟩=>(o C A B J M b R).2.2.pe c s Y H Q I q⟩) hs;refine(qc hv pe Z).imp fun D Y H ⟨U,O,DD,st,q,fD⟩=>?_;refine Mg (fun _ _ _ _ _ st=>hG.into st) hi.mn hg.mn ht.1 he.mn Y H _ ⟨U,O,st,Mh (aH _ _ _ (fun a1 U1 e=>?_) (gb (m:=s) (k:=rb C i f own.length caps g t m) q))⟩;unfold bT rb at e;cases L:cS g t m a1 [] (jD own.length caps U1) with
 | none=>rw[L] at e;exact e.elim
 | some ys=>
  cases ho:bR C U1 i with
  | none=>rw[L,ho] at e;exact e.elim
  | some p=>
   obtain⟨io,fs⟩:=p;rw[L,ho] at e;simp only at e
   by_cases d:ys.length<=sizeLine/\fs.lookup f=none/\fs.length<1000
   ·rw[if_pos d] at e;refine⟨ys,rfl,d.1,fun H' O' vs p a2 s' dv hp=>?_⟩;obtain⟨a0,dx,gs,a3,e2,hl,nw⟩:=a2.fldNew ho d.2.1;have pa:a0≠p:=fun z=>by subst z;rw[e2] at hp;cases hp
    obtain⟨h1,O3,a4,s3⟩:=nw p (.lst vs) (.l ys) hp trivial (fun G gg=>⟨p,vs,rfl,rfl,by rw[bi (fun z=>pa z.symm),cj],aQ.mono gg dv⟩);exact⟨_,a3,a0,C,dx,gs,rfl,h1,cl,na,by rw[hl];exact d.2.2,fD.nx _ _ _ _ a4 (s'.trans s3) e⟩
   ·rw[if_neg d] at e;exact e.elim
end
end L2.L3
namespace L2
open PySem PyProof.Rows
def wc(h:Heap)(a:List Value)(rows:List (List Int)):Prop:=a.length=rows.length/\∀(i:Nat) (v:Value),a[i]? = some v->∃(T:Addr) (items:Array Value) (r:List Int),v=.ref T/\IsTup h T items/\rows[i]? = some r/\IntsAre items.toList r
noncomputable abbrev gT(rows:List (List Int)):Nat->Nat->Bool:=fun i j=>HT.lexLt (rows.getD i []) (rows.getD j [])
section
variable{prog:Program}{w:World}{A:Around}{R:Result->Shared->Prop}{E:Value->Shared->Prop}{s:Shared}{h0:Heap}{I l S:Addr}{its:Array Value}{rows:List (List Int)}{d:Value}
theorem Mj{Q:Value->Shared->Prop}{i j:Nat}{u v:Value}(g:A.units<cLine)(a:wc h0 its.toList rows)(f:∀b o,h0.get? b=some o->s.heap.get? b=some o)(h:its[i]? = some u)(k:its[j]? = some v)(q:Q (.bool (gT rows i j)) s):wpAny (model prog w) A (richCompare .Lt u v) Q E s:=by
 obtain⟨T,m,r,rfl,n,p,t⟩:=a.2 i u (by simpa using h);obtain⟨c,y,z,rfl,B,C,D⟩:=a.2 j v (by simpa using k);have G:rows.getD i []=r:=by rw[List.getD_eq_getElem?_getD,p];rfl
 have H:rows.getD j []=z:=by rw[List.getD_eq_getElem?_getD,C];rfl
 unfold gT at q;rw[G,H] at q;have J:IsTup s.heap T m:=let⟨o,e,x⟩:=n;⟨o,f _ _ e,x⟩;have L:IsTup s.heap c y:=let⟨o,e,x⟩:=B;⟨o,f _ _ e,x⟩;exact(HT.lt_tupInts J L t D g q:wpAny (model prog w) A (compareOp .Lt (.ref T) (.ref c)) Q E s)
theorem Ml(T:A.handled=none)(U:A.in1.units<cLine)(X:wc h0 its.toList rows)(L:h0.IsList l its)(Y:h0.objs.size<=I)(Z:h0.objs.size<=S)(q:I≠S) :
  ∀(k j:Nat) (s:Shared) (n:Value) (c:Nat),its.size - (j+1)=k->j+1<=its.size->(∀b o,h0.get? b=some o->s.heap.get? b=some o)->s.heap.IsListIter I l (j+1)->its[argBest (gT rows) j]? = some n->
  s.heap.get? S=some { cls:=.type "list",dict:=none,data:=.seq #[n,n] c,slots:=#[] }->
  (∀v u y,its[argBest (gT rows) (its.size - 1)]? = some v->(∀b o,h0.get? b=some o->u.get? b=some o)->R (.ok (.ret v)) { s with heap:=u,toks:=y })->
  codeAny (model prog w) A (.builtin "min.loop" ⟨[.ref I,.none,.ref S],[("default",d)]⟩) R s:=by
 have a:(toString "min"++toString ".loop":String)="min.loop":=by decide
 have M:∀{b:Addr}{o:Obj},h0.get? b=some o->b≠I:=fun e z=>by subst z;exact absurd (bq e) (Nat.not_lt.mpr Y)
 have N:∀{b:Addr}{o:Obj},h0.get? b=some o->S≠b:=fun e z=>by subst z;exact absurd (bq e) (Nat.not_lt.mpr Z)
 intro k
 induction k with
 | zero=>
  intro j s n c hk hj C hit G f D;have H:j+1=its.size:=by omega
  refine codeAny_builtin F.entry_min_loop ?_;rw[Around.under_plainId F.plain_min_loop _];show wpAny _ A.in1 (seqItems? (.ref S) >>= _) _ _ s;refine aw (wpAny_seqItems f rfl ?_);show wpAny _ A.in1 (tryCatch (pyNext (.ref I)) _ >>= _) _ _ s;refine aw (wpAny_tryCatch (wpAny_pyNext_list_end T hit (L.at fun o e=>C _ _ e) (by simp;omega) fun Q g=>?_));have h:=g S _ (Ne.symm q) f;show wpAny _ A.in1 (updateSeq S (fun _=>#[]) >>= _) _ _ _;refine aw (wpAny_updateSeq h rfl (aw (wpAny_letGo (bo ?_))));refine D n _ _ (by rw[<-H];exact G) fun b o e=>?_;exact(Heap.get?_update_other _ _ (N e)).trans (g _ _ (M e) (C _ _ e))
 | succ k O=>
  intro j s n c hk hj C hit G f D;have m:j+1<its.size:=by omega
  refine codeAny_builtin F.entry_min_loop ?_;rw[Around.under_plainId F.plain_min_loop _];show wpAny _ A.in1 (seqItems? (.ref S) >>= _) _ _ s;refine aw (wpAny_seqItems f rfl ?_);show wpAny _ A.in1 (tryCatch (pyNext (.ref I)) _ >>= _) _ _ s;refine aw (wpAny_tryCatch (wpAny_pyNext_list_item hit (L.at fun o e=>C _ _ e) (x:=its[j+1]) (by simp[m]) fun Q p g=>?_));have h:=g.extBut S _ (Ne.symm q) f;have r:∀b o,h0.get? b=some o->Q.get? b=some o:=fun b o e=>g.extBut _ _ (M e) (C _ _ e);show wpAny _ A.in1 (tryCatch (holding [its[j+1],its[j+1]] (richCompare .Lt its[j+1] n >>= _)) _ >>= _) _ _ _;refine aw (wpAny_tryCatch (wpAny_holding (aw (Mj (i:=j+1) (j:=argBest (gT rows) j) U X r (by simp[m]) G ?_))));refine aw (wpAny_holding (wpAny_truthy_bool ?_));refine aw (wpAny_letGo (bo ?_));cases B:gT rows (j+1) (argBest (gT rows) j) with
  | true=>simp only[if_true];refine aw (wpAny_updateSeq h rfl (aw (wpAny_letGo ?_)));rw[a];refine bo ⟨plainId_quiet F.plain_min_loop _,O (j+1) _ its[j+1] _ (by omega) m (fun b o e=>(Heap.get?_update_other _ _ (N e)).trans (r _ _ e)) (p.at fun o e=>(Heap.get?_update_other _ _ (Ne.symm q)).trans e) (by simp only[argBest,B,if_true];simp[m]) (Heap.get?_update_self _ h rfl) fun v u y J t=>D v u y J t⟩
  | false=>simp only[Bool.false_eq_true,if_false];refine aw (wpAny_letGo ?_);rw[a];exact bo ⟨plainId_quiet F.plain_min_loop _,O (j+1) _ n c (by omega) m r p (by simp only[argBest,B,Bool.false_eq_true,if_false];exact G) h fun v u y J t=>D v u y J t⟩
theorem Mm{Q:Value->Shared->Prop}(t:A.handled=none)(u:A.in1.units<cLine)(j:s.heap.IsList l its)(y:wc s.heap its.toList rows)(k:0<its.size)(B:∀v h m,its[argBest (gT rows) (its.size - 1)]? = some v->(∀b o,s.heap.get? b=some o->h.get? b=some o)->Q v { s with heap:=h,toks:=m }) :
  wpAny (model prog w) A (call (.builtin "min") [.ref l] [("default",d)]) Q E s:=by
 refine BS F.kind_min F.plain_min F.entry_min (BR _ _) ?_;show wpAny _ A.in1 (Builtin.Builtins.bindParams "min" ["key","default"] 0 ⟨[],[("default",d)]⟩ >>= _) _ _ s;refine aw (wpAny_of_eq (show Builtin.Builtins.bindParams "min" ["key","default"] 0 ⟨[],[("default",d)]⟩=pure [none,some d] from rfl) ?_);refine aw (bo ?_);refine aw (wpAny_pyIter_list j ?_);refine aw (wpAny_newObj_type ?_);have a:(toString "min"++toString ".loop":String)="min.loop":=by decide
 rw[a];generalize n:(s.heap.push { cls:=.type "list_iterator",data:=.fields #[.ref l,.int 0 0] })=h1;have C:h1.get? s.heap.objs.size=some { cls:=.type "list_iterator",data:=.fields #[.ref l,.int 0 0] }:=by rw[<-n];exact Heap.get?_push_size _ rfl
 have D:∀b o,s.heap.get? b=some o->h1.get? b=some o:=fun b o e=>by rw[<-n];exact bv _ e
 have p:h1.objs.size=s.heap.objs.size+1:=by rw[<-n,Heap.size_push]
 refine bo ⟨plainId_quiet F.plain_min_loop _,?_⟩;refine codeAny_builtin F.entry_min_loop ?_;rw[Around.under_plainId F.plain_min_loop _];have q:(h1.push { cls:=.type "list",data:=.seq #[] }).get? h1.objs.size=some { cls:=.type "list",data:=.seq #[] }:=Heap.get?_push_size _ rfl;have r:∀b o,s.heap.get? b=some o->(h1.push { cls:=.type "list",data:=.seq #[] }).get? b=some o:=fun b o e=>bv _ (D b o e);show wpAny _ A.in1 (seqItems? (.ref h1.objs.size) >>= _) _ _ _;refine aw (wpAny_seqItems q rfl ?_);show wpAny _ A.in1 (tryCatch (pyNext (.ref s.heap.objs.size)) _ >>= _) _ _ _;refine aw (wpAny_tryCatch (wpAny_pyNext_list_item (i:=0) (l:=l) (items:=its) (x:=its[0]) ⟨_,bv _ C,rfl,rfl⟩ (j.at fun o e=>r _ _ e) (by simp[k]) fun J c f=>?_));have ne:s.heap.objs.size≠h1.objs.size:=by rw[p];exact Nat.ne_of_lt (Nat.lt_succ_self _)
 have g:=f.extBut _ _ (Ne.symm ne) q;have G:∀b o,s.heap.get? b=some o->J.get? b=some o:=fun b o e=>f.extBut _ _ (Nat.ne_of_lt (bq e)) (r _ _ e);show wpAny _ A.in1 (updateSeq h1.objs.size (fun _=>#[its[0],its[0]]) >>= _) _ _ _;refine aw (wpAny_updateSeq g rfl ?_);rw[a];refine bo ⟨plainId_quiet F.plain_min_loop _,Ml (h0:=s.heap) (its:=its) (rows:=rows) t u y j (bG _) (by rw[p];exact Nat.le_succ _) ne _ 0 _ its[0] _ rfl k (fun b o e=>(Heap.get?_update_other _ _ (fun z=>by subst z;exact absurd (bq e) (by rw[p];exact Nat.not_lt.mpr (Nat.le_succ _)))).trans (G _ _ e)) (c.at fun o e=>(Heap.get?_update_other _ _ (Ne.symm ne)).trans e) (by simp[argBest,k]) (Heap.get?_update_self _ g rfl) fun v h m H L=>B v h m H L⟩
end
end L2
namespace L2.L3
open PySem PySem.Spec PyProof.Rows
noncomputable def lG:List PyData->Option (List Int)
 | []=>some []
 | .int i::r=>(lG r).map (i::·)
 | _=>none
noncomputable def kj:List PyData->Option (List (List Int))
 | []=>some []
 | .tuple ds::r=>(match lG ds,kj r with | some x,some y=>some (x::y) | _,_=>none)
 | _=>none
theorem BT:∀{b:List PyData}{a:List Int},lG b=some a->b=a.map PyData.int
 | [],a,h=>by cases h;rfl
 | .int i::r,a,h=>by unfold lG at h;obtain⟨m,h1,h2⟩:=Option.map_eq_some_iff.mp h;subst h2;rw[BT h1];rfl
 | .none::_,_,h=>by cases h
 | .bool _::_,_,h=>by cases h
 | .str _::_,_,h=>by cases h
 | .list _::_,_,h=>by cases h
 | .tuple _::_,_,h=>by cases h
 | .dict _::_,_,h=>by cases h
theorem BU:∀{b:List PyData}{a:List (List Int)},kj b=some a->b=a.map fun r=>PyData.tuple (r.map PyData.int)
 | [],a,h=>by cases h;rfl
 | .tuple l::r,a,h=>by
  unfold kj at h;cases h1:lG l with
  | none=>rw[h1] at h;cases h
  | some x=>
   cases h2:kj r with
   | none=>rw[h1,h2] at h;cases h
   | some y=>rw[h1,h2] at h;cases h;rw[BU h2,BT h1];rfl
 | .none::_,_,h=>by cases h
 | .bool _::_,_,h=>by cases h
 | .str _::_,_,h=>by cases h
 | .list _::_,_,h=>by cases h
 | .int _::_,_,h=>by cases h
 | .dict _::_,_,h=>by cases h
theorem BV{H:Hp}:∀{b:List V}{a:List Int},aQ H b (a.map PyData.int)->b=a.map V.int
 | _,[],.nil=>rfl
 | _,n::a,.cons h t=>by rw[h.int_inv,BV t];rfl
theorem BW:∀{a:List Int}{b:List Value},bh (a.map V.int) b->IntsAre b a
 | [],_,.nil=>.nil
 | n::a,_,.cons r t=>by obtain⟨c,rfl⟩:=r;exact .cons n c (BW t)
noncomputable def fM:List (List Int)->List Int->List Int
 | [],b=>b
 | r::a,b=>fM a (if HT.lexLt r b=true then r else b)
theorem BX(rows:List (List Int)):∀(k j:Nat),j+1+k=rows.length->fM (rows.drop (j+1)) (rows.getD (argBest (gT rows) j) [])=rows.getD (argBest (gT rows) (rows.length - 1)) []
 | 0,j,h=>by have e:rows.drop (j+1)=[]:=List.drop_eq_nil_of_le (by omega);rw[e,fM,show rows.length - 1=j by omega]
 | k+1,j,h=>by
  have a:j+1<rows.length:=by omega
  rw[List.drop_eq_getElem_cons a,fM,<-BX rows k (j+1) (by omega)]
  congr 1
  have b:rows.getD (j+1) []=rows[j+1]:=by rw[List.getD_eq_getElem?_getD,List.getElem?_eq_getElem a];rfl
  simp only[argBest];unfold gT;rw[b];split
  ·exact b.symm
  ·rfl
theorem Mo{A:Around}(a:A.units+1<cLine):A.in1.units<cLine:=by
 have:A.in1.units<=A.units+1:=by first | exact bG _ | exact Nat.le_succ _
 exact Nat.lt_of_le_of_lt this a
section
variable{X:Cx}{F:Fx}{E:Str->al->Prop}{pos p p1 kp kpos:Pos}{x:Str}{i:Nat}
noncomputable def kl(i:Nat):XM PyData:=fun U=>match jG U i with
 | some (_,ds)=>(match kj ds with
  | some []=>.ok .none U
  | some (r::a)=>.ok (.tuple ((fM a r).map PyData.int)) U
  | none=>.bad)
 | none=>.bad
theorem Mp{N:Nat}(hu:X.A.units+1<cLine)(hc:X.calm=true)(hg:Gl X "min")(C:X.mg "min" = none)(R:PE X (.Name x p1) (ca i))
  (a0:starEach [.Name x p1] X.env=(false,eval (.Name x p1) X.env)::starEach [] X.env:=by rfl)
  (he:backTo pos (starEach [.Name x p1] X.env)=(false,eval (.Name x p1) X.env)::backTo pos (starEach [] X.env):=by rfl)
  (f:(backTo pos (starEach [.Name x p1] X.env)).any (·.1)=false:=by rfl)
  (D:(backToKw pos (keywordEach [⟨some "default",.Constant .none N kp,kpos⟩] X.env)).all (·.1.isSome)=true:=by rfl)
  (a1:(backToKw pos (keywordEach [⟨some "default",.Constant .none N kp,kpos⟩] X.env)).any (·.1.isNone)=false:=by rfl)
  (hn:(backToKw pos (keywordEach [⟨some "default",.Constant .none N kp,kpos⟩] X.env)).filterMap (·.1)=[("default":Str)]:=by rfl) :
  FE X F E (.Call (.Name "min" p) [.Name x p1] [⟨some "default",.Constant .none N kp,kpos⟩] pos) (kl i):=by
 refine⟨aH,fun h s Y H Q I ⟨U,O,st,q⟩=>?_⟩;unfold wp kl at q;cases ho:jG U i with
 | none=>rw[ho] at q;exact q.elim
 | some pr=>
  obtain⟨io,ds⟩:=pr;rw[ho] at q;simp only at q;cases hr:kj ds with
  | none=>rw[hr] at q;exact q.elim
  | some rows=>
   rw[hr] at q;obtain⟨a,fp,a2,⟨_,xs,hH,hd⟩,_,_⟩:=st.box (vS ho);refine wpAny_Call_Name_kw (jO I hg C PyProof.Rows.boot_min ?_ (by decide) (by decide));refine PyProof.Rows.callWith_kw ?_ he f D a1;refine aK ((dE R er a0) pos h s Y H (fun G S=>G=[.ref a]/\S=H) I ⟨_,a2,rfl,rfl⟩) fun us s1 ⟨G,S,I1,r1,t,y⟩=>?_;subst t y;obtain⟨u,rfl,ru⟩:=cV r1;cases ru;refine aK ((GD (nm:=some "default") (kpos:=kpos) yB GC) pos h s1 Y S (fun G m=>G=[.non]/\m=S) I1 ⟨rfl,rfl⟩) fun us s2 ⟨G,m,z,r2,t,y⟩=>?_;subst t y;obtain⟨u,rfl,ru⟩:=cV r2;cases ru;rw[hn];obtain⟨z1,g,n1,rv,g1⟩:=z.hok _ _ hH;have n:=BU hr;have L:s2.heap.IsList a g.toArray:=⟨_,g1,rfl,_,rfl⟩
   cases rows with
   | nil=>subst n;cases hd;cases rv;simp only at q;refine Mf (l:=a) (d:=.none) (z.ok.hd hc) L fun h' j=>?_;exact⟨.non,m,z.kept (t':=s2.toks) j,rfl,q _ m O st .refl .non⟩
   | cons r e=>
    simp only at q;have c:g.length=(r::e).length:=by rw[<-rv.length,hd.length,n,List.length_map]
    have item:∀(k:Nat) (v:Value),g[k]? = some v->∃(T:Addr) (o:List Int) (b:List Value) (B:V),v=.ref T/\IsTup s2.heap T b.toArray/\(r::e)[k]? = some o/\IntsAre b o/\bn B v/\DV (ay O m) B (.tuple (o.map PyData.int)):=fun k v j=>by
     have J:k<(r::e).length:=by rw[<-c];exact(List.getElem?_eq_some_iff.mp j).1
     have a3:ds[k]? = some (.tuple (((r::e)[k]).map PyData.int)):=by rw[n,List.getElem?_map,List.getElem?_eq_getElem J];rfl
     obtain⟨B,a4,M⟩:=hd.get a3;obtain⟨w,hw,a5⟩:=rv.get a4;rw[j] at hw;cases hw;obtain⟨T,ys,rfl,hT,hy⟩:=M.tup_inv;obtain⟨_,b,rj,pj⟩:=(jP hT).1.ok z.hok;rw[BV hy] at rj;cases a5;exact⟨T,_,b,.ref T,rfl,pj,List.getElem?_eq_getElem J,BW rj,rfl,M⟩
    refine Mm (l:=a) (its:=g.toArray) (rows:=r::e) (d:=.none) (z.ok.hd hc) (Mo hu) L ⟨c,fun k v j=>by
     obtain⟨T,o,b,B,t,y,Z,e4,_,_⟩:=item k v j;exact⟨T,b.toArray,o,t,y,Z,e4⟩⟩ (by simp only[List.size_toArray];rw[c];simp) fun v h' tk R j=>?_
    simp only[List.size_toArray,List.getElem?_toArray] at R;obtain⟨T,o,b,B,t,y,Z,e4,e5,e6⟩:=item _ v R;have C:=BX (r::e) e.length 0 (by simp;omega);have a6:(r::e).getD (argBest (gT (r::e)) 0) []=r:=by simp[argBest]
    rw[a6] at C;change fM e r=_ at C;rw[c] at Z;have:o=fM e r:=by rw[C,List.getD_eq_getElem?_getD,Z];rfl
    subst this;exact⟨B,m,z.kept (t':=tk) j,e5,q _ m O st .refl e6⟩
end
structure MD (K:Frag) (C:Addr) (m qual:Str) (st:Stmt) (ps:List Str) (g:Addr) (fd:FuncData):Prop where
 fn:kR K m qual st g fd
 mt:hU K C m g
 b:gM K fd ps []
theorem bB{N P:List Str}{a:Scope}(f:a.kind=.function:=by rfl)(g:a.isCoroutine=false:=by rfl)(h:a.isGenerator=false:=by rfl)(b:N.Nodup:=by decide +kernel)(c:N.take P.length=P:=by rfl)(d:∀x∈P,a.names.lookup x=some .local\/a.names.lookup x=some .cell:=by decide +kernel)(e:∀y∈a.names,y.2≠.free:=by decide +kernel):aa N P a:=⟨f,g,h,b,c,d,e⟩
section
variable{X:Cx}{F:Fx}{E:Str->al->Prop}{e:Expr}{es:List Expr}{pos p p1 apos:Pos}{x m q:Str}{C:Addr}{i k j:Nat}{g:Addr}{fd:FuncData}{ps:List Str}{f:FM}{st:Stmt}{mX:XM (List AX)}
theorem fv(i:Nat)(b:X.N[i]? = some x:=by rfl)(c:pU X.env.scope x:=by first | exact Or.inl rfl | exact Or.inr (Or.inl rfl) | exact Or.inr (Or.inr rfl))(hd:(x==("__debug__":Str))=false:=by decide)(a:(x==("__classdict__":Str))=false:=by decide):FE X F E (.Name x pos) (xV i):=KL (Ip i (pv i b c hd a))
theorem ej(i:Nat)(a:X.N.Nodup)(b:X.N[i]? = some x:=by rfl)(c:fQ X.env.scope x:=by first | exact Or.inl rfl | exact Or.inr rfl)(d:X.fn x=true\/X.env.scope.names.lookup x=some .local:=by first | exact .inl rfl | exact .inr rfl | assumption):FG X F (.Name x pos) (aI i):=KZ (Jj (ui a b c d))
theorem aS(d:dO X F E)(G:az X.prog X.w X.K X.mg X.base (ba X.prog X.w) k g fd ps (bc X.K X.mg f))(D:FD X.K X.mg x st ps g fd)(h:br j X.A)(l:FX X F E (e::es) mX)(n:k<=j:=by decide)(o:Gl X x:=by rfl)(a:(x==("__debug__":Str))=false:=by decide)
  (r:starEach (e::es) X.env=(false,eval e X.env)::starEach es X.env:=by rfl) (c:(backTo pos (starEach es X.env)).any (·.1)=false:=by rfl):FO X F E (.Call (.Name x p) (e::es) [] pos) (aG f mX):=vC (JO d G (h.mono n) o D.mgf D.fn.kp D.b l a r c)
theorem dS{t:Sem Bool}(h:dO X F E)(cl:da X.K C)(G:az X.prog X.w X.K X.mg X.base (ba X.prog X.w) k g fd ps (bc X.K X.mg f))(D:MD X.K C m q st ps g fd)(l:br j X.A)(n:PE X (.Name x p1) (ca i))(o:FX X F E (e::es) mX)(r:k<=j:=by decide)
  (a:starEach (e::es) X.env=(false,eval e X.env)::starEach es X.env:=by rfl) (c:(backTo pos (starEach es X.env)).any (·.1)=false:=by rfl)
  (s:eval (.Call (.Attribute (.Name x p1) m apos) (e::es) [] pos) X.env=(do
   let d <-eval (.Name x p1) X.env
   standAt apos.atName
   let(f,first) <-holding [d] (getMethod d m t)
   callWith pos f first (backTo pos (starEach (e::es) X.env)) (backToKw pos (keywordEach [] X.env))):=by rfl) :
  FO X F E (.Call (.Attribute (.Name x p1) m apos) (e::es) [] pos) (bu C i m f mX):=LU h cl D.mt G (l.mono r) D.b n o a c s
theorem gE{o:Sem Bool}(c:dO X F E)(cl:da X.K C)(G:az X.prog X.w X.K X.mg X.base (ba X.prog X.w) k g fd ps (bc X.K X.mg f))(D:MD X.K C m q st ps g fd)(d:br j X.A)(h:PE X (.Name x p1) (ca i))(l:k<=j:=by decide)
  (n:eval (.Call (.Attribute (.Name x p1) m apos) [] [] pos) X.env=(do
   let a <-eval (.Name x p1) X.env
   standAt apos.atName
   let(f,first) <-holding [a] (getMethod a m o)
   callWith pos f first (backTo pos (starEach [] X.env)) (backToKw pos (keywordEach [] X.env))):=by rfl) :
  FO X F E (.Call (.Attribute (.Name x p1) m apos) [] [] pos) (dq C i m f):=LV c cl D.mt G (d.mono l) D.b h n
end
noncomputable def lH(a:List Str):List PyData:=a.map PyData.str
section
variable{X:Cx}{F:Fx}{E:Str->al->Prop}{tg e:Expr}{x:Str}{pos p1:Pos}{g d:Addr}{ws:List Str}
@[simp] noncomputable def iC(a:List PyData):XM (List PyData):=fun U=>.ok a U
def BY(X:Cx)(d:Addr)(b:List (Str×Int)):Prop:=(d==sysModules)=false/\∃(a:List (Str×Value)) (c:Nat),
 (∀h:Heap,X.K.In h->h.DictAt (strKind X.prog X.w) d a c)/\a.map (·.1)=b.map (·.1)/\∀k n,b.lookup k=some n->∃t,valueAt a k=some (.int n t)
noncomputable def mI(ws:List Str):It:=⟨fun i _=>i<ws.length,fun i H x a=>a = H/\∃k,ws[i]? = some k/\x=.str k,fun i _=>ws.length<=i⟩
theorem Mq{kvs:List (Str×Value)}{ep:Nat}{P:Program}{w:World}{K:Frag}(it:Addr)(hD:∀h:Heap,K.In h->h.DictAt (strKind P w) d kvs ep) :
  gq P w K tg (mI (kvs.map (·.1))) [it] it (fun i h=>h.IsKeyIter it d i kvs.length ep) where
 mem:=by simp
 obj:=fun i h st b hb=>by
  have e:b=it:=by simpa using hb
  subst e;obtain⟨o,e,c,dd⟩:=st;exact⟨o,e,fun v z=>by rw[dd] at z;cases z⟩
 keep:=fun i h h' st k=>by obtain⟨o,e,c,dd⟩:=st;exact⟨o,k it (by simp) o e,c,dd⟩
 item:=by
  intro X hP hw hK hc i pins s Y H E I hf st hg;subst hP hw hK;have hi:i<kvs.length:=by simpa[mI] using hg
  obtain⟨⟨k,x⟩,hx⟩:∃p,kvs[i]? = some p:=⟨kvs[i],by simp[hi]⟩
  obtain⟨f0,f1,f2,f3,f4,f5⟩:=hf it (by simp);refine wpAny_pyNext_dict_item st (hD _ I.kIn) hx fun key h' hkey hit' sb=>?_;obtain⟨t,rfl⟩:=Value.isStrOf_shape hkey;have I1:Inv X pins Y H { s with heap:=h' }:=I.turned (t':=s.toks) (fun b o hb e=>(sb.2 b hb).trans e) f0 f1 f3 f4 f5;obtain⟨o,e,c,dd⟩:=id hit';exact⟨_,rfl,pY (s:={ s with heap:=h' }) e c dd (by decide) ⟨.str k,H,I1,⟨t,rfl⟩,⟨rfl,k,by simp[hx],rfl⟩,hit',fun b hb=>(hf b hb).1⟩⟩
 done:=by
  intro X hP hw hK hc i pins s Y H E I hf st hg;subst hP hw hK;have hi:kvs.length<=i:=by simpa[mI] using hg
  obtain⟨f0,f1,f2,f3,f4,f5⟩:=hf it (by simp);exact wpAny_pyNext_dict_end (I.ok.hd hc) st (hD _ I.kIn) (by simp;omega) fun h' eb=>⟨rfl,I.turned (t':=s.toks) (fun b o hb e=>eb b o hb e) f0 f1 f3 f4 f5⟩
 self:=fun _ _ _ _ _ st h=>wpAny_pyIter_keyiter st h
theorem Mr{O:List Addr}{H:Hp}:Wk O H (mI ws) (lH ws):=fun l m s ok=>by refine⟨fun i d e=>?_,by simp[mI,lH]⟩;unfold lH at e;rw[List.getElem?_map] at e;obtain⟨y,a,rfl⟩:=Option.map_eq_some_iff.mp e;refine⟨(List.getElem?_eq_some_iff.mp a).1,fun x c ⟨f,k,b,j⟩=>?_⟩;subst f j;rw[a] at b;cases b;exact⟨fun _ _ h=>h,.str _⟩
theorem Ms{a:List (Str×Value)}{k:Nat}(l:(d==sysModules)=false)(m:Gl X x)(n:X.mg x=some (.ref d))(j:∀h:Heap,X.K.In h->h.DictAt (strKind X.prog X.w) d a k)(hd:(x==("__debug__":Str))=false:=by decide) :
  PI X tg (.Name x pos) (fun _ H R=>R (mI (a.map (·.1))) H):=by
 intro c s Y H R I h;refine aK (pV (v:=.ref d) m n rfl hd c s Y H (fun v i=>v=.ref d/\i=H) I ⟨rfl,rfl⟩) fun v f ⟨y,i,I1,p,q,r⟩=>?_;subst q r;cases p;refine wpAny_pyIter_dict l (j _ I1.kIn) ?_;refine⟨f.heap.objs.size,[f.heap.objs.size],_,_,i,rfl,I1.kept (t':=f.toks) fun b o e=>bv _ e,Mq _ j,⟨_,Heap.get?_push_size _ rfl,rfl,rfl⟩,fun b t=>?_,h⟩;have e:b=f.heap.objs.size:=by simpa using t
 subst e;exact I1.fpOk (bG _) (I1.hok.fresh (bG _))
theorem Mt{kd:List (Str×Int)}(a:Gl X x)(b:X.mg x=some (.ref d))(c:BY X d kd)(hd:(x==("__debug__":Str))=false:=by decide):FI X F E tg (.Name x pos) (iC (lH (kd.map (·.1)))):=by obtain⟨f,h,i,h1,h2,_⟩:=c;refine⟨aH,(Ms f a b h1 hd).imp fun Y H R ⟨U,O,st,q⟩=>?_⟩;rw[h2];exact q _ H O st (.refl ..) Mr
noncomputable def we(a:List (Str×Int)):PyData->Option PyData
 | .str k=>(a.lookup k).map PyData.int
 | _=>none
@[simp] noncomputable def BZ(a:List (Str×Int))(m:XM PyData):XM PyData:=fun U=>(m U).bind fun d=>lift (we a d)
theorem Mu{kd:List (Str×Int)}{m:XM PyData}(p:Gl X x)(A:X.mg x=some (.ref d))(B:BY X d kd)(C:FE X F E e m)(D:zH e:=by intro _ _;rfl)(hd:(x==("__debug__":Str))=false:=by decide):FE X F E (.Subscript (.Name x p1) e pos) (BZ kd m):=by
 obtain⟨G,J,ep,h1,h2,h3⟩:=B;refine⟨aH,fun a s Y H Q I ⟨U,O,st,q⟩=>?_⟩;refine HF PySem.F.slot_dict_getitem.lookup D (aK (pV (v:=.ref d) p A rfl hd a s Y H (fun v f=>v=.ref d/\f=H) I ⟨rfl,rfl⟩) fun u L ⟨y,f,I1,M,h,N⟩=>?_);subst h N;cases M;refine aK (C.pe a L Y f (fun v b=>∃k n,v=.str k/\kd.lookup k=some n/\Q (.int n) b) I1 ⟨U,O,st,aH _ _ _ (fun j U1 h w b R i l S=>?_) (bQ q)⟩) fun T l ⟨z,b,o,Z,k,n,ez,el,qz⟩=>?_
 ·obtain⟨r,c,q3⟩:=dj h;unfold we at c;split at c
  ·rename_i k;obtain⟨n,e2,e3⟩:=Option.map_eq_some_iff.mp c;subst e3;cases S;exact⟨k,n,rfl,e2,q3 _ b R i l (.int _)⟩
  ·cases c
 ·subst ez;obtain⟨t,rfl⟩:=(show ∃t,T=Value.str k t from Z)
  have j:=h1 _ o.kIn;obtain⟨t',hv⟩:=h3 k n el;refine⟨j.dictOf.typeIs,wpAny_getItem_of (knd:=strKind X.prog X.w) (k:=k) ?_ j.dictOf.mapOf hv ⟨.int n,b,o.tok _,⟨t',rfl⟩,qz⟩⟩;show Value.isStrOf k (.str k t)=true;simp[Value.isStrOf]
end
end L2.L3
namespace L2.L3
open PySem
theorem Mw{c:Str->Option Value}(e:c "ANY_ZONE" = none)(f:c "NO_DEEDS" = none)(H:Hp):GH c H:=fun x d u a b=>by
 unfold glob at a;split at a
 ·rename_i h;subst h;rw[e] at b;cases b
 ·split at a
  ·rename_i h;subst h;rw[f] at b;cases b
  ·cases a
end L2.L3
namespace L2.L3
open PySem PySem.Spec PyProof.Rows
def Ca(P:Program)(w:World)(K:Frag)(d:Addr)(b:List (Str×Int)):Prop:=(d==sysModules)=false/\∃(a:List (Str×Value)) (c:Nat),
 (∀h:Heap,K.In h->h.DictAt (strKind P w) d a c)/\a.map (·.1)=b.map (·.1)/\∀k n,b.lookup k=some n->∃t,valueAt a k=some (.int n t)
structure rc where
 k:Str
 n:Int
 t:Tok
 u:Tok
noncomputable def wg(w:World)(e:rc):DictEntry:=⟨hashStr w e.k,.str e.k e.t,.int e.n e.u⟩
theorem Cb{P:Program}{w:World}:∀L:List rc,Pairs (strKind P w) (L.map (wg w)) (L.map fun e=>(e.k,Value.int e.n e.u))
 | []=>.nil
 | e::L=>.cons (by show Value.isStrOf e.k (.str e.k e.t)=true;simp[Value.isStrOf]) rfl (Cb L)
theorem Cc:∀(L:List rc) (k:Str) (n:Int),(L.map fun e=>(e.k,e.n)).lookup k=some n->∃t,valueAt (L.map fun e=>(e.k,Value.int e.n e.u)) k=some (.int n t)
 | [],k,n,e=>by cases e
 | e::L,k,n,h=>by
  rw[List.map_cons,List.lookup_cons] at h
  by_cases q:k=e.k
  ·subst q;simp at h;subst h;exact⟨e.u,by simp[valueAt]⟩
  ·have:(k==e.k)=false:=by simpa using q
   rw[this] at h;obtain⟨t,a⟩:=Cc L k n h;refine⟨t,?_⟩;rw[<-a];unfold valueAt;rw[List.map_cons,List.find?_cons_of_neg (by simpa using fun z:e.k=k=>q z.symm)]
theorem Mx{P:Program}{w:World}{K:Frag}{d:Addr}{a:Nat}(L:List rc)(b:K.lookup d=some ⟨.type "dict",none,.dict (L.map (wg w)).toArray a,#[]⟩)(g:(L.map (·.k)).Nodup)(c:(d==sysModules)=false):Ca P w K d (L.map fun e=>(e.k,e.n)):=by
 refine⟨c,L.map fun e=>(e.k,Value.int e.n e.u),a,fun h X=>⟨_,_,X _ _ b,⟨rfl,rfl,rfl⟩,rfl,?_,by simpa using Cb L,by simpa[Function.comp_def] using g⟩,by simp[Function.comp_def],Cc L⟩;intro e f;obtain⟨x,_,rfl⟩:∃x∈L,wg w x=e:=by simpa using f
 exact⟨x.k,by show Value.isStrOf x.k (.str x.k x.t)=true;simp[Value.isStrOf],rfl⟩
end L2.L3
namespace L2
open PySem PySem.Spec PyProof.Rows
section
variable{X:Cx}
theorem My(B:X.calm=true):gL X (.builtin "any") (fun k H Q=>∃(l:Addr) (bs:List Bool),k=[.ref l]/\H l=some (.lst (bs.map V.bl))/\Q (.bl (bs.any id)) H):=by
 intro m s Y H k O Q I r h;obtain⟨l,bs,rfl,C,q⟩:=h;obtain⟨u,rfl,ru⟩:=cV r;cases ru;obtain⟨z,a,n,p,e⟩:=I.hok _ _ C;have L:s.heap.IsList l a.toArray:=⟨_,e,rfl,_,rfl⟩
 have c:l<s.heap.objs.size:=bq e;have len:=p.length;rw[List.length_map] at len;refine call_any_walk (wpAny_pyIter_list L ?_);refine⟨s.heap.objs.size,_,_,_,_,_,fun i=>bs.getD i false,rfl,Walks.list (A:=X.A.in1) (show X.A.in1.handled=none from I.ok.hd B) s.heap.objs.size l (Nat.ne_of_lt c) a.toArray,⟨⟨_,Heap.get?_push_size _ rfl,rfl,rfl⟩,L.push _⟩,?_,fun R S D=>?_⟩
 ·intro i v E G T J g;have d:a[i]? = some v:=by simpa using J
  have c:i<bs.length:=by rw[len];exact(List.getElem?_eq_some_iff.mp d).1
  obtain⟨w,t,j⟩:=p.get (i:=i) (x:=.bl bs[i]) (by rw[List.getElem?_map,List.getElem?_eq_getElem c];rfl);rw[d] at t;cases t;cases j;refine wpAny_truthy_bool ?_;have:bs.getD i false=bs[i]:=by simp[List.getD,c]
  have g:G (bs.getD i false) E:=g;rw[this] at g;exact g
 ·have M:(List.range a.toArray.size).any (fun i=>bs.getD i false)=bs.any id:=by
   rw[List.size_toArray,<-len];rw[Bool.eq_iff_iff,List.any_eq_true,List.any_eq_true];constructor
   ·rintro⟨i,d,h⟩;have f:=List.mem_range.mp d;exact⟨bs[i],List.getElem_mem f,by simpa[List.getD,f] using h⟩
   ·rintro⟨b,hb,h⟩;obtain⟨i,d,rfl⟩:=List.getElem_of_mem hb;exact⟨i,List.mem_range.mpr d,by simpa[List.getD,d] using h⟩
  rw[M];exact⟨.bl (bs.any id),H,I.kept fun b o y=>D b o (fun N=>absurd (bq y) (by rw[List.mem_singleton.mp N];exact Nat.lt_irrefl _)) (bv _ y),rfl,q⟩
end
end L2
namespace L2.L3
open PySem PySem.Spec PyProof.Rows
noncomputable def Cd:DN:=fun a Q=>∃bs:List Bool,a=[.list (bs.map .bool)]/\Q (.bool (bs.any id))
theorem Mz:jw (fun xs H Q=>∃(l:Addr) (bs:List Bool),xs=[.ref l]/\H l=some (.lst (bs.map V.bl))/\Q (.bl (bs.any id)) H) Cd where
 mn:=fun _ _ _ k ⟨bs,e,q⟩=>⟨bs,e,k _ q⟩
 ok:=fun O H vs xs Q hO hd ⟨bs,e,q⟩=>by subst e;obtain⟨x,rfl,h1⟩:=jy hd;obtain⟨a,ys,rfl,ha,hy⟩:=h1.lst_inv;exact⟨a,bs,rfl,by rw[(cP ha).1,vg hy],q _ H (fun _ _ h=>h) (.bl _)⟩
noncomputable def lI:List PyData->Option PyData:=fun a=>match a with
 | [.list ds]=>(bools? ds).map fun bs=>.bool (bs.any id)
 | _=>none
theorem MA:FN Cd lI:=fun c d Q e q=>by
 unfold lI at e;split at e
 ·obtain⟨bs,a,b⟩:=Option.map_eq_some_iff.mp e;rw[vu a];subst b;exact⟨bs,rfl,q⟩
 ·cases e
theorem Ce{α:Type}{a:List α}:∀{n k:Nat},k<n->((List.replicate n ([]:List α)).set k a).flatten=a
 | 0,_,h=>by omega
 | n+1,0,_=>by rw[List.replicate_succ,List.set_cons_zero,List.flatten_cons,mr,List.append_nil]
 | n+1,k+1,h=>by rw[List.replicate_succ,List.set_cons_succ,List.flatten_cons,Ce (by omega)];rfl
noncomputable def km(own:List Str)(a:List Nat)(k:Nat)(b:Bx)(U:al):al:=(cw own a U).set (own.length+k) (some (.own true b))
section
variable{X:Cx}{F:Fx}{E:Str->al->Prop}{e:Expr}{pos p1 px py pt:Pos}{x y:Str}{i j:Nat}{C:Addr}
noncomputable def oE(C:Addr)(i:Nat)(d:PyData):XM ak:=fun U=>match bR C U i with
 | some (false,fs)=>.ok (.own false (.pr C fs d)) (U.set i none)
 | _=>.bad
noncomputable def oF(C:Addr)(i:Nat)(m:XM PyData):XM ak:=fun U=>match bR C U i with
 | some (false,_)=>(m U).bind (oE C i)
 | _=>.bad
theorem MB{m:XM PyData}{k}(L:PE X (.Name x p1) (ca i))(M:FE X F E e m)(h1:starEach [.Name x p1,e] X.env=(false,eval (.Name x p1) X.env)::starEach [e] X.env:=by rfl)(h2:starEach [e] X.env=(false,eval e X.env)::starEach [] X.env:=by rfl) :
  FO X F E (.Tuple [.Name x p1,e] k pos) (oF C i m):=
 ⟨aH,(uy (dE L (dE M.pe er h2) h1)).imp fun Y H Q ⟨U,O,st,q⟩=>by
  unfold wp oF at q;cases n:bR C U i with
  | none=>rw[n] at q;exact q.elim
  | some s=>
   obtain⟨t,N⟩:=s;cases t with
   | true=>rw[n] at q;exact q.elim
   | false=>
    rw[n] at q;obtain⟨a,R,z,_,_,_⟩:=st.box (iW n);refine⟨.ref a,z,U,O,st,aH _ _ _ (fun d S f r g O1 u T Z=>⟨by show 2<=sizeLine;decide,fun p h=>?_⟩) (bQ (E:=E) (m:=m) (k:=oE C i) (U:=U) q)⟩;unfold wp oE at f;cases h3:bR C S i with
    | none=>rw[h3] at f;exact f.elim
    | some pr=>
     obtain⟨io,fs⟩:=pr;cases io with
     | true=>rw[h3] at f;exact f.elim
     | false=>
      rw[h3] at f;obtain⟨l,fp,v,A,B,t3,D,t5,t6,t7⟩:=u.take (iW h3);obtain rfl:l=a:=by rw[z] at A;cases A;rfl
      obtain⟨dx,gs,w,e1,e2,e3,G⟩:=t3;have ne:∀b o,g b=some o->aM g p (.tup [.ref l,r]) b=some o:=fun b o e=>bP h b o e;have I:bV (ay v g) (ay v (aM g p (.tup [.ref l,r]))):=jQ (bP h);refine f (.ref p) (aM g p (.tup [.ref l,r])) v fp ⟨B.grow (bP h),⟨p,rfl,l,r,dx,gs,w,ib cj (B.nofree p h),e1,ne _ _ e2,ne _ _ e3,G.keep (fun c hc=>?_) I,DV.mono I (DV.mono D.hid Z)⟩,t6⟩ (T.trans (D.trans (.same (bP h))));obtain⟨o,J,_⟩:=G.live c hc;rw[J];exact ne _ _ J⟩
noncomputable def rf(i j:Nat)(c:ak):SM:=fun U=>match c with
 | .own false (.pr C fs d)=>if i<U.length then .nx ((U.set i (some (.own false (.o C fs)))).set j (some (.dat d))) else .bad
 | _=>.bad
noncomputable def wh(i j:Nat)(m:XM ak):SM:=fun U=>eA (m U) (rf i j)
theorem MC{m:XM ak}{k}(Q:X.calm=true)(J:FO X F E e m)(L:X.N.Nodup)(R:X.N[i]? = some x)(S:X.N[j]? = some y)(T:fQ X.env.scope x)(Z:fQ X.env.scope y)
  (p:X.fn x=true\/X.env.scope.names.lookup x=some .local:=by first | exact .inl rfl | exact .inr rfl | assumption) (s:X.fn y=true\/X.env.scope.names.lookup y=some .local:=by first | exact .inl rfl | exact .inr rfl | assumption)
  (t:(assignEach [.Name x px,.Name y py] X.env).map (·.2)=assign (.Name x px) X.env::(assignEach [.Name y py] X.env).map (·.2):=by rfl) (u:(assignEach [.Name y py] X.env).map (·.2)=assign (.Name y py) X.env::(assignEach [] X.env).map (·.2):=by rfl)
  (hn:(assignEach [.Name x px,.Name y py] X.env).length=2:=by rfl) (w:(assignEach [.Name x px,.Name y py] X.env).findIdx? (·.1)=none:=by rfl)
  (hs:swapsWithSole [.Tuple [.Name x px,.Name y py] k pt] e pos.line X.env=pure false:=by rfl) (hw:swappedStores [.Tuple [.Name x px,.Name y py] k pt] e X.env=pure none:=by rfl)
  (h1:(assignEach [.Tuple [.Name x px,.Name y py] k pt] X.env).map (·.2)=[assign (.Tuple [.Name x px,.Name y py] k pt) X.env]:=by rfl) :
  FS X F E (.Assign [.Tuple [.Name x px,.Name y py] k pt] e pos) (wh i j m):=
 (yH J.pe (yG Q (uj (ui L R T p) (uj (ui L S Z s) yF u) t) hn w) hs hw h1).imp fun D Y H ⟨U,O,DD,st,q,f⟩=>⟨U,O,st,J.mn _ _ _ (fun c A g v H1 O1 fp r s1=>by
  have q1:∃C fs d,c=.own false (.pr C fs d)/\i<A.length/\DD.nx ((A.set i (some (.own false (.o C fs)))).set j (some (.dat d))):=by
   unfold bT rf at g;cases c with
   | dat _=>exact g.elim
   | scr _=>exact g.elim
   | exc _=>exact g.elim
   | vw _=>exact g.elim
   | own io b=>
    cases io with
    | true=>exact g.elim
    | false=>
     cases b with
     | l _=>exact g.elim
     | m _ _=>exact g.elim
     | o _ _=>exact g.elim
     | sd _=>exact g.elim
     | ll _=>exact g.elim
     | pr C fs d=>
      simp only at g
      by_cases h:i<A.length
      ·rw[if_pos h] at g;exact⟨C,fs,d,rfl,h,g⟩
      ·rw[if_neg h] at g;exact g.elim
  obtain⟨C,fs,d,rfl,h,g⟩:=q1;obtain⟨a,rfl,n,B,dx,gs,G,e0,rfl,e1,e2,e4,dv⟩:=r.at_;obtain⟨O2,I,M⟩:=aC.put1 (io:=true) (c:=.own false (.o C fs)) (v:=.ref n) r.st ⟨n,rfl,dx,gs,G,rfl,e1,e2,e4⟩ r.new h (fun b z=>by cases z);refine⟨a,[.ref n,B],rfl,.inl (.inl (cP e0).1),rfl,.ref n,[B],rfl,B,[],rfl,rfl,?_⟩;exact f.nx _ H1 _ O2 (I.set (DV.mono M.hid dv)) (s1.trans M) g
  ) (gb (k:=rf i j) q)⟩
end
def DF(K:Frag)(x:Str)(st:Stmt):Prop:=∃(f:Addr) (b:Value) (c d:Option Addr) (g:Array (Option Value)) (kV e pm a h:Value),nsIn K mainGlobals x=some (some (.ref f))/\
 K.lookup f=some ⟨b,c,.func (fnOf x x (ju st) (ia st) (be st) .none kV e pm d a h),g⟩/\codeIn K a x=true/\keepIn K (.ref f)=true
def MF(K:Frag)(C:Addr)(m q:Str)(st:Stmt):Prop:=∃(f:Addr) (b:Value) (c d:Option Addr) (g:Array (Option Value)) (kV e pm a h:Value),findIn K (.ref C) m=some (some (.ref f))/\PySem.W.isFn K (.ref f)=true/\
 K.lookup f=some ⟨b,c,.func (fnOf m q (ju st) (ia st) (be st) .none kV e pm d a h),g⟩/\codeIn K a q=true/\keepIn K (.ref f)=true
theorem dD{P:List Value->Prop}(h:∀a,P [a]):∀b:List Value,b.length=1->P b
 | [a],_=>h a
theorem gc{P:List Value->Prop}(h:∀a b,P [a,b]):∀c:List Value,c.length=2->P c
 | [a,b],_=>h a b
theorem fo{P:List Value->Prop}(h:∀a b c,P [a,b,c]):∀d:List Value,d.length=3->P d
 | [a,b,c],_=>h a b c
theorem rg{P:List Value->Prop}(h:∀a b c d,P [a,b,c,d]):∀e:List Value,e.length=4->P e
 | [a,b,c,d],_=>h a b c d
section
variable{K:Frag}{h:Heap}{mg:Str->Option Value}{x m q:Str}{st:Stmt}{C:Addr}{ps:List Str}
abbrev Bd(x q:Str)(st:Stmt)(ps:List Str):Prop:=∀(kV a pm:Value) (d:Option Addr) (b e:Value) (c:List Value),c.length=ps.length->bindArgs (fnOf x q (ju st) (ia st) (be st) .none kV a pm d b e) ⟨c,[]⟩=pure (ps.zip c)
theorem DF.fd(D:DF K x st)(X:K.In h)(G:h.Ns mainGlobals mg)(b:Bd x x st ps):∃g fd,FD K mg x st ps g fd:=by obtain⟨f,_,_,_,_,_,_,_,_,_,a,l,c,k⟩:=D;exact⟨f,_,nL l c k,mg_of X G a,(nL l c k).binds b⟩
theorem MF.md(D:MF K C m q st)(b:Bd m q st ps):∃g fd,MD K C m q st ps g fd:=by obtain⟨f,_,_,_,_,_,_,_,_,_,a,i,l,c,k⟩:=D;exact⟨f,_,nL l c k,⟨a,i,k⟩,(nL l c k).binds b⟩
end
end L2.L3
namespace L2
open PySem PySem.Spec PyProof.Rows
section
variable{prog:Program}{w:World}{A:Around}{R:Result->Shared->Prop}{s:Shared}
theorem ME{d target iter:Expr}{b:Scope}{pos:Pos}{it f:Value}{a:Env}(I:Nat->Shared->Prop)
  (turn:∀n s,I n s->wpAny (model prog w) A (pyNext it) (fun r i=>match r with
   | none=>R (.ok .next) i
   | some v=>wpAny (model prog w) A (letOwnedTupleGo target it v) (fun _ g=>wpAny (model prog w) A (assign target a v) (fun _ k=>
     wpAny (model prog w) A (eval d a) (fun x l=>
       wpAny (model prog w) A (call (.builtin "list.append") [f,x]) (fun _ o=>∃m,m<n/\I m o) (notedBy (model prog w) A a fun e c=>R (.error e) c) l) (notedBy (model prog w) A a fun e c=>R (.error e) c) k)
      (notedBy (model prog w) A a fun e c=>R (.error e) c) g) (notedBy (model prog w) A a fun e c=>R (.error e) c) i) (notedBy (model prog w) A a fun e c=>R (.error e) c) s)
  (n:Nat) (h:I n s) :
  codeAny (model prog w) A (.compLoop (.ListComp d [⟨target,iter,[],0⟩] b pos) 0 it f a) R s:=by
 refine codeAny_loop rfl I (fun n s q=>?_) n h;show wpAny _ A ((compTurn (.ListComp d [⟨target,iter,[],0⟩] b pos) 0 it f a).onRaise (fun x=>do noteFrame x a;theTreesLotGoes x)) _ _ s;refine wpAny_noted ?_;rw[compTurn_list1];refine aw (wpAny_standAt (aw (aK (turn n s q) (fun r i p=>?_))));cases r with
 | none=>exact bo p
 | some v=>exact aw (aK p fun _ g j=>aw (aK j fun _ k t=>aw (aw (aK t fun x l u=>aw (aK u fun _ o y=>bo (bo ⟨rfl,y⟩))))))
end
theorem MG{e:Value}{env env':Env}(h:env.frame=env'.frame):noteFrame e env=noteFrame e env':=by unfold noteFrame PySem.frameOf;rw[h]
noncomputable abbrev ek(X:Cx)(a:Scope)(b:List Str)(C:Addr)(c:List Addr)(d:Shared)(e:Hp)(f:List (Addr×Obj))(g:Value->Shared->Prop):Cx:=(cg X a b C c d e f).wish g
noncomputable def wj(own:List Str)(b:List Nat)(j:TI)(g:TG)(k:(Str->St->Hp->Prop)->TE)(Z:Str->St->Hp->Prop):TE:=fun Y H Q=>j Y H fun J l=>∃W:Nat->Nat->List V->St->Hp->Prop,(∃m,W 0 m [] (dF own b Y) l)/\∀i m a e H,W i m a e H->
 (J.stop i H/\a.length<=sizeLine/\∀p,H p=none->Q (.ref p) (aM H p (.lst a)))\/
 (J.go i H/\∀x d,J.yld i H x d->g x e d fun f n=>k (fun c _ d=>Z c Y d) f n fun y o=>a.length<sizeLine/\∃h,h<m/\W (i+1) h (a++[y]) f o)
section
variable{X:Cx}{scope:Scope}{own capN:List Str}{caps:List Nat}{tg iter elt:Expr}{wi:TI}{g:TG}{te:(Str->St->Hp->Prop)->TE}{Z:Str->St->Hp->Prop}{pos:Pos}
theorem MH{j:List (Addr×Obj)}{Y:St}{H:Hp}{s:Shared}{Q:VK}{RR:Value->Addr->Result->Shared->Prop}(S:aq X scope own capN caps)(hc:X.calm=true)(b2:X.stack=X.env::X.outer)(c0:X.env.frame=some X.env.locals)(hi:PI X tg iter wi)
  (c2:∀C t s₂ H₂ pl M Z,(∀j Y H s e c,L3.Fly (ek X scope (own++capN) C t s₂ H₂ pl M) j Y H s e c->Z c Y H->M e s)->PG (ek X scope (own++capN) C t s₂ H₂ pl M) tg g/\PE (ek X scope (own++capN) C t s₂ H₂ pl M) elt (te Z))
  (I:Inv X j Y H s) (h:wj own caps wi g te Z Y H Q)
  (c3:∀(D C:Addr) (L:Shared) (B:Hp) (m:Str->Option Value),Inv X j Y B L->fA X j B C->L.heap.Ns C m->Q (.ref D) B->RR (.ref D) C (.ok .next) L)
  (c4:∀(D C:Addr) (L:Shared) (B:Hp) (m:Str->Option Value) (a:Addr) (Cv f:Value) (gg:Heap) (c:Str),Inv X j Y B L->fA X j B C->L.heap.Ns C m->L3.Cov X j gg->gg.get? C=none->L3.ExS gg B L.heap a Cv (some f)->X.mg c=some Cv->Z c Y B->RR (.ref D) C (.error (.ref a)) L) :
  wpAny (model X.prog X.w) X.A (eval iter X.env) (fun x s₁=>wpAny (model X.prog X.w) X.A (pyIter x) (fun it s₂=>wpAny (model X.prog X.w) X.A (newList []) (fun b6 s₃=>
   wpAny (model X.prog X.w) X.A (newFunctionEnv scope X.env.globals (cD X.env scope.names []) [] X.env.qual none .none (some X.env)) (fun b0 s₄=>
    codeAny (model X.prog X.w) X.A (.compStart (.ListComp elt [⟨tg,iter,[],0⟩] scope pos) 0 it b6 { b0 with scope:=relabel scope X.env }) (RR b6 b0.locals) s₄) X.xe s₃) X.xe s₂) X.xe s₁) X.xe s:=by
 refine aK (hi j s Y H _ I h) fun v s1 h1=>aK h1 fun d3 E h2=>?_;obtain⟨it,t,tn,J,H2,e,N,T,b3,f2,W,⟨m0,w0⟩,turn⟩:=h2;subst e;have a1:∀b∈t,b<E.heap.objs.size:=fun b l=>by obtain⟨o,e,_⟩:=T.obj _ _ b3 b l;exact bq e
 refine wpAny_newObj_type (zK ?_);dsimp only;generalize a6:E.heap.push { cls:=.type "list",dict:=none,data:=.seq ([]:List Value).toArray }=U;have hC:U.objs.size=E.heap.objs.size+1:=by rw[<-a6,Heap.size_push]
 have O:E.heap.objs.size<=U.objs.size:=by rw[hC];exact Nat.le_succ _
 have a7:E.heap.objs.size≠U.objs.size:=by rw[hC];exact Nat.ne_of_lt (Nat.lt_succ_self _)
 have b7:(U.push { cls:=.type "dict",data:=.dict #[] }).objs.size=U.objs.size+1:=Heap.size_push ..;have R:∀x c,(cellsFrom (U.objs.size+1) scope.names (cD X.env scope.names [])).lookup x=some c->(cD X.env scope.names []).lookup x=some c\/(U.objs.size+1<=c/\(pushCells (U.push { cls:=.type "dict",data:=.dict #[] }) scope.names).IsCell c none):=fun x c e=>by rw[<-b7] at e ⊢;exact(qj scope.names _ _ e).imp (fun z=>z) fun⟨z1,_,z2⟩=>⟨z1,z2⟩
 have a2:(pushCells (U.push { cls:=.type "dict",data:=.dict #[] }) scope.names).Ns U.objs.size (fun _=>none):=(Heap.Ns.new U (.type "dict")).keeps (pushCells_keeps _ _);have old:∀b o,E.heap.get? b=some o->(pushCells (U.push { cls:=.type "dict",data:=.dict #[] }) scope.names).get? b=some o:=fun b o e=>pushCells_keeps _ _ b o (bv _ (a6▸bv _ e));have a3:(pushCells (U.push { cls:=.type "dict",data:=.dict #[] }) scope.names).get? E.heap.objs.size=some { cls:=.type "list",dict:=none,data:=.seq ([]:List Value).toArray }:=pushCells_keeps _ _ _ _ (bv _ (a6▸Heap.get?_push_size _ rfl));generalize pushCells (U.push { cls:=.type "dict",data:=.dict #[] }) scope.names=h₁ at R a2 old a3 ⊢;generalize c5:U.objs.size=C at a2 a7 O R ⊢;generalize G:E.heap.objs.size=D at a3 a7 ⊢;clear a6 hC c5 b7 U;have sC:E.heap.objs.size<=C:=by rw[G];rw[G] at O;exact O
 let M:Value->Shared->Prop:=notedBy (model X.prog X.w) X.A (compEnvC scope (cellsFrom (C+1) scope.names (cD X.env scope.names [])) C X.env) fun e L=>RR (.ref D) C (.error e) L;have cov:L3.Cov X j (hideAll E.heap t):=by
  have cv:=N.cov;refine⟨fun b o e n=>?_,?_,fun x c e=>?_,fun p hp=>?_⟩
  ·obtain⟨o',e'⟩:=cv.s0 b o e n;refine⟨o',hideAll_get _ e' fun z=>?_⟩;rcases(f2 b z).2.2.2.1 with q | q
   ·exact n q
   ·exact absurd (bq e) (Nat.not_lt.mpr q)
  ·obtain⟨o',e'⟩:=cv.loc;exact⟨o',hideAll_get _ e' fun z=>(f2 _ z).2.1 rfl⟩
  ·obtain⟨o',e'⟩:=cv.cell x c e;exact⟨o',hideAll_get _ e' fun z=>(f2 _ z).2.2.2.2.1 x c e rfl⟩
  ·obtain⟨o',e'⟩:=cv.pin p hp;exact⟨o',hideAll_get _ e' fun z=>(f2 _ z).2.2.2.2.2 p hp rfl⟩
 have gC:(hideAll E.heap t).get? C=none:=by
  cases q:(hideAll E.heap t).get? C with
  | none=>rfl
  | some o=>exact absurd (bq (PySem.W.of_hideAll _ q)) (Nat.not_lt.mpr sC)
 have c6:∀a4 Y' B L e c,L3.Fly (ek X scope (own++capN) C t E H2 j M) a4 Y' B L e c->Z c Y B->M e L:=by
  rintro a4 Y' B L e c ⟨I',a,Cv,g',fl,rfl,cv,ex,hm⟩ z;show wpAny _ X.A (noteFrame (.ref a) (compEnvC scope _ C X.env)) _ _ L;rw[MG (env:=compEnvC scope _ C X.env) (env':=X.env) rfl];have fr:X.A.frames=some (X.env::X.outer):=by rw[N.ok.frames,b2]
  have I3:=N.call' (ch:=t) I'.os I'.base I'.hok I'.bare fun b l=>⟨(f2 b l).2.2.2.1,(f2 b l).2.1,(f2 b l).2.2.2.2.1,(f2 b l).2.2.2.2.2⟩
  have stk:L.heap.FunFrames X.base (X.env::X.outer):=by have:=I3.stack;rw[b2] at this;exact this
  refine L3.note_any (base:=X.base) fr stk c0 (fun b z=>L3.HOk.some_of I'.hok z) ex fun h1 c1 x1=>?_;have I1:=I'.ch cv (h':=h1) (by show L3.Ch g' B (bI X.stack) _ _;rw[b2];exact c1);obtain⟨m,c7,_⟩:=I1.loc;refine c4 D C _ B m a Cv _ _ c (N.call' (ch:=t) I1.os I1.base I1.hok I1.bare fun b l=>⟨(f2 b l).2.2.2.1,(f2 b l).2.1,(f2 b l).2.2.2.2.1,(f2 b l).2.2.2.2.2⟩) (N.fpOk sC I1.free) c7 cov gC (x1.weak fun b o e=>cv.s0 b o (PySem.W.of_hideAll _ e) fun z=>?_) hm z;rw[PySem.W.hideAll_none _ z] at e;cases e
 obtain⟨hg,he⟩:=c2 C t E H2 j M (fun c _ B=>Z c Y B) c6;have Ic:Inv (ek X scope (own++capN) C t E H2 j M) [] (dF own caps Y) H2 { E with heap:=h₁,toks:=E.toks }:=(zL S N f2 a1 sC old a2 R).wish M;have a8:∀x c,(cellsFrom (C+1) scope.names (cD X.env scope.names [])).lookup x=some c->c≠D:=fun x c e z=>by
  rcases R x c e with e | ⟨e,_⟩
  ·obtain⟨v,q⟩:=N.cell x c (S.cl N.ok e);exact absurd q.lt (by rw[z,G];exact Nat.lt_irrefl _)
  ·rw[G] at O;exact absurd (Nat.lt_of_le_of_lt O (Nat.lt_of_lt_of_le (Nat.lt_succ_self C) e)) (by rw[z];exact Nat.lt_irrefl _)
 have a9:D∉bI X.stack:=fun z=>by
  rcases List.mem_cons.mp (N.stkSub D z) with q | q
  ·exact absurd N.lt (by rw[<-q,G];exact Nat.lt_irrefl _)
  ·exact N.nofs (by rw[G];exact bG _) q
 have a5:∀p∈X.pn++j,p.1≠D:=fun p hp z=>absurd (bq (N.pin p hp).1) (by rw[z,G];exact Nat.lt_irrefl _);have b1:∀{Y':St}{B:Hp}{L:Shared}{us:List Value}{k:Nat},Inv (ek X scope (own++capN) C t E H2 j M) [] Y' B L->L.heap.get? D=some { cls:=.type "list",data:=.seq us.toArray k }->B D=none->
   Inv (ek X scope (own++capN) C t E H2 j M) [(D,{ cls:=.type "list",data:=.seq us.toArray k })] Y' B L:=fun J e n=>J.pins_of fun p hp=>by
  obtain rfl:=List.mem_singleton.mp hp;exact⟨e,n,a7,a9,fun v z=>by cases z⟩
 have b4:∀{B:Hp}{o:Obj},(∀b∈t,B b=none)->∀b∈t,fA (ek X scope (own++capN) C t E H2 j M) [(D,o)] B b:=fun hn b l=>by
  obtain⟨f0,f1,c8,f3,f4,f5⟩:=f2 b l;refine⟨hn b l,Nat.ne_of_lt (Nat.lt_of_lt_of_le (a1 b l) sC),fun z=>(List.mem_cons.mp (N.stkSub b z)).elim f1 c8,.inl l,fun x c e=>?cl,fun p hp=>?_⟩
  case cl=>
   rcases R x c e with e | ⟨e,_⟩
   ·exact f4 x c (S.cl N.ok e)
   ·exact Ne.symm (Nat.ne_of_lt (Nat.lt_of_lt_of_le (a1 b l) (Nat.le_trans sC (Nat.le_of_succ_le e))))
  rcases List.mem_append.mp hp with hp | hp
  ·exact f5 p hp
  ·obtain rfl:=List.mem_singleton.mp hp;intro z;have z':D=b:=z;exact absurd (a1 b l) (by rw[<-z',G];exact Nat.lt_irrefl _)
 have eU:codeAny (model X.prog X.w) X.A (.compLoop (.ListComp elt [⟨tg,iter,[],0⟩] scope pos) 0 (.ref it) (.ref D) (compEnvC scope (cellsFrom (C+1) scope.names (cD X.env scope.names [])) C X.env)) (RR (.ref D) C) { E with heap:=h₁,toks:=E.toks }:=by
  refine ME (fun n L=>∃i ys us k Y' B,Inv (ek X scope (own++capN) C t E H2 j M) [(D,{ cls:=.type "list",data:=.seq us.toArray k })] Y' B L/\tn i L.heap/\(∀b∈t,B b=none)/\bh ys us/\W i n ys Y' B) ?_ m0
   ⟨0,[],[],0,_,H2,b1 Ic a3 (N.hok.fresh (by rw[G];exact bG _)),T.keep _ _ _ b3 fun b _ o e=>old b o e,fun b l=>(f2 b l).1,.nil,w0⟩
  rintro n s3 ⟨i,ys,us,k,Y3,H3,I3,b8,b9,r3,w3⟩;rcases turn i n ys Y3 H3 w3 with⟨stop,hz,qn⟩ | ⟨go,step⟩
  ·refine aK (T.done (ek X scope (own++capN) C t E H2 j M) rfl rfl rfl hc i _ s3 Y3 H3 _ I3 (b4 b9) b8 stop) fun r s4 ⟨hr,I4⟩=>?_;subst hr;obtain⟨eD,nD,_⟩:=I4.pin (D,_) (bb _ (List.mem_singleton.mpr rfl));have a0:H3 D=none:=nD;have I5:Inv X j Y (aM H3 D (.lst ys)) s4:=by
    refine N.call' (ch:=t) I4.os ⟨I4.base.keep,I4.base.slot,fun b o e n hx=>?_,I4.base.there,fun b xs e=>?_,fun b o u e=>?_,fun b ps e=>?_⟩ (fun b u e=>?_) I4.bare fun b l=>⟨(f2 b l).2.2.2.1,(f2 b l).2.1,(f2 b l).2.2.2.2.1,(f2 b l).2.2.2.2.2⟩
    ·rw[bi (by intro z;exact absurd (bq e) (by rw[z,G];exact Nat.lt_irrefl _))];exact I4.base.free b o e n hx
    ·have q:=I4.base.tups b xs e;rw[bi (eV q a0)];exact q
    ·have q:=I4.base.frzs b o u e;rw[bi (eV q a0)];exact q
    ·obtain⟨more,q⟩:=I4.base.tbls b ps e;exact⟨more,by rw[bi (eV q a0)];exact q⟩
    ·by_cases l:b=D
     ·subst l;rw[cj] at e;cases e;exact⟨hz,us,k,r3,eD⟩
     ·rw[bi l] at e;exact(I4.hok b u e).stay (fun _ _ _ q=>q) (fun c q=>by rw[bi (eV q a0)];exact q) fun c xs q=>by rw[bi (eV q a0)];exact q
   obtain⟨m,hm,_⟩:=I4.loc;exact c3 D C s4 _ m I5 (N.fpOk sC (by rw[bi (Ne.symm a7)];exact I4.free)) hm (qn D a0)
  ·refine aK (T.item (ek X scope (own++capN) C t E H2 j M) rfl rfl rfl hc i _ s3 Y3 H3 _ I3 (b4 b9) b8 go) fun r s4 ⟨u,hr,h4⟩=>?_;subst hr;refine aK h4 fun _ s5 ⟨x,H5,I5,r5,y5,b5,c9⟩=>?_;have d0:=I5.pinned (b4 c9) (T.obj _ _ b5);refine aK (hg _ s5 Y3 H5 x u _ d0 r5 (step x H5 y5)) fun _ s6 ⟨Y6,H6,I6,q6⟩=>?_;have cG:∀{Y8:St}{H8:Hp}{s8:Shared},Inv (ek X scope (own++capN) C t E H2 j M) ([(D,{ cls:=.type "list",data:=.seq us.toArray k })]++lY t s5.heap) Y8 H8 s8->tn (i+1) s8.heap/\(∀b∈t,H8 b=none):=fun {Y8 H8 s8} I8=>by refine⟨T.keep _ _ _ b5 fun b l o e=>(I8.pin (b,o) (bb _ (bb _ (lZ l e)))).1,fun b l=>?_⟩;obtain⟨o,e,d⟩:=T.obj _ _ b5 b l;exact(I8.pin (b,o) (bb _ (bb _ (lZ l e)))).2.1
   refine aK (he _ s6 Y6 H6 _ I6 q6) fun u8 s8 ⟨y,H8,I8,r8,hz,m',hm,w8⟩=>?_;obtain⟨t8,n8⟩:=cG I8;have I9:=I8.unpinned;obtain⟨eD,nD,d1,d4,_⟩:=I9.pin (D,_) (bb _ (List.mem_singleton.mpr rfl));have hl:=r3.length;refine call_meets F.slot_list_append ⟨_,eD,rfl⟩ F.entry_list_append (F.args_list_append_2 _ _) (PySem.list_append D us.toArray k u8 (by rw[List.size_toArray];omega)) ⟨eD,?_⟩;have q:=PySem.IsL.update eD (fun a=>a.push u8);have e2:us.toArray.push u8=(us++[u8]).toArray:=by simp
   rw[e2] at q;have keep:∀b o,b≠D->s8.heap.get? b=some o->(s8.heap.update D (Obj.mapSeq fun a=>a.push u8)).get? b=some o:=fun b o l e=>(Heap.get?_update_other s8.heap _ (Ne.symm l)).trans e;have d2:Inv (ek X scope (own++capN) C t E H2 j M) [] Y6 H8 { s8 with heap:=s8.heap.update D (Obj.mapSeq fun a=>a.push u8) }:=by refine(I9.pins_of (pins':=[]) fun p hp=>absurd hp (by simp)).turned (t':=s8.toks) (it:=D) keep nD d1 (.inr (by rw[G];exact bG _)) a8 fun p hp=>?_;exact a5 p (by simpa using hp)
   exact⟨m',hm,i+1,ys++[y],us++[u8],_,Y6,H8,b1 d2 q nD,T.keep _ _ _ t8 fun b l o e=>keep b o (by intro z;exact absurd (a1 b l) (by rw[z,G];exact Nat.lt_irrefl _)) e,n8,r3.append (.cons r8 .nil),w8⟩
 exact codeAny_compStart_list eU (wpAny_noRaise (T.self _ 0 _ _ _ (T.keep _ _ _ b3 fun b _ o e=>old b o e) eU))
theorem MI(S:aq X scope own capN caps)(hc:X.calm=true)(B:X.stack=X.env::X.outer)(E:X.env.frame=some X.env.locals)(hZ:∀i Y H s e c,L3.Fly X i Y H s e c->Z c Y H->X.xe e s)(hi:PI X tg iter wi)
  (G:∀C J L M pl y Z,(∀i Y H s e c,L3.Fly (ek X scope (own++capN) C J L M pl y) i Y H s e c->Z c Y H->y e s)->PG (ek X scope (own++capN) C J L M pl y) tg g/\PE (ek X scope (own++capN) C J L M pl y) elt (te Z))
  (hs:∀x,foldedSetIterable iter X.env x=pure x:=by intro _;rfl):PE X (.ListComp elt [⟨tg,iter,[],0⟩] scope pos) (wj own caps wi g te Z):=by
 intro i s Y H Q I h;rw[eval_ListComp];refine wpAny_comprehension_free (use:=none) rfl hs (uI (S.cells I.ok)) S.kind S.loc ?_;refine MH S hc B E hi G I h (fun D C l n m N f v q=>⟨m,v,fun p j=>?_⟩) fun D C l n m a Cv fv gg c N f v cov gC ex O z=>⟨m,v,fun p j k _=>?_⟩
 ·exact⟨.ref D,n,N.turned (t':=l.toks) (it:=C) (fun b o hb e=>(j.2 b hb).trans e) f.1 f.2.1 f.2.2.2.1 f.2.2.2.2.1 f.2.2.2.2.2,rfl,q⟩
 ·have I2:Inv X i Y n { l with heap:=p }:=N.turned (t':=l.toks) (it:=C) (fun b o hb e=>(j.2 b hb).trans e) f.1 f.2.1 f.2.2.2.1 f.2.2.2.2.1 f.2.2.2.2.2;obtain⟨oC,es,ep,eC,dC,_⟩:=v;have nC:∀b o r,l.heap.get? b=some o->o.data=.fields r->b≠C:=fun b o r e d q=>by subst q;rw[eC] at e;cases e;rw[dC] at d;cases d
  obtain⟨gh,lo,un,oe,r,a0,he,R,hd,h0,hx⟩:=ex;rcases hx with⟨q,_⟩ | ⟨T,oT,ts,f',ef,h1,U,a1,a2,hT,t,h3⟩
  ·cases q
  have u:=(j.2 a (nC a oe r he hd)).trans he;have a3:L3.ExS gg n p a Cv (some fv):=⟨fun b o e=>let⟨o',e'⟩:=gh b o e;⟨o',(j.2 b fun q=>by rw[q,gC] at e;cases e).trans e'⟩,lo,un,oe,r,a0,u,R,hd,h0,.inr ⟨T,oT,ts,f',ef,h1,U,a1,a2,(j.2 T (nC T oT ts hT t)).trans hT,t,h3⟩⟩
  unfold PySem.passOn;refine aw (wpAny_field u hd h1 ?_);rw[if_neg (show ¬ ((Value.ref T==Value.none)=true) from by simp)];have stk:=L3.frames_some I2.stack;have go:wpAny (model X.prog X.w) X.A (setFlight (.ref a) k.frame >>= fun _=>(throw (.ref a):Sem Value)) (fun _ _=>False) X.xe { l with heap:=p }:=aw (L3.flight_any (s:={ l with heap:=p }) (fs:=bI X.stack) k.frame stk a3 fun h2 c2 x2=>wpAny_throw (hZ i Y n _ _ c ⟨I2.ch cov c2,a,Cv,gg,_,rfl,cov,x2,O⟩ z))
  first
   | exact aw (bo go)
   | exact go
end
end L2
namespace L2.L3
open PySem PySem.Spec PyProof.Rows
noncomputable def wm(E:Str->al->Prop)(own:List Str)(j:List Nat)(k o:Nat)(s:ff)(g:eG)(m:XM PyData):DT:=fun U Q=>s U fun f l=>∃io b,l[o]? = some (some (.own io b))/\∃n:Nat->List PyData->al->Prop,n 0 [] (km own j k b l)/\
 (∀i d a e,f[i]? = some d->n i a e->g d e fun p=>wp (fun c e=>∃h,e[own.length+k]? = some (some (.own true h))/\E c (l.set o (some (.own io h)))) m p fun y q=>a.length<sizeLine/\n (i+1) (a++[y]) q)/\
 ∀a e,n f.length a e->∃h,e[own.length+k]? = some (some (.own true h))/\a.length<=sizeLine/\Q (.list a) (l.set o (some (.own io h)))
section
variable{K:Frag}{F:Fx}{E:Str->al->Prop}{own:List Str}{caps:List Nat}{k jm:Nat}{s:ff}{g:eG}{m:XM PyData}
theorem MJ(a:oa s):Mn (wm E own caps k jm s g m):=fun _ _ _ c q=>a _ _ _ (fun _ _ ⟨io,b,hb,d,f,h1,h2⟩=>⟨io,b,hb,d,f,h1,fun i j h=>let⟨n,e,l,q⟩:=h2 i j h;⟨n,e,l,c _ _ q⟩⟩) q
theorem MK{PF:Fx->Prop}(hP:∀w Y U1 O1 A O2 I,aC K F w Y U1 O1->(∀a∈A,∃o,w a=some o/\Mv o)->PF ⟨w,A,O2,I⟩)(b1:caps[k]? = some jm)(hs:oa s)(hg:∀d U Q Q',(∀t,Q t->Q' t)->g d U Q->g d U Q'):∀Y H Q,gO K F (wm E own caps k jm s g m) Y H Q->
  wj own caps (nX K F s) (fun v Y H Q=>∃F',PF F'/\nV K F' g v Y H Q) (fun Z Y H Q=>∃F' E',PF F'/\(∀c Y' B t M,aC K F' B Y' t M->E' c t->Z c Y' B)/\gO K F' (wp E' m) Y H Q) (fun c Y H=>∃U O,aC K F H Y U O/\E c U) Y H Q:=fun Y H Q ⟨U,O,st,q⟩=>by
 refine⟨U,O,st,hs _ _ _ (fun u U1 ⟨io,b0,a8,Iv,i0,step,fin⟩ J w O1 a1 s1 wk=>?_) q⟩;obtain⟨W,R,D⟩:=id a1;obtain⟨v0,r,hY,hW,a,rfl,b3⟩:=R.at_ jm _ a8;rw[<-D] at b3;have c0:jm<U1.length:=(List.getElem?_eq_some_iff.mp a8).1;have c1:O1.Nodup:=by rw[D];exact R.nd
 have b4:W.flatten.Nodup:=(List.nodup_append.mp R.nd).1;have c2:r.Nodup:=b4.sublist (List.sublist_flatten_of_mem (List.mem_of_getElem? hW));have a2:∀c∈r,c∈O1:=fun c f=>by rw[D];exact bf _ (bM hW f)
 have c3:∀c∈r,∃o,w c=some o/\Mv o:=fun c f=>a1.live c (a2 c f);let C:List Addr:=O1.filter fun c=>decide (c∉r);have G:∀c∈C,c∈O1/\c∉r:=fun c h=>by obtain⟨h1,X⟩:=List.mem_filter.mp h;exact⟨h1,by simpa using X⟩
 have inc:∀c∈O1,c∉r->c∈C:=fun c h X=>List.mem_filter.mpr ⟨h,by simpa using X⟩;have a5:∀c,c∈r++C↔c∈O1:=fun c=>⟨fun h=>(List.mem_append.mp h).elim (a2 c) fun z=>(G c z).1,fun h=>by
  by_cases z:c∈r
  ·exact bf _ z
  ·exact bb _ (inc c h z)⟩
 have c4:(r++C).Nodup:=List.nodup_append.mpr ⟨c2,c1.filter _,fun x hx y hy e=>by subst e;exact(G x hy).2 hx⟩;have b5:aP O1 w (r++C) w:=fH fun c h=>(a5 c).mp h;let F':Fx:=⟨w,r,C,fun _=>a⟩
 have pf:PF F':=hP _ _ _ _ _ _ _ a1 c3;have kn:own.length+k<(cw own caps U1).length:=by have:=(List.getElem?_eq_some_iff.mp b1).1;unfold cw;simp;omega
 have ln:(cw own caps U1).length=(dF own caps Y).length:=by unfold cw dF;simp
 have fl:((List.replicate (cw own caps U1).length ([]:List Addr)).set (own.length+k) r).flatten=r:=Ce kn;have Yk:(dF own caps Y)[own.length+k]? = some (some (.ref a)):=by unfold dF;rw[List.getElem?_append_right (by simp),List.length_map,Nat.add_sub_cancel_left,List.getElem?_map,b1];show some ((Y[jm]?).getD none)=_;rw[hY];rfl
 have cG:∀(Y':St) (B:Hp) (t:al) (M:List Addr) (b':Bx),aC K F' B Y' t M->t[own.length+k]? = some (some (.own true b'))->∃N,aC K F B Y (U1.set jm (some (.own io b'))) N/\aP O1 w N B/\∀c∈N,c∈M:=fun Y' B t M b' S a4=>by
  obtain⟨W',h',T⟩:=id S;have kp:∀b o,b∉r->w b=some o->B b=some o:=fun b o hb e=>h'.kept b o hb e;obtain⟨v',a0,g1,g2,a',ea,g3⟩:=h'.at_ _ _ a4;have g4:=h'.io _ _ a4;rw[g1] at g4;obtain rfl:a' = a:=by cases ea;cases g4;rfl
  rw[<-T] at g3;have a6:∀c∈a0,c∈M:=fun c f=>by rw[T];exact bf _ (bM g2 f)
  have a7:(W'.flatten++C).Nodup:=h'.nd;have b6:a0.Nodup:=(List.nodup_append.mp a7).1.sublist (List.sublist_flatten_of_mem (List.mem_of_getElem? g2));have oth:∀j l,j≠jm->W[j]? = some l->∀c∈l,c∈C:=fun j l hj e c f=>inc c (by rw[D];exact bf _ (bM e f)) (jR b4 e hW hj f);have a3:∀c∈F.O₀,c∈C:=fun c f=>inc c (by rw[D];exact bb _ f) fun z=>(List.nodup_append.mp R.nd).2.2 c (bM hW z) c f rfl;have b7:∀c∈a0,c∉C:=fun c f z=>(List.nodup_append.mp a7).2.2 c (bM g2 f) c z rfl;have b8:∀c∈C,B c=w c:=fun c f=>by obtain⟨o,e,_⟩:=a1.live c (G c f).1;rw[e];exact kp c o (G c f).2 e
  have L:∀c∈(W.set jm a0).flatten++F.O₀,c∈M:=fun c h=>by
   rcases List.mem_append.mp h with h | h
   ·rcases fc h with h | ⟨j,l,hj,e,hl⟩
    ·exact a6 c h
    ·rw[T];exact bb _ (oth j l hj e c hl)
   ·rw[T];exact bb _ (a3 c h)
  obtain⟨s2,s3⟩:=R.put (H':=B) (i:=jm) (v:=.ref a') (c:=.own io b') (fp:=a0) c0 (fun j l c hj e f=>b8 c (oth j l hj e c f)) (fun c f=>b8 c (a3 c f)) (fun c o f e=>kp c o (fun z=>f (by rw[<-D];exact a2 c z)) e) b6
   (fun c f=>⟨fun j l hj e z=>b7 c f (oth j l hj e c z),fun z=>b7 c f (a3 c z)⟩) (fun c f=>(h'.new c (bM g2 f)).imp (fun z=>bM hW z) id) (fun c f=>h'.live c (by rw[<-T];exact a6 c f)) (fun _=>⟨a',rfl,g3.keep (fun _ _=>rfl) (nM L)⟩) (fun b2 z=>by
    have e1:io=true:=by cases z;rfl
    subst e1;have:=R.io jm b0 a8;rw[hY] at this;exact Option.some.inj (Option.some.inj this))
  have eY:Y.set jm (some (.ref a'))=Y:=by
   apply List.ext_getElem?;intro j
   by_cases hj:j=jm
   ·subst hj;rw[List.getElem?_set_self (List.getElem?_eq_some_iff.mp hY).1,hY]
   ·rw[List.getElem?_set_ne (Ne.symm hj)]
  rw[eY] at s2;rw[<-D] at s3;exact⟨_,⟨_,s2,rfl⟩,s3,L⟩
 refine⟨fun i n ys Y' B=>∃t M ds,aC K F' B Y' t M/\Iv i ds t/\aQ (ay M B) ys ds/\i<=u.length/\n=u.length - i,⟨u.length,km own caps k b0 U1,r++C,[],?_,i0,.nil,Nat.zero_le _,rfl⟩,?_⟩
 ·have cell:∀(i:Nat) (c:ak),(cw own caps U1)[i]? = some (some c)->(∀io b,c≠.own io b)/\∃v,(dF own caps Y)[i]? = some (some v)/\dG K w O1 v c []:=fun i c e=>by
   unfold cw at e;unfold dF
   by_cases hi:i<own.length
   ·rw[List.getElem?_append_left (by simpa using hi),List.getElem?_map] at e;cases h:own[i]? with
    | none=>rw[h] at e;cases e
    | some y=>rw[h] at e;cases e
   ·rw[List.getElem?_append_right (by simpa using Nat.le_of_not_lt hi),List.length_map,List.getElem?_map] at e;rw[List.getElem?_append_right (by simpa using Nat.le_of_not_lt hi),List.length_map,List.getElem?_map];obtain⟨j,h1,X⟩:=Option.map_eq_some_iff.mp e;rw[h1];show _/\∃v,some ((Y[j]?).getD none)=some (some v)/\_;cases h3:U1[j]? with
    | none=>rw[h3] at X;cases X
    | some o=>
     cases o with
     | none=>rw[h3] at X;cases X
     | some c'=>
      rw[h3] at X;obtain⟨v,a0,e1,_,e2⟩:=R.at_ j c' h3;rw[<-D] at e2;rw[e1];cases c' with
      | dat d=>cases X;exact⟨(fun _ _ z=>by cases z),v,rfl,e2⟩
      | scr ns=>cases X;exact⟨(fun _ _ z=>by cases z),v,rfl,e2⟩
      | own _ _=>cases X
      | exc _=>cases X
      | vw b=>cases X;exact⟨(fun _ _ z=>by cases z),v,rfl,e2⟩
  refine⟨(List.replicate (cw own caps U1).length []).set (own.length+k) r,⟨fun i c e=>?_,by show(_++C).Nodup;rw[fl];exact c4,fun _ _ _ h=>h,fun c h=>?_,?_,?_,?_,fun i b e=>?_⟩,by show r++C=_++C;rw[fl]⟩
  ·unfold km at e;rcases fT e with⟨rfl,e1,hl⟩ | ⟨hi,e1⟩
   ·cases e1;refine⟨.ref a,r,Yk,List.getElem?_set_self (by simpa using hl),a,rfl,?_⟩;show fG (ay (_++C) w) w a b0 r;rw[fl];exact b3.keep (fun _ _=>rfl) b5.hid
   ·obtain⟨_,v,e2,e3⟩:=cell i c e1;refine⟨v,[],e2,?_,?_⟩
    ·rw[List.getElem?_set_ne (Ne.symm hi),List.getElem?_replicate,if_pos (List.getElem?_eq_some_iff.mp e1).1]
    ·show dG K w (_++C) v c [];rw[fl];exact e3.keep b5 (fun _ _=>rfl) fun _ _ _ e=>e
  ·rw[fl] at h;exact .inl h
  ·show kZ w (_++C);rw[fl];exact fun c h=>a1.live c ((a5 c).mp h)
  ·unfold km;rw[List.length_set];exact ln
  ·unfold km;rw[List.length_set,List.length_set,List.length_replicate]
  ·unfold km at e;rcases fT e with⟨rfl,_,_⟩ | ⟨hi,e1⟩
   ·exact Yk
   ·exact absurd rfl ((cell i _ e1).1 true b)
 ·rintro i n ys Y' B ⟨t,M,ds,S,iv,dv,hi,rfl⟩;obtain⟨W',h',T⟩:=id S;have kp:∀b o,b∉r->w b=some o->B b=some o:=fun b o hb e=>h'.kept b o hb e;have c5:aP O1 w M B:=⟨fun b o hb e=>kp b o (fun z=>hb (a2 b z)) e,fun c h=>by
   rw[T] at h;rcases List.mem_append.mp h with h | h
   ·exact(h'.new c h).imp (a2 c) id
   ·exact .inl (G c h).1⟩
  obtain⟨w1,w2⟩:=wk M B c5 S.live
  by_cases a9:i<u.length
  ·obtain⟨go,yld⟩:=w1 i u[i] (List.getElem?_eq_getElem a9);refine .inr ⟨go,fun x H2 hy=>?_⟩;obtain⟨b9,dx⟩:=yld x H2 hy;refine⟨F',pf,t,M,u[i],S.grow b9,dx,hg _ _ _ _ (fun U2 q2 Y3 H3 O3 c6 s3=>?_) (step i u[i] ds t (List.getElem?_eq_getElem a9) iv)⟩;refine⟨F',fun c t=>∃b',t[own.length+k]? = some (some (.own true b'))/\E c (U1.set jm (some (.own io b'))),pf,fun c Y4 H4 U4 O4 c7 zz=>?_,U2,O3,c6,aH _ _ _ (fun y U4 q4 v H5 O5 c8 s5 dy=>?_) q2⟩
   ·obtain⟨b',e1,e2⟩:=zz;obtain⟨N,stN,_⟩:=cG Y4 H4 U4 O4 b' c7 e1;exact⟨_,N,stN,e2⟩
   ·refine⟨by rw[dv.length];exact q4.1,u.length - (i+1),by omega,U4,O5,ds++[y],c8,q4.2,(aQ.mono s5.hid (aQ.mono s3.hid (aQ.mono (jQ b9) dv))).append (.cons dy .nil),a9,rfl⟩
  ·have e:i=u.length:=by omega
   subst e;obtain⟨b',a4,hz,q⟩:=fin ds t iv;refine .inl ⟨w2,by rw[dv.length];exact hz,fun p hp=>?_⟩;obtain⟨N,stN,s3,L⟩:=cG Y' B t M b' S a4;have c9:=S.nofree p hp;exact q _ _ _ (stN.grow (bP hp)) (s1.trans (s3.trans (.same (bP hp)))) (kU hp (fun z=>c9 (L p z)) (aQ.mono (nM L) dv))
end
section
variable{X:Cx}{F:Fx}{E:Str->al->Prop}{pos:Pos}
noncomputable def em(g:GM)(m:XM PyData):List PyData->List PyData->XM (List PyData)
 | [],a,U=>.ok a U
 | d::r,a,U=>(match g d U with
  | some b=>(m b).bind fun y c=>if a.length<sizeLine then em g m r (a++[y]) c else .bad
  | none=>.bad)
noncomputable def jH(a i:Nat)(io:Bool)(b c:al):Option al:=match c[i]? with
 | some (some (.own true d))=>some (b.set a (some (.own io d)))
 | _=>none
noncomputable def gU(own:Nat)(a:List Nat)(k e:Nat)(g:GM)(m:XM PyData)(f:List PyData):XM PyData:=fun d=>match d[e]? with
 | some (some (.own io b))=>(match em g m f [] ((List.replicate own none++a.map fun j=>nY d[j]?).set (own+k) (some (.own true b))) with
  | .ok l h=>(match jH e (own+k) io d h with
   | some i=>if l.length<=sizeLine then .ok (.list l) i else .bad
   | none=>.bad)
  | .ex c h=>(match jH e (own+k) io d h with
   | some i=>.ex c i
   | none=>.bad)
  | .bad=>.bad)
 | _=>.bad
noncomputable def ko(own:Nat)(a:List Nat)(k b:Nat)(s:XM (List PyData))(g:GM)(m:XM PyData):XM PyData:=fun U=>(s U).bind (gU own a k b g m)
theorem Cf{b i:Nat}{io:Bool}{c d f:al}(h:jH b i io c d = some f):∃a,d[i]? = some (some (.own true a))/\f=c.set b (some (.own io a)):=by
 unfold jH at h;split at h
 ·rename_i a e;cases h;exact⟨a,e,rfl⟩
 ·cases h
theorem ML{own:List Str}{f:List Nat}{k t:Nat}{s:XM (List PyData)}{g:GM}{m:XM PyData}{U:al}{Q:PyData->al->Prop}(q:wp E (ko own.length f k t s g m) U Q):wm E own f k t (wp E s) (eK g) m U Q:=aH _ _ _ (fun n u a=>by
 cases hb:u[t]? with
 | none=>unfold wp gU at a;rw[hb] at a;exact a.elim
 | some o=>
  cases o with
  | none=>unfold wp gU at a;rw[hb] at a;exact a.elim
  | some c=>
   cases c with
   | own io b=>
    have H:km own f k b u=(List.replicate own.length none++f.map fun j=>nY u[j]?).set (own.length+k) (some (.own true b)):=by unfold km cw;rw[List.map_const']
    let x:Str->al->Prop:=fun c v=>∃r,v[own.length+k]? = some (some (.own true r))/\E c (u.set t (some (.own io r)));let y:List PyData->al->Prop:=fun p v=>∃r,v[own.length+k]? = some (some (.own true r))/\p.length<=sizeLine/\Q (.list p) (u.set t (some (.own io r)));have I:wp x (em g m n []) ((List.replicate own.length none++f.map fun j=>nY u[j]?).set (own.length+k) (some (.own true b))) y:=by
     unfold wp gU at a;rw[hb] at a;simp only at a;unfold wp;generalize em g m n [] _=o at a ⊢;cases o with
     | bad=>exact a
     | ok p v=>
      simp only at a ⊢;cases w:jH t (own.length+k) io u v with
      | none=>rw[w] at a;exact a.elim
      | some z=>
       obtain⟨r,A,rfl⟩:=Cf w;rw[w] at a;simp only at a
       by_cases B:p.length<=sizeLine
       ·rw[if_pos B] at a;exact⟨r,A,B,a⟩
       ·rw[if_neg B] at a;exact a.elim
     | ex c v=>
      simp only at a ⊢;cases w:jH t (own.length+k) io u v with
      | none=>rw[w] at a;exact a.elim
      | some z=>obtain⟨r,A,rfl⟩:=Cf w;rw[w] at a;exact⟨r,A,a⟩
    refine⟨io,b,rfl,fun i p U=>wp x (em g m (n.drop i) p) U y,by rw[H];exact I,fun i d p U hd l=>?_,fun p U h=>?_⟩
    ·have e:n.drop i=d::n.drop (i+1):=by obtain⟨C,J⟩:=List.getElem?_eq_some_iff.mp hd;rw[<-J];exact List.drop_eq_getElem_cons C
     have l:wp x (em g m (n.drop i) p) U y:=l;rw[e] at l;unfold wp em at l;unfold eK;cases G:g d U with
     | none=>rw[G] at l;exact l
     | some z=>
      rw[G] at l;simp only at l ⊢;unfold wp;cases D:m z with
      | ex c L=>rw[D] at l;exact l
      | bad=>rw[D] at l;exact l
      | ok M L=>
       rw[D] at l;simp only[eg.bind] at l ⊢
       by_cases h:p.length<sizeLine
       ·rw[if_pos h] at l;exact⟨h,l⟩
       ·rw[if_neg h] at l;exact l.elim
    ·have h:wp x (em g m (n.drop n.length) p) U y:=h;rw[List.drop_length] at h;exact h
   | dat _=>unfold wp gU at a;rw[hb] at a;exact a.elim
   | scr _=>unfold wp gU at a;rw[hb] at a;exact a.elim
   | exc _=>unfold wp gU at a;rw[hb] at a;exact a.elim
   | vw _=>unfold wp gU at a;rw[hb] at a;exact a.elim) (bQ (k:=gU own.length f k t g m) q)
theorem Cg{b:Scope}{own d:List Str}{f:List Nat}{k jm:Nat}{B iter w:Expr}{s:XM (List PyData)}{g:GM}{m:XM PyData}{n:Nat}(D:dO X F E)(S:aq X b own d f)(G:f[k]? = some jm)(hc:X.calm=true)(hn:own.length=n)(J:X.stack=X.env::X.outer)(L:X.env.frame=some X.env.locals)(M:FI X F E B iter s)
    (h:∀C j l o p t i y,dO (ek X b (own++d) C j l o p t) i y->FG (ek X b (own++d) C j l o p t) i B g/\FE (ek X b (own++d) C j l o p t) i y w m)
    (hs:∀x,foldedSetIterable iter X.env x=pure x:=by intro _;rfl):FE X F E (.ListComp w [⟨B,iter,[],0⟩] b pos) (ko n f k jm s g m):=by
  subst hn;have hg:=(h 0 [] (PySem.start X.prog).1 (fun _=>none) [] (fun _ _=>False) F eN ⟨D.1,fun _ _ _ _ _ _ _ _ _ _ z=>z.elim⟩).1;have A:=(MI (Z:=fun c Y H=>∃U O,aC X.K F H Y U O/\E c U) (pos:=pos) S hc J L (fun a Y H s e c N ⟨U,O,st,z⟩=>D.2 a Y H s e c U O N st z) M.pi (fun C j l o p t Z R=>
    ⟨fun a s Y H v u Q I r ⟨i,T,q⟩=>(h C j l o p t i eN ⟨T,fun _ _ _ _ _ _ _ _ _ _ z=>z.elim⟩).1.pg a s Y H v u Q I r q,
     fun a s Y H Q I ⟨i,y,T,hz,q⟩=>(h C j l o p t i y ⟨T,fun a Y H s e c U O N st z=>R a Y H s e c N (hz c Y H U O st z)⟩).2.pe a s Y H Q I q⟩) hs).imp (MK (E:=E) (PF:=GF X.mg) (fun _ _ _ _ _ _ _ st hA=>(D.1.at st).frame hA) G M.mn hg.mn)
  exact DE.imp' ⟨MJ M.mn,A⟩ aH fun U Q q=>ML q
end
end L2.L3
namespace Due
noncomputable abbrev Sh:=List (Int×Int)
noncomputable def rh(a:Int):Sh->Int->Int
 | [],_=>a
 | (b,c)::r,m=>rh (if b<=m then c else a) r m
noncomputable def wn(a:Int)(b:Sh)(m:Int):Int:=m+rh a b m
noncomputable def kq:Int->Sh->Prop
 | _,[]=>True
 | lo,(b,_)::r=>lo<b/\kq b r
noncomputable def oG(g:Int):Int->Int->Sh->Int
 | s,a,[]=>max s (g - a)
 | s,a,(b,c)::r=>if max s (g - a)<b then max s (g - a) else oG g b c r
def Ci(a:Int)(b:Sh):Prop:=(-12<=a/\a<=14)/\∀p∈b,-12<=p.2/\p.2<=14
noncomputable def bY(s a:Int):Sh->List (Int×Option Int×Int)
 | []=>[(s,none,a)]
 | (b,c)::r=>(s,some b,a)::bY b c r
noncomputable def lJ(m:Int):Option Int->Bool
 | none=>true
 | some e=>decide (m<e)
noncomputable def mJ(g:Int)(l:List (Int×Option Int×Int)):List Int:=(l.filter fun p=>lJ (max p.1 (g - p.2.2)) p.2.1).map fun p=>max p.1 (g - p.2.2)
theorem Cj(g:Int):∀(d:Sh) (s a:Int),∃t,mJ g (bY s a d)=oG g s a d::t
 | [],s,a=>⟨[],rfl⟩
 | (b,c)::r,s,a=>by
  obtain⟨t,e⟩:=Cj g r b c;unfold bY oG mJ;rw[List.filter_cons]
  by_cases h:max s (g - a)<b
  ·rw[if_pos (by show decide (max s (g - a)<b)=true;exact decide_eq_true h),if_pos h];exact⟨_,rfl⟩
  ·rw[if_neg (by show ¬ decide (max s (g - a)<b)=true;simpa using h),if_neg h];exact⟨t,e⟩
noncomputable def wo(a:Int)(b:Sh)(h:Int):Int:=-((h - wn a b 0) / 24)
noncomputable def wq(a:Int)(b:Sh)(h:Int)(c:Nat):Int:=oG ((wo a b h+c) * 24+h) 0 a b
inductive en where
 | once (m:Int) | every (f s:Int) | daily (h:Int)
noncomputable def gd(a:Int)(b:Sh):en->Nat->Option Int
 | .once m,c=>if c=0 then some m else none
 | .every f s,c=>some (f+c * s)
 | .daily h,c=>some (wq a b h c)
structure oH (a:Int) (ss:Sh):Prop where
 len:ss.length<=6
 rise:kq 0 ss
 ah:Ci a ss
 top:∀p∈ss,p.1<=9999
noncomputable def iX:en->Prop
 | .once m=>0<=m/\m<=9999
 | .every f s=>(0<=f/\f<=9999)/\1<=s/\s<=999
 | .daily h=>0<=h/\h<=23
noncomputable def Ck(a:Int)(b:Sh)(p:en)(c:Nat):Int:=(gd a b p c).getD 0
end Due
namespace K3
open PySem PySem.Spec L2 L2.L3 PyProof.Rows
noncomputable abbrev cx:List Str:=["NoZone","NoPlan","NoMoment","NoCount","NoDeeds","NoDeed","NoRunner","NoTerm","NotHolder","Nothing","NoCall"]
noncomputable def oI:SM:=(bt (eL (gB "int" (xV 0)) (eL (AM (gB "bool" (xV 0))) (vn (fun i j=>decide (i<=j)) (fun i j=>decide (i<=j)) (xV 1) (xV 0) (xV 2)))))
noncomputable def gF:FM:=bj 3 3 oI
noncomputable def ri:SM:=(bt (eL (gB "tuple" (xV 0)) (ag (aJ false) (eh iJ (ai (xV 0) aN)) (xV 1))))
noncomputable def kr:FM:=bj 2 2 ri
noncomputable def rk:SM:=(bx (aV (ag qU (ag aO (xV 3) (xC (.int 0))) (xV 1))) (bF (ag aO (xV 3) (xC (.int 1))) (aI 2)) bD)
noncomputable def wt:SM:=(aA (bF (ag aO (xV 0) (xC (.int 0))) (aI 2))
  (aA (jC (lq (ag aO (xV 0) (xC (.int 1)))) (aI 3) rk)
  (bt (ag dL (xV 1) (xV 2)))))
noncomputable def rm:FM:=bj 2 4 wt
noncomputable def wu:XM PyData:=(ag aO (xV 0) (xC (.int 0)))
noncomputable def wv:XM PyData:=(ag aO (xV 0) (xC (.int 1)))
noncomputable def wx:SM:=(aA (bF (ag jz (dJ (ai (xC (.int 0)) aN)) (jE 1 [] (lq (ag aO (xV 0) (xC (.int 1)))) (aI 0) fK wu)) (aI 1))
  (aA (bF (ag jz (xU (Bl 1) (xV 1)) (dJ (ai (xC .none) aN))) (aI 2))
  (aA (bF (ag jz (dJ (ai (ag aO (xV 0) (xC (.int 0))) aN)) (jE 1 [] (lq (ag aO (xV 0) (xC (.int 1)))) (aI 0) fK wv)) (aI 3))
  (bt (eh vM (ai (xV 1) (ai (xV 2) (ai (xV 3) aN))))))))
noncomputable def rn:FM:=bj 1 4 wx
noncomputable def wy:SM:=(bt (vm (ag lg (xV 1) (xC .none)) (ag kh (xV 0) (xV 1))))
noncomputable def ro:FM:=bj 2 2 wy
noncomputable def oJ:SM:=(aA (bx (aV (ag kh (xV 1) (qJ 0))) (bt (qK 0 (xV 1))) bD)
  (aA (bx (vv 0) (bt (xC (.int 0))) bD)
  (bt (ag dL (ag kg (qK 0 (ag mE (xV 1) (qJ 0))) (xC (.int 31))) (xV 1)))))
noncomputable def mK:FM:=bj 2 2 oJ
noncomputable def Cm:SM:=(aA (gA 1 (iN (ai (gD 0 cx "NoZone") (ai (gD 0 cx "NoPlan") (ai (gD 0 cx "NoMoment") (ai (gD 0 cx "NoCount") aN))))))
  (aA (qT 1 (dJ (ai (gD 0 cx "NoDeeds") (ai (gD 0 cx "NoDeed") (ai (gD 0 cx "NoRunner") (ai (gD 0 cx "NoTerm") aN))))))
  (aA (qT 1 (dJ (ai (gD 0 cx "NotHolder") (ai (gD 0 cx "Nothing") (ai (gD 0 cx "NoCall") aN)))))
  (aA (bx (ig (aV (ag (aJ true) (qS qQ 1 (xC (.bool true))) (xC (.int 1)))) (eM (aV (vU 0 cx)))) (bt (bW (ai (xC (.str "refused")) (ai (qF (xC (.int 1))) aN)))) bD)
  (bt (bW (ai (xC (.str "refused")) (ai (qS qR 1 (xC (.bool true))) aN))))))))
noncomputable def fq:FM:=bj 1 2 Cm
noncomputable def wz(C:Addr):SM:=(bt (eL (ag gQ (cm C 0 "holder") (xC .none)) (ag kh (xV 1) (cm C 0 "until"))))
noncomputable def oK(C:Addr):FM:=bj 2 2 (wz C)
noncomputable def mL(C:Addr):SM:=(aA (bF (ag aO (xV 1) (xC (.int 2))) (aI 2))
  (aA (bF (ag aO (xV 1) (xC (.int 3))) (aI 3))
  (aA (bF (ag aO (xV 1) (xC (.int 4))) (aI 4))
  (aA (lC C 0 "rows" 1)
  (aA (mG C 0 "words" 3 4 (xV 2))
  (aA (bx (aV (ag (aJ false) (xV 2) (xC (.str "begun")))) (cA C 0 "begun" (bW (ai (xV 3) (ai (xV 4) (ai (cm C 0 "holds") aN))))) (aA (cA C 0 "begun" (xC .none))
  (mH C 0 "settled" 3 (ag dL (xV 4) (xC (.int 1))))))
  (bt (bW (ai (xV 2) (ai (xV 3) (ai (xV 4) aN)))))))))))
noncomputable def gf(C:Addr):FM:=bj 2 5 (mL C)
noncomputable def rp(C:Addr):SM:=(bt (eL (ag gQ (cm C 0 "begun") (xC .none)) (ag (aJ false) (ag aO (cm C 0 "begun") (xC (.int 2))) (cm C 0 "holds"))))
noncomputable def mM(C:Addr):FM:=bj 1 1 (rp C)
noncomputable def wA(C:Addr):SM:=(bt (bW (ai (cm C 0 "holder") (ai (cm C 0 "until") (ai (cm C 0 "holds") aN)))))
noncomputable def mO(C:Addr):FM:=bj 1 1 (wA C)
noncomputable def wB(C:Addr):SM:=(bt (ra C 0 "rows"))
noncomputable def jI(C:Addr):FM:=bj 1 1 (wB C)
noncomputable def wC:SM:=(cN (aG gF (af (xV 0) (af (xC (.int (-12))) (af (xC (.int (14))) aB)))))
noncomputable def oM:FM:=bj 1 1 wC
noncomputable def wD:SM:=(cN (aG gF (af (xV 0) (af (xC (.int 0)) (af (xC (.int (9999))) aB)))))
noncomputable def mP:FM:=bj 1 1 wD
noncomputable def wE:SM:=(cN (aG gF (af (xV 0) (af (xC (.int 0)) (af (xC (.int (3))) aB)))))
noncomputable def rq:FM:=bj 1 1 wE
noncomputable def wF:SM:=(cN (aG gF (af (xV 0) (af (xC (.int 1)) (af (xC (.int (99))) aB)))))
noncomputable def rs:FM:=bj 1 1 wF
noncomputable def ry:SM:=(bt (eL (aL (aG kr (af (xV 0) (af (xV 2) aB)))) (eL (gB "str" (ag aO (xV 0) (xC (.int 0)))) (ag (aJ false) (ag aO (xV 0) (xC (.int 0))) (xV 1)))))
noncomputable def jJ:FM:=bj 3 3 ry
noncomputable def wG:XM Bool:=(aV (aL (aG ro (af (eh qH (ai (xV 0) (ai (ag iD (xV 3) (xV 2)) aN))) (af (xV 1) aB)))))
noncomputable def wH:XM PyData:=(eh qH (ai (xV 0) (ai (ag iD (xV 3) (xV 2)) aN)))
noncomputable def wI:SM:=(aA (bF (jE 3 [1] (oo (aL (aG rn (af (xV 0) aB)))) (kb 3 (fi (aI 0) (fi (aI 1) (fi (aI 2) ka)))) wG wH) (aI 2))
  (bt (ag aO (xV 2) (xC (.int 0)))))
noncomputable def rz:FM:=bj 2 3 wI
noncomputable def wJ:SM:=(bt (qF (ag BF (ag iD (xV 1) (aL (aG rm (af (xV 0) (af (xC (.int 0)) aB))))) (xC (.int (24))))))
noncomputable def rA:FM:=bj 2 2 wJ
noncomputable def wK:SM:=(aA (bF (ag mE (ag kg (ag dL (ag dL (aL (aG mK (aR 0 (af (xV 1) aB)))) (ag kg (xC (.int 7919)) (xV 1))) (xC (.int 1))) (xC (.int 48271))) (xC (.int 2147483647))) (aI 3))
  (bt (ag mE (ag mE (ag dL (ag dL (ag kg (xV 3) (xV 3)) (ag kg (xC (.int 7)) (xV 3))) (xV 1)) (xC (.int 2147483629))) (xV 2))))
noncomputable def rB:FM:=bj 3 4 wK
noncomputable def rC(C:Addr):SM:=(aA (bF (ag aO (cm C 0 "begun") (xC (.int 0))) (aI 3))
  (aA (bF (qG (aV (ag aO (ag aO (cm C 0 "deeds") (xV 3)) (xC (.int (2))))) (xC (.str "begun")) (xC (.str "unsure"))) (aI 4))
  (cN (bu C 0 "add_row" (gf C) (af (bW (ai (xV 2) (ai (xV 1) (ai (xV 4) (ai (xV 3) (ai (ag aO (cm C 0 "begun") (xC (.int 1))) aN)))))) aB)))))
noncomputable def oN(C:Addr):FM:=bj 3 5 (rC C)
noncomputable def oO:SM:=(aA (bx (ig (eM (aV (aL (aG kr (af (xV 2) (af (xC (.int 2)) aB)))))) (eM (aV (aL (aG oM (af (ag aO (xV 2) (xC (.int 1))) aB)))))) (bt (xC (.bool false))) bD)
  (aA (bx (eM (aV (aL (aG gF (af (ag aO (xV 2) (xC (.int 0))) (af (xV 1) (af (xC (.int (9999))) aB))))))) (bt (xC (.bool false))) bD)
  (bF (ag dL (ag aO (xV 2) (xC (.int 0))) (xC (.int 1))) (aI 1))))
noncomputable def wL:SM:=(aA (bx (ig (eM (aV (gB "tuple" (xV 0)))) (aV (ag ki (eh iJ (ai (xV 0) aN)) (xC (.int (6)))))) (bt (xC (.bool false))) bD)
  (aA (bF (xC (.int 1)) (aI 1))
  (aA (jC (lq (xV 0)) (aI 2) oO)
  (bt (xC (.bool true))))))
noncomputable def rD:FM:=bj 1 3 wL
noncomputable def oP:SM:=(aA (bx (aV (aL (aG jJ (af (xV 0) (af (xC (.str "once")) (af (xC (.int 2)) aB)))))) (cN (aG mP (af (ag aO (xV 0) (xC (.int 1))) aB))) bD)
  (aA (bx (aV (aL (aG jJ (af (xV 0) (af (xC (.str "every")) (af (xC (.int 3)) aB)))))) (bt (eL (aL (aG mP (af (ag aO (xV 0) (xC (.int 1))) aB))) (aL (aG gF (af (ag aO (xV 0) (xC (.int 2))) (af (xC (.int 1)) (af (xC (.int (999))) aB))))))) bD)
  (bt (eL (aL (aG jJ (af (xV 0) (af (xC (.str "daily")) (af (xC (.int 2)) aB))))) (aL (aG gF (af (ag aO (xV 0) (xC (.int 1))) (af (xC (.int 0)) (af (xC (.int (23))) aB)))))))))
noncomputable def mQ:FM:=bj 1 1 oP
noncomputable def oQ:SM:=(aA (bx (aV (gB "str" (xV 0))) (bt (vm (ag (aJ false) (xV 0) (xC (.str "all"))) (ag (aJ false) (xV 0) (xC (.str "last"))))) bD)
  (bt (eL (aL (aG jJ (af (xV 0) (af (xC (.str "within")) (af (xC (.int 2)) aB))))) (aL (aG gF (af (ag aO (xV 0) (xC (.int 1))) (af (xC (.int 0)) (af (xC (.int (999))) aB))))))))
noncomputable def mR:FM:=bj 1 1 oQ
noncomputable def wM:SM:=(bx (eM (aV (aL (aG mP (af (xV 0) aB))))) (ip "NoMoment") bD)
noncomputable def rE:FM:=bj 1 1 wM
noncomputable def wN:SM:=(bx (eM (aV (aL (aG rq (af (xV 0) aB))))) (ip "NoRunner") bD)
noncomputable def rF:FM:=bj 1 1 wN
noncomputable def wO:SM:=(bx (eM (aV (aL (aG rs (af (xV 0) aB))))) (ip "NoTerm") bD)
noncomputable def rG:FM:=bj 1 1 wO
noncomputable def wP:SM:=(aA (bF (ag dL (aL (aG rA (af (xV 0) (af (xV 1) aB)))) (xV 2)) (aI 3))
  (cN (aG rz (af (xV 0) (af (ag dL (ag kg (xV 3) (xC (.int (24)))) (xV 1)) aB)))))
noncomputable def rH:FM:=bj 3 4 wP
noncomputable def rJ:XM PyData:=(aL (aG jJ (af (xV 1) (af (xV 0) (af (BZ [("take",4),("give",3),("step",3),("finish",3)] (xV 0)) aB)))))
noncomputable def mS:SM:=(bx (eM (aV (eh lI (ai (jE 1 [0] (iC (lH ["take","give","step","finish"])) (aI 0) fK rJ) aN)))) (ip "NoCall") bD)
noncomputable def fN:FM:=bj 1 1 mS
noncomputable def wQ:SM:=(aA (iO 1 (xC (.int 0)))
  (cN (aG rB (aR 0 (af (vH 1) (af (xV 2) aB))))))
noncomputable def cO:FM:=bj 3 3 wQ
noncomputable def wR:SM:=(bt (eL (aL (aG kr (af (xV 0) (af (xC (.int 2)) aB)))) (eL (aL (aG oM (af (ag aO (xV 0) (xC (.int 0))) aB))) (aL (aG rD (af (ag aO (xV 0) (xC (.int 1))) aB))))))
noncomputable def rK:FM:=bj 1 1 wR
noncomputable def wS:SM:=(bt (eL (aL (aG kr (af (xV 0) (af (xC (.int 3)) aB)))) (eL (aL (aG mQ (af (ag aO (xV 0) (xC (.int 0))) aB))) (eL (aL (aG mR (af (ag aO (xV 0) (xC (.int 1))) aB))) (gB "bool" (ag aO (xV 0) (xC (.int 2))))))))
noncomputable def rL:FM:=bj 1 1 wS
noncomputable def mT:SM:=(aA (bx (aV (ag (aJ false) (ag aO (xV 1) (xC (.int 0))) (xC (.str "once")))) (bt (qG (aV (ag (aJ false) (xV 2) (xC (.int 0)))) (ag aO (xV 1) (xC (.int 1))) (xC .none))) bD)
  (aA (bx (aV (ag (aJ false) (ag aO (xV 1) (xC (.int 0))) (xC (.str "every")))) (bt (ag dL (ag aO (xV 1) (xC (.int 1))) (ag kg (xV 2) (ag aO (xV 1) (xC (.int 2)))))) bD)
  (cN (aG rH (af (xV 0) (af (ag aO (xV 1) (xC (.int 1))) (af (xV 2) aB)))))))
noncomputable def iw:FM:=bj 3 3 mT
noncomputable def wT:SM:=(bt (ag aO (xV 2) (aL (aG cO (aR 0 (aR 1 (af (eh iJ (ai (xV 2) aN)) aB)))))))
noncomputable def gi:FM:=bj 3 3 wT
noncomputable def mU(C:Addr):SM:=(aA (gS (aG rF (af (xV 1) aB)))
  (aA (gS (aG rE (af (xV 2) aB)))
  (bx (lh (aV (ag gQ (cm C 0 "last") (xC .none))) (aV (ag kh (xV 2) (cm C 0 "last")))) (ip "NoMoment") bD)))
noncomputable def ft(C:Addr):FM:=bj 3 3 (mU C)
noncomputable def rM:XM PyData:=(aL (aG rL (af (xV 0) aB)))
noncomputable def wU:SM:=(aA (bx (ig (eM (aV (gB "tuple" (xV 0)))) (aV (ag ki (eh iJ (ai (xV 0) aN)) (xC (.int (6)))))) (bt (xC (.bool false))) bD)
  (bt (eh mu (ai (jE 1 [] (lq (xV 0)) (aI 0) fK rM) aN))))
noncomputable def wV:FM:=bj 1 1 wU
noncomputable def wW:SM:=(bx (eM (aV (aL (aG rK (af (xV 0) aB))))) (ip "NoZone") bD)
noncomputable def ix:FM:=bj 1 1 wW
noncomputable def mV:SM:=(aA (bx (aV (ag (aJ false) (ag aO (xV 1) (xC (.int (1)))) (xC (.str "all")))) (bt (xC (.bool false))) bD)
  (aA (bx (aV (ag (aJ false) (ag aO (xV 1) (xC (.int (1)))) (xC (.str "last")))) (aA (bF (aL (aG iw (af (xV 0) (af (ag aO (xV 1) (xC (.int (0)))) (af (ag dL (xV 2) (xC (.int 1))) aB))))) (aI 4))
  (bt (eL (ag gQ (xV 4) (xC .none)) (ag qU (xV 4) (xV 3))))) bD)
  (bt (ag ki (ag iD (xV 3) (aL (aG iw (af (xV 0) (af (ag aO (xV 1) (xC (.int (0)))) (af (xV 2) aB)))))) (ag aO (ag aO (xV 1) (xC (.int (1)))) (xC (.int 1)))))))
noncomputable def lK:FM:=bj 4 5 mV
noncomputable def oR:SM:=(aA (bF (ag dL (ag dL (xV 3) (xC (.int 1))) (aL (aG cO (aR 0 (aR 1 (af (aL (aG gi (aR 0 (aR 1 (af (dJ (ai (xC (.int 4)) (ai (xC (.int 40)) (ai (xC (.int 200)) aN)))) aB))))) aB)))))) (aI 3))
  (iO 2 (bW (ai (xV 3) (ai (ag iD (aL (aG cO (aR 0 (aR 1 (af (xC (.int 27)) aB))))) (xC (.int 12))) aN)))))
noncomputable def wX:XM PyData:=(bW (ai (xV 1) (ai (ag dL (xC (.int 1)) (ag mE (xV 0) (xC (.int 2)))) aN)))
noncomputable def rN:SM:=(aA (gA 2 (iN aN))
  (aA (bF (xC (.int 0)) (aI 3))
  (aA (jC (il df (ai (aL (aG cO (aR 0 (aR 1 (af (xC (.int 7)) aB))))) aN)) (aI 4) oR)
  (aA (bx (aV (ag (aJ false) (aL (aG cO (aR 0 (aR 1 (af (xC (.int 2)) aB))))) (xC (.int 0)))) (bF (jE 3 [] (il lr (ai (xV 2) aN)) (kb 2 (fi (aI 0) (fi (kb 2 (fi (aI 1) (fi (aI 2) ka))) ka))) fK wX) (aI 2)) bD)
  (bt (bW (ai (ag iD (aL (aG cO (aR 0 (aR 1 (af (xC (.int 27)) aB))))) (xC (.int 12))) (ai (eh li (ai (xV 2) aN)) aN))))))))
noncomputable def oS:FM:=bj 2 5 rN
noncomputable def oU:SM:=(aA (bF (aL (aG cO (aR 0 (aR 1 (af (xC (.int 5)) aB))))) (aI 2))
  (aA (bx (aV (ag (aJ false) (xV 2) (xC (.int 0)))) (bt (bW (ai (xC (.str "once")) (ai (aL (aG cO (aR 0 (aR 1 (af (aL (aG gi (aR 0 (aR 1 (af (dJ (ai (xC (.int 100)) (ai (xC (.int 100)) (ai (xC (.int 2500)) aN)))) aB))))) aB))))) aN)))) bD)
  (aA (bx (aV (ag kh (xV 2) (xC (.int 3)))) (aA (bF (ag dL (xC (.int 1)) (aL (aG cO (aR 0 (aR 1 (af (aL (aG gi (aR 0 (aR 1 (af (dJ (ai (xC (.int 30)) (ai (xC (.int 30)) (ai (xC (.int 999)) aN)))) aB))))) aB)))))) (aI 3))
  (bt (bW (ai (xC (.str "every")) (ai (aL (aG cO (aR 0 (aR 1 (af (xC (.int 50)) aB))))) (ai (xV 3) aN)))))) bD)
  (bt (bW (ai (xC (.str "daily")) (ai (aL (aG cO (aR 0 (aR 1 (af (xC (.int 24)) aB))))) aN)))))))
noncomputable def mW:FM:=bj 2 4 oU
noncomputable def Cn:SM:=(aA (bF (aL (aG cO (aR 0 (aR 1 (af (xC (.int 4)) aB))))) (aI 4))
  (aA (bx (lh (aV (ag gQ (xV 3) (xC .none))) (aV (ag ki (aL (aG cO (aR 0 (aR 1 (af (xC (.int 4)) aB))))) (xC (.int 0))))) (bF (xV 3) (aI 4)) bD)
  (aA (bF (ag dL (xV 2) (aL (aG gi (aR 0 (aR 1 (af (dJ (ai (xC (.int 0)) (ai (xC (.int 0)) (ai (xC (.int 0)) (ai (xC (.int 1)) (ai (xC (.int 2)) (ai (aL (aG cO (aR 0 (aR 1 (af (xC (.int 30)) aB))))) aN))))))) aB)))))) (aI 5))
  (aA (bF (aL (aG cO (aR 0 (aR 1 (af (xC (.int 10)) aB))))) (aI 6))
  (aA (bx (ig (aV (ag lg (xV 3) (xC .none))) (aV (ag kh (xV 6) (xC (.int 2))))) (bt (bW (ai (xC (.str "take")) (ai (xV 4) (ai (xV 5) (ai (ag dL (xC (.int 1)) (aL (aG cO (aR 0 (aR 1 (af (aL (aG gi (aR 0 (aR 1 (af (dJ (ai (xC (.int 4)) (ai (xC (.int 99)) aN))) aB))))) aB)))))) aN)))))) bD)
  (aA (bx (aV (ag (aJ false) (xV 6) (xC (.int 2)))) (bt (bW (ai (xC (.str "give")) (ai (xV 4) (ai (xV 5) aN))))) bD)
  (bt (ag aO (ag qE (dJ (ai (bW (ai (xC (.str "step")) (ai (xV 4) (ai (xV 5) aN)))) (ai (bW (ai (xC (.str "finish")) (ai (xV 4) (ai (xV 5) aN)))) aN))) (xC (.int 4))) (ag iD (xV 6) (xC (.int 3)))))))))))
noncomputable def mY:FM:=bj 4 7 Cn
noncomputable def mZ(C:Addr):SM:=(aA (gS (bu C 0 "check_call" (ft C) (af (xV 1) (af (xV 2) aB))))
  (bx (ig (eM (aV (aL (bu C 0 "is_held" (oK C) (af (xV 2) aB))))) (aV (ag (aJ true) (cm C 0 "holder") (xV 1)))) (ip "NotHolder") bD))
noncomputable def dU(C:Addr):FM:=bj 3 3 (mZ C)
noncomputable def ng(C:Addr):SM:=(aA (gS (bu C 0 "check_call" (ft C) (af (xV 1) (af (xV 2) aB))))
  (aA (gS (aG rG (af (xV 3) aB)))
  (aA (cA C 0 "last" (xV 2))
  (aA (bx (eM (aV (aL (bu C 0 "is_held" (oK C) (af (xV 2) aB))))) (qZ C 0 "holds" 1) (bx (aV (ag (aJ true) (cm C 0 "holder") (xV 1))) (bt (xC (.bool false))) bD))
  (aA (cA C 0 "holder" (xV 1))
  (aA (cA C 0 "until" (ag dL (xV 2) (xV 3)))
  (bt (xC (.bool true)))))))))
noncomputable def gj(C:Addr):FM:=bj 4 4 (ng C)
noncomputable def kt(C:Addr):SM:=(aA (bF (oD C 0 "settled" 2) (aI 3))
  (aA (bF (aL (aG iw (af (cm C 0 "zone") (af (ag aO (ag aO (cm C 0 "deeds") (xV 2)) (xC (.int (0)))) (af (xV 3) aB))))) (aI 4))
  (bx (aV (ag gQ (xV 4) (xC .none))) (iO 1 (bW (ai (xV 4) (ai (xV 2) (ai (xV 3) aN))))) bD)))
noncomputable def Co(C:Addr):SM:=(aA (gA 1 (iN aN))
  (aA (jC (il df (ai (eh iJ (ai (cm C 0 "deeds") aN)) aN)) (aI 2) (kt C))
  (bt (kl 1))))
noncomputable def wY(C:Addr):FM:=bj 1 5 (Co C)
noncomputable def wZ:SM:=(bx (eM (aV (aL (aG wV (af (xV 0) aB))))) (ip "NoDeeds") bD)
noncomputable def jK:FM:=bj 1 1 wZ
noncomputable def oV:SM:=(aA (bF (aL (aG cO (aR 0 (aR 1 (af (aL (aG gi (aR 0 (aR 1 (af (dJ (ai (xC (.int 30)) (ai (xC (.int 30)) (ai (xC (.int 1000)) aN)))) aB))))) aB))))) (aI 4))
  (aA (bF (aL (aG gi (aR 0 (aR 1 (af (dJ (ai (xC (.str "all")) (ai (xC (.str "last")) (ai (bW (ai (xC (.str "within")) (ai (xV 4) aN))) aN)))) aB))))) (aI 5))
  (iO 2 (bW (ai (aL (aG mW (aR 0 (aR 1 aB)))) (ai (xV 5) (ai (ag (aJ false) (aL (aG cO (aR 0 (aR 1 (af (xC (.int 2)) aB))))) (xC (.int 0))) aN)))))))
noncomputable def xa:SM:=(aA (gA 2 (iN aN))
  (aA (jC (il df (ai (aL (aG cO (aR 0 (aR 1 (af (aL (aG gi (aR 0 (aR 1 (af (dJ (ai (xC (.int 5)) (ai (xC (.int 5)) (ai (xC (.int 7)) aN)))) aB))))) aB))))) aN)) (aI 3) oV)
  (bt (eh li (ai (xV 2) aN)))))
noncomputable def rO:FM:=bj 2 6 xa
noncomputable def rP(C:Addr):SM:=(aA (gS (bu C 0 "check_holder" (dU C) (af (xV 1) (af (xV 2) aB))))
  (aA (cA C 0 "last" (xV 2))
  (cA C 0 "holder" (xC .none))))
noncomputable def gV(C:Addr):FM:=bj 3 3 (rP C)
noncomputable def nh(C:Addr):SM:=(aA (bF (aL (dq C 0 "first_unsettled" (wY C))) (aI 3))
  (aA (bx (aV (ag lg (xV 3) (xC .none))) (bt (bW (ai (xC (.str "idle")) (ai (xC .none) aN)))) bD)
  (aA (bx (aV (ag ki (ag aO (xV 3) (xC (.int 0))) (xV 2))) (bt (bW (ai (xC (.str "idle")) (ai (ag aO (xV 3) (xC (.int 0))) aN)))) bD)
  (aA (bF (ag aO (xV 3) (xC (.int 1))) (aI 4))
  (aA (bF (ag aO (xV 3) (xC (.int 2))) (aI 5))
  (aA (bF (qG (aV (aL (aG lK (af (cm C 0 "zone") (af (ag aO (cm C 0 "deeds") (xV 4)) (af (xV 5) (af (xV 2) aB))))))) (xC (.str "left")) (xC (.str "begun"))) (aI 6))
  (cN (bu C 0 "add_row" (gf C) (af (bW (ai (xV 2) (ai (xV 1) (ai (xV 6) (ai (xV 4) (ai (xV 5) aN)))))) aB)))))))))
noncomputable def lL(C:Addr):FM:=bj 3 7 (nh C)
noncomputable def oW(C:Addr):SM:=(aA (gS (bu C 0 "check_holder" (dU C) (af (xV 1) (af (xV 2) aB))))
  (aA (bx (eM (aV (aL (dq C 0 "is_busy" (mM C))))) (ip "Nothing") bD)
  (aA (cA C 0 "last" (xV 2))
  (cN (bu C 0 "add_row" (gf C) (af (bW (ai (xV 2) (ai (xV 1) (ai (xC (.str "done")) (ai (ag aO (cm C 0 "begun") (xC (.int 0))) (ai (ag aO (cm C 0 "begun") (xC (.int 1))) aN)))))) aB))))))
noncomputable def gk(C:Addr):FM:=bj 3 3 (oW C)
noncomputable def rQ(C:Addr):XM PyData:=(xC (.int 0))
noncomputable def oX(C:Addr):SM:=(aA (gS (aG ix (af (xV 1) aB)))
  (aA (gS (aG jK (af (xV 2) aB)))
  (aA (cA C 0 "zone" (xV 1))
  (aA (cA C 0 "deeds" (xV 2))
  (aA (cA C 0 "last" (xC .none))
  (aA (cA C 0 "holder" (xC .none))
  (aA (cA C 0 "until" (xC (.int 0)))
  (aA (cA C 0 "holds" (xC (.int 0)))
  (aA (cA C 0 "begun" (xC .none))
  (aA (lF C 0 "rows" (.l []))
  (aA (lF C 0 "words" (.m true []))
  (wb C 0 "settled" 1 [] (lq (xV 2)) (aI 0) fK (rQ C)))))))))))))
noncomputable def iY(C:Addr):FM:=bj 3 3 (oX C)
noncomputable def ni(C:Addr):SM:=(aA (gS (bu C 0 "check_holder" (dU C) (af (xV 1) (af (xV 2) aB))))
  (aA (cA C 0 "last" (xV 2))
  (aA (bx (aV (aL (dq C 0 "is_busy" (mM C)))) (bt (bW (ai (xC (.str "busy")) (ai (ag aO (cm C 0 "begun") (xC (.int 0))) (ai (ag aO (cm C 0 "begun") (xC (.int 1))) aN))))) bD)
  (aA (bx (aV (ag gQ (cm C 0 "begun") (xC .none))) (cN (bu C 0 "step_behind_a_fall" (oN C) (af (xV 1) (af (xV 2) aB)))) bD)
  (cN (bu C 0 "step_ahead" (lL C) (af (xV 1) (af (xV 2) aB))))))))
noncomputable def gl(C:Addr):FM:=bj 3 3 (ni C)
noncomputable def iZ(C:Addr):SM:=(aA (bx (aV (ag (aJ false) (ag aO (xV 1) (xC (.int 0))) (xC (.str "take")))) (cN (bu C 0 "take" (gj C) (af (ag aO (xV 1) (xC (.int 1))) (af (ag aO (xV 1) (xC (.int 2))) (af (ag aO (xV 1) (xC (.int 3))) aB))))) bD)
  (aA (bx (aV (ag (aJ false) (ag aO (xV 1) (xC (.int 0))) (xC (.str "give")))) (cN (bu C 0 "give" (gV C) (af (ag aO (xV 1) (xC (.int 1))) (af (ag aO (xV 1) (xC (.int 2))) aB)))) bD)
  (aA (bx (aV (ag (aJ false) (ag aO (xV 1) (xC (.int 0))) (xC (.str "step")))) (cN (bu C 0 "step" (gl C) (af (ag aO (xV 1) (xC (.int 1))) (af (ag aO (xV 1) (xC (.int 2))) aB)))) bD)
  (cN (bu C 0 "finish" (gk C) (af (ag aO (xV 1) (xC (.int 1))) (af (ag aO (xV 1) (xC (.int 2))) aB)))))))
noncomputable def dW(C:Addr):FM:=bj 2 2 (iZ C)
noncomputable def jb(C:Addr):SM:=(fL cx 2 (aA (bx (aV (ag (aJ false) (ag aO (xV 1) (xC (.int 0))) (xC (.str "take")))) (cN (bu C 0 "take" (gj C) (af (ag aO (xV 1) (xC (.int 1))) (af (ag aO (xV 1) (xC (.int 2))) (af (ag aO (xV 1) (xC (.int 3))) aB))))) bD)
  (aA (bx (aV (ag (aJ false) (ag aO (xV 1) (xC (.int 0))) (xC (.str "give")))) (cN (bu C 0 "give" (gV C) (af (ag aO (xV 1) (xC (.int 1))) (af (ag aO (xV 1) (xC (.int 2))) aB)))) bD)
  (aA (bx (aV (ag (aJ false) (ag aO (xV 1) (xC (.int 0))) (xC (.str "step")))) (cN (bu C 0 "step" (gl C) (af (ag aO (xV 1) (xC (.int 1))) (af (ag aO (xV 1) (xC (.int 2))) aB)))) bD)
  (cN (bu C 0 "finish" (gk C) (af (ag aO (xV 1) (xC (.int 1))) (af (ag aO (xV 1) (xC (.int 2))) aB))))))) (cN (aG fq (aR 2 aB))))
noncomputable def dX(C:Addr):FM:=bj 2 3 (jb C)
noncomputable def oY(C:Addr):SM:=(aA (gS (aG fN (af (xV 1) aB)))
  (ox cx (cN (aG (dW C) (aR 0 (af (xV 1) aB)))) (bt (xC (.str "refused")))))
noncomputable def eP(C:Addr):FM:=bj 2 2 (oY C)
noncomputable def ku(C:Addr):XM PyData:=(aL (aG (eP C) (aR 1 (af (xV 0) aB))))
noncomputable def lM(C:Addr):SM:=(aA (gA 3 (iu C (iY C) (ai (xV 0) (ai (xV 1) aN))))
  (aA (bx (eM (aV (gB "list" (xV 2)))) (ip "NoCall") bD)
  (cN (oF C 3 (ko 1 [3] 0 3 (oo (xV 2)) (aI 0) (ku C))))))
noncomputable def gm(C:Addr):FM:=bj 3 4 (lM C)
noncomputable def oZ(C:Addr):SM:=(fL cx 4 (aA (bx (aV (ag (aJ false) (xV 0) (xC (.int 0)))) (cN (aG (gm C) (af (xV 1) (af (xV 2) (af (xV 3) aB))))) bD)
  (cN (aG (eP C) (aR 1 (af (xV 2) aB))))) (cN (aG fq (aR 4 aB))))
noncomputable def gG(C:Addr):FM:=bj 4 5 (oZ C)
noncomputable def xb(C:Addr):SM:=(gA 1 (iN aN))
noncomputable def xc(C:Addr):SM:=(bF (aL (aG oS (aR 0 (aR 1 aB)))) (aI 2))
noncomputable def xf(C:Addr):SM:=(bF (aL (aG rO (aR 0 (aR 1 aB)))) (aI 3))
noncomputable def xg(C:Addr):SM:=(gA 4 (iu C (iY C) (ai (xV 2) (ai (xV 3) aN))))
noncomputable def xh(C:Addr):SM:=(gA 5 (iN aN))
noncomputable def xi(C:Addr):SM:=(gA 6 (iN aN))
noncomputable def xj(C:Addr):SM:=(bF (xC (.int 0)) (aI 7))
noncomputable def nj(C:Addr):SM:=(aA (bF (aL (aG mY (aR 0 (aR 1 (af (xV 7) (af (ag aO (aL (dq C 4 "held" (mO C))) (xC (.int 0))) aB)))))) (aI 9))
  (aA (bx (aV (ag (aJ false) (aL (aG cO (aR 0 (aR 1 (af (xC (.int 9)) aB))))) (xC (.int 0)))) (bF (aL (aG gi (aR 0 (aR 1 (af (dJ (ai (bW (ai (xC (.str "take")) (ai (xC (.int 9)) (ai (xC (.int 0)) (ai (xC (.int 1)) aN))))) (ai (bW (ai (xC (.str "step")) (ai (xC (.int 0)) (ai (xC .none) aN)))) (ai (bW (ai (xC (.str "give")) (ai (xC (.int 1)) (ai (qF (xC (.int 1))) aN)))) (ai (bW (ai (xC (.str "finish")) (ai (xC .none) (ai (xC (.int 5)) aN)))) aN))))) aB))))) (aI 9)) (bF (ag aO (xV 9) (xC (.int 2))) (aI 7)))
  (aA (bF (aL (aG (dX C) (aR 4 (af (xV 9) aB)))) (aI 10))
  (aA (bx (lh (aV (gB "tuple" (xV 10))) (aV (ag (aJ false) (ag aO (xV 10) (xC (.int 0))) (xC (.str "refused"))))) (bF (xC (.str "refused")) (aI 10)) bD)
  (aA (iO 5 (xV 9))
  (iO 6 (xV 10)))))))
noncomputable def xk(C:Addr):SM:=(jC (il df (ai (aL (aG cO (aR 0 (aR 1 (af (xC (.int 31)) aB))))) aN)) (aI 8) (nj C))
noncomputable def xl(C:Addr):SM:=(wh 11 10 (aG (gm C) (af (xV 2) (af (xV 3) (af (xV 5) aB)))))
noncomputable def xm(C:Addr):SM:=(gA 12 (iu C (iY C) (ai (xV 2) (ai (xV 3) aN))))
noncomputable def lN(C:Addr):XM PyData:=(aL (aG (gG C) (af (xC (.int 1)) (aR 1 (af (xV 0) (af (xC .none) aB))))))
noncomputable def xn(C:Addr):SM:=(bx (ig (aV (ag (aJ true) (xV 10) (xV 6))) (ig (aV (ag (aJ true) (ko 1 [12] 0 12 (oo (xV 5)) (aI 0) (lN C)) (xV 6))) (aV (ag (aJ true) (aL (dq C 11 "log" (jI C))) (aL (dq C 4 "log" (jI C))))))) (bt (xC (.bool false))) bD)
noncomputable def xo(C:Addr):SM:=(bF (aL (aG gi (aR 0 (aR 1 (af (dJ (ai (xC .none) (ai (bW aN) (ai (bW (ai (xC (.str "take")) (ai (xC (.int 1)) (ai (xC (.int 2)) aN)))) (ai (bW (ai (xC (.str "step")) (ai (xC (.int 1)) aN))) (ai (bW (ai (xC (.str "go")) (ai (xC (.int 1)) (ai (xC (.int 2)) aN)))) (ai (dJ (ai (xC (.str "step")) (ai (xC (.int 1)) (ai (xC (.int 2)) aN)))) (ai (xC (.str "step")) aN)))))))) aB))))) (aI 13))
noncomputable def xp(C:Addr):SM:=(bx (aV (ag (aJ true) (aL (aG (gG C) (af (xC (.int 1)) (aR 12 (af (xV 13) (af (xC .none) aB)))))) (bW (ai (xC (.str "refused")) (ai (xC (.int 10)) aN))))) (bt (xC (.bool false))) bD)
noncomputable def xq(C:Addr):SM:=(bx (aV (ag (aJ true) (aL (aG (gG C) (af (xC (.int 0)) (af (xV 2) (af (xV 3) (af (ag jz (xV 5) (dJ (ai (xV 13) aN))) aB)))))) (bW (ai (xC (.str "refused")) (ai (xC (.int 10)) aN))))) (bt (xC (.bool false))) bD)
noncomputable def xr(C:Addr):SM:=(bx (ig (aV (ag (aJ true) (aL (aG (gG C) (af (xC (.int 0)) (af (xV 2) (af (xV 3) (af (eh li (ai (xV 5) aN)) aB)))))) (bW (ai (xC (.str "refused")) (ai (xC (.int 10)) aN))))) (aV (ag (aJ true) (aL (aG (gG C) (af (xC (.int 0)) (af (xV 2) (af (xC .none) (af (xC .none) aB)))))) (bW (ai (xC (.str "refused")) (ai (xC (.int 4)) aN)))))) (bt (xC (.bool false))) bD)
noncomputable def xu(C:Addr):SM:=(bt (ag (aJ false) (aL (aG (gG C) (af (xC (.int 0)) (af (xC .none) (af (xC .none) (af (xC .none) aB)))))) (bW (ai (xC (.str "refused")) (ai (xC (.int 0)) aN)))))
noncomputable def xv(C:Addr):SM:=(aA (xb C)
  (aA (xc C)
  (aA (xf C)
  (aA (xg C)
  (aA (xh C)
  (aA (xi C)
  (aA (xj C)
  (aA (xk C)
  (aA (xl C)
  (aA (xm C)
  (aA (xn C)
  (aA (xo C)
  (aA (xp C)
  (aA (xq C)
  (aA (xr C)
  (xu C))))))))))))))))
noncomputable def Cp(C:Addr):FM:=bj 1 14 (xv C)
end K3
namespace K3
open PySem PySem.Spec L2 L2.L3 PyProof.Rows
noncomputable def top(i:Nat):Stmt:=PySem.Challenge.pw_duehall_k13_runs.main.body.getD i (.Pass ⟨0,0,0,0⟩)
noncomputable abbrev rR:Stmt:=top 25
noncomputable abbrev rS:Stmt:=top 26
noncomputable abbrev rT:Stmt:=top 27
noncomputable abbrev rV:Stmt:=top 28
noncomputable abbrev rW:Stmt:=top 29
noncomputable abbrev rX:Stmt:=top 30
noncomputable abbrev rY:Stmt:=top 31
noncomputable abbrev rZ:Stmt:=top 32
noncomputable abbrev se:Stmt:=top 33
noncomputable abbrev sf:Stmt:=top 34
noncomputable abbrev sg:Stmt:=top 35
noncomputable abbrev sh:Stmt:=top 36
noncomputable abbrev si:Stmt:=top 37
noncomputable abbrev sj:Stmt:=top 38
noncomputable abbrev sk:Stmt:=top 39
noncomputable abbrev so:Stmt:=top 40
noncomputable abbrev sr:Stmt:=top 41
noncomputable abbrev su:Stmt:=top 42
noncomputable abbrev sv:Stmt:=top 45
noncomputable abbrev sx:Stmt:=top 46
noncomputable abbrev sy:Stmt:=top 47
noncomputable abbrev sA:Stmt:=top 48
noncomputable abbrev sB:Stmt:=top 50
noncomputable abbrev sD:Stmt:=top 51
noncomputable abbrev sE:Stmt:=top 52
noncomputable abbrev sF:Stmt:=top 57
noncomputable abbrev sG:Stmt:=fE (top 58) 0
noncomputable abbrev sH:Stmt:=fE (top 58) 1
noncomputable abbrev sI:Stmt:=fE (top 58) 2
noncomputable abbrev sJ:Stmt:=fE (top 58) 3
noncomputable abbrev sK:Stmt:=fE (top 58) 4
noncomputable abbrev sL:Stmt:=fE (top 58) 5
noncomputable abbrev sM:Stmt:=fE (top 58) 6
noncomputable abbrev sN:Stmt:=fE (top 58) 7
noncomputable abbrev sO:Stmt:=fE (top 58) 8
noncomputable abbrev sP:Stmt:=fE (top 58) 9
noncomputable abbrev sQ:Stmt:=fE (top 58) 10
noncomputable abbrev sR:Stmt:=fE (top 58) 11
noncomputable abbrev sS:Stmt:=fE (top 58) 12
noncomputable abbrev sT:Stmt:=fE (top 58) 14
noncomputable abbrev sU:Stmt:=fE (top 58) 15
noncomputable abbrev sV:Stmt:=top 61
noncomputable abbrev sW:Stmt:=top 62
noncomputable abbrev sX:Stmt:=top 63
noncomputable abbrev sY:Stmt:=top 64
noncomputable abbrev sZ:Stmt:=top 66
noncomputable abbrev tf:Stmt:=top 67
noncomputable abbrev tj:Stmt:=top 68
noncomputable abbrev tm:Stmt:=top 69
noncomputable abbrev tp:Stmt:=top 70
noncomputable abbrev tq:Stmt:=top 71
noncomputable abbrev tt:Stmt:=top 72
noncomputable abbrev tu:Stmt:=top 73
noncomputable abbrev tw:Stmt:=top 74
noncomputable abbrev tx:Stmt:=top 75
noncomputable abbrev tz:Stmt:=top 76
noncomputable abbrev kv:Stmt:=top 77
theorem MM:aa ["thing","least","most"] ["thing","least","most"] (be rR):=bB
theorem MN:aa ["thing","length"] ["thing","length"] (be rS):=bB
theorem MO:aa ["thing"] ["thing"] (be rT):=bB
theorem MP:aa ["thing"] ["thing"] (be rV):=bB
theorem MQ:aa ["thing"] ["thing"] (be rW):=bB
theorem MR:aa ["thing"] ["thing"] (be rX):=bB
theorem tD:aa ["thing","earliest","shift"] ["thing"] (be rY):=bB
theorem MS:aa ["thing"] ["thing"] (be rZ):=bB
theorem MT:aa ["thing","word","length"] ["thing","word","length"] (be se):=bB
theorem MU:aa ["thing"] ["thing"] (be sf):=bB
theorem MV:aa ["thing"] ["thing"] (be sg):=bB
theorem MW:aa ["thing"] ["thing"] (be sh):=bB
theorem MX:aa ["thing"] ["thing"] (be si):=bB
theorem MY:aa ["thing"] ["thing"] (be sj):=bB
theorem MZ:aa ["thing"] ["thing"] (be sk):=bB
theorem Na:aa ["thing"] ["thing"] (be so):=bB
theorem Nb:aa ["thing"] ["thing"] (be sr):=bB
theorem Nc:aa ["thing"] ["thing"] (be su):=bB
theorem tE:aa ["zone","moment","ahead","shift"] ["zone","moment"] (be sv):=bB
theorem tF:aa ["zone","starts","ends","aheads"] ["zone"] (be sx):=bB
theorem Nd:aa ["moment","end"] ["moment","end"] (be sy):=bB
theorem Cq:aa ["zone","hours","reached"] ["zone","hours"] (be sA):=bB
theorem Nf:aa ["zone","hour"] ["zone","hour"] (be sB):=bB
theorem Cr:aa ["zone","hour","count","day"] ["zone","hour","count"] (be sD):=bB
theorem Ng:aa ["zone","plan","count"] ["zone","plan","count"] (be sE):=bB
theorem Cs:aa ["zone","deed","count","now","later"] ["zone","deed","count","now"] (be sF):=bB
theorem Nh:aa ["self","zone","deeds"] ["self","zone","deeds"] (be sG):=bB
theorem Ni:aa ["self","moment"] ["self","moment"] (be sH):=bB
theorem Nj:aa ["self","runner","moment"] ["self","runner","moment"] (be sI):=bB
theorem Nk:aa ["self","runner","moment"] ["self","runner","moment"] (be sJ):=bB
theorem Nl:aa ["self","runner","moment","term"] ["self","runner","moment","term"] (be sK):=bB
theorem Nm:aa ["self","runner","moment"] ["self","runner","moment"] (be sL):=bB
theorem tG:aa ["self","row","word","deed","count"] ["self","row"] (be sM):=bB
theorem Nn:aa ["self"] ["self"] (be sN):=bB
theorem pb:aa ["self","found","deed","count","moment"] ["self"] (be sO):=bB
theorem No:aa ["self","runner","moment"] ["self","runner","moment"] (be sP):=bB
theorem xw:aa ["self","runner","moment","deed","word"] ["self","runner","moment"] (be sQ):=bB
theorem pc:aa ["self","runner","moment","found","deed","count","word"] ["self","runner","moment"] (be sR):=bB
theorem Np:aa ["self","runner","moment"] ["self","runner","moment"] (be sS):=bB
theorem Nq:aa ["self"] ["self"] (be sT):=bB
theorem Nr:aa ["self"] ["self"] (be sU):=bB
theorem Nt:aa ["thing"] ["thing"] (be sV):=bB
theorem Nu:aa ["hall","call"] ["hall","call"] (be sW):=bB
theorem Nv:aa ["hall","call"] ["hall","call"] (be sX):=bB
theorem Ct:aa ["zone","deeds","calls","hall"] ["zone","deeds","calls"] (be sY):=bB
theorem Nw:aa ["_law_script","_law_k"] ["_law_script","_law_k"] (be sZ):=bB
theorem Cu:aa ["_law_script","_law_k","_law_many","_law_drawn"] ["_law_script","_law_k","_law_many"] (be tf):=bB
theorem Nx:aa ["_law_script","_law_town","_law_many"] ["_law_script","_law_town","_law_many"] (be tj):=bB
theorem Ny:aa ["_law_script","_law_town","_law_some"] ["_law_script","_law_town","_law_some"] (be tm):=bB
theorem nk:aa ["_law_script","_law_town","_law_shifts","_law_moment","_law_k"] ["_law_script","_law_town"] (be tp):=bB
theorem xx:aa ["_law_script","_law_town","_law_kind","_law_step"] ["_law_script","_law_town"] (be tq):=bB
theorem pd:aa ["_law_script","_law_town","_law_made","_law_k","_law_hours","_law_late"] ["_law_script","_law_town"] (be tt):=bB
theorem ph:aa ["_law_script","_law_town","_law_now","_law_holder","_law_runner","_law_moment","_law_kind"] ["_law_script","_law_town","_law_now","_law_holder"] (be tu):=bB
theorem Cw:aa ["_law_e","_law_own"] ["_law_e"] (be tw):=bB
theorem Cy:aa ["_law_hall","_law_call_here","_law_e"] ["_law_hall","_law_call_here"] (be tx):=bB
theorem Cz:aa ["_law_what","_law_one","_law_other","_law_third","_law_e"] ["_law_what","_law_one","_law_other","_law_third"] (be tz):=bB
theorem eQ:aa ["_law_script","_law_town","_law_zone_here","_law_deeds_here","_law_hall","_law_calls","_law_wish","_law_now","_law_k","_law_call_here","_law_told","_law_here","_law_other","_law_bad"] ["_law_script"] (be kv):=bB
structure Tx (P:Program) (w:World) (K:Frag) (mg:Str->Option Value):Prop where
 d00:∃g fd,FD K mg "is_whole" rR ["thing","least","most"] g fd
 d01:∃g fd,FD K mg "is_tuple_of" rS ["thing","length"] g fd
 d02:∃g fd,FD K mg "is_ahead" rT ["thing"] g fd
 d03:∃g fd,FD K mg "is_moment" rV ["thing"] g fd
 d04:∃g fd,FD K mg "is_runner" rW ["thing"] g fd
 d05:∃g fd,FD K mg "is_term" rX ["thing"] g fd
 d06:∃g fd,FD K mg "are_shifts" rY ["thing"] g fd
 d07:∃g fd,FD K mg "is_zone" rZ ["thing"] g fd
 d08:∃g fd,FD K mg "has_word" se ["thing","word","length"] g fd
 d09:∃g fd,FD K mg "is_plan" sf ["thing"] g fd
 d0a:∃g fd,FD K mg "is_late" sg ["thing"] g fd
 d0b:∃g fd,FD K mg "is_deed" sh ["thing"] g fd
 d0c:∃g fd,FD K mg "are_deeds" si ["thing"] g fd
 d0d:∃g fd,FD K mg "check_zone" sj ["thing"] g fd
 d0e:∃g fd,FD K mg "check_moment" sk ["thing"] g fd
 d0f:∃g fd,FD K mg "check_deeds" so ["thing"] g fd
 d0g:∃g fd,FD K mg "check_runner" sr ["thing"] g fd
 d0h:∃g fd,FD K mg "check_term" su ["thing"] g fd
 d0i:∃g fd,FD K mg "shown" sv ["zone","moment"] g fd
 d0j:∃g fd,FD K mg "stretches" sx ["zone"] g fd
 d0k:∃g fd,FD K mg "is_ahead_of" sy ["moment","end"] g fd
 d0l:∃g fd,FD K mg "first_showing" sA ["zone","hours"] g fd
 d0m:∃g fd,FD K mg "first_day" sB ["zone","hour"] g fd
 d0n:∃g fd,FD K mg "daily_time" sD ["zone","hour","count"] g fd
 d0o:∃g fd,FD K mg "time_of" sE ["zone","plan","count"] g fd
 d0p:∃g fd,FD K mg "is_left_out" sF ["zone","deed","count","now"] g fd
 d0q:∃g fd,FD K mg "check_call" sV ["thing"] g fd
 d0r:∃g fd,FD K mg "ask" sW ["hall","call"] g fd
 d0s:∃g fd,FD K mg "do" sX ["hall","call"] g fd
 d0t:∃g fd,FD K mg "run" sY ["zone","deeds","calls"] g fd
 d0u:∃g fd,FD K mg "_law_cell_at" sZ ["_law_script","_law_k"] g fd
 d0v:∃g fd,FD K mg "_law_mixed" tf ["_law_script","_law_k","_law_many"] g fd
 d0w:∃g fd,FD K mg "_law_draw" tj ["_law_script","_law_town","_law_many"] g fd
 d0x:∃g fd,FD K mg "_law_pick" tm ["_law_script","_law_town","_law_some"] g fd
 d0y:∃g fd,FD K mg "_law_zone" tp ["_law_script","_law_town"] g fd
 d0z:∃g fd,FD K mg "_law_plan" tq ["_law_script","_law_town"] g fd
 d10:∃g fd,FD K mg "_law_deeds" tt ["_law_script","_law_town"] g fd
 d11:∃g fd,FD K mg "_law_call" tu ["_law_script","_law_town","_law_now","_law_holder"] g fd
 d12:∃g fd,FD K mg "_law_which" tw ["_law_e"] g fd
 d13:∃g fd,FD K mg "_law_do" tx ["_law_hall","_law_call_here"] g fd
 d14:∃g fd,FD K mg "_law_asked" tz ["_law_what","_law_one","_law_other","_law_third"] g fd
 d15:∃t,mg "LAST_MOMENT" = some (.int (9999) t)
 d16:∃t,mg "LAST_HOUR" = some (.int (23) t)
 d17:∃t,mg "LEAST_AHEAD" = some (.int (-12) t)
 d18:∃t,mg "MOST_AHEAD" = some (.int (14) t)
 d19:∃t,mg "MOST_SHIFTS" = some (.int (6) t)
 d1a:∃t,mg "MOST_STEP" = some (.int (999) t)
 d1b:∃t,mg "MOST_DEEDS" = some (.int (6) t)
 d1c:∃t,mg "MOST_WITHIN" = some (.int (999) t)
 d1d:∃t,mg "LAST_RUNNER" = some (.int (3) t)
 d1e:∃t,mg "MOST_TERM" = some (.int (99) t)
 d1f:∃t,mg "DAY_HOURS" = some (.int (24) t)
 d1g:∃t,mg "PLAN" = some (.int (0) t)
 d1h:∃t,mg "LATE" = some (.int (1) t)
 d1i:∃t,mg "AGAIN" = some (.int (2) t)
 d1j:∃d,mg "LENGTHS" = some (.ref d)/\Ca P w K d [("take",4),("give",3),("step",3),("finish",3)]
 d1k:mg "ValueError" = none
 d1l:mg "all" = none
 d1m:mg "any" = none
 d1n:mg "bool" = none
 d1o:mg "enumerate" = none
 d1p:mg "int" = none
 d1q:mg "isinstance" = none
 d1r:mg "len" = none
 d1s:mg "list" = none
 d1t:mg "max" = none
 d1u:mg "min" = none
 d1v:mg "range" = none
 d1w:mg "str" = none
 d1x:mg "tuple" = none
 d1y:mg "zip" = none
 xt0:∃D,XT K mg cx D
structure dt (K:Frag) (mg:Str->Option Value) (C:Addr):Prop where
 cl:da K C
 mg:mg "Hall" = some (.ref C)
 mks:PySem.W.makesIn K C=true
 kpC:keepIn K (.ref C)=true
 d1z:cL K C "begun"
 d20:cL K C "deeds"
 d21:cL K C "holder"
 d22:cL K C "holds"
 d23:cL K C "last"
 d24:cL K C "rows"
 d25:cL K C "settled"
 d26:cL K C "until"
 d27:cL K C "words"
 d28:cL K C "zone"
 d29:∃g fd,MD K C "__init__" "Hall.__init__" sG ["self","zone","deeds"] g fd
 d2a:∃g fd,MD K C "is_held" "Hall.is_held" sH ["self","moment"] g fd
 d2b:∃g fd,MD K C "check_call" "Hall.check_call" sI ["self","runner","moment"] g fd
 d2c:∃g fd,MD K C "check_holder" "Hall.check_holder" sJ ["self","runner","moment"] g fd
 d2d:∃g fd,MD K C "take" "Hall.take" sK ["self","runner","moment","term"] g fd
 d2e:∃g fd,MD K C "give" "Hall.give" sL ["self","runner","moment"] g fd
 d2f:∃g fd,MD K C "add_row" "Hall.add_row" sM ["self","row"] g fd
 d2g:∃g fd,MD K C "is_busy" "Hall.is_busy" sN ["self"] g fd
 d2h:∃g fd,MD K C "first_unsettled" "Hall.first_unsettled" sO ["self"] g fd
 d2i:∃g fd,MD K C "step" "Hall.step" sP ["self","runner","moment"] g fd
 d2j:∃g fd,MD K C "step_behind_a_fall" "Hall.step_behind_a_fall" sQ ["self","runner","moment"] g fd
 d2k:∃g fd,MD K C "step_ahead" "Hall.step_ahead" sR ["self","runner","moment"] g fd
 d2l:∃g fd,MD K C "finish" "Hall.finish" sS ["self","runner","moment"] g fd
 d2m:∃g fd,MD K C "held" "Hall.held" sT ["self"] g fd
 d2n:∃g fd,MD K C "log" "Hall.log" sU ["self"] g fd
theorem dt.make{K:Frag}{a:Str->Option Value}{C g:Addr}(h:dt K a C)(M:hU K C "__init__" g):Mk K C g:=⟨h.mks,M.at_,M.fn,h.kpC⟩
theorem Nz:bootBuiltins "int" = some (.type "int"):=by decide +kernel
theorem CA:bootBuiltins "bool" = some (.type "bool"):=by decide +kernel
theorem CB:bootBuiltins "str" = some (.type "str"):=by decide +kernel
theorem lO:bootBuiltins "tuple" = some (.type "tuple"):=by decide +kernel
theorem NA:bootBuiltins "list" = some (.type "list"):=by decide +kernel
theorem CC:bootBuiltins "max" = some (.builtin "max"):=by decide +kernel
theorem QT:bootBuiltins "divmod" = some (.builtin "divmod"):=by decide +kernel
theorem NB:bootBuiltins "all" = some (.builtin "all"):=by decide +kernel
theorem NC:bootBuiltins "any" = some (.builtin "any"):=by decide +kernel
theorem QU:bootBuiltins "sum" = some (.builtin "sum"):=by decide +kernel
theorem QV:bootBuiltins "min" = some (.builtin "min"):=by decide +kernel
theorem QW:bootBuiltins "sorted" = some (.builtin "sorted"):=by decide +kernel
theorem ND{k:Nat}{A:Around}(r:cp k A):A.units+64<cLine:=by have:=r.un;omega
theorem iy{X:Cx}{F:Fx}(a:GF X.mg F):dO X F eN:=⟨a,fun _ _ _ _ _ _ _ _ _ _ z=>z.elim⟩
end K3
namespace K3
open PySem PySem.Spec L2 L2.L3 PyProof.Rows
local macro_rules | `(tactic| walk_at "z")=>`(tactic| first|rfl|exact .inl rfl|exact .inr rfl|assumption|exact fun _=>rfl)
section
variable(P:Program)(w:World){K:Frag}{mg:Str->Option Value}(base:Heap)
theorem lP{g:Addr}{fd:FuncData}(T:Tx P w K mg)(D:FD K mg "is_whole" rR ["thing","least","most"] g fd):az P w K mg base (ba P w) 1 g fd ["thing","least","most"] (bc K mg gF):=by
 refine bC D.fn MM (by decide) ?_;intro b A a s H E F c d e;unfold oI;refine aE ?_;refine bA ?_
 ·exact(fg (iM (iI rfl T.d1q (fv 0) (hI rfl T.d1p Nz rfl))) (fg (KR (iM (iI rfl T.d1q (fv 0) (hI rfl T.d1n CA rfl)))) (gz (LQ (fv 1) (fv 0) (fv 2)))))
theorem tH{g:Addr}{fd:FuncData}(T:Tx P w K mg)(D:FD K mg "is_tuple_of" rS ["thing","length"] g fd):az P w K mg base (ba P w) 1 g fd ["thing","length"] (bc K mg kr):=by
 refine bC D.fn MN (by decide) ?_;intro b A a s H E F d c e;unfold ri;refine aE ?_;refine bA ?_
 ·exact(fg (iM (iI rfl T.d1q (fv 0) (hI rfl T.d1x lO rfl))) (gz (lB c.units (gR on (jx kQ oi rfl T.d1r PySem.boot_len (av (fv 0) aY))) (fv 1))))
theorem NE{g:Addr}{fd:FuncData}(T:Tx P w K mg)(D:FD K mg "shown" sv ["zone","moment"] g fd):az P w K mg base (ba P w) 1 g fd ["zone","moment"] (bc K mg rm):=by
 refine bC D.fn tE (by decide) ?_;intro b A a s H E F c d e;unfold wt;refine aD ?_ ?_
 ·refine bU (i:=2) ?_ ?_ ?_ ?_ ?_ ?_<;>try walk_at "z"
  ·exact tE.nd
  ·exact(aX (fv 0) (ae au))
 refine aD ?_ ?_
 ·refine mx ?_ ?_ ?_ ?_ ?_ ?_<;>try walk_at "z"
  ·exact PassesOwn.leaving
  ·exact(my (aX (fv 0) (ae au)))
  ·exact(ej 3 tE.nd)
  ·unfold rk;refine aE ?_;refine bH ?_ ?_ ?_
   ·exact(LO (aX (fv 3) (ae au)) (fv 1))
   ·refine aE ?_;refine bU (i:=2) ?_ ?_ ?_ ?_ ?_ ?_<;>try walk_at "z"
    ·exact tE.nd
    ·exact(aX (fv 3) (ae au))
   ·exact bJ
 refine aE ?_;refine bA ?_
 ·exact(ei (fv 1) (fv 2))
theorem NF{g:Addr}{fd:FuncData}(T:Tx P w K mg)(D:FD K mg "stretches" sx ["zone"] g fd):az P w K mg base (ba P w) 1 g fd ["zone"] (bc K mg rn):=by
 refine bC D.fn tF (by decide) ?_;intro c A a s H E F e f b;unfold wx;refine aD ?_ ?_
 ·refine bU (i:=1) ?_ ?_ ?_ ?_ ?_ ?_<;>try walk_at "z"
  ·exact tF.nd
  ·exact(qV (et (av (ae au) aY)) (qN b.1 (aq.of (own:=["shift"]) (capN:=[]) (caps:=[])) rfl rfl (my (aX (fv 0) (ae au))) (fun _ _ _ _ _ _ d=>⟨(ej 0 (show((["shift"]:List Str)++([]:List Str)).Nodup from by decide +kernel)),mz,(aX (fv 0) (ae au))⟩)))
 refine aD ?_ ?_
 ·refine bU (i:=2) ?_ ?_ ?_ ?_ ?_ ?_<;>try walk_at "z"
  ·exact tF.nd
  ·exact(qV (Lo (Ki (k:=1) (fv 1))) (et (av (ae cM) aY)))
 refine aD ?_ ?_
 ·refine bU (i:=3) ?_ ?_ ?_ ?_ ?_ ?_<;>try walk_at "z"
  ·exact tF.nd
  ·exact(qV (et (av (aX (fv 0) (ae au)) aY)) (qN b.1 (aq.of (own:=["shift"]) (capN:=[]) (caps:=[])) rfl rfl (my (aX (fv 0) (ae au))) (fun _ _ _ _ _ _ d=>⟨(ej 0 (show((["shift"]:List Str)++([]:List Str)).Nodup from by decide +kernel)),mz,(aX (fv 0) (ae au))⟩)))
 refine aE ?_;refine bA ?_
 ·exact(Ln (Kh rfl rfl T.d1s rfl T.d1y (av (fv 1) (av (fv 2) (av (fv 3) aY)))))
theorem NG{g:Addr}{fd:FuncData}(T:Tx P w K mg)(D:FD K mg "is_ahead_of" sy ["moment","end"] g fd):az P w K mg base (ba P w) 1 g fd ["moment","end"] (bc K mg ro):=by
 refine bC D.fn Nd (by decide) ?_;intro b A a s H E F c d e;unfold wy;refine aE ?_;refine bA ?_
 ·exact(AQ (LP (fv 1) (ae cM)) (gz (BG (fv 0) (fv 1))))
theorem NH{g:Addr}{fd:FuncData}(T:Tx P w K mg)(D:FD K mg "_law_cell_at" sZ ["_law_script","_law_k"] g fd):az P w K mg base (ba P w) 1 g fd ["_law_script","_law_k"] (bc K mg mK):=by
 refine bC D.fn Nw (by decide) ?_;intro b A a s H E F d c e;unfold oJ;refine aD ?_ ?_
 ·refine bH ?_ ?_ ?_
  ·exact(qW (fv 1) (AS (AB rfl T.d1r (pv 0))))
  ·refine aE ?_;refine bA ?_
   ·exact(AU (AD (pv 0) (fv 1) (by intro _ _;rfl)))
  ·exact bJ
 refine aD ?_ ?_
 ·refine bH ?_ ?_ ?_
  ·exact(KY (Km c.units (pv 0)))
  ·refine aE ?_;refine bA ?_
   ·exact(ae au)
  ·exact bJ
 refine aE ?_;refine bA ?_
 ·exact(ei (lA (AU (AD (pv 0) (oz (fv 1) (AS (AB rfl T.d1r (pv 0)))) (by intro _ _;rfl))) (ae au)) (fv 1))
theorem CD{g:Addr}{fd:FuncData}(T:Tx P w K mg)(D:FD K mg "_law_which" tw ["_law_e"] g fd):eO P w K mg base (ba P w) 1 g fd ["_law_e"] (bc K mg fq):=by
 obtain⟨c,a⟩:=T.xt0;refine Lx D.fn Cw (by decide) ?_;intro d A b s H E F f e h;unfold Cm;refine aD ?_ ?_
 ·refine iK (i:=1) ?_ ?_ ?_ ?_ ?_ ?_<;>try walk_at "z"
  ·exact Cw.nd
  ·exact(ls (av (iq a rfl T.d1q (pv 0) rfl (by decide +kernel)) (av (iq a rfl T.d1q (pv 0) rfl (by decide +kernel)) (av (iq a rfl T.d1q (pv 0) rfl (by decide +kernel)) (av (iq a rfl T.d1q (pv 0) rfl (by decide +kernel)) aY)))))
 refine aD ?_ ?_
 ·refine BA ?_ ?_ ?_ ?_ ?_ ?_ ?_ ?_<;>try walk_at "z"
  ·exact(pv 1)
  ·exact(et (av (iq a rfl T.d1q (pv 0) rfl (by decide +kernel)) (av (iq a rfl T.d1q (pv 0) rfl (by decide +kernel)) (av (iq a rfl T.d1q (pv 0) rfl (by decide +kernel)) (av (iq a rfl T.d1q (pv 0) rfl (by decide +kernel)) aY)))))
 refine aD ?_ ?_
 ·refine BA ?_ ?_ ?_ ?_ ?_ ?_ ?_ ?_<;>try walk_at "z"
  ·exact(pv 1)
  ·exact(et (av (iq a rfl T.d1q (pv 0) rfl (by decide +kernel)) (av (iq a rfl T.d1q (pv 0) rfl (by decide +kernel)) (av (iq a rfl T.d1q (pv 0) rfl (by decide +kernel)) aY))))
 refine aD ?_ ?_
 ·refine bH ?_ ?_ ?_
  ·exact(ij (jA (iV (ND e) (Bz (g:=qQ) PySem.F.slot_list_count PySem.F.type_list_count LC LF (pv 1) (ae fU)) (ae au)) (jZ (fh (dk (di (LI a rfl T.d1q (pv 0) rfl T.d1k)))))))
  ·refine aE ?_;refine bA ?_
   ·exact(cb (av (ae bE) (av (vl (ae au)) aY)))
  ·exact bJ
 refine aE ?_;refine bA ?_
 ·exact(cb (av (ae bE) (av (Bz (g:=qR) PySem.F.slot_list_index PySem.F.type_list_index LD LG (pv 1) (ae fU)) aY)))
theorem CF{C:Addr}{g:Addr}{fd:FuncData}(T:Tx P w K mg)(a:dt K mg C)(D:MD K C "is_held" "Hall.is_held" sH ["self","moment"] g fd):az P w K mg base (ba P w) 1 g fd ["self","moment"] (bc K mg (oK C)):=by
 refine bC D.fn Ni (by decide) ?_;intro c A b s H E F d e f;unfold wz;refine aE ?_;refine bA ?_
 ·exact(fg (vV (cY a.cl a.d21 (pv 0)) (ae cM)) (gz (BG (fv 1) (cY a.cl a.d26 (pv 0)))))
theorem xy{C:Addr}{g:Addr}{fd:FuncData}(T:Tx P w K mg)(a:dt K mg C)(D:MD K C "add_row" "Hall.add_row" sM ["self","row"] g fd):az P w K mg base (ba P w) 1 g fd ["self","row"] (bc K mg (gf C)):=by
 refine bC D.fn tG (by decide) ?_;intro d A b s H E F e c f;unfold mL;refine aD ?_ ?_
 ·refine bU (i:=2) ?_ ?_ ?_ ?_ ?_ ?_<;>try walk_at "z"
  ·exact tG.nd
  ·exact(aX (fv 1) (ae au))
 refine aD ?_ ?_
 ·refine bU (i:=3) ?_ ?_ ?_ ?_ ?_ ?_<;>try walk_at "z"
  ·exact tG.nd
  ·exact(aX (fv 1) (ae au))
 refine aD ?_ ?_
 ·refine bU (i:=4) ?_ ?_ ?_ ?_ ?_ ?_<;>try walk_at "z"
  ·exact tG.nd
  ·exact(aX (fv 1) (ae au))
 refine aD ?_ ?_
 ·refine LX ?_ ?_ ?_ ?_ ?_ ?_ ?_ ?_ ?_ ?_ ?_<;>try walk_at "z"
  ·exact a.cl
  ·exact a.d24
  ·exact(pv 0)
  ·exact(pv 1)
 refine aD ?_ ?_
 ·refine LY ?_ ?_ ?_ ?_ ?_ ?_ ?_ ?_ ?_ ?_ ?_<;>try walk_at "z"
  ·exact(zt c)
  ·exact a.cl
  ·exact a.d27
  ·exact(pv 0)
  ·exact(pv 3)
  ·exact(pv 4)
  ·exact(fv 2)
 refine aD ?_ ?_
 ·refine bH ?_ ?_ ?_
  ·exact(eB c.units (fv 2) (ae bE))
  ·refine aE ?_;refine fm ?_ ?_ ?_ ?_ ?_
   ·exact a.cl
   ·exact a.d1z
   ·exact(pv 0)
   ·exact(cb (av (fv 3) (av (fv 4) (av (cY a.cl a.d22 (pv 0)) aY))))
   ·rfl
  ·refine aD ?_ ?_
   ·refine fm ?_ ?_ ?_ ?_ ?_
    ·exact a.cl
    ·exact a.d1z
    ·exact(pv 0)
    ·exact(ae cM)
    ·rfl
   refine aE ?_;refine Ma ?_ ?_ ?_ ?_ ?_ ?_ ?_ ?_ ?_ ?_<;>try walk_at "z"
   ·exact a.cl
   ·exact a.d25
   ·exact(pv 0)
   ·exact(pv 3)
   ·exact(ei (fv 4) (ae au))
 refine aE ?_;refine bA ?_
 ·exact(cb (av (fv 2) (av (fv 3) (av (fv 4) aY))))
theorem CG{C:Addr}{g:Addr}{fd:FuncData}(T:Tx P w K mg)(a:dt K mg C)(D:MD K C "is_busy" "Hall.is_busy" sN ["self"] g fd):az P w K mg base (ba P w) 1 g fd ["self"] (bc K mg (mM C)):=by
 refine bC D.fn Nn (by decide) ?_;intro c A b s H E F e d f;unfold rp;refine aE ?_;refine bA ?_
 ·exact(fg (vV (cY a.cl a.d1z (pv 0)) (ae cM)) (gz (lB d.units (aX (cY a.cl a.d1z (pv 0)) (ae au)) (cY a.cl a.d22 (pv 0)))))
theorem NJ{C:Addr}{g:Addr}{fd:FuncData}(T:Tx P w K mg)(a:dt K mg C)(D:MD K C "held" "Hall.held" sT ["self"] g fd):az P w K mg base (ba P w) 1 g fd ["self"] (bc K mg (mO C)):=by
 refine bC D.fn Nq (by decide) ?_;intro c A b s H E F d e f;unfold wA;refine aE ?_;refine bA ?_
 ·exact(cb (av (cY a.cl a.d21 (pv 0)) (av (cY a.cl a.d26 (pv 0)) (av (cY a.cl a.d22 (pv 0)) aY))))
theorem NK{C:Addr}{g:Addr}{fd:FuncData}(T:Tx P w K mg)(b:dt K mg C)(D:MD K C "log" "Hall.log" sU ["self"] g fd):az P w K mg base (ba P w) 1 g fd ["self"] (bc K mg (jI C)):=by
 refine bC D.fn Nr (by decide) ?_;intro c A a s H E F d e f;unfold wB;refine aE ?_;refine bA ?_
 ·exact(Me rfl T.d1s b.cl b.d24 (pv 0))
theorem CH{g:Addr}{fd:FuncData}(T:Tx P w K mg)(D:FD K mg "is_ahead" rT ["thing"] g fd):az P w K mg base (ba P w) 2 g fd ["thing"] (bc K mg oM):=by
 obtain⟨l,m,f⟩:=T.d00;have h:=lP P w base T f;obtain⟨c,a⟩:=T.d17;obtain⟨d,b⟩:=T.d18;refine bC D.fn MO (by decide) ?_;intro i A e s H E F n j k;unfold wC;refine aE ?_;refine cR ?_
 ·exact(aS k h f j (ao (fv 0) (ao (ae (dR rfl a)) (ao (ae (dR rfl b)) aF))))
theorem CI{g:Addr}{fd:FuncData}(T:Tx P w K mg)(D:FD K mg "is_moment" rV ["thing"] g fd):az P w K mg base (ba P w) 2 g fd ["thing"] (bc K mg mP):=by
 obtain⟨j,k,d⟩:=T.d00;have e:=lP P w base T d;obtain⟨b,a⟩:=T.d15;refine bC D.fn MP (by decide) ?_;intro f A c s H E F l h i;unfold wD;refine aE ?_;refine cR ?_
 ·exact(aS i e d h (ao (fv 0) (ao (ae au) (ao (ae (dR rfl a)) aF))))
theorem NL{g:Addr}{fd:FuncData}(T:Tx P w K mg)(D:FD K mg "is_runner" rW ["thing"] g fd):az P w K mg base (ba P w) 2 g fd ["thing"] (bc K mg rq):=by
 obtain⟨j,k,d⟩:=T.d00;have e:=lP P w base T d;obtain⟨b,a⟩:=T.d1d;refine bC D.fn MQ (by decide) ?_;intro f A c s H E F l h i;unfold wE;refine aE ?_;refine cR ?_
 ·exact(aS i e d h (ao (fv 0) (ao (ae au) (ao (ae (dR rfl a)) aF))))
theorem NM{g:Addr}{fd:FuncData}(T:Tx P w K mg)(D:FD K mg "is_term" rX ["thing"] g fd):az P w K mg base (ba P w) 2 g fd ["thing"] (bc K mg rs):=by
 obtain⟨j,k,d⟩:=T.d00;have e:=lP P w base T d;obtain⟨b,a⟩:=T.d1e;refine bC D.fn MR (by decide) ?_;intro f A c s H E F l h i;unfold wF;refine aE ?_;refine cR ?_
 ·exact(aS i e d h (ao (fv 0) (ao (ae au) (ao (ae (dR rfl a)) aF))))
theorem xz{g:Addr}{fd:FuncData}(T:Tx P w K mg)(D:FD K mg "has_word" se ["thing","word","length"] g fd):az P w K mg base (ba P w) 2 g fd ["thing","word","length"] (bc K mg jJ):=by
 obtain⟨h,i,b⟩:=T.d01;have d:=tH P w base T b;refine bC D.fn MT (by decide) ?_;intro e A a s H E F j c f;unfold ry;refine aE ?_;refine bA ?_
 ·exact(fg (aW (aS f d b c (ao (fv 0) (ao (fv 2) aF)))) (fg (iM (iI rfl T.d1q (aX (fv 0) (ae au)) (hI rfl T.d1w CB rfl))) (gz (lB c.units (aX (fv 0) (ae au)) (fv 1)))))
theorem NN{g:Addr}{fd:FuncData}(T:Tx P w K mg)(D:FD K mg "first_showing" sA ["zone","hours"] g fd):az P w K mg base (ba P w) 2 g fd ["zone","hours"] (bc K mg rz):=by
 obtain⟨l,m,b⟩:=T.d0j;have f:=NF P w base T b;obtain⟨g1,f1,c⟩:=T.d0k;have h:=NG P w base T c;refine bC D.fn Cq (by decide) ?_;intro j A a s H E F o d e;unfold wI;refine aD ?_ ?_
 ·refine Ba (i:=2) (own:=["start","end","ahead"]) (capN:=["hours"]) (caps:=[1]) ?_ ?_ ?_ ?_ ?_ ?_ ?_ ?_ ?_ ?_ ?_ ?_<;>try walk_at "z"
  ·exact Cq.nd
  ·exact e.1
  ·exact(aq.of (own:=["start","end","ahead"]) (capN:=["hours"]) (caps:=[1]))
  ·exact(vF (aW (aS e f b d (ao (fv 0) aF))))
  ·exact(fun _ _ _ _ _ _ k=>⟨(vB (n:=3) rfl (lm (ej 0 (show((["start","end","ahead"]:List Str)++(["hours"]:List Str)).Nodup from by decide +kernel)) (lm (ej 1 (show((["start","end","ahead"]:List Str)++(["hours"]:List Str)).Nodup from by decide +kernel)) (lm (ej 2 (show((["start","end","ahead"]:List Str)++(["hours"]:List Str)).Nodup from by decide +kernel)) vA)))),(Lf (dk (di (aW (aS (iy k) h c d (ao (gR AR (jx (yR rfl) Au rfl T.d1t CC (av (fv 0) (av (lz (fv 3) (fv 2)) aY)))) (ao (fv 1) aF))))))),(gR AR (jx (yR rfl) Au rfl T.d1t CC (av (fv 0) (av (lz (fv 3) (fv 2)) aY))))⟩)
 refine aE ?_;refine bA ?_
 ·exact(aX (fv 2) (ae au))
theorem NO{g:Addr}{fd:FuncData}(T:Tx P w K mg)(D:FD K mg "first_day" sB ["zone","hour"] g fd):az P w K mg base (ba P w) 2 g fd ["zone","hour"] (bc K mg rA):=by
 obtain⟨j,k,d⟩:=T.d0i;have e:=NE P w base T d;obtain⟨b,a⟩:=T.d1f;refine bC D.fn Nf (by decide) ?_;intro f A c s H E F l h i;unfold wJ;refine aE ?_;refine bA ?_
 ·exact(vl (LJ (lz (fv 1) (aW (aS i e d h (ao (fv 0) (ao (ae au) aF))))) (ae (dR rfl a))))
theorem NP{g:Addr}{fd:FuncData}(T:Tx P w K mg)(D:FD K mg "_law_mixed" tf ["_law_script","_law_k","_law_many"] g fd):az P w K mg base (ba P w) 2 g fd ["_law_script","_law_k","_law_many"] (bc K mg rB):=by
 obtain⟨h,j,b⟩:=T.d0u;have c:=NH P w base T b;refine bC D.fn Cu (by decide) ?_;intro d A a s H E F k e f;unfold wK;refine aD ?_ ?_
 ·refine bU (i:=3) ?_ ?_ ?_ ?_ ?_ ?_<;>try walk_at "z"
  ·exact Cu.nd
  ·exact(oz (lA (ei (ei (aW (aS f c b e (aZ (pv 0) (ao (fv 1) aF)))) (lA (ae au) (fv 1))) (ae au)) (ae au)) (ae au))
 refine aE ?_;refine bA ?_
 ·exact(oz (oz (ei (ei (lA (fv 3) (fv 3)) (lA (ae au) (fv 3))) (fv 1)) (ae au)) (fv 2))
theorem NQ{C:Addr}{g:Addr}{fd:FuncData}(T:Tx P w K mg)(b:dt K mg C)(D:MD K C "step_behind_a_fall" "Hall.step_behind_a_fall" sQ ["self","runner","moment"] g fd):az P w K mg base (ba P w) 2 g fd ["self","runner","moment"] (bc K mg (oN C)):=by
 obtain⟨l,m,e⟩:=b.d2f;have f:=xy P w base T b e;obtain⟨c,a⟩:=T.d1i;refine bC D.fn xw (by decide) ?_;intro h A d s H E F n j k;unfold rC;refine aD ?_ ?_
 ·refine bU (i:=3) ?_ ?_ ?_ ?_ ?_ ?_<;>try walk_at "z"
  ·exact xw.nd
  ·exact(aX (cY b.cl b.d1z (pv 0)) (ae au))
 refine aD ?_ ?_
 ·refine bU (i:=4) ?_ ?_ ?_ ?_ ?_ ?_<;>try walk_at "z"
  ·exact xw.nd
  ·exact(vr (dk (di (aX (aX (cY b.cl b.d20 (pv 0)) (fv 3)) (ae (dR rfl a))))) (ae bE) (ae bE))
 refine aE ?_;refine cR ?_
 ·exact(dS k b.cl f e j (pv 0) (ao (cb (av (fv 2) (av (fv 1) (av (fv 4) (av (fv 3) (av (aX (cY b.cl b.d1z (pv 0)) (ae au)) aY)))))) aF))
theorem NR{g:Addr}{fd:FuncData}(T:Tx P w K mg)(D:FD K mg "are_shifts" rY ["thing"] g fd):az P w K mg base (ba P w) 3 g fd ["thing"] (bc K mg rD):=by
 obtain⟨p,q,j⟩:=T.d00;have l:=lP P w base T j;obtain⟨g1,f1,k⟩:=T.d01;have m:=tH P w base T k;obtain⟨g2,f2,D2⟩:=T.d02;have n:=CH P w base T D2;obtain⟨c,a⟩:=T.d15;obtain⟨d,b⟩:=T.d19;refine bC D.fn tD (by decide) ?_;intro o A h s H E F r e f;unfold wL;refine aD ?_ ?_
 ·refine bH ?_ ?_ ?_
  ·exact(ij (jA (fh (dk (di (iM (iI rfl T.d1q (fv 0) (hI rfl T.d1x lO rfl)))))) (jZ (qX (gR on (jx kQ oi rfl T.d1r PySem.boot_len (av (fv 0) aY))) (ae (dR rfl b))))))
  ·refine aE ?_;refine bA ?_
   ·exact(ae fU)
  ·exact bJ
 refine aD ?_ ?_
 ·refine bU (i:=1) ?_ ?_ ?_ ?_ ?_ ?_<;>try walk_at "z"
  ·exact tD.nd
  ·exact(ae au)
 refine aD ?_ ?_
 ·refine mx ?_ ?_ ?_ ?_ ?_ ?_<;>try walk_at "z"
  ·exact PassesOwn.leaving
  ·exact(my (fv 0))
  ·exact(ej 2 tD.nd)
  ·unfold oO;refine aD ?_ ?_
   ·refine bH ?_ ?_ ?_
    ·exact(ij (jA (fh (dk (di (aW (aS f m k e (ao (fv 2) (ao (ae au) aF))))))) (jZ (fh (dk (di (aW (aS f n D2 e (ao (aX (fv 2) (ae au)) aF)))))))))
    ·refine aE ?_;refine bA ?_
     ·exact(ae fU)
    ·exact bJ
   refine aD ?_ ?_
   ·refine bH ?_ ?_ ?_
    ·exact(fh (dk (di (aW (aS f l j e (ao (aX (fv 2) (ae au)) (ao (fv 1) (ao (ae (dR rfl a)) aF))))))))
    ·refine aE ?_;refine bA ?_
     ·exact(ae fU)
    ·exact bJ
   refine aE ?_;refine bU (i:=1) ?_ ?_ ?_ ?_ ?_ ?_<;>try walk_at "z"
   ·exact tD.nd
   ·exact(ei (aX (fv 2) (ae au)) (ae au))
 refine aE ?_;refine bA ?_
 ·exact(ae fU)
theorem NS{g:Addr}{fd:FuncData}(T:Tx P w K mg)(D:FD K mg "is_plan" sf ["thing"] g fd):az P w K mg base (ba P w) 3 g fd ["thing"] (bc K mg mQ):=by
 obtain⟨o,p,h⟩:=T.d08;have i:=xz P w base T h;obtain⟨g1,f1,j⟩:=T.d03;have l:=CI P w base T j;obtain⟨g2,f2,D2⟩:=T.d00;have m:=lP P w base T D2;obtain⟨c,a⟩:=T.d16;obtain⟨d,b⟩:=T.d1a;refine bC D.fn MU (by decide) ?_;intro n A k s H E F q e f;unfold oP;refine aD ?_ ?_
 ·refine bH ?_ ?_ ?_
  ·exact(dk (di (aW (aS f i h e (ao (fv 0) (ao (ae bE) (ao (ae au) aF)))))))
  ·refine aE ?_;refine cR ?_
   ·exact(aS f l j e (ao (aX (fv 0) (ae au)) aF))
  ·exact bJ
 refine aD ?_ ?_
 ·refine bH ?_ ?_ ?_
  ·exact(dk (di (aW (aS f i h e (ao (fv 0) (ao (ae bE) (ao (ae au) aF)))))))
  ·refine aE ?_;refine bA ?_
   ·exact(fg (aW (aS f l j e (ao (aX (fv 0) (ae au)) aF))) (gz (aW (aS f m D2 e (ao (aX (fv 0) (ae au)) (ao (ae au) (ao (ae (dR rfl b)) aF)))))))
  ·exact bJ
 refine aE ?_;refine bA ?_
 ·exact(fg (aW (aS f i h e (ao (fv 0) (ao (ae bE) (ao (ae au) aF))))) (gz (aW (aS f m D2 e (ao (aX (fv 0) (ae au)) (ao (ae au) (ao (ae (dR rfl a)) aF)))))))
theorem NT{g:Addr}{fd:FuncData}(T:Tx P w K mg)(D:FD K mg "is_late" sg ["thing"] g fd):az P w K mg base (ba P w) 3 g fd ["thing"] (bc K mg mR):=by
 obtain⟨l,m,e⟩:=T.d08;have i:=xz P w base T e;obtain⟨g1,f1,f⟩:=T.d00;have j:=lP P w base T f;obtain⟨b,a⟩:=T.d1c;refine bC D.fn MV (by decide) ?_;intro k A d s H E F n c h;unfold oQ;refine aD ?_ ?_
 ·refine bH ?_ ?_ ?_
  ·exact(dk (di (iM (iI rfl T.d1q (fv 0) (hI rfl T.d1w CB rfl)))))
  ·refine aE ?_;refine bA ?_
   ·exact(AQ (lB c.units (fv 0) (ae bE)) (gz (lB c.units (fv 0) (ae bE))))
  ·exact bJ
 refine aE ?_;refine bA ?_
 ·exact(fg (aW (aS h i e c (ao (fv 0) (ao (ae bE) (ao (ae au) aF))))) (gz (aW (aS h j f c (ao (aX (fv 0) (ae au)) (ao (ae au) (ao (ae (dR rfl a)) aF)))))))
theorem NU{g:Addr}{fd:FuncData}(T:Tx P w K mg)(D:FD K mg "check_moment" sk ["thing"] g fd):az P w K mg base (ba P w) 3 g fd ["thing"] (bc K mg rE):=by
 obtain⟨m,n,e⟩:=T.d03;have i:=CI P w base T e;obtain⟨j,k⟩:=T.xt0;obtain⟨b,a,_⟩:=k.at_ (c:="NoMoment") (by decide +kernel);refine bC D.fn MZ (by decide) ?_;intro l A d s H E F o f h;unfold wM;refine aE ?_;refine bH ?_ ?_ ?_
 ·exact(fh (dk (di (aW (aS h i e f (ao (fv 0) aF))))))
 ·refine aE ?_;exact(iR h f.hd rfl a)
 ·exact bJ
theorem NW{g:Addr}{fd:FuncData}(T:Tx P w K mg)(D:FD K mg "check_runner" sr ["thing"] g fd):az P w K mg base (ba P w) 3 g fd ["thing"] (bc K mg rF):=by
 obtain⟨m,n,e⟩:=T.d04;have i:=NL P w base T e;obtain⟨j,k⟩:=T.xt0;obtain⟨b,a,_⟩:=k.at_ (c:="NoRunner") (by decide +kernel);refine bC D.fn Nb (by decide) ?_;intro l A d s H E F o f h;unfold wN;refine aE ?_;refine bH ?_ ?_ ?_
 ·exact(fh (dk (di (aW (aS h i e f (ao (fv 0) aF))))))
 ·refine aE ?_;exact(iR h f.hd rfl a)
 ·exact bJ
theorem NX{g:Addr}{fd:FuncData}(T:Tx P w K mg)(D:FD K mg "check_term" su ["thing"] g fd):az P w K mg base (ba P w) 3 g fd ["thing"] (bc K mg rG):=by
 obtain⟨m,n,e⟩:=T.d05;have i:=NM P w base T e;obtain⟨j,k⟩:=T.xt0;obtain⟨b,a,_⟩:=k.at_ (c:="NoTerm") (by decide +kernel);refine bC D.fn Nc (by decide) ?_;intro l A d s H E F o f h;unfold wO;refine aE ?_;refine bH ?_ ?_ ?_
 ·exact(fh (dk (di (aW (aS h i e f (ao (fv 0) aF))))))
 ·refine aE ?_;exact(iR h f.hd rfl a)
 ·exact bJ
theorem NY{g:Addr}{fd:FuncData}(T:Tx P w K mg)(D:FD K mg "daily_time" sD ["zone","hour","count"] g fd):az P w K mg base (ba P w) 3 g fd ["zone","hour","count"] (bc K mg rH):=by
 obtain⟨m,n,d⟩:=T.d0l;have j:=NN P w base T d;obtain⟨g1,f1,e⟩:=T.d0m;have k:=NO P w base T e;obtain⟨b,a⟩:=T.d1f;refine bC D.fn Cr (by decide) ?_;intro l A c s H E F o f h;unfold wP;refine aD ?_ ?_
 ·refine bU (i:=3) ?_ ?_ ?_ ?_ ?_ ?_<;>try walk_at "z"
  ·exact Cr.nd
  ·exact(ei (aW (aS h k e f (ao (fv 0) (ao (fv 1) aF)))) (fv 2))
 refine aE ?_;refine cR ?_
 ·exact(aS h j d f (ao (fv 0) (ao (ei (lA (fv 3) (ae (dR rfl a))) (fv 1)) aF)))
theorem Oa{g:Addr}{fd:FuncData}(T:Tx P w K mg)(D:FD K mg "check_call" sV ["thing"] g fd):az P w K mg base (ba P w) 3 g fd ["thing"] (bc K mg fN):=by
 obtain⟨p,q,h⟩:=T.d08;have k:=xz P w base T h;obtain⟨d,a⟩:=T.d1j;obtain⟨l,m⟩:=T.xt0;obtain⟨e,b,_⟩:=m.at_ (c:="NoCall") (by decide +kernel);refine bC D.fn Nt (by decide) ?_;intro n A f s H E F r i j;unfold mS;refine aE ?_;refine bH ?_ ?_ ?_
 ·exact(fh (dk (di (gR MA (jx (My rfl) Mz rfl T.d1m NC (av (qN j.1 (aq.of (own:=["word"]) (capN:=["thing"]) (caps:=[0])) rfl rfl (Mt (kd:=[("take",4),("give",3),("step",3),("finish",3)]) rfl a.1 a.2) (fun _ _ _ _ _ _ o=>⟨(ej 0 (show((["word"]:List Str)++(["thing"]:List Str)).Nodup from by decide +kernel)),mz,(aW (aS (iy o) k h i (ao (fv 1) (ao (fv 0) (ao (Mu (kd:=[("take",4),("give",3),("step",3),("finish",3)]) rfl a.1 a.2 (fv 0)) aF)))))⟩)) aY))))))
 ·refine aE ?_;exact(iR j i.hd rfl b)
 ·exact bJ
theorem nn{g:Addr}{fd:FuncData}(T:Tx P w K mg)(D:FD K mg "_law_draw" tj ["_law_script","_law_town","_law_many"] g fd):az P w K mg base (ba P w) 3 g fd ["_law_script","_law_town","_law_many"] (bc K mg cO):=by
 obtain⟨h,i,b⟩:=T.d0v;have c:=NP P w base T b;refine bC D.fn Nx (by decide) ?_;intro d A a s H E F j e f;unfold wQ;refine aD ?_ ?_
 ·refine mB ?_ ?_ ?_ ?_ ?_ ?_ ?_ ?_<;>try walk_at "z"
  ·exact(pv 1)
  ·exact(ae au)
 refine aE ?_;refine cR ?_
 ·exact(aS f c b e (aZ (pv 0) (ao (Lj rfl T.d1r (pv 1)) (ao (fv 2) aF))))
theorem Ob{g:Addr}{fd:FuncData}(T:Tx P w K mg)(D:FD K mg "is_zone" rZ ["thing"] g fd):az P w K mg base (ba P w) 4 g fd ["thing"] (bc K mg rK):=by
 obtain⟨k,l,d⟩:=T.d01;have f:=tH P w base T d;obtain⟨g1,f1,e⟩:=T.d02;have h:=CH P w base T e;obtain⟨g2,f2,D2⟩:=T.d06;have i:=NR P w base T D2;refine bC D.fn MS (by decide) ?_;intro j A c s H E F m a b;unfold wR;refine aE ?_;refine bA ?_
 ·exact(fg (aW (aS b f d a (ao (fv 0) (ao (ae au) aF)))) (fg (aW (aS b h e a (ao (aX (fv 0) (ae au)) aF))) (gz (aW (aS b i D2 a (ao (aX (fv 0) (ae au)) aF))))))
theorem Oc{g:Addr}{fd:FuncData}(T:Tx P w K mg)(D:FD K mg "is_deed" sh ["thing"] g fd):az P w K mg base (ba P w) 4 g fd ["thing"] (bc K mg rL):=by
 obtain⟨k,l,d⟩:=T.d01;have f:=tH P w base T d;obtain⟨g1,f1,e⟩:=T.d09;have h:=NS P w base T e;obtain⟨g2,f2,D2⟩:=T.d0a;have i:=NT P w base T D2;refine bC D.fn MW (by decide) ?_;intro j A c s H E F m a b;unfold wS;refine aE ?_;refine bA ?_
 ·exact(fg (aW (aS b f d a (ao (fv 0) (ao (ae au) aF)))) (fg (aW (aS b h e a (ao (aX (fv 0) (ae au)) aF))) (fg (aW (aS b i D2 a (ao (aX (fv 0) (ae au)) aF))) (gz (iM (iI rfl T.d1q (aX (fv 0) (ae au)) (hI rfl T.d1n CA rfl)))))))
theorem CJ{g:Addr}{fd:FuncData}(T:Tx P w K mg)(D:FD K mg "time_of" sE ["zone","plan","count"] g fd):az P w K mg base (ba P w) 4 g fd ["zone","plan","count"] (bc K mg iw):=by
 obtain⟨h,i,c⟩:=T.d0n;have d:=NY P w base T c;refine bC D.fn Ng (by decide) ?_;intro e A b s H E F j a f;unfold mT;refine aD ?_ ?_
 ·refine bH ?_ ?_ ?_
  ·exact(eB a.units (aX (fv 1) (ae au)) (ae bE))
  ·refine aE ?_;refine bA ?_
   ·exact(vr (eB a.units (fv 2) (ae au)) (aX (fv 1) (ae au)) (ae cM))
  ·exact bJ
 refine aD ?_ ?_
 ·refine bH ?_ ?_ ?_
  ·exact(eB a.units (aX (fv 1) (ae au)) (ae bE))
  ·refine aE ?_;refine bA ?_
   ·exact(ei (aX (fv 1) (ae au)) (lA (fv 2) (aX (fv 1) (ae au))))
  ·exact bJ
 refine aE ?_;refine cR ?_
 ·exact(aS f d c a (ao (fv 0) (ao (aX (fv 1) (ae au)) (ao (fv 2) aF))))
theorem pk{g:Addr}{fd:FuncData}(T:Tx P w K mg)(D:FD K mg "_law_pick" tm ["_law_script","_law_town","_law_some"] g fd):az P w K mg base (ba P w) 4 g fd ["_law_script","_law_town","_law_some"] (bc K mg gi):=by
 obtain⟨h,i,b⟩:=T.d0w;have c:=nn P w base T b;refine bC D.fn Ny (by decide) ?_;intro d A a s H E F j e f;unfold wT;refine aE ?_;refine bA ?_
 ·exact(aX (fv 2) (aW (aS f c b e (aZ (pv 0) (aZ (pv 1) (ao (gR on (jx kQ oi rfl T.d1r PySem.boot_len (av (fv 2) aY))) aF))))))
theorem CK{C:Addr}{g:Addr}{fd:FuncData}(T:Tx P w K mg)(d:dt K mg C)(D:MD K C "check_call" "Hall.check_call" sI ["self","runner","moment"] g fd):az P w K mg base (ba P w) 4 g fd ["self","runner","moment"] (bc K mg (ft C)):=by
 obtain⟨p,q,i⟩:=T.d0g;have k:=NW P w base T i;obtain⟨g1,f1,j⟩:=T.d0e;have l:=NU P w base T j;obtain⟨m,n⟩:=T.xt0;obtain⟨b,a,_⟩:=n.at_ (c:="NoMoment") (by decide +kernel);refine bC D.fn Nj (by decide) ?_;intro o A h s H E F r e f;unfold mU;refine aD ?_ ?_
 ·refine ik ?_ ?_
  ·exact(aS f k i e (ao (fv 1) aF))
  ·rfl
 refine aD ?_ ?_
 ·refine ik ?_ ?_
  ·exact(aS f l j e (ao (fv 2) aF))
  ·rfl
 refine aE ?_;refine bH ?_ ?_ ?_
 ·exact(ij (vp (qY (cY d.cl d.d23 (pv 0)) (ae cM)) (vo (qW (fv 2) (cY d.cl d.d23 (pv 0))))))
 ·refine aE ?_;exact(iR f e.hd rfl a)
 ·exact bJ
theorem Od{g:Addr}{fd:FuncData}(T:Tx P w K mg)(D:FD K mg "are_deeds" si ["thing"] g fd):az P w K mg base (ba P w) 5 g fd ["thing"] (bc K mg wV):=by
 obtain⟨k,l,d⟩:=T.d0b;have e:=Oc P w base T d;obtain⟨b,a⟩:=T.d1b;refine bC D.fn MX (by decide) ?_;intro f A c s H E F m h i;unfold wU;refine aD ?_ ?_
 ·refine bH ?_ ?_ ?_
  ·exact(ij (jA (fh (dk (di (iM (iI rfl T.d1q (fv 0) (hI rfl T.d1x lO rfl)))))) (jZ (qX (gR on (jx kQ oi rfl T.d1r PySem.boot_len (av (fv 0) aY))) (ae (dR rfl a))))))
  ·refine aE ?_;refine bA ?_
   ·exact(ae fU)
  ·exact bJ
 refine aE ?_;refine bA ?_
 ·exact(gR KW (jx (Kf rfl) Kg rfl T.d1l NB (av (qN i.1 (aq.of (own:=["deed"]) (capN:=[]) (caps:=[])) rfl rfl (my (fv 0)) (fun _ _ _ _ _ _ j=>⟨(ej 0 (show((["deed"]:List Str)++([]:List Str)).Nodup from by decide +kernel)),mz,(aW (aS (iy j) e d h (ao (fv 0) aF)))⟩)) aY)))
theorem Oe{g:Addr}{fd:FuncData}(T:Tx P w K mg)(D:FD K mg "check_zone" sj ["thing"] g fd):az P w K mg base (ba P w) 5 g fd ["thing"] (bc K mg ix):=by
 obtain⟨m,n,e⟩:=T.d07;have i:=Ob P w base T e;obtain⟨j,k⟩:=T.xt0;obtain⟨b,a,_⟩:=k.at_ (c:="NoZone") (by decide +kernel);refine bC D.fn MY (by decide) ?_;intro l A d s H E F o f h;unfold wW;refine aE ?_;refine bH ?_ ?_ ?_
 ·exact(fh (dk (di (aW (aS h i e f (ao (fv 0) aF))))))
 ·refine aE ?_;exact(iR h f.hd rfl a)
 ·exact bJ
theorem Of{g:Addr}{fd:FuncData}(T:Tx P w K mg)(D:FD K mg "is_left_out" sF ["zone","deed","count","now"] g fd):az P w K mg base (ba P w) 5 g fd ["zone","deed","count","now"] (bc K mg lK):=by
 obtain⟨m,n,f⟩:=T.d0o;have j:=CJ P w base T f;obtain⟨c,b⟩:=T.d1g;obtain⟨d,a⟩:=T.d1h;refine bC D.fn Cs (by decide) ?_;intro l A h s H E F o e k;unfold mV;refine aD ?_ ?_
 ·refine bH ?_ ?_ ?_
  ·exact(eB e.units (aX (fv 1) (ae (dR rfl a))) (ae bE))
  ·refine aE ?_;refine bA ?_
   ·exact(ae fU)
  ·exact bJ
 refine aD ?_ ?_
 ·refine bH ?_ ?_ ?_
  ·exact(eB e.units (aX (fv 1) (ae (dR rfl a))) (ae bE))
  ·refine aD ?_ ?_
   ·refine bU (i:=4) ?_ ?_ ?_ ?_ ?_ ?_<;>try walk_at "z"
    ·exact Cs.nd
    ·exact(aW (aS k j f e (ao (fv 0) (ao (aX (fv 1) (ae (dR rfl b))) (ao (ei (fv 2) (ae au)) aF)))))
   refine aE ?_;refine bA ?_
   ·exact(fg (vV (fv 4) (ae cM)) (gz (LM (fv 4) (fv 3))))
  ·exact bJ
 refine aE ?_;refine bA ?_
 ·exact(LN (lz (fv 3) (aW (aS k j f e (ao (fv 0) (ao (aX (fv 1) (ae (dR rfl b))) (ao (fv 2) aF)))))) (aX (aX (fv 1) (ae (dR rfl a))) (ae au)))
theorem Og{g:Addr}{fd:FuncData}(T:Tx P w K mg)(D:FD K mg "_law_zone" tp ["_law_script","_law_town"] g fd):az P w K mg base (ba P w) 5 g fd ["_law_script","_law_town"] (bc K mg oS):=by
 obtain⟨k,l,c⟩:=T.d0w;have d:=nn P w base T c;obtain⟨g1,f1,f⟩:=T.d0x;have h:=pk P w base T f;refine bC D.fn nk (by decide) ?_;intro j A e s H E F m a b;unfold rN;refine aD ?_ ?_
 ·refine iK (i:=2) ?_ ?_ ?_ ?_ ?_ ?_<;>try walk_at "z"
  ·exact nk.nd
  ·exact(ls aY)
 refine aD ?_ ?_
 ·refine bU (i:=3) ?_ ?_ ?_ ?_ ?_ ?_<;>try walk_at "z"
  ·exact nk.nd
  ·exact(ae au)
 refine aD ?_ ?_
 ·refine mx ?_ ?_ ?_ ?_ ?_ ?_<;>try walk_at "z"
  ·exact PassesOwn.leaving
  ·exact(qM (qC rfl T.d1v (av (aW (aS b d c a (aZ (pv 0) (aZ (pv 1) (ao (ae au) aF))))) aY)))
  ·exact(ej 4 nk.nd)
  ·unfold oR;refine aD ?_ ?_
   ·refine bU (i:=3) ?_ ?_ ?_ ?_ ?_ ?_<;>try walk_at "z"
    ·exact nk.nd
    ·exact(ei (ei (fv 3) (ae au)) (aW (aS b d c a (aZ (pv 0) (aZ (pv 1) (ao (aW (aS b h f a (aZ (pv 0) (aZ (pv 1) (ao (et (av (ae au) (av (ae au) (av (ae au) aY)))) aF))))) aF))))))
   refine aE ?_;refine mB ?_ ?_ ?_ ?_ ?_ ?_ ?_ ?_<;>try walk_at "z"
   ·exact(pv 2)
   ·exact(cb (av (fv 3) (av (lz (aW (aS b d c a (aZ (pv 0) (aZ (pv 1) (ao (ae au) aF))))) (ae au)) aY)))
 refine aD ?_ ?_
 ·refine bH ?_ ?_ ?_
  ·exact(eB a.units (aW (aS b d c a (aZ (pv 0) (aZ (pv 1) (ao (ae au) aF))))) (ae au))
  ·refine aE ?_;refine Ba (i:=2) (own:=["_law_k","_law_one","_law_more"]) (capN:=[]) (caps:=[]) ?_ ?_ ?_ ?_ ?_ ?_ ?_ ?_ ?_ ?_ ?_ ?_<;>try walk_at "z"
   ·exact nk.nd
   ·exact b.1
   ·exact(aq.of (own:=["_law_k","_law_one","_law_more"]) (capN:=[]) (caps:=[]))
   ·exact(Le (JU rfl T.d1o (av (fv 2) aY)))
   ·exact(fun _ _ _ _ _ _ o=>⟨(vB (n:=2) rfl (lm (ej 0 (show((["_law_k","_law_one","_law_more"]:List Str)++([]:List Str)).Nodup from by decide +kernel)) (lm (vB (n:=2) rfl (lm (ej 1 (show((["_law_k","_law_one","_law_more"]:List Str)++([]:List Str)).Nodup from by decide +kernel)) (lm (ej 2 (show((["_law_k","_law_one","_law_more"]:List Str)++([]:List Str)).Nodup from by decide +kernel)) vA))) vA))),mz,(cb (av (fv 1) (av (ei (ae au) (oz (fv 0) (ae au))) aY)))⟩)
  ·exact bJ
 refine aE ?_;refine bA ?_
 ·exact(cb (av (lz (aW (aS b d c a (aZ (pv 0) (aZ (pv 1) (ao (ae au) aF))))) (ae au)) (av (gR vt (uW uE vf rfl T.d1x lO (av (fv 2) aY))) aY)))
theorem Oh{g:Addr}{fd:FuncData}(T:Tx P w K mg)(D:FD K mg "_law_plan" tq ["_law_script","_law_town"] g fd):az P w K mg base (ba P w) 5 g fd ["_law_script","_law_town"] (bc K mg mW):=by
 obtain⟨k,l,c⟩:=T.d0w;have d:=nn P w base T c;obtain⟨g1,f1,e⟩:=T.d0x;have h:=pk P w base T e;refine bC D.fn xx (by decide) ?_;intro j A f s H E F m a b;unfold oU;refine aD ?_ ?_
 ·refine bU (i:=2) ?_ ?_ ?_ ?_ ?_ ?_<;>try walk_at "z"
  ·exact xx.nd
  ·exact(aW (aS b d c a (aZ (pv 0) (aZ (pv 1) (ao (ae au) aF)))))
 refine aD ?_ ?_
 ·refine bH ?_ ?_ ?_
  ·exact(eB a.units (fv 2) (ae au))
  ·refine aE ?_;refine bA ?_
   ·exact(cb (av (ae bE) (av (aW (aS b d c a (aZ (pv 0) (aZ (pv 1) (ao (aW (aS b h e a (aZ (pv 0) (aZ (pv 1) (ao (et (av (ae au) (av (ae au) (av (ae au) aY)))) aF))))) aF))))) aY)))
  ·exact bJ
 refine aD ?_ ?_
 ·refine bH ?_ ?_ ?_
  ·exact(qW (fv 2) (ae au))
  ·refine aD ?_ ?_
   ·refine bU (i:=3) ?_ ?_ ?_ ?_ ?_ ?_<;>try walk_at "z"
    ·exact xx.nd
    ·exact(ei (ae au) (aW (aS b d c a (aZ (pv 0) (aZ (pv 1) (ao (aW (aS b h e a (aZ (pv 0) (aZ (pv 1) (ao (et (av (ae au) (av (ae au) (av (ae au) aY)))) aF))))) aF))))))
   refine aE ?_;refine bA ?_
   ·exact(cb (av (ae bE) (av (aW (aS b d c a (aZ (pv 0) (aZ (pv 1) (ao (ae au) aF))))) (av (fv 3) aY))))
  ·exact bJ
 refine aE ?_;refine bA ?_
 ·exact(cb (av (ae bE) (av (aW (aS b d c a (aZ (pv 0) (aZ (pv 1) (ao (ae au) aF))))) aY)))
theorem Oi{g:Addr}{fd:FuncData}(T:Tx P w K mg)(D:FD K mg "_law_call" tu ["_law_script","_law_town","_law_now","_law_holder"] g fd):az P w K mg base (ba P w) 5 g fd ["_law_script","_law_town","_law_now","_law_holder"] (bc K mg mY):=by
 obtain⟨k,l,c⟩:=T.d0w;have d:=nn P w base T c;obtain⟨g1,f1,e⟩:=T.d0x;have h:=pk P w base T e;refine bC D.fn ph (by decide) ?_;intro j A f s H E F m a b;unfold Cn;refine aD ?_ ?_
 ·refine bU (i:=4) ?_ ?_ ?_ ?_ ?_ ?_<;>try walk_at "z"
  ·exact ph.nd
  ·exact(aW (aS b d c a (aZ (pv 0) (aZ (pv 1) (ao (ae au) aF)))))
 refine aD ?_ ?_
 ·refine bH ?_ ?_ ?_
  ·exact(ij (vp (qY (fv 3) (ae cM)) (vo (qX (aW (aS b d c a (aZ (pv 0) (aZ (pv 1) (ao (ae au) aF))))) (ae au)))))
  ·refine aE ?_;refine bU (i:=4) ?_ ?_ ?_ ?_ ?_ ?_<;>try walk_at "z"
   ·exact ph.nd
   ·exact(fv 3)
  ·exact bJ
 refine aD ?_ ?_
 ·refine bU (i:=5) ?_ ?_ ?_ ?_ ?_ ?_<;>try walk_at "z"
  ·exact ph.nd
  ·exact(ei (fv 2) (aW (aS b h e a (aZ (pv 0) (aZ (pv 1) (ao (et (av (ae au) (av (ae au) (av (ae au) (av (ae au) (av (ae au) (av (aW (aS b d c a (aZ (pv 0) (aZ (pv 1) (ao (ae au) aF))))) aY))))))) aF))))))
 refine aD ?_ ?_
 ·refine bU (i:=6) ?_ ?_ ?_ ?_ ?_ ?_<;>try walk_at "z"
  ·exact ph.nd
  ·exact(aW (aS b d c a (aZ (pv 0) (aZ (pv 1) (ao (ae au) aF)))))
 refine aD ?_ ?_
 ·refine bH ?_ ?_ ?_
  ·exact(ij (jA (BH (fv 3) (ae cM)) (jZ (qW (fv 6) (ae au)))))
  ·refine aE ?_;refine bA ?_
   ·exact(cb (av (ae bE) (av (fv 4) (av (fv 5) (av (ei (ae au) (aW (aS b d c a (aZ (pv 0) (aZ (pv 1) (ao (aW (aS b h e a (aZ (pv 0) (aZ (pv 1) (ao (et (av (ae au) (av (ae au) aY))) aF))))) aF)))))) aY)))))
  ·exact bJ
 refine aD ?_ ?_
 ·refine bH ?_ ?_ ?_
  ·exact(eB a.units (fv 6) (ae au))
  ·refine aE ?_;refine bA ?_
   ·exact(cb (av (ae bE) (av (fv 4) (av (fv 5) aY))))
  ·exact bJ
 refine aE ?_;refine bA ?_
 ·exact(aX (LL (et (av (cb (av (ae bE) (av (fv 4) (av (fv 5) aY)))) (av (cb (av (ae bE) (av (fv 4) (av (fv 5) aY)))) aY))) (ae au)) (lz (fv 6) (ae au)))
theorem xA{C:Addr}{g:Addr}{fd:FuncData}(T:Tx P w K mg)(d:dt K mg C)(D:MD K C "check_holder" "Hall.check_holder" sJ ["self","runner","moment"] g fd):az P w K mg base (ba P w) 5 g fd ["self","runner","moment"] (bc K mg (dU C)):=by
 obtain⟨p,q,i⟩:=d.d2b;have k:=CK P w base T d i;obtain⟨g1,f1,j⟩:=d.d2a;have l:=CF P w base T d j;obtain⟨m,n⟩:=T.xt0;obtain⟨b,a,_⟩:=n.at_ (c:="NotHolder") (by decide +kernel);refine bC D.fn Nk (by decide) ?_;intro o A h s H E F r e f;unfold mZ;refine aD ?_ ?_
 ·refine ik ?_ ?_
  ·exact(dS f d.cl k i e (pv 0) (ao (fv 1) (ao (fv 2) aF)))
  ·rfl
 refine aE ?_;refine bH ?_ ?_ ?_
 ·exact(ij (jA (fh (dk (di (aW (dS f d.cl l j e (pv 0) (ao (fv 2) aF)))))) (jZ (iV e.units (cY d.cl d.d21 (pv 0)) (fv 1)))))
 ·refine aE ?_;exact(iR f e.hd rfl a)
 ·exact bJ
theorem CL{C:Addr}{g:Addr}{fd:FuncData}(T:Tx P w K mg)(a:dt K mg C)(D:MD K C "take" "Hall.take" sK ["self","runner","moment","term"] g fd):az P w K mg base (ba P w) 5 g fd ["self","runner","moment","term"] (bc K mg (gj C)):=by
 obtain⟨l,m,e⟩:=a.d2b;have h:=CK P w base T a e;obtain⟨g1,f1,f⟩:=T.d0h;have i:=NX P w base T f;obtain⟨g2,f2,D2⟩:=a.d2a;have j:=CF P w base T a D2;refine bC D.fn Nl (by decide) ?_;intro k A d s H E F n b c;unfold ng;refine aD ?_ ?_
 ·refine ik ?_ ?_
  ·exact(dS c a.cl h e b (pv 0) (ao (fv 1) (ao (fv 2) aF)))
  ·rfl
 refine aD ?_ ?_
 ·refine ik ?_ ?_
  ·exact(aS c i f b (ao (fv 3) aF))
  ·rfl
 refine aD ?_ ?_
 ·refine fm ?_ ?_ ?_ ?_ ?_
  ·exact a.cl
  ·exact a.d23
  ·exact(pv 0)
  ·exact(fv 2)
  ·rfl
 refine aD ?_ ?_
 ·refine bH ?_ ?_ ?_
  ·exact(fh (dk (di (aW (dS c a.cl j D2 b (pv 0) (ao (fv 2) aF))))))
  ·refine aE ?_;refine Mb ?_ ?_ ?_ ?_
   ·exact a.cl
   ·exact a.d22
   ·exact(pv 0)
   ·exact ug
  ·refine aE ?_;refine bH ?_ ?_ ?_
   ·exact(iV b.units (cY a.cl a.d21 (pv 0)) (fv 1))
   ·refine aE ?_;refine bA ?_
    ·exact(ae fU)
   ·exact bJ
 refine aD ?_ ?_
 ·refine fm ?_ ?_ ?_ ?_ ?_
  ·exact a.cl
  ·exact a.d21
  ·exact(pv 0)
  ·exact(fv 1)
  ·rfl
 refine aD ?_ ?_
 ·refine fm ?_ ?_ ?_ ?_ ?_
  ·exact a.cl
  ·exact a.d26
  ·exact(pv 0)
  ·exact(ei (fv 2) (fv 3))
  ·rfl
 refine aE ?_;refine bA ?_
 ·exact(ae fU)
theorem Oj{C:Addr}{g:Addr}{fd:FuncData}(T:Tx P w K mg)(b:dt K mg C)(D:MD K C "first_unsettled" "Hall.first_unsettled" sO ["self"] g fd):az P w K mg base (ba P w) 5 g fd ["self"] (bc K mg (wY C)):=by
 obtain⟨l,m,e⟩:=T.d0o;have h:=CJ P w base T e;obtain⟨c,a⟩:=T.d1g;refine bC D.fn pb (by decide) ?_;intro j A d s H E F n f k;unfold Co;refine aD ?_ ?_
 ·refine iK (i:=1) ?_ ?_ ?_ ?_ ?_ ?_<;>try walk_at "z"
  ·exact pb.nd
  ·exact(ls aY)
 refine aD ?_ ?_
 ·refine mx ?_ ?_ ?_ ?_ ?_ ?_<;>try walk_at "z"
  ·exact PassesOwn.leaving
  ·exact(qM (qC rfl T.d1v (av (gR on (jx kQ oi rfl T.d1r PySem.boot_len (av (cY b.cl b.d20 (pv 0)) aY))) aY)))
  ·exact(ej 2 pb.nd)
  ·unfold kt;refine aD ?_ ?_
   ·refine bU (i:=3) ?_ ?_ ?_ ?_ ?_ ?_<;>try walk_at "z"
    ·exact pb.nd
    ·exact(LZ b.cl b.d25 (pv 0) (pv 2))
   refine aD ?_ ?_
   ·refine bU (i:=4) ?_ ?_ ?_ ?_ ?_ ?_<;>try walk_at "z"
    ·exact pb.nd
    ·exact(aW (aS k h e f (ao (cY b.cl b.d28 (pv 0)) (ao (aX (aX (cY b.cl b.d20 (pv 0)) (fv 2)) (ae (dR rfl a))) (ao (fv 3) aF)))))
   refine aE ?_;refine bH ?_ ?_ ?_
   ·exact(qY (fv 4) (ae cM))
   ·refine aE ?_;refine mB ?_ ?_ ?_ ?_ ?_ ?_ ?_ ?_<;>try walk_at "z"
    ·exact(pv 1)
    ·exact(cb (av (fv 4) (av (fv 2) (av (fv 3) aY))))
   ·exact bJ
 refine aE ?_;refine bA ?_
 ·exact(Mp (zt f) rfl rfl T.d1u (pv 1))
theorem Ol{g:Addr}{fd:FuncData}(T:Tx P w K mg)(D:FD K mg "check_deeds" so ["thing"] g fd):az P w K mg base (ba P w) 6 g fd ["thing"] (bc K mg jK):=by
 obtain⟨m,n,e⟩:=T.d0c;have i:=Od P w base T e;obtain⟨j,k⟩:=T.xt0;obtain⟨b,a,_⟩:=k.at_ (c:="NoDeeds") (by decide +kernel);refine bC D.fn Na (by decide) ?_;intro l A d s H E F o f h;unfold wZ;refine aE ?_;refine bH ?_ ?_ ?_
 ·exact(fh (dk (di (aW (aS h i e f (ao (fv 0) aF))))))
 ·refine aE ?_;exact(iR h f.hd rfl a)
 ·exact bJ
theorem Om{g:Addr}{fd:FuncData}(T:Tx P w K mg)(D:FD K mg "_law_deeds" tt ["_law_script","_law_town"] g fd):az P w K mg base (ba P w) 6 g fd ["_law_script","_law_town"] (bc K mg rO):=by
 obtain⟨l,m,c⟩:=T.d0w;have e:=nn P w base T c;obtain⟨g1,f1,d⟩:=T.d0x;have f:=pk P w base T d;obtain⟨g2,f2,D2⟩:=T.d0z;have j:=Oh P w base T D2;refine bC D.fn pd (by decide) ?_;intro k A h s H E F n a b;unfold xa;refine aD ?_ ?_
 ·refine iK (i:=2) ?_ ?_ ?_ ?_ ?_ ?_<;>try walk_at "z"
  ·exact pd.nd
  ·exact(ls aY)
 refine aD ?_ ?_
 ·refine mx ?_ ?_ ?_ ?_ ?_ ?_<;>try walk_at "z"
  ·exact PassesOwn.leaving
  ·exact(qM (qC rfl T.d1v (av (aW (aS b e c a (aZ (pv 0) (aZ (pv 1) (ao (aW (aS b f d a (aZ (pv 0) (aZ (pv 1) (ao (et (av (ae au) (av (ae au) (av (ae au) aY)))) aF))))) aF))))) aY)))
  ·exact(ej 3 pd.nd)
  ·unfold oV;refine aD ?_ ?_
   ·refine bU (i:=4) ?_ ?_ ?_ ?_ ?_ ?_<;>try walk_at "z"
    ·exact pd.nd
    ·exact(aW (aS b e c a (aZ (pv 0) (aZ (pv 1) (ao (aW (aS b f d a (aZ (pv 0) (aZ (pv 1) (ao (et (av (ae au) (av (ae au) (av (ae au) aY)))) aF))))) aF)))))
   refine aD ?_ ?_
   ·refine bU (i:=5) ?_ ?_ ?_ ?_ ?_ ?_<;>try walk_at "z"
    ·exact pd.nd
    ·exact(aW (aS b f d a (aZ (pv 0) (aZ (pv 1) (ao (et (av (ae bE) (av (ae bE) (av (cb (av (ae bE) (av (fv 4) aY))) aY)))) aF)))))
   refine aE ?_;refine mB ?_ ?_ ?_ ?_ ?_ ?_ ?_ ?_<;>try walk_at "z"
   ·exact(pv 2)
   ·exact(cb (av (aW (aS b j D2 a (aZ (pv 0) (aZ (pv 1) aF)))) (av (fv 5) (av (lB a.units (aW (aS b e c a (aZ (pv 0) (aZ (pv 1) (ao (ae au) aF))))) (ae au)) aY))))
 refine aE ?_;refine bA ?_
 ·exact(gR vt (uW uE vf rfl T.d1x lO (av (fv 2) aY)))
theorem CM{C:Addr}{g:Addr}{fd:FuncData}(T:Tx P w K mg)(a:dt K mg C)(D:MD K C "give" "Hall.give" sL ["self","runner","moment"] g fd):az P w K mg base (ba P w) 6 g fd ["self","runner","moment"] (bc K mg (gV C)):=by
 obtain⟨i,j,c⟩:=a.d2c;have d:=xA P w base T a c;refine bC D.fn Nm (by decide) ?_;intro e A b s H E F k f h;unfold rP;refine aD ?_ ?_
 ·refine ik ?_ ?_
  ·exact(dS h a.cl d c f (pv 0) (ao (fv 1) (ao (fv 2) aF)))
  ·rfl
 refine aD ?_ ?_
 ·refine fm ?_ ?_ ?_ ?_ ?_
  ·exact a.cl
  ·exact a.d23
  ·exact(pv 0)
  ·exact(fv 2)
  ·rfl
 refine aE ?_;refine fm ?_ ?_ ?_ ?_ ?_
 ·exact a.cl
 ·exact a.d21
 ·exact(pv 0)
 ·exact(ae cM)
 ·rfl
theorem Oo{C:Addr}{g:Addr}{fd:FuncData}(T:Tx P w K mg)(a:dt K mg C)(D:MD K C "step_ahead" "Hall.step_ahead" sR ["self","runner","moment"] g fd):az P w K mg base (ba P w) 6 g fd ["self","runner","moment"] (bc K mg (lL C)):=by
 obtain⟨m,n,e⟩:=a.d2h;have h:=Oj P w base T a e;obtain⟨g1,f1,f⟩:=a.d2f;have j:=xy P w base T a f;obtain⟨g2,f2,D2⟩:=T.d0p;have k:=Of P w base T D2;refine bC D.fn pc (by decide) ?_;intro l A d s H E F o b c;unfold nh;refine aD ?_ ?_
 ·refine bU (i:=3) ?_ ?_ ?_ ?_ ?_ ?_<;>try walk_at "z"
  ·exact pc.nd
  ·exact(aW (gE c a.cl h e b (pv 0)))
 refine aD ?_ ?_
 ·refine bH ?_ ?_ ?_
  ·exact(BH (fv 3) (ae cM))
  ·refine aE ?_;refine bA ?_
   ·exact(cb (av (ae bE) (av (ae cM) aY)))
  ·exact bJ
 refine aD ?_ ?_
 ·refine bH ?_ ?_ ?_
  ·exact(qX (aX (fv 3) (ae au)) (fv 2))
  ·refine aE ?_;refine bA ?_
   ·exact(cb (av (ae bE) (av (aX (fv 3) (ae au)) aY)))
  ·exact bJ
 refine aD ?_ ?_
 ·refine bU (i:=4) ?_ ?_ ?_ ?_ ?_ ?_<;>try walk_at "z"
  ·exact pc.nd
  ·exact(aX (fv 3) (ae au))
 refine aD ?_ ?_
 ·refine bU (i:=5) ?_ ?_ ?_ ?_ ?_ ?_<;>try walk_at "z"
  ·exact pc.nd
  ·exact(aX (fv 3) (ae au))
 refine aD ?_ ?_
 ·refine bU (i:=6) ?_ ?_ ?_ ?_ ?_ ?_<;>try walk_at "z"
  ·exact pc.nd
  ·exact(vr (dk (di (aW (aS c k D2 b (ao (cY a.cl a.d28 (pv 0)) (ao (aX (cY a.cl a.d20 (pv 0)) (fv 4)) (ao (fv 5) (ao (fv 2) aF)))))))) (ae bE) (ae bE))
 refine aE ?_;refine cR ?_
 ·exact(dS c a.cl j f b (pv 0) (ao (cb (av (fv 2) (av (fv 1) (av (fv 6) (av (fv 4) (av (fv 5) aY)))))) aF))
theorem CN{C:Addr}{g:Addr}{fd:FuncData}(T:Tx P w K mg)(a:dt K mg C)(D:MD K C "finish" "Hall.finish" sS ["self","runner","moment"] g fd):az P w K mg base (ba P w) 6 g fd ["self","runner","moment"] (bc K mg (gk C)):=by
 obtain⟨q,r,i⟩:=a.d2c;have k:=xA P w base T a i;obtain⟨g1,f1,j⟩:=a.d2f;have l:=xy P w base T a j;obtain⟨g2,f2,D2⟩:=a.d2g;have m:=CG P w base T a D2;obtain⟨n,o⟩:=T.xt0;obtain⟨d,b,_⟩:=o.at_ (c:="Nothing") (by decide +kernel);refine bC D.fn Np (by decide) ?_;intro p A h s H E F t e f;unfold oW;refine aD ?_ ?_
 ·refine ik ?_ ?_
  ·exact(dS f a.cl k i e (pv 0) (ao (fv 1) (ao (fv 2) aF)))
  ·rfl
 refine aD ?_ ?_
 ·refine bH ?_ ?_ ?_
  ·exact(fh (dk (di (aW (gE f a.cl m D2 e (pv 0))))))
  ·refine aE ?_;exact(iR f e.hd rfl b)
  ·exact bJ
 refine aD ?_ ?_
 ·refine fm ?_ ?_ ?_ ?_ ?_
  ·exact a.cl
  ·exact a.d23
  ·exact(pv 0)
  ·exact(fv 2)
  ·rfl
 refine aE ?_;refine cR ?_
 ·exact(dS f a.cl l j e (pv 0) (ao (cb (av (fv 2) (av (fv 1) (av (ae bE) (av (aX (cY a.cl a.d1z (pv 0)) (ae au)) (av (aX (cY a.cl a.d1z (pv 0)) (ae au)) aY)))))) aF))
theorem CO{C:Addr}{g:Addr}{fd:FuncData}(T:Tx P w K mg)(a:dt K mg C)(D:MD K C "__init__" "Hall.__init__" sG ["self","zone","deeds"] g fd):az P w K mg base (ba P w) 7 g fd ["self","zone","deeds"] (bc K mg (iY C)):=by
 obtain⟨k,l,d⟩:=T.d0d;have h:=Oe P w base T d;obtain⟨g1,f1,e⟩:=T.d0f;have i:=Ol P w base T e;refine bC D.fn Nh (by decide) ?_;intro j A c s H E F m f b;unfold oX;refine aD ?_ ?_
 ·refine ik ?_ ?_
  ·exact(aS b h d f (ao (fv 1) aF))
  ·rfl
 refine aD ?_ ?_
 ·refine ik ?_ ?_
  ·exact(aS b i e f (ao (fv 2) aF))
  ·rfl
 refine aD ?_ ?_
 ·refine fm ?_ ?_ ?_ ?_ ?_
  ·exact a.cl
  ·exact a.d28
  ·exact(pv 0)
  ·exact(fv 1)
  ·rfl
 refine aD ?_ ?_
 ·refine fm ?_ ?_ ?_ ?_ ?_
  ·exact a.cl
  ·exact a.d20
  ·exact(pv 0)
  ·exact(fv 2)
  ·rfl
 refine aD ?_ ?_
 ·refine fm ?_ ?_ ?_ ?_ ?_
  ·exact a.cl
  ·exact a.d23
  ·exact(pv 0)
  ·exact(ae cM)
  ·rfl
 refine aD ?_ ?_
 ·refine fm ?_ ?_ ?_ ?_ ?_
  ·exact a.cl
  ·exact a.d21
  ·exact(pv 0)
  ·exact(ae cM)
  ·rfl
 refine aD ?_ ?_
 ·refine fm ?_ ?_ ?_ ?_ ?_
  ·exact a.cl
  ·exact a.d26
  ·exact(pv 0)
  ·exact(ae au)
  ·rfl
 refine aD ?_ ?_
 ·refine fm ?_ ?_ ?_ ?_ ?_
  ·exact a.cl
  ·exact a.d22
  ·exact(pv 0)
  ·exact(ae au)
  ·rfl
 refine aD ?_ ?_
 ·refine fm ?_ ?_ ?_ ?_ ?_
  ·exact a.cl
  ·exact a.d1z
  ·exact(pv 0)
  ·exact(ae cM)
  ·rfl
 refine aD ?_ ?_
 ·refine Mc ?_ ?_ ?_ ?_
  ·exact a.cl
  ·exact a.d24
  ·exact(pv 0)
  ·rfl
 refine aD ?_ ?_
 ·refine Md ?_ ?_ ?_ ?_
  ·exact a.cl
  ·exact a.d27
  ·exact(pv 0)
  ·rfl
 refine aE ?_;refine Mi (own:=["deed"]) (capN:=[]) (caps:=[]) ?_ ?_ ?_ ?_ ?_ ?_ ?_ ?_ ?_ ?_ ?_<;>try walk_at "z"
 ·exact a.cl
 ·exact a.d25
 ·exact(pv 0)
 ·exact b.1
 ·exact(aq.of (own:=["deed"]) (capN:=[]) (caps:=[]))
 ·exact(my (fv 2))
 ·exact(fun _ _ _ _ _ _ n=>⟨(ej 0 (show((["deed"]:List Str)++([]:List Str)).Nodup from by decide +kernel)),mz,(ae au)⟩)
theorem CP{C:Addr}{g:Addr}{fd:FuncData}(T:Tx P w K mg)(a:dt K mg C)(D:MD K C "step" "Hall.step" sP ["self","runner","moment"] g fd):az P w K mg base (ba P w) 7 g fd ["self","runner","moment"] (bc K mg (gl C)):=by
 obtain⟨n,o,e⟩:=a.d2c;have i:=xA P w base T a e;obtain⟨g1,f1,f⟩:=a.d2g;have j:=CG P w base T a f;obtain⟨g2,f2,D2⟩:=a.d2k;have k:=Oo P w base T a D2;obtain⟨g3,p,h⟩:=a.d2j;have l:=NQ P w base T a h;refine bC D.fn No (by decide) ?_;intro m A d s H E F q b c;unfold ni;refine aD ?_ ?_
 ·refine ik ?_ ?_
  ·exact(dS c a.cl i e b (pv 0) (ao (fv 1) (ao (fv 2) aF)))
  ·rfl
 refine aD ?_ ?_
 ·refine fm ?_ ?_ ?_ ?_ ?_
  ·exact a.cl
  ·exact a.d23
  ·exact(pv 0)
  ·exact(fv 2)
  ·rfl
 refine aD ?_ ?_
 ·refine bH ?_ ?_ ?_
  ·exact(dk (di (aW (gE c a.cl j f b (pv 0)))))
  ·refine aE ?_;refine bA ?_
   ·exact(cb (av (ae bE) (av (aX (cY a.cl a.d1z (pv 0)) (ae au)) (av (aX (cY a.cl a.d1z (pv 0)) (ae au)) aY))))
  ·exact bJ
 refine aD ?_ ?_
 ·refine bH ?_ ?_ ?_
  ·exact(qY (cY a.cl a.d1z (pv 0)) (ae cM))
  ·refine aE ?_;refine cR ?_
   ·exact(dS c a.cl l h b (pv 0) (ao (fv 1) (ao (fv 2) aF)))
  ·exact bJ
 refine aE ?_;refine cR ?_
 ·exact(dS c a.cl k D2 b (pv 0) (ao (fv 1) (ao (fv 2) aF)))
theorem Op{C:Addr}{g:Addr}{fd:FuncData}(T:Tx P w K mg)(a:dt K mg C)(D:FD K mg "ask" sW ["hall","call"] g fd):az P w K mg base (ba P w) 8 g fd ["hall","call"] (bc K mg (dW C)):=by
 obtain⟨n,o,e⟩:=a.d2l;have i:=CN P w base T a e;obtain⟨g1,f1,f⟩:=a.d2d;have j:=CL P w base T a f;obtain⟨g2,f2,D2⟩:=a.d2e;have k:=CM P w base T a D2;obtain⟨g3,p,h⟩:=a.d2i;have l:=CP P w base T a h;refine bC D.fn Nu (by decide) ?_;intro m A d s H E F q b c;unfold iZ;refine aD ?_ ?_
 ·refine bH ?_ ?_ ?_
  ·exact(eB b.units (aX (fv 1) (ae au)) (ae bE))
  ·refine aE ?_;refine cR ?_
   ·exact(dS c a.cl j f b (pv 0) (ao (aX (fv 1) (ae au)) (ao (aX (fv 1) (ae au)) (ao (aX (fv 1) (ae au)) aF))))
  ·exact bJ
 refine aD ?_ ?_
 ·refine bH ?_ ?_ ?_
  ·exact(eB b.units (aX (fv 1) (ae au)) (ae bE))
  ·refine aE ?_;refine cR ?_
   ·exact(dS c a.cl k D2 b (pv 0) (ao (aX (fv 1) (ae au)) (ao (aX (fv 1) (ae au)) aF)))
  ·exact bJ
 refine aD ?_ ?_
 ·refine bH ?_ ?_ ?_
  ·exact(eB b.units (aX (fv 1) (ae au)) (ae bE))
  ·refine aE ?_;refine cR ?_
   ·exact(dS c a.cl l h b (pv 0) (ao (aX (fv 1) (ae au)) (ao (aX (fv 1) (ae au)) aF)))
  ·exact bJ
 refine aE ?_;refine cR ?_
 ·exact(dS c a.cl i e b (pv 0) (ao (aX (fv 1) (ae au)) (ao (aX (fv 1) (ae au)) aF)))
theorem Oq{C:Addr}{g:Addr}{fd:FuncData}(T:Tx P w K mg)(a:dt K mg C)(D:FD K mg "_law_do" tx ["_law_hall","_law_call_here"] g fd):az P w K mg base (ba P w) 8 g fd ["_law_hall","_law_call_here"] (bc K mg (dX C)):=by
 obtain⟨I,J,o⟩:=a.d2l;have r:=CN P w base T a o;obtain⟨g1,f1,p⟩:=a.d2d;have t:=CL P w base T a p;obtain⟨g2,f2,D2⟩:=a.d2e;have u:=CM P w base T a D2;obtain⟨g3,L,q⟩:=a.d2i;have v:=CP P w base T a q;obtain⟨M,N,e⟩:=T.d12;have x:=CD P w base T e;obtain⟨f,O⟩:=T.xt0;refine bC D.fn Cy (by decide) ?_;intro y A n s H E F Q d z;unfold jb;refine aE ?_;refine Bq (D:=f) (i:=2) ?_ ?_ ?_ ?_ ?_ ?_ ?_ ?_ ?_ ?_<;>try walk_at "z"
 ·exact Cy.nd
 ·exact z.1
 ·intro B k l R c G;refine aD ?_ ?_
  ·refine bH ?_ ?_ ?_
   ·exact(eB d.units (aX (fv 1) (ae au)) (ae bE))
   ·refine aE ?_;refine cR ?_
    ·exact(dS c a.cl t p d (pv 0) (ao (aX (fv 1) (ae au)) (ao (aX (fv 1) (ae au)) (ao (aX (fv 1) (ae au)) aF))))
   ·exact bJ
  refine aD ?_ ?_
  ·refine bH ?_ ?_ ?_
   ·exact(eB d.units (aX (fv 1) (ae au)) (ae bE))
   ·refine aE ?_;refine cR ?_
    ·exact(dS c a.cl u D2 d (pv 0) (ao (aX (fv 1) (ae au)) (ao (aX (fv 1) (ae au)) aF)))
   ·exact bJ
  refine aD ?_ ?_
  ·refine bH ?_ ?_ ?_
   ·exact(eB d.units (aX (fv 1) (ae au)) (ae bE))
   ·refine aE ?_;refine cR ?_
    ·exact(dS c a.cl v q d (pv 0) (ao (aX (fv 1) (ae au)) (ao (aX (fv 1) (ae au)) aF)))
   ·exact bJ
  refine aE ?_;refine cR ?_
  ·exact(dS c a.cl r o d (pv 0) (ao (aX (fv 1) (ae au)) (ao (aX (fv 1) (ae au)) aF)))
 ·intro B S k l m;refine aE ?_;refine cR ?_
  ·exact(vC (Br (iy m) x (br.h (d.mono (j:=1) (by decide)) _) rfl e.mgf e.fn.kp e.b (aZ (pv 2) aF)))
theorem CQ{C:Addr}{g:Addr}{fd:FuncData}(T:Tx P w K mg)(k:dt K mg C)(D:FD K mg "do" sX ["hall","call"] g fd):az P w K mg base (ba P w) 9 g fd ["hall","call"] (bc K mg (eP C)):=by
 obtain⟨r,t,f⟩:=T.d0q;have l:=Oa P w base T f;obtain⟨g1,f1,h⟩:=T.d0r;have m:=Op P w base T k h;obtain⟨a,u⟩:=T.xt0;refine bC D.fn Nv (by decide) ?_;intro n A e s H E F v i j;unfold oY;refine aD ?_ ?_
 ·refine ik ?_ ?_
  ·exact(aS j l f i (ao (fv 1) aF))
  ·rfl
 refine aE ?_;refine Ls (D:=a) ?_ ?_ ?_ ?_ ?_ ?_ ?_<;>try walk_at "z"
 ·exact j.1
 ·intro o b c x d p;refine aE ?_;refine cR ?_
  ·exact(aS d m h i (aZ (pv 0) (ao (fv 1) aF)))
 ·intro o y b c q;refine aE ?_;refine bA ?_
  ·exact(ae bE)
theorem CS{C:Addr}{g:Addr}{fd:FuncData}(T:Tx P w K mg)(e:dt K mg C)(D:FD K mg "run" sY ["zone","deeds","calls"] g fd):az P w K mg base (ba P w) 10 g fd ["zone","deeds","calls"] (bc K mg (gm C)):=by
 obtain⟨u,v,f⟩:=e.d29;have o:=CO P w base T e f;obtain⟨g1,f1,n⟩:=T.d0s;have p:=CQ P w base T e n;obtain⟨q,r⟩:=T.xt0;obtain⟨d,a,_⟩:=r.at_ (c:="NoCall") (by decide +kernel);refine bC D.fn Ct (by decide) ?_;intro t A m s H E F x h j;unfold lM;refine aD ?_ ?_
 ·refine iK (i:=3) ?_ ?_ ?_ ?_ ?_ ?_<;>try walk_at "z"
  ·exact Ct.nd
  ·exact(vZ j (e.make f.mt) o (h.mono (by decide)) rfl e.mg f.b (av (fv 0) (av (fv 1) aY)))
 refine aD ?_ ?_
 ·refine bH ?_ ?_ ?_
  ·exact(fh (dk (di (iM (iI rfl T.d1q (fv 2) (hI rfl T.d1s NA rfl))))))
  ·refine aE ?_;exact(iR j h.hd rfl a)
  ·exact bJ
 refine aE ?_;refine cR ?_
 ·exact(MB (C:=C) (pv 3) (Cg (k:=0) (jm:=3) j (aq.of (own:=["call"]) (capN:=["hall"]) (caps:=[3])) rfl rfl rfl rfl rfl (vF (fv 2)) (fun _ _ _ _ _ _ _ _ l=>⟨(ej 0 (show((["call"]:List Str)++(["hall"]:List Str)).Nodup from by decide +kernel)),(aW (aS l p n h (aZ (pv 1) (ao (fv 0) aF))))⟩)))
theorem Ot{C:Addr}{g:Addr}{fd:FuncData}(T:Tx P w K mg)(m:dt K mg C)(D:FD K mg "_law_asked" tz ["_law_what","_law_one","_law_other","_law_third"] g fd):az P w K mg base (ba P w) 11 g fd ["_law_what","_law_one","_law_other","_law_third"] (bc K mg (gG C)):=by
 obtain⟨y,z,n⟩:=T.d0s;have p:=CQ P w base T m n;obtain⟨g1,f1,o⟩:=T.d0t;have q:=CS P w base T m o;obtain⟨g2,f2,D2⟩:=T.d12;have r:=CD P w base T D2;obtain⟨d,B⟩:=T.xt0;refine bC D.fn Cz (by decide) ?_;intro t A l s H E F G c u;unfold oZ;refine aE ?_;refine Bq (D:=d) (i:=4) ?_ ?_ ?_ ?_ ?_ ?_ ?_ ?_ ?_ ?_<;>try walk_at "z"
 ·exact Cz.nd
 ·exact u.1
 ·intro v e f I a x;refine aD ?_ ?_
  ·refine bH ?_ ?_ ?_
   ·exact(eB c.units (fv 0) (ae au))
   ·refine aE ?_;refine cR ?_
    ·exact(aS a q o c (ao (fv 1) (ao (fv 2) (ao (fv 3) aF))))
   ·exact bJ
  refine aE ?_;refine cR ?_
  ·exact(aS a p n c (aZ (pv 1) (ao (fv 2) aF)))
 ·intro v J e f k;refine aE ?_;refine cR ?_
  ·exact(vC (Br (iy k) r (br.h (c.mono (j:=1) (by decide)) _) rfl D2.mgf D2.fn.kp D2.b (aZ (pv 4) aF)))
theorem Ou{C:Addr}{g:Addr}{fd:FuncData}(T:Tx P w K mg)(d:dt K mg C)(D:FD K mg "law" kv ["_law_script"] g fd):az P w K mg base (ba P w) 12 g fd ["_law_script"] (bc K mg (Cp C)):=by
 obtain⟨S,U,r⟩:=T.d0y;have I:=Og P w base T r;obtain⟨g1,f1,t⟩:=T.d10;have J:=Om P w base T t;obtain⟨g2,f2,D2⟩:=d.d29;have u:=CO P w base T d D2;obtain⟨g3,X,v⟩:=T.d0t;have L:=CS P w base T d v;obtain⟨Y,Z,l⟩:=T.d0x;have x:=pk P w base T l;obtain⟨g5,f5,m⟩:=T.d0w;have y:=nn P w base T m;obtain⟨g6,f6,z⟩:=T.d11;have M:=Oi P w base T z;obtain⟨g7,f7,B⟩:=T.d13;have N:=Oq P w base T d B;obtain⟨g8,f8,n⟩:=d.d2n;have G:=NK P w base T d n;obtain⟨g9,f9,e⟩:=T.d14;have f:=Ot P w base T d e;obtain⟨O,Q,h⟩:=d.d2m;have o:=NJ P w base T d h;refine bC D.fn eQ (by decide) ?_;intro R A q s H E F E' a c;unfold xv;refine aD ?_ ?_
 ·unfold xb;refine iK (i:=1) ?_ ?_ ?_ ?_ ?_ ?_<;>try walk_at "z"
  ·exact eQ.nd
  ·exact(ls aY)
 refine aD ?_ ?_
 ·unfold xc;refine bU (i:=2) ?_ ?_ ?_ ?_ ?_ ?_<;>try walk_at "z"
  ·exact eQ.nd
  ·exact(aW (aS c I r a (aZ (pv 0) (aZ (pv 1) aF))))
 refine aD ?_ ?_
 ·unfold xf;refine bU (i:=3) ?_ ?_ ?_ ?_ ?_ ?_<;>try walk_at "z"
  ·exact eQ.nd
  ·exact(aW (aS c J t a (aZ (pv 0) (aZ (pv 1) aF))))
 refine aD ?_ ?_
 ·unfold xg;refine iK (i:=4) ?_ ?_ ?_ ?_ ?_ ?_<;>try walk_at "z"
  ·exact eQ.nd
  ·exact(vZ c (d.make D2.mt) u (a.mono (by decide)) rfl d.mg D2.b (av (fv 2) (av (fv 3) aY)))
 refine aD ?_ ?_
 ·unfold xh;refine iK (i:=5) ?_ ?_ ?_ ?_ ?_ ?_<;>try walk_at "z"
  ·exact eQ.nd
  ·exact(ls aY)
 refine aD ?_ ?_
 ·unfold xi;refine iK (i:=6) ?_ ?_ ?_ ?_ ?_ ?_<;>try walk_at "z"
  ·exact eQ.nd
  ·exact(ls aY)
 refine aD ?_ ?_
 ·unfold xj;refine bU (i:=7) ?_ ?_ ?_ ?_ ?_ ?_<;>try walk_at "z"
  ·exact eQ.nd
  ·exact(ae au)
 refine aD ?_ ?_
 ·unfold xk;refine mx ?_ ?_ ?_ ?_ ?_ ?_<;>try walk_at "z"
  ·exact PassesOwn.leaving
  ·exact(qM (qC rfl T.d1v (av (aW (aS c y m a (aZ (pv 0) (aZ (pv 1) (ao (ae au) aF))))) aY)))
  ·exact(ej 8 eQ.nd)
  ·unfold nj;refine aD ?_ ?_
   ·refine bU (i:=9) ?_ ?_ ?_ ?_ ?_ ?_<;>try walk_at "z"
    ·exact eQ.nd
    ·exact(aW (aS c M z a (aZ (pv 0) (aZ (pv 1) (ao (fv 7) (ao (aX (aW (gE c d.cl o h a (pv 4))) (ae au)) aF))))))
   refine aD ?_ ?_
   ·refine bH ?_ ?_ ?_
    ·exact(eB a.units (aW (aS c y m a (aZ (pv 0) (aZ (pv 1) (ao (ae au) aF))))) (ae au))
    ·refine aE ?_;refine bU (i:=9) ?_ ?_ ?_ ?_ ?_ ?_<;>try walk_at "z"
     ·exact eQ.nd
     ·exact(aW (aS c x l a (aZ (pv 0) (aZ (pv 1) (ao (et (av (cb (av (ae bE) (av (ae au) (av (ae au) (av (ae au) aY))))) (av (cb (av (ae bE) (av (ae au) (av (ae cM) aY)))) (av (cb (av (ae bE) (av (ae au) (av (vl (ae au)) aY)))) (av (cb (av (ae bE) (av (ae cM) (av (ae au) aY)))) aY))))) aF)))))
    ·refine aE ?_;refine bU (i:=7) ?_ ?_ ?_ ?_ ?_ ?_<;>try walk_at "z"
     ·exact eQ.nd
     ·exact(aX (fv 9) (ae au))
   refine aD ?_ ?_
   ·refine bU (i:=10) ?_ ?_ ?_ ?_ ?_ ?_<;>try walk_at "z"
    ·exact eQ.nd
    ·exact(aW (aS c N B a (aZ (pv 4) (ao (fv 9) aF))))
   refine aD ?_ ?_
   ·refine bH ?_ ?_ ?_
    ·exact(ij (vp (dk (di (iM (iI rfl T.d1q (fv 10) (hI rfl T.d1x lO rfl))))) (vo (eB a.units (aX (fv 10) (ae au)) (ae bE)))))
    ·refine aE ?_;refine bU (i:=10) ?_ ?_ ?_ ?_ ?_ ?_<;>try walk_at "z"
     ·exact eQ.nd
     ·exact(ae bE)
    ·exact bJ
   refine aD ?_ ?_
   ·refine mB ?_ ?_ ?_ ?_ ?_ ?_ ?_ ?_<;>try walk_at "z"
    ·exact(pv 5)
    ·exact(fv 9)
   refine aE ?_;refine mB ?_ ?_ ?_ ?_ ?_ ?_ ?_ ?_<;>try walk_at "z"
   ·exact(pv 6)
   ·exact(fv 10)
 refine aD ?_ ?_
 ·unfold xl;refine MC (i:=11) (j:=10) rfl ?_ eQ.nd rfl rfl (by first | exact Or.inl rfl | exact Or.inr rfl) (by first | exact Or.inl rfl | exact Or.inr rfl) (by first | exact .inl rfl | exact .inr rfl | assumption) (by first | exact .inl rfl | exact .inr rfl | assumption) rfl rfl rfl rfl rfl rfl rfl;exact(aS c L v a (ao (fv 2) (ao (fv 3) (ao (fv 5) aF))))
 refine aD ?_ ?_
 ·unfold xm;refine iK (i:=12) ?_ ?_ ?_ ?_ ?_ ?_<;>try walk_at "z"
  ·exact eQ.nd
  ·exact(vZ c (d.make D2.mt) u (a.mono (by decide)) rfl d.mg D2.b (av (fv 2) (av (fv 3) aY)))
 refine aD ?_ ?_
 ·unfold xn;refine bH ?_ ?_ ?_
  ·exact(ij (jA (iV a.units (fv 10) (fv 6)) (jA (iV a.units (Cg (k:=0) (jm:=12) c (aq.of (own:=["_law_call_here"]) (capN:=["_law_other"]) (caps:=[12])) rfl rfl rfl rfl rfl (vF (fv 5)) (fun _ _ _ _ _ _ _ _ p=>⟨(ej 0 (show((["_law_call_here"]:List Str)++(["_law_other"]:List Str)).Nodup from by decide +kernel)),(aW (aS p f e a (ao (ae au) (aZ (pv 1) (ao (fv 0) (ao (ae cM) aF))))))⟩)) (fv 6)) (jZ (iV a.units (aW (gE c d.cl G n a (pv 11))) (aW (gE c d.cl G n a (pv 4))))))))
  ·refine aE ?_;refine bA ?_
   ·exact(ae fU)
  ·exact bJ
 refine aD ?_ ?_
 ·unfold xo;refine bU (i:=13) ?_ ?_ ?_ ?_ ?_ ?_<;>try walk_at "z"
  ·exact eQ.nd
  ·exact(aW (aS c x l a (aZ (pv 0) (aZ (pv 1) (ao (et (av (ae cM) (av (cb aY) (av (cb (av (ae bE) (av (ae au) (av (ae au) aY)))) (av (cb (av (ae bE) (av (ae au) aY))) (av (cb (av (ae bE) (av (ae au) (av (ae au) aY)))) (av (et (av (ae bE) (av (ae au) (av (ae au) aY)))) (av (ae bE) aY)))))))) aF)))))
 refine aD ?_ ?_
 ·unfold xp;refine bH ?_ ?_ ?_
  ·exact(iV a.units (aW (aS c f e a (ao (ae au) (aZ (pv 12) (ao (fv 13) (ao (ae cM) aF)))))) (cb (av (ae bE) (av (ae au) aY))))
  ·refine aE ?_;refine bA ?_
   ·exact(ae fU)
  ·exact bJ
 refine aD ?_ ?_
 ·unfold xq;refine bH ?_ ?_ ?_
  ·exact(iV a.units (aW (aS c f e a (ao (ae au) (ao (fv 2) (ao (fv 3) (ao (qV (fv 5) (et (av (fv 13) aY))) aF)))))) (cb (av (ae bE) (av (ae au) aY))))
  ·refine aE ?_;refine bA ?_
   ·exact(ae fU)
  ·exact bJ
 refine aD ?_ ?_
 ·unfold xr;refine bH ?_ ?_ ?_
  ·exact(ij (jA (iV a.units (aW (aS c f e a (ao (ae au) (ao (fv 2) (ao (fv 3) (ao (gR vt (uW uE vf rfl T.d1x lO (av (fv 5) aY))) aF)))))) (cb (av (ae bE) (av (ae au) aY)))) (jZ (iV a.units (aW (aS c f e a (ao (ae au) (ao (fv 2) (ao (ae cM) (ao (ae cM) aF)))))) (cb (av (ae bE) (av (ae au) aY)))))))
  ·refine aE ?_;refine bA ?_
   ·exact(ae fU)
  ·exact bJ
 refine aE ?_;unfold xu;refine bA ?_
 ·exact(lB a.units (aW (aS c f e a (ao (ae au) (ao (ae cM) (ao (ae cM) (ao (ae cM) aF)))))) (cb (av (ae bE) (av (ae au) aY))))
end
end K3
namespace K3
open PySem L2 L2.L3 Due
noncomputable def cH(d:PyData)(lo a:Int):Bool:=match d with
 | .int i=>decide (lo<=i)&&decide (i<=a)
 | _=>false
noncomputable def dg:PyData->Bool
 | .dict _=>false
 | _=>true
@[simp] theorem QX:ck "int" "int" = some true:=by decide
@[simp] theorem QY:ck "int" "bool" = some false:=by decide
@[simp] theorem QZ:ck "bool" "int" = some true:=by decide
@[simp] theorem Ra:ck "bool" "bool" = some true:=by decide
@[simp] theorem Rb:ck "NoneType" "int" = some false:=by decide
@[simp] theorem Rc:ck "str" "int" = some false:=by decide
@[simp] theorem Re:ck "list" "int" = some false:=by decide
@[simp] theorem Rf:ck "tuple" "int" = some false:=by decide
@[simp] theorem Rg:ck "int" "tuple" = some false:=by decide
@[simp] theorem Rh:ck "bool" "tuple" = some false:=by decide
@[simp] theorem Ri:ck "NoneType" "tuple" = some false:=by decide
@[simp] theorem Rj:ck "str" "tuple" = some false:=by decide
@[simp] theorem Rk:ck "list" "tuple" = some false:=by decide
@[simp] theorem Rl:ck "tuple" "tuple" = some true:=by decide
theorem pp(i j:Int):PyData.eqv (.int i) (.int j)=(i==j):=by rw[PyData.eqv]
theorem nq(i:Int):SeqAt.shaped (.int i)=true:=by rfl
theorem kw{d:PyData}{lo a:Int}(h:dg d=true):gF [.dat d,.dat (.int lo),.dat (.int a)]=.rt (.dat (.bool (cH d lo a))) []:=by
 cases d with
 | dict _=>cases h
 | int i=>
  by_cases h1:lo<=i
  ·simp[aJ,gF,oI,cH,h1]
  ·simp[aJ,gF,oI,cH,h1]
 | _=>simp[aJ,gF,oI,cH]
noncomputable def fW(d:PyData)(n:Int):Bool:=match d with
 | .tuple ds=>decide ((ds.length:Int)=n)
 | _=>false
theorem pq{d:PyData}{n:Int}(h:dg d=true):kr [.dat d,.dat (.int n)]=.rt (.dat (.bool (fW d n))) []:=by
 cases d with
 | dict _=>cases h
 | tuple ds=>simp[aJ,kr,ri,fW,nq,pp];rfl
 | _=>simp[aJ,kr,ri,fW]
theorem CT{d:PyData}(h:dg d=true):oM [.dat d]=.rt (.dat (.bool (cH d (-12) 14))) []:=by simp[aJ,oM,wC,kw h]
theorem xB{d:PyData}(h:dg d=true):mP [.dat d]=.rt (.dat (.bool (cH d 0 9999))) []:=by simp[aJ,mP,wD,kw h]
theorem xD{d:PyData}(h:dg d=true):rE [.dat d]=if cH d 0 9999=true then .rt (.dat .none) [] else .ex "NoMoment" []:=by simp only[rE,wM];cases a:cH d 0 9999<;>simp[aJ,xB h,a]
noncomputable abbrev cZ(p:Int×Int):PyData:=.tuple [.int p.1,.int p.2]
noncomputable abbrev cn(a:Int)(b:Sh):PyData:=.tuple [.int a,.tuple (b.map cZ)]
@[simp] theorem Rm{x:PyData}{l:List PyData}:bK (x::l) 0=some x:=by unfold bK dh;rw[if_pos (by omega),if_pos (by simp<;>omega)];rfl
@[simp] theorem Rn{x y:PyData}{l:List PyData}:bK (x::y::l) 1=some y:=by unfold bK dh;rw[if_pos (by omega),if_pos (by simp<;>omega)];rfl
@[simp] theorem Rp{x:PyData}{l:List PyData}:bK (l++[x]) (-1)=some x:=by unfold bK dh;rw[if_neg (by omega),if_pos (by simp;omega)];simp;rw[show(-1+((l.length:Int)+1)).toNat=l.length by omega];simp
theorem CU{c:Option ak}:∀{a:Sh}{lo:Int}{x:Option ak},kq lo a->(∀p∈a,p.1<=9999/\-12<=p.2/\p.2<=14)->∃e y,dm (aI 2) oO (a.map cZ) [c,some (.dat (.int (lo+1))),x]=.nx [c,e,y]
 | [],_,_,_,_=>⟨_,_,rfl⟩
 | (b,k)::r,lo,x,⟨h1,h2⟩,ho=>by
  obtain⟨e,y,f⟩:=CU (lo:=b) (c:=c) (x:=some (.dat (cZ (b,k)))) h2 fun p g=>ho p (bN _ g);have hb:=ho (b,k) List.mem_cons_self;refine⟨e,y,?_⟩;rw[List.map_cons,dm,<-f];have:oO [c,some (.dat (.int (lo+1))),some (.dat (cZ (b,k)))]=.nx [c,some (.dat (.int (b+1))),some (.dat (cZ (b,k)))]:=by simp[aJ,oO,pq (d:=.tuple [.int b,.int k]) rfl,fW,CT (d:=.int k) rfl,kw (d:=.int b) rfl,cH,hb.2.1,hb.2.2,hb.1,show lo+1<=b by omega]
  simp[aJ,this]
theorem Ov{a:Sh}(f:a.length<=6)(b:kq 0 a)(d:∀p∈a,p.1<=9999/\-12<=p.2/\p.2<=14):rD [.dat (.tuple (a.map cZ))]=.rt (.dat (.bool true)) []:=by obtain⟨e,y,h⟩:=CU (lo:=0) (c:=some (.dat (.tuple (a.map cZ)))) (x:=none) b d;simp[aJ,rD,wL,show ¬ (6:Int)<a.length by omega] at h ⊢;rw[h];simp
theorem Ow{a:Int}{b:Sh}(z:oH a b):rK [.dat (cn a b)]=.rt (.dat (.bool true)) []:=by have h1:=z.ah.1;simp[aJ,rK,wR,pq (d:=cn a b) rfl,fW,CT (d:=.int a) rfl,cH,h1.1,h1.2,Ov z.len z.rise fun p c=>⟨z.top p c,z.ah.2 p c⟩]
theorem Ox{a:Int}{b:Sh}(z:oH a b):ix [.dat (cn a b)]=.rt (.dat .none) []:=by simp[aJ,ix,wW,Ow z]
theorem CV{m:Int}{z:Option ak}:∀{ss:Sh}{a:Int}{x:Option ak},∃y,dm (aI 3) rk (ss.map cZ) [z,some (.dat (.int m)),some (.dat (.int a)),x]=.nx [z,some (.dat (.int m)),some (.dat (.int (rh a ss m))),y]
 | [],_,_=>⟨_,rfl⟩
 | (b,c)::r,a,x=>by
  obtain⟨y,d⟩:=CV (m:=m) (z:=z) (ss:=r) (a:=if b<=m then c else a) (x:=some (.dat (cZ (b,c))));refine⟨y,?_⟩;rw[List.map_cons,dm];unfold rh;rw[<-d]
  by_cases h:b<=m<;>simp[aJ,rk,h]
theorem Oy{a m:Int}{b:Sh}:rm [.dat (cn a b),.dat (.int m)]=.rt (.dat (.int (wn a b m))) []:=by obtain⟨y,h⟩:=CV (m:=m) (z:=some (.dat (cn a b))) (ss:=b) (a:=a) (x:=none);simp[aJ,rm,wt] at h ⊢;rw[h];simp[aJ,wn]
theorem tI{e:XM PyData}{g:GM}{f:PyData->PyData}{P:al->Prop}:∀{its ys:List PyData}{U:al},P U->(∀d∈its,∀U,P U->∃a b,g d U=some a/\e a=.ok (f d) b/\P b)->ys.length+its.length<=sizeLine->cS g fK e its ys U=some (ys++its.map f)
 | [],ys,U,_,_,_=>by simp[aJ,cS]
 | d::r,ys,U,c,h,i=>by obtain⟨a,b,h1,h2,h3⟩:=h d List.mem_cons_self U c;simp only[List.length_cons] at i;unfold cS;rw[h1];simp only[fK,h2];rw[if_pos (by omega),tI h3 (fun d hd=>h d (bN _ hd)) (by simp;omega)];simp
theorem xE{t:XM Bool}{e:XM PyData}{g:GM}{p:PyData->Bool}{f:PyData->PyData}{P:al->Prop}:∀{its ys:List PyData}{U:al},P U->(∀d∈its,∀U,P U->∃b a c,g d U=some b/\t b=.ok (p d) a/\P a/\(p d=true->e a=.ok (f d) c/\P c))->ys.length+its.length<=sizeLine->cS g t e its ys U=some (ys++(its.filter p).map f)
 | [],ys,U,_,_,_=>by simp[aJ,cS]
 | d::r,ys,U,j,h,k=>by
  obtain⟨b,a,c,h1,h2,h3,l⟩:=h d List.mem_cons_self U j;simp only[List.length_cons] at k;unfold cS;rw[h1];simp only[h2];cases i:p d with
  | true=>obtain⟨m,n⟩:=l i;simp only[m];rw[if_pos (by omega),xE n (fun d hd=>h d (bN _ hd)) (by simp;omega)];simp[aJ,i]
  | false=>simp only;rw[xE h3 (fun d hd=>h d (bN _ hd)) (by omega)];simp[aJ,i]
@[simp] theorem Rq:(0:Nat)<=sizeLine:=by decide
@[simp] theorem CW:(1:Nat)<=sizeLine:=by decide
@[simp] theorem CY:(2:Nat)<=sizeLine:=by decide
@[simp] theorem Rr:(3:Nat)<=sizeLine:=by decide
@[simp] theorem Rs:(4:Nat)<=sizeLine:=by decide
@[simp] theorem Rt:(5:Nat)<=sizeLine:=by decide
@[simp] theorem Ru:(6:Nat)<=sizeLine:=by decide
@[simp] theorem Rv:(7:Nat)<=sizeLine:=by decide
@[simp] theorem Rw:(8:Nat)<=sizeLine:=by decide
@[simp] theorem Rx:(9:Nat)<=sizeLine:=by decide
@[simp] theorem Oz:(10:Nat)<=sizeLine:=by decide
@[simp] theorem OA:(11:Nat)<=sizeLine:=by decide
@[simp] theorem OB:(12:Nat)<=sizeLine:=by decide
@[simp] theorem OC:(13:Nat)<=sizeLine:=by decide
@[simp] theorem OD:(14:Nat)<=sizeLine:=by decide
noncomputable def fu:Option Int->PyData
 | none=>.none
 | some e=>.int e
noncomputable def jL(p:Int×Option Int×Int):PyData:=.tuple [.int p.1,fu p.2.1,.int p.2.2]
theorem CZ:∀(d:Sh) (s a:Int),oj (.int s::d.map fun p=>.int p.1) ((d.map fun p=>PyData.int p.1)++[.none]) (.int a::d.map fun p=>.int p.2)=(bY s a d).map jL
 | [],s,a=>rfl
 | (b,c)::r,s,a=>by have e:=CZ r b c;simp only[List.map_cons,List.cons_append,bY];rw[<-e];rfl
theorem OE{a:Int}{b:Sh}(l:b.length<=6):rn [.dat (cn a b)]=.rt (.dat (.list ((bY 0 a b).map jL))) []:=by
 have sz:1000<sizeLine:=by decide
 have c:=tI (e:=wu) (g:=aI 0) (f:=fun d=>match d with | .tuple (x::_)=>x | _=>.none) (P:=fun U=>U.length=1) (its:=b.map cZ) (ys:=[]) (U:=[none]) rfl (fun d hd U h=>by
  obtain⟨p,_,rfl⟩:=List.mem_map.mp hd
  match U,h with
  | [y],_=>exact⟨_,_,rfl,by simp[aJ,wu];rfl,rfl⟩) (by simp;omega)
 have i:=tI (e:=wv) (g:=aI 0) (f:=fun d=>match d with | .tuple (_::x::_)=>x | _=>.none) (P:=fun U=>U.length=1) (its:=b.map cZ) (ys:=[]) (U:=[none]) rfl (fun d hd U h=>by
  obtain⟨p,_,rfl⟩:=List.mem_map.mp hd
  match U,h with
  | [y],_=>exact⟨_,_,rfl,by simp[aJ,wv];rfl,rfl⟩) (by simp;omega)
 simp only[List.nil_append,List.map_map] at c i;have j:List.map ((fun d=>match d with | .tuple (x::_)=>x | _=>PyData.none)∘cZ) b=b.map fun p=>PyData.int p.1:=by apply List.map_congr_left;intro p _;rfl
 have k:List.map ((fun d=>match d with | .tuple (_::x::_)=>x | _=>PyData.none)∘cZ) b=b.map fun p=>PyData.int p.2:=by apply List.map_congr_left;intro p _;rfl
 rw[j] at c;rw[k] at i;have z:=CZ b 0 a;simp[aJ,rn,wx,c,i,show b.length<=sizeLine by omega,show b.length+1<=sizeLine by omega,show 1+b.length<=sizeLine by omega,z]
theorem OF{m:Int}{e:Option Int}:ro [.dat (.int m),.dat (fu e)]=.rt (.dat (.bool (lJ m e))) []:=by cases e<;>simp[aJ,ro,wy,fu,lJ]
theorem xF:∀(d:Sh) (s a:Int),(bY s a d).length=d.length+1
 | [],s,a=>rfl
 | (b,c)::r,s,a=>by simp[aJ,bY,xF r b c]
theorem OG{a:List Int}{k:Int}(d:a.length<=63)(e:0<=k):∃v,mK [.scr a,.dat (.int k)]=.rt (.dat (.int v)) []:=by
 by_cases h:k<a.length
 ·have:∃v,bK a k=some v:=by unfold bK dh;rw[if_pos e,if_pos h];exact⟨a[k.toNat]'(by omega),by simp⟩
  obtain⟨v,c⟩:=this;exact⟨v,by simp[aJ,mK,oJ,d,h,c]⟩
 ·by_cases b:a=[]
  ·subst b;exact⟨0,by simp[aJ,mK,oJ] at h ⊢;simp[aJ,show ¬ k<0 by omega]⟩
  ·have f:0<(a.length:Int):=by have:=List.length_pos_iff.mpr b;omega
   have:∃v,bK a (k % a.length)=some v:=by have h1:=Int.emod_nonneg k (show(a.length:Int)≠0 by omega);have h2:=Int.emod_lt_of_pos k f;unfold bK dh;rw[if_pos h1,if_pos h2];exact⟨a[(k % a.length).toNat]'(by omega),by simp⟩
   obtain⟨v,c⟩:=this;exact⟨v * 31+k,by simp[aJ,mK,oJ,d,h,b,c,ms,jY,List.length_pos_iff.mpr b]⟩
theorem OH{b:List Int}{k many:Int}(c:b.length<=63)(d:0<=k)(a:0<many):∃v,0<=v/\v<many/\rB [.scr b,.dat (.int k),.dat (.int many)]=.rt (.dat (.int v)) []:=by
 obtain⟨v,e⟩:=OG (k:=k) c d;generalize hd:(v+7919 * k+1) * 48271 % 2147483647=dr;have f:0<=dr:=by omega
 have g:dr<2147483647:=by omega
 refine⟨(dr * dr+7 * dr+k) % 2147483629 % many,Int.emod_nonneg _ (by omega),Int.emod_lt_of_pos _ a,?_⟩;simp[aJ,rB,wK,e,jY,ms,hd,a,show -18446744073709551616<dr by omega,show dr<18446744073709551616 by omega]
theorem dM{ns:List Int}{many:Int}{t:List PyData}(a:ns.length<=63)(c:t.length<1000)(b:0<many):∃v,0<=v/\v<many/\cO [.scr ns,.own true (.l t),.dat (.int many)]=.rt (.dat (.int v)) [.l (t++[.int 0])]:=by
 have sz:1000<sizeLine:=by decide
 obtain⟨v,h1,h2,h3⟩:=OH (k:=((t++[PyData.int 0]).length:Int)) a (by omega) b;refine⟨v,h1,h2,?_⟩;simp at h3;simp[aJ,cO,wQ,show t.length<sizeLine by omega,h3]
theorem jc{ns:List Int}{ds t:List PyData}(a:ns.length<=63)(b:t.length<1000)(hd:ds≠[])(c:ds.length<=1000):∃d∈ds,gi [.scr ns,.own true (.l t),.dat (.list ds)]=.rt (.dat d) [.l (t++[.int 0])]:=by
 have e:=List.length_pos_iff.mpr hd;obtain⟨v,h1,h2,h3⟩:=dM (many:=ds.length) a b (by omega);have:bK ds v=some (ds[v.toNat]'(by omega)):=by unfold bK dh;rw[if_pos h1,if_pos h2];simp
 refine⟨ds[v.toNat]'(by omega),List.getElem_mem _,?_⟩;simp[aJ,gi,wT,h3,this]
theorem Db(i:Int):SeqAt.shaped (.int i)=true:=by rfl
theorem OI{ns:List Int}{t:List PyData}{ss:Sh}{m:Int}{k:Option ak}(a:ns.length<=63)(h:t.length<900)(j:ss.length<=100):∃d c,0<=d/\d<200/\-12<=c/\c<=14/\
  oR [some (.scr ns),some (.own true (.l t)),some (.own false (.l (ss.map cZ))),some (.dat (.int m)),k]=.nx [some (.scr ns),some (.own true (.l (t++[.int 0]++[.int 0]++[.int 0]))),some (.own false (.l ((ss++[(m+1+d,c)]).map cZ))),some (.dat (.int (m+1+d))),k]:=by
 have sz:1000<sizeLine:=by decide
 obtain⟨w,b,h1⟩:=jc (ns:=ns) (t:=t) (ds:=[.int 4,.int 40,.int 200]) a (by omega) (by simp) (by simp);have:∃i:Int,w=.int i/\0<i/\i<=200:=by
  simp at b;rcases b with rfl | rfl | rfl
  ·exact⟨4,rfl,by omega,by omega⟩
  ·exact⟨40,rfl,by omega,by omega⟩
  ·exact⟨200,rfl,by omega,by omega⟩
 obtain⟨i,rfl,f,n⟩:=this;obtain⟨d,g,o,h2⟩:=dM (ns:=ns) (t:=t++[.int 0]) (many:=i) a (by simp;omega) f;obtain⟨e,p,q,h3⟩:=dM (ns:=ns) (t:=t++[.int 0]++[.int 0]) (many:=27) a (by simp;omega) (by omega);refine⟨d,e - 12,g,by omega,by omega,by omega,?_⟩;simp only[List.append_assoc,List.cons_append,List.nil_append] at h1 h2 h3;simp[aJ,oR,h1,h2,h3,show ss.length<sizeLine by omega]
theorem Dc{ns:List Int}(g:ns.length<=63):∀{its t:List PyData}{ss:Sh}{m:Int}{k:Option ak},t.length+3 * its.length<900->ss.length+its.length<=100->∃new t' b f,dm (aI 4) oR its [some (.scr ns),some (.own true (.l t)),some (.own false (.l (ss.map cZ))),some (.dat (.int m)),k]=.nx [some (.scr ns),some (.own true (.l t')),some (.own false (.l ((ss++new).map cZ))),some (.dat (.int b)),f]/\
  kq m new/\(∀p∈new,p.1<=m+200 * its.length/\-12<=p.2/\p.2<=14)/\new.length=its.length/\t'.length=t.length+3 * its.length
 | [],t,ss,m,k,_,_=>⟨[],t,m,k,by simp[aJ,dm],trivial,fun p a=>(by cases a),rfl,rfl⟩
 | x::r,t,ss,m,k,h1,h2=>by
  simp only[List.length_cons] at h1 h2;obtain⟨d,c,o,q,h,i,e⟩:=OI (ns:=ns) (t:=t) (ss:=ss) (m:=m) (k:=some (.dat x)) g (by omega) (by omega);obtain⟨new,t',b,f,g1,g2,g3,j,n⟩:=Dc g (its:=r) (t:=t++[.int 0]++[.int 0]++[.int 0]) (ss:=ss++[(m+1+d,c)]) (m:=m+1+d) (k:=some (.dat x)) (by simp;omega) (by simp;omega);refine⟨(m+1+d,c)::new,t',b,f,?_,⟨by omega,g2⟩,fun p a=>?_,by simp[aJ,j],by rw[n];simp;omega⟩
  ·rw[dm];simp only[aI,List.set_cons_succ,List.set_cons_zero,e];rw[g1];simp
  ·simp only[List.length_cons];rcases List.mem_cons.mp a with rfl | a
   ·exact⟨by simp;omega,h,i⟩
   ·have:=g3 p a;exact⟨by omega,this.2⟩
noncomputable def jd:Nat->Sh->Sh
 | _,[]=>[]
 | i,(b,_)::r=>(b,1+(i:Int) % 2)::jd (i+1) r
theorem Dd:∀{a:Sh}{i:Nat}{lo:Int},kq lo a->kq lo (jd i a)
 | [],_,_,_=>trivial
 | (b,c)::r,i,lo,⟨h1,h2⟩=>⟨h1,Dd h2⟩
theorem xG:∀{d:Sh}{i:Nat}{T:Int},(∀p∈d,p.1<=T)->∀p∈jd i d,p.1<=T/\-12<=p.2/\p.2<=14
 | [],_,_,_,p,a=>by cases a
 | (b,c)::r,i,T,h,p,a=>by
  rcases List.mem_cons.mp a with rfl | a
  ·exact⟨h (b,c) List.mem_cons_self,by simp;omega,by simp;omega⟩
  ·exact xG (fun q e=>h q (bN _ e)) p a
theorem xH:∀(a:Sh) (i:Nat),(jd i a).length=a.length
 | [],_=>rfl
 | (b,c)::r,i=>by simp[aJ,jd,xH r (i+1)]
noncomputable def pz(d:PyData):PyData:=match d with
 | .tuple [.int i,.tuple [b,_]]=>.tuple [b,.int (1+i % 2)]
 | _=>.none
theorem De:∀(a:Sh) (k:Nat),((a.map cZ).mapIdx fun i d=>pz (.tuple [.int ((i+k:Nat):Int),d]))=(jd k a).map cZ
 | [],k=>rfl
 | (b,c)::r,k=>by
  rw[List.map_cons,List.mapIdx_cons];have e:=De r (k+1);simp only[jd,List.map_cons];rw[<-e]
  congr 1
  ·simp[aJ,pz,cZ]
  ·congr 1
   funext i d;rw[show i+1+k=i+(k+1) by omega]
theorem OJ{ns:List Int}{t:List PyData}(j:ns.length<=63)(H:t.length<=100):∃a h t',oS [.scr ns,.own true (.l t)]=.rt (.dat (cn a h)) [.l t']/\h.length<=6/\kq 0 h/\Ci a h/\(∀p∈h,p.1<=1200)/\t'.length<=t.length+30:=by
 have sz:1000<sizeLine:=by decide
 obtain⟨n,z,I,r⟩:=dM (ns:=ns) (t:=t) (many:=7) j (by omega) (by omega);obtain⟨new,o,J,L,g1,g2,g3,D,A⟩:=Dc (ns:=ns) j (its:=intsFrom 0 n.toNat) (t:=t++[.int 0]) (ss:=[]) (m:=0) (k:=none) (by simp[aJ,qA];omega) (by simp[aJ,qA];omega);rw[qA] at g3 D A;simp only[List.length_append,List.length_cons,List.length_nil] at A;obtain⟨x,M,N,s⟩:=dM (ns:=ns) (t:=o) (many:=2) j (by omega) (by omega);obtain⟨y,O,Q,h3⟩:=dM (ns:=ns) (t:=o++[.int 0]) (many:=27) j (by simp;omega) (by omega);simp only[List.map_nil,List.nil_append,List.append_assoc,List.cons_append] at g1 h3;have nl:new.length<=6:=by omega
 have top:∀p∈new,p.1<=1200:=fun p b=>by have:=(g3 p b).1;omega
 by_cases B:x=0
 ·refine⟨y - 12,jd 0 new,o++[.int 0,.int 0],?_,by rw[xH];exact nl,Dd g2,⟨⟨by omega,by omega⟩,fun p b=>(xG top p b).2⟩,fun p b=>(xG top p b).1,by simp;omega⟩;have c:=tI (e:=wX) (g:=kb 2 (fi (aI 0) (fi (kb 2 (fi (aI 1) (fi (aI 2) ka))) ka))) (f:=pz) (P:=fun U=>U.length=3) (its:=L3.numbered (new.map cZ)) (ys:=[]) (U:=[none,none,none]) rfl (fun d hd U E=>by
   unfold L3.numbered at hd;obtain⟨i,C,rfl⟩:=List.mem_mapIdx.mp hd
   match U,E with
   | [u,v,w],_=>
    have G:(new.map cZ)[i]=cZ (new[i]'(by simpa using C)):=by simp
    rw[G];generalize new[i]'(by simpa using C)=q;refine⟨[some (.dat (.int i)),some (.dat (.int q.1)),some (.dat (.int q.2))],[some (.dat (.int i)),some (.dat (.int q.1)),some (.dat (.int q.2))],by simp,?_,rfl⟩;simp[aJ,wX,pz,cZ,ms]) (by unfold L3.numbered;simp;omega)
  have rd:(L3.numbered (new.map cZ)).map pz=(jd 0 new).map cZ:=by
   unfold L3.numbered;rw[<-De new 0];apply List.ext_getElem
   ·simp
   ·intro i r s;simp
  rw[rd] at c;simp only[List.nil_append] at c;have l2:(jd 0 new).length<=sizeLine:=by rw[xH];omega
  subst B;simp[aJ,oS,rN,r,z,show n<4611686018427387904 by omega,show -4611686018427387904<=n by omega,g1,s,h3,Db,pp,c,l2]
 ·refine⟨y - 12,new,o++[.int 0,.int 0],?_,nl,g2,⟨⟨by omega,by omega⟩,fun p b=>(g3 p b).2⟩,top,by simp;omega⟩;simp[aJ,oS,rN,r,z,show n<4611686018427387904 by omega,show -4611686018427387904<=n by omega,g1,s,h3,Db,pp,B]
@[simp] theorem OK:("NoZone":Str)∈cx:=by decide +kernel
@[simp] theorem tJ:("NoMoment":Str)∈cx:=by decide +kernel
@[simp] theorem OL:("NoDeeds":Str)∈cx:=by decide +kernel
@[simp] theorem tK:("NoRunner":Str)∈cx:=by decide +kernel
@[simp] theorem nr:("NotHolder":Str)∈cx:=by decide +kernel
@[simp] theorem Df:("Nothing":Str)∈cx:=by decide +kernel
@[simp] theorem xI:("NoCall":Str)∈cx:=by decide +kernel
theorem Dg{d:PyData}(h:SeqAt.shaped d=true):aJ false d d=some (.bool true):=by simp[aJ,h,AH h]
theorem ky{d:PyData}(h:SeqAt.shaped d=true):aJ true d d=some (.bool false):=by simp[aJ,h,AH h]
theorem OM(i j:Int):aJ true (.int i) (.int j)=some (.bool (!decide (i=j))):=by
 by_cases h:i=j
 ·subst h;simp[ky (nq i)]
 ·simp[aJ,nq,pp,h]
theorem gH(i j:Int):aJ false (.int i) (.int j)=some (.bool (decide (i=j))):=by
 by_cases h:i=j
 ·subst h;simp[Dg (nq i)]
 ·simp[aJ,nq,pp,h]
theorem ON:fq [.exc "NoZone"]=.rt (.dat (.tuple [.str "refused",.int 0])) []:=by kernel_rfl
theorem Dh:fq [.exc "NoMoment"]=.rt (.dat (.tuple [.str "refused",.int 2])) []:=by kernel_rfl
theorem OO:fq [.exc "NoDeeds"]=.rt (.dat (.tuple [.str "refused",.int 4])) []:=by kernel_rfl
theorem iz{m k:SM}{U U':al}(h:m U=.nx U'):aA m k U=k U':=by simp[h]
theorem OP(i j:Str):PyData.eqv (.str i) (.str j)=(i==j):=by rw[PyData.eqv]
theorem xJ{x:Str}(h:PyData.strOk x=true):SeqAt.shaped (.str x)=true:=by unfold SeqAt.shaped;simp[PyData.canLay0,PyData.depth,h]
theorem bz{x y:Str}(a:PyData.strOk x=true)(b:PyData.strOk y=true):aJ false (.str x) (.str y)=some (.bool (x==y)):=by simp[aJ,xJ a,xJ b,OP]
theorem je:PyData.strOk "once" = true:=by decide +kernel
theorem kz:PyData.strOk "every" = true:=by decide +kernel
theorem nt:PyData.strOk "daily" = true:=by decide +kernel
@[simp] theorem Ry:(("every":Str)==("once":Str))=false:=by decide +kernel
@[simp] theorem Rz:(("daily":Str)==("once":Str))=false:=by decide +kernel
@[simp] theorem RA:(("daily":Str)==("every":Str))=false:=by decide +kernel
@[simp] theorem RB:ck "str" "str" = some true:=by decide
noncomputable abbrev lQ:en->PyData
 | .once m=>.tuple [.str "once",.int m]
 | .every f s=>.tuple [.str "every",.int f,.int s]
 | .daily h=>.tuple [.str "daily",.int h]
@[simp] theorem RC{x y w:PyData}{l:List PyData}:bK (x::y::w::l) 2=some w:=by unfold bK dh;rw[if_pos (by omega),if_pos (by simp<;>omega)];rfl
theorem kA{x w:Str}{rest:List PyData}{n:Int}(a:PyData.strOk x=true)(b:PyData.strOk w=true):jJ [.dat (.tuple (.str x::rest)),.dat (.str w),.dat (.int n)]=.rt (.dat (.bool (decide (((rest.length+1:Nat):Int)=n)&&(x==w)))) []:=by
 by_cases h:(((rest.length+1:Nat):Int)=n)
 ·simp[jJ,ry,pq (d:=.tuple (.str x::rest)) rfl,fW,bz a b];simp at h;simp[h]
 ·simp[jJ,ry,pq (d:=.tuple (.str x::rest)) rfl,fW,bz a b];simp at h;simp[h]
theorem OQ{p:en}(ok:iX p):mQ [.dat (lQ p)]=.rt (.dat (.bool true)) []:=by
 cases p with
 | once m=>simp[mQ,oP,kA je je,xB (d:=.int m) rfl,cH,ok.1,ok.2]
 | every f s=>simp[mQ,oP,kA kz je,kA kz kz,xB (d:=.int f) rfl,kw (d:=.int s) rfl,cH,ok.1.1,ok.1.2,ok.2.1,ok.2.2]
 | daily h=>simp[mQ,oP,kA nt je,kA nt kz,kA nt nt,kw (d:=.int h) rfl,cH,ok.1,ok.2]
noncomputable def tL(g:Int)(d:PyData):Bool:=match d with
 | .tuple [.int s,.none,.int a]=>lJ (max s (g - a)) none
 | .tuple [.int s,.int e,.int a]=>lJ (max s (g - a)) (some e)
 | _=>false
noncomputable def tM(g:Int)(d:PyData):PyData:=match d with
 | .tuple [.int s,_,.int a]=>.int (max s (g - a))
 | _=>.none
theorem Di(g:Int)(p:Int×Option Int×Int):tL g (jL p)=lJ (max p.1 (g - p.2.2)) p.2.1:=by obtain⟨s,e,a⟩:=p;cases e<;>rfl
theorem Dj(g:Int)(p:Int×Option Int×Int):tM g (jL p)=.int (max p.1 (g - p.2.2)):=by obtain⟨s,e,a⟩:=p;cases e<;>rfl
theorem OR{a g:Int}{b:Sh}(h:b.length<=6):rz [.dat (cn a b),.dat (.int g)]=.rt (.dat (.int (oG g 0 a b))) []:=by
 have sz:1000<sizeLine:=by decide
 have c:=xE (t:=wG) (e:=wH) (g:=kb 3 (fi (aI 0) (fi (aI 1) (fi (aI 2) ka)))) (p:=tL g) (f:=tM g) (P:=fun U=>∃x y z,U=[x,y,z,some (.dat (.int g))]) (its:=(bY 0 a b).map jL) (ys:=[]) (U:=[none,none,none,some (.dat (.int g))]) ⟨_,_,_,rfl⟩ (fun d hd U i=>by
  obtain⟨p,_,rfl⟩:=List.mem_map.mp hd;obtain⟨x,y,z,rfl⟩:=i;refine⟨[some (.dat (.int p.1)),some (.dat (fu p.2.1)),some (.dat (.int p.2.2)),some (.dat (.int g))],[some (.dat (.int p.1)),some (.dat (fu p.2.1)),some (.dat (.int p.2.2)),some (.dat (.int g))],[some (.dat (.int p.1)),some (.dat (fu p.2.1)),some (.dat (.int p.2.2)),some (.dat (.int g))],by simp[jL],by simp[wG,OF,Di],⟨_,_,_,rfl⟩,fun _=>⟨by simp[wH,Dj],⟨_,_,_,rfl⟩⟩⟩) (by simp[xF];omega)
 have f1:(((bY 0 a b).map jL).filter (tL g)).map (tM g)=(mJ g (bY 0 a b)).map PyData.int:=by unfold mJ;have j:tM g∘jL=fun p=>.int (max p.1 (g - p.2.2)):=funext (Dj g);have k:tL g∘jL=fun p=>lJ (max p.1 (g - p.2.2)) p.2.1:=funext (Di g);rw[List.filter_map,List.map_map,List.map_map,j,k];rfl
 have l:(mJ g (bY 0 a b)).length<=7:=by unfold mJ;rw[List.length_map];exact Nat.le_trans (List.length_filter_le _ _) (by rw[xF];omega)
 obtain⟨t,e⟩:=Cj g b 0 a;rw[f1,e] at c;rw[e,List.length_cons] at l;simp only[List.nil_append,List.map_cons] at c;simp[rz,wI,OE h,c,show t.length+1<=sizeLine by omega]
theorem OS{a h:Int}{b:Sh}:rA [.dat (cn a b),.dat (.int h)]=.rt (.dat (.int (wo a b h))) []:=by simp[rA,wJ,Oy,wo,qD]
theorem OT{a h:Int}{b:Sh}{c:Nat}(d:b.length<=6):rH [.dat (cn a b),.dat (.int h),.dat (.int c)]=.rt (.dat (.int (wq a b h c))) []:=by simp[rH,wP,OS,OR d,wq,jY]
theorem OU{i j:Int}(a:-1000000<=j)(b:j<=1000000):jY i j=true:=by unfold jY;rw[decide_eq_true (show -(2 ^ 64)<j by omega),decide_eq_true (show j<2 ^ 64 by omega)];simp
theorem OV{z:PyData}{f s c:Int}(a:1<=s)(b:s<=999):iw [.dat z,.dat (lQ (.every f s)),.dat (.int c)]=.rt (.dat (.int (f+c * s))) []:=by simp[iw,mT,bz kz je,bz kz kz,OU (i:=c) (show -1000000<=s by omega) (show s<=1000000 by omega)]
theorem OW{a:Int}{b:Sh}{p:en}{c:Nat}(d:b.length<=6)(ok:iX p):iw [.dat (cn a b),.dat (lQ p),.dat (.int c)]=.rt (.dat (fu (gd a b p c))) []:=by
 cases p with
 | once m=>
  by_cases e:c=0
  ·subst e;simp[iw,mT,bz je je,gH,gd,fu]
  ·simp[iw,mT,bz je je,gH,gd,fu,e]
 | every f s=>exact OV ok.2.1 ok.2.2
 | daily h=>simp[iw,mT,bz nt je,bz nt kz,gd,fu,OT d]
def xK(o:gv):Prop:=∃x r,o=.rt (.dat (.bool true)) (x::r)
theorem fO{m k:SM}{U U':al}(h:m U=.nx U')(q:xK (k U')):xK (aA m k U):=by rw[iz h];exact q
theorem OX{m:SM}{n:Nat}{a:List Int}(h:xK (m (some (.scr a)::List.replicate n none))):bj 1 (n+1) m [.scr a]=.rt (.dat (.bool true)) []:=by obtain⟨x,r,e⟩:=h;simp[e]
theorem xL(i:Int)(r:Nat):L3.intsFrom i (r+1)=.int i::L3.intsFrom (i+1) r:=by
 unfold L3.intsFrom;rw[List.range_succ_eq_map,List.map_cons,List.map_map]
 congr 1
 ·simp
 ·apply List.map_congr_left;intro k _;simp;omega
theorem OY{ns:List Int}{t:List PyData}(b:ns.length<=63)(o:t.length<=900):∃p t',iX p/\t'.length<=t.length+4/\mW [.scr ns,.own true (.l t)]=.rt (.dat (lQ p)) [.l t']:=by
 obtain⟨k,q,r,h1⟩:=dM (ns:=ns) (t:=t) (many:=5) b (by omega) (by omega)
 by_cases e:k=0
 ·obtain⟨w,a,h2⟩:=jc (ns:=ns) (t:=t++[.int 0]) (ds:=[.int 100,.int 100,.int 2500]) b (by simp;omega) (by simp) (by simp);have:∃i:Int,w=.int i/\0<i/\i<=2500:=by simp only[List.mem_cons,List.not_mem_nil,or_false] at a;rcases a with rfl | rfl | rfl<;>exact⟨_,rfl,by omega,by omega⟩
  obtain⟨i,rfl,c,j⟩:=this;obtain⟨m,d,n,h3⟩:=dM (ns:=ns) (t:=t++[.int 0]++[.int 0]) (many:=i) b (by simp;omega) c;refine⟨.once m,t++[.int 0]++[.int 0]++[.int 0],⟨d,by omega⟩,by simp,?_⟩;simp only[List.append_assoc,List.cons_append,List.nil_append] at h1 h2 h3;simp[mW,oU,h1,h2,h3,gH,e]
 ·by_cases g:k<3
  ·obtain⟨w,a,h2⟩:=jc (ns:=ns) (t:=t++[.int 0]) (ds:=[.int 30,.int 30,.int 999]) b (by simp;omega) (by simp) (by simp);have:∃i:Int,w=.int i/\0<i/\i<=999:=by simp only[List.mem_cons,List.not_mem_nil,or_false] at a;rcases a with rfl | rfl | rfl<;>exact⟨_,rfl,by omega,by omega⟩
   obtain⟨i,rfl,c,j⟩:=this;obtain⟨s,u,v,h3⟩:=dM (ns:=ns) (t:=t++[.int 0]++[.int 0]) (many:=i) b (by simp;omega) c;obtain⟨f,f1,f2,h⟩:=dM (ns:=ns) (t:=t++[.int 0]++[.int 0]++[.int 0]) (many:=50) b (by simp;omega) (by omega);refine⟨.every f (1+s),t++[.int 0]++[.int 0]++[.int 0]++[.int 0],⟨⟨f1,by omega⟩,by omega,by omega⟩,by simp,?_⟩;simp only[List.append_assoc,List.cons_append,List.nil_append] at h1 h2 h3 h;simp[mW,oU,h1,h2,h3,h,gH,e,g]
  ·obtain⟨m,d,n,h2⟩:=dM (ns:=ns) (t:=t++[.int 0]) (many:=24) b (by simp;omega) (by omega);refine⟨.daily m,t++[.int 0]++[.int 0],⟨d,by omega⟩,by simp,?_⟩;simp only[List.append_assoc,List.cons_append,List.nil_append] at h1 h2;simp[mW,oU,h1,h2,gH,e,g]
@[simp] theorem RD:dg .none=true:=by simp only[dg]
@[simp] theorem RE(i:Int):dg (.int i)=true:=by simp only[dg]
@[simp] theorem RF(b:Bool):dg (.bool b)=true:=by simp only[dg]
@[simp] theorem RG(x:Str):dg (.str x)=true:=by simp only[dg]
@[simp] theorem RH(l:List PyData):dg (.tuple l)=true:=by simp only[dg]
@[simp] theorem RI(l:List PyData):dg (.list l)=true:=by simp only[dg]
theorem Dk:fq [.exc "NoRunner"]=.rt (.dat (.tuple [.str "refused",.int 6])) []:=by kernel_rfl
theorem xM:fq [.exc "NotHolder"]=.rt (.dat (.tuple [.str "refused",.int 8])) []:=by kernel_rfl
theorem OZ:fq [.exc "Nothing"]=.rt (.dat (.tuple [.str "refused",.int 9])) []:=by kernel_rfl
theorem xN:fq [.exc "NoCall"]=.rt (.dat (.tuple [.str "refused",.int 10])) []:=by kernel_rfl
inductive iA where
 | all | last | within (n:Int)
structure cf where
 plan:en
 late:iA
 again:Bool
noncomputable abbrev pA:iA->PyData
 | .all=>.str "all"
 | .last=>.str "last"
 | .within n=>.tuple [.str "within",.int n]
noncomputable abbrev cU(d:cf):PyData:=.tuple [lQ d.plan,pA d.late,.bool d.again]
@[irreducible] noncomputable def du(a:List cf):PyData:=.tuple (a.map cU)
noncomputable def bZ:Option Int->PyData
 | none=>.none
 | some i=>.int i
noncomputable def gJ:Option (Nat×Nat×Int)->PyData
 | none=>.none
 | some (d,c,h)=>.tuple [.int d,.int c,.int h]
inductive Wd where
 | begun | done | left | unsure
deriving DecidableEq
noncomputable abbrev iB:Wd->Str
 | .begun=>"begun"
 | .done=>"done"
 | .left=>"left"
 | .unsure=>"unsure"
structure jf where
 mo:Int
 ru:Int
 wd:Wd
 dd:Nat
 ct:Nat
noncomputable abbrev gK(r:jf):PyData:=.tuple [.int r.mo,.int r.ru,.str (iB r.wd),.int r.dd,.int r.ct]
noncomputable abbrev bS(n:Nat):PyData:=.int n
noncomputable def dY(a:List ((Nat×Nat)×Wd)):List (PyData×PyData):=a.map fun p=>(.tuple [bS p.1.1,bS p.1.2],.str (iB p.2))
structure Hl where
 a:Int
 ss:Sh
 ds:List cf
 last:Option Int
 holder:Option Int
 til:Int
 holds:Int
 begun:Option (Nat×Nat×Int)
 rows:List jf
 words:List ((Nat×Nat)×Wd)
 settled:List Nat
@[irreducible] noncomputable def aj(S:Hl):List (Str×Fl):=[("zone",.d (cn S.a S.ss)),("deeds",.d (du S.ds)),("last",.d (bZ S.last)),("holder",.d (bZ S.holder)),("until",.d (.int S.til)),("holds",.d (.int S.holds)),("begun",.d (gJ S.begun)),("rows",.l (S.rows.map gK)),("words",.m true (dY S.words)),("settled",.l (S.settled.map bS))]
noncomputable abbrev hB(C:Addr)(S:Hl):Bx:=.o C (aj S)
@[simp] theorem RJ(S:Hl):List.lookup ("zone":Str) (aj S)=some (.d (cn S.a S.ss)):=by unfold aj;kernel_rfl
@[simp] theorem RK(S:Hl):List.lookup ("deeds":Str) (aj S)=some (.d (du S.ds)):=by unfold aj;kernel_rfl
@[simp] theorem RL(S:Hl):List.lookup ("last":Str) (aj S)=some (.d (bZ S.last)):=by unfold aj;kernel_rfl
@[simp] theorem RM(S:Hl):List.lookup ("holder":Str) (aj S)=some (.d (bZ S.holder)):=by unfold aj;kernel_rfl
@[simp] theorem RN(S:Hl):List.lookup ("until":Str) (aj S)=some (.d (.int S.til)):=by unfold aj;kernel_rfl
@[simp] theorem RO(S:Hl):List.lookup ("holds":Str) (aj S)=some (.d (.int S.holds)):=by unfold aj;kernel_rfl
@[simp] theorem RP(S:Hl):List.lookup ("begun":Str) (aj S)=some (.d (gJ S.begun)):=by unfold aj;kernel_rfl
@[simp] theorem RQ(S:Hl):List.lookup ("rows":Str) (aj S)=some (.l (S.rows.map gK)):=by unfold aj;kernel_rfl
@[simp] theorem RS(S:Hl):List.lookup ("words":Str) (aj S)=some (.m true (dY S.words)):=by unfold aj;kernel_rfl
@[simp] theorem RT(S:Hl):List.lookup ("settled":Str) (aj S)=some (.l (S.settled.map bS)):=by unfold aj;kernel_rfl
@[simp] theorem RU(S:Hl):List.lookup ("is_held":Str) (aj S)=none:=by unfold aj;kernel_rfl
@[simp] theorem RV(S:Hl):List.lookup ("check_call":Str) (aj S)=none:=by unfold aj;kernel_rfl
@[simp] theorem RW(S:Hl):List.lookup ("check_holder":Str) (aj S)=none:=by unfold aj;kernel_rfl
@[simp] theorem RX(S:Hl):List.lookup ("take":Str) (aj S)=none:=by unfold aj;kernel_rfl
@[simp] theorem RY(S:Hl):List.lookup ("give":Str) (aj S)=none:=by unfold aj;kernel_rfl
@[simp] theorem RZ(S:Hl):List.lookup ("add_row":Str) (aj S)=none:=by unfold aj;kernel_rfl
@[simp] theorem Sa(S:Hl):List.lookup ("is_busy":Str) (aj S)=none:=by unfold aj;kernel_rfl
@[simp] theorem Sb(S:Hl):List.lookup ("first_unsettled":Str) (aj S)=none:=by unfold aj;kernel_rfl
@[simp] theorem Sc(S:Hl):List.lookup ("step":Str) (aj S)=none:=by unfold aj;kernel_rfl
@[simp] theorem Sd(S:Hl):List.lookup ("step_behind_a_fall":Str) (aj S)=none:=by unfold aj;kernel_rfl
@[simp] theorem Se(S:Hl):List.lookup ("step_ahead":Str) (aj S)=none:=by unfold aj;kernel_rfl
@[simp] theorem Sf(S:Hl):List.lookup ("finish":Str) (aj S)=none:=by unfold aj;kernel_rfl
@[simp] theorem Sg(S:Hl):List.lookup ("state":Str) (aj S)=none:=by unfold aj;kernel_rfl
@[simp] theorem Si(S:Hl):List.lookup ("held":Str) (aj S)=none:=by unfold aj;kernel_rfl
@[simp] theorem Sj(S:Hl):List.lookup ("log":Str) (aj S)=none:=by unfold aj;kernel_rfl
@[simp] theorem Sk(S:Hl):List.lookup ("waiting":Str) (aj S)=none:=by unfold aj;kernel_rfl
@[simp] theorem Sl(S:Hl):List.lookup ("saved":Str) (aj S)=none:=by unfold aj;kernel_rfl
@[simp] theorem Sm(S:Hl):(aj S).length=10:=by unfold aj;kernel_rfl
theorem Dl(S:Hl)(x:Option Int):bL ("last":Str) (.d (bZ x)) (aj S)=aj { S with last:=x }:=by unfold aj;kernel_rfl
theorem Dm(S:Hl)(x:Option Int):bL ("holder":Str) (.d (bZ x)) (aj S)=aj { S with holder:=x }:=by unfold aj;kernel_rfl
theorem Pa(S:Hl)(x:Int):bL ("until":Str) (.d (.int x)) (aj S)=aj { S with til:=x }:=by unfold aj;kernel_rfl
theorem Pb(S:Hl)(x:Int):bL ("holds":Str) (.d (.int x)) (aj S)=aj { S with holds:=x }:=by unfold aj;kernel_rfl
theorem Dn(S:Hl)(x:Option (Nat×Nat×Int)):bL ("begun":Str) (.d (gJ x)) (aj S)=aj { S with begun:=x }:=by unfold aj;kernel_rfl
theorem Pc(S:Hl)(x:List jf):bL ("rows":Str) (.l (x.map gK)) (aj S)=aj { S with rows:=x }:=by unfold aj;kernel_rfl
theorem tN(S:Hl)(x:List ((Nat×Nat)×Wd)):bL ("words":Str) (.m true (dY x)) (aj S)=aj { S with words:=x }:=by unfold aj;kernel_rfl
theorem xO(S:Hl)(x:List Nat):bL ("settled":Str) (.l (x.map bS)) (aj S)=aj { S with settled:=x }:=by unfold aj;kernel_rfl
@[simp] theorem Sn(S:Hl):bL ("last":Str) (.d .none) (aj S)=aj { S with last:=none }:=Dl S none
@[simp] theorem So(S:Hl)(i:Int):bL ("last":Str) (.d (.int i)) (aj S)=aj { S with last:=some i }:=Dl S (some i)
@[simp] theorem Sq(S:Hl):bL ("holder":Str) (.d .none) (aj S)=aj { S with holder:=none }:=Dm S none
@[simp] theorem Sr(S:Hl)(i:Int):bL ("holder":Str) (.d (.int i)) (aj S)=aj { S with holder:=some i }:=Dm S (some i)
@[simp] theorem Ss(S:Hl)(i:Int):bL ("until":Str) (.d (.int i)) (aj S)=aj { S with til:=i }:=Pa S i
@[simp] theorem Su(S:Hl)(i:Int):bL ("holds":Str) (.d (.int i)) (aj S)=aj { S with holds:=i }:=Pb S i
@[simp] theorem Sv(S:Hl):bL ("begun":Str) (.d .none) (aj S)=aj { S with begun:=none }:=Dn S none
@[simp] theorem Sw(S:Hl)(d c:Nat)(h:Int):bL ("begun":Str) (.d (.tuple [.int d,.int c,.int h])) (aj S)=aj { S with begun:=some (d,c,h) }:=Dn S (some (d,c,h))
section
variable{C:Addr}{io:Bool}{S:Hl}{U:al}
@[simp] theorem Sx{fs:List (Str×Fl)}:bR C (some (.own io (.o C fs))::U) 0=some (io,fs):=by simp[bR]
@[simp] theorem Sy{x y:Option ak}{fs:List (Str×Fl)}:bR C (x::y::some (.own io (.o C fs))::U) 2=some (io,fs):=by simp[bR]
@[simp] theorem Sz{f:Str}{d:PyData}{fs:List (Str×Fl)}(h:fs.lookup f=some (.d d)):cm C 0 f (some (.own io (.o C fs))::U)=.ok d (some (.own io (.o C fs))::U):=by simp[cm,h]
@[simp] theorem SA:isNone .none=true:=by simp only[isNone]
@[simp] theorem SD(i:Int):isNone (.int i)=false:=by simp only[isNone]
@[simp] theorem SE(b:Bool):isNone (.bool b)=false:=by simp only[isNone]
@[simp] theorem SF(x:Str):isNone (.str x)=false:=by simp only[isNone]
@[simp] theorem SG(l:List PyData):isNone (.tuple l)=false:=by simp only[isNone]
@[simp] theorem SH(l:List PyData):isNone (.list l)=false:=by simp only[isNone]
@[simp] theorem SI(x:Option Int):isNone (bZ x)=x.isNone:=by cases x<;>simp[bZ]
@[simp] theorem SJ(x:Option (Nat×Nat×Int)):isNone (gJ x)=x.isNone:=by rcases x with _ | ⟨_,_,_⟩<;>simp[gJ]
end
theorem Pd{d:PyData}(h:dg d=true):rq [.dat d]=.rt (.dat (.bool (cH d 0 3))) []:=by simp[aJ,rq,wE,kw h]
theorem Pe{d:PyData}(h:dg d=true):rs [.dat d]=.rt (.dat (.bool (cH d 1 99))) []:=by simp[aJ,rs,wF,kw h]
theorem tO{d:PyData}(h:dg d=true):rF [.dat d]=if cH d 0 3=true then .rt (.dat .none) [] else .ex "NoRunner" []:=by simp only[rF,wN];cases a:cH d 0 3<;>simp[aJ,Pd h,a]
theorem xP{d:PyData}(h:dg d=true):rG [.dat d]=if cH d 1 99=true then .rt (.dat .none) [] else .ex "NoTerm" []:=by simp only[rG,wO];cases a:cH d 1 99<;>simp[aJ,Pe h,a]
noncomputable def gW(S:Hl)(m:Int):Bool:=S.holder.isSome&&decide (m<S.til)
noncomputable def tP(S:Hl)(m:Int):Bool:=match S.last with
 | some l=>decide (m<l)
 | none=>false
section
variable{C:Addr}{S:Hl}{r m:Int}{d:PyData}
theorem nu:oK C [.own true (hB C S),.dat (.int m)]=.rt (.dat (.bool (gW S m))) [hB C S]:=by unfold gW;cases h:S.holder<;>simp[oK,wz,h,bZ]
theorem Do(h:dg d=true)(a:cH d 0 3=false){m:PyData}:ft C [.own true (hB C S),.dat d,.dat m]=.ex "NoRunner" [hB C S]:=by simp[ft,mU,tO h,a]
theorem Dp{r:PyData}(a:dg r=true)(b:cH r 0 3=true)(h:dg d=true)(c:cH d 0 9999=false):ft C [.own true (hB C S),.dat r,.dat d]=.ex "NoMoment" [hB C S]:=by simp[ft,mU,tO a,b,xD h,c]
theorem Pf{r:PyData}(b:dg r=true)(c:cH r 0 3=true)(e:cH (.int m) 0 9999=true)(a:tP S m=false):ft C [.own true (hB C S),.dat r,.dat (.int m)]=.rt (.dat .none) [hB C S]:=by
 unfold tP at a;cases h:S.last with
 | none=>simp[ft,mU,tO b,c,xD (d:=.int m) rfl,e,h,bZ]
 | some l=>rw[h] at a;simp at a;simp[ft,mU,tO b,c,xD (d:=.int m) rfl,e,h,bZ,show ¬ m<l by omega]
theorem tQ(x:Option Int)(r:Int):aJ true (bZ x) (.int r)=some (.bool (!decide (x=some r))):=by
 cases x with
 | none=>simp[bZ,aJ,nq,show SeqAt.shaped .none=true from rfl,PyData.eqv]
 | some i=>simp[bZ,OM]
theorem xQ{c:Str}{m:PyData}(h:ft C [.own true (hB C S),.dat d,.dat m]=.ex c [hB C S]):dU C [.own true (hB C S),.dat d,.dat m]=.ex c [hB C S]:=by simp[dU,mZ,bu,bX,h]
theorem Pg(h:ft C [.own true (hB C S),.dat (.int r),.dat (.int m)]=.rt (.dat .none) [hB C S])(a:(gW S m&&decide (S.holder=some r))=false):dU C [.own true (hB C S),.dat (.int r),.dat (.int m)]=.ex "NotHolder" [hB C S]:=by
 cases b:gW S m with
 | false=>simp[dU,mZ,bu,bX,h,nu,b]
 | true=>rw[b] at a;simp at a;simp[dU,mZ,bu,bX,h,nu,b,tQ,a]
theorem Ph(h:ft C [.own true (hB C S),.dat (.int r),.dat (.int m)]=.rt (.dat .none) [hB C S])(a:gW S m=true)(b:S.holder=some r):dU C [.own true (hB C S),.dat (.int r),.dat (.int m)]=.rt (.dat .none) [hB C S]:=by simp[dU,mZ,bu,bX,h,nu,a,tQ,b]
theorem Pj{c:Str}{m t:PyData}(h:ft C [.own true (hB C S),.dat d,.dat m]=.ex c [hB C S]):gj C [.own true (hB C S),.dat d,.dat m,.dat t]=.ex c [hB C S]:=by simp[gj,ng,bu,bX,h]
noncomputable def tR(S:Hl)(r m t:Int):Hl×Bool:=if gW S m=false then({ S with last:=some m,holds:=S.holds+1,holder:=some r,til:=m+t },true) else if S.holder=some r then({ S with last:=some m,holder:=some r,til:=m+t },true) else({ S with last:=some m },false)
theorem Pk{t:Int}(h:ft C [.own true (hB C S),.dat (.int r),.dat (.int m)]=.rt (.dat .none) [hB C S])(b:cH (.int t) 1 99=true):gj C [.own true (hB C S),.dat (.int r),.dat (.int m),.dat (.int t)]=.rt (.dat (.bool (tR S r m t).2)) [hB C (tR S r m t).1]:=by
 unfold tR;have f:gW { S with last:=some m } m=gW S m:=rfl;cases a:gW S m with
 | false=>simp[gj,ng,bu,bX,h,xP (d:=.int t) rfl,b,cA,fk,fj,nu,f,a,qZ]
 | true=>
  by_cases c:S.holder=some r
  ·have e:m<S.til:=by unfold gW at a;simp[c] at a;exact a
   simp[gj,ng,bu,bX,h,xP (d:=.int t) rfl,b,cA,fk,fj,nu,gW,e,tQ,c]
  ·simp[gj,ng,bu,bX,h,xP (d:=.int t) rfl,b,cA,fk,fj,nu,f,a,tQ,c]
theorem xR{c:Str}{m:PyData}(h:dU C [.own true (hB C S),.dat d,.dat m]=.ex c [hB C S]):gV C [.own true (hB C S),.dat d,.dat m]=.ex c [hB C S]:=by simp[gV,rP,bu,bX,h]
theorem Dq{r m:Int}(h:dU C [.own true (hB C S),.dat (.int r),.dat (.int m)]=.rt (.dat .none) [hB C S]):gV C [.own true (hB C S),.dat (.int r),.dat (.int m)]=.rt (.dat .none) [hB C { S with last:=some m,holder:=none }]:=by simp[gV,rP,bu,bX,h,cA,fk,fj]
theorem xS{c:Str}{m:PyData}(h:dU C [.own true (hB C S),.dat d,.dat m]=.ex c [hB C S]):gl C [.own true (hB C S),.dat d,.dat m]=.ex c [hB C S]:=by simp[gl,ni,bu,bX,h]
theorem xT{c:Str}{m:PyData}(h:dU C [.own true (hB C S),.dat d,.dat m]=.ex c [hB C S]):gk C [.own true (hB C S),.dat d,.dat m]=.ex c [hB C S]:=by simp[gk,oW,bu,bX,h]
noncomputable abbrev tS(S:Hl):PyData:=.tuple [bZ S.holder,.int S.til,.int S.holds]
theorem Pl:mO C [.own true (hB C S)]=.rt (.dat (tS S)) [hB C S]:=by simp[mO,wA,show(3:Nat)<=sizeLine from by decide]
theorem Pm:jI C [.own true (hB C S)]=.rt (.dat (.list (S.rows.map gK))) [hB C S]:=by simp[jI,wB,ra]
end
@[irreducible] noncomputable def kB(z d:PyData):List (Str×Fl):=[]
@[irreducible] noncomputable def kC(z d:PyData):List (Str×Fl):=[("zone",.d z)]
@[irreducible] noncomputable def kD(z d:PyData):List (Str×Fl):=[("zone",.d z),("deeds",.d d)]
@[irreducible] noncomputable def kE(z d:PyData):List (Str×Fl):=[("zone",.d z),("deeds",.d d),("last",.d .none)]
@[irreducible] noncomputable def kF(z d:PyData):List (Str×Fl):=[("zone",.d z),("deeds",.d d),("last",.d .none),("holder",.d .none)]
@[irreducible] noncomputable def kG(z d:PyData):List (Str×Fl):=[("zone",.d z),("deeds",.d d),("last",.d .none),("holder",.d .none),("until",.d (.int 0))]
@[irreducible] noncomputable def kH(z d:PyData):List (Str×Fl):=[("zone",.d z),("deeds",.d d),("last",.d .none),("holder",.d .none),("until",.d (.int 0)),("holds",.d (.int 0))]
@[irreducible] noncomputable def kI(z d:PyData):List (Str×Fl):=[("zone",.d z),("deeds",.d d),("last",.d .none),("holder",.d .none),("until",.d (.int 0)),("holds",.d (.int 0)),("begun",.d .none)]
@[irreducible] noncomputable def kJ(z d:PyData):List (Str×Fl):=[("zone",.d z),("deeds",.d d),("last",.d .none),("holder",.d .none),("until",.d (.int 0)),("holds",.d (.int 0)),("begun",.d .none),("rows",.l [])]
@[irreducible] noncomputable def kK(z d:PyData):List (Str×Fl):=[("zone",.d z),("deeds",.d d),("last",.d .none),("holder",.d .none),("until",.d (.int 0)),("holds",.d (.int 0)),("begun",.d .none),("rows",.l []),("words",.m true [])]
@[simp] theorem SK(z d:PyData):List.lookup ("zone":Str) (kB z d)=none:=by unfold kB;kernel_rfl
@[simp] theorem SL(z d:PyData):(kB z d).length=0:=by unfold kB;kernel_rfl
@[simp] theorem SN(z d:PyData):bL ("zone":Str) (.d z) (kB z d)=kC z d:=by unfold kB kC;kernel_rfl
@[simp] theorem SO(z d:PyData):List.lookup ("deeds":Str) (kC z d)=none:=by unfold kC;kernel_rfl
@[simp] theorem SQ(z d:PyData):(kC z d).length=1:=by unfold kC;kernel_rfl
@[simp] theorem SR(z d:PyData):bL ("deeds":Str) (.d d) (kC z d)=kD z d:=by unfold kC kD;kernel_rfl
@[simp] theorem SS(z d:PyData):List.lookup ("last":Str) (kD z d)=none:=by unfold kD;kernel_rfl
@[simp] theorem SU(z d:PyData):(kD z d).length=2:=by unfold kD;kernel_rfl
@[simp] theorem SV(z d:PyData):bL ("last":Str) (.d .none) (kD z d)=kE z d:=by unfold kD kE;kernel_rfl
@[simp] theorem SW(z d:PyData):List.lookup ("holder":Str) (kE z d)=none:=by unfold kE;kernel_rfl
@[simp] theorem SX(z d:PyData):(kE z d).length=3:=by unfold kE;kernel_rfl
@[simp] theorem SY(z d:PyData):bL ("holder":Str) (.d .none) (kE z d)=kF z d:=by unfold kE kF;kernel_rfl
@[simp] theorem SZ(z d:PyData):List.lookup ("until":Str) (kF z d)=none:=by unfold kF;kernel_rfl
@[simp] theorem Ta(z d:PyData):(kF z d).length=4:=by unfold kF;kernel_rfl
@[simp] theorem Tb(z d:PyData):bL ("until":Str) (.d (.int 0)) (kF z d)=kG z d:=by unfold kF kG;kernel_rfl
@[simp] theorem Tc(z d:PyData):List.lookup ("holds":Str) (kG z d)=none:=by unfold kG;kernel_rfl
@[simp] theorem Td(z d:PyData):(kG z d).length=5:=by unfold kG;kernel_rfl
@[simp] theorem Te(z d:PyData):bL ("holds":Str) (.d (.int 0)) (kG z d)=kH z d:=by unfold kG kH;kernel_rfl
@[simp] theorem Tf(z d:PyData):List.lookup ("begun":Str) (kH z d)=none:=by unfold kH;kernel_rfl
@[simp] theorem Tg(z d:PyData):(kH z d).length=6:=by unfold kH;kernel_rfl
@[simp] theorem Th(z d:PyData):bL ("begun":Str) (.d .none) (kH z d)=kI z d:=by unfold kH kI;kernel_rfl
@[simp] theorem Ti(z d:PyData):List.lookup ("rows":Str) (kI z d)=none:=by unfold kI;kernel_rfl
@[simp] theorem Tj(z d:PyData):(kI z d).length=7:=by unfold kI;kernel_rfl
@[simp] theorem Tk(z d:PyData):bL ("rows":Str) (.l []) (kI z d)=kJ z d:=by unfold kI kJ;kernel_rfl
@[simp] theorem Tl(z d:PyData):List.lookup ("words":Str) (kJ z d)=none:=by unfold kJ;kernel_rfl
@[simp] theorem Tn(z d:PyData):(kJ z d).length=8:=by unfold kJ;kernel_rfl
@[simp] theorem To(z d:PyData):bL ("words":Str) (.m true []) (kJ z d)=kK z d:=by unfold kJ kK;kernel_rfl
@[simp] theorem Tp(z d:PyData):List.lookup ("settled":Str) (kK z d)=none:=by unfold kK;kernel_rfl
@[simp] theorem Tq(z d:PyData):(kK z d).length=9:=by unfold kK;kernel_rfl
noncomputable def dZ(a:Int)(c:Sh)(b:List cf):Hl:=⟨a,c,b,none,none,0,0,none,[],[],List.replicate b.length 0⟩
theorem Pn(a:Int)(c:Sh)(b:List cf):bL ("settled":Str) (.l ((List.replicate b.length (0:Nat)).map bS)) (kK (cn a c) (du b))=aj (dZ a c b):=by unfold kK aj dZ;kernel_rfl
theorem Dr{C:Addr}:∀(l a:List PyData) (U:al),(∃x,U=[x])->a.length+l.length<=sizeLine->cS (aI 0) fK (rQ C) l a U=some (a++(List.replicate l.length (0:Nat)).map bS)
 | [],a,U,_,_=>by simp[cS]
 | d::l,a,U,⟨x,b⟩,c=>by
  subst b;simp only[List.length_cons] at c;have e:=Dr (C:=C) l (a++[.int 0]) [some (.dat d)] ⟨_,rfl⟩ (by simp;omega);have f:rQ C [some (.dat d)]=.ok (.int 0) [some (.dat d)]:=by simp[rQ]
  rw[cS];simp[fK,f,show a.length<sizeLine by omega,e,List.replicate_succ]
theorem Po{C:Addr}{z d:PyData}(a:ix [.dat z]=.ex "NoZone" []):iY C [.own true (.o C []),.dat z,.dat d]=.ex "NoZone" [.o C []]:=by simp[iY,oX,a]
theorem Pp{C:Addr}{z d:PyData}(a:ix [.dat z]=.rt (.dat .none) [])(hd:jK [.dat d]=.ex "NoDeeds" []):iY C [.own true (.o C []),.dat z,.dat d]=.ex "NoDeeds" [.o C []]:=by simp[iY,oX,a,hd]
theorem tT{C:Addr}{a:Int}{c:Sh}{b:List cf}(e:ix [.dat (cn a c)]=.rt (.dat .none) [])(hd:jK [.dat (du b)]=.rt (.dat .none) [])(i:b.length<=6):iY C [.own true (.o C []),.dat (cn a c),.dat (du b)]=.rt (.dat .none) [hB C (dZ a c b)]:=by
 have sz:1000<sizeLine:=by decide
 have f:([]:List (Str×Fl))=kB (cn a c) (du b):=by unfold kB;rfl
 have g:=Dr (C:=C) (b.map cU) [] [none] ⟨_,rfl⟩ (by simp;omega);rw[List.nil_append,List.length_map] at g;have h:du b=.tuple (b.map cU):=by unfold du;rfl
 have d:=Pn a c b;rw[f];simp[iY,oX,e,hd,cA,fk,fj,lF,wb,rb];rw[h] at *;simp[g,show b.length<=sizeLine by omega] at d ⊢;exact d
def pB(p:en):Prop:=iX p
theorem xW{a:Int}{ss:Sh}{p:en}{c:Nat}(b:ss.length<=6)(ok:pB p):iw [.dat (cn a ss),.dat (lQ p),.dat (.int c)]=.rt (.dat (fu (gd a ss p c))) []:=OW b ok
theorem kL:PyData.strOk "all" = true:=by decide +kernel
theorem jg:PyData.strOk "last" = true:=by decide +kernel
theorem xX:PyData.strOk "within" = true:=by decide +kernel
theorem pC:PyData.strOk "begun" = true:=by decide +kernel
theorem Pq:PyData.strOk "done" = true:=by decide +kernel
theorem Pr:PyData.strOk "left" = true:=by decide +kernel
theorem Ps:PyData.strOk "unsure" = true:=by decide +kernel
theorem Ds:(("all":Str)==("all":Str))=true:=by decide +kernel
theorem xY:(("last":Str)==("all":Str))=false:=by decide +kernel
theorem xZ:(("last":Str)==("last":Str))=true:=by decide +kernel
theorem Pt:(("begun":Str)==("begun":Str))=true:=by decide +kernel
theorem Pu:(("done":Str)==("begun":Str))=false:=by decide +kernel
theorem Pw:(("left":Str)==("begun":Str))=false:=by decide +kernel
theorem Px:(("unsure":Str)==("begun":Str))=false:=by decide +kernel
theorem Dt{l:List PyData}{x:Str}(h:SeqAt.shaped (.tuple l)=true)(a:PyData.strOk x=true):aJ false (.tuple l) (.str x)=some (.bool false):=by simp[aJ,h,xJ a,PyData.eqv]
theorem Du(n:Int):SeqAt.shaped (.tuple [.str "within",.int n])=true:=by unfold SeqAt.shaped;simp[PyData.canLay0,PyData.canLayAll0,PyData.depth,PyData.depthAll,xX]
noncomputable def nv(a:Int)(e:Sh)(d:cf)(c:Nat)(b:Int):Bool:=match d.late with
 | .all=>false
 | .last=>(match gd a e d.plan (c+1) with | some v=>decide (v<=b) | none=>false)
 | .within n=>decide (b - Ck a e d.plan c>n)
theorem Py{a now:Int}{ss:Sh}{d:cf}{c:Nat}(f:ss.length<=6)(ok:pB d.plan)(g:∃v,gd a ss d.plan c=some v):lK [.dat (cn a ss),.dat (cU d),.dat (.int c),.dat (.int now)]=.rt (.dat (.bool (nv a ss d c now))) []:=by
 obtain⟨p,la,h⟩:=d;obtain⟨v,e⟩:=g;simp only at ok e;unfold nv;cases la with
 | all=>simp[lK,mV,bz kL kL,Ds]
 | last=>
  have rt:=xW (a:=a) (ss:=ss) (p:=p) (c:=c+1) f ok;simp at rt;cases b:gd a ss p (c+1) with
  | none=>rw[b] at rt;simp[lK,mV,bz jg kL,bz jg jg,xY,xZ,rt,fu,b]
  | some w=>rw[b] at rt;simp[lK,mV,bz jg kL,bz jg jg,xY,xZ,rt,fu,b]
 | within n=>have rt:=xW (a:=a) (ss:=ss) (p:=p) (c:=c) f ok;rw[e] at rt;simp[lK,mV,Dt (Du n) kL,Dt (Du n) jg,rt,fu,Ck,e]
noncomputable def fx:List ((Nat×Nat)×Wd)->(Nat×Nat)->Wd->List ((Nat×Nat)×Wd)
 | [],k,w=>[(k,w)]
 | (a,v)::r,k,w=>if a = k then(a,w)::r else(a,v)::fx r k w
theorem pD(d c:Nat):im true (.tuple [bS d,bS c])=some [Sum.inl (d:Int),Sum.inl (c:Int)]:=rfl
theorem pE{d c a b:Nat}:(im true (.tuple [bS a,bS b])=some [Sum.inl (d:Int),Sum.inl (c:Int)])↔(a,b)=(d,c):=by
 rw[pD];constructor
 ·intro h;simp only[Option.some.injEq,List.cons.injEq,Sum.inl.injEq,and_true] at h;have h1:=h.1;have h2:=h.2;have e:a = d:=by omega
  have f:b = c:=by omega
  rw[e,f]
 ·intro h;cases h;rfl
theorem Dv(d c:Nat):∀e:List ((Nat×Nat)×Wd),kc true (dY e) [Sum.inl (d:Int),Sum.inl (c:Int)]=(e.lookup (d,c)).map fun w=>.str (iB w)
 | []=>rfl
 | ((a,b),w)::r=>by
  unfold dY;rw[List.map_cons,kc];have f:=Dv d c r;unfold dY at f
  by_cases h:(a,b)=(d,c)
  ·rw[if_pos (pE.mpr h)];cases h;simp[List.lookup]
  ·rw[if_neg (fun z=>h (pE.mp z)),f];have:((d,c)==(a,b))=false:=by simpa using fun z:(d=a/\c=b)=>h (by rw[z.1,z.2])
   rw[List.lookup_cons,this]
theorem Dw(d c:Nat)(w:Wd):∀a:List ((Nat×Nat)×Wd),(a.map (·.1)).Nodup->(a.lookup (d,c)).isSome=true->lu true [Sum.inl (d:Int),Sum.inl (c:Int)] (.str (iB w)) (dY a)=dY (fx a (d,c) w)
 | [],_,h=>by cases h
 | ((b,f),v)::r,nd,h=>by
  unfold dY;rw[List.map_cons,lu];have tail:∀a:List ((Nat×Nat)×Wd),(d,c)∉a.map (·.1)->lu true [Sum.inl (d:Int),Sum.inl (c:Int)] (.str (iB w)) (dY a)=dY a:=by
   intro a
   induction a with
   | nil=>intro _;rfl
   | cons p r i=>intro g;obtain⟨⟨k,l⟩,m⟩:=p;simp only[List.map_cons,List.mem_cons,not_or] at g;unfold dY;rw[List.map_cons,lu,if_neg (fun z=>g.1 (pE.mp z).symm)];have:=i g.2;unfold dY at this;rw[this]
  by_cases e:(b,f)=(d,c)
  ·cases e;rw[if_pos (pE.mpr rfl),fx,if_pos rfl,List.map_cons];have:=tail r (by simpa using(List.nodup_cons.mp nd).1);unfold dY at this;rw[this]
  ·have j:(r.lookup (d,c)).isSome=true:=by
    have:((d,c)==(b,f))=false:=by simpa using fun z:(d=b/\c=f)=>e (by rw[z.1,z.2])
    rw[List.lookup_cons,this] at h;exact h
   rw[if_neg (fun z=>e (pE.mp z)),fx,if_neg e,List.map_cons];have:=Dw d c w r (List.nodup_cons.mp nd).2 j;unfold dY at this;rw[this]
theorem Dx(k:Nat×Nat)(w:Wd):∀a:List ((Nat×Nat)×Wd),a.lookup k=none->fx a k w=a++[(k,w)]
 | [],_=>rfl
 | (b,v)::r,h=>by
  rw[List.lookup_cons] at h
  by_cases e:k=b
  ·subst e;simp at h
  ·have:(k==b)=false:=by simpa using e
   rw[this] at h;rw[fx,if_neg (fun z=>e z.symm),Dx k w r h];rfl
theorem Pz{ws:List ((Nat×Nat)×Wd)}{d c:Nat}{w:Wd}(a:(ws.map (·.1)).Nodup):ke true (dY ws) (.tuple [bS d,bS c]) [Sum.inl (d:Int),Sum.inl (c:Int)] (.str (iB w))=dY (fx ws (d,c) w):=by
 unfold ke;rw[Dv];cases h:ws.lookup (d,c) with
 | none=>rw[Dx _ _ _ h];simp[dY]
 | some v=>simp only[Option.map_some,Option.isSome_some,if_true];exact Dw d c w ws a (by rw[h];rfl)
theorem ya(k:Nat×Nat)(w:Wd):∀a:List ((Nat×Nat)×Wd),(fx a k w).map (·.1)=if k∈a.map (·.1) then a.map (·.1) else a.map (·.1)++[k]
 | []=>by simp[fx]
 | (b,v)::r=>by
  rw[fx]
  by_cases e:b = k
  ·subst e;simp
  ·rw[if_neg e,List.map_cons,ya k w r]
   by_cases h:k∈r.map (·.1)
   ·rw[if_pos h];rw[if_pos (by simp[h])];rfl
   ·rw[if_neg h,if_neg (by
     simp only[List.map_cons,List.mem_cons,not_or];exact⟨fun z=>e z.symm,h⟩)];rfl
theorem PB{k:Nat×Nat}{w:Wd}{c:List ((Nat×Nat)×Wd)}(d:(c.map (·.1)).Nodup):((fx c k w).map (·.1)).Nodup:=by
 rw[ya];split
 ·exact d
 ·rename_i h;exact List.nodup_append.mpr ⟨d,by simp,fun a f b e z=>by simp at e;subst e;subst z;exact h f⟩
theorem PC(k:Nat×Nat)(w:Wd)(a:List ((Nat×Nat)×Wd)):(fx a k w).length<=a.length+1:=by have:=congrArg List.length (ya k w a);rw[List.length_map] at this;rw[this];split<;>simp
noncomputable def fy(S:Hl)(r:jf):Hl:={ S with rows:=S.rows++[r],words:=fx S.words (r.dd,r.ct) r.wd,begun:=if r.wd=.begun then some (r.dd,r.ct,S.holds) else none,settled:=if r.wd=.begun then S.settled else S.settled.set r.dd (r.ct+1) }
theorem eR{x y z v:PyData}{l:List PyData}:bK (x::y::z::v::l) 3=some v:=by unfold bK dh;rw[if_pos (by omega),if_pos (by simp<;>omega)];rfl
theorem jM{x y z v u:PyData}{l:List PyData}:bK (x::y::z::v::u::l) 4=some u:=by unfold bK dh;rw[if_pos (by omega),if_pos (by simp<;>omega)];rfl
theorem PD(S:Hl)(r:jf):bL ("rows":Str) (.l (S.rows.map gK++[gK r])) (aj S)=aj { S with rows:=S.rows++[r] }:=by rw[show S.rows.map gK++[gK r]=(S.rows++[r]).map gK by simp];exact Pc S _
theorem pF{C:Addr}{S:Hl}{r:jf}(i:S.rows.length<1000000)(j:S.words.length<1000000)(h:(S.words.map (·.1)).Nodup)(hd:r.dd<S.settled.length):gf C [.own true (hB C S),.dat (gK r)]=.rt (.dat (.tuple [.str (iB r.wd),bS r.dd,bS r.ct])) [hB C (fy S r)]:=by
 have sz:1000000<sizeLine:=by decide
 obtain⟨mo,ru,wd,a,g⟩:=r;have b:=Pz (ws:=S.words) (d:=a) (c:=g) (w:=wd) h;have l1:(dY S.words).length<sizeLine:=by unfold dY;rw[List.length_map];omega
 have e:=PD S ⟨mo,ru,wd,a,g⟩;simp only at hd;have f:dh S.settled.length (a:Int)=some a:=by unfold dh;rw[if_pos (by omega),if_pos (by omega)];simp
 have st:(S.settled.map bS).set a (.int ((g:Int)+1))=(S.settled.set a (g+1)).map bS:=by rw[List.map_set];simp[bS]
 unfold fy;cases wd
 ·simp[gf,mL,eR,jM,lC,eE,mF,show S.rows.length<sizeLine by omega,e,mG,lD,pD,l1,b,tN,cA,fk,fj,show(3:Nat)<=sizeLine by omega,mH,lE,f,st,bz pC pC,Pt]
 ·simp[gf,mL,eR,jM,lC,eE,mF,show S.rows.length<sizeLine by omega,e,mG,lD,pD,l1,b,tN,cA,fk,fj,show(3:Nat)<=sizeLine by omega,mH,lE,f,st,bz Pq pC,Pu];rw[<-List.map_set];exact xO _ _
 ·simp[gf,mL,eR,jM,lC,eE,mF,show S.rows.length<sizeLine by omega,e,mG,lD,pD,l1,b,tN,cA,fk,fj,show(3:Nat)<=sizeLine by omega,mH,lE,f,st,bz Pr pC,Pw];rw[<-List.map_set];exact xO _ _
 ·simp[gf,mL,eR,jM,lC,eE,mF,show S.rows.length<sizeLine by omega,e,mG,lD,pD,l1,b,tN,cA,fk,fj,show(3:Nat)<=sizeLine by omega,mH,lE,f,st,bz Ps pC,Px];rw[<-List.map_set];exact xO _ _
structure HOk (S:Hl):Prop where
 z:oH S.a S.ss
 dl:S.ds.length<=6
 pl:∀d∈S.ds,pB d.plan
 sl:S.settled.length=S.ds.length
 nd:(S.words.map (·.1)).Nodup
 bg:∀d c h,S.begun=some (d,c,h)->d<S.ds.length
noncomputable def lR(S:Hl):Bool:=match S.begun with
 | some (_,_,h)=>decide (h=S.holds)
 | none=>false
theorem jh{n N:Nat}{m:SM}{a:List ak}{c:ak}{U:al}{o:List Bx}(b:a.length=n)(d:m (a.map some++List.replicate (N - n) none)=.rt c U)(e:cu a U=some o):bj n N m a=.rt c o:=by unfold bj;rw[if_pos b,d];simp only[e]
theorem PH{j:Int}(a:-4611686018427387904<=j)(b:j<4611686018427387904):df [.int j]=some (L3.intsFrom 0 j.toNat):=by show(if _ then _ else _)=_;rw[if_pos (by rw[decide_eq_true (show -(2 ^ 62)<=j by omega),decide_eq_true (show j<2 ^ 62 by omega)];rfl)]
section
variable{C:Addr}{S:Hl}
theorem yb:mM C [.own true (hB C S)]=.rt (.dat (.bool (lR S))) [hB C S]:=by
 unfold lR;cases h:S.begun with
 | none=>simp[mM,rp,h,gJ]
 | some p=>obtain⟨d,c,k⟩:=p;simp[mM,rp,h,gJ,gH]
theorem Dy{a:List cf}{k:Nat}(h:k<a.length):aO (du a) (.int k)=some (cU a[k]):=by
 unfold du;have:bK (a.map cU) (k:Int)=some (cU a[k]):=by unfold bK dh;rw[if_pos (by omega),if_pos (by simp;omega)];simp[h]
 simp[aO,this]
theorem PJ{l:List Nat}{k:Nat}(h:k<l.length):bK (l.map bS) (k:Int)=some (bS l[k]):=by unfold bK dh;rw[if_pos (by omega),if_pos (by simp;omega)];simp[h]
noncomputable def cW(S:Hl)(k:Nat):Nat:=S.settled.getD k 0
noncomputable def pG(S:Hl)(k:Nat):Option (List Int):=match S.ds[k]? with
 | some d=>(gd S.a S.ss d.plan (cW S k)).map fun v=>[v,(k:Int),(cW S k:Int)]
 | none=>none
noncomputable def fz(S:Hl):List (List Int):=(List.range S.ds.length).filterMap (pG S)
noncomputable abbrev cI(r:List Int):PyData:=.tuple (r.map PyData.int)
theorem yc(ok:HOk S):∀(n k:Nat) (b:List (List Int)) (m f g:Option ak),k+n=S.ds.length->b.length<=k->∃h i j,dm (aI 2) (kt C) (L3.intsFrom (k:Int) n) [some (.own true (hB C S)),some (.own false (.l (b.map cI))),m,f,g]=.nx [some (.own true (hB C S)),some (.own false (.l ((b++(List.range' k n).filterMap (pG S)).map cI))),h,i,j]
 | 0,k,b,m,f,g,_,_=>⟨m,f,g,by simp[L3.intsFrom,dm]⟩
 | n+1,k,b,m,f,g,w,x=>by
  have sz:1000<sizeLine:=by decide
  have d:k<S.ds.length:=by omega
  have q:k<S.settled.length:=by rw[ok.sl];exact d
  have dl:=ok.dl;have s:pB (S.ds[k]).plan:=ok.pl _ (List.getElem_mem d);have t:cW S k=S.settled[k]:=by unfold cW;rw[List.getD_eq_getElem?_getD,List.getElem?_eq_getElem q];rfl
  have rt:=xW (a:=S.a) (ss:=S.ss) (p:=(S.ds[k]).plan) (c:=S.settled[k]) ok.z.len s;have as:=PJ (l:=S.settled) q;have u:pG S k=(gd S.a S.ss (S.ds[k]).plan S.settled[k]).map fun v=>[v,(k:Int),((S.settled[k]:Nat):Int)]:=by unfold pG;rw[List.getElem?_eq_getElem d,<-t]
  rw[xL,dm,List.range'_succ,List.filterMap_cons,u];cases r:gd S.a S.ss (S.ds[k]).plan S.settled[k] with
  | none=>
   rw[r] at rt;have e:kt C [some (.own true (hB C S)),some (.own false (.l (b.map cI))),some (.dat (.int k)),f,g]=.nx [some (.own true (hB C S)),some (.own false (.l (b.map cI))),some (.dat (.int k)),some (.dat (bS S.settled[k])),some (.dat .none)]:=by simp[-aO,kt,oD,eE,as,Dy d];simp[rt,fu]
   obtain⟨h,i,j,o⟩:=yc ok n (k+1) b (some (.dat (.int k))) (some (.dat (bS S.settled[k]))) (some (.dat .none)) (by omega) (by omega);refine⟨h,i,j,?_⟩;simp only[Option.map_none];rw[<-o];simp[e]
  | some v=>
   rw[r] at rt;have e:kt C [some (.own true (hB C S)),some (.own false (.l (b.map cI))),some (.dat (.int k)),f,g]=.nx [some (.own true (hB C S)),some (.own false (.l ((b++[[v,(k:Int),((S.settled[k]:Nat):Int)]]).map cI))),some (.dat (.int k)),some (.dat (bS S.settled[k])),some (.dat (.int v))]:=by simp[-aO,kt,oD,eE,as,Dy d];simp[rt,fu,show b.length<sizeLine by omega,show(3:Nat)<=sizeLine by omega]
   obtain⟨h,i,j,o⟩:=yc ok n (k+1) (b++[[v,(k:Int),((S.settled[k]:Nat):Int)]]) (some (.dat (.int k))) (some (.dat (bS S.settled[k]))) (some (.dat (.int v))) (by omega) (by simp;omega);refine⟨h,i,j,?_⟩;simp only[Option.map_some];rw[List.append_assoc,List.singleton_append] at o;rw[<-o];simp[e]
theorem Dz:∀a:List Int,lG (a.map PyData.int)=some a
 | []=>rfl
 | n::a=>by rw[List.map_cons,lG,Dz a];rfl
theorem DC:∀a:List (List Int),kj (a.map cI)=some a
 | []=>rfl
 | r::a=>by rw[List.map_cons,kj,Dz,DC a]
noncomputable def ny:List (List Int)->PyData
 | []=>.none
 | r::a=>cI (fM a r)
theorem PL:(eh iJ (ai (cm C 0 "deeds") aN)) [some (.own true (hB C S)),some (.own false (.l [])),none,none,none]=.ok (.int S.ds.length) [some (.own true (hB C S)),some (.own false (.l [])),none,none,none]:=by simp[du]
theorem PM{U:al}{a:List (List Int)}(h:U[1]? = some (some (.own false (.l (a.map cI))))):kl 1 U=.ok (ny a) U:=by unfold kl jG;rw[h];simp only[DC];cases a<;>rfl
theorem PN{n:Int}(h:0<=n)(i:n<=1000){m:XM PyData}{g:GM}{b:SM}{U a:al}(c:m U=.ok (.int n) U)(d:dm g b (L3.intsFrom 0 n.toNat) U=.nx a):jC (il df (ai m aN)) g b U=.nx a:=by
 have e:(ai m aN) U=.ok [.int n] U:=by show eg.bind (m U) _=_;rw[c];rfl
 have f:il df (ai m aN) U=.ok (L3.intsFrom 0 n.toNat) U:=by show eg.bind ((ai m aN) U) _=_;rw[e];show L3.lift (df [.int n]) U=_;rw[PH (by omega) (by omega)];rfl
 show eA (il df (ai m aN) U) _=_;rw[f];exact d
theorem PP(ok:HOk S):wY C [.own true (hB C S)]=.rt (.dat (ny (fz S))) [hB C S]:=by
 have dl:=ok.dl;obtain⟨a,b,c,g⟩:=yc (C:=C) ok S.ds.length 0 [] none none none (by omega) (by simp);rw[List.nil_append,<-List.range_eq_range'] at g;change dm _ _ (L3.intsFrom 0 S.ds.length) [_,some (.own false (.l [])),_,_,_]=gv.nx [_,some (.own false (.l ((fz S).map cI))),_,_,_] at g;have d:=PN (m:=eh iJ (ai (cm C 0 "deeds") aN)) (by omega) (by omega) (PL (C:=C) (S:=S)) (by rw[Int.toNat_natCast];exact g);have e:gA 1 (iN aN) [some (.own true (hB C S)),none,none,none,none]=.nx [some (.own true (hB C S)),some (.own false (.l [])),none,none,none]:=by simp
 have f:bt (kl 1) [some (.own true (hB C S)),some (.own false (.l ((fz S).map cI))),a,b,c]=.rt (.dat (ny (fz S))) [some (.own true (hB C S)),some (.own false (.l ((fz S).map cI))),a,b,c]:=by show eA (kl 1 _) _=_;rw[PM rfl];rfl
 have h:(aA (gA 1 (iN aN)) (aA (jC (il df (ai (eh iJ (ai (cm C 0 "deeds") aN)) aN)) (aI 2) (kt C)) (bt (kl 1)))) [some (.own true (hB C S)),none,none,none,none]=.rt (.dat (ny (fz S))) [some (.own true (hB C S)),some (.own false (.l ((fz S).map cI))),a,b,c]:=by rw[iz e,iz d,f]
 exact jh (n:=1) (N:=5) rfl h rfl
end
theorem yd:∀(a:List (List Int)) (r:List Int),fM a r=r\/fM a r∈a
 | [],r=>.inl rfl
 | x::a,r=>by
  rw[fM];rcases yd a (if HT.lexLt x r=true then x else r) with h | h
  ·rw[h];split
   ·exact .inr List.mem_cons_self
   ·exact .inl rfl
  ·exact .inr (bN _ h)
theorem pH(a:List cf):du a=.tuple (a.map cU):=by unfold du;rfl
theorem tU{a:List cf}{k:Nat}(h:k<a.length):bK (a.map cU) (k:Int)=some (cU a[k]):=by unfold bK dh;rw[if_pos (by omega),if_pos (by simp;omega)];simp[h]
section
variable{C:Addr}{S:Hl}{r m:Int}
theorem DH{x:List Int}(h:x∈fz S):∃k v,∃c:k<S.ds.length,gd S.a S.ss (S.ds[k]).plan (cW S k)=some v/\x=[v,(k:Int),(cW S k:Int)]:=by unfold fz at h;obtain⟨k,c,e⟩:=List.mem_filterMap.mp h;have b:=List.mem_range.mp c;unfold pG at e;rw[List.getElem?_eq_getElem b] at e;obtain⟨v,d,f⟩:=Option.map_eq_some_iff.mp e;exact⟨k,v,b,d,f.symm⟩
noncomputable def lS(S:Hl):Option (Int×Nat):=match fz S with
 | []=>none
 | x::a=>(match fM a x with
  | [v,k,_]=>some (v,k.toNat)
  | _=>none)
theorem PQ(h:lS S=none):fz S=[]:=by
 unfold lS at h;cases a:fz S with
 | nil=>rfl
 | cons x b=>
  rw[a] at h;have c:fM b x∈fz S:=by
   rw[a];rcases yd b x with e | e
   ·rw[e];exact List.mem_cons_self
   ·exact bN _ e
  obtain⟨k,v,d,_,e⟩:=DH c;simp only[e] at h;cases h
theorem DJ{v:Int}{k:Nat}(h:lS S=some (v,k)):∃d:k<S.ds.length,gd S.a S.ss (S.ds[k]).plan (cW S k)=some v/\∃x b,fz S=x::b/\fM b x=[v,(k:Int),(cW S k:Int)]:=by
 unfold lS at h;cases c:fz S with
 | nil=>rw[c] at h;cases h
 | cons x b=>
  rw[c] at h;have f:fM b x∈fz S:=by
   rw[c];rcases yd b x with e | e
   ·rw[e];exact List.mem_cons_self
   ·exact bN _ e
  obtain⟨i,j,d,g,e⟩:=DH f;simp only[e,Option.some.injEq,Prod.mk.injEq,Int.toNat_natCast] at h;obtain⟨rfl,rfl⟩:=h;exact⟨d,g,x,b,rfl,e⟩
noncomputable def nz(S:Hl)(r m:Int):Hl×PyData:=match lS S with
 | none=>(S,.tuple [.str "idle",.none])
 | some (v,k)=>if m<v then(S,.tuple [.str "idle",.int v]) else
  (match S.ds[k]? with
  | some d=>(fy S ⟨m,r,if nv S.a S.ss d (cW S k) m=true then .left else .begun,k,cW S k⟩,.tuple [.str (iB (if nv S.a S.ss d (cW S k) m=true then .left else .begun)),bS k,bS (cW S k)])
  | none=>(S,.none))
theorem PR(ok:HOk S)(j:S.rows.length<1000000)(l:S.words.length<1000000):lL C [.own true (hB C S),.dat (.int r),.dat (.int m)]=.rt (.dat (nz S r m).2) [hB C (nz S r m).1]:=by
 have sz:1000000<sizeLine:=by decide
 have b:=PP (C:=C) ok;unfold nz;cases n:lS S with
 | none=>rw[PQ n] at b;simp[lL,nh,dq,b,ny,show(2:Nat)<=sizeLine by omega]
 | some p=>
  obtain⟨v,k⟩:=p;obtain⟨g,q,x,t,s,e⟩:=DJ n;rw[s,ny,e] at b;simp only[cI,List.map_cons,List.map_nil] at b
  by_cases h:m<v
  ·simp[lL,nh,dq,b,h,show(2:Nat)<=sizeLine by omega]
  ·have lo:=Py (a:=S.a) (ss:=S.ss) (d:=S.ds[k]) (c:=cW S k) (now:=m) ok.z.len (ok.pl _ (List.getElem_mem g)) ⟨v,q⟩;simp only[List.getElem?_eq_getElem g];rw[if_neg h];cases o:nv S.a S.ss S.ds[k] (cW S k) m with
   | true=>rw[o] at lo;have i:=pF (C:=C) (S:=S) (r:=⟨m,r,.left,k,cW S k⟩) j l ok.nd (by rw[ok.sl];exact g);have f:gf C [.own true (hB C S),.dat (.tuple [.int m,.int r,.str "left",.int k,.int (cW S k)])]=.rt (.dat (.tuple [.str "left",.int k,.int (cW S k)])) [hB C (fy S ⟨m,r,.left,k,cW S k⟩)]:=i;simp[lL,nh,dq,bu,bX,b,pH,tU g,lo,h,f,show(5:Nat)<=sizeLine by omega]
   | false=>rw[o] at lo;have i:=pF (C:=C) (S:=S) (r:=⟨m,r,.begun,k,cW S k⟩) j l ok.nd (by rw[ok.sl];exact g);have f:gf C [.own true (hB C S),.dat (.tuple [.int m,.int r,.str "begun",.int k,.int (cW S k)])]=.rt (.dat (.tuple [.str "begun",.int k,.int (cW S k)])) [hB C (fy S ⟨m,r,.begun,k,cW S k⟩)]:=i;simp[lL,nh,dq,bu,bX,b,pH,tU g,lo,h,f,show(5:Nat)<=sizeLine by omega]
noncomputable def nA(S:Hl)(r m:Int)(d c:Nat):Hl×PyData:=match S.ds[d]? with
 | some x=>(fy S ⟨m,r,if x.again=true then .begun else .unsure,d,c⟩,.tuple [.str (iB (if x.again=true then .begun else .unsure)),bS d,bS c])
 | none=>(S,.none)
theorem PU{d c:Nat}{h:Int}(ok:HOk S)(f:S.rows.length<1000000)(g:S.words.length<1000000)(e:S.begun=some (d,c,h)):oN C [.own true (hB C S),.dat (.int r),.dat (.int m)]=.rt (.dat (nA S r m d c).2) [hB C (nA S r m d c).1]:=by
 have sz:1000000<sizeLine:=by decide
 have hd:=ok.bg d c h e;unfold nA;simp only[List.getElem?_eq_getElem hd];cases i:(S.ds[d]).again with
 | true=>have b:=pF (C:=C) (S:=S) (r:=⟨m,r,.begun,d,c⟩) f g ok.nd (by rw[ok.sl];exact hd);have a:gf C [.own true (hB C S),.dat (.tuple [.int m,.int r,.str "begun",.int d,.int c])]=.rt (.dat (.tuple [.str "begun",.int d,.int c])) [hB C (fy S ⟨m,r,.begun,d,c⟩)]:=b;simp[oN,rC,bu,bX,e,gJ,pH,tU hd,i,a,show(5:Nat)<=sizeLine by omega]
 | false=>have b:=pF (C:=C) (S:=S) (r:=⟨m,r,.unsure,d,c⟩) f g ok.nd (by rw[ok.sl];exact hd);have a:gf C [.own true (hB C S),.dat (.tuple [.int m,.int r,.str "unsure",.int d,.int c])]=.rt (.dat (.tuple [.str "unsure",.int d,.int c])) [hB C (fy S ⟨m,r,.unsure,d,c⟩)]:=b;simp[oN,rC,bu,bX,e,gJ,pH,tU hd,i,a,show(5:Nat)<=sizeLine by omega]
theorem HOk.last(ok:HOk S)(x:Option Int):HOk { S with last:=x }:=⟨ok.z,ok.dl,ok.pl,ok.sl,ok.nd,ok.bg⟩
noncomputable def eS(S:Hl)(r m:Int):Hl×PyData:=match S.begun with
 | some (d,c,h)=>if h=S.holds then({ S with last:=some m },.tuple [.str "busy",bS d,bS c]) else nA { S with last:=some m } r m d c
 | none=>nz { S with last:=some m } r m
theorem PV(ok:HOk S)(f:S.rows.length<1000000)(g:S.words.length<1000000)(b:dU C [.own true (hB C S),.dat (.int r),.dat (.int m)]=.rt (.dat .none) [hB C S]):gl C [.own true (hB C S),.dat (.int r),.dat (.int m)]=.rt (.dat (eS S r m).2) [hB C (eS S r m).1]:=by
 have sz:1000000<sizeLine:=by decide
 have a:=yb (C:=C) (S:={ S with last:=some m });unfold lR at a;unfold eS;cases hb:S.begun with
 | none=>have i:=PR (C:=C) (S:={ S with last:=some m }) (r:=r) (m:=m) (ok.last _) f g;simp only[hb] at a i ⊢;simp[gl,ni,bu,dq,bX,b,cA,fk,fj,a,hb,gJ,i]
 | some p=>
  obtain⟨d,c,h⟩:=p;have j:=PU (C:=C) (S:={ S with last:=some m }) (r:=r) (m:=m) (ok.last _) f g hb;simp only[hb] at a j ⊢
  by_cases e:h=S.holds
  ·rw[if_pos e];rw[decide_eq_true e] at a;simp[gl,ni,bu,dq,bX,b,cA,fk,fj,a,hb,gJ,show(3:Nat)<=sizeLine by omega]
  ·rw[if_neg e];rw[decide_eq_false e] at a;simp[gl,ni,bu,dq,bX,b,cA,fk,fj,a,hb,gJ,j]
theorem DK(b:dU C [.own true (hB C S),.dat (.int r),.dat (.int m)]=.rt (.dat .none) [hB C S])(c:lR S=false):gk C [.own true (hB C S),.dat (.int r),.dat (.int m)]=.ex "Nothing" [hB C S]:=by have a:=yb (C:=C) (S:=S);rw[c] at a;simp[gk,oW,bu,dq,bX,b,a]
theorem PX{d c:Nat}(ok:HOk S)(f:S.rows.length<1000000)(g:S.words.length<1000000)(h:dU C [.own true (hB C S),.dat (.int r),.dat (.int m)]=.rt (.dat .none) [hB C S])(e:S.begun=some (d,c,S.holds)):gk C [.own true (hB C S),.dat (.int r),.dat (.int m)]=.rt (.dat (.tuple [.str "done",bS d,bS c])) [hB C (fy { S with last:=some m } ⟨m,r,.done,d,c⟩)]:=by
 have sz:1000000<sizeLine:=by decide
 have b:=yb (C:=C) (S:=S);unfold lR at b;rw[e] at b;simp only[decide_true] at b;have hd:=ok.bg d c _ e;have i:=pF (C:=C) (S:={ S with last:=some m }) (r:=⟨m,r,.done,d,c⟩) f g ok.nd (by show d<S.settled.length;rw[ok.sl];exact hd);have a:gf C [.own true (hB C { S with last:=some m }),.dat (.tuple [.int m,.int r,.str "done",.int d,.int c])]=.rt (.dat (.tuple [.str "done",.int d,.int c])) [hB C (fy { S with last:=some m } ⟨m,r,.done,d,c⟩)]:=i;simp only[e] at a;simp[gk,oW,bu,dq,bX,h,b,cA,fk,fj,e,gJ,a,show(5:Nat)<=sizeLine by omega]
end
@[simp] theorem Tr:ck "tuple" "str" = some false:=by decide
@[simp] theorem Ts:ck "tuple" "bool" = some false:=by decide
@[simp] theorem Tt:ck "tuple" "list" = some false:=by decide
@[simp] theorem Tu:ck "list" "str" = some false:=by decide
@[simp] theorem Tv:ck "list" "bool" = some false:=by decide
@[simp] theorem Tw:ck "list" "list" = some true:=by decide
@[simp] theorem Tz:ck "NoneType" "str" = some false:=by decide
@[simp] theorem TB:ck "NoneType" "bool" = some false:=by decide
@[simp] theorem TC:ck "NoneType" "list" = some false:=by decide
@[simp] theorem TD:ck "int" "str" = some false:=by decide
@[simp] theorem TF:ck "int" "list" = some false:=by decide
@[simp] theorem TH:ck "bool" "str" = some false:=by decide
@[simp] theorem TJ:ck "bool" "list" = some false:=by decide
@[simp] theorem TK:ck "str" "bool" = some false:=by decide
@[simp] theorem TL:ck "str" "list" = some false:=by decide
theorem ji:PyData.strOk "take" = true:=by decide +kernel
theorem jj:PyData.strOk "give" = true:=by decide +kernel
theorem jk:PyData.strOk "step" = true:=by decide +kernel
theorem nB:PyData.strOk "finish" = true:=by decide +kernel
theorem DL:(("take":Str)==("take":Str))=true:=by decide +kernel
theorem DM:(("give":Str)==("take":Str))=false:=by decide +kernel
theorem DP:(("give":Str)==("give":Str))=true:=by decide +kernel
theorem DQ:(("step":Str)==("take":Str))=false:=by decide +kernel
theorem DR:(("step":Str)==("give":Str))=false:=by decide +kernel
theorem DU:(("step":Str)==("step":Str))=true:=by decide +kernel
theorem DY:(("finish":Str)==("take":Str))=false:=by decide +kernel
theorem DZ:(("finish":Str)==("give":Str))=false:=by decide +kernel
theorem Ea:(("finish":Str)==("step":Str))=false:=by decide +kernel
section
variable{C:Addr}{S S':Hl}{d q r m t:PyData}{c:Str}
theorem PY(h:gj C [.own true (hB C S),.dat r,.dat m,.dat t]=.rt (.dat d) [hB C S']):dX C [.own true (hB C S),.dat (.tuple [.str "take",r,m,t])]=.rt (.dat d) [hB C S']:=by simp[dX,jb,fL,bz ji ji,DL,bu,bX,h,eR]
theorem PZ(h:gj C [.own true (hB C S),.dat r,.dat m,.dat t]=.ex c [hB C S])(a:c∈cx)(b:fq [.exc c]=.rt (.dat q) []):dX C [.own true (hB C S),.dat (.tuple [.str "take",r,m,t])]=.rt (.dat q) [hB C S]:=by simp[dX,jb,fL,bz ji ji,DL,bu,bX,h,eR,a,b]
theorem Qa(h:gV C [.own true (hB C S),.dat r,.dat m]=.rt (.dat d) [hB C S']):dX C [.own true (hB C S),.dat (.tuple [.str "give",r,m])]=.rt (.dat d) [hB C S']:=by simp[dX,jb,fL,bz jj ji,DM,bz jj jj,DP,bu,bX,h]
theorem Eb(h:gV C [.own true (hB C S),.dat r,.dat m]=.ex c [hB C S])(a:c∈cx)(b:fq [.exc c]=.rt (.dat q) []):dX C [.own true (hB C S),.dat (.tuple [.str "give",r,m])]=.rt (.dat q) [hB C S]:=by simp[dX,jb,fL,bz jj ji,DM,bz jj jj,DP,bu,bX,h,a,b]
theorem Qb(h:gl C [.own true (hB C S),.dat r,.dat m]=.rt (.dat d) [hB C S']):dX C [.own true (hB C S),.dat (.tuple [.str "step",r,m])]=.rt (.dat d) [hB C S']:=by simp[dX,jb,fL,bz jk ji,DQ,bz jk jj,DR,bz jk jk,DU,bu,bX,h]
theorem Ec(h:gl C [.own true (hB C S),.dat r,.dat m]=.ex c [hB C S])(a:c∈cx)(b:fq [.exc c]=.rt (.dat q) []):dX C [.own true (hB C S),.dat (.tuple [.str "step",r,m])]=.rt (.dat q) [hB C S]:=by simp[dX,jb,fL,bz jk ji,DQ,bz jk jj,DR,bz jk jk,DU,bu,bX,h,a,b]
theorem Qc(h:gk C [.own true (hB C S),.dat r,.dat m]=.rt (.dat d) [hB C S']):dX C [.own true (hB C S),.dat (.tuple [.str "finish",r,m])]=.rt (.dat d) [hB C S']:=by simp[dX,jb,fL,bz nB ji,DY,bz nB jj,DZ,bz nB jk,Ea,bu,bX,h]
theorem ye(h:gk C [.own true (hB C S),.dat r,.dat m]=.ex c [hB C S])(a:c∈cx)(b:fq [.exc c]=.rt (.dat q) []):dX C [.own true (hB C S),.dat (.tuple [.str "finish",r,m])]=.rt (.dat q) [hB C S]:=by simp[dX,jb,fL,bz nB ji,DY,bz nB jj,DZ,bz nB jk,Ea,bu,bX,h,a,b]
end
noncomputable def jl:iA->Prop
 | .within n=>0<=n/\n<=999
 | _=>True
theorem Qd{x:iA}(ok:jl x):mR [.dat (pA x)]=.rt (.dat (.bool true)) []:=by
 cases x with
 | all=>simp[mR,oQ,bz kL kL,Ds]
 | last=>simp[mR,oQ,bz jg kL,bz jg jg,xY,xZ]
 | within n=>
  have a:(("within":Str)==("within":Str))=true:=by decide +kernel
  simp[mR,oQ,kA xX xX,a,kw (d:=.int n) rfl,cH,ok.1,ok.2]
theorem Qe{d:cf}(a:iX d.plan)(b:jl d.late):rL [.dat (cU d)]=.rt (.dat (.bool true)) []:=by have h1:=OQ a;have h2:=Qd b;simp[rL,wS,pq,fW,h1,h2]
theorem Ed:∀(b:List cf) (a:List PyData) (U:al),(∃x,U=[x])->(∀d∈b,iX d.plan/\jl d.late)->a.length+b.length<=sizeLine->cS (aI 0) fK rM (b.map cU) a U=some (a++(b.map fun _=>PyData.bool true))
 | [],a,U,_,_,_=>by simp[cS]
 | d::b,a,U,⟨x,c⟩,h,e=>by
  subst c;simp only[List.length_cons] at e;have hd:=h d List.mem_cons_self;have f:=Ed b (a++[.bool true]) [some (.dat (cU d))] ⟨_,rfl⟩ (fun x c=>h x (bN _ c)) (by simp;omega);have g:rM [some (.dat (cU d))]=.ok (.bool true) [some (.dat (cU d))]:=by simp[rM,Qe hd.1 hd.2]
  rw[List.map_cons,cS];simp[fK,g,show a.length<sizeLine by omega,f]
theorem Ee:∀n:Nat,bools? (List.replicate n (PyData.bool true))=some (List.replicate n true)
 | 0=>rfl
 | n+1=>by rw[List.replicate_succ,bools?,Ee n];rfl
theorem Qf{ds:List cf}(b:ds.length<=6)(h:∀d∈ds,iX d.plan/\jl d.late):jK [.dat (du ds)]=.rt (.dat .none) []:=by
 have sz:1000<sizeLine:=by decide
 have g:=Ed ds [] [none] ⟨_,rfl⟩ h (by simp;omega);rw[List.nil_append,List.map_const'] at g;have a:mu [.list (List.replicate ds.length (PyData.bool true))]=some (.bool true):=by simp[mu,Ee]
 unfold du;simp[-mu,jK,wZ,wV,wU,g,a,show ¬ (6:Int)<ds.length by omega,show ds.length<=sizeLine by omega]
theorem Qg{ns:List Int}{t made:List PyData}{x3 x4 x5:Option ak}(a:ns.length<=63)(A:t.length<=700)(B:made.length<100) :
  ∃d t' j m,iX d.plan/\jl d.late/\t'.length<=t.length+9/\oV [some (.scr ns),some (.own true (.l t)),some (.own false (.l made)),x3,x4,x5]=.nx [some (.scr ns),some (.own true (.l t')),some (.own false (.l (made++[cU d]))),x3,j,m]:=by
 have sz:1000<sizeLine:=by decide
 obtain⟨w,f,h1⟩:=jc (ns:=ns) (t:=t) (ds:=[.int 30,.int 30,.int 1000]) a (by omega) (by simp) (by simp);have:∃i:Int,w=.int i/\0<i/\i<=1000:=by simp only[List.mem_cons,List.not_mem_nil,or_false] at f;rcases f with rfl | rfl | rfl<;>exact⟨_,rfl,by omega,by omega⟩
 obtain⟨i,rfl,n,C⟩:=this;obtain⟨c,o,D,h2⟩:=dM (ns:=ns) (t:=t++[.int 0]) (many:=i) a (by simp;omega) n;obtain⟨z,b,h3⟩:=jc (ns:=ns) (t:=t++[.int 0]++[.int 0]) (ds:=[.str "all",.str "last",.tuple [.str "within",.int c]]) a (by simp;omega) (by simp) (by simp);have:∃x:iA,z=pA x/\jl x:=by
  simp only[List.mem_cons,List.not_mem_nil,or_false] at b;rcases b with rfl | rfl | rfl
  ·exact⟨.all,rfl,trivial⟩
  ·exact⟨.last,rfl,trivial⟩
  ·exact⟨.within c,rfl,o,by omega⟩
 obtain⟨x,rfl,q⟩:=this;obtain⟨p,g,r,s,h⟩:=OY (ns:=ns) (t:=t++[.int 0]++[.int 0]++[.int 0]) a (by simp;omega);simp only[List.length_append,List.length_cons,List.length_nil] at s;obtain⟨k,E,G,u⟩:=dM (ns:=ns) (t:=g) (many:=2) a (by omega) (by omega);simp only[List.append_assoc,List.cons_append,List.nil_append] at h2 h3 h;refine⟨⟨p,x,decide (k=0)⟩,g++[.int 0],some (.dat (.int c)),some (.dat (pA x)),r,q,by simp;omega,?_⟩;generalize v:lQ p=P at *;generalize y:pA x=L at *;have e:cU ⟨p,x,decide (k=0)⟩=.tuple [P,L,.bool (decide (k=0))]:=by unfold cU;rw[v,y]
 rw[e];simp[oV,h1,h2,h3,h,u,gH,show(2:Nat)<=sizeLine by omega,show(3:Nat)<=sizeLine by omega,show made.length<sizeLine by omega]
theorem Ef{ns:List Int}(g:ns.length<=63):∀(n:Nat) (i:Int) {t made:List PyData}{x3 x4 x5:Option ak},t.length+9 * n<=700->made.length+n<100->∃(a:List cf) (t':List PyData) (h b c:Option ak),(∀d∈a,iX d.plan/\jl d.late)/\a.length=n/\t'.length<=t.length+9 * n/\
   dm (aI 3) oV (L3.intsFrom i n) [some (.scr ns),some (.own true (.l t)),some (.own false (.l made)),x3,x4,x5]=.nx [some (.scr ns),some (.own true (.l t')),some (.own false (.l (made++a.map cU))),h,b,c]
 | 0,i,t,made,x3,x4,x5,_,_=>⟨[],t,x3,x4,x5,by simp,rfl,by omega,by simp[L3.intsFrom,dm]⟩
 | n+1,i,t,made,x3,x4,x5,v,w=>by
  obtain⟨d,j,b,c,k,m,l1,e⟩:=Qg (ns:=ns) (t:=t) (made:=made) (x3:=some (.dat (.int i))) (x4:=x4) (x5:=x5) g (by omega) (by omega);obtain⟨a,o,p,q,r,h2,s,l2,u⟩:=Ef g n (i+1) (t:=j) (made:=made++[cU d]) (x3:=some (.dat (.int i))) (x4:=b) (x5:=c) (by omega) (by simp;omega);refine⟨d::a,o,p,q,r,fun x f=>?_,by simp[s],by omega,?_⟩
  ·rcases List.mem_cons.mp f with rfl | f
   ·exact⟨k,m⟩
   ·exact h2 x f
  ·rw[List.map_cons,show made++cU d::a.map cU=made++[cU d]++a.map cU by simp,<-u,xL,dm];simp[e]
theorem Qh{ns:List Int}{t:List PyData}(b:ns.length<=63)(h:t.length<=600):∃(a:List cf) (t':List PyData),(∀d∈a,iX d.plan/\jl d.late)/\a.length<=6/\t'.length<=t.length+60/\rO [.scr ns,.own true (.l t)]=.rt (.dat (.tuple (a.map cU))) [.l t']:=by
 have sz:1000<sizeLine:=by decide
 obtain⟨w,c,h1⟩:=jc (ns:=ns) (t:=t) (ds:=[.int 5,.int 5,.int 7]) b (by omega) (by simp) (by simp);have:∃i:Int,w=.int i/\0<i/\i<=7:=by simp only[List.mem_cons,List.not_mem_nil,or_false] at c;rcases c with rfl | rfl | rfl<;>exact⟨_,rfl,by omega,by omega⟩
 obtain⟨i,rfl,f,j⟩:=this;obtain⟨k,m,n,h2⟩:=dM (ns:=ns) (t:=t++[.int 0]) (many:=i) b (by simp;omega) f;simp only[List.append_assoc,List.cons_append,List.nil_append] at h2;obtain⟨a,g,o,p,q,hd,nd,l2,e⟩:=Ef (ns:=ns) b k.toNat 0 (t:=t++[.int 0,.int 0]) (made:=[]) (x3:=none) (x4:=none) (x5:=none) (by simp;omega) (by simp;omega);simp only[List.length_append,List.length_cons,List.length_nil] at l2;refine⟨a,g,hd,by omega,by omega,?_⟩;rw[List.nil_append] at e;simp[rO,xa,h1,h2,e,show -4611686018427387904<=k by omega,show k<4611686018427387904 by omega,show(3:Nat)<=sizeLine by omega]
inductive Cl where
 | take (r m t:Int) | give (r m:Int) | step (r m:Int) | finish (r m:Int)
noncomputable def fP:Cl->PyData
 | .take r m t=>.tuple [.str "take",.int r,.int m,.int t]
 | .give r m=>.tuple [.str "give",.int r,.int m]
 | .step r m=>.tuple [.str "step",.int r,.int m]
 | .finish r m=>.tuple [.str "finish",.int r,.int m]
noncomputable def Cl.ru:Cl->Int
 | .take r _ _=>r
 | .give r _=>r
 | .step r _=>r
 | .finish r _=>r
noncomputable def Cl.mo:Cl->Int
 | .take _ m _=>m
 | .give _ m=>m
 | .step _ m=>m
 | .finish _ m=>m
structure jN (c:Cl) (now:Int):Prop where
 r:0<=c.ru/\c.ru<=3
 m:now<=c.mo/\c.mo<=now+29
 t:∀r m t,c=.take r m t->1<=t/\t<=99
theorem Qi(c:Cl):aO (fP c) (.int 2)=some (.int c.mo):=by cases c<;>rfl
noncomputable abbrev Eg:SM:=(bx (lh (aV (ag gQ (xV 3) (xC .none))) (aV (ag ki (aL (aG cO (aR 0 (aR 1 (af (xC (.int 4)) aB))))) (xC (.int 0))))) (bF (xV 3) (aI 4)) bD)
theorem Qj{ns:List Int}{t:List PyData}{now:Int}{holder:Option Int}(n:ns.length<=63)(T:t.length<=800)(C:∀h,holder=some h->0<=h/\h<=3) :
  ∃c t',mY [.scr ns,.own true (.l t),.dat (.int now),.dat (bZ holder)]=.rt (.dat (fP c)) [.l t']/\jN c now/\t'.length<=t.length+7:=by
 have sz:1000<sizeLine:=by decide
 obtain⟨o,D,X,S⟩:=dM (ns:=ns) (t:=t) (many:=4) n (by omega) (by omega);have first:∃r f,0<=r/\r<=3/\f.length<=t.length+2/\Eg [some (.scr ns),some (.own true (.l (t++[.int 0]))),some (.dat (.int now)),some (.dat (bZ holder)),some (.dat (.int o)),none,none]=.nx [some (.scr ns),some (.own true (.l f)),some (.dat (.int now)),some (.dat (bZ holder)),some (.dat (.int r)),none,none]:=by
  cases holder with
  | none=>exact⟨o,t++[.int 0],D,by omega,by simp,by simp[bZ]⟩
  | some h=>
   obtain⟨k,Y,Z,h2⟩:=dM (ns:=ns) (t:=t++[.int 0]) (many:=4) n (by simp;omega) (by omega);simp only[List.append_assoc,List.cons_append,List.nil_append] at h2
   by_cases g:0<k
   ·exact⟨h,t++[.int 0,.int 0],(C h rfl).1,(C h rfl).2,by simp,by simp[bZ,h2,g]⟩
   ·exact⟨o,t++[.int 0,.int 0],D,by omega,by simp,by simp[bZ,h2,g]⟩
 obtain⟨r,f,E,G,l2,M⟩:=first
 obtain⟨x,x1,x2,h3⟩:=dM (ns:=ns) (t:=f) (many:=30) n (by omega) (by omega);obtain⟨v,H,I⟩:=jc (ns:=ns) (t:=f++[.int 0]) (ds:=[.int 0,.int 0,.int 0,.int 1,.int 2,.int x]) n (by simp;omega) (by simp) (by simp);have:∃i:Int,v=.int i/\0<=i/\i<=29:=by simp only[List.mem_cons,List.not_mem_nil,or_false] at H;rcases H with rfl | rfl | rfl | rfl | rfl | rfl<;>exact⟨_,rfl,by omega,by omega⟩
 obtain⟨i,rfl,i0,i1⟩:=this;obtain⟨k,k0,k1,J⟩:=dM (ns:=ns) (t:=f++[.int 0]++[.int 0]) (many:=10) n (by simp;omega) (by omega);simp only[List.append_assoc,List.cons_append,List.nil_append] at I J;have pre:∀{p:SM},(aA (bF (aL (aG cO (aR 0 (aR 1 (af (xC (.int 4)) aB))))) (aI 4)) (aA Eg (aA (bF (ag dL (xV 2) (aL (aG gi (aR 0 (aR 1 (af (dJ (ai (xC (.int 0)) (ai (xC (.int 0)) (ai (xC (.int 0)) (ai (xC (.int 1)) (ai (xC (.int 2)) (ai (aL (aG cO (aR 0 (aR 1 (af (xC (.int 30)) aB))))) aN))))))) aB)))))) (aI 5)) (aA (bF (aL (aG cO (aR 0 (aR 1 (af (xC (.int 10)) aB))))) (aI 6)) p))))
   [some (.scr ns),some (.own true (.l t)),some (.dat (.int now)),some (.dat (bZ holder)),none,none,none]=p [some (.scr ns),some (.own true (.l (f++[.int 0,.int 0,.int 0]))),some (.dat (.int now)),some (.dat (bZ holder)),some (.dat (.int r)),some (.dat (.int (now+i))),some (.dat (.int k))]:=by
  intro p;refine(iz (by simp[S]<;>rfl)).trans ?_;refine(iz M).trans ?_;refine(iz (by simp[h3,I,show(6:Nat)<=sizeLine by omega]<;>rfl)).trans ?_;exact iz (by simp[J])
 by_cases g:holder=none\/k<2
 ·obtain⟨w,L,q⟩:=jc (ns:=ns) (t:=f++[.int 0,.int 0,.int 0]) (ds:=[.int 4,.int 99]) n (by simp;omega) (by simp) (by simp);have:∃j:Int,w=.int j/\0<j/\j<=99:=by simp only[List.mem_cons,List.not_mem_nil,or_false] at L;rcases L with rfl | rfl<;>exact⟨_,rfl,by omega,by omega⟩
  obtain⟨j,rfl,N,j1⟩:=this;obtain⟨y,y0,y1,s⟩:=dM (ns:=ns) (t:=f++[.int 0,.int 0,.int 0]++[.int 0]) (many:=j) n (by simp;omega) N;simp only[List.append_assoc,List.cons_append,List.nil_append] at q s;refine⟨.take r (now+i) (1+y),f++[.int 0,.int 0,.int 0,.int 0,.int 0],?_,⟨⟨E,G⟩,⟨by show now<=now+i;omega,by show now+i<=_;omega⟩,fun _ _ _ e=>by cases e;omega⟩,by simp;omega⟩;refine jh (U:=[some (.scr ns),some (.own true (.l (f++[.int 0,.int 0,.int 0,.int 0,.int 0]))),some (.dat (.int now)),some (.dat (bZ holder)),some (.dat (.int r)),some (.dat (.int (now+i))),some (.dat (.int k))]) rfl (pre.trans ?_) rfl;rcases g with rfl | g
  ·simp[bZ,q,s,fP,show(2:Nat)<=sizeLine by omega,show(4:Nat)<=sizeLine by omega]
  ·cases holder<;>simp[bZ,q,s,g,fP,show(2:Nat)<=sizeLine by omega,show(4:Nat)<=sizeLine by omega]
 ·obtain⟨h,rfl⟩:∃h,holder=some h:=by cases holder with
   | none=>exact absurd (.inl rfl) g
   | some h=>exact⟨h,rfl⟩
  have k2:¬ k<2:=fun z=>g (.inr z);have ok:∀c:Cl,c.ru=r->c.mo=now+i->(∀r m t,c≠.take r m t)->jN c now:=fun c u A B=>⟨by rw[u];exact⟨E,G⟩,by rw[A];omega,fun a b d e=>absurd e (B a b d)⟩
  by_cases A:k=2
  ·subst A;refine⟨.give r (now+i),f++[.int 0,.int 0,.int 0],?_,ok _ rfl rfl (by simp),by simp;omega⟩;refine jh (U:=[some (.scr ns),some (.own true (.l (f++[.int 0,.int 0,.int 0]))),some (.dat (.int now)),some (.dat (bZ (some h))),some (.dat (.int r)),some (.dat (.int (now+i))),some (.dat (.int 2))]) rfl (pre.trans ?_) rfl;simp[bZ,gH,fP,show(3:Nat)<=sizeLine by omega]
  ·have O:k=3\/k=4\/k=5\/k=6\/k=7\/k=8\/k=9:=by omega
   have mk:∀c:Cl,c.ru=r->c.mo=now+i->(∀r m t,c≠.take r m t)->mY [.scr ns,.own true (.l t),.dat (.int now),.dat (bZ (some h))]=.rt (.dat (fP c)) [.l (f++[.int 0,.int 0,.int 0])]->∃c t',mY [.scr ns,.own true (.l t),.dat (.int now),.dat (bZ (some h))]=.rt (.dat (fP c)) [.l t']/\jN c now/\t'.length<=t.length+7:=fun c u B Q R=>⟨c,_,R,ok c u B Q,by simp;omega⟩
   have s3:(3:Nat)<=sizeLine:=by omega
   have s8:(8:Nat)<=sizeLine:=by omega
   rcases O with rfl | rfl | rfl | rfl | rfl | rfl | rfl
   ·exact mk (.step r (now+i)) rfl rfl (by simp) (jh (U:=[some (.scr ns),some (.own true (.l (f++[.int 0,.int 0,.int 0]))),some (.dat (.int now)),some (.dat (bZ (some h))),some (.dat (.int r)),some (.dat (.int (now+i))),some (.dat (.int 3))]) rfl (pre.trans (by kernel_rfl)) rfl)
   ·exact mk (.finish r (now+i)) rfl rfl (by simp) (jh (U:=[some (.scr ns),some (.own true (.l (f++[.int 0,.int 0,.int 0]))),some (.dat (.int now)),some (.dat (bZ (some h))),some (.dat (.int r)),some (.dat (.int (now+i))),some (.dat (.int 4))]) rfl (pre.trans (by kernel_rfl)) rfl)
   ·exact mk (.step r (now+i)) rfl rfl (by simp) (jh (U:=[some (.scr ns),some (.own true (.l (f++[.int 0,.int 0,.int 0]))),some (.dat (.int now)),some (.dat (bZ (some h))),some (.dat (.int r)),some (.dat (.int (now+i))),some (.dat (.int 5))]) rfl (pre.trans (by kernel_rfl)) rfl)
   ·exact mk (.finish r (now+i)) rfl rfl (by simp) (jh (U:=[some (.scr ns),some (.own true (.l (f++[.int 0,.int 0,.int 0]))),some (.dat (.int now)),some (.dat (bZ (some h))),some (.dat (.int r)),some (.dat (.int (now+i))),some (.dat (.int 6))]) rfl (pre.trans (by kernel_rfl)) rfl)
   ·exact mk (.step r (now+i)) rfl rfl (by simp) (jh (U:=[some (.scr ns),some (.own true (.l (f++[.int 0,.int 0,.int 0]))),some (.dat (.int now)),some (.dat (bZ (some h))),some (.dat (.int r)),some (.dat (.int (now+i))),some (.dat (.int 7))]) rfl (pre.trans (by kernel_rfl)) rfl)
   ·exact mk (.finish r (now+i)) rfl rfl (by simp) (jh (U:=[some (.scr ns),some (.own true (.l (f++[.int 0,.int 0,.int 0]))),some (.dat (.int now)),some (.dat (bZ (some h))),some (.dat (.int r)),some (.dat (.int (now+i))),some (.dat (.int 8))]) rfl (pre.trans (by kernel_rfl)) rfl)
   ·exact mk (.step r (now+i)) rfl rfl (by simp) (jh (U:=[some (.scr ns),some (.own true (.l (f++[.int 0,.int 0,.int 0]))),some (.dat (.int now)),some (.dat (bZ (some h))),some (.dat (.int r)),some (.dat (.int (now+i))),some (.dat (.int 9))]) rfl (pre.trans (by kernel_rfl)) rfl)
noncomputable def cy(S:Hl):Hl:=S.rows.foldl fy (dZ S.a S.ss S.ds)
structure dA (S:Hl) (m:Int) (n:Nat):Prop where
 ok:HOk S
 lt:∀d∈S.ds,jl d.late
 rl:S.rows.length<=n
 wl:S.words.length<=n
 ho:∀h,S.holder=some h->0<=h/\h<=3
 la:∀l,S.last=some l->l<=m
 ti:S.til<=m+99
 dr:∀x∈S.rows,x.dd<S.ds.length
 w1:(cy S).words=S.words
 w2:(cy S).settled=S.settled
theorem HOk.add{S:Hl}(ok:HOk S){r:jf}(h:r.dd<S.ds.length):HOk (fy S r):=by
 refine⟨ok.z,ok.dl,ok.pl,?_,PB ok.nd,?_⟩
 ·show(if r.wd=.begun then S.settled else S.settled.set r.dd (r.ct+1)).length=S.ds.length;split
  ·exact ok.sl
  ·rw[List.length_set];exact ok.sl
 ·intro d c k e;have a:(if r.wd=.begun then some (r.dd,r.ct,S.holds) else none)=some (d,c,k):=e;split at a
  ·cases a;exact h
  ·cases a
theorem dA.add{S:Hl}{m:Int}{n:Nat}(p:dA S m n){r:jf}(h:r.dd<S.ds.length):dA (fy S r) m (n+1):=by
 have c:cy (fy S r)=fy (cy S) r:=by show(S.rows++[r]).foldl fy (dZ S.a S.ss S.ds)=_;rw[List.foldl_append];rfl
 refine⟨p.ok.add h,p.lt,?_,?_,p.ho,p.la,p.ti,?_,?_,?_⟩
 ·have:=p.rl;show(S.rows++[r]).length<=n+1;simp;omega
 ·have:=p.wl;have:=PC (r.dd,r.ct) r.wd S.words;show(fx S.words (r.dd,r.ct) r.wd).length<=n+1;omega
 ·intro x b;rcases List.mem_append.mp b with b | b
  ·exact p.dr x b
  ·rw[List.mem_singleton.mp b];exact h
 ·rw[c];show fx (cy S).words _ _=fx S.words _ _;rw[p.w1]
 ·rw[c];show(if r.wd=.begun then(cy S).settled else(cy S).settled.set r.dd (r.ct+1))=(if r.wd=.begun then S.settled else S.settled.set r.dd (r.ct+1));rw[p.w2]
theorem dA.mono{S:Hl}{m a:Int}{n b:Nat}(p:dA S m n)(h:m<=a)(c:n<=b):dA S a b:=
 ⟨p.ok,p.lt,Nat.le_trans p.rl c,Nat.le_trans p.wl c,p.ho,fun l e=>Int.le_trans (p.la l e) h,by have:=p.ti;omega,p.dr,p.w1,p.w2⟩
theorem dA.last{S:Hl}{m a:Int}{n:Nat}(p:dA S m n)(h:m<=a):dA { S with last:=some a } a n:=
 ⟨p.ok.last _,p.lt,p.rl,p.wl,p.ho,fun l e=>by cases e;omega,by have:=p.ti;show S.til<=_;omega,p.dr,p.w1,p.w2⟩
theorem dA.hold{S:Hl}{m a k u:Int}{n:Nat}{w:Option Int}(p:dA S m n)(h:m<=a)(b:∀h,w=some h->0<=h/\h<=3)(c:u<=a+99):dA { S with last:=some a,holder:=w,til:=u,holds:=k } a n:=
 ⟨⟨p.ok.z,p.ok.dl,p.ok.pl,p.ok.sl,p.ok.nd,p.ok.bg⟩,p.lt,p.rl,p.wl,b,fun l e=>by cases e;omega,c,p.dr,p.w1,p.w2⟩
theorem Qk{a:Int}{f:Sh}{b:List cf}(z:oH a f)(g:b.length<=6)(hd:∀d∈b,pB d.plan/\jl d.late):dA (dZ a f b) 0 0:=
 ⟨⟨z,g,fun d h=>(hd d h).1,by simp[dZ],by simp[dZ],fun d c h e=>(by cases e)⟩,fun d h=>(hd d h).2,by simp[dZ],by simp[dZ],fun h e=>(by cases e),fun l e=>(by cases e),by simp[dZ],by simp[dZ],rfl,rfl⟩
theorem Eh{S:Hl}{r m b:Int}{n:Nat}(p:dA S m n)(h:m<=b):dA (eS S r b).1 b (n+1)/\(eS S r b).1.holder=S.holder/\(eS S r b).1.til=S.til/\
  ((∃d c,(eS S r b).1.begun=some (d,c,(eS S r b).1.holds)/\((eS S r b).2=.tuple [.str "busy",bS d,bS c]\/(eS S r b).2=.tuple [.str "begun",bS d,bS c]))\/
   (∃d c:Nat,(eS S r b).2=.tuple [.str "left",bS d,bS c]\/(eS S r b).2=.tuple [.str "unsure",bS d,bS c])\/(eS S r b).2=.tuple [.str "idle",.none]\/∃v:Int,(eS S r b).2=.tuple [.str "idle",.int v]):=by
 have q:=p.last h;obtain⟨f,g⟩:∃f:Hl,f = { S with last:=some b }:=⟨_,rfl⟩
 rw[<-g] at q;have o:f.begun=S.begun:=by rw[g]
 have s:f.holds=S.holds:=by rw[g]
 have y:f.ds=S.ds:=by rw[g]
 have t:f.holder=S.holder:=by rw[g]
 have u:f.til=S.til:=by rw[g]
 have e:eS S r b = match S.begun with
   | some (d,c,k)=>if k=S.holds then(f,.tuple [.str "busy",bS d,bS c]) else nA f r b d c
   | none=>nz f r b:=by rw[g];rfl
 rw[e,<-o,<-s,<-t,<-u];cases hb:f.begun with
 | some x=>
  obtain⟨d,c,k⟩:=x;simp only
  by_cases i:k=f.holds
  ·rw[if_pos i];exact⟨q.mono (Int.le_refl _) (by omega),rfl,rfl,.inl ⟨d,c,by show f.begun=_;rw[hb,i],.inl rfl⟩⟩
  ·rw[if_neg i];have hd:=q.ok.bg d c k hb;unfold nA;rw[List.getElem?_eq_getElem hd];simp only;refine⟨q.add hd,rfl,rfl,?_⟩
   by_cases j:f.ds[d].again=true
   ·simp only[if_pos j];exact .inl ⟨d,c,rfl,.inr rfl⟩
   ·simp only[if_neg j];exact .inr (.inl ⟨d,c,.inr rfl⟩)
 | none=>
  simp only;unfold nz;cases w:lS f with
  | none=>exact⟨q.mono (Int.le_refl _) (by omega),rfl,rfl,.inr (.inr (.inl rfl))⟩
  | some x=>
   obtain⟨v,k⟩:=x;simp only
   by_cases l:b<v
   ·rw[if_pos l];exact⟨q.mono (Int.le_refl _) (by omega),rfl,rfl,.inr (.inr (.inr ⟨v,rfl⟩))⟩
   ·rw[if_neg l];obtain⟨i,_⟩:=DJ w;rw[List.getElem?_eq_getElem i];simp only;refine⟨q.add i,rfl,rfl,?_⟩;generalize cW f k=ct
    by_cases j:nv f.a f.ss f.ds[k] ct b = true
    ·simp only[if_pos j];exact .inr (.inl ⟨k,ct,.inl rfl⟩)
    ·simp only[if_neg j];exact .inl ⟨k,ct,rfl,.inr rfl⟩
section
variable{C:Addr}{S:Hl}{m:Int}{n:Nat}
theorem dA.call{r a:Int}(p:dA S m n)(c:0<=r/\r<=3)(h:m<=a)(d:0<=a/\a<=9999):ft C [.own true (hB C S),.dat (.int r),.dat (.int a)]=.rt (.dat .none) [hB C S]:=
 Pf rfl (by simp[cH];omega) (by simp[cH];omega) (by
  cases b:S.last with
  | none=>unfold tP;rw[b]
  | some l=>
   have:=p.la l b;unfold tP;rw[b];exact decide_eq_false (by omega))
end
inductive Ro where
 | take (r m t:Int) | give (r m:Int)
theorem gX:PyData.strOk "take" = true:=by decide +kernel
theorem gY:PyData.strOk "give" = true:=by decide +kernel
theorem yf:(("take":Str)==("take":Str))=true:=by decide +kernel
theorem yg:(("give":Str)==("take":Str))=false:=by decide +kernel
theorem yh:(("give":Str)==("give":Str))=true:=by decide +kernel
noncomputable abbrev Ho:=Int×Int×Int
structure Wk where
 G:List Ho
 who:Option Int
 til:Int
section
variable{C:Addr}{S S':Hl}{w:Wk}{d q r m t c:PyData}
theorem tV{x w:Str}{rest:List PyData}{n:Int}(a:PyData.strOk x=true)(b:PyData.strOk w=true)(e:we [("take",4),("give",3),("step",3),("finish",3)] (.str w)=some (.int n)):rJ [some (.dat (.str w)),some (.dat (.tuple (.str x::rest)))]=.ok (.bool (decide (((rest.length+1:Nat):Int)=n)&&(x==w))) [some (.dat (.str w)),some (.dat (.tuple (.str x::rest)))]:=by have h:=kA (x:=x) (w:=w) (rest:=rest) (n:=n) a b;simp[rJ,e,h]
end
section
variable{C:Addr}{S S':Hl}{w:Wk}{d q r m t c:PyData}
theorem gZ:PyData.strOk "step" = true:=by decide +kernel
theorem kM:PyData.strOk "finish" = true:=by decide +kernel
theorem Ql:(("take":Str)==("give":Str))=false:=by decide +kernel
theorem Qm:(("take":Str)==("step":Str))=false:=by decide +kernel
theorem Qn:(("take":Str)==("finish":Str))=false:=by decide +kernel
theorem Qo:(("give":Str)==("step":Str))=false:=by decide +kernel
theorem Qp:(("give":Str)==("finish":Str))=false:=by decide +kernel
theorem yi:(("step":Str)==("take":Str))=false:=by decide +kernel
theorem yj:(("step":Str)==("give":Str))=false:=by decide +kernel
theorem yk:(("step":Str)==("step":Str))=true:=by decide +kernel
theorem Qq:(("step":Str)==("finish":Str))=false:=by decide +kernel
theorem tW{x:Str}{rest:List PyData}(a:PyData.strOk x=true):cS (aI 0) fK rJ (lH ["take","give","step","finish"]) [] [none,some (.dat (.tuple (.str x::rest)))]=some [.bool (decide (((rest.length+1:Nat):Int)=4)&&(x=="take")),.bool (decide (((rest.length+1:Nat):Int)=3)&&(x=="give")),.bool (decide (((rest.length+1:Nat):Int)=3)&&(x=="step")),.bool (decide (((rest.length+1:Nat):Int)=3)&&(x=="finish"))]:=by
 have sz:1000<sizeLine:=by decide
 have b:=tV (x:=x) (w:="take") (rest:=rest) (n:=4) a gX (by kernel_rfl);have f:=tV (x:=x) (w:="give") (rest:=rest) (n:=3) a gY (by kernel_rfl);have g:=tV (x:=x) (w:="step") (rest:=rest) (n:=3) a gZ (by kernel_rfl);have h:=tV (x:=x) (w:="finish") (rest:=rest) (n:=3) a kM (by kernel_rfl);have e:lH ["take","give","step","finish"]=[.str "take",.str "give",.str "step",.str "finish"]:=rfl;rw[e];simp only[cS,aI,fK,List.set_cons_zero,b,f,g,h,List.nil_append,List.cons_append,List.length_nil,List.length_cons];rw[if_pos (by omega),if_pos (by omega),if_pos (by omega),if_pos (by omega)]
theorem Ei{a b c:PyData}:fN [.dat (.tuple [.str "take",a,b,c])]=.rt (.dat .none) []:=by have g:=tW (x:="take") (rest:=[a,b,c]) gX;simp only[yf,Ql,Qm,Qn,List.length_cons,List.length_nil] at g;simp[fN,mS,g,lI,bools?]
theorem yl{a b:PyData}:fN [.dat (.tuple [.str "give",a,b])]=.rt (.dat .none) []:=by have g:=tW (x:="give") (rest:=[a,b]) gY;simp only[yg,yh,Qo,Qp,List.length_cons,List.length_nil] at g;simp[fN,mS,g,lI,bools?]
theorem ym{a b:PyData}:fN [.dat (.tuple [.str "step",a,b])]=.rt (.dat .none) []:=by have g:=tW (x:="step") (rest:=[a,b]) gZ;simp only[yi,yj,yk,Qq,List.length_cons,List.length_nil] at g;simp[fN,mS,g,lI,bools?]
theorem Qr(h:gj C [.own true (hB C S),.dat r,.dat m,.dat t]=.rt (.dat d) [hB C S']):dW C [.own true (hB C S),.dat (.tuple [.str "take",r,m,t])]=.rt (.dat d) [hB C S']:=by simp[dW,iZ,bz gX gX,yf,bu,bX,h,eR]
theorem Qs(h:gV C [.own true (hB C S),.dat r,.dat m]=.rt (.dat d) [hB C S']):dW C [.own true (hB C S),.dat (.tuple [.str "give",r,m])]=.rt (.dat d) [hB C S']:=by simp[dW,iZ,bz gY gX,yg,bz gY gY,yh,bu,bX,h]
theorem Ej{x:Str}(h:gV C [.own true (hB C S),.dat r,.dat m]=.ex x [hB C S]):dW C [.own true (hB C S),.dat (.tuple [.str "give",r,m])]=.ex x [hB C S]:=by simp[dW,iZ,bz gY gX,yg,bz gY gY,yh,bu,bX,h]
theorem Qt(h:gl C [.own true (hB C S),.dat r,.dat m]=.rt (.dat d) [hB C S']):dW C [.own true (hB C S),.dat (.tuple [.str "step",r,m])]=.rt (.dat d) [hB C S']:=by simp[dW,iZ,bz gZ gX,yi,bz gZ gY,yj,bz gZ gZ,yk,bu,bX,h]
theorem Ek{x:Str}(h:gl C [.own true (hB C S),.dat r,.dat m]=.ex x [hB C S]):dW C [.own true (hB C S),.dat (.tuple [.str "step",r,m])]=.ex x [hB C S]:=by simp[dW,iZ,bz gZ gX,yi,bz gZ gY,yj,bz gZ gZ,yk,bu,bX,h]
theorem tY(a:fN [.dat c]=.rt (.dat .none) [])(h:dW C [.own true (hB C S),.dat c]=.rt (.dat d) [hB C S']):eP C [.own true (hB C S),.dat c]=.rt (.dat d) [hB C S']:=by simp[eP,oY,a,ox,h]
theorem kN{x:Str}(a:fN [.dat c]=.rt (.dat .none) [])(h:dW C [.own true (hB C S),.dat c]=.ex x [hB C S])(b:x∈cx):eP C [.own true (hB C S),.dat c]=.rt (.dat (.str "refused")) [hB C S]:=by simp[eP,oY,a,ox,h,b]
end
def Ly(k:Nat)(d:PyData):Prop:=PyData.canLay0 d=true/\PyData.depth d<=k
theorem yn{k:Nat}:∀{l:List PyData},(∀x∈l,Ly k x)->PyData.canLayAll0 l=true/\PyData.depthAll l<=k
 | [],_=>⟨rfl,Nat.zero_le _⟩
 | d::l,h=>by have h1:=h d List.mem_cons_self;have h2:=yn fun x a=>h x (bN _ a);refine⟨by simp[PyData.canLayAll0,h1.1,h2.1],?_⟩;have:=h1.2;have:=h2.2;simp only[PyData.depthAll];omega
theorem yo{k:Nat}{l:List PyData}(h:∀x∈l,Ly k x):Ly (k+1) (.tuple l):=by have:=yn h;exact⟨by simpa[PyData.canLay0] using this.1,by have:=this.2;simp only[PyData.depth];omega⟩
theorem El{k:Nat}{l:List PyData}(h:∀x∈l,Ly k x):Ly (k+1) (.list l):=by have:=yn h;exact⟨by simpa[PyData.canLay0] using this.1,by have:=this.2;simp only[PyData.depth];omega⟩
theorem kO(i:Int)(k:Nat):Ly k (.int i):=⟨by simp[PyData.canLay0],by simp[PyData.depth]⟩
theorem Em(k:Nat):Ly k .none:=⟨by simp[PyData.canLay0],by simp[PyData.depth]⟩
theorem Qu(b:Bool)(k:Nat):Ly k (.bool b):=⟨by simp[PyData.canLay0],by simp[PyData.depth]⟩
theorem tZ{s:Str}(h:PyData.strOk s=true)(k:Nat):Ly k (.str s):=⟨by simp[PyData.canLay0,h],by simp[PyData.depth]⟩
theorem yp{k:Nat}{d:PyData}(h:Ly k d)(e:k<=64):SeqAt.shaped d=true:=by unfold SeqAt.shaped;rw[h.1,Bool.true_and];exact decide_eq_true (Nat.le_trans h.2 e)
theorem pI(w:Wd):PyData.strOk (iB w)=true:=by cases w<;>decide +kernel
theorem Qv(r:jf):Ly 1 (gK r):=yo (k:=0) fun x a=>by
 simp only[List.mem_cons,List.not_mem_nil,or_false] at a;rcases a with rfl | rfl | rfl | rfl | rfl
 ·exact kO _ _
 ·exact kO _ _
 ·exact tZ (pI _) _
 ·exact kO _ _
 ·exact kO _ _
theorem Qw(l:List jf):Ly 2 (.list (l.map gK)):=El fun x a=>by obtain⟨r,_,rfl⟩:=List.mem_map.mp a;exact Qv r
theorem Qx{w:Str}{a b:Int}(h:PyData.strOk w=true):Ly 1 (.tuple [.str w,.int a,.int b]):=yo (k:=0) fun x c=>by
 simp only[List.mem_cons,List.not_mem_nil,or_false] at c;rcases c with rfl | rfl | rfl
 ·exact tZ h _
 ·exact kO _ _
 ·exact kO _ _
theorem yq{w:Str}{x:PyData}(h:PyData.strOk w=true)(b:Ly 0 x):Ly 1 (.tuple [.str w,x]):=yo (k:=0) fun y a=>by
 simp only[List.mem_cons,List.not_mem_nil,or_false] at a;rcases a with rfl | rfl
 ·exact tZ h _
 ·exact b
theorem ua:PyData.strOk "idle" = true:=by decide +kernel
theorem Qy:PyData.strOk "busy" = true:=by decide +kernel
theorem pJ:PyData.strOk "refused" = true:=by decide +kernel
section
variable{C:Addr}{S S':Hl}{d q r m t c:PyData}
theorem yr:(("finish":Str)==("take":Str))=false:=by decide +kernel
theorem yt:(("finish":Str)==("give":Str))=false:=by decide +kernel
theorem yu:(("finish":Str)==("step":Str))=false:=by decide +kernel
theorem Qz:(("finish":Str)==("finish":Str))=true:=by decide +kernel
theorem ub{a b:PyData}:fN [.dat (.tuple [.str "finish",a,b])]=.rt (.dat .none) []:=by have g:=tW (x:="finish") (rest:=[a,b]) kM;simp only[yr,yt,yu,Qz,List.length_cons,List.length_nil] at g;simp[fN,mS,g,lI,bools?]
theorem QA(h:gk C [.own true (hB C S),.dat r,.dat m]=.rt (.dat d) [hB C S']):dW C [.own true (hB C S),.dat (.tuple [.str "finish",r,m])]=.rt (.dat d) [hB C S']:=by simp[dW,iZ,bz kM gX,yr,bz kM gY,yt,bz kM gZ,yu,bu,bX,h]
theorem yv{x:Str}(h:gk C [.own true (hB C S),.dat r,.dat m]=.ex x [hB C S]):dW C [.own true (hB C S),.dat (.tuple [.str "finish",r,m])]=.ex x [hB C S]:=by simp[dW,iZ,bz kM gX,yr,bz kM gY,yt,bz kM gZ,yu,bu,bX,h]
theorem QB{x:Str}(h:gj C [.own true (hB C S),.dat r,.dat m,.dat t]=.ex x [hB C S]):dW C [.own true (hB C S),.dat (.tuple [.str "take",r,m,t])]=.ex x [hB C S]:=by simp[dW,iZ,bz gX gX,yf,bu,bX,h,eR]
end
inductive dN:PyData->PyData->Prop where
 | none:dN .none .none
 | bool (b:Bool):dN (.bool b) (.bool b)
 | word {w:Str}{x:PyData}{xs:List PyData}(h:PyData.strOk w=true) (n:(w==("refused":Str))=false) (l:Ly 1 (.tuple (.str w::x::xs))):dN (.tuple (.str w::x::xs)) (.tuple (.str w::x::xs))
 | ref (k:Int):dN (.tuple [.str "refused",.int k]) (.str "refused")
theorem dN.ly{a b:PyData}(h:dN a b):Ly 1 b:=by
 cases h with
 | none=>exact Em _
 | bool b=>exact Qu _ _
 | word h n l=>exact l
 | ref k=>exact tZ pJ _
theorem pK{w:Str}{a b:Int}(h:PyData.strOk w=true)(n:(w==("refused":Str))=false):dN (.tuple [.str w,.int a,.int b]) (.tuple [.str w,.int a,.int b]):=.word h n (Qx h)
theorem uc(w:Wd):(iB w==("refused":Str))=false:=by cases w<;>decide +kernel
theorem QD:(("busy":Str)==("refused":Str))=false:=by decide +kernel
theorem En:(("idle":Str)==("refused":Str))=false:=by decide +kernel
theorem QE{S:Hl}{r m a:Int}{n:Nat}(p:dA S m n)(h:m<=a):dN (eS S r a).2 (eS S r a).2:=by
 obtain⟨_,_,_,b⟩:=Eh (r:=r) p h;rcases b with⟨d,c,_,e | e⟩ | ⟨d,c,e | e⟩ | e | ⟨v,e⟩<;>rw[e]
 ·exact pK Qy QD
 ·exact pK (pI .begun) (uc .begun)
 ·exact pK (pI .left) (uc .left)
 ·exact pK (pI .unsure) (uc .unsure)
 ·exact .word ua En (yq ua (Em _))
 ·exact .word ua En (yq ua (kO _ _))
def Bo(C:Addr)(S:Hl)(c:PyData)(a:Hl)(d:PyData):Prop:=∃b,dX C [.own true (hB C S),.dat c]=.rt (.dat b) [hB C a]/\eP C [.own true (hB C S),.dat c]=.rt (.dat d) [hB C a]/\dN b d
section
variable{C:Addr}{S:Hl}{m:Int}{n:Nat}
theorem QF{c:Cl}(p:dA S m n)(q:n<900)(b:jN c m)(s:0<=m/\m<=9000):∃i d,Bo C S (fP c) i d/\dA i c.mo (n+1):=by
 have l1:=p.rl;have l2:=p.wl;have l:0<=c.mo/\c.mo<=9999:=by have:=b.m;omega
 have f:=p.call (C:=C) b.r b.m.1 l;have hd:∀r a,c.ru=r->c.mo=a->(dU C [.own true (hB C S),.dat (.int r),.dat (.int a)]=.rt (.dat .none) [hB C S])\/(dU C [.own true (hB C S),.dat (.int r),.dat (.int a)]=.ex "NotHolder" [hB C S]):=fun r a g o=>by
  rw[g,o] at f;cases hb:(gW S a&&decide (S.holder=some r)) with
  | true=>rw[Bool.and_eq_true] at hb;exact .inl (Ph f hb.1 (of_decide_eq_true hb.2))
  | false=>exact .inr (Pg f hb)
 have same:dA S c.mo (n+1):=p.mono b.m.1 (by omega);cases c with
 | take r a t=>
  have v:=b.t r a t rfl;have e:=Pk (t:=t) f (by simp[cH];omega);refine⟨_,_,⟨_,PY e,tY Ei (Qr e),.bool _⟩,?_⟩;unfold tR;split
  ·exact(p.hold b.m.1 (fun h e=>by cases e;exact b.r) (by show a+t<=a+99;omega)).mono (Int.le_refl _) (by omega)
  ·split
   ·exact(p.hold (k:=S.holds) b.m.1 (fun h e=>by cases e;exact b.r) (by show a+t<=a+99;omega)).mono (Int.le_refl _) (by omega)
   ·exact(p.last b.m.1).mono (Int.le_refl _) (by omega)
 | give r a=>
  rcases hd r a rfl rfl with h | h
  ·exact⟨_,_,⟨_,Qa (Dq h),tY yl (Qs (Dq h)),.none⟩,(p.hold (k:=S.holds) (u:=S.til) b.m.1 (fun h e=>by cases e) (by have:=p.ti;have:=b.m.1;show S.til<=a+99;simp only[Cl.mo] at this;omega)).mono (Int.le_refl _) (by omega)⟩
  ·exact⟨_,_,⟨_,Eb (xR h) nr xM,kN yl (Ej (xR h)) nr,.ref _⟩,same⟩
 | step r a=>
  rcases hd r a rfl rfl with h | h
  ·have e:=PV p.ok (by omega) (by omega) h;exact⟨_,_,⟨_,Qb e,tY ym (Qt e),QE p b.m.1⟩,(Eh p b.m.1).1⟩
  ·exact⟨_,_,⟨_,Ec (xS h) nr xM,kN ym (Ek (xS h)) nr,.ref _⟩,same⟩
 | finish r a=>
  rcases hd r a rfl rfl with h | h
  ·cases hb:lR S with
   | false=>exact⟨_,_,⟨_,ye (DK h hb) Df OZ,kN ub (yv (DK h hb)) Df,.ref _⟩,same⟩
   | true=>
    obtain⟨d,c,e⟩:∃d c,S.begun=some (d,c,S.holds):=by
     unfold lR at hb;cases j:S.begun with
     | none=>rw[j] at hb;cases hb
     | some x=>obtain⟨d,c,k⟩:=x;rw[j] at hb;exact⟨d,c,by rw[of_decide_eq_true hb]⟩
    have g:=PX p.ok (by omega) (by omega) h e;exact⟨_,_,⟨_,Qc g,tY ub (QA g),pK (pI .done) (uc .done)⟩,(p.last b.m.1).add (r:=⟨a,r,.done,d,c⟩) (p.ok.bg d c _ e)⟩
  ·exact⟨_,_,⟨_,ye (xT h) nr xM,kN ub (yv (xT h)) nr,.ref _⟩,same⟩
noncomputable def nE:List PyData:=[.tuple [.str "take",.int 9,.int 0,.int 1],.tuple [.str "step",.int 0,.none],.tuple [.str "give",.int 1,.int (-1)],.tuple [.str "finish",.none,.int 5]]
theorem QG{c:PyData}(h:c∈nE):Bo C S c S (.str "refused"):=by
 unfold nE at h;simp only[List.mem_cons,List.not_mem_nil,or_false] at h;rcases h with rfl | rfl | rfl | rfl
 ·have e:gj C [.own true (hB C S),.dat (.int 9),.dat (.int 0),.dat (.int 1)]=.ex "NoRunner" [hB C S]:=Pj (Do rfl (by decide));exact⟨_,PZ e tK Dk,kN Ei (QB e) tK,.ref _⟩
 ·have e:gl C [.own true (hB C S),.dat (.int 0),.dat .none]=.ex "NoMoment" [hB C S]:=xS (xQ (Dp rfl (by decide) rfl (by decide)));exact⟨_,Ec e tJ Dh,kN ym (Ek e) tJ,.ref _⟩
 ·have e:gV C [.own true (hB C S),.dat (.int 1),.dat (.int (-1))]=.ex "NoMoment" [hB C S]:=xR (xQ (Dp rfl (by decide) rfl (by decide)));exact⟨_,Eb e tJ Dh,kN yl (Ej e) tJ,.ref _⟩
 ·have e:gk C [.own true (hB C S),.dat .none,.dat (.int 5)]=.ex "NoRunner" [hB C S]:=xT (xQ (Do rfl (by decide)));exact⟨_,ye e tK Dk,kN ub (yv e) tK,.ref _⟩
end
noncomputable def hF(C:Addr):Hl->List PyData->List PyData->Hl->Prop
 | S,[],[],a=>S=a
 | S,c::e,d::ds,a=>∃b,eP C [.own true (hB C S),.dat c]=.rt (.dat d) [hB C b]/\hF C b e ds a
 | _,_,_,_=>False
theorem hF.snoc{C:Addr}{c d:PyData}{b:Hl}:∀{f g:List PyData}{S a:Hl},hF C S f g a->eP C [.own true (hB C a),.dat c]=.rt (.dat d) [hB C b]->hF C S (f++[c]) (g++[d]) b
 | [],[],S,a,h,e=>by have h:S=a:=h;subst h;exact⟨b,e,rfl⟩
 | x::f,y::g,S,a,⟨i,j,h⟩,e=>⟨i,j,h.snoc e⟩
 | [],_::_,_,_,h,_=>h.elim
 | _::_,[],_,_,h,_=>h.elim
theorem hF.len{C:Addr}:∀{a b:List PyData}{S c:Hl},hF C S a b c->b.length=a.length
 | [],[],_,_,_=>rfl
 | x::a,y::b,S,c,⟨d,e,h⟩=>by simp[h.len]
 | [],_::_,_,_,h=>h.elim
 | _::_,[],_,_,h=>h.elim
theorem yw{C:Addr}:∀{b f:List PyData}{S a:Hl}{ys:List PyData}{x:Option ak},hF C S b f a->ys.length+b.length<1000->∃y,em (aI 0) (ku C) b ys [x,some (.own true (hB C S))]=.ok (ys++f) [y,some (.own true (hB C a))]/\∀r,em (aI 0) (ku C) (b++r) ys [x,some (.own true (hB C S))]=em (aI 0) (ku C) r (ys++f) [y,some (.own true (hB C a))]
 | [],[],S,a,ys,x,h,_=>by have h:S=a:=h;subst h;exact⟨x,by simp[em],by simp⟩
 | c::b,d::f,S,a,ys,x,⟨g,i,h⟩,j=>by
  have sz:1000<sizeLine:=by decide
  simp only[List.length_cons] at j;obtain⟨y,k,l⟩:=yw (ys:=ys++[d]) (x:=some (.dat c)) h (by simp;omega);have e:ku C [some (.dat c),some (.own true (hB C S))]=.ok d [some (.dat c),some (.own true (hB C g))]:=by simp[ku,i]
  refine⟨y,?_,fun r=>?_⟩
  ·rw[em];simp only[aI,List.set_cons_zero,e,eg.bind];rw[if_pos (by omega),k];simp
  ·rw[List.cons_append,em];simp only[aI,List.set_cons_zero,e,eg.bind];rw[if_pos (by omega),l];simp
 | [],_::_,_,_,_,_,h,_=>h.elim
 | _::_,[],_,_,_,_,h,_=>h.elim
theorem Eo{C:Addr}(g:∀(S i:Hl) (c d:PyData),eP C [.own true (hB C S),.dat c]=.rt (.dat d) [hB C i]->lN C [some (.dat c),some (.own true (hB C S))]=.ok d [some (.dat c),some (.own true (hB C i))]):∀{b f:List PyData}{S a:Hl}{ys:List PyData}{x:Option ak},hF C S b f a->ys.length+b.length<1000->∃y,em (aI 0) (lN C) b ys [x,some (.own true (hB C S))]=.ok (ys++f) [y,some (.own true (hB C a))]
 | [],[],S,a,ys,x,h,_=>by have h:S=a:=h;subst h;exact⟨x,by simp[em]⟩
 | c::b,d::f,S,a,ys,x,⟨m,j,h⟩,k=>by
  have sz:1000<sizeLine:=by decide
  simp only[List.length_cons] at k;obtain⟨y,l⟩:=Eo g (ys:=ys++[d]) (x:=some (.dat c)) h (by simp;omega);have e:=g _ _ _ _ j;refine⟨y,?_⟩;rw[em];simp only[aI,List.set_cons_zero,e,eg.bind];rw[if_pos (by omega),l];simp
 | [],_::_,_,_,_,_,h,_=>h.elim
 | _::_,[],_,_,_,_,h,_=>h.elim
section
variable{C:Addr}{S S':Hl}{a b c d q:PyData}{x:Str}
theorem lT(h:eP C [.own true (hB C S),.dat c]=.rt (.dat d) [hB C S']):gG C [.dat (.int 1),.own true (hB C S),.dat c,.dat .none]=.rt (.dat d) [hB C S']:=by simp[gG,oZ,fL,gH,h]
theorem QH(h:eP C [.own true (hB C S),.dat c]=.ex x [hB C S])(e:x∈cx)(f:fq [.exc x]=.rt (.dat q) []):gG C [.dat (.int 1),.own true (hB C S),.dat c,.dat .none]=.rt (.dat q) [hB C S]:=by simp[gG,oZ,fL,gH,h,e,f]
theorem ud(h:gm C [.dat a,.dat b,.dat c]=.ex x [])(e:x∈cx)(f:fq [.exc x]=.rt (.dat q) []):gG C [.dat (.int 0),.dat a,.dat b,.dat c]=.rt (.dat q) []:=by simp[gG,oZ,fL,gH,h,e,f]
theorem Ep(h:fN [.dat c]=.ex "NoCall" []):eP C [.own true (hB C S),.dat c]=.ex "NoCall" [hB C S]:=by simp[eP,oY,h]
theorem QI(S S':Hl)(c d:PyData)(h:eP C [.own true (hB C S),.dat c]=.rt (.dat d) [hB C S']):lN C [some (.dat c),some (.own true (hB C S))]=.ok d [some (.dat c),some (.own true (hB C S'))]:=by simp[lN,lT h]
end
noncomputable def nF:List PyData:=[.none,.tuple [],.tuple [.str "take",.int 1,.int 2],.tuple [.str "step",.int 1],.tuple [.str "go",.int 1,.int 2],.list [.str "step",.int 1,.int 2],.str "step"]
theorem QJ{c:PyData}(h:c∈nF):fN [.dat c]=.ex "NoCall" []:=by unfold nF at h;simp only[List.mem_cons,List.not_mem_nil,or_false] at h;rcases h with rfl | rfl | rfl | rfl | rfl | rfl | rfl<;>kernel_rfl
section
variable{C:Addr}{a:Int}{ss:Sh}{ds:List cf}{cs ws:List PyData}{S:Hl}
theorem QK(b:ix [.dat (cn a ss)]=.rt (.dat .none) [])(c:jK [.dat (du ds)]=.rt (.dat .none) [])(d:ds.length<=6)(h:hF C (dZ a ss ds) cs ws S)(f:cs.length<250) :
  gm C [.dat (cn a ss),.dat (du ds),.dat (.list cs)]=.rt (.own false (.pr C (aj S) (.list ws))) []:=by
 have sz:1000<sizeLine:=by decide
 have i:=tT (C:=C) b c d;obtain⟨y,e,_⟩:=yw (ys:=[]) (x:=none) h (by simp;omega);have lw:=h.len;rw[List.nil_append] at e;generalize cn a ss=g at *;generalize du ds=dd at *;simp[gm,lM,iu,ir,i,oF,oE,bR,ko,gU,jH,e,show ws.length<=sizeLine by omega]
theorem QL{c:PyData}(d:ix [.dat (cn a ss)]=.rt (.dat .none) [])(f:jK [.dat (du ds)]=.rt (.dat .none) [])(g:ds.length<=6)(h:hF C (dZ a ss ds) cs ws S)(l:cs.length<250)(k:fN [.dat c]=.ex "NoCall" []) :
  gm C [.dat (cn a ss),.dat (du ds),.dat (.list (cs++[c]))]=.ex "NoCall" []:=by
 have sz:1000<sizeLine:=by decide
 have i:=tT (C:=C) d f g;obtain⟨y,_,e⟩:=yw (ys:=[]) (x:=none) h (by simp;omega);have b:=e [c];have j:ku C [some (.dat c),some (.own true (hB C S))]=.ex "NoCall" [some (.dat c),some (.own true (hB C S))]:=by simp[ku,Ep k]
 rw[em] at b;simp only[aI,List.set_cons_zero,j,eg.bind] at b;generalize cn a ss=m at *;generalize du ds=dd at *;generalize cs++[c]=n at *;simp[gm,lM,iu,ir,i,oF,oE,bR,ko,gU,jH,b]
theorem QM(b:ix [.dat (cn a ss)]=.rt (.dat .none) [])(c:jK [.dat (du ds)]=.rt (.dat .none) [])(d:ds.length<=6):gm C [.dat (cn a ss),.dat (du ds),.dat (.tuple cs)]=.ex "NoCall" []:=by have i:=tT (C:=C) b c d;generalize cn a ss=e at *;generalize du ds=dd at *;simp[gm,lM,iu,ir,i]
theorem QN{c:PyData}(b:ix [.dat (cn a ss)]=.rt (.dat .none) []):gm C [.dat (cn a ss),.dat .none,.dat c]=.ex "NoDeeds" []:=by have i:=Pp (C:=C) (d:=.none) b (by kernel_rfl);generalize cn a ss=e at *;simp[gm,lM,iu,ir,i]
theorem QO{b c:PyData}:gm C [.dat .none,.dat b,.dat c]=.ex "NoZone" []:=by have i:=Po (C:=C) (z:=.none) (d:=b) (by kernel_rfl);simp[gm,lM,iu,ir,i]
end
noncomputable abbrev ev(C:Addr)(k:List Int)(t:List PyData)(Z:PyData)(f:List PyData)(S:Hl)(g h:List PyData)(a:Int)(i j b c d e:Option ak):al:=[some (.scr k),some (.own false (.l t)),some (.dat Z),some (.dat (.tuple f)),some (.own false (hB C S)),some (.own false (.l g)),some (.own false (.l h)),some (.dat (.int a)),i,j,b,c,d,e]
theorem QP{C:Addr}{q:List Int}{t:List PyData}{Z:PyData}{g:List PyData}{S:Hl}{i j:List PyData}{a:Int}{m o c e f:Option ak}{p d:PyData}(h:dN p d) :
  bx (lh (aV (gB "tuple" (xV 10))) (aV (ag (aJ false) (ag aO (xV 10) (xC (.int 0))) (xC (.str "refused"))))) (bF (xC (.str "refused")) (aI 10)) bD (ev C q t Z g S i j a m o (some (.dat p)) c e f)=.nx (ev C q t Z g S i j a m o (some (.dat d)) c e f):=by
 cases h with
 | none=>simp
 | bool b=>simp
 | word h n l=>simp[bz h pJ,n]
 | ref k=>simp[bz pJ pJ]
section
variable{C:Addr}{ns:List Int}{Z:PyData}{DD:List PyData}{x11 x12 x13:Option ak}
theorem turn{t cs ws:List PyData}{S:Hl}{b:Int}{x8 x9 x10:Option ak}{n:Nat}(j:ns.length<=63)(I:t.length<=780)(p:dA S b n)(J:n<890)(w:0<=b/\b<=9000)(L:cs.length<100)(Q:ws.length<100):∃t' g a v d x f,nj C (ev C ns t Z DD S cs ws b x8 x9 x10 x11 x12 x13)=.nx (ev C ns t' Z DD g (cs++[v]) (ws++[d]) a x8 x f x11 x12 x13)/\eP C [.own true (hB C S),.dat v]=.rt (.dat d) [hB C g]/\Ly 1 d/\dA g a (n+1)/\t'.length<=t.length+9/\b<=a/\a<=b+29:=by
 have sz:1000<sizeLine:=by decide
 obtain⟨c,h,y,ok,l1⟩:=Qj (ns:=ns) (t:=t) (now:=b) (holder:=S.holder) j (by omega) p.ho;obtain⟨k,M,N,o⟩:=dM (ns:=ns) (t:=h) (many:=9) j (by omega) (by omega);have q:mO C [.own true (hB C S)]=.rt (.dat (tS S)) [hB C S]:=Pl;have r:aO (tS S) (.int 0)=some (bZ S.holder):=rfl;generalize tS S=H at q r;have s:∀l:SM,aA (bF (aL (aG mY (aR 0 (aR 1 (af (xV 7) (af (ag aO (aL (dq C 4 "held" (mO C))) (xC (.int 0))) aB)))))) (aI 9)) l (ev C ns t Z DD S cs ws b x8 x9 x10 x11 x12 x13)=l (ev C ns h Z DD S cs ws b x8 (some (.dat (fP c))) x10 x11 x12 x13):=fun l=>by generalize fP c=D at *;simp[-aO,dq,bR,q,r,y]
 have rest:∀(t':List PyData) (v:PyData) (a:Int) (g:Hl) (d:PyData),Bo C S v g d->∃f,aA (bF (aL (aG (dX C) (aR 4 (af (xV 9) aB)))) (aI 10))
  (aA (bx (lh (aV (gB "tuple" (xV 10))) (aV (ag (aJ false) (ag aO (xV 10) (xC (.int 0))) (xC (.str "refused"))))) (bF (xC (.str "refused")) (aI 10)) bD)
  (aA (iO 5 (xV 9))
  (iO 6 (xV 10)))) (ev C ns t' Z DD S cs ws a x8 (some (.dat v)) x10 x11 x12 x13)=.nx (ev C ns t' Z DD g (cs++[v]) (ws++[d]) a x8 (some (.dat v)) f x11 x12 x13):=fun t' v a g d ⟨z,A,O,B⟩=>by
  refine⟨some (.dat d),?_⟩;rw[iz (U':=ev C ns t' Z DD g cs ws a x8 (some (.dat v)) (some (.dat z)) x11 x12 x13) (by simp[A]),iz (QP B)];simp[show cs.length<sizeLine by omega,show ws.length<sizeLine by omega]
 by_cases u:k=0
 ·subst u;obtain⟨v,E,h2⟩:=jc (ns:=ns) (t:=h++[.int 0]) (ds:=nE) j (by simp;omega) (by simp[nE]) (by simp[nE]);have i:=QG (C:=C) (S:=S) E;obtain⟨f,e⟩:=rest (h++[.int 0]++[.int 0]) v b S _ i;refine⟨h++[.int 0]++[.int 0],S,b,v,.str "refused",some (.dat v),f,?_,i.choose_spec.2.1,i.choose_spec.2.2.ly,p.mono (Int.le_refl _) (by omega),by simp;omega,Int.le_refl _,by omega⟩;unfold nj;rw[s];refine(iz (U':=ev C ns (h++[.int 0]++[.int 0]) Z DD S cs ws b x8 (some (.dat v)) x10 x11 x12 x13) ?_).trans e;unfold nE at h2;simp[o,gH,h2,show(4:Nat)<=sizeLine by omega,show(3:Nat)<=sizeLine by omega]
 ·obtain⟨g,d,i,G⟩:=QF (C:=C) p (by omega) ok w;obtain⟨f,e⟩:=rest (h++[.int 0]) (fP c) c.mo g d i;refine⟨h++[.int 0],g,c.mo,fP c,d,some (.dat (fP c)),f,?_,i.choose_spec.2.1,i.choose_spec.2.2.ly,G,by simp;omega,ok.m.1,ok.m.2⟩;unfold nj;rw[s];refine(iz (U':=ev C ns (h++[.int 0]) Z DD S cs ws c.mo x8 (some (.dat (fP c))) x10 x11 x12 x13) ?_).trans e;have mo:=Qi c;generalize fP c=D at *;simp[-aO,o,gH,u,mo]
theorem eU(u:ns.length<=63){S0:Hl}:∀(k:Nat) (i:Int) {t cs ws:List PyData}{S:Hl}{now:Int}{x8 x9 x10:Option ak}{n:Nat},t.length+9 * k<=780->dA S now n->n+k<890->0<=now->now+29 * k<=9000->cs.length+k<100->ws.length+k<100->hF C S0 cs ws S->(∀d∈ws,Ly 1 d)->
  ∃t' w f a b z l c,dm (aI 8) (nj C) (L3.intsFrom i k) (ev C ns t Z DD S cs ws now x8 x9 x10 x11 x12 x13)=.nx (ev C ns t' Z DD w a b f z l c x11 x12 x13)/\t'.length<=t.length+9 * k/\hF C S0 a b w/\(∀d∈b,Ly 1 d)/\a.length=cs.length+k
 | 0,i,t,cs,ws,S,now,x8,x9,x10,n,_,p,_,y,_,_,_,ch,ly=>⟨t,S,now,cs,ws,x8,x9,x10,by simp[L3.intsFrom,dm],by omega,ch,ly,rfl⟩
 | k+1,i,t,cs,ws,S,now,x8,x9,x10,n,M,p,N,y,O,Q,lw,ch,ly=>by
  obtain⟨A,B,g,v,d,l,c,e,fd,ld,D,l1,R,T⟩:=turn (C:=C) (Z:=Z) (DD:=DD) (x11:=x11) (x12:=x12) (x13:=x13) (t:=t) (cs:=cs) (ws:=ws) (x8:=some (.dat (.int i))) (x9:=x9) (x10:=x10) u (by omega) p (by omega) ⟨y,by omega⟩ (by omega) (by omega);obtain⟨E,G,h,m,o,H,I,q,J,l2,r,s,L⟩:=eU u (S0:=S0) k (i+1) (t:=A) (cs:=cs++[v]) (ws:=ws++[d]) (S:=B) (now:=g) (x8:=some (.dat (.int i))) (x9:=l) (x10:=c) (by omega) D (by omega) (by omega) (by omega) (by simp;omega) (by simp;omega) (ch.snoc fd) (fun x j=>by
   rcases List.mem_append.mp j with j | j
   ·exact ly x j
   ·rw[List.mem_singleton.mp j];exact ld)
  refine⟨E,G,h,m,o,H,I,q,?_,by omega,r,s,by simp at L;omega⟩;rw[xL,dm,<-J];simp[e]
end
theorem kP{g:PyData->PyData->Option PyData}{a b:XM PyData}{U U1 U2:al}{x y w:PyData}(c:a U=.ok x U1)(d:b U1=.ok y U2)(e:g x y=some w):ag g a b U=.ok w U2:=by simp[c,d,e]
theorem Er{A:XM PyData}{U a:al}(h:A U=.ok (.bool false) a){s:SM}:bx (aV A) s bD U=.nx a:=by simp[h]
theorem pL{A:XM PyData}{U a:al}(h:A U=.ok (.bool false) a):aV A U=.ok false a:=by simp[h]
theorem QQ{A:XM PyData}{U a:al}{d:PyData}(h:A U=.ok d a):bt A U=.rt (.dat d) a:=by simp[h]
theorem yx{A B:XM Bool}{U a b:al}(c:A U=.ok false a)(d:B a=.ok false b):ig A B U=.ok false b:=by simp[c,d]
theorem Es{A:XM Bool}{U a:al}(b:A U=.ok false a){s:SM}:bx A s bD U=.nx a:=by simp[b]
noncomputable abbrev ew(C:Addr)(k:List Int)(t:List PyData)(Z:PyData)(f:List PyData)(S:Hl)(g:List PyData)(h:Option ak)(a:Int)(i j b c d e:Option ak):al:=[some (.scr k),some (.own false (.l t)),some (.dat Z),some (.dat (.tuple f)),some (.own false (hB C S)),some (.dat (.list g)),h,some (.dat (.int a)),i,j,b,c,d,e]
section
variable{x6:Option ak}{C:Addr}{ns:List Int}{t:List PyData}{Z:PyData}{DD:List PyData}{S S0 S1:Hl}{cs ws:List PyData}{now:Int}{x8 x9 x10 x11 x12 x13:Option ak}{d q:PyData}
theorem lU{y:Option ak}(e:em (aI 0) (lN C) cs [] [none,some (.own true (hB C S0))]=.ok ws [y,some (.own true (hB C S1))])(a:ws.length<=sizeLine) :
  ko 1 [12] 0 12 (oo (xV 5)) (aI 0) (lN C) (ew C ns t Z DD S cs x6 now x8 x9 x10 x11 (some (.own false (hB C S0))) x13)=.ok (.list ws) (ew C ns t Z DD S cs x6 now x8 x9 x10 x11 (some (.own false (hB C S1))) x13):=by
 simp[ko,gU,jH,e,a]
theorem yy(h:jI C [.own true (hB C S)]=.rt (.dat d) [hB C S]):aL (dq C 4 "log" (jI C)) (ew C ns t Z DD S cs x6 now x8 x9 x10 x11 x12 x13)=.ok d (ew C ns t Z DD S cs x6 now x8 x9 x10 x11 x12 x13):=by simp[dq,bR,h]
theorem pM(h:jI C [.own true (hB C S1)]=.rt (.dat d) [hB C S1]):aL (dq C 11 "log" (jI C)) (ew C ns t Z DD S cs x6 now x8 x9 x10 (some (.own false (hB C S1))) x12 x13)=.ok d (ew C ns t Z DD S cs x6 now x8 x9 x10 (some (.own false (hB C S1))) x12 x13):=by simp[dq,bR,h]
theorem pN{f:FM}(h:f [.dat (.int 1),.own true (hB C S1),.dat d,.dat .none]=.rt (.dat q) [hB C S1]):aL (aG f (af (xC (.int 1)) (aR 12 (af (xV 13) (af (xC .none) aB))))) (ew C ns t Z DD S cs x6 now x8 x9 x10 x11 (some (.own false (hB C S1))) (some (.dat d)))=.ok q (ew C ns t Z DD S cs x6 now x8 x9 x10 x11 (some (.own false (hB C S1))) (some (.dat d))):=by simp[h]
theorem pO{f:FM}(h:f [.dat (.int 0),.dat Z,.dat (.tuple DD),.dat (.list (cs++[d]))]=.rt (.dat q) [])(a:cs.length+1<=sizeLine):aL (aG f (af (xC (.int 0)) (af (xV 2) (af (xV 3) (af (ag jz (xV 5) (dJ (ai (xV 13) aN))) aB))))) (ew C ns t Z DD S cs x6 now x8 x9 x10 x11 x12 (some (.dat d)))=.ok q (ew C ns t Z DD S cs x6 now x8 x9 x10 x11 x12 (some (.dat d))):=by simp[h,jz,a,show(1:Nat)<=sizeLine by decide]
theorem pP{f:FM}(h:f [.dat (.int 0),.dat Z,.dat (.tuple DD),.dat (.tuple cs)]=.rt (.dat q) [])(a:cs.length<=sizeLine):aL (aG f (af (xC (.int 0)) (af (xV 2) (af (xV 3) (af (eh li (ai (xV 5) aN)) aB))))) (ew C ns t Z DD S cs x6 now x8 x9 x10 x11 x12 x13)=.ok q (ew C ns t Z DD S cs x6 now x8 x9 x10 x11 x12 x13):=by simp[h,li,a]
theorem lV{f:FM}(h:f [.dat (.int 0),.dat Z,.dat .none,.dat .none]=.rt (.dat q) []):aL (aG f (af (xC (.int 0)) (af (xV 2) (af (xC .none) (af (xC .none) aB))))) (ew C ns t Z DD S cs x6 now x8 x9 x10 x11 x12 x13)=.ok q (ew C ns t Z DD S cs x6 now x8 x9 x10 x11 x12 x13):=by simp[h]
theorem pQ{f:FM}(h:f [.dat (.int 0),.dat .none,.dat .none,.dat .none]=.rt (.dat q) []):aL (aG f (af (xC (.int 0)) (af (xC .none) (af (xC .none) (af (xC .none) aB))))) (ew C ns t Z DD S cs x6 now x8 x9 x10 x11 x12 x13)=.ok q (ew C ns t Z DD S cs x6 now x8 x9 x10 x11 x12 x13):=by simp[h]
theorem pR(k:Int){U:al}:bW (ai (xC (.str "refused")) (ai (xC (.int k)) aN)) U=.ok (.tuple [.str "refused",.int k]) U:=by simp[show(2:Nat)<=sizeLine by decide]
end
theorem pS(k:Int):SeqAt.shaped (.tuple [.str "refused",.int k])=true:=yp (yq pJ (kO _ _)) (by omega)
theorem QR{C:Addr}{i:List Int}(w:i.length<=63):Cp C [.scr i]=.rt (.dat (.bool true)) []:=by
 have sz:1000<sizeLine:=by decide
 obtain⟨a,ss,T,U,X,Y,z3,z4,l1⟩:=OJ (ns:=i) (t:=[]) w (by simp);have L:oH a ss:=⟨X,Y,z3,fun p hp=>by have:=z4 p hp;omega⟩
 simp only[List.length_nil] at l1;obtain⟨s,G,hd,dl,l2,h2⟩:=Qh (ns:=i) (t:=T) w (by omega);obtain⟨k,k0,k1,h3⟩:=dM (ns:=i) (t:=G) (many:=31) w (by omega) (by omega);have z:=Ox L;have E:=Qf (ds:=s) dl hd;have u:=tT (C:=C) z E dl;obtain⟨j,S,h,m,f,q,r,H,e4,l4,ch,lw,lc⟩:=eU (C:=C) (Z:=cn a ss) (DD:=s.map cU) (x11:=none) (x12:=none) (x13:=none) w (S0:=dZ a ss s) k.toNat 0 (t:=G++[.int 0]) (cs:=[]) (ws:=[]) (S:=dZ a ss s) (now:=0) (x8:=none) (x9:=none) (x10:=none) (by simp;omega) (Qk L dl fun d M=>⟨(hd d M).1,(hd d M).2⟩) (by omega) (by omega) (by omega) (by simp;omega) (by simp;omega) rfl (by simp);simp only[List.length_append,List.length_cons,List.length_nil] at l4 lc;have ww:=ch.len;have N:=QK z E dl ch (by omega);obtain⟨y,O⟩:=Eo (C:=C) QI (ys:=[]) (x:=none) ch (by simp;omega);rw[List.nil_append] at O;obtain⟨v,hv,Q⟩:=jc (ns:=i) (t:=j) (ds:=nF) w (by omega) (by simp[nF]) (by simp[nF]);have bad:=QJ hv;have I:=QH (C:=C) (S:=S) (Ep bad) xI xN;have A:=ud (QL z E dl ch (by omega) bad) xI xN;have B:=ud (QM (C:=C) (cs:=m) z E dl) xI xN;have D:=ud (QN (C:=C) (c:=.none) z) OL OO;have J:=ud (QO (C:=C) (b:=.none) (c:=.none)) OK ON;have sw:SeqAt.shaped (.list f)=true:=yp (El lw) (by omega);have sl:SeqAt.shaped (.list (S.rows.map gK))=true:=yp (Qw S.rows) (by omega);have R:=Pm (C:=C) (S:=S);rw[pH] at u N A B;generalize cn a ss=Z at *;generalize s.map cU=o at *;refine OX (n:=13) ?_;unfold xv;simp only[List.replicate];refine fO (by simp[xb]<;>rfl) ?_;refine fO (by simp[xc,U]<;>rfl) ?_;refine fO (by simp[xf,h2]<;>rfl) ?_;refine fO (by simp[xg,iu,ir,u]<;>rfl) ?_;refine fO (by simp[xh]<;>rfl) ?_;refine fO (by simp[xi]<;>rfl) ?_;refine fO (U':=ev C i G Z o (dZ a ss s) [] [] 0 none none none none none none) (by simp[xj]<;>rfl) ?_;refine fO (U':=ev C i j Z o S m f h q r H none none none) (by
  rw[<-e4];simp[xk,h3,show -4611686018427387904<=k by omega,show k<4611686018427387904 by omega]) ?_
 refine fO (U':=ew C i j Z o S m (some (.own false (.l f))) h q r (some (.dat (.list f))) (some (.own false (hB C S))) none none) (by simp[xl,wh,rf,N]) ?_;refine fO (U':=ew C i j Z o S m (some (.own false (.l f))) h q r (some (.dat (.list f))) (some (.own false (hB C S))) (some (.own false (hB C (dZ a ss s)))) none) (by simp[xm,iu,ir,u]) ?_;refine fO (U':=ew C i j Z o S m (some (.dat (.list f))) h q r (some (.dat (.list f))) (some (.own false (hB C S))) (some (.own false (hB C S))) none) (by
  unfold xn;refine Es (yx (pL (kP (x:=.list f) (y:=.list f) (U1:=ew C i j Z o S m (some (.own false (.l f))) h q r (some (.dat (.list f))) (some (.own false (hB C S))) (some (.own false (hB C (dZ a ss s)))) none) (U2:=ew C i j Z o S m (some (.dat (.list f))) h q r (some (.dat (.list f))) (some (.own false (hB C S))) (some (.own false (hB C (dZ a ss s)))) none) (by simp) (by simp) (ky sw))) (yx (pL (kP (lU O (by omega)) (y:=.list f) (U2:=ew C i j Z o S m (some (.dat (.list f))) h q r (some (.dat (.list f))) (some (.own false (hB C S))) (some (.own false (hB C S))) none) (by simp) (ky sw))) (pL (kP (pM R) (yy R) (ky sl)))))) ?_
 refine fO (U':=ew C i (j++[.int 0]) Z o S m (some (.dat (.list f))) h q r (some (.dat (.list f))) (some (.own false (hB C S))) (some (.own false (hB C S))) (some (.dat v))) (by
  unfold nF at Q;simp[xo,Q,show(7:Nat)<=sizeLine by omega,show(3:Nat)<=sizeLine by omega,show(2:Nat)<=sizeLine by omega]) ?_
 refine fO (by unfold xp;exact Er (kP (pN I) (pR 10) (ky (pS 10)))) ?_;refine fO (by unfold xq;exact Er (kP (pO A (by omega)) (pR 10) (ky (pS 10)))) ?_;refine fO (by unfold xr;exact Es (yx (pL (kP (pP B (by omega)) (pR 10) (ky (pS 10)))) (pL (kP (lV D) (pR 4) (ky (pS 4)))))) ?_;unfold xu;have e:=kP (g:=aJ false) (pQ (C:=C) (ns:=i) (t:=j++[.int 0]) (Z:=Z) (DD:=o) (S:=S) (cs:=m) (x6:=some (.dat (.list f))) (now:=h) (x8:=q) (x9:=r) (x10:=some (.dat (.list f))) (x11:=some (.own false (hB C S))) (x12:=some (.own false (hB C S))) (x13:=some (.dat v)) J) (pR 0) (Dg (pS 0));exact⟨_,_,QQ e⟩
end K3
namespace K3
open PySem PySem.Spec L2 L2.L3 PyProof.Rows
theorem QS{K:Frag}{j:Str->Option Value}{f:FM}{e:List V}{H:Hp}{Q:VK}{E:XK}(k:GH j H)(l:∀c:List Int,c.length<=63->f [.scr c]=.rt (.dat (.bool true)) [])(h:∃a c,e=[.ref a]/\iH K H a c/\∀d,Q (.bl true) d):bc K j f e H Q E:=by obtain⟨a,c,rfl,g,q⟩:=h;refine⟨k,[.scr c],[[]],[],.oth (fun _ z=>by cases z) (fun _ _ z=>by cases z) ⟨a,rfl,g⟩ .nil,List.nodup_nil,fun b n=>by simp at n,?_⟩;rw[l c g.1];intro v d o i m _ _;rw[show v=.bl true from DV.bl_inv m];exact q d
noncomputable def yz(K:Frag):Sp:=fun b H Q _=>∃a d,b=[.ref a]/\iH K H a d/\∀c,Q (.bl true) c
abbrev LK(K:Frag)(f:Addr)(a:Value)(b:Option Addr)(n q:Str)(s:Stmt)(k d p:Value)(e:Option Addr)(c t:Value)(l:Array (Option Value)):Prop:=K.lookup f=some ⟨a,b,.func (fnOf n q (ju s) (ia s) (be s) .none k d p e c t),l⟩
abbrev NI(K:Frag)(n:Str)(f:Addr):Prop:=nsIn K mainGlobals n=some (some (.ref f))
abbrev NV(K:Frag)(n:Str)(i:Int)(t:Tok):Prop:=nsIn K mainGlobals n=some (some (.int i t))
abbrev NZ(K:Frag)(n:Str):Prop:=nsIn K mainGlobals n=some none
abbrev KI(K:Frag)(f:Addr):Prop:=keepIn K (.ref f)=true
local macro_rules | `(tactic| walk_at "b")=>`(tactic| first|(exact(fun _ _ _ _ _ _ us hl=>match us,hl with | [_],_=>rfl))|(exact(fun _ _ _ _ _ _ us hl=>match us,hl with | [_,_],_=>rfl))|(exact(fun _ _ _ _ _ _ us hl=>match us,hl with | [_,_,_],_=>rfl))|(exact(fun _ _ _ _ _ _ us hl=>match us,hl with | [_,_,_,_],_=>rfl))|(exact(fun _ _ _ _ _ _ us hl=>match us,hl with | [_,_,_,_,_],_=>rfl)))
theorem all_mk{l:PySem.W.OpenLaw}{w:World}{K:Frag}{h:Heap}{mg:Str->Option Value}{fa:Addr}(X:K.In h)(G:h.Ns mainGlobals mg)(c4:mg "law" = some (.ref fa))
  {b:Addr}
  {u:Addr}{a1 O:Option Addr}{a2:Array (Option Value)}{a3 R S U x Y:Value}
  {c5 a4 c6 c7 c8 c9 d0 d1 d2 d3 d4 a5 a6 a7:Tok}
  {a:Addr}{o:Nat}{d f g i j k m n:Tok}
  {D_:Addr}
  (J:NI K "Hall" b)
  (l0:DF K "is_whole" rR)
  (l1:DF K "is_tuple_of" rS)
  (l2:DF K "is_ahead" rT)
  (l3:DF K "is_moment" rV)
  (l4:DF K "is_runner" rW)
  (l5:DF K "is_term" rX)
  (l6:DF K "are_shifts" rY)
  (l7:DF K "is_zone" rZ)
  (l8:DF K "has_word" se)
  (l9:DF K "is_plan" sf)
  (d5:DF K "is_late" sg)
  (d6:DF K "is_deed" sh)
  (d7:DF K "are_deeds" si)
  (d8:DF K "check_zone" sj)
  (d9:DF K "check_moment" sk)
  (e0:DF K "check_deeds" so)
  (e1:DF K "check_runner" sr)
  (e2:DF K "check_term" su)
  (e3:DF K "shown" sv)
  (e4:DF K "stretches" sx)
  (e5:DF K "is_ahead_of" sy)
  (e6:DF K "first_showing" sA)
  (e7:DF K "first_day" sB)
  (e8:DF K "daily_time" sD)
  (e9:DF K "time_of" sE)
  (f0:DF K "is_left_out" sF)
  (f1:MF K b "__init__" "Hall.__init__" sG)
  (f2:MF K b "is_held" "Hall.is_held" sH)
  (f3:MF K b "check_call" "Hall.check_call" sI)
  (f4:MF K b "check_holder" "Hall.check_holder" sJ)
  (f5:MF K b "take" "Hall.take" sK)
  (f6:MF K b "give" "Hall.give" sL)
  (f7:MF K b "add_row" "Hall.add_row" sM)
  (f8:MF K b "is_busy" "Hall.is_busy" sN)
  (f9:MF K b "first_unsettled" "Hall.first_unsettled" sO)
  (g0:MF K b "step" "Hall.step" sP)
  (g1:MF K b "step_behind_a_fall" "Hall.step_behind_a_fall" sQ)
  (g2:MF K b "step_ahead" "Hall.step_ahead" sR)
  (g3:MF K b "finish" "Hall.finish" sS)
  (g4:MF K b "held" "Hall.held" sT)
  (g5:MF K b "log" "Hall.log" sU)
  (g6:DF K "check_call" sV)
  (g7:DF K "ask" sW)
  (g8:DF K "do" sX)
  (g9:DF K "run" sY)
  (h0:DF K "_law_cell_at" sZ)
  (h1:DF K "_law_mixed" tf)
  (h2:DF K "_law_draw" tj)
  (h3:DF K "_law_pick" tm)
  (h4:DF K "_law_zone" tp)
  (h5:DF K "_law_plan" tq)
  (h6:DF K "_law_deeds" tt)
  (h7:DF K "_law_call" tu)
  (h8:DF K "_law_which" tw)
  (h9:DF K "_law_do" tx)
  (i0:DF K "_law_asked" tz)
  (a8:NI K "law" u)
  (i1:LK K u a3 a1 "law" "law" kv R S U O x Y a2)
  (i2:codeIn K x "law" = true)
  (i3:KI K u)
  (i4:NV K "LAST_MOMENT" (9999) c5)
  (i5:NV K "LAST_HOUR" (23) a4)
  (i6:NV K "LEAST_AHEAD" (-12) c6)
  (i7:NV K "MOST_AHEAD" (14) c7)
  (i8:NV K "MOST_SHIFTS" (6) c8)
  (a9:NV K "MOST_STEP" (999) c9)
  (i9:NV K "MOST_DEEDS" (6) d0)
  (j0:NV K "MOST_WITHIN" (999) d1)
  (j1:NV K "LAST_RUNNER" (3) d2)
  (j2:NV K "MOST_TERM" (99) d3)
  (j3:NV K "DAY_HOURS" (24) d4)
  (b0:NV K "PLAN" (0) a5)
  (b1:NV K "LATE" (1) a6)
  (b2:NV K "AGAIN" (2) a7)
  (b3:NI K "LENGTHS" a)
  (p:K.lookup a=some ⟨.type "dict",none,.dict #[⟨hashStr w "take",.str "take" d,.int 4 f⟩,⟨hashStr w "give",.str "give" g,.int 3 i⟩,⟨hashStr w "step",.str "step" j,.int 3 k⟩,⟨hashStr w "finish",.str "finish" m,.int 3 n⟩] o,#[]⟩)
  (j4:NZ K "ANY_ZONE")
  (j5:NZ K "NO_DEEDS")
  (j6:NZ K "ValueError")
  (b4:NZ K "all")
  (b5:NZ K "any")
  (j7:NZ K "bool")
  (j8:NZ K "enumerate")
  (b6:NZ K "int")
  (j9:NZ K "isinstance")
  (k0:NZ K "len")
  (k1:NZ K "list")
  (b7:NZ K "max")
  (b8:NZ K "min")
  (k2:NZ K "range")
  (b9:NZ K "str")
  (k3:NZ K "tuple")
  (c0:NZ K "zip")
  (k4:plainGet K b Str.empty=true)
  (k5:PySem.W.hasDictIn K b=true)
  (k6:PySem.W.plainOver K b=true)
  (k7:findIn K (.ref b) "__setattr__" = some (some (.builtin "object.__setattr__")))
  (c1:PySem.W.makesIn K b=true)
  (c2:KI K b)
  (y:findIn K (.ref b) "begun" = some none)
  (z:findIn K (.ref b) "deeds" = some none)
  (t:findIn K (.ref b) "holder" = some none)
  (A:findIn K (.ref b) "holds" = some none)
  (L:findIn K (.ref b) "last" = some none)
  (M:findIn K (.ref b) "rows" = some none)
  (q:findIn K (.ref b) "settled" = some none)
  (B:findIn K (.ref b) "until" = some none)
  (D:findIn K (.ref b) "words" = some none)
  (N:findIn K (.ref b) "zone" = some none)
  (I:NI K "DueError" D_)
  (r:(a==sysModules)=false)
  (Z:excIn K D_ ou "ValueError.__new__" = true)
  (a0:Bm K D_ cx=true) :
  ∃fd:FuncData,(∀(s:Shared) (v:Value),BindsTo s fd ⟨[v],[]⟩ [("_law_script",v)])/\∀base:Heap,K.In base->base.Ns mainGlobals mg->az l.prog w K mg base (ba l.prog w) 12 fa fd ["_law_script"] (yz K):=by
 have e:=c4.symm.trans (mg_of X G a8);cases e;have c3:=nL (st:=kv) i1 i2 i3;have k8:FD K mg "law" kv ["_law_script"] _ _:=⟨c3,mg_of X G a8,c3.binds fun _ _ _ _ _ _=>dD fun _=>rfl⟩
 have HC:dt K mg b:={
  cl:=⟨k4,k5,k6,k7⟩
  mg:=mg_of X G J
  mks:=c1
  kpC:=c2
  d1z:=y
  d20:=z
  d21:=t
  d22:=A
  d23:=L
  d24:=M
  d25:=q
  d26:=B
  d27:=D
  d28:=N
  d29:=f1.md fun _ _ _ _ _ _=>fo fun _ _ _=>rfl
  d2a:=f2.md fun _ _ _ _ _ _=>gc fun _ _=>rfl
  d2b:=f3.md fun _ _ _ _ _ _=>fo fun _ _ _=>rfl
  d2c:=f4.md fun _ _ _ _ _ _=>fo fun _ _ _=>rfl
  d2d:=f5.md fun _ _ _ _ _ _=>rg fun _ _ _ _=>rfl
  d2e:=f6.md fun _ _ _ _ _ _=>fo fun _ _ _=>rfl
  d2f:=f7.md fun _ _ _ _ _ _=>gc fun _ _=>rfl
  d2g:=f8.md fun _ _ _ _ _ _=>dD fun _=>rfl
  d2h:=f9.md fun _ _ _ _ _ _=>dD fun _=>rfl
  d2i:=g0.md fun _ _ _ _ _ _=>fo fun _ _ _=>rfl
  d2j:=g1.md fun _ _ _ _ _ _=>fo fun _ _ _=>rfl
  d2k:=g2.md fun _ _ _ _ _ _=>fo fun _ _ _=>rfl
  d2l:=g3.md fun _ _ _ _ _ _=>fo fun _ _ _=>rfl
  d2m:=g4.md fun _ _ _ _ _ _=>dD fun _=>rfl
  d2n:=g5.md fun _ _ _ _ _ _=>dD fun _=>rfl
 }
 have T:Tx l.prog w K mg:={
  d00:=l0.fd X G fun _ _ _ _ _ _=>fo fun _ _ _=>rfl
  d01:=l1.fd X G fun _ _ _ _ _ _=>gc fun _ _=>rfl
  d02:=l2.fd X G fun _ _ _ _ _ _=>dD fun _=>rfl
  d03:=l3.fd X G fun _ _ _ _ _ _=>dD fun _=>rfl
  d04:=l4.fd X G fun _ _ _ _ _ _=>dD fun _=>rfl
  d05:=l5.fd X G fun _ _ _ _ _ _=>dD fun _=>rfl
  d06:=l6.fd X G fun _ _ _ _ _ _=>dD fun _=>rfl
  d07:=l7.fd X G fun _ _ _ _ _ _=>dD fun _=>rfl
  d08:=l8.fd X G fun _ _ _ _ _ _=>fo fun _ _ _=>rfl
  d09:=l9.fd X G fun _ _ _ _ _ _=>dD fun _=>rfl
  d0a:=d5.fd X G fun _ _ _ _ _ _=>dD fun _=>rfl
  d0b:=d6.fd X G fun _ _ _ _ _ _=>dD fun _=>rfl
  d0c:=d7.fd X G fun _ _ _ _ _ _=>dD fun _=>rfl
  d0d:=d8.fd X G fun _ _ _ _ _ _=>dD fun _=>rfl
  d0e:=d9.fd X G fun _ _ _ _ _ _=>dD fun _=>rfl
  d0f:=e0.fd X G fun _ _ _ _ _ _=>dD fun _=>rfl
  d0g:=e1.fd X G fun _ _ _ _ _ _=>dD fun _=>rfl
  d0h:=e2.fd X G fun _ _ _ _ _ _=>dD fun _=>rfl
  d0i:=e3.fd X G fun _ _ _ _ _ _=>gc fun _ _=>rfl
  d0j:=e4.fd X G fun _ _ _ _ _ _=>dD fun _=>rfl
  d0k:=e5.fd X G fun _ _ _ _ _ _=>gc fun _ _=>rfl
  d0l:=e6.fd X G fun _ _ _ _ _ _=>gc fun _ _=>rfl
  d0m:=e7.fd X G fun _ _ _ _ _ _=>gc fun _ _=>rfl
  d0n:=e8.fd X G fun _ _ _ _ _ _=>fo fun _ _ _=>rfl
  d0o:=e9.fd X G fun _ _ _ _ _ _=>fo fun _ _ _=>rfl
  d0p:=f0.fd X G fun _ _ _ _ _ _=>rg fun _ _ _ _=>rfl
  d0q:=g6.fd X G fun _ _ _ _ _ _=>dD fun _=>rfl
  d0r:=g7.fd X G fun _ _ _ _ _ _=>gc fun _ _=>rfl
  d0s:=g8.fd X G fun _ _ _ _ _ _=>gc fun _ _=>rfl
  d0t:=g9.fd X G fun _ _ _ _ _ _=>fo fun _ _ _=>rfl
  d0u:=h0.fd X G fun _ _ _ _ _ _=>gc fun _ _=>rfl
  d0v:=h1.fd X G fun _ _ _ _ _ _=>fo fun _ _ _=>rfl
  d0w:=h2.fd X G fun _ _ _ _ _ _=>fo fun _ _ _=>rfl
  d0x:=h3.fd X G fun _ _ _ _ _ _=>fo fun _ _ _=>rfl
  d0y:=h4.fd X G fun _ _ _ _ _ _=>gc fun _ _=>rfl
  d0z:=h5.fd X G fun _ _ _ _ _ _=>gc fun _ _=>rfl
  d10:=h6.fd X G fun _ _ _ _ _ _=>gc fun _ _=>rfl
  d11:=h7.fd X G fun _ _ _ _ _ _=>rg fun _ _ _ _=>rfl
  d12:=h8.fd X G fun _ _ _ _ _ _=>dD fun _=>rfl
  d13:=h9.fd X G fun _ _ _ _ _ _=>gc fun _ _=>rfl
  d14:=i0.fd X G fun _ _ _ _ _ _=>rg fun _ _ _ _=>rfl
  d15:=⟨_,mg_of X G i4⟩
  d16:=⟨_,mg_of X G i5⟩
  d17:=⟨_,mg_of X G i6⟩
  d18:=⟨_,mg_of X G i7⟩
  d19:=⟨_,mg_of X G i8⟩
  d1a:=⟨_,mg_of X G a9⟩
  d1b:=⟨_,mg_of X G i9⟩
  d1c:=⟨_,mg_of X G j0⟩
  d1d:=⟨_,mg_of X G j1⟩
  d1e:=⟨_,mg_of X G j2⟩
  d1f:=⟨_,mg_of X G j3⟩
  d1g:=⟨_,mg_of X G b0⟩
  d1h:=⟨_,mg_of X G b1⟩
  d1i:=⟨_,mg_of X G b2⟩
  d1j:=⟨_,mg_of X G b3,Mx [⟨"take",4,d,f⟩,⟨"give",3,g,i⟩,⟨"step",3,j,k⟩,⟨"finish",3,m,n⟩] p (show(["take","give","step","finish"]:List Str).Nodup from by decide +kernel) r⟩
  d1k:=mg_none_of X G j6
  d1l:=mg_none_of X G b4
  d1m:=mg_none_of X G b5
  d1n:=mg_none_of X G j7
  d1o:=mg_none_of X G j8
  d1p:=mg_none_of X G b6
  d1q:=mg_none_of X G j9
  d1r:=mg_none_of X G k0
  d1s:=mg_none_of X G k1
  d1t:=mg_none_of X G b7
  d1u:=mg_none_of X G b8
  d1v:=mg_none_of X G k2
  d1w:=mg_none_of X G b9
  d1x:=mg_none_of X G k3
  d1y:=mg_none_of X G c0
  xt0:=⟨D_,⟨⟨mg_of X G I,I,Z⟩,a0,fun c C e=>mg_of X G e⟩⟩
 }
 exact⟨fnOf "law" "law" (ju kv) (ia kv) (be kv) .none R S U O x Y,fun s v=>.of_eq rfl,fun base _ _=>(Ou _ _ _ T HC k8).imp fun vs H Q E h=>QS (Mw (mg_none_of X G j4) (mg_none_of X G j5) H) (fun ns hn=>QR hn) h⟩
theorem law_walk{l:PySem.W.OpenLaw}{q:Program}{b:List Str}{j:(Str->Option Value)->Heap->Prop}{g:World->Heap->Prop}{d:DefRec}{K:Params->Frag}(m:l.most=some 63)(e:d.params.defaults=[])
  (p:∀(w:World) (h:Heap),g w h->(K w.params).In h)
  (F:∀(w:World) (c:Str->Option Value) (i:Addr) (h:Heap),(K w.params).In h->h.Ns mainGlobals c->c d.name=some (.ref i)->
   ∃fd:FuncData,(∀(s:Shared) (u:Value),BindsTo s fd ⟨[u],[]⟩ [("_law_script",u)])/\∀base:Heap,(K w.params).In base->base.Ns mainGlobals c->az l.prog w (K w.params) c base (ba l.prog w) 12 i fd ["_law_script"] (yz (K w.params))) :
  PySem.W.WalkO q b j g l.row.toRowW d [] (fun f r=>PySem.call f r):=by
 refine L2.walk_of (n:=63) (k:=12) (x:="_law_script") (CX:=fun w=>ba l.prog w) (sp:=fun w=>yz (K w.params)) m (by decide) e ⟨rfl,by decide,by decide⟩ p F (fun w H a A t v y=>?hsp) fun _ _ _ _ _ ⟨_,_,_,_,_,_,_,_,_,z⟩=>z;refine⟨a,A,rfl,⟨t,?_⟩,fun _=>rfl⟩;rcases y with(h1 | h1) | h1
 ·rcases v a with h2 | ⟨o,B,h2⟩
  ·rw[h2] at h1;cases h1
  ·rw[h2] at h1;cases h1
 ·exact .inl h1
 ·exact .inr h1
end K3
namespace PySem.W.Fast
def tw10040416908334022430:=()
def tw10103775430579215243:=()
def tw10586272137863055183:=()
def tw10968847148159781734:=()
def tw11380152018179607376:=()
def tw11587862969202197411:=()
def tw11799851561411431275:=()
def tw11980851420330673164:=()
def tw12068678722929288817:=()
def tw12174230016318471148:=()
def tw12365226617625586674:=()
def tw125094059121673915:=()
def tw12991770129416787983:=()
def tw13163142763520627706:=()
def tw13929325301151508784:=()
def tw14239040028574747868:=()
def tw14501495503629320846:=()
def tw14607154451384229001:=()
def tw15288580439503891785:=()
def tw15363376819281969206:=()
def tw15502009705277393719:=()
def tw1564209901734977063:=()
def tw15833738601090609157:=()
def tw17229392975377109940:=()
def tw17332315293109986091:=()
def tw17744000165331751498:=()
def tw18346730604335396804:=()
def tw210938543173686267:=()
def tw2692862724896954749:=()
def tw3182089348851620439:=()
def tw3272614227949199676:=()
def tw3416017794991626208:=()
def tw4241064494302448419:=()
def tw4329237835549813929:=()
def tw4455761786499530902:=()
def tw5316092576375856998:=()
def tw546923825516758182:=()
def tw5608804119675158009:=()
def tw6011844948409987782:=()
def tw6285318537724888290:=()
def tw7162134660173120153:=()
def tw7281829301465416317:=()
def tw7514888058942535334:=()
def tw8012048455726664374:=()
def tw8310861088046696816:=()
def tw8369727227664294779:=()
def tw84317707642085371:=()
def tw8876646875109877402:=()
def tw9038762549694515079:=()
end PySem.W.Fast
open PySem PySem.W PyProof.Rows
set_option maxRecDepth 100000 in
set_option maxHeartbeats 0 in
theorem PySem.Challenge.cw_duehall_k13_runs_holds : PySem.Challenge.rw_duehall_k13_runs.Holds := by
  w_on;o_law;k_head;(case hw => w_witness2)
  k_fill
  refine K3.law_walk (l := PySem.Challenge.rw_duehall_k13_runs) rfl rfl (fun w h Y => PySem.W.kIn_of Y) ?F
  case F =>
    intro w mg fa h KX G hmg
    refine' K3.all_mk KX G hmg ?a_Hall ?l0 ?l1 ?l2 ?l3 ?l4 ?l5 ?l6 ?l7 ?l8 ?l9 ?l10 ?l11 ?l12 ?l13 ?l14 ?l15 ?l16 ?l17 ?l18 ?l19 ?l20 ?l21 ?l22 ?l23 ?l24 ?l25 ?l26 ?l27 ?l28 ?l29 ?l30 ?l31 ?l32 ?l33 ?l34 ?l35 ?l36 ?l37 ?l38 ?l39 ?l40 ?l41 ?l42 ?l43 ?l44 ?l45 ?l46 ?l47 ?l48 ?l49 ?l50 ?l51 ?l52 ?l53 ?l54 ?l55 ?a56 ?l56 ?c56 ?k56 ?v1_ ?v8_ ?v2_ ?v6_ ?v0_ ?v10_ ?v5_ ?v3_ ?v4_ ?v9_ ?v7_ ?v14_ ?v13_ ?v12_ ?v11_ ?w_LENGTHS ?z4_ ?z3_ ?z0_ ?z14_ ?z15_ ?z8_ ?z2_ ?z13_ ?z1_ ?z9_ ?z7_ ?z11_ ?z16_ ?z5_ ?z12_ ?z6_ ?z10_ ?pg_ ?hd_ ?po_ ?sa_ ?mks_ ?kpC_ ?n_begun ?n_deeds ?n_holder ?n_holds ?n_last ?n_rows ?n_settled ?n_until ?n_words ?n_zone ?a_Due ?y_LENGTHS ?x_Due ?x_tab
    (case a_Hall => (first | unfold K3.LK | unfold K3.NI | unfold K3.NV | unfold K3.NZ | unfold K3.KI | skip);k_is)
    (case l0|l1|l2|l3|l4|l5|l6|l7|l8|l9|l10|l11|l12|l13|l14|l15|l16|l17|l18|l19|l20|l21|l22|l23|l24|l25|l41|l42|l43|l44|l45|l46|l47|l48|l49|l50|l51|l52|l53|l54|l55 => exact⟨_,_,_,_,_,_,_,_,_,_,by k_is,by k_is,by k_is,by k_is⟩)
    (case l26|l27|l28|l29|l30|l31|l32|l33|l34|l35|l36|l37|l38|l39|l40 => exact⟨_,_,_,_,_,_,_,_,_,_,by k_is,by k_is,by k_is,by k_is,by k_is⟩)
    (case a56|l56|c56|k56|v1_|v8_|v2_|v6_|v0_|v10_|v5_|v3_|v4_|v9_|v7_|v14_|v13_|v12_|v11_|w_LENGTHS|z4_|z3_|z0_|z14_|z15_|z8_|z2_|z13_|z1_|z9_|z7_|z11_|z16_|z5_|z12_|z6_|z10_|pg_|hd_|po_|sa_|mks_|kpC_|n_begun|n_deeds|n_holder|n_holds|n_last|n_rows|n_settled|n_until|n_words|n_zone|a_Due => (first | unfold K3.LK | unfold K3.NI | unfold K3.NV | unfold K3.NZ | unfold K3.KI | skip);k_is)
    (case y_LENGTHS|x_Due|x_tab => first | kernel_rfl | rfl)
