import PyProof.Rows.All
import Wide.All
import OpenK.AllK
import Wide.FinOn
import Lean
import PyProof.EqAt
import PyProof.EqKinds
import PyProof.TupleCall
import PySem.Challenge.RW_duehall_k33_reports_refused
set_option Elab.async false
set_option linter.all false
set_option maxRecDepth 100000
theorem az:type_of% @PySem.wpAny_bind:=@PySem.wpAny_bind
theorem bp:type_of% @PySem.wpAny_pure:=@PySem.wpAny_pure
theorem br:type_of% @PySem.Heap.get?_push_of_some:=@PySem.Heap.get?_push_of_some
theorem bC:type_of% @PySem.Heap.lt_size:=@PySem.Heap.lt_size
theorem bF:type_of% @Nat.le_refl:=@Nat.le_refl
theorem bh:type_of% @List.mem_append_right:=@List.mem_append_right
theorem bi:type_of% @List.mem_append_left:=@List.mem_append_left
theorem bY:type_of% @List.mem_cons_of_mem:=@List.mem_cons_of_mem
open PySem.W (instObj Frag plainGet findIn emptyDict keepIn mroIn kitOne kia_one fnOf codeIn nsIn callWith_K excIn clsIn mg_of mg_none_of)
namespace L2
open PySem PySem.Spec PyProof.Rows
noncomputable abbrev ba:=Sum Int Str
noncomputable def lY:ba->Value->Bool
 | .inl k,v=>Value.isInt k v
 | .inr x,v=>Value.isStrOf x v
noncomputable def Ep(w:World):ba->Int
 | .inl k=>hashInt k
 | .inr x=>hashStr w x
theorem iY:∀{k:ba}{v:Value},lY k v=true->(∃i t,k=Sum.inl i/\v=Value.int i t)\/(∃x t,k=Sum.inr x/\v=Value.str x t)
 | .inl i,v,h=>by obtain⟨t,e⟩:=Value.isInt_shape (k:=i) (v:=v) h;exact .inl ⟨i,t,rfl,e⟩
 | .inr x,v,h=>by obtain⟨t,e⟩:=Value.isStrOf_shape (x:=x) (v:=v) h;exact .inr ⟨x,t,rfl,e⟩
theorem Er(i:Int)(t:Tok):lY (.inl i) (.int i t)=true:=by simp[lY,Value.isInt]
theorem Es(x:Str)(t:Tok):lY (.inr x) (.str x t)=true:=by simp[lY,Value.isStrOf]
theorem Et(a b:Int):decide ((Sum.inl a:ba)=Sum.inl b)=(a==b):=by
 by_cases e:a=b
 ·subst e;simp
 ·have h:¬ (Sum.inl a:ba)=Sum.inl b:=fun q=>e (Sum.inl.inj q);rw[decide_eq_false h];exact(beq_eq_false_iff_ne.mpr e).symm
theorem Eu(a b:Str):decide ((Sum.inr a:ba)=Sum.inr b)=decide (a=b):=by
 by_cases e:a=b
 ·subst e;simp
 ·have h:¬ (Sum.inr a:ba)=Sum.inr b:=fun q=>e (Sum.inr.inj q);rw[decide_eq_false h,decide_eq_false e]
theorem Ev(a:Int)(b:Str):decide ((Sum.inl a:ba)=Sum.inr b)=false:=decide_eq_false (fun q=>nomatch q)
theorem Ew(a:Str)(b:Int):decide ((Sum.inr a:ba)=Sum.inl b)=false:=decide_eq_false (fun q=>nomatch q)
noncomputable def fz(prog:Program)(w:World):PySem.KeyKind prog w ba where
 is:=lY
 hash:=Ep w
 inj:=fun v a b ha hb=>by
  rcases iY ha with⟨i,t,rfl,rfl⟩ | ⟨x,t,rfl,rfl⟩
  ·rcases iY hb with⟨j,u,rfl,e⟩ | ⟨y,u,rfl,e⟩
   ·injection e with e1 _;rw[e1]
   ·exact nomatch e
  ·rcases iY hb with⟨j,u,rfl,e⟩ | ⟨y,u,rfl,e⟩
   ·exact nomatch e
   ·injection e with e1 _;rw[e1]
 byValue:=fun k v h=>by rcases iY h with⟨i,t,rfl,rfl⟩ | ⟨x,t,rfl,rfl⟩<;>rfl
 pyHash:=fun hv h=>by
  rcases iY hv with⟨i,t,rfl,rfl⟩ | ⟨x,t,rfl,rfl⟩
  ·exact wpAny_pyHash_int h
  ·exact wpAny_pyHash_str h
 eqBool:=fun hu hv h=>by
  rcases iY hu with⟨i,t,rfl,rfl⟩ | ⟨x,t,rfl,rfl⟩
  ·rcases iY hv with⟨j,u,rfl,rfl⟩ | ⟨y,u,rfl,rfl⟩
   ·rw[Et] at h;exact wpAny_eqBool_int h
   ·rw[Ev] at h;exact SeqAt.EqAt.int_str i t y u _ _ _ _ h
  ·rcases iY hv with⟨j,u,rfl,rfl⟩ | ⟨y,u,rfl,rfl⟩
   ·rw[Ew] at h;exact SeqAt.EqAt.str_int x t j u _ _ _ _ h
   ·rw[Eu] at h;exact wpAny_eqBool_str h
 «strs»:=fun k x t v h=>by
  rcases iY h with⟨i,u,rfl,e⟩ | ⟨y,u,rfl,e⟩
  ·exact nomatch e
  ·injection e with e1 _
   subst e1;cases v<;>rfl
theorem Ex(a:Program)(w:World)(i:Int)(t:Tok):(fz a w).is (.inl i) (.int i t)=true:=Er i t
theorem Ey(a:Program)(w:World)(x:Str)(t:Tok):(fz a w).is (.inr x) (.str x t)=true:=Es x t
inductive V where
 | non | bl (b:Bool) | int (i:Int) | str (x:Str) | byt (b:Array UInt8) | flt (b:UInt64) | ref (a:Addr) | ty (n:String)
 deriving DecidableEq
noncomputable def bj:V->Value->Prop
 | .non,u=>u=Value.none
 | .bl b,u=>u=Value.bool b
 | .int i,u=>∃t,u=Value.int i t
 | .str x,u=>∃t,u=Value.str x t
 | .byt b,u=>∃t,u=Value.bytes b t
 | .flt b,u=>∃t,u=Value.float b t
 | .ref a,u=>u=Value.ref a
 | .ty n,u=>u=Value.type n
noncomputable abbrev be:List V->List Value->Prop:=Paired bj
theorem be.length{a:List V}{b:List Value}(r:be a b):a.length=b.length:=Paired.length r
theorem be.get:∀{a:List V}{b:List Value}{i:Nat}{x:V},be a b->a[i]? = some x->∃u,b[i]? = some u/\bj x u
 | _,_,_,_,.nil,e=>by simp at e
 | _,_,0,_,.cons r _,e=>by simp at e;subst e;exact⟨_,rfl,r⟩
 | _,_,i+1,x,.cons _ t,e=>by obtain⟨u,h1,h2⟩:=be.get (i:=i) (x:=x) t (by simpa using e);exact⟨u,by simpa using h1,h2⟩
theorem be.set{x:V}{u:Value}(r:bj x u):∀{a:List V}{b:List Value}(i:Nat),be a b->be (a.set i x) (b.set i u)
 | _,_,_,.nil=>.nil
 | _,_,0,.cons _ t=>.cons r t
 | _,_,i+1,.cons q t=>.cons q (be.set r i t)
theorem be.append:∀{a b:List V}{c d:List Value},be a c->be b d->be (a++b) (c++d)
 | _,_,_,_,.nil,s=>s
 | _,_,_,_,.cons r t,s=>.cons r (be.append t s)
theorem be.take:∀{a:List V}{b:List Value}(n:Nat),be a b->be (a.take n) (b.take n)
 | _,_,0,_=>.nil
 | _,_,_+1,.nil=>.nil
 | _,_,n+1,.cons r t=>.cons r (be.take n t)
theorem be.drop:∀{a:List V}{b:List Value}(n:Nat),be a b->be (a.drop n) (b.drop n)
 | _,_,0,r=>r
 | _,_,_+1,.nil=>.nil
 | _,_,n+1,.cons _ t=>be.drop n t
noncomputable def eZ:Option V->Option Value->Prop
 | some v,some u=>bj v u
 | none,none=>True
 | _,_=>False
noncomputable def KV{κ:Type}:List (κ×V)->List (κ×Value)->Prop:=Paired fun(p:κ×V) (q:κ×Value)=>p.1=q.1/\bj p.2 q.2
noncomputable def kV:ba->V
 | .inl i=>.int i
 | .inr x=>.str x
inductive HO where
 | lst (xs:List V)
 | tup (xs:List V)
 | dK (kvs:List (ba×V)) | dT (kvs:List (List ba×V))
 | set (S:Int->Bool) (n:Nat)
 | ins (C dx:Addr) (fs:List (Str×V))
 | own (x:Addr)
 | xd (fs:List (Str×V))
 | met (f x:Addr)
 | rng (lo hi:Int)
 | frz (o:Obj) (u:HO)
 | tbl (ps:Array Value)
 | ext (φ:Heap->Prop)
noncomputable abbrev Hp:=Addr->Option HO
noncomputable def aN(H:Hp)(a:Addr)(o:HO):Hp:=fun b=>if b=a then some o else H b
theorem cn{H:Hp}{a:Addr}{o:HO}:aN H a o a=some o:=by unfold aN;rw[if_pos rfl]
theorem bw{H:Hp}{a b:Addr}{o:HO}(h:b≠a):aN H a o b=H b:=by unfold aN;rw[if_neg h]
theorem Ez{H:Hp}{a b:Addr}{o u:HO}(h:H a=some o)(c:H b=some u)(d:o≠u):a≠b:=by intro e;subst e;rw[h] at c;exact d (Option.some.inj c)
theorem gT{H:Hp}{a b:Addr}{o:HO}(h:H a=some o)(c:H b=none):a≠b:=by intro e;subst e;rw[h] at c;cases c
section
variable(P:Program)(w:World)
noncomputable def cw(H:Hp)(h:Heap)(a:Addr):HO->Prop
 | .lst d=>d.length<=sizeLine/\∃(b:List Value) (n:Nat),be d b/\h.get? a=some { cls:=.type "list",data:=.seq b.toArray n }
 | .tup d=>d.length<=sizeLine/\∃b:List Value,be d b/\IsTup h a b.toArray
 | .dK c=>c.length<=sizeLine/\(a==sysModules)=false/\∃i,KV c i/\h.DictOf (fz P w) a i
 | .dT c=>c.length<=sizeLine/\(a==sysModules)=false/\∃d:List (List ba×Addr×Value),
   Paired (fun(p:List ba×V) (q:List ba×Addr×Value)=>p.1=q.1/\H q.2.1=some (.tup (p.1.map kV))/\bj p.2 q.2.2) c d/\
   ∃o j m,h.get? a=some o/\o.ExactDict/\o.data=.dict j m/\j.toList=d.map (entryOfKey (tupleKind (fz P w)))/\(d.map (·.1)).Nodup
 | .set S n=>h.SetOf (intKind P w) a S n
 | .ins C g fs=>H g=some (.own a)/\fs.length<=1000/\g≠a/\h.get? a=some (instObj C g)/\
   ∃e,h.Ns1 g e/\(∀f,eZ (fs.lookup f) (e f))/\PySem.Within e (fs.map (·.1))
 | .own _=>∃o,h.get? a=some o
 | .xd fs=>∃e,h.Ns1 a e/\∀f,eZ (fs.lookup f) (e f)
 | .rng lo r=>∃t u v,h.get? a=some { cls:=.type "range",data:=.fields #[.int lo t,.int r u,.int 1 v] }
 | .frz o u=>h.get? a=some o/\cw H h a u
 | .tbl s=>h.get? a=some { cls:=.none,data:=.fields s }
 | .met f x=>h.get? a=some (PySem.W.methodObj (.ref f) (.ref x))
 | .ext φ=>φ h/\(∃o,h.get? a=some o)/\∀k l:Heap,φ k->(∀o,k.get? a=some o->l.get? a=some o)->φ l
def bG(H:Hp)(h:Heap):Prop:=∀a o,H a=some o->cw P w H h a o
end
section
variable{P:Program}{w:World}{H Z:Hp}{h h':Heap}{a:Addr}{o:HO}
theorem cw.lt(x:cw P w H h a o):a<h.objs.size:=by
 cases o with
 | lst c=>obtain⟨_,_,_,_,e⟩:=x;exact bC e
 | tup c=>obtain⟨_,_,_,p⟩:=x;exact p.lt
 | dK b=>obtain⟨_,_,_,_,o,_,_,e,_⟩:=x;exact bC e
 | dT b=>obtain⟨_,_,_,_,o,_,_,e,_⟩:=x;exact bC e
 | set S n=>obtain⟨o,_,_,_,e,_⟩:=x;exact bC e
 | ins C d fs=>obtain⟨_,_,_,e,_⟩:=x;exact bC e
 | own y=>obtain⟨_,e⟩:=x;exact bC e
 | xd fs=>obtain⟨_,⟨_,_,_,e,_⟩,_⟩:=x;exact bC e
 | rng lo g=>obtain⟨_,_,_,e⟩:=x;exact bC e
 | frz ob u=>obtain⟨e,_⟩:=x;exact bC e
 | tbl i=>exact bC (show h.get? a=some _ from x)
 | met f y=>exact bC (show h.get? a=some _ from x)
 | ext φ=>obtain⟨_,⟨_,e⟩,_⟩:=x;exact bC e
theorem Paired.mapP{α β:Type}{F G:α->β->Prop}:∀{c:List α}{d:List β},Paired F c d->(∀a b,F a b->G a b)->Paired G c d
 | _,_,.nil,_=>.nil
 | _,_,.cons r t,f=>.cons (f _ _ r) (Paired.mapP t f)
theorem cw.stay(x:cw P w H h a o)(k:∀b u,(b=a\/H b=some (.own a))->h.get? b=some u->h'.get? b=some u)
  (E:∀b,H b=some (.own a)->Z b=some (.own a)) (G:∀b m,H b=some (.tup m)->Z b=some (.tup m)):cw P w Z h' a o:=by
 induction o with
 | lst m=>obtain⟨z,l,n,r,e⟩:=x;exact⟨z,l,n,r,k _ _ (.inl rfl) e⟩
 | tup m=>obtain⟨z,l,r,g,e,c⟩:=x;exact⟨z,l,r,g,k _ _ (.inl rfl) e,c⟩
 | dK s=>obtain⟨z,y,I,r,g,i,j,e,c⟩:=x;exact⟨z,y,I,r,g,i,j,k _ _ (.inl rfl) e,c⟩
 | dT s=>obtain⟨z,y,m,r,g,i,j,e,c⟩:=x;exact⟨z,y,m,Paired.mapP r fun p q z=>⟨z.1,G _ _ z.2.1,z.2.2⟩,g,i,j,k _ _ (.inl rfl) e,c⟩
 | set S n=>obtain⟨g,i,j,t,e,c⟩:=x;exact⟨g,i,j,t,k _ _ (.inl rfl) e,c⟩
 | ins C M fs=>obtain⟨d,z,ne,e,A,⟨B,i,j,J,c⟩,r⟩:=x;exact⟨E _ d,z,ne,k _ _ (.inl rfl) e,A,⟨B,i,j,k _ _ (.inr d) J,c⟩,r⟩
 | own y=>obtain⟨g,e⟩:=x;exact⟨g,k _ _ (.inl rfl) e⟩
 | xd fs=>obtain⟨A,⟨B,i,j,e,c⟩,r⟩:=x;exact⟨A,⟨B,i,j,k _ _ (.inl rfl) e,c⟩,r⟩
 | rng lo N=>obtain⟨t,u,v,e⟩:=x;exact⟨t,u,v,k _ _ (.inl rfl) e⟩
 | frz g u L=>obtain⟨e,q⟩:=x;exact⟨k _ _ (.inl rfl) e,L q⟩
 | tbl D=>have e:h.get? a=some { cls:=.none,data:=.fields D }:=x;show h'.get? a=some { cls:=.none,data:=.fields D };exact k a _ (.inl rfl) e
 | met f y=>have e:h.get? a=some (PySem.W.methodObj (.ref f) (.ref y)):=x;show h'.get? a=some (PySem.W.methodObj (.ref f) (.ref y));exact k a _ (.inl rfl) e
 | ext φ=>obtain⟨p,⟨o,e⟩,st⟩:=x;exact⟨st _ _ p fun o q=>k _ _ (.inl rfl) q,⟨o,k _ _ (.inl rfl) e⟩,st⟩
theorem bG.lt(x:bG P w H h)(e:H a=some o):a<h.objs.size:=(x a o e).lt
theorem bG.fresh(x:bG P w H h)(e:h.objs.size<=a):H a=none:=by
 cases q:H a with
 | none=>rfl
 | some u=>exact absurd (Nat.lt_of_lt_of_le (x.lt q) e) (Nat.lt_irrefl _)
theorem bG.kept(x:bG P w H h)(k:∀b u,h.get? b=some u->h'.get? b=some u):bG P w H h':=fun a o e=>(x a o e).stay (fun b u _ q=>k b u q) (fun _ q=>q) fun _ _ q=>q
theorem bG.laid(x:bG P w H h)(k:∀b u,h.get? b=some u->h'.get? b=some u)(g:h.objs.size<=a)(new:cw P w (aN H a o) h' a o):bG P w (aN H a o) h':=fun b u e=>by
 have d:=x.fresh g
 by_cases f:b=a
 ·subst f;rw[cn] at e;cases e;exact new
 ·rw[bw f] at e;exact(x b u e).stay (fun c v _ q=>k c v q) (fun c q=>by rw[bw (gT q d)];exact q) fun c i q=>by rw[bw (gT q d)];exact q
end
def Rd(H:Hp)(a:Addr)(u:HO):Prop:=H a=some u\/∃o,H a=some (.frz o u)
theorem Rd.ok{P:Program}{w:World}{H:Hp}{h:Heap}{a:Addr}{u:HO}(r:Rd H a u)(x:bG P w H h):cw P w H h a u:=by
 rcases r with r | ⟨o,r⟩
 ·exact x a u r
 ·obtain⟨_,q⟩:=x a _ r;exact q
noncomputable def nB:Option HO->Prop
 | some (.lst _)=>True
 | some (.dK _)=>True
 | some (.dT _)=>True
 | some (.set _ _)=>True
 | some (.ins _ _ _)=>True
 | some (.ext _)=>True
 | _=>False
section
variable{P:Program}{w:World}{H:Hp}{h Y:Heap}{x e:Addr}{X:HO}
theorem bG.write(ok:bG P w H h)(g:nB (H x))(n:e=x\/H e=some (.own x))(k:∀b u,b≠e->h.get? b=some u->Y.get? b=some u)(m:∃u,Y.get? e=some u)
  (new:cw P w (aN H x X) Y x X):bG P w (aN H x X) Y:=fun b u q=>by
 have d:∀c y,H c=some (.own y)->c≠x:=fun c y r z=>by subst z;rw[r] at g;exact g
 have f:∀c i,H c=some (.tup i)->c≠x:=fun c i r z=>by subst z;rw[r] at g;exact g
 by_cases j:b=x
 ·subst j;rw[cn] at q;cases q;exact new
 ·rw[bw j] at q
  by_cases a:b=e
  ·have o:H b=some (.own x):=by
    rcases n with z | z
    ·exact absurd (a.trans z) j
    ·rw[a];exact z
   rw[q] at o;cases o;obtain⟨v,p⟩:=m;exact⟨v,by rw[a];exact p⟩
  ·refine(ok b u q).stay (fun c v l r=>k c v ?_ r) (fun c r=>by rw[bw (d c b r)];exact r) fun c i r=>by rw[bw (f c i r)];exact r
   rcases l with rfl | l
   ·exact a
   ·rintro rfl;rcases n with z | z
    ·exact d c b l z
    ·rw[l] at z;cases z;exact j rfl
end
structure Un (fs ex:List Addr) (H H':Hp) (h h':Heap):Prop where
 keep:∀b o,h.get? b=some o->H b=none->b∉fs->b∉ex->h'.get? b=some o
 slot:∀b o,h.get? b=some o->H b=none->b∈fs->b∉ex->∃sl,h'.get? b=some { o with slots:=sl }
 free:∀b o,h.get? b=some o->H b=none->b∉ex->H' b=none
 there:∀b o,h.get? b=some o->b∉ex->∃o',h'.get? b=some o'
 tups:∀b xs,H b=some (.tup xs)->H' b=some (.tup xs)
 frzs:∀b o u,H b=some (.frz o u)->H' b=some (.frz o u)
 tbls:∀b ps,H b=some (.tbl ps)->∃more,H' b=some (.tbl (ps++more))
section
variable{fs U ex T:List Addr}{H S R:Hp}{h h1 h2 h':Heap}{a x e:Addr}{o:HO}
theorem Un.any(u:Un fs ex H S h h1){b:Addr}{c:Obj}(q:h.get? b=some c)(n:H b=none)(d:b∉ex):∃g,h1.get? b=some { c with slots:=g }:=by
 by_cases f:b∈fs
 ·exact u.slot b c q n f d
 ·exact⟨c.slots,u.keep b c q n f d⟩
theorem Un.kept(k:∀b u,h.get? b=some u->h'.get? b=some u):Un fs ex H H h h':=
 ⟨fun b c q _ _ _=>k b c q,fun b c q _ _ _=>⟨c.slots,k b c q⟩,fun _ _ _ n _=>n,fun b c q _=>⟨c,k b c q⟩,fun _ _ q=>q,fun _ _ _ q=>q,fun _ d q=>⟨#[],by rw[q];simp⟩⟩
theorem Un.refl:Un fs ex H H h h:=Un.kept fun _ _ q=>q
theorem Un.laid(k:∀b u,h.get? b=some u->h'.get? b=some u)(hp:h.objs.size<=a)(hn:H a=none):Un fs ex H (aN H a o) h h' where
 keep:=fun b u q _ _ _=>k b u q
 slot:=fun b u q _ _ _=>⟨u.slots,k b u q⟩
 free:=fun b u q n _=>by rw[bw (Nat.ne_of_lt (Nat.lt_of_lt_of_le (bC q) hp))];exact n
 there:=fun b u q _=>⟨u,k b u q⟩
 tups:=fun b xs q=>by rw[bw (gT q hn)];exact q
 frzs:=fun b u xs q=>by rw[bw (gT q hn)];exact q
 tbls:=fun b ps q=>⟨#[],by rw[bw (gT q hn),q];simp⟩
theorem Un.write(d:nB (H x))(l:e=x\/H e=some (.own x))(k:∀b u,b≠e->h.get? b=some u->h'.get? b=some u)(f:∃u,h'.get? e=some u):Un fs ex H (aN H x o) h h':=by
 have i:∀b,H b=none->b≠x:=fun b n z=>by subst z;rw[n] at d;exact d
 have j:∀b,H b=none->b≠e:=fun b n z=>by
  subst z;rcases l with r | r
  ·exact i b n r
  ·rw[n] at r;cases r
 have g:∀b u,H b=some u->¬ nB (some u)->b≠x:=fun b u q m z=>by subst z;rw[q] at d;exact m d
 refine⟨fun b u q n _ _=>k b u (j b n) q,fun b u q n _ _=>⟨u.slots,k b u (j b n) q⟩,fun b u q n _=>by rw[bw (i b n)];exact n,fun b u q _=>?_,
  fun b p q=>by rw[bw (g b _ q fun z=>z)];exact q,fun b u p q=>by rw[bw (g b _ q fun z=>z)];exact q,fun b s q=>⟨#[],by rw[bw (g b _ q fun z=>z),q];simp⟩⟩
 by_cases c:b=e
 ·subst c;exact f
 ·exact⟨u,k b u c q⟩
end
noncomputable def pM(h:Heap)(H:Hp):List Addr:=(List.range h.objs.size).filter fun a=>(H a).isSome
noncomputable def iZ(h:Heap)(H:Hp):Heap:=PySem.W.hideAll h (pM h H)
theorem EA(h:Heap)(H:Hp):(iZ h H).objs.size=h.objs.size:=PySem.W.hideAll_size _ _
theorem EB{h:Heap}{H:Hp}{b:Addr}{o:Obj}(e:h.get? b=some o)(n:H b=none):(iZ h H).get? b=some o:=
 PySem.W.hideAll_get _ e fun a=>by have q:(H b).isSome=true:=(List.mem_filter.mp a).2;rw[n] at q;simp at q
theorem ED{h:Heap}{H:Hp}{b:Addr}{o:Obj}(e:(iZ h H).get? b=some o):h.get? b=some o/\H b=none:=by
 have a:h.get? b=some o:=PySem.W.of_hideAll (pM h H) e;refine⟨a,?_⟩;cases q:H b with
 | none=>rfl
 | some x=>have c:b∈pM h H:=List.mem_filter.mpr ⟨List.mem_range.mpr (bC a),by simp[q]⟩;have z:(iZ h H).get? b=none:=PySem.W.hideAll_none (pM h H) c;rw[z] at e;cases e
structure Mod (K:Frag) (mg:Str->Option Value) (base:Heap):Prop where
 kin:K.In base
 glob:base.Ns mainGlobals mg
 blt:∃mb,base.Ns builtinsNs mb/\∀x:Str,x≠"__name__"->mb x=bootBuiltins x
 nolimit:base.NoLimit
structure Cx where
 prog:Program
 w:World
 K:Frag
 mg:Str->Option Value
 base:Heap
 A:Around
 N:List Str
 s₀:Shared
 H₀:Hp
 env:Env
 outer:List Env
 stack:List Env
 ex:List Addr
 fn:Str->Bool
 calm:Bool
 pn:List (Addr×Obj)
 xe:Value->Shared->Prop
noncomputable def bH(l:List Env):List Addr:=l.filterMap (·.frame)
noncomputable abbrev Cx.fs(X:Cx):List Addr:=bH X.outer
def kJ(a:Scope)(x:Str):Prop:=a.names.lookup x=some .local\/a.names.lookup x=some .cell\/a.names.lookup x=some .free
def fO(a:Scope)(x:Str):Prop:=a.names.lookup x=some .local\/a.names.lookup x=some .cell
def EE(a:Env)(h:Heap)(m:Str->Option Value)(x:Str)(u:Value):Prop:=
 (a.kindOf x=some .local/\m x=some u)\/((a.kindOf x=some .cell\/a.kindOf x=some .free)/\∃c,a.cells.lookup x=some c/\h.IsCell c (some u))
structure Cx.Ok (X:Cx):Prop where
 mod:Mod X.K X.mg X.base
 kind:X.env.scope.kind=.function
 glob:X.env.globals=mainGlobals
 blt:X.env.builtins=builtinsNs
 above:X.s₀.heap.objs.size<=X.env.locals
 inj:∀x y c,X.env.cells.lookup x=some c->X.env.cells.lookup y=some c->x=y
 has:∀x,(X.env.kindOf x=some .cell\/X.env.kindOf x=some .free)->∃c,X.env.cells.lookup x=some c
 cab:∀x c,X.fn x=true->X.env.cells.lookup x=some c->X.s₀.heap.objs.size<=c
 hd:X.calm=true->X.A.handled=none
 frames:X.A.frames=some X.stack
 stk:X.stack=X.outer\/(X.stack=X.env::X.outer/\X.env.frame=some X.env.locals)
 exf:∀b∈X.ex,b≠X.env.locals/\∀x c,X.env.cells.lookup x=some c->c≠b
 bs:∀b o,X.base.get? b=some o->X.s₀.heap.get? b=some o/\X.H₀ b=none
 bsz:X.base.objs.size<=X.s₀.heap.objs.size
 noex:∀b o,X.base.get? b=some o->b∉X.ex
 exfs:∀b∈X.ex,b∉X.fs
 funs:X.s₀.heap.FunFrames X.base X.outer
 frf:∀b∈X.fs,X.H₀ b=none
structure Inv (X:Cx) (pins:List (Addr×Obj)) (Y:List (Option V)) (H:Hp) (s:Shared):Prop where
 ok:X.Ok
 os:s.os=X.s₀.os
 bare:AllBare s.gens
 base:Un X.fs X.ex X.H₀ H X.s₀.heap s.heap
 loc:∃m,s.heap.Ns X.env.locals m/\∀(i:Nat) (x:Str) (v:V),X.N[i]? = some x->Y[i]? = some (some v)->kJ X.env.scope x->∃u,bj v u/\EE X.env s.heap m x u
 cell:∀x c,X.env.cells.lookup x=some c->∃v,s.heap.IsCell c v
 free:H X.env.locals=none
 freeC:∀x c,X.env.cells.lookup x=some c->H c=none
 pin:∀p∈X.pn++pins,s.heap.get? p.1=some p.2/\H p.1=none/\p.1≠X.env.locals/\p.1∉X.fs/\∀v,p.2.data≠.cell v
 hok:bG X.prog X.w H s.heap
 len:Y.length=X.N.length
section
variable{X:Cx}{O:List (Addr×Obj)}{Y:List (Option V)}{H J:Hp}{s:Shared}{h':Heap}
theorem Cx.Ok.nofr(ok:X.Ok){b:Addr}{o:Obj}(e:X.base.get? b=some o):b∉X.fs:=fun a=>by have:=(ok.funs.mem a).1;rw[e] at this;cases this
theorem Inv.bs(I:Inv X O Y H s):∀b o,X.base.get? b=some o->s.heap.get? b=some o/\H b=none:=fun b o e=>⟨I.base.keep b o (I.ok.bs b o e).1 (I.ok.bs b o e).2 (I.ok.nofr e) (I.ok.noex b o e),I.base.free b o (I.ok.bs b o e).1 (I.ok.bs b o e).2 (I.ok.noex b o e)⟩
theorem Inv.bk(I:Inv X O Y H s):∀b o,X.base.get? b=some o->s.heap.get? b=some o:=fun b o e=>(I.bs b o e).1
theorem Inv.mod(I:Inv X O Y H s):Mod X.K X.mg X.base:=I.ok.mod
theorem Inv.kIn(I:Inv X O Y H s):X.K.In s.heap:=I.ok.mod.kin.keeps I.bk
theorem Inv.lt(I:Inv X O Y H s):X.env.locals<s.heap.objs.size:=let⟨_,a,_⟩:=I.loc;a.lt
theorem Inv.sz(I:Inv X O Y H s):X.s₀.heap.objs.size<=s.heap.objs.size:=Nat.le_trans I.ok.above (Nat.le_of_lt I.lt)
theorem Inv.nofs(I:Inv X O Y H s){a:Addr}(h:s.heap.objs.size<=a):a∉X.fs:=fun b=>by obtain⟨_,o,c,_⟩:=I.ok.funs.mem b;exact absurd (Nat.lt_of_lt_of_le (bC c) (Nat.le_trans I.sz h)) (Nat.lt_irrefl _)
theorem Inv.cne(I:Inv X O Y H s):∀x c,X.env.cells.lookup x=some c->c≠X.env.locals:=fun x c e z=>by obtain⟨v,o,d,hd⟩:=I.cell x c e;obtain⟨m,⟨f,g,h,a,b,_⟩,_⟩:=I.loc;rw[z,a] at d;cases d;rw[b] at hd;cases hd
theorem Inv.funs(I:Inv X O Y H s):s.heap.FunFrames X.base X.outer:=by
 have all:∀(l:List Env),(∀b∈bH l,b∈X.fs)->X.s₀.heap.FunFrames X.base l->s.heap.FunFrames X.base l:=by
  intro l
  induction l with
  | nil=>intro _ _;trivial
  | cons env r g=>intro f h;obtain⟨i,⟨L,o,a,j,k,hd⟩,m⟩:=h;have c:L∈X.fs:=f L (by unfold bH;rw[List.filterMap_cons,a];exact List.mem_cons_self);obtain⟨n,e⟩:=I.base.slot L o k (I.ok.frf L c) c fun z=>I.ok.exfs L z c;exact⟨i,⟨L,_,a,j,e,hd⟩,g (fun b d=>f b (by unfold bH;rw[List.filterMap_cons,a];exact bY _ d)) m⟩
 exact all X.outer (fun _ d=>d) I.ok.funs
theorem Inv.stack(I:Inv X O Y H s):s.heap.FunFrames X.base X.stack:=by
 rcases I.ok.stk with e | ⟨e,a⟩
 ·rw[e];exact I.funs
 ·rw[e];obtain⟨m,b,_⟩:=I.loc;refine .cons (by rw[I.ok.kind];decide) a b ?_ I.funs;exact Heap.get?_none_of_le (Nat.le_trans I.ok.bsz I.ok.above)
theorem Inv.stkSub(I:Inv X O Y H s):∀b∈bH X.stack,b∈X.env.locals::X.fs:=fun b a=>by
 rcases I.ok.stk with e | ⟨e,c⟩
 ·rw[e] at a;exact bY _ a
 ·rw[e] at a;unfold bH at a;rw[List.filterMap_cons,c] at a;exact a
theorem Inv.stkFree(I:Inv X O Y H s):∀b∈bH X.stack,H b=none:=fun b a=>by
 rcases List.mem_cons.mp (I.stkSub b a) with e | a
 ·rw[e];exact I.free
 ·obtain⟨_,o,c,_⟩:=I.ok.funs.mem a;exact I.base.free b o c (I.ok.frf b a) fun z=>I.ok.exfs b z a
theorem Inv.step{g':Array GenState}{t':Nat}{d':Drawn}{ch:List Addr}(I:Inv X O Y H s)
  (f:∀b∈ch,(b∈X.ex\/X.s₀.heap.objs.size<=b)/\b≠X.env.locals/\(∀x c,X.env.cells.lookup x=some c->c≠b)/\∀p∈X.pn++O,p.1≠b)
  (keep:∀b o,b≠X.env.locals->b∉X.fs->b∉ch->s.heap.get? b=some o->H b=none->h'.get? b=some o)
  (slot:∀b o,b≠X.env.locals->b∈X.fs->b∉ch->s.heap.get? b=some o->H b=none->∃R,h'.get? b=some { o with slots:=R }) (free:∀b o,b∉ch->s.heap.get? b=some o->H b=none->J b=none)
  (there:∀b o,b∉ch->s.heap.get? b=some o->∃C,h'.get? b=some C)
  (G:∀b y,H b=some (.tup y)->J b=some (.tup y)) (L:∀b o u,H b=some (.frz o u)->J b=some (.frz o u)) (M:∀b N,H b=some (.tbl N)->∃more,J b=some (.tbl (N++more)))
  (ns:∀m,s.heap.Ns X.env.locals m->h'.Ns X.env.locals m) (S:bG X.prog X.w J h') (hg:AllBare g') :
  Inv X O Y J { s with heap:=h',gens:=g',drawn:=d',toks:=t' }:=by
 have D:∀b o,X.s₀.heap.get? b=some o->b≠X.env.locals:=fun b o e=>Nat.ne_of_lt (Nat.lt_of_lt_of_le (bC e) I.ok.above);have j:∀b o,X.s₀.heap.get? b=some o->b∉X.ex->b∉ch:=fun b o e a A=>by
  rcases(f b A).1 with z | z
  ·exact a z
  ·exact absurd (Nat.lt_of_lt_of_le (bC e) z) (Nat.lt_irrefl _)
 have g:∀x c,X.env.cells.lookup x=some c->∀v,s.heap.IsCell c v->h'.IsCell c v:=fun x c e v ⟨o,B,hd⟩=>by
  have h:c∉ch:=fun z=>(f c z).2.2.1 x c e rfl
  by_cases T:c∈X.fs
  ·obtain⟨R,q⟩:=slot c o (I.cne x c e) T h B (I.freeC x c e);exact⟨_,q,hd⟩
  ·exact⟨o,keep c o (I.cne x c e) T h B (I.freeC x c e),hd⟩
 refine⟨I.ok,I.os,hg,⟨fun b o e n A a=>?_,fun b o e n A a=>?_,fun b o e n a=>?_,fun b o e a=>?_,fun b y e=>G b y (I.base.tups b y e),fun b o y e=>L b o y (I.base.frzs b o y e),fun b N e=>?_⟩,?_,fun x c e=>?_,?_,fun x c e=>?_,fun p U=>?_,S,I.len⟩
 ·exact keep b o (D b o e) A (j b o e a) (I.base.keep b o e n A a) (I.base.free b o e n a)
 ·obtain⟨R,t⟩:=I.base.slot b o e n A a;obtain⟨Q,E⟩:=slot b _ (D b o e) A (j b o e a) t (I.base.free b o e n a);exact⟨Q,E⟩
 ·obtain⟨C,t⟩:=I.base.there b o e a;exact free b C (j b o e a) t (I.base.free b o e n a)
 ·obtain⟨C,t⟩:=I.base.there b o e a;exact there b C (j b o e a) t
 ·obtain⟨m1,t⟩:=I.base.tbls b N e;obtain⟨m2,E⟩:=M b _ t;exact⟨m1++m2,by rw[E,Array.append_assoc]⟩
 ·obtain⟨m,hn,hl⟩:=I.loc;refine⟨m,ns m hn,fun i x v t E e3=>?_⟩;obtain⟨u,r,l⟩:=hl i x v t E e3;refine⟨u,r,?_⟩;rcases l with l | ⟨k,c,e,z⟩
  ·exact .inl l
  ·exact .inr ⟨k,c,e,g x c e _ z⟩
 ·obtain⟨v,z⟩:=I.cell x c e;exact⟨v,g x c e v z⟩
 ·obtain⟨m,⟨o,_,_,B,_⟩,_⟩:=I.loc;exact free _ o (fun z=>(f _ z).2.1 rfl) B I.free
 ·obtain⟨v,o,B,hd⟩:=I.cell x c e;exact free c o (fun z=>(f c z).2.2.1 x c e rfl) B (I.freeC x c e)
 ·obtain⟨e,n,ne,Z,d⟩:=I.pin p U;have h:p.1∉ch:=fun z=>(f p.1 z).2.2.2 p U rfl;exact⟨keep p.1 p.2 ne Z h e n,free p.1 p.2 h e n,ne,Z,d⟩
theorem Inv.un{t':Nat}(I:Inv X O Y H s)(u:Un X.fs [] H J s.heap h')(g:bG X.prog X.w J h'):Inv X O Y J { s with heap:=h',toks:=t' }:=by
 obtain⟨m,⟨o,l,p,h,r⟩,_⟩:=id I.loc;obtain⟨v,i⟩:=u.any h I.free (by simp);exact I.step (g':=s.gens) (d':=s.drawn) (ch:=[]) (fun _ z=>nomatch z) (fun b o _ c _ e n=>u.keep b o e n c (by simp)) (fun b o _ c _ e n=>u.slot b o e n c (by simp)) (fun b o _ e n=>u.free b o e n (by simp)) (fun b o _ e=>u.there b o e (by simp)) u.tups u.frzs u.tbls (fun q j=>by
  obtain⟨t,d,f,a,k⟩:=j;rw[h] at a;cases a;exact⟨_,d,f,i,k⟩) g I.bare
theorem Inv.call{g':Array GenState}{t':Nat}{d':Drawn}{ch:List Addr}(I:Inv X O Y H s)(u:Un (bH X.stack) ch H J s.heap h')(j:bG X.prog X.w J h')(l:AllBare g')
  (d:∀b∈ch,(b∈X.ex\/X.s₀.heap.objs.size<=b)/\b≠X.env.locals/\(∀x c,X.env.cells.lookup x=some c->c≠b)/\∀p∈X.pn++O,p.1≠b) :
  Inv X O Y J { s with heap:=h',gens:=g',drawn:=d',toks:=t' }:=by
 obtain⟨m,⟨o,y,A,k,r⟩,_⟩:=id I.loc;obtain⟨D,g⟩:=u.any k I.free fun z=>(d _ z).2.1 rfl;exact I.step (ch:=ch) d (fun b o g q a e n=>u.keep b o e n (fun z=>(List.mem_cons.mp (I.stkSub b z)).elim g q) a) (fun b o _ _ a e n=>u.any e n a) (fun b o a e n=>u.free b o e n a) (fun b o a e=>u.there b o e a) u.tups u.frzs u.tbls (fun B t=>by
  obtain⟨C,h,i,f,v⟩:=t;rw[k] at f;cases f;exact⟨_,h,i,g,v⟩) j l
theorem Inv.turned{t':Nat}{it:Addr}(I:Inv X O Y H s)(k:∀b o,b≠it->s.heap.get? b=some o->h'.get? b=some o)(g:H it=none)(f:it≠X.env.locals)
  (w:it∈X.ex\/X.s₀.heap.objs.size<=it) (y:∀x c,X.env.cells.lookup x=some c->c≠it) (A:∀p∈X.pn++O,p.1≠it):Inv X O Y H { s with heap:=h',toks:=t' }:=by
 have d:∀b u,H b=some u->b≠it:=fun b u e z=>by rw[z,g] at e;cases e
 refine I.step (g':=s.gens) (d':=s.drawn) (ch:=[it]) (fun b h=>?_) (fun b o _ _ a e _=>k b o (fun z=>a (by simp[z])) e) (fun b o _ _ a e _=>⟨o.slots,k b o (fun z=>a (by simp[z])) e⟩) (fun _ _ _ _ n=>n)
  (fun b o a e=>⟨o,k b o (fun z=>a (by simp[z])) e⟩) (fun _ _ e=>e) (fun _ _ _ e=>e) (fun b B e=>⟨#[],by rw[e];simp⟩) (fun m i=>?_) (fun b u e=>?_) I.bare
 ·have e:b=it:=by simpa using h
  subst e;exact⟨w,f,y,A⟩
 ·obtain⟨o,j,l,t,r⟩:=i;exact⟨o,j,l,k _ o (Ne.symm f) t,r⟩
 ·refine(I.hok b u e).stay (fun c v a q=>k c v ?_ q) (fun _ q=>q) fun _ _ q=>q;rcases a with z | z
  ·rw[z];exact d b u e
  ·exact d c _ z
theorem Inv.tok(I:Inv X O Y H s)(t:Nat):Inv X O Y H { s with toks:=t }:=I.un (h':=s.heap) (t':=t) Un.refl I.hok
theorem Inv.kept{t':Nat}(I:Inv X O Y H s)(k:∀b u,s.heap.get? b=some u->h'.get? b=some u):Inv X O Y H { s with heap:=h',toks:=t' }:=I.un (Un.kept k) (I.hok.kept k)
theorem Inv.laid{a:Addr}{o:HO}{t':Nat}(I:Inv X O Y H s)(k:∀b u,s.heap.get? b=some u->h'.get? b=some u)(c:s.heap.objs.size<=a)(new:cw X.prog X.w (aN H a o) h' a o) :
  Inv X O Y (aN H a o) { s with heap:=h',toks:=t' }:=I.un (Un.laid k c (I.hok.fresh c)) (I.hok.laid k c new)
theorem Inv.write{x e:Addr}{o:HO}{t':Nat}(I:Inv X O Y H s)(c:nB (H x))(d:e=x\/H e=some (.own x))(k:∀b u,b≠e->s.heap.get? b=some u->h'.get? b=some u)(a:∃u,h'.get? e=some u)
  (new:cw X.prog X.w (aN H x o) h' x o):Inv X O Y (aN H x o) { s with heap:=h',toks:=t' }:=I.un (Un.write c d k a) (I.hok.write c d k a new)
theorem Inv.pins_of{pins':List (Addr×Obj)}(I:Inv X O Y H s)(h:∀p∈pins',s.heap.get? p.1=some p.2/\H p.1=none/\p.1≠X.env.locals/\p.1∉X.fs/\∀v,p.2.data≠.cell v):Inv X pins' Y H s:=
 ⟨I.ok,I.os,I.bare,I.base,I.loc,I.cell,I.free,I.freeC,fun p a=>(List.mem_append.mp a).elim (fun z=>I.pin p (bi _ z)) (h p),I.hok,I.len⟩
theorem uK{N:List Str}(c:N.Nodup){i j:Nat}{x:Str}(a:N[i]? = some x)(b:N[j]? = some x):i=j:=by obtain⟨f,d⟩:=List.getElem?_eq_some_iff.mp a;obtain⟨g,e⟩:=List.getElem?_eq_some_iff.mp b;exact(List.getElem_inj c).mp (d.trans e.symm)
theorem yL{M:Model}{A:Around}{E:Value->Shared->Prop}{i:Nat}{x:Str}{v:V}{u:Value}{Q:Unit->Shared->Prop}(I:Inv X O Y H s)(hN:X.N.Nodup)(T:X.N[i]? = some x)(B:fO X.env.scope x)(r:bj v u)
  (h:∀s',Inv X O (Y.set i (some v)) H s'->(∃a,Heap.SameBut a s.heap s'.heap/\(a=X.env.locals\/X.env.cells.lookup x=some a))->Q () s') (hf:X.fn x=true\/X.env.scope.names.lookup x=some .local:=by first | exact .inl rfl | exact .inr rfl | assumption):wpAny M A (storeName X.env x u) Q E s:=by
 obtain⟨m,hn,hl⟩:=id I.loc;have U:(X.env.scope.kind==.class||(X.env.scope.kind==.module&&X.env.locals != X.env.globals))=false:=by rw[I.ok.kind];rfl
 have Z:i<Y.length:=by rw[I.len];exact(List.getElem?_eq_some_iff.mp T).1
 have cne:=I.cne;have g:∀{a:Addr}{h':Heap},(∃o,s.heap.get? a=some o/\H a=none)->Heap.SameBut a s.heap h'->bG X.prog X.w H h':=fun {a h'} ha f b ob e=>by
  obtain⟨_,_,C⟩:=ha;refine(I.hok b ob e).stay (fun c w' t q=>(f.2 c ?_).trans q) (fun _ q=>q) fun _ _ q=>q;rintro rfl;rcases t with rfl | t
  ·rw[C] at e;cases e
  ·rw[C] at t;cases t
 rcases B with G | G
 ·refine wpAny_storeName_local G hn (fun h' a4 f=>?_) U;obtain⟨oL,_,_,a5,_⟩:=id hn;refine h _ ⟨I.ok,I.os,I.bare,⟨fun b o e n L B=>?_,fun b o e n L B=>?_,I.base.free,fun b o e B=>?_,I.base.tups,I.base.frzs,I.base.tbls⟩,⟨_,a4,fun j y v' l D e3=>?_⟩,fun y c e=>?_,I.free,I.freeC,fun p hp=>?_,g ⟨oL,a5,I.free⟩ f,by simpa using I.len⟩ ⟨_,f,.inl rfl⟩
  ·exact(f.2 b (Nat.ne_of_lt (Nat.lt_of_lt_of_le (bC e) I.ok.above))).trans (I.base.keep b o e n L B)
  ·obtain⟨sl,l⟩:=I.base.slot b o e n L B;exact⟨sl,(f.2 b (Nat.ne_of_lt (Nat.lt_of_lt_of_le (bC e) I.ok.above))).trans l⟩
  ·obtain⟨o',l⟩:=I.base.there b o e B;exact⟨o',(f.2 b (Nat.ne_of_lt (Nat.lt_of_lt_of_le (bC e) I.ok.above))).trans l⟩
  ·by_cases R:j=i
   ·subst R;rw[T] at l;cases l;rw[List.getElem?_set_self Z] at D;cases D;exact⟨u,r,.inl ⟨G,by simp⟩⟩
   ·rw[List.getElem?_set_ne (Ne.symm R)] at D;obtain⟨u',r',q⟩:=hl j y v' l D e3;refine⟨u',r',?_⟩;rcases q with⟨k,e⟩ | ⟨k,c,e,z⟩
    ·refine .inl ⟨k,?_⟩;have:y≠x:=fun e=>R (uK hN l (e▸T));simp[this,e]
    ·exact .inr ⟨k,c,e,z.sameBut f (cne y c e)⟩
  ·obtain⟨w',z⟩:=I.cell y c e;exact⟨w',z.sameBut f (cne y c e)⟩
  ·obtain⟨e,n,ne,nf,d⟩:=I.pin p hp;exact⟨(f.2 p.1 ne).trans e,n,ne,nf,d⟩
 ·have S:X.fn x=true:=by
   rcases hf with z | z
   ·exact z
   ·rw[z] at G;cases G
  obtain⟨c,t⟩:=I.ok.has x (.inl G);obtain⟨w',z⟩:=I.cell x c t;refine wpAny_storeName_cell I.ok.kind G t z (fun h' a0 f=>?_);obtain⟨oc,a1,a2⟩:=id z;refine h { s with heap:=h' } ⟨I.ok,I.os,I.bare,⟨fun b o e n L B=>?_,fun b o e n L B=>?_,I.base.free,fun b o e B=>?_,I.base.tups,I.base.frzs,I.base.tbls⟩,⟨m,hn.sameBut f (Ne.symm (cne x c t)),fun j y v' l D e3=>?_⟩,fun y c' e=>?_,I.free,I.freeC,fun p hp=>?_,g ⟨oc,a1,I.freeC x c t⟩ f,by simpa using I.len⟩ ⟨c,f,.inr t⟩
  ·exact(f.2 b (Nat.ne_of_lt (Nat.lt_of_lt_of_le (bC e) (I.ok.cab x c S t)))).trans (I.base.keep b o e n L B)
  ·obtain⟨sl,l⟩:=I.base.slot b o e n L B;exact⟨sl,(f.2 b (Nat.ne_of_lt (Nat.lt_of_lt_of_le (bC e) (I.ok.cab x c S t)))).trans l⟩
  ·obtain⟨o',l⟩:=I.base.there b o e B;exact⟨o',(f.2 b (Nat.ne_of_lt (Nat.lt_of_lt_of_le (bC e) (I.ok.cab x c S t)))).trans l⟩
  ·by_cases R:j=i
   ·subst R;rw[T] at l;cases l;rw[List.getElem?_set_self Z] at D;cases D;exact⟨u,r,.inr ⟨.inl G,c,t,a0⟩⟩
   ·rw[List.getElem?_set_ne (Ne.symm R)] at D;obtain⟨u',r',q⟩:=hl j y v' l D e3;refine⟨u',r',?_⟩;rcases q with q | ⟨k,c',e,z'⟩
    ·exact .inl q
    ·refine .inr ⟨k,c',e,z'.sameBut f ?_⟩;rintro rfl;exact R (uK hN l (I.ok.inj _ _ _ e t▸T))
  ·by_cases a3:c' = c
   ·subst a3;exact⟨_,a0⟩
   ·obtain⟨w2,z2⟩:=I.cell y c' e;exact⟨w2,z2.sameBut f a3⟩
  ·obtain⟨e,n,ne,nf,d⟩:=I.pin p hp;refine⟨(f.2 p.1 ?_).trans e,n,ne,nf,d⟩;intro q;rw[q,a1] at e;have q':oc=p.2:=Option.some.inj e;exact d w' (by rw[<-q'];exact a2)
theorem nC{M:Model}{A:Around}{E:Value->Shared->Prop}{i:Nat}{x:Str}{v:V}{u:Value}{Q:Unit->Shared->Prop}(I:Inv X O Y H s)(b:X.N.Nodup)(c:X.N[i]? = some x)(d:fO X.env.scope x)(r:bj v u)
  (h:∀a,Inv X O (Y.set i (some v)) H a->Q () a) (e:X.fn x=true\/X.env.scope.names.lookup x=some .local:=by first | exact .inl rfl | exact .inr rfl | assumption):wpAny M A (storeName X.env x u) Q E s:=
 yL I b c d r (fun a f _=>h a f) e
theorem Inv.call'{a:Shared}{ch:List Addr}(I:Inv X O Y H s)(g:a.os=s.os)(u:Un (bH X.stack) ch H J s.heap a.heap)(f:bG X.prog X.w J a.heap)(h:AllBare a.gens)
  (d:∀b∈ch,(b∈X.ex\/X.s₀.heap.objs.size<=b)/\b≠X.env.locals/\(∀x c,X.env.cells.lookup x=some c->c≠b)/\∀p∈X.pn++O,p.1≠b):Inv X O Y J a:=by
 obtain⟨h',i,j,t',k⟩:=a;have e:k = s.os:=g;subst e;exact I.call (g':=i) (t':=t') (d':=j) u f h d
end
abbrev XK:=Value->Option Addr->Hp->Prop
noncomputable abbrev St:=List (Option V)
abbrev VK:=V->Hp->Prop
abbrev TE:=St->Hp->VK->Prop
abbrev TT:=St->Hp->(Bool->Hp->Prop)->Prop
abbrev TA:=St->Hp->(List V->Hp->Prop)->Prop
structure eM where
 nx:St->Hp->Prop
 rt:VK
 bk:St->Hp->Prop:=fun _ _=>False
 ct:St->Hp->Prop:=fun _ _=>False
abbrev TS:=eM->St->Hp->Prop
def EP(X:Cx)(a:List (Addr×Obj))(Y:St)(Q:VK)(u:Value)(c:Shared):Prop:=∃v b,Inv X a Y b c/\bj v u/\Q v b
def TP(X:Cx)(a:List (Addr×Obj))(Y:St)(Q:Bool->Hp->Prop)(b:Bool)(d:Shared):Prop:=∃c,Inv X a Y c d/\Q b c
def AP(X:Cx)(a:List (Addr×Obj))(Y:St)(Q:List V->Hp->Prop)(d:List Value)(e:Shared):Prop:=∃b c,Inv X a Y c e/\be b d/\Q b c
def SP(X:Cx)(a:List (Addr×Obj))(D:eM)(f:Flow)(d:Shared):Prop:=
 match f with
 | .next=>∃c b,Inv X a c b d/\D.nx c b
 | .brk=>∃c b,Inv X a c b d/\D.bk c b
 | .cont=>∃c b,Inv X a c b d/\D.ct c b
 | .ret u=>∃v c b,Inv X a c b d/\bj v u/\D.rt v b
def PE(X:Cx)(e:Expr)(t:TE):Prop:=
 ∀(a:List (Addr×Obj)) (s:Shared) (Y:St) (H:Hp) (Q:VK),Inv X a Y H s->t Y H Q->wpAny (model X.prog X.w) X.A (eval e X.env) (EP X a Y Q) X.xe s
def PT(X:Cx)(e:Expr)(t:TT):Prop:=
 ∀(a:List (Addr×Obj)) (s:Shared) (Y:St) (H:Hp) (Q:Bool->Hp->Prop),Inv X a Y H s->t Y H Q->wpAny (model X.prog X.w) X.A (isTrue e X.env (eval e X.env)) (TP X a Y Q) X.xe s
def PW(X:Cx)(e:Expr)(t:TT):Prop:=
 ∀(whole:Sem Value) (a:List (Addr×Obj)) (s:Shared) (Y:St) (H:Hp) (Q:Bool->Hp->Prop),Inv X a Y H s->t Y H Q->wpAny (model X.prog X.w) X.A (isTrue e X.env whole) (TP X a Y Q) X.xe s
theorem PW.pt{X:Cx}{e:Expr}{t:TT}(h:PW X e t):PT X e t:=h _
def PA(X:Cx)(b:List Expr)(t:TA):Prop:=
 ∀(pos:Pos) (a:List (Addr×Obj)) (s:Shared) (Y:St) (H:Hp) (Q:List V->Hp->Prop),Inv X a Y H s->t Y H Q->wpAny (model X.prog X.w) X.A (spliced (backTo pos (starEach b X.env))) (AP X a Y Q) X.xe s
def PS(X:Cx)(st:Stmt)(t:TS):Prop:=
 ∀(a:List (Addr×Obj)) (s:Shared) (Y:St) (H:Hp) (D:eM),Inv X a Y H s->t D Y H->wpAny (model X.prog X.w) X.A (exec st X.env) (SP X a D) X.xe s
def PSs(X:Cx)(st:List Stmt)(t:TS):Prop:=
 ∀(a:List (Addr×Obj)) (s:Shared) (Y:St) (H:Hp) (D:eM),Inv X a Y H s->t D Y H->wpAny (model X.prog X.w) X.A (execs st X.env) (SP X a D) X.xe s
theorem aR{α:Type}{t:Sem α}{Q b:α->Shared->Prop}{M:Model}{A:Around}{E:Value->Shared->Prop}{s:Shared}(h:wpAny M A t Q E s)(c:∀a s,Q a s->b a s):wpAny M A t b E s:=wpAny_mono h c fun _ _ x=>x
section
variable{X:Cx}
noncomputable def cf(i:Nat):TE:=fun Y H Q=>∃v,Y[i]? = some (some v)/\Q v H
noncomputable def tC(v:V):TE:=fun _ H Q=>Q v H
theorem EF{i:Nat}{x:Str}{pos:Pos}(j:X.N[i]? = some x)(k:kJ X.env.scope x)(hd:(x==("__debug__":Str))=false:=by decide)(f:(x==("__classdict__":Str))=false:=by decide):PE X (.Name x pos) (cf i):=by
 intro d s Y H Q I h;obtain⟨v,e,h⟩:=h;obtain⟨m,n,o⟩:=I.loc;obtain⟨u,r,l⟩:=o i x v j e k;have fin:EP X d Y Q u s:=⟨v,H,I,r,h⟩
 rcases l with⟨b,p⟩ | ⟨b,c,g,a⟩
 ·exact wpAny_Name (wpAny_loadName_local I.ok.kind b n p fin) hd
 ·rcases b with b | b
  ·exact wpAny_Name (wpAny_loadName_cell I.ok.kind b g a fin) hd
  ·exact wpAny_Name (wpAny_loadName_free I.ok.kind b g a fin f) hd
theorem pN{i j pos}:PE X (.Constant (.int i) j pos) (tC (.int i)):=fun _ _ _ H _ I h=>wpAny_Constant_int ⟨.int i,H,I.tok _,⟨_,rfl⟩,h⟩
theorem EG{b j pos}:PE X (.Constant (.bool b) j pos) (tC (.bl b)):=fun _ _ _ H _ I h=>Constant_bool ⟨.bl b,H,I,rfl,h⟩
theorem yM{j pos}:PE X (.Constant .none j pos) (tC .non):=fun _ _ _ H _ I h=>Constant_none ⟨.non,H,I,rfl,h⟩
theorem yN{x j pos}:PE X (.Constant (.str x) j pos) (tC (.str x)):=fun _ _ _ H _ I h=>Calls.Constant_str ⟨.str x,H,I.tok _,⟨_,rfl⟩,h⟩
def Gl(X:Cx)(x:Str):Prop:=X.env.kindOf x=some .globalImplicit
theorem kK{E:Value->Shared->Prop}{a:List (Addr×Obj)}{s:Shared}{Y:St}{H:Hp}{x:Str}{u:Value}{pos:Pos}{Q:Value->Shared->Prop}(I:Inv X a Y H s)(b:Gl X x)(c:X.mg x=some u)(h:Q u s)
  (hd:(x==("__debug__":Str))=false:=by decide):wpAny (model X.prog X.w) X.A (eval (.Name x pos) X.env) Q E s:=
 Calls.Name_function_global I.ok.kind b (Calls.loadGlobal_global (by rw[I.ok.glob];exact I.mod.glob.keeps I.bk) c h) hd
theorem jG{E:Value->Shared->Prop}{a:List (Addr×Obj)}{s:Shared}{Y:St}{H:Hp}{x:Str}{u:Value}{pos:Pos}{Q:Value->Shared->Prop}(I:Inv X a Y H s)(b:Gl X x)(c:X.mg x=none)(d:bootBuiltins x=some u)(h:Q u s)
  (e:x≠"__name__":=by decide) (hd:(x==("__debug__":Str))=false:=by decide):wpAny (model X.prog X.w) X.A (eval (.Name x pos) X.env) Q E s:=by
 obtain⟨f,h1,h2⟩:=I.mod.blt;exact Calls.Name_function_global I.ok.kind b (Calls.loadGlobal_builtin (by rw[I.ok.glob];exact I.mod.glob.keeps I.bk) c (by rw[I.ok.blt];exact h1.keeps I.bk) ((h2 x e).trans d) h) hd
theorem nE{x:Str}{v:V}{u:Value}{pos:Pos}(a:Gl X x)(b:X.mg x=some u)(r:bj v u)(hd:(x==("__debug__":Str))=false:=by decide):PE X (.Name x pos) (tC v):=
 fun _ _ _ H _ I h=>kK I a b ⟨v,H,I,r,h⟩ hd
theorem im{x:Str}{v:V}{u:Value}{pos:Pos}(a:Gl X x)(b:X.mg x=none)(c:bootBuiltins x=some u)(r:bj v u)(d:x≠"__name__":=by decide)(hd:(x==("__debug__":Str))=false:=by decide):PE X (.Name x pos) (tC v):=
 fun _ _ _ H _ I h=>jG I a b c ⟨v,H,I,r,h⟩ d hd
variable{a b:Expr}{M L:TE}{pos:Pos}
noncomputable def tB(t:TE):TT:=fun Y H Q=>t Y H fun x d=>∃c,x=.bl c/\Q c d
theorem EH{e:Expr}{t:TE}(h:PE X e t)(f:∀whole,isTrue e X.env whole=(do let v <-whole;standAt e.pos;holding [v] (truthy v)):=by intro _;rfl):PT X e (tB t):=by intro c s Y H Q I g;refine isTrue_plain (aR (h c s Y H _ I g) fun v m ⟨x,i,j,k,l⟩=>?_) (f _);obtain⟨d,rfl,q⟩:=l;cases k;exact wpAny_truthy_bool ⟨i,j,q⟩
variable{G D:TT}{rest:List Expr}
noncomputable def EI(t u:TT):TT:=fun Y H Q=>t Y H fun c d=>if c=true then u Y d Q else Q false d
noncomputable def EJ(t u:TT):TT:=fun Y H Q=>t Y H fun c d=>if c=true then Q true d else u Y d Q
noncomputable def EK(t:TT):TT:=fun Y H Q=>t Y H fun c d=>Q (!c) d
theorem EL(f:PT X a G):PW X (.BoolOp .And [a] pos) G:=by
 intro g d s Y H Q I h;refine isTrue_and (aR (f d s Y H Q I h) fun c i e=>?_);cases c with
 | true=>exact isTrue_and_nil e
 | false=>exact e
theorem EM(f:PT X a G):PW X (.BoolOp .Or [a] pos) G:=by
 intro g d s Y H Q I h;refine isTrue_or (aR (f d s Y H Q I h) fun c i e=>?_);cases c with
 | false=>exact isTrue_or_nil e
 | true=>exact e
theorem EN(i:PT X a G)(j:PW X (.BoolOp .And (b::rest) pos) D):PW X (.BoolOp .And (a::b::rest) pos) (EI G D):=by
 intro k d s Y H Q I h;refine isTrue_and (aR (i d s Y H _ I h) fun c l ⟨e,f,g⟩=>?_);cases c with
 | true=>exact j k d l Y e Q f g
 | false=>exact⟨e,f,g⟩
theorem EO(i:PT X a G)(j:PW X (.BoolOp .Or (b::rest) pos) D):PW X (.BoolOp .Or (a::b::rest) pos) (EJ G D):=by
 intro k d s Y H Q I h;refine isTrue_or (aR (i d s Y H _ I h) fun c l ⟨e,f,g⟩=>?_);cases c with
 | true=>exact⟨e,f,g⟩
 | false=>exact j k d l Y e Q f g
theorem EQ(e:PT X a G):PT X (.UnaryOp .Not a pos) (EK G):=by intro d s Y H Q I h;exact isTrue_not (e d s Y H (fun c f=>Q (!c) f) I h)
noncomputable def ER(M L:TE):TE:=fun Y H Q=>M Y H fun x d=>∃c,x=.bl c/\if c=true then L Y d Q else Q (.bl false) d
noncomputable def ES(M L:TE):TE:=fun Y H Q=>M Y H fun x d=>∃c,x=.bl c/\if c=true then Q (.bl true) d else L Y d Q
noncomputable def ET(M:TE):TE:=fun Y H Q=>M Y H fun x d=>∃c,x=.bl c/\Q (.bl (!c)) d
theorem EU{op}{t:TE}(h:PE X a t):PE X (.BoolOp op [a] pos) t:=fun c s Y H Q I d=>BoolOp_one (h c s Y H Q I d)
theorem EV(i:PE X a M)(j:PE X (.BoolOp .And (b::rest) pos) L):PE X (.BoolOp .And (a::b::rest) pos) (ER M L):=by
 intro d s Y H Q I h;refine BoolOp_and (aR (i d s Y H _ I h) fun v k ⟨x,f,g,l,e⟩=>?_);obtain⟨c,rfl,e⟩:=e;cases l;refine wpAny_truthy_bool ?_;cases c with
 | true=>exact j d k Y f Q g e
 | false=>exact⟨.bl false,f,g,rfl,e⟩
theorem EW(i:PE X a M)(j:PE X (.BoolOp .Or (b::rest) pos) L):PE X (.BoolOp .Or (a::b::rest) pos) (ES M L):=by
 intro d s Y H Q I h;refine BoolOp_or (aR (i d s Y H _ I h) fun v k ⟨x,f,g,l,e⟩=>?_);obtain⟨c,rfl,e⟩:=e;cases l;refine wpAny_truthy_bool ?_;cases c with
 | false=>exact j d k Y f Q g e
 | true=>exact⟨.bl true,f,g,rfl,e⟩
theorem EY(f:PE X a M):PE X (.UnaryOp .Not a pos) (ET M):=by intro d s Y H Q I h;refine UnaryOp_ (aR (f d s Y H _ I h) fun v k ⟨x,g,i,j,e⟩=>?_);obtain⟨c,rfl,e⟩:=e;cases j;exact not_of (wpAny_truthy_bool ⟨.bl (!c),g,i,rfl,e⟩)
noncomputable def EZ(t:TT)(M L:TE):TE:=fun Y H Q=>t Y H fun c d=>if c=true then M Y d Q else L Y d Q
theorem Fa{c:Expr}(k:PT X c G)(l:PE X a M)(m:PE X b L):PE X (.IfExp c a b pos) (EZ G M L):=by
 intro e s Y H Q I h;refine wpAny_IfExp (aR (k e s Y H _ I h) fun d f ⟨g,i,j⟩=>?_);cases d with
 | true=>exact l e f Y g Q i j
 | false=>exact m e f Y g Q i j
end
def df(K:Frag)(H:Hp)(a:Addr)(c:List V):Prop:=
 Rd H a (.lst c)\/
  ∃(o:Obj) (b:Array Value) (n:Nat),K.lookup a=some o/\o.cls=.type "list"/\o.dict=none/\o.data=.seq b n/\b.size<=sizeLine/\be c b.toList
def ei(K:Frag)(H:Hp)(a:Addr)(c:List V):Prop:=
 Rd H a (.tup c)\/
  ∃(o:Obj) (b:Array Value) (n:Nat),K.lookup a=some o/\o.cls=.type "tuple"/\o.data=.seq b n/\b.size<=sizeLine/\be c b.toList
noncomputable def Fb:Value->Option V
 | .none=>some .non
 | .bool b=>some (.bl b)
 | .int i _=>some (.int i)
 | .str x _=>some (.str x)
 | .bytes b _=>some (.byt b)
 | .float b _=>some (.flt b)
 | .ref a=>some (.ref a)
 | .type n=>some (.ty n)
 | _=>none
theorem bj.abs{x:V}{u:Value}(r:bj x u):Fb u=some x:=by
 cases x with
 | non=>cases r;rfl
 | bl _=>cases r;rfl
 | int _=>obtain⟨t,rfl⟩:=r;rfl
 | str _=>obtain⟨t,rfl⟩:=r;rfl
 | byt _=>obtain⟨t,rfl⟩:=r;rfl
 | flt _=>obtain⟨t,rfl⟩:=r;rfl
 | ref _=>cases r;rfl
 | ty _=>cases r;rfl
theorem bj.inj{x y:V}{u:Value}(r:bj x u)(q:bj y u):x=y:=Option.some.inj (r.abs.symm.trans q.abs)
theorem be.inj:∀{a b:List V}{c:List Value},be a c->be b c->a=b
 | _,_,_,.nil,.nil=>rfl
 | _,_,_,.cons r t,.cons d t'=>by rw[r.inj d,be.inj t t']
section
variable{X:Cx}{Q:List (Addr×Obj)}{Y:St}{H:Hp}{s:Shared}{a:Addr}{N E:List V}
theorem df.of{K:Frag}(h:H a=some (.lst N)):df K H a N:=.inl (.inl h)
theorem Inv.list(I:Inv X Q Y H s)(h:df X.K H a N):∃b:List Value,be N b/\PlainL s.heap a b.toArray/\N.length<=sizeLine:=by
 rcases h with h | ⟨o,b,n,c,d,hd,f,g,r⟩
 ·obtain⟨z,b,n,r,e⟩:=h.ok I.hok;exact⟨b,r,⟨_,n,e,rfl,rfl,rfl⟩,z⟩
 ·refine⟨b.toList,r,⟨o,n,I.kIn a o c,d,hd,by simpa using f⟩,?_⟩;have e:=r.length;simp only[Array.length_toList] at e;omega
theorem Inv.tuple(I:Inv X Q Y H s)(h:ei X.K H a N):∃b:List Value,be N b/\IsTup s.heap a b.toArray/\N.length<=sizeLine:=by
 rcases h with h | ⟨o,b,n,c,d,f,g,r⟩
 ·obtain⟨z,b,r,p⟩:=h.ok I.hok;exact⟨b,r,p,z⟩
 ·refine⟨b.toList,r,⟨o,I.kIn a o c,d,n,by simpa using f⟩,?_⟩;have e:=r.length;simp only[Array.length_toList] at e;omega
theorem Inv.list_inj(I:Inv X Q Y H s)(h:df X.K H a N)(i:df X.K H a E):N=E:=by
 obtain⟨c,r,⟨o,n,e,_,_,d⟩,_⟩:=I.list h;obtain⟨b,j,⟨l,m,f,_,_,g⟩,_⟩:=I.list i;rw[e] at f;cases f;rw[d] at g;injection g with k _
 have:c=b:=by simpa using congrArg Array.toList k
 subst this;exact r.inj j
theorem Inv.tuple_inj(I:Inv X Q Y H s)(h:ei X.K H a N)(i:ei X.K H a E):N=E:=by
 obtain⟨c,r,⟨o,e,_,n,d⟩,_⟩:=I.tuple h;obtain⟨b,j,⟨l,f,_,m,g⟩,_⟩:=I.tuple i;rw[e] at f;cases f;rw[d] at g;injection g with k _
 have:c=b:=by simpa using congrArg Array.toList k
 subst this;exact r.inj j
end
section
variable{X:Cx}{st:Stmt}{rest:List Stmt}{t u:TS}{e:Expr}{C:TE}{pos:Pos}
noncomputable def Fc:TS:=fun D Y H=>D.nx Y H
noncomputable def Fd(t u:TS):TS:=fun D Y H=>t { D with nx:=u D } Y H
theorem Fe:PSs X [] Fc:=fun _ _ Y H _ I h=>wpAny_execs_nil ⟨Y,H,I,h⟩
theorem Ff(i:PS X st t)(j:PSs X rest u):PSs X (st::rest) (Fd t u):=by
 intro a s Y H D I h;refine wpAny_execs_cons (aR (i a s Y H { D with nx:=u D } I h) fun f b q=>?_);cases f with
 | next=>obtain⟨c,d,g,q⟩:=q;exact j a b c d D g q
 | ret v=>exact q
 | brk=>exact q
 | cont=>exact q
theorem Fg(b:PS X st t):PSs X [st] t:=by
 intro a s Y H D I h;refine wpAny_execs_cons (aR (b a s Y H D I h) fun f c q=>?_);cases f with
 | next=>exact wpAny_execs_nil q
 | ret v=>exact q
 | brk=>exact q
 | cont=>exact q
theorem Inv.quiet{a:List (Addr×Obj)}{Y:St}{H:Hp}{s:Shared}(I:Inv X a Y H s):interactive X.env=false:=by simp[interactive,I.ok.kind]
noncomputable def Fh(C:TE):TS:=fun D Y H=>C Y H fun _ a=>D.nx Y a
theorem pO(b:PE X e C)(c:swapsWith e none pos.line X.env=pure false:=by rfl):PS X (.Expr e pos) (Fh C):=by intro a s Y H D I h;exact wpAny_Expr_any (aR (b a s Y H _ I h) fun v i ⟨x,d,f,j,g⟩=>⟨Y,d,f,g⟩) I.quiet c
noncomputable def Fi(C:TE):TS:=fun D Y H=>C Y H D.rt
theorem yO(b:PE X e C):PS X (.Return (some e) pos) (Fi C):=by intro a s Y H D I h;exact wpAny_Return_some (aR (b a s Y H _ I h) fun v i ⟨x,c,d,f,g⟩=>⟨x,Y,c,d,f,g⟩)
noncomputable def Fj(c:TT)(t u:TS):TS:=fun D Y H=>c Y H fun b a=>if b=true then t D Y a else u D Y a
theorem Fk{c:Expr}{a b:List Stmt}{g:TT}(m:PT X c g)(n:PSs X a t)(o:PSs X b u):PS X (.If c a b pos) (Fj g t u):=by
 intro f s Y H D I h;refine wpAny_If (aR (m f s Y H _ I h) fun d i ⟨j,k,l⟩=>?_);cases d with
 | true=>exact n f i Y j D k l
 | false=>exact o f i Y j D k l
end
abbrev TG:=V->St->Hp->(St->Hp->Prop)->Prop
abbrev jb:=List V->St->Hp->(St->Hp->Prop)->Prop
def PG(X:Cx)(target:Expr)(t:TG):Prop:=
 ∀(a:List (Addr×Obj)) (s:Shared) (Y:St) (H:Hp) (v:V) (u:Value) (Q:St->Hp->Prop),Inv X a Y H s->bj v u->t v Y H Q->
  wpAny (model X.prog X.w) X.A (assign target X.env u) (fun _ d=>∃b c,Inv X a b c d/\Q b c) X.xe s
def PGs(X:Cx)(f:List Expr)(t:jb):Prop:=
 ∀(a:List (Addr×Obj)) (s:Shared) (Y:St) (H:Hp) (b:List V) (c:List Value) (Q:St->Hp->Prop),Inv X a Y H s->be b c->t b Y H Q->
  wpAny (model X.prog X.w) X.A (assignInOrder ((assignEach f X.env).map (·.2)) c) (fun _ g=>∃d e,Inv X a d e g/\Q d e) X.xe s
abbrev uL:=V->V->V->Hp->(Hp->Prop)->Prop
def yP(X:Cx)(t:uL):Prop:=
 ∀(a:List (Addr×Obj)) (s:Shared) (Y:St) (H:Hp) (o i v:V) (b c u:Value) (Q:Hp->Prop),Inv X a Y H s->bj o b->bj i c->bj v u->t o i v H Q->
  wpAny (model X.prog X.w) X.A (setItem b c u) (fun _ e=>∃d,Inv X a Y d e/\Q d) X.xe s
section
variable{X:Cx}{pos:Pos}
noncomputable def pP(i:Nat):TG:=fun v Y H Q=>Q (Y.set i (some v)) H
theorem uM{i:Nat}{x:Str}(b:X.N.Nodup)(c:X.N[i]? = some x)(d:fO X.env.scope x)(e:X.fn x=true\/X.env.scope.names.lookup x=some .local:=by first | exact .inl rfl | exact .inr rfl | assumption):PG X (.Name x pos) (pP i):=by intro a s Y H v u Q I r h;exact wpAny_assign_Name (nC I b c d r (fun g f=>⟨_,H,f,h⟩) e)
noncomputable def Fm:jb:=fun a Y H Q=>a=[]/\Q Y H
noncomputable def Fo(t:TG)(u:jb):jb:=fun a Y H Q=>∃v r,a=v::r/\t v Y H fun b c=>u r b c Q
theorem yQ:PGs X [] Fm:=by intro a s Y H b c Q I r h;obtain⟨e,h⟩:=h;subst e;cases r;exact assignInOrder_nil ⟨Y,H,I,h⟩
theorem uN{e:Expr}{b:List Expr}{t:TG}{u:jb}(m:PG X e t)(n:PGs X b u)
  (c:(assignEach (e::b) X.env).map (·.2)=assign e X.env::(assignEach b X.env).map (·.2):=by rfl):PGs X (e::b) (Fo t u):=by
 intro a s Y H o p Q I r h;obtain⟨v,q,d,h⟩:=h;subst d;cases r with
 | cons r f=>rw[c];refine assignInOrder_cons (aR (m a s Y H _ _ _ I r h) fun _ g ⟨i,j,k,l⟩=>?_);exact n a g i j _ _ Q k f l
noncomputable def Fp(K:Frag)(n:Nat)(t:jb):TG:=fun v Y H Q=>∃a b,v=.ref a/\ei K H a b/\b.length=n/\t b Y H Q
theorem yR{d:List Expr}{k:Nat}{t:jb}{n:Nat}(j:X.calm=true)(h:PGs X d t)
  (l:(assignEach d X.env).length=n:=by rfl) (f:(assignEach d X.env).findIdx? (·.1)=none:=by rfl):PG X (.Tuple d k pos) (Fp X.K n t):=by
 intro c s Y H v u Q I r g;obtain⟨a,m,p,q,w,g⟩:=g;subst p;cases r;obtain⟨x,i,y,C⟩:=I.tuple q;refine assign_Tuple_tuple (I.ok.hd j) y (by simp[l,<-w,i.length]) f fun z A=>?_;have B:Inv X c Y H { s with heap:=z }:=I.kept (t':=s.toks) fun b o e=>A b o (Nat.ne_of_lt (bC e)) e;exact h c _ Y H m _ Q B (by simpa using i) g
noncomputable def jc(d e:TE)(t:uL):TG:=fun v Y H Q=>d Y H fun o a=>e Y a fun i b=>t o i v b fun c=>Q Y c
theorem Fq{o i:Expr}{d e:TE}{t:uL}(f:PE X o d)(g:PE X i e)(j:yP X t)
  (k:∀v,assign (.Subscript o i pos) X.env v=(do
   let b <-holding [v] (eval o X.env);let c <-holding [v,b] (eval i X.env)
   standAt pos
   holding [v,b,c] (setItem b c v)
   release [v,b,c] []):=by intro _;rfl):PG X (.Subscript o i pos) (jc d e t):=by
 intro a s Y H v u Q I r h;rw[k];refine az (wpAny_holding (aR (f a s Y H _ I h) fun b l ⟨x,m,n,p,q⟩=>?_));refine az (wpAny_holding (aR (g a l Y m _ n q) fun c w ⟨y,z,A,B,C⟩=>?_));refine az (wpAny_standAt (az (wpAny_holding (aR (j a w Y z x y v b c u _ A p B r C) fun _ J ⟨D,E,G⟩=>?_))));exact wpAny_release ⟨Y,D,E,G⟩
noncomputable def uO(a:TE)(g:TG):TS:=fun D Y H=>a Y H fun x b=>g x Y b D.nx
theorem uP{b e:Expr}{c:TE}{g:TG}(d:PE X e c)(f:PG X b g)(i:swapsWithSole [b] e pos.line X.env=pure false:=by rfl)(j:swappedStores [b] e X.env=pure none:=by rfl)
  (p:(assignEach [b] X.env).map (·.2)=[assign b X.env]:=by rfl):PS X (.Assign [b] e pos) (uO c g):=by
 intro a s Y H D I h;refine wpAny_Assign_stores (aR (d a s Y H _ I h) fun v k ⟨x,l,m,n,o⟩=>?_) i j;rw[p];exact aR (f a k Y l x v _ m n o) fun _ r q=>q
theorem yS{i:Nat}{x:Str}{e:Expr}{c:TE}{a:Pos}(d:X.N.Nodup)(f:X.N[i]? = some x)(g:fO X.env.scope x)(j:PE X e c)(k:swapsWith e (some (.Name x a)) pos.line X.env=pure false:=by rfl)(l:X.fn x=true\/X.env.scope.names.lookup x=some .local:=by first | exact .inl rfl | exact .inr rfl | assumption) :
  PS X (.Assign [.Name x a] e pos) (uO c (pP i)):=by
 intro b s Y H D I h;refine wpAny_Assign_Name (aR (j b s Y H _ I h) fun v r ⟨y,m,n,o,p⟩=>?_) k;exact nC n d f g o (fun t q=>⟨_,m,q,p⟩) l
noncomputable def Fs(i j:Nat)(a:TA):TS:=fun D Y H=>a Y H fun b c=>∃v w,b=[v,w]/\D.nx ((Y.set i (some v)).set j (some w)) c
theorem yT{i j:Nat}{x y:Str}{a b:Expr}{z:TA}{k py pt:Pos}{l m gR}(L:X.calm=true)(B:X.N.Nodup)(M:X.N[i]? = some x)(O:X.N[j]? = some y)(n:i≠j)
  (C:X.env.scope.names.lookup x=some .local) (E:X.env.scope.names.lookup y=some .local) (Q:PA X [a,b] z)
  (R:swappedStores [.Tuple [.Name x k,.Name y py] l pt] (.Tuple [a,b] m gR) X.env=pure (some [x,y]))
  (S:swapsWithSole [.Tuple [.Name x k,.Name y py] l pt] (.Tuple [a,b] m gR) pos.line X.env=pure false:=by rfl) :
  PS X (.Assign [.Tuple [.Name x k,.Name y py] l pt] (.Tuple [a,b] m gR) pos) (Fs i j z):=by
 intro c s Y H D I h;rw[exec_Assign_arm];refine az (wpAny_standAt ?_);rw[S];refine az (bp ?_);rw[if_neg (by decide)];refine az (Tuple_ (aR (Q _ c s Y H _ I h) fun T d ⟨vs,G,U,Z,r⟩=>?_));obtain⟨v,w,e1,r⟩:=r;subst e1;obtain⟨f,g,rfl,rv,t⟩:∃f g,T=[f,g]/\bj v f/\bj w g:=by
  cases Z with
  | cons p q=>
   cases q with
   | cons p' q'=>cases q';exact⟨_,_,rfl,p,p'⟩
 refine wpAny_newObj_type ?_ (by show 2<=sizeLine;decide);have I2:Inv X c Y G { d with heap:=d.heap.push { cls:=.type "tuple",data:=.seq [f,g].toArray } }:=U.kept (t':=d.toks) fun b o e=>br _ e;rw[R];refine az (bp ?_);show wpAny (model X.prog X.w) X.A (do rule "assign.swapped-stores";let items <-unpackItems (.ref d.heap.objs.size) 2 none;assignInOrder [fun v=>bindName X.env y v,fun v=>bindName X.env x v] items.reverse;pure Flow.next) _ _ _;refine az (wpAny_rule (az (unpackItems_tuple (items:=#[f,g]) (I.ok.hd L) (IsTup.new d.heap _) fun h' u=>?_)));have I3:=I2.kept (h':=h') (t':=d.toks) fun b o e=>u b o (Nat.ne_of_lt (bC e)) e;show wpAny _ _ (assignInOrder [fun v=>bindName X.env y v,fun v=>bindName X.env x v] [g,f] >>= fun _=>pure Flow.next) _ _ _;refine az (assignInOrder_cons (wpAny_bindName (nC I3 B O (.inl E) t (fun s2 I4=>?_) (.inr E))));refine assignInOrder_cons (wpAny_bindName (nC I4 B M (.inl C) rv (fun s3 J=>assignInOrder_nil (bp ?_)) (.inr C)));rw[List.set_comm _ _ (Ne.symm n)] at J;exact⟨_,G,J,r⟩
end
structure It where
 go:Nat->Hp->Prop
 yld:Nat->Hp->V->Hp->Prop
 stop:Nat->Hp->Prop
def gU(X:Cx)(a:List (Addr×Obj))(H:Hp)(b:Addr):Prop:=
 H b=none/\b≠X.env.locals/\b∉X.fs/\(b∈X.ex\/X.s₀.heap.objs.size<=b)/\(∀x c,X.env.cells.lookup x=some c->c≠b)/\∀p∈X.pn++a,p.1≠b
theorem Inv.fpOk{X:Cx}{a:List (Addr×Obj)}{Y:St}{H f:Hp}{s:Shared}{b:Addr}(I:Inv X a Y H s)(d:s.heap.objs.size<=b)(g:f b=none):gU X a f b:=by
 refine⟨g,Nat.ne_of_gt (Nat.lt_of_lt_of_le I.lt d),I.nofs d,.inr (Nat.le_trans I.sz d),fun x c e z=>?_,fun p h z=>?_⟩
 ·obtain⟨v,q⟩:=I.cell x c e;exact absurd (Nat.lt_of_lt_of_le q.lt (by rw[z];exact d)) (Nat.lt_irrefl _)
 ·exact absurd (Nat.lt_of_lt_of_le (bC (I.pin p h).1) (by rw[z];exact d)) (Nat.lt_irrefl _)
structure gV (P:Program) (w:World) (K:Frag) (tg:Expr) (J:It) (fp:List Addr) (it:Addr) (tn:Nat->Heap->Prop):Prop where
 mem:it∈fp
 obj:∀i h,tn i h->∀b∈fp,∃o,h.get? b=some o/\∀v,o.data≠.cell v
 keep:∀i h h',tn i h->(∀b∈fp,∀o,h.get? b=some o->h'.get? b=some o)->tn i h'
 item:∀(X:Cx),X.prog=P->X.w=w->X.K=K->X.calm=true->∀(i:Nat) (pins:List (Addr×Obj)) (s:Shared) (Y:St) (H:Hp) (E:Value->Shared->Prop),Inv X pins Y H s->(∀b∈fp,gU X pins H b)->tn i s.heap->J.go i H->
  wpAny (model P w) X.A (pyNext (.ref it)) (fun r s1=>∃u,r=some u/\
   wpAny (model P w) X.A (letOwnedTupleGo tg (.ref it) u) (fun _ s2=>∃x H',Inv X pins Y H' s2/\bj x u/\J.yld i H x H'/\tn (i+1) s2.heap/\∀b∈fp,H' b=none) E s1) E s
 done:∀(X:Cx),X.prog=P->X.w=w->X.K=K->X.calm=true->∀(i:Nat) (pins:List (Addr×Obj)) (s:Shared) (Y:St) (H:Hp) (E:Value->Shared->Prop),Inv X pins Y H s->(∀b∈fp,gU X pins H b)->tn i s.heap->J.stop i H->
  wpAny (model P w) X.A (pyNext (.ref it)) (fun r s1=>r=none/\Inv X pins Y H s1) E s
 self:∀(A:Around) (i:Nat) (s:Shared) (Q:Value->Shared->Prop) (E:Value->Shared->Prop),tn i s.heap->Q (.ref it) s->wpAny (model P w) A (pyIter (.ref it)) Q E s
abbrev TI:=St->Hp->(It->Hp->Prop)->Prop
def yU(X:Cx)(a:List (Addr×Obj))(Y:St)(h:Expr)(R:It->Hp->Prop)(c:Value)(e:Shared):Prop:=
 ∃(it:Addr) (f:List Addr) (g:Nat->Heap->Prop) (J:It) (d:Hp),c=.ref it/\Inv X a Y d e/\gV X.prog X.w X.K h J f it g/\g 0 e.heap/\(∀b∈f,gU X a d b)/\R J d
def PI(X:Cx)(b iter:Expr)(c:TI):Prop:=
 ∀(a:List (Addr×Obj)) (s:Shared) (Y:St) (H:Hp) (R:It->Hp->Prop),Inv X a Y H s->c Y H R->
  wpAny (model X.prog X.w) X.A (eval iter X.env) (fun v d=>wpAny (model X.prog X.w) X.A (pyIter v) (yU X a Y b R) X.xe d) X.xe s
theorem pQ{M:Model}{A:Around}{E:Value->Shared->Prop}{s:Shared}{b:Expr}{it:Addr}{u:Value}{o:Obj}{n:String}{c:Array Value}{Q:Unit->Shared->Prop}(d:s.heap.get? it=some o)(e:o.cls=.type n)(hd:o.data=.fields c)
    (f:["enumerate","zip","dict_itemiterator","dict_reverseitemiterator","odict_iterator","itertools.zip_longest","itertools.pairwise"].contains n=false) (a:Q () s):wpAny M A (letOwnedTupleGo b (.ref it) u) Q E s:=by
  unfold letOwnedTupleGo;cases b<;>first
    | exact bp a
    | (cases u<;>first
        | exact bp a
        | (refine az (wpAny_load d ?_)
           rw[e,hd];show wpAny M A (if (["enumerate","zip","dict_itemiterator","dict_reverseitemiterator","odict_iterator","itertools.zip_longest","itertools.pairwise"].contains n&&c[0]?==some (rawInt _))=true then _ else _) Q E s;rw[if_neg (by intro h;rw[f,Bool.false_and] at h;cases h)];exact bp a))
noncomputable def uQ(K:Frag)(a:Addr):It:=
 ⟨fun i H=>∃b x,df K H a b/\b[i]? = some x,fun i H x c=>c = H/\∀b,df K H a b->b[i]? = some x,fun i H=>∃b,df K H a b/\b.length<=i⟩
noncomputable def pR(K:Frag)(a:Addr):It:=
 ⟨fun i H=>∃b x,ei K H a b/\b[i]? = some x,fun i H x c=>c = H/\∀b,ei K H a b->b[i]? = some x,fun i H=>∃b,ei K H a b/\b.length<=i⟩
noncomputable def pS(lo:Int)(n:Nat):It:=⟨fun i _=>i<n,fun i H x a=>a = H/\x=.int (lo+i),fun i _=>n<=i⟩
theorem Ft{P:Program}{w:World}{K:Frag}{tg:Expr}(a it:Addr):gV P w K tg (uQ K a) [it] it (fun i h=>h.IsListIter it a i) where
 mem:=by simp
 obj:=fun i h st b hb=>by
  have e:b=it:=by simpa using hb
  subst e;obtain⟨o,e,c,d⟩:=st;exact⟨o,e,fun v z=>by rw[d] at z;cases z⟩
 keep:=fun i h h' st k=>st.at fun o e=>k it (by simp) o e
 item:=by intro X hP hw hK hc i pins s Y H E I hf st hg;subst hP hw hK;obtain⟨xs,x,hq,hx⟩:=hg;obtain⟨its,rv,p,hz⟩:=I.list hq;obtain⟨u,hu,ru⟩:=rv.get hx;obtain⟨f0,f1,f2,f3,f4,f5⟩:=hf it (by simp);refine wpAny_pyNext_list_item st p.isList (x:=u) (by simpa using hu) fun h' st' sb=>?_;have I1:Inv X pins Y H { s with heap:=h' }:=I.turned (t':=s.toks) (fun b o hb e=>(sb.2 b hb).trans e) f0 f1 f3 f4 f5;obtain⟨o,e,c,d⟩:=id st';exact⟨u,rfl,pQ (s:={ s with heap:=h' }) e c d (by decide) ⟨x,H,I1,ru,⟨rfl,fun ys hy=>by rw[I.list_inj hy hq];exact hx⟩,st',fun b hb=>(hf b hb).1⟩⟩
 done:=by intro X hP hw hK hc i pins s Y H E I hf st hg;subst hP hw hK;obtain⟨xs,hq,hx⟩:=hg;obtain⟨its,rv,p,hz⟩:=I.list hq;obtain⟨f0,f1,f2,f3,f4,f5⟩:=hf it (by simp);have hl:=rv.length;exact wpAny_pyNext_list_end (I.ok.hd hc) st p.isList (by simp;omega) fun h' eb=>⟨rfl,I.turned (t':=s.toks) (fun b o hb e=>eb b o hb e) f0 f1 f3 f4 f5⟩
 self:=fun _ _ _ _ _ st h=>wpAny_pyIter_listiter st h
theorem Fu{P:Program}{w:World}{K:Frag}{tg:Expr}(a it:Addr):gV P w K tg (pR K a) [it] it (fun i h=>h.IsTupleIter it a i) where
 mem:=by simp
 obj:=fun i h st b hb=>by
  have e:b=it:=by simpa using hb
  subst e;obtain⟨o,e,c,d⟩:=st;exact⟨o,e,fun v z=>by rw[d] at z;cases z⟩
 keep:=fun i h h' st k=>st.at fun o e=>k it (by simp) o e
 item:=by intro X hP hw hK hc i pins s Y H E I hf st hg;subst hP hw hK;obtain⟨xs,x,hq,hx⟩:=hg;obtain⟨its,rv,p,hz⟩:=I.tuple hq;obtain⟨u,hu,ru⟩:=rv.get hx;obtain⟨f0,f1,f2,f3,f4,f5⟩:=hf it (by simp);refine wpAny_pyNext_tuple_item st (show s.heap.IsTuple a its.toArray from p) (x:=u) (by simpa using hu) fun h' st' sb=>?_;have I1:Inv X pins Y H { s with heap:=h' }:=I.turned (t':=s.toks) (fun b o hb e=>(sb.2 b hb).trans e) f0 f1 f3 f4 f5;obtain⟨o,e,c,d⟩:=id st';exact⟨u,rfl,pQ (s:={ s with heap:=h' }) e c d (by decide) ⟨x,H,I1,ru,⟨rfl,fun ys hy=>by rw[I.tuple_inj hy hq];exact hx⟩,st',fun b hb=>(hf b hb).1⟩⟩
 done:=by intro X hP hw hK hc i pins s Y H E I hf st hg;subst hP hw hK;obtain⟨xs,hq,hx⟩:=hg;obtain⟨its,rv,p,hz⟩:=I.tuple hq;obtain⟨f0,f1,f2,f3,f4,f5⟩:=hf it (by simp);have hl:=rv.length;exact wpAny_pyNext_tuple_end (I.ok.hd hc) st (show s.heap.IsTuple a its.toArray from p) (by simp;omega) fun h' eb=>⟨rfl,I.turned (t':=s.toks) (fun b o hb e=>eb b o hb e) f0 f1 f3 f4 f5⟩
 self:=fun _ _ _ _ _ st h=>wpAny_pyIter_tupleiter st h
theorem Fv{P:Program}{w:World}{K:Frag}{tg:Expr}(it:Addr)(lo:Int)(n:Nat):gV P w K tg (pS lo n) [it] it (fun i h=>IsRangeIter h it (lo+(i:Nat) * 1) ((n:Int) - (i:Nat)) 1) where
 mem:=by simp
 obj:=fun i h st b hb=>by
  have e:b=it:=by simpa using hb
  subst e;exact⟨_,st,fun v z=>by
   have z':Data.fields _=Data.cell v:=z;cases z'⟩
 keep:=fun i h h' st k=>k it (by simp) _ st
 item:=by intro X hP hw hK hc i pins s Y H E I hf st hg;subst hP hw hK;obtain⟨f0,f1,f2,f3,f4,f5⟩:=hf it (by simp);have W:=Walks.range (prog:=X.prog) (w:=X.w) (I.ok.hd hc) it lo 1 n;refine W.item i s _ _ hg st fun v h' tk hv st' kk=>?_;obtain⟨t,rfl⟩:=hv;have I1:Inv X pins Y H { s with heap:=h',toks:=tk }:=I.turned (fun b o hb e=>kk b o (by simpa using hb) e) f0 f1 f3 f4 f5;refine⟨_,rfl,pQ (s:={ s with heap:=h',toks:=tk }) (n:="range_iterator") st' rfl rfl (by decide) ⟨.int (lo+i),H,I1,⟨t,?_⟩,⟨rfl,rfl⟩,st',fun b hb=>(hf b hb).1⟩⟩;rw[Int.mul_one]
 done:=by intro X hP hw hK hc i pins s Y H E I hf st hg;subst hP hw hK;obtain⟨f0,f1,f2,f3,f4,f5⟩:=hf it (by simp);exact wpAny_pyNext_range_end (I.ok.hd hc) st (by have:n<=i:=hg;omega) fun h' eb=>⟨rfl,I.turned (t':=s.toks) (fun b o hb e=>eb b o hb e) f0 f1 f3 f4 f5⟩
 self:=fun _ _ _ _ _ st h=>wpAny_pyIter_rangeiter st h
section
variable{X:Cx}{B:Expr}
noncomputable def Fw(K:Frag)(c:TE):TI:=fun Y H R=>c Y H fun x b=>∃a,x=.ref a/\(∃d,df K b a d)/\R (uQ K a) b
noncomputable def Fy(K:Frag)(c:TE):TI:=fun Y H R=>c Y H fun x b=>∃a,x=.ref a/\(∃d,ei K b a d)/\R (pR K a) b
theorem Fz{l:Expr}{g:TE}(i:PE X l g):PI X B l (Fw X.K g):=by
 intro c s Y H R I h;refine aR (i c s Y H _ I h) fun v d ⟨x,j,f,k,m⟩=>?_;obtain⟨a,e,⟨u,n⟩,q⟩:=m;subst e;cases k;obtain⟨r,w,p,y⟩:=f.list n;refine wpAny_pyIter_list p.isList ?_;refine⟨d.heap.objs.size,[d.heap.objs.size],_,_,j,rfl,f.kept (t':=d.toks) fun b o e=>br _ e,Ft a _,⟨_,Heap.get?_push_size _ rfl,rfl,rfl⟩,fun b t=>?_,q⟩;have e:b=d.heap.objs.size:=by simpa using t
 subst e;exact f.fpOk (bF _) (f.hok.fresh (bF _))
theorem yV{l:Expr}{i:TE}(j:PE X l i):PI X B l (Fy X.K i):=by
 intro c s Y H R I h;refine aR (j c s Y H _ I h) fun v d ⟨x,k,f,m,n⟩=>?_;obtain⟨a,e,⟨u,r⟩,q⟩:=n;subst e;cases m;obtain⟨g,w,p,y⟩:=f.tuple r;refine wpAny_pyIter_tuple (show d.heap.IsTuple a g.toArray from p) ?_;refine⟨d.heap.objs.size,[d.heap.objs.size],_,_,k,rfl,f.kept (t':=d.toks) fun b o e=>br _ e,Fu a _,⟨_,Heap.get?_push_size _ rfl,rfl,rfl⟩,fun b t=>?_,q⟩;have e:b=d.heap.objs.size:=by simpa using t
 subst e;exact f.fpOk (bF _) (f.hok.fresh (bF _))
theorem FC{c:List (Addr×Obj)}{Y:St}{H:Hp}{s:Shared}{R:It->Hp->Prop}{E:Value->Shared->Prop}{lo a:Int}{t u v:Tok}{d:Nat}(I:Inv X c Y H s)(k:-(2 ^ 62)<=lo)(l:lo<2 ^ 62)(m:-(2 ^ 62)<=a)(g:a<2 ^ 62)
  (q:R (pS lo (a - lo).toNat) H):wpAny (model X.prog X.w) X.A (pyIter (.ref s.heap.objs.size)) (yU X c Y B R) E { s with heap:=s.heap.push { cls:=.type "range",data:=.fields #[.int lo t,.int a u,.int 1 v] },toks:=d }:=by
 refine wpAny_pyIter_range (IsRange.new ..) (small_one k l m g) ?_;have f:Inv X c Y H { s with heap:=s.heap.push { cls:=.type "range",data:=.fields #[.int lo t,.int a u,.int 1 v] },toks:=d }:=I.kept fun b o e=>br _ e;refine⟨(s.heap.push { cls:=.type "range",data:=.fields #[.int lo t,.int a u,.int 1 v] }).objs.size,[(s.heap.push { cls:=.type "range",data:=.fields #[.int lo t,.int a u,.int 1 v] }).objs.size],_,_,H,rfl,
  f.kept (t':=d) fun b o e=>br _ e,Fv _ lo (a - lo).toNat,?_,fun b h=>?_,q⟩
 ·have i:lo+((0:Nat):Int) * 1=lo:=by simp
  have j:(((a - lo).toNat:Nat):Int) - ((0:Nat):Int)=Builtin.Range.rangeSize lo a 1:=by rw[rangeSize_one];split<;>omega
  show IsRangeIter _ _ (lo+((0:Nat):Int) * 1) ((((a - lo).toNat:Nat):Int) - ((0:Nat):Int)) 1;rw[i,j];exact Heap.get?_push_size _ rfl
 ·have e:b=(s.heap.push { cls:=.type "range",data:=.fields #[.int lo t,.int a u,.int 1 v] }).objs.size:=by simpa using h
  subst e;exact f.fpOk (bF _) (f.hok.fresh (bF _))
noncomputable def FF(a:TA):TI:=fun Y H R=>a Y H fun b c=>∃j:Int,b=[.int j]/\-(2 ^ 62)<=j/\j<2 ^ 62/\R (pS 0 j.toNat) c
theorem FH{a:Expr}{d:TA}{p pos:Pos}(f:Gl X "range")(g:X.mg "range" = none)(i:PA X [a] d)(k:starEach [a] X.env=[(false,eval a X.env)]:=by rfl):PI X B (.Call (.Name "range" p) [a] [] pos) (FF d):=by
 intro b s Y H R I h;refine Call_ (jG I f g boot_range (PyProof.Rows.callWith_type1 (aR (i pos b s Y H _ I h) fun u v ⟨w,x,l,m,c⟩=>?_) k rfl));obtain⟨j,e,c,n,q⟩:=c;subst e;cases m with
 | cons r o=>cases o;obtain⟨t,rfl⟩:=r;exact call_range_1 (FC l (by omega) (by omega) c n (by simpa using q))
noncomputable def FJ(d:TI)(g:TG)(e:TS):TS:=fun D Y H=>d Y H fun J f=>∃W:Nat->Nat->St->Hp->Prop,(∃m,W 0 m Y f)/\∀i m Y H,W i m Y H->
 (J.stop i H/\D.nx Y H)\/(J.go i H/\∃N:St->Hp->Prop,(∀b a,N b a->∃c,c<m/\W (i+1) c b a)/\∀x a,J.yld i H x a->g x Y a fun h j=>e { D with nx:=N,ct:=N,bk:=D.nx } h j)
noncomputable def nF(a:List Addr)(h:Heap):List (Addr×Obj):=a.filterMap fun b=>(h.get? b).map fun o=>(b,o)
theorem pT{a:List Addr}{h:Heap}{b:Addr}{o:Obj}(c:b∈a)(e:h.get? b=some o):(b,o)∈nF a h:=List.mem_filterMap.mpr ⟨b,c,by rw[e];rfl⟩
theorem FK{a:List Addr}{h:Heap}{p:Addr×Obj}(c:p∈nF a h):p.1∈a/\h.get? p.1=some p.2:=by
 obtain⟨b,d,e⟩:=List.mem_filterMap.mp c;cases q:h.get? b with
 | none=>rw[q] at e;cases e
 | some o=>rw[q] at e;have f:(b,o)=p:=Option.some.inj e;subst f;exact⟨d,q⟩
theorem Inv.pinned{a:List (Addr×Obj)}{Y:St}{H:Hp}{s:Shared}{c:List Addr}(I:Inv X a Y H s)(h:∀b∈c,gU X a H b)(i:∀b∈c,∃o,s.heap.get? b=some o/\∀v,o.data≠.cell v):Inv X (a++nF c s.heap) Y H s:=
 I.pins_of fun p j=>(List.mem_append.mp j).elim (fun z=>I.pin p (bh _ z)) fun z=>by obtain⟨f,e⟩:=FK z;obtain⟨k,f1,f2,_⟩:=h p.1 f;obtain⟨o,g,d⟩:=i p.1 f;rw[e] at g;cases g;exact⟨e,k,f1,f2,d⟩
theorem Inv.unpinned{a c:List (Addr×Obj)}{Y:St}{H:Hp}{s:Shared}(I:Inv X (a++c) Y H s):Inv X a Y H s:=I.pins_of fun p b=>I.pin p (bh _ (bi _ b))
theorem FL{iter:Expr}{body:List Stmt}{wi:TI}{g:TG}{tb:TS}{pos:Pos}(z:PassesOwn (model X.prog X.w) X.A X.env X.xe)(hc:X.calm=true)(hi:PI X B iter wi)(hg:PG X B g)(c:PSs X body tb)
  (hs:∀x,foldedSetIterable iter X.env x=pure x:=by intro _;rfl):PS X (.For B iter body [] pos) (FJ wi g tb):=by
 intro a s Y H D I h;refine wpAny_For (aR (hi a s Y H _ I h) fun v s1 h1=>aR h1 fun a1 s2 h2=>?_) hs;obtain⟨it,C,tn,J,H2,e,I2,T,S,f2,W,⟨m0,w0⟩,E⟩:=h2;subst e;have j:∀{q:Hp},(∀b∈C,q b=none)->∀b∈C,gU X a q b:=fun hn b c=>⟨hn b c,(f2 b c).2⟩
 refine codeAny_forLoop_any (fun n s'=>∃i G q,Inv X a G q s'/\tn i s'.heap/\(∀b∈C,q b=none)/\W i n G q) ?_ m0 ⟨0,Y,H2,I2,S,fun b c=>(f2 b c).1,w0⟩;rintro n s3 ⟨i,L,R,I3,M,O,w3⟩;rcases E i n L R w3 with⟨stop,qn⟩ | ⟨go,N,hN,step⟩
 ·refine wpAny_passesOwn z (aR (T.done X rfl rfl rfl hc i a s3 L R X.xe I3 (j O) M stop) fun r s4 ⟨U,I4⟩=>?_);subst U;exact wpAny_execs_nil ⟨L,R,I4,qn⟩
 ·refine wpAny_passesOwn z (aR (T.item X rfl rfl rfl hc i a s3 L R X.xe I3 (j O) M go) fun r s4 ⟨u,U,h4⟩=>?_);subst U;refine wpAny_passesOwn z (aR h4 fun _ s5 ⟨x,H5,I5,r5,y5,y,Z⟩=>?_);have a0:=I5.pinned (j Z) (T.obj _ _ y);refine wpAny_passesOwn z (aR (hg _ s5 L H5 x u _ a0 r5 (step x H5 y5)) fun _ s6 ⟨Y6,H6,I6,q6⟩=>?_);refine wpAny_passesOwn z (aR (c _ s6 Y6 H6 _ I6 q6) fun f s7 t=>?_);have again:∀{k:St}{l:Hp},Inv X (a++nF C s5.heap) k l s7->N k l->∃m,m<n/\∃i G q,Inv X a G q s7/\tn i s7.heap/\(∀b∈C,q b=none)/\W i m G q:=fun {k l} p Q=>by obtain⟨m',hm,w7⟩:=hN k l Q;refine⟨m',hm,i+1,k,l,p.unpinned,T.keep _ _ _ y fun b c o e=>(p.pin (b,o) (bh _ (bh _ (pT c e)))).1,fun b c=>?_,w7⟩;obtain⟨o,e,d⟩:=T.obj _ _ y b c;exact(p.pin (b,o) (bh _ (bh _ (pT c e)))).2.1
  cases f with
  | next=>obtain⟨k,l,p,Q⟩:=t;exact again p Q
  | cont=>obtain⟨k,l,p,Q⟩:=t;exact again p Q
  | brk=>obtain⟨k,l,p,t⟩:=t;exact⟨k,l,p.unpinned,t⟩
  | ret v=>obtain⟨x7,k,l,p,r7,t⟩:=t;exact⟨x7,k,l,p.unpinned,r7,t⟩
end
abbrev R2:=V->V->Hp->VK->Prop
def cD(X:Cx)(f:Value->Value->Sem Value)(r:R2):Prop:=
 ∀(a:List (Addr×Obj)) (s:Shared) (Y:St) (H:Hp) (x y:V) (v u:Value) (Q:VK),Inv X a Y H s->bj x v->bj y u->r x y H Q->
  wpAny (model X.prog X.w) X.A (f v u) (EP X a Y Q) X.xe s
def uR(X:Cx)(f:Value->Sem Value)(r:V->Hp->VK->Prop):Prop:=
 ∀(a:List (Addr×Obj)) (s:Shared) (Y:St) (H:Hp) (x:V) (v:Value) (Q:VK),Inv X a Y H s->bj x v->r x H Q->
  wpAny (model X.prog X.w) X.A (f v) (EP X a Y Q) X.xe s
def gj(X:Cx)(f:Value)(r:List V->Hp->VK->Prop):Prop:=
 ∀(a:List (Addr×Obj)) (s:Shared) (Y:St) (H:Hp) (b:List V) (c:List Value) (Q:VK),Inv X a Y H s->be b c->r b H Q->
  wpAny (model X.prog X.w) X.A (call f c) (EP X a Y Q) X.xe s
noncomputable def nG(r:R2)(a b:TE):TE:=fun Y H Q=>a Y H fun x c=>b Y c fun y d=>r x y d Q
noncomputable def FP(r:V->Hp->VK->Prop)(a:TE):TE:=fun Y H Q=>a Y H fun x b=>r x b Q
noncomputable def rI(C:Int->Int->Prop)(g:Int->Int->V):R2:=fun x y H Q=>∃i j,x=.int i/\y=.int j/\C i j/\Q (g i j) H
noncomputable def ip(g:Int->Int->V):R2:=fun x y H Q=>∃i j,x=.int i/\y=.int j/\Q (g i j) H
noncomputable def rU(g:Int->V):V->Hp->VK->Prop:=fun x H Q=>∃i,x=.int i/\Q (g i) H
section
variable{X:Cx}{a b c:Expr}{z p n:TE}{pos:Pos}
theorem uS(j:PE X a z)(k:PE X b p){d:List (Addr×Obj)}{s:Shared}{Y:St}{H:Hp}{R:V->V->Hp->Prop}(I:Inv X d Y H s)
  (h:z Y H fun x i=>p Y i fun y e=>R x y e) {Q:Value->Shared->Prop}{f:Value->Value->Sem Value}
  (l:∀v u g x y e,Inv X d Y e g->bj x v->bj y u->R x y e->wpAny (model X.prog X.w) X.A (f v u) Q X.xe g) :
  wpAny (model X.prog X.w) X.A (eval a X.env) (fun v m=>wpAny (model X.prog X.w) X.A (eval b X.env) (fun u o=>wpAny (model X.prog X.w) X.A (f v u) Q X.xe o) X.xe m) X.xe s:=by
 refine aR (j d s Y H _ I h) fun v q ⟨x,i,r,t,B⟩=>?_;refine aR (k d q Y i _ r B) fun u g ⟨y,e,C,D,E⟩=>?_;exact l v u g x y e C t D E
theorem FQ{op:Operator}{r:R2}(e:cD X (binaryOp op) r)(f:PE X a z)(g:PE X b p):PE X (.BinOp a op b pos) (nG r z p):=by intro d s Y H Q I h;exact wpAny_BinOp (uS f g I h fun v u i x y j k l m q=>e d i Y j x y v u Q k l m q)
theorem FR{op:UnaryOp}{r:V->Hp->VK->Prop}(e:uR X (unaryOp op) r)(f:PE X a z):PE X (.UnaryOp op a pos) (FP r z):=by intro d s Y H Q I h;exact UnaryOp_ (aR (f d s Y H _ I h) fun v g ⟨x,i,j,k,l⟩=>e d g Y i x v Q j k l)
theorem pU{f:Value->Value->Sem Value}{C:Int->Int->Prop}{g:Int->Int->Int}
  (rule:∀(i j:Int) (t u:Tok) (s:Shared) (Q:Value->Shared->Prop) (E:Value->Shared->Prop),C i j->Q (.int (g i j) s.toks) { s with toks:=s.toks+1 }->wpAny (model X.prog X.w) X.A (f (.int i t) (.int j u)) Q E s) :
  cD X f (rI C fun i j=>.int (g i j)):=by
 intro d s Y H x y v u Q I e k h;obtain⟨i,j,rfl,rfl,l,q⟩:=h;obtain⟨t,rfl⟩:=e;obtain⟨t',rfl⟩:=k;exact rule i j t t' s _ _ l ⟨.int (g i j),H,I.tok _,⟨_,rfl⟩,q⟩
theorem yW{f:Value->Value->Sem Value}{g:Int->Int->Int}
  (rule:∀(i j:Int) (t u:Tok) (s:Shared) (Q:Value->Shared->Prop) (E:Value->Shared->Prop),Q (.int (g i j) s.toks) { s with toks:=s.toks+1 }->wpAny (model X.prog X.w) X.A (f (.int i t) (.int j u)) Q E s) :
  cD X f (ip fun i j=>.int (g i j)):=by
 intro d s Y H x y v u Q I e k h;obtain⟨i,j,rfl,rfl,q⟩:=h;obtain⟨t,rfl⟩:=e;obtain⟨t',rfl⟩:=k;exact rule i j t t' s _ _ ⟨.int (g i j),H,I.tok _,⟨_,rfl⟩,q⟩
theorem uT{f:Value->Value->Sem Value}{g:Int->Int->Bool}
  (rule:∀(i j:Int) (t u:Tok) (s:Shared) (Q:Value->Shared->Prop) (E:Value->Shared->Prop),Q (.bool (g i j)) s->wpAny (model X.prog X.w) X.A (f (.int i t) (.int j u)) Q E s) :
  cD X f (ip fun i j=>.bl (g i j)):=by
 intro d s Y H x y v u Q I e k h;obtain⟨i,j,rfl,rfl,q⟩:=h;obtain⟨t,rfl⟩:=e;obtain⟨t',rfl⟩:=k;exact rule i j t t' s _ _ ⟨.bl (g i j),H,I,rfl,q⟩
def uU(i j:Int):Prop:=0<j/\j<1073741824
def uV(i j:Int):Prop:=0<=j/\j<=1000000/\i.natAbs<2 ^ 64
def nH(i j:Int):Prop:=(-(2 ^ 64)<i/\i<2 ^ 64)\/(-(2 ^ 64)<j/\j<2 ^ 64)
theorem nH.ok{i j:Int}(h:nH i j):IntMulOk i j:=by
 rcases h with⟨h1,h2⟩ | ⟨h1,h2⟩
 ·exact .of_left (intBits_le_64 h1 h2)
 ·exact .of_right (intBits_le_64 h1 h2)
theorem FT:cD X (binaryOp .Add) (ip fun i j=>.int (i+j)):=yW fun _ _ _ _ _ _ _ q=>add_int q
theorem FU:cD X (binaryOp .Sub) (ip fun i j=>.int (i - j)):=yW fun _ _ _ _ _ _ _ q=>sub_int q
theorem FV:cD X (binaryOp .Mult) (rI nH fun i j=>.int (i * j)):=pU fun _ _ _ _ _ _ _ d q=>mul_int q d.ok
theorem FY:cD X (binaryOp .FloorDiv) (rI uU fun i j=>.int (i / j)):=pU fun i j _ _ _ _ _ d q=>by have h1:(0:Int)<j:=d.1;have h2:j<1073741824:=d.2;exact floordiv_int (by omega) (by rw[Int.fdiv_eq_ediv_of_nonneg i (by omega)];exact q) (.inl (PyProof.noPylong_small (by omega)))
theorem FZ:cD X (binaryOp .Mod) (rI (fun _ j=>0<j) fun i j=>.int (i % j)):=pU fun i j _ _ _ _ _ d q=>by have h1:(0:Int)<j:=d;exact mod_int' (by omega) (by rw[Int.fmod_eq_emod_of_nonneg i (by omega)];exact q)
theorem Ga:cD X (binaryOp .Pow) (rI uV fun i j=>.int (i ^ j.toNat)):=pU fun _ _ _ _ _ _ _ d q=>pow_int_small d.1 d.2.1 d.2.2 q
theorem Gb{f:Value->Sem Value}{g:Int->Int}
  (rule:∀(i:Int) (t:Tok) (s:Shared) (Q:Value->Shared->Prop) (E:Value->Shared->Prop),Q (.int (g i) s.toks) { s with toks:=s.toks+1 }->wpAny (model X.prog X.w) X.A (f (.int i t)) Q E s) :
  uR X f (rU fun i=>.int (g i)):=by
 intro d s Y H x v Q I e h;obtain⟨i,rfl,q⟩:=h;obtain⟨t,rfl⟩:=e;exact rule i t s _ _ ⟨.int (g i),H,I.tok _,⟨_,rfl⟩,q⟩
theorem Gc:uR X (unaryOp .USub) (rU fun i=>.int (-i)):=Gb fun _ _ _ _ _ q=>neg_int q
end
section
variable{X:Cx}{a b c:Expr}{A m l:TE}{pos:Pos}
theorem yX{d:List (Addr×Obj)}{Y:St}{H:Hp}{s:Shared}{Q:VK}{k f:Bool}(I:Inv X d Y H s)(q:Q (.bl k) H)(e:k=f):EP X d Y Q (.bool f) s:=by subst e;exact⟨.bl k,H,I,rfl,q⟩
theorem yY:cD X (compareOp .Lt) (ip fun i j=>.bl (decide (i<j))):=uT fun _ _ _ _ _ _ _ q=>lt_int q
theorem pV:cD X (compareOp .LtE) (ip fun i j=>.bl (decide (i<=j))):=uT fun _ _ _ _ _ _ _ q=>le_int q
theorem yZ:cD X (compareOp .Gt) (ip fun i j=>.bl (decide (j<i))):=uT fun _ _ _ _ _ _ _ q=>gt_int q
theorem za:cD X (compareOp .Is) (fun x y H Q=>y=.non/\Q (.bl (decide (x=.non))) H):=by
 intro d s Y H x y v u Q I e f h;obtain⟨rfl,q⟩:=h;cases f;refine is_none_gen (yX I q ?_);cases x<;>first
  | (cases e;rfl)
  | (obtain⟨t,rfl⟩:=e;rfl)
theorem zb:cD X (compareOp .IsNot) (fun x y H Q=>y=.non/\Q (.bl (!decide (x=.non))) H):=by
 intro d s Y H x y v u Q I e f h;obtain⟨rfl,q⟩:=h;cases f;refine isnot_none_gen (yX I q ?_);cases x<;>first
  | (cases e;rfl)
  | (obtain⟨t,rfl⟩:=e;rfl)
theorem bA(b:Expr){op:CmpOp}(h:op≠.In:=by decide)(f:op≠.NotIn:=by decide):behindInMarks op b=false:=by
 have d:(op==CmpOp.In)=false:=by cases op<;>first | rfl | exact absurd rfl h
 have e:(op==CmpOp.NotIn)=false:=by cases op<;>first | rfl | exact absurd rfl f
 cases b<;>simp[behindInMarks,d,e]
theorem Gd{op:CmpOp}{r:R2}(e:cD X (compareOp op) r)(f:PE X a A)(g:PE X b m)(i:behindInMarks op b=false):PE X (.Compare a [op] [b] pos) (nG r A m):=by intro d s Y H Q I h;exact wpAny_Compare1 (uS f g I h fun v u j x y k n o p q=>e d j Y k x y v u Q n o p q) i
noncomputable def Ge(t:TE):TT:=fun Y H Q=>t Y H fun x d=>∃k,x=.bl k/\Q k d
theorem zc{op:CmpOp}{r:R2}(f:cD X (compareOp op) r)(g:PE X a A)(i:PE X b m)(j:behindInMarks op b=false):PT X (.Compare a [op] [b] pos) (Ge (nG r A m)):=by
 intro d s Y H Q I h;refine wpAny_isTrue_Compare1 (aR (g d s Y H _ I h) fun v n ⟨x,o,p,q,t⟩=>aR (i d n Y o _ p t) fun u w ⟨y,B,C,D,E⟩=>
  aR (f d w Y B x y v u _ C q D E) fun c N ⟨z,G,J,L,k,e,M⟩=>?_) j
 subst e;cases L;exact wpAny_truthy_bool ⟨G,J,M⟩
noncomputable def Gf(r e:R2)(A m l:TE):TE:=fun Y H Q=>A Y H fun x f=>m Y f fun y g=>r x y g fun z d=>∃k,z=.bl k/\
 (if k=true then l Y d fun h i=>e y h i Q else Q (.bl false) d)
theorem Gg{op g:CmpOp}{r j:R2}(t:cD X (compareOp op) r)(i:cD X (compareOp g) j)(w:PE X a A)(B:PE X b m)(C:PE X c l)
  (D:lastMarks [op,g] [b,c]=false:=by with_unfolding_all rfl):PE X (.Compare a [op,g] [b,c] pos) (Gf r j A m l):=by
 intro f s Y H Q I h;refine Compare_chain (aR (w f s Y H _ I h) fun v E ⟨x,G,J,L,M⟩=>chain_link (aR (B f E Y G _ J M) fun u N ⟨y,O,R,n,S⟩=>
  aR (t f N Y O x y v u _ R L n S) fun d T ⟨z,o,p,U,k,e,q⟩=>?_)) D
 subst e;cases U;refine wpAny_truthy_bool ?_;cases k with
 | false=>exact ite_ff ⟨.bl false,o,p,rfl,q⟩
 | true=>exact ite_tt (chain_last (aR (C f T Y o _ p q) fun Z s4 ⟨z',H4,I4,r4,q4⟩=>i f s4 Y H4 y z' u Z Q I4 n r4 q4))
theorem ej:(sizeLine:Nat)<2 ^ 63:=by rw[sizeLine_eq];decide
theorem cZ{x:V}{d:List Value}(r:be [x] d):∃u,d=[u]/\bj x u:=by
 cases r with
 | cons e f=>cases f;exact⟨_,rfl,e⟩
theorem gW{x y:V}{d:List Value}(r:be [x,y] d):∃u e,d=[u,e]/\bj x u/\bj y e:=by
 cases r with
 | cons f g=>
  cases g with
  | cons h i=>cases i;exact⟨_,_,rfl,f,h⟩
theorem zd(g:X.calm=true):gj X (.builtin "max") (fun e H Q=>∃i j,e=[.int i,.int j]/\Q (.int (if j>i then j else i)) H):=by
 intro f s Y H e n Q I r h;obtain⟨i,j,rfl,q⟩:=h;obtain⟨u,o,rfl,⟨t,rfl⟩,⟨t',rfl⟩⟩:=gW r;refine max_two_ints (I.ok.hd g) fun p v k=>⟨_,H,I.kept k,?_,q⟩
 by_cases d:j>i
 ·rw[if_pos d,if_pos d];exact⟨_,rfl⟩
 ·rw[if_neg d,if_neg d];exact⟨_,rfl⟩
end
structure fA (h:Heap) (x dx C:Addr) (mA:Str->Option Value):Prop where
 obj:h.get? x=some (instObj C dx)
 ns:h.Ns1 dx mA
 ne:dx≠x
theorem Gh{h:Heap}{c:Addr}{d:Str->Option Value}(n:h.Ns1 c d):∃f,h.get? c=some f/\∀name,PySem.W.lookIn name f=some (d name):=by
 obtain⟨o,g,p,i,hd,j,_,k⟩:=n;refine⟨o,i,fun name=>?_⟩;have e:=k name;unfold nsFind findBy at e;rw[<-Array.find?_toList] at e;unfold PySem.W.lookIn;rw[hd];dsimp only;split
 ·rename_i y q;rw[q] at e;exact congrArg some e
 ·rename_i q;rw[q] at e;have a:g.toList.any (·.refKey)=false:=by rw[List.any_eq_false];intro y l;obtain⟨z,t,b⟩:=j y (Array.mem_toList_iff.mp l);simp[DictEntry.refKey,b]
  have m:¬ g.toList.any (·.refKey)=true:=by rw[a];exact Bool.false_ne_true
  rw[if_neg m];exact congrArg some e
theorem fA.look{h:Heap}{x b C:Addr}{c:Str->Option Value}(I:fA h x b C c):∃a,PySem.W.InstAt h x (instObj C b) C (some a)/\∀name,PySem.W.lookIn name a=some (c name):=
 let⟨a,d,e⟩:=Gh I.ns
 ⟨a,⟨I.obj,rfl,rfl,d⟩,e⟩
section
variable{prog:Program}{w:World}{A:Around}{E:Value->Shared->Prop}{s:Shared}{K:Frag}{x q C f:Addr}{k:Str->Option Value}{name:Str}{v:Value}
theorem Gi{expr:Bool}{Q:Value->Shared->Prop}(X:K.In s.heap)(I:fA s.heap x q C k)(b:plainGet K C name=true)(c:PySem.W.hasDictIn K C=true)
  (d:findIn K (.ref C) name=some none) (e:k name=some v) (a:PySem.W.handedIn v=true) (h:Q v { s with toks:=s.toks+1 }) :
  wpAny (model prog w) A (getAttr (.ref x) name expr) Q E s:=by
 obtain⟨i,J,g⟩:=I.look;exact PySem.W.get_value X J (PySem.W.plainGet_of b).1 (PySem.W.findObj_own c d rfl (by rw[g,e])) a h
theorem Gj{i:Sem Bool}{Q:Value×List Value->Shared->Prop}(X:K.In s.heap)(I:fA s.heap x q C k)(a:plainGet K C name=true)
  (b:findIn K (.ref C) name=some (some (.ref f))) (c:PySem.W.isFn K (.ref f)=true) (d:k name=none) (h:Q (.ref f,[.ref x]) s) :
  wpAny (model prog w) A (getMethod (.ref x) name i) Q E s:=by
 obtain⟨e,J,g⟩:=I.look;exact PySem.W.method_fn X J (PySem.W.plainGet_of a).1 (PySem.W.plainGet_of a).2 b (beq_iff_eq.mp c) (by show(PySem.W.lookIn name e).map (·.isSome)=some false;rw[g,d];rfl) h
theorem Gk{m:List Str}{Q:Unit->Shared->Prop}(X:K.In s.heap)(I:fA s.heap x q C k)
  (n:findIn K (.ref C) "__setattr__" = some (some (.builtin "object.__setattr__"))) (o:PySem.W.plainOver K C=true) (p:PySem.W.takerIn K C name=some none) (t:PySem.W.hasDictIn K C=true)
  (u:PySem.Within k m) (z:m.length<=sizeLine)
  (h:∀e,fA e x q C (fun y=>if y=name then some v else k y)->Heap.SameBut q s.heap e->Q () { s with heap:=e,toks:=s.toks+2 }) :
  wpAny (model prog w) A (setAttr (.ref x) name v) Q E s:=by
 obtain⟨L,J,M⟩:=I.look;refine PySem.W.set_plain X J n (PySem.W.osa_open (s:={ s with toks:=s.toks+1 }) (r:=none) X J o p fun b=>?_);obtain⟨N,B,g⟩:=PySem.W.any_some t;have D:s.heap.get? x=some ⟨.ref C,some q,.plain,#[]⟩:=I.obj;refine az (bp (az (az (wpAny_loadPart D (az (PySem.W.Looks.here (s:={ s with toks:=s.toks+1 }) (PySem.W.looks_clsIn X B) ?_))))));rw[g];refine bp (a:=some q) (az (bp (az ?_)));refine wpAny_nsSet1 (s:={ s with toks:=s.toks+1 }) I.ns fun e c d=>?_;obtain⟨O,G,H,i,j,l⟩:=c.count (PySem.Within.cons name v u);refine az (wpAny_lookBehind i (by rw[j];exact pastItsLine_dict (Nat.le_trans l (by rw[List.length_cons];omega))) ?_);exact bp (h _ ⟨(d.2 _ (Ne.symm I.ne)).trans I.obj,c,I.ne⟩ d)
theorem Gm{R:Result->Shared->Prop}{a:List Value}{b:List (Str×Value)}(X:K.In s.heap)(c:PySem.W.makesIn K C=true)
  (e:findIn K (.ref C) "__init__" = some (some (.ref f))) (i:PySem.W.typeIn K (.ref f)=some (.type "function"))
  (h:codeAny (model prog w) (A.under (.builtin "type.__call__" ⟨.ref C::a,b⟩)) (.call (.ref f) ⟨.ref (s.heap.objs.size+1)::a,b⟩) (PySem.W.InitBack (s.heap.objs.size+1) R)
   { s with heap:=(s.heap.push emptyDict).push (instObj C s.heap.objs.size) }) :
  codeAny (model prog w) A (.call (.ref C) ⟨a,b⟩) R s:=by
 obtain⟨j,g,d,t,os⟩:=s;exact PySem.W.make_core (PySem.W.makes_of X c) (PySem.W.looks_findIn X e) (fun self=>PySem.W.bind_fn X self i) (.inl rfl) h
end
noncomputable def cG(f:Str)(v:V):List (Str×V)->List (Str×V)
 | []=>[(f,v)]
 | (g,x)::r=>if g=f then(g,v)::r else(g,x)::cG f v r
theorem ze(f g:Str)(v:V):∀fs:List (Str×V),(cG f v fs).lookup g=if g=f then some v else fs.lookup g
 | []=>by
  show List.lookup g [(f,v)]=_
  by_cases h:g=f
  ·have a:(g==f)=true:=beq_iff_eq.mpr h;simp only[List.lookup,a,if_pos h]
  ·have a:(g==f)=false:=beq_eq_false_iff_ne.mpr h;simp only[List.lookup,a,if_neg h]
 | (k,x)::r=>by
  have c:=ze f g v r;rw[show cG f v ((k,x)::r)=(if k=f then(k,v)::r else(k,x)::cG f v r) from rfl]
  by_cases b:k=f
  ·rw[if_pos b]
   by_cases h:g=k
   ·have a:(g==k)=true:=beq_iff_eq.mpr h;simp only[List.lookup,a,if_pos (h.trans b)]
   ·have a:(g==k)=false:=beq_eq_false_iff_ne.mpr h;simp only[List.lookup,a,if_neg (fun e:g=f=>h (e.trans b.symm))]
  ·rw[if_neg b]
   by_cases h:g=k
   ·have a:(g==k)=true:=beq_iff_eq.mpr h;simp only[List.lookup,a,if_neg (fun e:g=f=>b (h.symm.trans e))]
   ·have a:(g==k)=false:=beq_eq_false_iff_ne.mpr h;simp only[List.lookup,a];exact c
theorem uW(f:Str)(v:V):∀fs:List (Str×V),f∈(cG f v fs).map (·.1)/\∀g,g∈fs.map (·.1)->g∈(cG f v fs).map (·.1)
 | []=>⟨by simp[cG],fun g h=>by simp at h⟩
 | (k,x)::r=>by
  obtain⟨b,c⟩:=uW f v r;rw[show cG f v ((k,x)::r)=(if k=f then(k,v)::r else(k,x)::cG f v r) from rfl]
  by_cases a:k=f
  ·rw[if_pos a];subst a;exact⟨by simp,fun g h=>by simpa using h⟩
  ·rw[if_neg a];refine⟨?_,fun g h=>?_⟩
   ·rw[List.map_cons];exact bY _ b
   ·rw[List.map_cons] at h ⊢;rcases List.mem_cons.mp h with e | e
    ·exact List.mem_cons.mpr (.inl e)
    ·exact bY _ (c g e)
theorem zf(f:Str)(v:V):∀fs:List (Str×V),(cG f v fs).length<=fs.length+1
 | []=>by simp[cG]
 | (k,x)::r=>by
  have b:=zf f v r;rw[show cG f v ((k,x)::r)=(if k=f then(k,v)::r else(k,x)::cG f v r) from rfl]
  by_cases a:k=f
  ·rw[if_pos a,List.length_cons,List.length_cons];omega
  ·rw[if_neg a,List.length_cons,List.length_cons];omega
theorem eZ.some_of{v:V}{o:Option Value}(r:eZ (some v) o):∃u,o=some u/\bj v u:=by
 cases o with
 | none=>exact(show False from r).elim
 | some u=>exact⟨u,rfl,r⟩
theorem eZ.none_of{o:Option Value}(r:eZ none o):o=none:=by
 cases o with
 | none=>rfl
 | some u=>exact(show False from r).elim
theorem Gn{v:V}{u:Value}(r:bj v u):PySem.W.handedIn u=true:=by
 cases v with
 | non=>cases(show u=Value.none from r);rfl
 | bl b=>cases(show u=Value.bool b from r);rfl
 | int i=>obtain⟨t,e⟩:=(show ∃t,u=Value.int i t from r);cases e;rfl
 | str x=>obtain⟨t,e⟩:=(show ∃t,u=Value.str x t from r);cases e;rfl
 | byt b=>obtain⟨t,e⟩:=(show ∃t,u=Value.bytes b t from r);cases e;rfl
 | flt b=>obtain⟨t,e⟩:=(show ∃t,u=Value.float b t from r);cases e;rfl
 | ref a=>cases(show u=Value.ref a from r);rfl
 | ty n=>cases(show u=Value.type n from r);rfl
section
variable{P:Program}{w:World}{H j:Hp}{h i:Heap}{a C I:Addr}{fs y:List (Str×V)}
theorem pW(c:bG P w H h)(e:H a=some (.ins C I fs)):∃b,fA h a I C b/\(∀f,eZ (fs.lookup f) (b f))/\PySem.Within b (fs.map (·.1))/\fs.length<=1000/\H I=some (.own a):=by
 obtain⟨d,z,ne,ob,b,n,r,q⟩:=(show cw P w H h a (.ins C I fs) from c a _ e)
 exact⟨b,⟨ob,n,ne⟩,r,q,z,d⟩
end
structure dg (K:Frag) (C:Addr):Prop where
 pg:plainGet K C Str.empty=true
 hd:PySem.W.hasDictIn K C=true
 po:PySem.W.plainOver K C=true
 sa:findIn K (.ref C) "__setattr__" = some (some (.builtin "object.__setattr__"))
theorem dg.get{K:Frag}{C:Addr}(c:dg K C)(f:Str):plainGet K C f=true:=c.pg
def cO(K:Frag)(C:Addr)(f:Str):Prop:=findIn K (.ref C) f=some none
theorem cO.taker{K:Frag}{C:Addr}{f:Str}(n:cO K C f):PySem.W.takerIn K C f=some none:=by unfold PySem.W.takerIn;rw[show findIn K (.ref C) f=some none from n];rfl
structure gX (K:Frag) (C:Addr) (m:Str) (f:Addr):Prop where
 at_:findIn K (.ref C) m=some (some (.ref f))
 fn:PySem.W.isFn K (.ref f)=true
 kp:keepIn K (.ref f)=true
section
variable{X:Cx}{d:List (Addr×Obj)}{Y:St}{H:Hp}{s:Shared}{a C dx:Addr}{fs:List (Str×V)}{f:Str}{v:V}{A:Around}{E:Value->Shared->Prop}
theorem zg{b:Bool}{Q:Value->Shared->Prop}(I:Inv X d Y H s)(e:H a=some (.ins C dx fs))(c:dg X.K C)(n:cO X.K C f)(l:fs.lookup f=some v)
  (h:∀u g,Inv X d Y H g->bj v u->Q u g):wpAny (model X.prog X.w) A (getAttr (.ref a) f b) Q E s:=by
 obtain⟨i,O,r,_,_,_⟩:=pW I.hok e;obtain⟨u,j,ru⟩:=eZ.some_of (v:=v) (o:=i f) (by rw[<-l];exact r f);exact Gi I.kIn O (c.get f) c.hd n j (Gn ru) (h u _ (I.tok _) ru)
theorem zh{m:Str}{g:Addr}{j:Sem Bool}{Q:Value×List Value->Shared->Prop}(I:Inv X d Y H s)(e:H a=some (.ins C dx fs))(c:dg X.K C)(k:gX X.K C m g)(l:fs.lookup m=none)
  (h:Q (.ref g,[.ref a]) s):wpAny (model X.prog X.w) A (getMethod (.ref a) m j) Q E s:=by
 obtain⟨b,O,r,_,_,_⟩:=pW I.hok e;have i:b m=none:=eZ.none_of (by rw[<-l];exact r m);exact Gj I.kIn O (c.get m) k.at_ k.fn i h
theorem zi{y:V}{u:Value}{Q:Unit->Shared->Prop}(I:Inv X d Y H s)(e:H a=some (.ins C dx fs))(c:dg X.K C)(n:cO X.K C f)(M:fs.length<1000)(p:bj y u)
  (h:∀j,Inv X d Y (aN H a (.ins C dx (cG f y fs))) j->Q () j):wpAny (model X.prog X.w) A (setAttr (.ref a) f u) Q E s:=by
 obtain⟨k,O,r,l,_,m⟩:=pW I.hok e;have t:(fs.map (·.1)).length<=sizeLine:=by rw[List.length_map,sizeLine_eq];omega
 refine Gk I.kIn O c.sa c.po n.taker c.hd l t fun B i D=>h _ ?_;have hd:∃o,B.get? dx=some o:=let⟨o,_,_,G,_⟩:=i.ns;⟨o,G⟩;refine I.write (x:=a) (e:=dx) (by rw[e];exact True.intro) (.inr m) (fun b q J z=>(D.2 b J).trans z) hd ?_;refine⟨by rw[bw O.ne];exact m,?_,O.ne,i.obj,_,i.ns,fun g=>?_,fun g L=>?_⟩
 ·have:=zf f y fs;omega
 ·show eZ ((cG f y fs).lookup g) (if g=f then some u else k g);rw[ze]
  by_cases q:g=f
  ·rw[if_pos q,if_pos q];exact p
  ·rw[if_neg q,if_neg q];exact r g
 ·by_cases q:g=f
  ·rw[q];exact(uW f y fs).1
  ·refine(uW f y fs).2 g (l g fun z=>L ?_);show(if g=f then some u else k g)=none;rw[if_neg q];exact z
theorem Inv.made(I:Inv X d Y H s):Inv X d Y (aN (aN H s.heap.objs.size (.own (s.heap.objs.size+1))) (s.heap.objs.size+1) (.ins C s.heap.objs.size []))
  { s with heap:=(s.heap.push emptyDict).push (instObj C s.heap.objs.size) }:=by
 have c:(s.heap.push emptyDict).get? s.heap.objs.size=some emptyDict:=Heap.get?_push_size s.heap rfl;have g:((s.heap.push emptyDict).push (instObj C s.heap.objs.size)).get? (s.heap.objs.size+1)=some (instObj C s.heap.objs.size):=by
  have:=Heap.get?_push_size (s.heap.push emptyDict) (o:=instObj C s.heap.objs.size) rfl
  rwa [Heap.size_push] at this
 have h:(s.heap.push emptyDict).Ns s.heap.objs.size (fun _=>none):=⟨emptyDict,#[],_,c,rfl,(fun e i=>absurd i (by simp)),fun _=>rfl⟩
 have j:=I.laid (a:=s.heap.objs.size) (o:=.own (s.heap.objs.size+1)) (h':=s.heap.push emptyDict) (t':=s.toks) (fun b u q=>br _ q) (bF _) ⟨_,c⟩;refine j.laid (a:=s.heap.objs.size+1) (o:=.ins C s.heap.objs.size []) (t':=s.toks) (fun b u q=>br _ q) (Nat.le_of_eq (Heap.size_push _ _)) ?_;have ne:s.heap.objs.size≠s.heap.objs.size+1:=Nat.ne_of_lt (Nat.lt_succ_self _);refine⟨by rw[bw ne,cn],Nat.zero_le _,ne,g,fun _=>none,(Heap.Ns1.of_empty h).at fun o q=>br _ q,fun _=>True.intro,fun y k=>absurd rfl k⟩
theorem Go{b:Program}{w:World}{c:Env}{e:Expr}{f:Str}{pos:Pos}{s:Shared}{Q:Value->Shared->Prop}(g:attributeBase e f c (eval e c)=eval e c)
  (h:wpAny (model b w) A (eval e c) (fun o i=>wpAny (model b w) A (getAttr o f true) Q E i) E s):wpAny (model b w) A (eval (.Attribute e f pos) c) Q E s:=
 Attribute_any_ h (by rw[arm_eval_Attribute,g])
end
noncomputable def Gp(K:Frag)(c:TE)(f:Str):TE:=fun Y H Q=>c Y H fun x b=>∃a C d fs v,x=.ref a/\b a=some (.ins C d fs)/\dg K C/\cO K C f/\fs.lookup f=some v/\Q v b
noncomputable def Gq(K:Frag)(d e:TE)(f:Str):TS:=fun D Y H=>e Y H fun y g=>d Y g fun x b=>∃a C c fs,x=.ref a/\b a=some (.ins C c fs)/\dg K C/\cO K C f/\fs.length<1000/\
 D.nx Y (aN b a (.ins C c (cG f y fs)))
def zj(X:Cx)(op:Operator)(rd:V->V->Hp->VK->Prop):Prop:=
 ∀(a:List (Addr×Obj)) (s:Shared) (Y:St) (H:Hp) (x y:V) (u v:Value) (Q:VK),Inv X a Y H s->bj x u->bj y v->rd x y H Q->wpAny (model X.prog X.w) X.A (inplaceOp op u v) (EP X a Y Q) X.xe s
noncomputable def Gr(K:Frag)(g h:TE)(rd:V->V->Hp->VK->Prop)(f:Str):TS:=fun D Y H=>g Y H fun x d=>∃a C i fs v,x=.ref a/\d a=some (.ins C i fs)/\dg K C/\cO K C f/\fs.lookup f=some v/\
 h Y d fun y j=>rd v y j fun z e=>∃c b,e a=some (.ins C c b)/\b.length<1000/\D.nx Y (aN e a (.ins C c (cG f z b)))
section
variable{X:Cx}{o e value:Expr}{f:Str}{pos r tpos:Pos}{g tv:TE}
theorem lZ(d:PE X e g)(i:attributeBase e f X.env (eval e X.env)=eval e X.env):PE X (.Attribute e f pos) (Gp X.K g f):=by intro b s Y H Q I h;refine Go i (aR (d b s Y H _ I h) fun u w ⟨x,j,k,m,a,C,y,fs,v,ex,p,c,n,l,q⟩=>?_);subst ex;obtain rfl:u=Value.ref a:=m;exact zg k p c n l fun z A t ru=>⟨v,j,t,ru,q⟩
theorem pX(d:PE X o g)(i:PE X value tv)(j:swapsWith value (some (.Attribute o f r)) pos.line X.env=pure false):PS X (.Assign [.Attribute o f r] value pos) (Gq X.K g tv f):=by intro b s Y H D I h;refine plainObj_wpAny_Assign_Attribute (aR (i b s Y H _ I h) fun u k ⟨y,m,p,t,q⟩=>aR (d b k Y m _ p q) fun v G ⟨x,J,w,z,a,C,L,fs,ex,A,c,n,l,B⟩=>?_) j;subst ex;obtain rfl:v=Value.ref a:=z;exact zi w A c n l t fun M E=>⟨Y,_,E,B⟩
theorem Gs{op:Operator}{rd:V->V->Hp->VK->Prop}(j:PE X o g)(k:PE X value tv)(d:zj X op rd):PS X (.AugAssign (.Attribute o f tpos) op value pos) (Gr X.K g tv rd f):=by intro b s Y H D I h;refine wpAny_AugAssign_AttributeAny (aR (j b s Y H _ I h) fun m s1 ⟨x,p,t,w,a,C,dx,fs,v,ex,A,c,n,l,q⟩=>?_);subst ex;obtain rfl:m=Value.ref a:=w;refine zg t A c n l fun u B E ru=>aR (k b B Y p _ E q) fun G J ⟨y,L,M,N,O⟩=>aR (d b J Y L v y u G _ M ru N O) fun w4 s4 ⟨z,H3,Q,R,S,T,i,U,Z⟩=>?_;exact zi Q i c n U R fun s5 I5=>⟨Y,_,I5,Z⟩
noncomputable def Gu:V->V->Hp->VK->Prop:=fun x y H Q=>∃i j,x=.int i/\y=.int j/\Q (.int (i+j)) H
theorem Gv:zj X .Add Gu:=by
 rintro a s Y H x y u v Q I b c ⟨i,j,rfl,rfl,q⟩;obtain⟨t,rfl⟩:=(show ∃t,u=Value.int i t from b)
 obtain⟨t',rfl⟩:=(show ∃t',v=Value.int j t' from c)
 exact PyProof.Rows.iadd_int ⟨.int (i+j),H,I.tok _,⟨_,rfl⟩,q⟩
end
section
variable{X:Cx}{pins:List (Addr×Obj)}{Y:St}{H:Hp}{s:Shared}{A:Around}{E:Value->Shared->Prop}{Q:Value->Shared->Prop}{c:Value}{b:Bool}
inductive dh (K:Frag) (H:Hp):V->Value->Prop where
 | non:dh K H .non (.type "NoneType")
 | bl (x:Bool):dh K H (.bl x) (.type "bool")
 | int (i:Int):dh K H (.int i) (.type "int")
 | str (x:Str):dh K H (.str x) (.type "str")
 | flt (x:UInt64):dh K H (.flt x) (.type "float")
 | lst {a:Addr}{xs:List V}(e:H a=some (.lst xs)):dh K H (.ref a) (.type "list")
 | frz {a:Addr}{o:Obj}{xs:List V}(e:H a=some (.frz o (.lst xs))):dh K H (.ref a) (.type "list")
 | tup {a:Addr}{xs:List V}(e:H a=some (.tup xs)):dh K H (.ref a) (.type "tuple")
 | dK {a:Addr}{kvs:List (ba×V)}(e:H a=some (.dK kvs)):dh K H (.ref a) (.type "dict")
 | dT {a:Addr}{kvs:List (List ba×V)}(e:H a=some (.dT kvs)):dh K H (.ref a) (.type "dict")
 | ins {a C dx:Addr}{fs:List (Str×V)}(e:H a=some (.ins C dx fs)) (cl:dg K C) (ha:findIn K (.ref C) "__class__" = some (some (.builtin "object.__class__")))
   (hn:PySem.W.specialIn K (.builtin "object.__class__") "__get__" = some (some (.builtin "getset_descriptor.__get__"))) (htk:PySem.W.takesIn K (.builtin "object.__class__")=some true)
   (hm:mroIn K C (.type "object")=some true):dh K H (.ref a) (.ref C)
theorem nI{x:V}{u t:Value}(I:Inv X pins Y H s)(d:bj x u)(G:dh X.K H x t)(e:kitOne X.K t c=some b)(h:∀l,Q (.bool b) { s with toks:=l }) :
  wpAny (model X.prog X.w) A (call (.builtin "isinstance") [u,c]) Q E s:=by
 cases G with
 | non=>cases(show u=Value.none from d);exact kia_one PySem.W.kitx_none I.kIn True.intro e (fun z=>nomatch z) h
 | bl y=>cases(show u=Value.bool y from d);exact kia_one PySem.W.kitx_bool I.kIn True.intro e (fun z=>nomatch z) h
 | int i=>obtain⟨t,q⟩:=(show ∃t,u=Value.int i t from d);cases q;exact kia_one PySem.W.kitx_int I.kIn True.intro e (fun z=>nomatch z) h
 | str y=>obtain⟨t,q⟩:=(show ∃t,u=Value.str y t from d);cases q;exact kia_one PySem.W.kitx_str I.kIn True.intro e (fun z=>nomatch z) h
 | flt y=>obtain⟨t,q⟩:=(show ∃t,u=Value.float y t from d);cases q;exact kia_one PySem.W.kitx_float I.kIn True.intro e (fun z=>nomatch z) h
 | @lst a j f=>
  cases(show u=Value.ref a from d);obtain⟨_,_,n,_,h1⟩:=(show cw X.prog X.w H s.heap a (.lst j) from I.hok a _ f)
  exact kia_one PySem.W.kitx_list I.kIn ⟨_,h1,rfl⟩ e (fun z=>nomatch z) h
 | @frz a ob j f=>
  cases(show u=Value.ref a from d);obtain⟨_,_,_,n,_,h1⟩:=(show cw X.prog X.w H s.heap a (.frz ob (.lst j)) from I.hok a _ f)
  exact kia_one PySem.W.kitx_list I.kIn ⟨_,h1,rfl⟩ e (fun z=>nomatch z) h
 | @tup a j f=>
  cases(show u=Value.ref a from d);obtain⟨_,_,_,p⟩:=(show cw X.prog X.w H s.heap a (.tup j) from I.hok a _ f)
  obtain⟨o,h1,h2,_⟩:=p;exact kia_one PySem.W.kitx_tuple I.kIn ⟨o,h1,h2⟩ e (fun z=>nomatch z) h
 | @dK a g f=>
  cases(show u=Value.ref a from d);obtain⟨_,_,L,_,p⟩:=(show cw X.prog X.w H s.heap a (.dK g) from I.hok a _ f)
  obtain⟨o,m,r,h1,h2,_⟩:=p;exact kia_one PySem.W.kitx_dict I.kIn ⟨o,h1,h2.1⟩ e (fun z=>nomatch z) h
 | @dT a g f=>
  cases(show u=Value.ref a from d);obtain⟨_,_,j,_,o,m,r,h1,h2,_⟩:=(show cw X.prog X.w H s.heap a (.dT g) from I.hok a _ f)
  exact kia_one PySem.W.kitx_dict I.kIn ⟨o,h1,h2.1⟩ e (fun z=>nomatch z) h
 | @ins a C M fs f cl v B k D=>cases(show u=Value.ref a from d);obtain⟨N,O,_⟩:=pW I.hok f;obtain⟨R,J,_⟩:=O.look;exact kia_one (PySem.W.kitx_own (cl.get _) cl.hd v B k D) I.kIn J e (fun z=>nomatch z) h
end
structure bq (k:Nat) (A:Around):Prop where
 hd:A.handled=none
 dp:A.depth+3 * k+5<recursionLimit
 un:A.units+16 * k+200<cLine
theorem bq.mono{j k:Nat}{A:Around}(r:bq k A)(h:j<=k):bq j A:=⟨r.hd,by have:=r.dp;omega,by have:=r.un;omega⟩
theorem bq.deeper{k:Nat}{A:Around}(r:bq (k+1) A)(a:Env):bq k (A.deeper a):=
 ⟨r.hd,by have:=r.dp;show A.depth+1+3 * k+5<_;omega,by have:=r.un;show A.units+3+16 * k+200<_;omega⟩
theorem Gw{A:Around}{C:Addr}{a:List Value}{b:List (Str×Value)}:(A.under (.builtin "type.__call__" ⟨.ref C::a,b⟩)).depth=A.depth+1:=by first | rfl | simp[Around.under,Code.weight,Code.isCreation,Code.isGuard,Code.isCaller,Code.frames,Code.isFrame,guardIds]
theorem Gx{A:Around}{C:Addr}{a:List Value}{b:List (Str×Value)}:(A.under (.builtin "type.__call__" ⟨.ref C::a,b⟩)).units=A.units+1:=by first | rfl | simp[Around.under,Code.cUnits,Code.frames,Code.isFrame]
theorem bq.make{k:Nat}{A:Around}(r:bq (k+1) A)(C:Addr)(a:List Value)(b:List (Str×Value)):bq k (A.under (.builtin "type.__call__" ⟨.ref C::a,b⟩)):=
 ⟨r.hd,by have:=r.dp;rw[Gw];omega,by have:=r.un;rw[Gx];omega⟩
theorem bq.depth{k:Nat}{A:Around}(r:bq k A):A.depth<recursionLimit:=by have:=r.dp;omega
theorem bq.units{k:Nat}{A:Around}(r:bq k A):A.units+64<cLine:=by have:=r.un;omega
noncomputable def zk:TA:=fun _ H Q=>Q [] H
noncomputable def zl(a:TE)(b:TA):TA:=fun Y H Q=>a Y H fun x c=>b Y c fun d e=>Q (x::d) e
section
variable{X:Cx}{e:Expr}{es:List Expr}{te:TE}{t:TA}{pos:Pos}
theorem dQ:PA X [] zk:=fun _ _ _ _ H Q I h=>Calls.spliced_nil ⟨[],H,I,.nil,h⟩
theorem da(b:PE X e te)(c:PA X es t)(d:starEach (e::es) X.env=(false,eval e X.env)::starEach es X.env:=by rfl):PA X (e::es) (zl te t):=by intro pos a s Y H Q I h;rw[d];show wpAny _ _ (spliced ((false,eval e X.env)::backTo pos (starEach es X.env))) _ _ s;refine Calls.spliced_cons (aR (b a s Y H _ I h) fun u f ⟨x,g,i,j,k⟩=>?_);exact aR (c pos a f Y g _ i k) fun q r ⟨l,m,n,o,p⟩=>⟨x::l,m,n,.cons j o,p⟩
noncomputable def Gy(t:TA):TE:=fun Y H Q=>t Y H fun a b=>a.length<=sizeLine/\∀p,b p=none->Q (.ref p) (aN b p (.tup a))
noncomputable def Gz(t:TA):TE:=fun Y H Q=>t Y H fun a b=>a.length<=sizeLine/\∀p,b p=none->Q (.ref p) (aN b p (.lst a))
theorem uX{g}(h:PA X es t):PE X (.Tuple es g pos) (Gy t):=by intro a s Y H Q I i;refine wpAny_Tuple_spliced (aR (h pos a s Y H _ I i) fun j c ⟨k,d,f,r,z,q⟩=>⟨by rw[<-r.length];exact z,?_⟩);have l:d c.heap.objs.size=none:=f.hok.fresh (bF _);refine⟨.ref c.heap.objs.size,aN d c.heap.objs.size (.tup k),f.laid (t':=c.toks) (fun b u e=>br _ e) (bF _) ?_,rfl,q _ l⟩;exact⟨z,j,r,⟨_,Heap.get?_push_size _ rfl,rfl,_,rfl⟩⟩
theorem pY(h:PA X es t):PE X (.List es pos) (Gz t):=by intro a s Y H Q I g;refine wpAny_List_spliced (aR (h pos a s Y H _ I g) fun i c ⟨j,d,f,r,z,q⟩=>⟨by rw[<-r.length];exact z,?_⟩);have k:d c.heap.objs.size=none:=f.hok.fresh (bF _);refine⟨.ref c.heap.objs.size,aN d c.heap.objs.size (.lst j),f.laid (t':=c.toks) (fun b u e=>br _ e) (bF _) ?_,rfl,q _ k⟩;exact⟨z,i,0,r,Heap.get?_push_size _ rfl⟩
end
abbrev Sp:=List V->Hp->VK->XK->Prop
abbrev fB:=List Env->Hp->Shared->XK->Value->Shared->Prop
structure dR (P:Program) (w:World) (K:Frag) (mg:Str->Option Value) (base:Heap) (A:Around) (outer:List Env) (s:Shared) (H:Hp):Prop where
 frames:A.frames=some outer
 mod:Mod K mg base
 bs:∀b o,base.get? b=some o->s.heap.get? b=some o/\H b=none
 bsz:base.objs.size<=s.heap.objs.size
 funs:s.heap.FunFrames base outer
 frf:∀b∈bH outer,H b=none
 hok:bG P w H s.heap
 bare:AllBare s.gens
def CE(a:List Env)(P:Program)(w:World)(H:Hp)(s:Shared)(Q:VK)(u:Value)(b:Shared):Prop:=
 ∃v c,b.os=s.os/\AllBare b.gens/\Un (bH a) [] H c s.heap b.heap/\bG P w c b.heap/\bj v u/\Q v c
def CR(c:fB)(a:List Env)(P:Program)(w:World)(H:Hp)(s:Shared)(Q:VK)(E:XK)(r:Result)(b:Shared):Prop:=
 match r with
 | .ok (.ret u)=>CE a P w H s Q u b
 | .ok _=>False
 | .error e=>c a H s E e b
structure ay (P:Program) (w:World) (K:Frag) (mg:Str->Option Value) (base:Heap) (CX:fB) (k:Nat) (f:Addr) (fd:FuncData) (ps:List Str) (sp:Sp):Prop where
 len:∀vs H Q E,sp vs H Q E->vs.length=ps.length
 run:∀(A:Around) (outer:List Env) (s:Shared) (H:Hp) (args:Args) (us:List Value) (vs:List V) (Q:VK) (E:XK),bq k A->dR P w K mg base A outer s H->BindsTo s fd args (ps.zip us)->be vs us->sp vs H Q E->
  codeAny (model P w) A (.call (.ref f) args) (CR CX outer P w H s Q E) s
theorem ay.imp{P:Program}{w:World}{K:Frag}{i:Str->Option Value}{base:Heap}{d:fB}{k:Nat}{f:Addr}{fd:FuncData}{e:List Str}{g c:Sp}(F:ay P w K i base d k f fd e g)
  (h:∀b H Q E,c b H Q E->g b H Q E):ay P w K i base d k f fd e c:=
 ⟨fun b H Q E q=>F.len b H Q E (h _ _ _ _ q),fun A a s H args j b Q E l m n o p=>F.run A a s H args j b Q E l m n o (h _ _ _ _ p)⟩
theorem dR.make{P:Program}{w:World}{K:Frag}{b:Str->Option Value}{base:Heap}{A:Around}{a:List Env}{s:Shared}{H:Hp}(e:dR P w K b base A a s H)(C:Addr)(c:List Value)(d:List (Str×Value)) :
  dR P w K b base (A.under (.builtin "type.__call__" ⟨.ref C::c,d⟩)) a s H:=⟨by first | exact e.frames | (simpa[Around.under,Code.envs,Code.isFrame,pushEnvs] using e.frames),e.mod,e.bs,e.bsz,e.funs,e.frf,e.hok,e.bare⟩
section
variable{X:Cx}{pins:List (Addr×Obj)}{Y:St}{H:Hp}{s s':Shared}
theorem Inv.env0(I:Inv X pins Y H s):dR X.prog X.w X.K X.mg X.base X.A X.stack s H:=
 ⟨I.ok.frames,I.ok.mod,I.bs,Nat.le_trans I.ok.bsz I.sz,I.stack,I.stkFree,I.hok,I.bare⟩
theorem Inv.after{Q:VK}{u:Value}(I:Inv X pins Y H s)(h:CE X.stack X.prog X.w H s Q u s'):EP X pins Y Q u s':=by obtain⟨v,c,os,bare,un,hok,r,q⟩:=h;obtain⟨e,g,d,t,a⟩:=s';obtain rfl:a = s.os:=os;exact⟨v,c,I.call (h':=e) (g':=g) (d':=d) (t':=t) (ch:=[]) un hok bare (fun b z=>absurd z (by simp)),r,q⟩
end
def fP(K:Frag)(fd:FuncData)(b:List Str)(c:List Value):Prop:=
 ∀(s:Shared) (a:List Value),K.In s.heap->(a++c).length=b.length->BindsTo s fd ⟨a,[]⟩ (b.zip (a++c))
theorem fP.all{K:Frag}{fd:FuncData}{b:List Str}(h:∀a:List Value,a.length=b.length->bindArgs fd ⟨a,[]⟩=pure (b.zip a)):fP K fd b []:=fun s a _ c=>by rw[List.append_nil] at c ⊢;exact .of_eq (h a c)
section
variable{X:Cx}{CX:fB}{k:Nat}{f C:Addr}{fd:FuncData}{ps:List Str}{sp:Sp}{dvs:List V}{ds:List Value}{E:XK}{x m:Str}{p pos apos:Pos}{e o:Expr}{es:List Expr}{ta:TE}{t:TA}
structure Mk (K:Frag) (C f:Addr):Prop where
 makes:PySem.W.makesIn K C=true
 init:findIn K (.ref C) "__init__" = some (some (.ref f))
 fn:PySem.W.isFn K (.ref f)=true
 kp:keepIn K (.ref C)=true
end
def PK(X:Cx)(b:List Keyword)(t:TA):Prop:=
 ∀(pos:Pos) (a:List (Addr×Obj)) (s:Shared) (Y:St) (H:Hp) (Q:List V->Hp->Prop),Inv X a Y H s->t Y H Q->wpAny (model X.prog X.w) X.A (evalAll ((backToKw pos (keywordEach b X.env)).map (·.2))) (AP X a Y Q) X.xe s
section
variable{X:Cx}{CX:fB}{k:Nat}{f C:Addr}{fd:FuncData}{ps ks:List Str}{sp:Sp}{E:XK}{x m:Str}{p pos apos kpos:Pos}{e o:Expr}{es:List Expr}{kws:List Keyword}{te ta:TE}{t tk:TA}{nm:Option Str}
theorem GA:PK X [] zk:=fun _ _ _ _ H Q I h=>wpAny_evalAll_nil ⟨[],H,I,.nil,h⟩
theorem GB(b:PE X e te)(c:PK X kws t):PK X (⟨nm,e,kpos⟩::kws) (zl te t):=by intro pos a s Y H Q I h;show wpAny _ _ (evalAll ((do let v <-eval e X.env;standAt pos;pure v)::(backToKw pos (keywordEach kws X.env)).map (·.2))) _ _ s;refine wpAny_evalAll_cons (az (aR (b a s Y H _ I h) fun u d ⟨x,g,i,j,l⟩=>az (wpAny_standAt (bp ?_))));exact aR (c pos a d Y g _ i l) fun z A ⟨n,q,r,w,y⟩=>⟨x::n,q,r,.cons j w,y⟩
end
structure aa (N P:List Str) (sc:Scope):Prop where
 kind:sc.kind=.function
 co:sc.isCoroutine=false
 gen:sc.isGenerator=false
 nd:N.Nodup
 pre:N.take P.length=P
 par:∀x∈P,sc.names.lookup x=some .local\/sc.names.lookup x=some .cell
 nofree:∀y∈sc.names,y.2≠.free
theorem zm{kindOf:Str->Option NameKind}{x:Str}:∀{binds:List (Str×Value)}{m:Str->Option Value},(∀v,(x,v)∉binds)->bindL kindOf binds m x=m x
 | [],_,_=>rfl
 | (n,v)::r,m,h=>by
  unfold bindL;rw[zm fun w a=>h w (bY _ a)];split
  ·have:x≠n:=by rintro rfl;exact h v List.mem_cons_self
   simp[this]
  ·rfl
theorem zn{kindOf:Str->Option NameKind}{x:Str}:∀{binds:List (Str×Value)}{m:Str->Option Value},(∀v,(x,v)∉binds)->bindC kindOf binds m x=m x
 | [],_,_=>rfl
 | (n,v)::r,m,h=>by
  unfold bindC;rw[zn fun w a=>h w (bY _ a)];split
  ·rfl
  ·have:x≠n:=by rintro rfl;exact h v List.mem_cons_self
   simp[this]
theorem zo{kindOf:Str->Option NameKind}{x:Str}{v:Value}:∀{P:List Str}{a:List Value}{i:Nat}{m:Str->Option Value},P.Nodup->P[i]? = some x->a[i]? = some v->kindOf x=some .local->
  bindL kindOf (P.zip a) m x=some v
 | [],_,_,_,_,h,_,_=>by simp at h
 | _::_,[],_,_,_,_,h,_=>by simp at h
 | p::P,w::a,0,m,nd,h1,h2,b=>by simp at h1 h2;subst h1;subst h2;show bindL kindOf ((p,w)::P.zip a) m p=_;unfold bindL;rw[zm fun v c=>(List.nodup_cons.mp nd).1 (List.of_mem_zip c).1,if_pos b];simp
 | p::P,w::a,i+1,m,nd,h1,h2,b=>by show bindL kindOf ((p,w)::P.zip a) m x=_;unfold bindL;exact zo (i:=i) (List.nodup_cons.mp nd).2 (by simpa using h1) (by simpa using h2) b
theorem zp{kindOf:Str->Option NameKind}{x:Str}{v:Value}:∀{P:List Str}{a:List Value}{i:Nat}{m:Str->Option Value},P.Nodup->P[i]? = some x->a[i]? = some v->kindOf x≠some .local->
  bindC kindOf (P.zip a) m x=some v
 | [],_,_,_,_,h,_,_=>by simp at h
 | _::_,[],_,_,_,_,h,_=>by simp at h
 | p::P,w::a,0,m,nd,h1,h2,b=>by simp at h1 h2;subst h1;subst h2;show bindC kindOf ((p,w)::P.zip a) m p=_;unfold bindC;rw[zn fun v c=>(List.nodup_cons.mp nd).1 (List.of_mem_zip c).1,if_neg b];simp
 | p::P,w::a,i+1,m,nd,h1,h2,b=>by show bindC kindOf ((p,w)::P.zip a) m x=_;unfold bindC;exact zp (i:=i) (List.nodup_cons.mp nd).2 (by simpa using h1) (by simpa using h2) b
noncomputable def start(N:List Str)(a:List V):St:=a.map some++List.replicate (N.length - a.length) none
noncomputable def jd(CX:fB)(P:Program)(w:World)(K:Frag)(mg:Str->Option Value)(base:Heap)(N:List Str)(qual:Str)(scope:Scope)(f:Addr)(cd:Value)(A:Around)(outer:List Env)(s:Shared)(H:Hp)(E:XK):Cx where
 prog:=P
 w:=w
 K:=K
 mg:=mg
 base:=base
 A:=A.deeper (envOfC qual scope s.heap.objs.size f cd)
 N:=N
 s₀:=s
 H₀:=H
 env:=envOfC qual scope s.heap.objs.size f cd
 outer:=outer
 stack:=envOfC qual scope s.heap.objs.size f cd::outer
 ex:=[]
 calm:=true
 fn:=fun _=>true
 pn:=[]
 xe:=fun e s'=>wpAny (model P w) (A.deeper (envOfC qual scope s.heap.objs.size f cd)) (leaving (envOfC qual scope s.heap.objs.size f cd) e) (fun _ s''=>CX outer H s E e s'') (fun e' s''=>CX outer H s E e' s'') s'
theorem zq{a:Scope}{n:Nat}{x:Str}(h:a.names.lookup x=some .cell):∃c,(cellsFrom n a.names []).lookup x=some c:=by have q:=PySem.W.cellsFrom_some a.names n [] (.inl h);exact Option.isSome_iff_exists.mp q
theorem zr{CX:fB}{P:Program}{w:World}{K:Frag}{L:Str->Option Value}{base:Heap}{N m:List Str}{qual:Str}{d:Scope}{f:Addr}{cd:Value}{A:Around}{g:List Env}{s M:Shared}{H:Hp}{E:XK}{J:List Value}{o:List V}
  (S:aa N m d) (hd:A.handled=none) (l:dR P w K L base A g s H) (X:o.length=m.length) (r:be o J)
  (x:InCallC s s.heap.objs.size (bindL (envOfC qual d s.heap.objs.size f cd).kindOf (m.zip J) fun _=>none) (cellsFrom (s.heap.objs.size+1) d.names []) (bindC (envOfC qual d s.heap.objs.size f cd).kindOf (m.zip J) fun _=>none) M) :
  Inv (jd CX P w K L base N qual d f cd A g s H E) [] (start N o) H M:=by
 have R:m.length<=N.length:=by have:=congrArg List.length S.pre;rw[List.length_take] at this;omega
 obtain⟨I,Y,rfl,O⟩:=x.done;have t:∀b:Addr,b∉(jd CX P w K L base N qual d f cd A g s H E).ex:=fun b z=>absurd (show b∈([]:List Addr) from z) (by simp);refine⟨⟨l.mod,S.kind,rfl,rfl,bF _,fun y z c I j=>?_,fun y B=>?_,fun y c _ h=>?_,fun _=>hd,Around.frames_deeper l.frames,.inr ⟨rfl,rfl⟩,fun b z=>absurd z (t b),l.bs,l.bsz,fun b _ _=>t b,fun b z=>absurd z (t b),l.funs,l.frf⟩,
  rfl,l.bare,Un.kept O,⟨_,x.toInCall.ns,fun i y v I j Z=>?_⟩,fun y c h=>⟨_,x.cell y c h⟩,l.hok.fresh (bF _),fun y c h=>?_,fun p C=>absurd (show p∈([]:List (Addr×Obj)) from C) (by simp),l.hok.kept O,?_⟩
 ·exact name_of_addr x.apart (PySem.mem_of_lookup I) (PySem.mem_of_lookup j)
 ·have B:d.names.lookup y=some .cell\/d.names.lookup y=some .free:=B;rcases B with B | B
  ·exact zq B
  ·exact absurd rfl (S.nofree _ (PySem.mem_of_lookup B))
 ·exact Nat.le_of_lt (x.above y c (PySem.mem_of_lookup h))
 ·have G:i<o.length:=by
   unfold start at j
   by_cases G:i<o.length
   ·exact G
   ·rw[List.getElem?_append_right (by simpa using G)] at j;rw[List.getElem?_replicate] at j;split at j<;>cases j
  have T:o[i]? = some v:=by
   unfold start at j;rw[List.getElem?_append_left (by simpa using G),List.getElem?_map] at j;cases e:o[i]? with
   | none=>rw[e] at j;cases j
   | some a=>rw[e] at j;cases j;rfl
  obtain⟨u,Q,U⟩:=r.get T;have C:m[i]? = some y:=by rw[<-S.pre,List.getElem?_take_of_lt (by omega)];exact I
  have D:m.Nodup:=by rw[<-S.pre];exact S.nd.sublist (List.take_sublist _ _)
  refine⟨u,U,?_⟩;rcases S.par y (List.mem_of_getElem? C) with k | k
  ·exact .inl ⟨k,zo D C Q k⟩
  ·obtain⟨c,e⟩:=zq (n:=s.heap.objs.size+1) k;refine .inr ⟨.inl k,c,e,?_⟩;have q:=x.cell y c e;rw[zp D C Q (by show d.names.lookup y≠_;rw[k];decide)] at q;exact q
 ·exact l.hok.fresh (Nat.le_of_lt (x.above y c (PySem.mem_of_lookup h)))
 ·unfold start;show _=N.length;rw[List.length_append,List.length_map,List.length_replicate];omega
theorem GC{D:fB}{P:Program}{w:World}{K:Frag}{M:Str->Option Value}{base:Heap}{k:Nat}{f:Addr}{name d:Str}{h:Arguments}{body:List Stmt}{a:Scope}{dV kV z pm g ct oc:Value}{an od:Option Addr}
  {O:Array (Option Value)}{N G:List Str}{R:Sp}(lk:K.lookup f=some ⟨oc,od,.func (fnOf name d h body a dV kV z pm an g ct),O⟩) (T:codeIn K g d=true) (S:aa N G a)
  (len:∀i H Q E,R i H Q E->i.length=G.length)
  (l:∀(A:Around) (c:List Env) (s:Shared) (H:Hp) (i:List V) (Q:VK) (E:XK),bq k (A.deeper (envOfC d a s.heap.objs.size f g))->R i H Q E->
   ∃t,PSs (jd D P w K M base N d a f g A c s H E) body t/\t { nx:=fun _ j=>Q .non j,rt:=Q } (start N i) H) :
  ay P w K M base D (k+1) f (fnOf name d h body a dV kV z pm an g ct) G R:=by
 refine⟨len,fun A c s H args us i Q E U B hb r C=>?_⟩;have hl:=len _ _ _ _ C;have KX:K.In s.heap:=B.mod.kin.keeps fun b o e=>(B.bs b o e).1;have X:s.heap.NoLimit:=B.mod.nolimit.keeps fun b o e=>(B.bs b o e).1;have m:∀y∈G.zip us,a.names.lookup y.1=some .local\/(a.names.lookup y.1=some .cell/\((cellsFrom (s.heap.objs.size+1) a.names []).lookup y.1).isSome=true):=fun⟨n,v⟩ hy=>by
  rcases S.par n (List.of_mem_zip hy).1 with q | q
  ·exact .inl q
  ·exact .inr ⟨q,PySem.W.cellsFrom_some _ _ _ (.inl q)⟩
 refine codeAny_call_function U.depth (KX _ _ lk) rfl S.co S.gen rfl (PySem.W.codeRec_of KX T) (hb _ _ _ _ ?_);refine wpAny_newFunctionEnv_cells S.kind m fun a0 he s1 x=>?_;subst he;refine⟨X.keeps x.toInCall.keep,codeAny_func ?_⟩;obtain⟨t,ht,hq⟩:=l A c s H i Q E (U.deeper _) C;have I:Inv (jd D P w K M base N d a f g A c s H E) [] (start N i) H s1:=zr S U.hd B hl r x;refine wpAny_mono (ht [] s1 (start N i) H _ I hq) (fun fl Y p=>?_) fun e Y p=>p;have fin:∀{L:St}{j:Hp}{v:V}{u:Value},Inv (jd D P w K M base N d a f g A c s H E) [] L j Y->bj v u->Q v j->CE c P w H s Q u Y:=
  fun {L j v u} J Z q=>⟨v,j,J.os,J.bare,J.base,J.hok,Z,q⟩
 cases fl with
 | ret u=>obtain⟨v,L,j,J,Z,q⟩:=p;exact fin J Z q
 | next=>obtain⟨L,j,J,q⟩:=p;exact fin (v:=V.non) (u:=Value.none) J rfl q
 | brk=>obtain⟨_,_,_,q⟩:=p;exact False.elim q
 | cont=>obtain⟨_,_,_,q⟩:=p;exact False.elim q
section
variable{X:Cx}{x:Str}{p pos:Pos}{e:Expr}{es:List Expr}{t:TA}{id T:String}{r:List V->Hp->VK->Prop}
noncomputable def uY(r:List V->Hp->VK->Prop)(t:TA):TE:=fun Y H Q=>t Y H fun a b=>r a b Q
theorem kL(d:gj X (.builtin id) r)(f:Gl X x)(g:X.mg x=none)(i:bootBuiltins x=some (.builtin id))(j:PA X (e::es) t)(k:x≠"__name__":=by decide)(b:(x==("__debug__":Str))=false:=by decide)
  (l:starEach (e::es) X.env=(false,eval e X.env)::starEach es X.env:=by rfl) (c:(backTo pos (starEach es X.env)).any (·.1)=false:=by rfl):PE X (.Call (.Name x p) (e::es) [] pos) (uY r t):=by
 intro a s Y H Q I h;refine wpAny_Call_Name_kw (jG I f g i ?_ k b);exact PyProof.Rows.callWith_builtin1 (aR (j pos a s Y H _ I h) fun m n ⟨o,q,u,v,w⟩=>d a n Y q o m Q u v w) l c
theorem zt(d:gj X (.type T) r)(f:Gl X x)(g:X.mg x=none)(i:bootBuiltins x=some (.type T))(j:PA X (e::es) t)(k:x≠"__name__":=by decide)(b:(x==("__debug__":Str))=false:=by decide)
  (l:starEach (e::es) X.env=(false,eval e X.env)::starEach es X.env:=by rfl) (c:(backTo pos (starEach es X.env)).any (·.1)=false:=by rfl):PE X (.Call (.Name x p) (e::es) [] pos) (uY r t):=by
 intro a s Y H Q I h;refine wpAny_Call_Name_kw (jG I f g i ?_ k b);exact PyProof.Rows.callWith_type1 (aR (j pos a s Y H _ I h) fun m n ⟨o,q,u,v,w⟩=>d a n Y q o m Q u v w) l c
end
end L2
namespace HT
open PySem PyProof.Rows
noncomputable def lexLt:List Int->List Int->Bool
 | [],[]=>false
 | [],_::_=>true
 | _::_,[]=>false
 | x::a,y::b=>if x=y then lexLt a b else decide (x<y)
theorem GD(x y:Int)(a b:List Int):lexLt (x::a) (y::b)=if x=y then lexLt a b else decide (x<y):=rfl
theorem GG:lexLt [] []=false:=rfl
theorem GI(y:Int)(a:List Int):lexLt [] (y::a)=true:=rfl
theorem GJ(x:Int)(a:List Int):lexLt (x::a) []=false:=rfl
theorem GK(A:Around)(s:Shared)(a:Int)(t:Tok)(c:Int)(u:Tok):∃e,SeqAt.EqAt A s (.int a t) (.int c u) e/\(e=true↔a=c):=
 ⟨(a==c),SeqAt.EqAt.int_int a t c u,by simp⟩
theorem GL(A:Around)(s:Shared)(a:Int)(t:Tok)(c:Int)(u:Tok)(b:Program)(w:World)(E:Value->Shared->Prop)(Q:Value->Shared->Prop)(h:Q (.bool (decide (a<c))) s) :
  wpAny (model b w) A (richCompare .Lt (.int a t) (.int c u)) Q E s:=
 (PyProof.Rows.lt_int h:wpAny (model b w) A (compareOp .Lt (.int a t) (.int c u)) Q E s)
section
open PySem.SeqAt
open PySem.AutoSeq1 (wpAny_loadPart')
open PySem.MeetsSeq PySem.MeetsSeq2 PySem.MeetsSeq3
theorem GN(l b:Addr)(items f:Array Value)(n Z:Nat)(dd N:Option Addr)(sl O:Array (Option Value))(M G:List Int)(U:IntsAre items.toList M)(X:IntsAre f.toList G) :
  Meets (Builtin.«tuple.__lt__» ⟨[.ref l,.ref b],[]⟩)
   (fun _ R s=>s.heap.get? l=some { cls:=.type "tuple",dict:=dd,data:=.seq items n,slots:=sl }/\s.heap.get? b=some { cls:=.type "tuple",dict:=N,data:=.seq f Z,slots:=O }/\
    R (.ok (.ret (.bool (lexLt M G)))) s):=
 .of_wp fun v w A R s h=>by
  obtain⟨H,g,d,I,os⟩:=s;obtain⟨hl,hb,h⟩:=h;have f2:=AutoSeq1.sub_tuple_tuple;have z1:items.size=M.length:=by rw[<-U.length];simp
  have z2:f.size=G.length:=by rw[<-X.length];simp
  wp_walk using wpAny_loadPart' hl,wpAny_loadPart' hb,wpAny_forIn_list _ (fun rest b Q=>b.1=none/\Q = ⟨H,g,d,I,os⟩/\∃(J L:List Value) (j k:List Int),rest=J.zip L/\
   IntsAre J j/\IntsAre L k/\j.length+f.size=k.length+items.size/\R (.ok (.ret (.bool (lexLt j k)))) ⟨H,g,d,I,os⟩) _
  case turn=>
   rintro⟨y,x⟩ rest b Q ⟨z,rfl,J,L,j,k,m,B,o,i,p⟩;cases B with
   | nil=>rw[List.zip_nil_left] at m;cases m
   | cons a t D=>
    cases o with
    | nil=>rw[List.zip_nil_right] at m;cases m
    | cons c u E=>
     rw[List.zip_cons_cons] at m;injection m with S C
     injection S with hy hx
     subst hy hx;rw[GD] at p;simp only[List.length_cons] at i;obtain⟨e,he,r⟩:=GK A.in1 ⟨H,g,d,I,os⟩ a t c u;refine az (he v w _ _ ?_);cases e with
     | true=>
      rw[if_pos (r.mp rfl)] at p
      wp_walk
      exact⟨rfl,rfl,_,_,_,_,C,D,E,by omega,p⟩
     | false=>
      rw[if_neg (fun q=>absurd (r.mpr q) Bool.false_ne_true)] at p;have T:=GL A.in1 ⟨H,g,d,I,os⟩ a t c u v w
      wp_walk using T
      exact⟨_,rfl,by simpa using p⟩
  case fin=>
   rintro⟨b1,b2⟩ Q ⟨z,rfl,J,L,j,k,m,B,o,i,p⟩;simp only at z;subst z;have Y:lexLt j k = decide (items.size<f.size):=by
    cases B with
    | nil=>
     cases o with
     | nil=>simp only[List.length_nil] at i;rw[GG];exact(decide_eq_false (by omega)).symm
     | cons c u hw=>simp only[List.length_nil,List.length_cons] at i;rw[GI];exact(decide_eq_true (by omega)).symm
    | cons a t Y=>
     cases o with
     | nil=>simp only[List.length_nil,List.length_cons] at i;rw[GJ];exact(decide_eq_false (by omega)).symm
     | cons c u hw=>rw[List.zip_cons_cons] at m;cases m
   rw[Y] at p
   wp_walk
   exact⟨_,rfl,by simpa[Builtin.Tuple.tupleCompareSizes] using p⟩
  case h=>exact⟨rfl,rfl,items.toList,f.toList,M,G,rfl,U,X,by omega,h⟩
end
section
variable{prog:Program}{w:World}{A:Around}{E:Value->Shared->Prop}{s:Shared}
theorem lt_tupInts{l b:Addr}{items a:Array Value}{g c:List Int}{Q:Value->Shared->Prop}(p:IsTup s.heap l items)(q:IsTup s.heap b a)(r:IntsAre items.toList g)(t:IntsAre a.toList c)
  (u:A.units<cLine) (h:Q (.bool (lexLt g c)) s):wpAny (model prog w) A (compareOp .Lt (.ref l) (.ref b)) Q E s:=by
 obtain⟨⟨cls,dd,data,sl⟩,k,m,n,hd⟩:=id p;obtain⟨⟨o,i,data2,j⟩,d,e,v,f⟩:=id q;simp only at m hd e f;subst m hd e f;exact richCompare_meets_room (op:=.Lt) ⟨_,k,rfl⟩ ⟨_,d,rfl⟩ PySem.F.slot_tuple_lt PySem.F.entry_tuple_lt (PySem.F.args_tuple_lt_2 _ _) (GN l b items a n v dd i sl j g c r t)
  ⟨k,d,show Value.bool (lexLt g c)≠Value.notImplemented/\Q (.bool (lexLt g c)) s from⟨(fun x=>nomatch x),h⟩⟩ u
theorem cat_tup{t b:Addr}{d a:List Value}{Q:Value->Shared->Prop}(r:IsTup s.heap t d.toArray)(u:IsTup s.heap b a.toArray)(m:d≠[])
  (v:a=[]->Q (.ref t) s) (x:a≠[]->Q (.ref s.heap.objs.size) { s with heap:=s.heap.push { cls:=.type "tuple",data:=.seq (d++a).toArray } })
  (l:d.length+a.length<=sizeLine):wpAny (model prog w) A (binaryOp .Add (.ref t) (.ref b)) Q E s:=by
 obtain⟨⟨cls,dd,data,sl⟩,j,o,n,hd⟩:=id r;obtain⟨⟨p,f,data2,g⟩,c,h,q,i⟩:=id u;simp only at o hd h i;subst o hd h i;have e:d.toArray++a.toArray=(d++a).toArray:=by simp
 by_cases k:a=[]
 ·exact concat_meets ⟨_,j,rfl⟩ ⟨_,c,rfl⟩ noFill_tuple_add seq_tuple_add PySem.F.slot_tuple_add PySem.F.entry_tuple_add (PySem.F.args_tuple_add_2 _ _)
   (tuple_addW1 t b d.toArray a.toArray n q dd f sl g (by simpa using m) (by simp[k])) ⟨j,c,v k⟩
 ·refine concat_meets ⟨_,j,rfl⟩ ⟨_,c,rfl⟩ noFill_tuple_add seq_tuple_add PySem.F.slot_tuple_add PySem.F.entry_tuple_add (PySem.F.args_tuple_add_2 _ _)
   (tuple_addW2 t b d.toArray a.toArray n q dd f sl g (by simpa using m) (by simpa using k) (by rw[List.size_toArray,List.size_toArray];exact l)) ⟨j,c,?_⟩
  rw[e];exact x k
noncomputable def sIx(n d:Nat):Option Int->Nat
 | none=>d
 | some v=>if v<0 then(v+(n:Int)).toNat else min v.toNat n
theorem sIx_none(n d:Nat):sIx n d none=d:=rfl
theorem sIx_nat(n d k:Nat):sIx n d (some (k:Int))=min k n:=by show(if (k:Int)<0 then((k:Int)+(n:Int)).toNat else min (k:Int).toNat n)=min k n;rw[if_neg (by omega),Int.toNat_natCast]
end
end HT
namespace L2
open PySem PySem.Spec PyProof.Rows
abbrev TO:=St->Hp->(Option Int->Hp->Prop)->Prop
def PO(X:Cx)(e:Option Expr)(t:TO):Prop:=
 ∀(a:List (Addr×Obj)) (s:Shared) (Y:St) (H:Hp) (Q:Option Int->Hp->Prop),Inv X a Y H s->t Y H Q->
  wpAny (model X.prog X.w) X.A (evalPart e X.env) (fun u c=>∃o b,Inv X a Y b c/\IsPart u o/\Q o b) X.xe s
noncomputable def GO:TO:=fun _ H Q=>Q none H
noncomputable def GP(t:TE):TO:=fun Y H Q=>t Y H fun x a=>∃i,x=.int i/\Q (some i) a
section
variable{X:Cx}{e:Expr}{te:TE}{lo hi:Option Expr}{tl th:TO}{pos p2:Pos}
theorem GQ:PO X none GO:=by intro a s Y H Q I h;rw[evalPart_none];exact bp ⟨none,H,I,.none,h⟩
theorem GR(h:PE X e te):PO X (some e) (GP te):=by intro a s Y H Q I b;rw[evalPart_some];refine aR (h a s Y H _ I b) fun u j ⟨x,c,d,f,g⟩=>?_;obtain⟨i,rfl,q⟩:=g;obtain⟨t,rfl⟩:=f;exact⟨some i,c,d,.int i t,q⟩
def zu(X:Cx)(r:V->Option Int->Option Int->Hp->VK->Prop):Prop:=
 ∀(a:List (Addr×Obj)) (s:Shared) (Y:St) (H:Hp) (x:V) (v b c:Value) (lo hi:Option Int) (d:Addr) (Q:VK),Inv X a Y H s->bj x v->s.heap.IsSliceOf d b c .none->IsPart b lo->IsPart c hi->r x lo hi H Q->
  ∃T id,typeLookup (.type T) "__getitem__" = pure (some (.builtin id))/\s.TypeIs v T/\wpAny (model X.prog X.w) X.A (getItem v (.ref d)) (EP X a Y Q) X.xe s
noncomputable def GS(r:V->Option Int->Option Int->Hp->VK->Prop)(te:TE)(tl th:TO):TE:=fun Y H Q=>te Y H fun x a=>tl Y a fun l b=>th Y b fun u c=>r x l u c Q
theorem GU{r:V->Option Int->Option Int->Hp->VK->Prop}(i:zu X r)(j:PE X e te)(k:PO X lo tl)(m:PO X hi th):PE X (.Subscript e (.Slice lo hi none p2) pos) (GS r te tl th):=by intro a s Y H Q I h;refine Subscript_ (aR (j a s Y H _ I h) fun v n ⟨x,o,p,t,y⟩=>?_);refine wpAny_Slice (aR (k a n Y o _ p y) fun d z ⟨l,B,C,pl,D⟩=>aR (m a z Y B _ C D) fun f c ⟨u,g,E,G,J⟩=>?_);rw[evalPart_none];refine bp ?_;have L:Inv X a Y g { c with heap:=c.heap.push { cls:=.type "slice",data:=.fields #[d,f,.none] } }:=E.kept (t':=c.toks) fun b R q=>br _ q;obtain⟨T,id,M,N,O⟩:=i a { c with heap:=c.heap.push { cls:=.type "slice",data:=.fields #[d,f,.none] } } Y g x v d f l u c.heap.objs.size Q L t (Heap.IsSliceOf.new ..) pl G J;show wpAny (model X.prog X.w) X.A (subscriptTail e (.Slice lo hi none p2) v (.ref c.heap.objs.size)) (EP X a Y Q) X.xe { c with heap:=c.heap.push { cls:=.type "slice",data:=.fields #[d,f,.none] } };exact tail_any (ops:=[.ref c.heap.objs.size,v]) N M O (by with_unfolding_all rfl)
noncomputable def me(a:List V)(lo hi:Option Int):List V:=(a.drop (HT.sIx a.length 0 lo)).take (HT.sIx a.length a.length hi - HT.sIx a.length 0 lo)
theorem GV(a:List V)(lo hi:Option Int):(me a lo hi).length<=a.length:=by unfold me;rw[List.length_take,List.length_drop];omega
noncomputable def GW(K:Frag):R2:=fun x y H Q=>∃a b d c,x=.ref a/\y=.ref b/\ei K H a d/\ei K H b c/\d≠[]/\d.length+c.length<=sizeLine/\
 (c=[]->Q (.ref a) H)/\(c≠[]->∀p,H p=none->Q (.ref p) (aN H p (.tup (d++c))))
theorem be.nil_iff{a:List V}{b:List Value}(r:be a b):b=[]↔a=[]:=by
 cases r with
 | nil=>simp
 | cons _ _=>simp
theorem GX:cD X (binaryOp .Add) (GW X.K):=by intro f s Y H x y v u Q I j k h;obtain⟨a,b,l,m,rfl,rfl,n,p,r,g,t,A⟩:=h;cases j;cases k;obtain⟨B,d,C,_⟩:=I.tuple n;obtain⟨i,c,p2,_⟩:=I.tuple p;refine HT.cat_tup C p2 (fun z=>r (d.nil_iff.mp z)) (fun z=>⟨.ref a,H,I,rfl,t (c.nil_iff.mp z)⟩) (fun z=>?_) (by rw[<-d.length,<-c.length];exact g);refine⟨.ref s.heap.objs.size,_,I.laid (t':=s.toks) (o:=.tup (l++m)) (fun b D q=>br _ q) (bF _) ?_,rfl,A (fun w=>z (c.nil_iff.mpr w)) _ (I.hok.fresh (bF _))⟩;exact⟨by rw[List.length_append];exact g,_,d.append c,IsTup.new _ _⟩
end
noncomputable def dA(n:Nat)(i:Int):Option Nat:=if 0<=i then(if i<n then some i.toNat else none) else if -(n:Int)<=i then some (i+n).toNat else none
noncomputable def bI{α:Type}(a:List α)(i:Int):Option α:=(dA a.length i).bind fun j=>a[j]?
theorem zv{n:Nat}{i:Int}{j:Nat}(h:dA n i=some j):seqIndex? i n=some j/\j<n/\-(n:Int)<=i/\i<n:=by
 unfold dA at h
 by_cases a:0<=i
 ·rw[if_pos a] at h
  by_cases h1:i<n
  ·rw[if_pos h1] at h;have e:i.toNat=j:=Option.some.inj h;exact⟨by rw[seqIndex_of a h1,e],by omega,by omega,h1⟩
  ·rw[if_neg h1] at h;cases h
 ·rw[if_neg a] at h
  by_cases h1:-(n:Int)<=i
  ·rw[if_pos h1] at h;have e:(i+n).toNat=j:=Option.some.inj h;exact⟨by rw[seqIndex_neg (by omega) h1,e],by omega,h1,by omega⟩
  ·rw[if_neg h1] at h;cases h
theorem zw{α:Type}{a:List α}{i:Int}{v:α}(h:bI a i=some v):∃j,seqIndex? i a.length=some j/\a[j]? = some v/\j<a.length/\-(a.length:Int)<=i/\i<a.length:=by
 unfold bI at h;cases e:dA a.length i with
 | none=>rw[e] at h;cases h
 | some j=>rw[e] at h;obtain⟨c,h2,h3,b⟩:=zv e;exact⟨j,c,h,h2,h3,b⟩
def nJ(b:Expr):Prop:=∀o i,subscripted b false o i=operate [o,i] (getItem o i)
def je(X:Cx)(r:R2):Prop:=
 ∀(value slice:Expr) (a:List (Addr×Obj)) (s:Shared) (Y:St) (H:Hp) (x y:V) (v u:Value) (Q:VK),Inv X a Y H s->bj x v->bj y u->r x y H Q->
  subscripted slice false v u=operate [v,u] (getItem v u)->wpAny (model X.prog X.w) X.A (subscriptTail value slice v u) (EP X a Y Q) X.xe s
def pZ(X:Cx)(id:String)(r:V->List V->Hp->VK->Prop):Prop:=
 ∀(a:List (Addr×Obj)) (s:Shared) (Y:St) (H:Hp) (x:V) (b:List V) (v:Value) (c:List Value) (Q:VK),Inv X a Y H s->bj x v->be b c->r x b H Q->
  wpAny (model X.prog X.w) X.A (call (.builtin id) (v::c)) (EP X a Y Q) X.xe s
section
variable{X:Cx}{a b:Expr}{ta tb:TE}{pos:Pos}
theorem je.or{r d:R2}(h:je X r)(i:je X d):je X (fun x y H Q=>r x y H Q\/d x y H Q):=by
 intro value slice c s Y H x y v u Q I e f q g;rcases q with q | q
 ·exact h value slice c s Y H x y v u Q I e f q g
 ·exact i value slice c s Y H x y v u Q I e f q g
theorem uZ{r:R2}(d:je X r)(e:PE X a ta)(f:PE X b tb)(g:nJ b):PE X (.Subscript a b pos) (nG r ta tb):=by intro c s Y H Q I h;exact Subscript_ (uS e f I h fun v u i x y j k l m q=>d a b c i Y j x y v u Q k l m q (g _ _))
noncomputable def va(K:Frag):R2:=fun x y H Q=>∃p c i v,x=.ref p/\y=.int i/\df K H p c/\bI c i=some v/\Q v H
noncomputable def vb(K:Frag):R2:=fun x y H Q=>∃p c i v,x=.ref p/\y=.int i/\ei K H p c/\bI c i=some v/\Q v H
theorem vc:je X (va X.K):=by
 intro value slice c s Y H x y v u Q I m n h g;obtain⟨p,G,i,z,rfl,rfl,o,A,q⟩:=h;cases m;obtain⟨t,rfl⟩:=n;obtain⟨d,r,pl,J⟩:=I.list o;obtain⟨j,h1,h2,h3,B,C⟩:=zw A;obtain⟨w,k,e⟩:=r.get h2;have D:=r.length;have L:=ej;have fin:EP X c Y Q w s:=⟨z,H,I,e,q⟩
 by_cases l:0<=i
 ·have f:i.toNat=j:=by rw[seqIndex_of l C] at h1;exact Option.some.inj h1
  exact item_listR pl.isList l (by omega) (by rw[f];simpa using k) fin g
 ·have f:(i+(d.toArray.size:Int)).toNat=j:=by rw[seqIndex_neg (by omega) B] at h1;rw[List.size_toArray,<-D];exact Option.some.inj h1
  exact subscriptTail_builtinR (x:=w) pl.isList.typeIs slot_list_getitem.lookup
   (wpAny_getItem_list_neg (Q:=fun r E=>r=w/\EP X c Y Q r E) pl.isList (by omega) (by rw[List.size_toArray]<;>omega) (by omega) (by rw[f];simpa using k) ⟨rfl,fin⟩) g
theorem GY:je X (vb X.K):=by
 intro value slice c s Y H x y v u Q I e f h g;obtain⟨p,B,i,z,rfl,rfl,k,l,q⟩:=h;cases e;obtain⟨t,rfl⟩:=f;obtain⟨m,r,pl,C⟩:=I.tuple k;obtain⟨j,h1,h2,h3,D,E⟩:=zw l;obtain⟨w,n,d⟩:=r.get h2;have o:=r.length;have G:=ej;have fin:EP X c Y Q w s:=⟨z,H,I,d,q⟩
 exact subscriptTail_builtinR (x:=w) pl.typeIs slot_tuple_getitem.lookup
  (getItem_tuple (j:=j) (Q:=fun r A=>r=w/\EP X c Y Q r A) pl (by omega) (by omega) (by rw[List.size_toArray,<-o];exact h1) (by simpa using n) ⟨rfl,fin⟩) g
theorem GZ(c:List Value)(n j:Nat)(u:Value):Obj.mapSeq (·.setIfInBounds j u) { cls:=.type "list",data:=.seq c.toArray n } = { cls:=.type "list",data:=.seq (c.set j u).toArray n }:=by simp[Obj.mapSeq]
theorem Inv.lst{d:List (Addr×Obj)}{Y:St}{H:Hp}{s:Shared}{p:Addr}{f:List V}(I:Inv X d Y H s)(h:H p=some (.lst f)) :
  ∃(c:List Value) (n:Nat),be f c/\s.heap.get? p=some { cls:=.type "list",data:=.seq c.toArray n }/\f.length<=sizeLine:=by
 obtain⟨z,c,n,r,e⟩:=I.hok p _ h;exact⟨c,n,r,e,z⟩
theorem Inv.lstUpd{d:List (Addr×Obj)}{Y:St}{H:Hp}{s:Shared}{p:Addr}{l i:List V}{g c:List Value}{n j:Nat}{f:Obj->Obj}(I:Inv X d Y H s)(h:H p=some (.lst l))
  (m:s.heap.get? p=some { cls:=.type "list",data:=.seq g.toArray n }) (k:f { cls:=.type "list",data:=.seq g.toArray n } = { cls:=.type "list",data:=.seq c.toArray j }) (r:be i c) (o:i.length<=sizeLine) (t:Nat) :
  Inv X d Y (aN H p (.lst i)) { s with heap:=s.heap.update p f,toks:=t }:=by
 have e:(s.heap.update p f).get? p=some { cls:=.type "list",data:=.seq c.toArray j }:=by rw[Heap.get?_update_self f m (by rw[k]<;>rfl),k]
 refine I.write (x:=p) (e:=p) (by rw[h];trivial) (.inl rfl) (fun b u v q=>(Heap.get?_update_other _ _ (Ne.symm v)).trans q) ⟨_,e⟩ ?_;exact⟨o,c,j,r,e⟩
noncomputable def Ha:V->V->V->Hp->(Hp->Prop)->Prop:=fun o i v H Q=>∃p c k j,o=.ref p/\i=.int k/\H p=some (.lst c)/\dA c.length k=some j/\Q (aN H p (.lst (c.set j v)))
theorem Hb:yP X Ha:=by
 intro c s Y H o i v G J u Q I z A B h;obtain⟨p,C,k,j,rfl,rfl,m,D,q⟩:=h;cases z;obtain⟨t,rfl⟩:=A;obtain⟨d,n,r,f,E⟩:=I.lst m;obtain⟨e,h2,h3,w⟩:=zv D;have g:=r.length;have L:=ej;have x:Inv X c Y (aN H p (.lst (C.set j v))) { s with heap:=s.heap.update p (Obj.mapSeq (·.setIfInBounds j u)) }:=
  I.lstUpd m f (GZ d n j u) (r.set B j) (by rw[List.length_set];exact E) s.toks
 by_cases y:0<=k
 ·have l:k.toNat=j:=by rw[seqIndex_of y w] at e;exact Option.some.inj e
  exact PySem.W.ki_setAt f y (by omega) (by rw[List.size_toArray,<-g];exact w) (by rw[l];exact⟨_,x,q⟩)
 ·have l:(k+(d.toArray.size:Int)).toNat=j:=by rw[seqIndex_neg (by omega) h3] at e;rw[List.size_toArray,<-g];exact Option.some.inj e
  exact PySem.W.ki_setBack f (by omega) (by rw[List.size_toArray,<-g];exact h3) (by omega) (by rw[l];exact⟨_,x,q⟩)
theorem Hc(lo c:Option Int)(n:Nat):(sliceBounds lo c none n).1=((HT.sIx n 0 lo:Nat):Int)/\(sliceBounds lo c none n).2.1=((HT.sIx n n c:Nat):Int)/\(sliceBounds lo c none n).2.2=1:=by
 refine⟨?_,?_,rfl⟩
 ·cases lo with
  | none=>simp[sliceBounds,HT.sIx]
  | some i=>
   simp only[sliceBounds,HT.sIx,Option.getD_none,show(1:Int)>0 by decide,if_true]
   by_cases h:i<0
   ·simp only[h,if_true]<;>omega
   ·simp only[h,if_false]<;>omega
 ·cases c with
  | none=>simp[sliceBounds,HT.sIx]
  | some i=>
   simp only[sliceBounds,HT.sIx,Option.getD_none,show(1:Int)>0 by decide,if_true]
   by_cases h:i<0
   ·simp only[h,if_true]<;>omega
   ·simp only[h,if_false]<;>omega
theorem Hd(c:List Value)(lo d:Option Int):slicePick c.toArray lo d none=((c.drop (HT.sIx c.length 0 lo)).take (HT.sIx c.length c.length d - HT.sIx c.length 0 lo)).toArray:=by obtain⟨e,h2,h3⟩:=Hc lo d c.toArray.size;unfold slicePick;rw[e,h2,h3];simp only[sliceRange_one,pick_run,List.size_toArray]<;>rfl
noncomputable def He(K:Frag):V->Option Int->Option Int->Hp->VK->Prop:=fun x lo d H Q=>∃a c,x=.ref a/\df K H a c/\∀p,H p=none->Q (.ref p) (aN H p (.lst (me c lo d)))
theorem Hf:zu X (He X.K):=by intro f s Y H x v t u lo e w Q I i j p k h;obtain⟨a,c,rfl,l,q⟩:=h;cases i;obtain⟨m,r,g,n⟩:=I.list l;have d:=r.length;refine⟨"list",_,slot_list_getitem.lookup,g.isList.typeIs,?_⟩;refine wpAny_getItem_list_slice g.isList j p k .none (by simp) ?_ (by rw[List.size_toArray]<;>omega);rw[Hd,<-d];refine⟨.ref s.heap.objs.size,_,I.laid (t':=s.toks) (o:=.lst (me c lo e)) (fun b y q=>br _ q) (bF _) ?_,rfl,q _ (I.hok.fresh (bF _))⟩;exact⟨Nat.le_trans (GV c lo e) n,_,0,(r.drop (HT.sIx c.length 0 lo)).take (HT.sIx c.length c.length e - HT.sIx c.length 0 lo),Heap.get?_push_size _ rfl⟩
noncomputable def gY:V->Bool
 | .non=>true
 | .bl _=>true
 | .int _=>true
 | .str _=>true
 | _=>false
noncomputable def ek:V->V->Bool
 | .non,.non=>true
 | .bl a,.bl b=>a==b
 | .bl a,.int b=>(if a then 1 else 0)==b
 | .int a,.bl b=>a==(if b then 1 else 0)
 | .int a,.int b=>a==b
 | .str a,.str b=>a==b
 | _,_=>false
theorem Hg{A:Around}{s:Shared}{y x:V}{u v:Value}(d:bj y u)(c:bj x v)(f:gY y=true)(e:gY x=true):SeqAt.EqAt A s u v (ek y x):=by
 cases y with
 | non=>
  cases d;cases x with
  | non=>cases c;exact SeqAt.EqAt.same _
  | bl b=>cases c;exact SeqAt.EqAt.none_bool b
  | int b=>obtain⟨t,rfl⟩:=c;exact SeqAt.EqAt.none_int b t
  | str b=>obtain⟨t,rfl⟩:=c;exact SeqAt.EqAt.none_str b t
  | _=>exact absurd (show false=true from e) Bool.false_ne_true
 | bl a=>
  cases d;cases x with
  | non=>cases c;exact SeqAt.EqAt.bool_none a
  | bl b=>cases c;exact SeqAt.EqAt.bool_bool a b
  | int b=>obtain⟨t,rfl⟩:=c;exact SeqAt.EqAt.bool_int a b t
  | str b=>obtain⟨t,rfl⟩:=c;exact SeqAt.EqAt.bool_str a b t
  | _=>exact absurd (show false=true from e) Bool.false_ne_true
 | int a=>
  obtain⟨t',rfl⟩:=d;cases x with
  | non=>cases c;exact SeqAt.EqAt.int_none a t'
  | bl b=>cases c;exact SeqAt.EqAt.int_bool a t' b
  | int b=>obtain⟨t,rfl⟩:=c;exact SeqAt.EqAt.int_int a t' b t
  | str b=>obtain⟨t,rfl⟩:=c;exact SeqAt.EqAt.int_str a t' b t
  | _=>exact absurd (show false=true from e) Bool.false_ne_true
 | str a=>
  obtain⟨t',rfl⟩:=d;cases x with
  | non=>cases c;exact SeqAt.EqAt.str_none a t'
  | bl b=>cases c;exact SeqAt.EqAt.str_bool a t' b
  | int b=>obtain⟨t,rfl⟩:=c;exact SeqAt.EqAt.str_int a t' b t
  | str b=>obtain⟨t,rfl⟩:=c;exact SeqAt.EqAt.str_str a t' b t
  | _=>exact absurd (show false=true from e) Bool.false_ne_true
 | _=>exact absurd (show false=true from f) Bool.false_ne_true
theorem gZ:gj X (.builtin "len") (fun i H Q=>∃p d,i=[.ref p]/\(df X.K H p d\/ei X.K H p d)/\Q (.int d.length) H):=by
 intro j s Y H i m Q I r h;obtain⟨p,d,rfl,e,q⟩:=h;obtain⟨u,rfl,k⟩:=cZ r;cases k;have n:=ej;rcases e with e | e
 ·obtain⟨f,g,pl,l⟩:=I.list e;have c:=g.length;exact Calls.call_len_list pl.isList (by simp only[List.size_toArray]<;>omega) ⟨.int d.length,H,I.tok _,⟨s.toks+1,by rw[List.size_toArray,c]⟩,q⟩
 ·obtain⟨f,g,pl,l⟩:=I.tuple e;have c:=g.length;exact len_tuple pl (by simp only[List.size_toArray]<;>omega) ⟨.int d.length,H,I.tok _,⟨s.toks+1,by rw[List.size_toArray,c]⟩,q⟩
theorem Hh:gj X (.type "list") (fun z H Q=>∃p f,z=[.ref p]/\(df X.K H p f\/ei X.K H p f)/\∀l,H l=none->Q (.ref l) (aN H l (.lst f))):=by
 intro j s Y H z C Q I r h;obtain⟨p,f,rfl,k,q⟩:=h;obtain⟨u,rfl,B⟩:=cZ r;cases B;have fin:∀(c:List Value),be f c->f.length<=sizeLine->∀(d:Heap) (g:Nat),(∀b A,s.heap.get? b=some A->d.get? b=some A)->
   d.get? s.heap.objs.size=some { cls:=.type "list",dict:=none,data:=.seq c.toArray g,slots:=#[] }->EP X j Y Q (.ref s.heap.objs.size) { s with heap:=d }:=fun c i m d g v e=>
  ⟨.ref s.heap.objs.size,_,I.laid (t':=s.toks) v (bF _) (show cw X.prog X.w _ d _ (.lst f) from⟨m,c,g,i,e⟩),rfl,q _ (I.hok.fresh (bF _))⟩
 rcases k with k | k
 ·obtain⟨c,i,pl,m⟩:=I.list k;have t:=i.length;obtain⟨o,x,y,n,hd⟩:=pl.isList;exact call_list_seq p (.inl rfl) x y hd (fun d g v e=>fin c i m d g v e) (by simp only[List.size_toArray]<;>omega)
 ·obtain⟨c,i,pl,m⟩:=I.tuple k;have t:=i.length;obtain⟨o,x,y,n,hd⟩:=pl;exact call_list_seq p (.inr rfl) x y hd (fun d g v e=>fin c i m d g v e) (by simp only[List.size_toArray]<;>omega)
theorem Hi:gj X (.type "tuple") (fun k H Q=>∃p f,k=[.ref p]/\((df X.K H p f/\∀l,H l=none->Q (.ref l) (aN H l (.tup f)))\/(ei X.K H p f/\Q (.ref p) H))):=by
 intro c s Y H k z Q I r h;obtain⟨p,f,rfl,h⟩:=h;obtain⟨u,rfl,v⟩:=cZ r;cases v;rcases h with⟨i,q⟩ | ⟨i,q⟩
 ·obtain⟨d,j,pl,m⟩:=I.list i;have n:=j.length;refine call_tuple_list pl.isList (fun g y=>?_) (by simp only[List.size_toArray]<;>omega);have t:Inv X c Y H { s with heap:=g }:=I.kept (t':=s.toks) y;have x:Inv X c Y (aN H g.objs.size (.tup f)) { s with heap:=g.push { cls:=.type "tuple",data:=.seq d.toArray } }:=
   t.laid (t':=s.toks) (fun b o e=>br _ e) (bF _) (show cw X.prog X.w _ _ _ (.tup f) from⟨m,d,j,IsTup.new _ _⟩)
  exact⟨.ref g.objs.size,_,x,rfl,q _ (t.hok.fresh (bF _))⟩
 ·obtain⟨d,j,pl,m⟩:=I.tuple i;exact call_tuple_same pl ⟨.ref p,H,I,rfl,q⟩
def zx(K:Frag)(T:String)(x:V)(H:Hp):Prop:=match x with
 | .str _=>T="str"
 | .int _=>T="int"
 | .ref p=>(T="list"/\∃d,df K H p d)\/(T="tuple"/\∃o,K.lookup p=some o/\o.cls=.type "tuple"/\o.dict=none)\/
   (T="dict"/\((∃c,H p=some (.dK c))\/∃c,H p=some (.dT c)))\/(T="set"/\∃S n,H p=some (.set S n))
 | _=>False
theorem Hj{f:List (Addr×Obj)}{Y:St}{H:Hp}{s:Shared}{T:String}{x:V}{v:Value}(I:Inv X f Y H s)(r:bj x v)(g:zx X.K T x H) :
  s.TypeIs v T/\∀a,v=.ref a->∃k,s.heap.get? a=some k/\k.dict=none:=by
 cases x with
 | str z=>obtain⟨t,rfl⟩:=r;cases(show T="str" from g);exact⟨typeIs_str s z t,fun _ e=>nomatch e⟩
 | int i=>obtain⟨t,rfl⟩:=r;cases(show T="int" from g);exact⟨typeIs_int s i t,fun _ e=>nomatch e⟩
 | ref p=>
  cases r;rcases g with⟨rfl,u,l⟩ | ⟨rfl,o,d,m,hd⟩ | ⟨rfl,d⟩ | ⟨rfl,S,n,d⟩
  ·obtain⟨q,_,pl,_⟩:=I.list l;refine⟨pl.isList.typeIs,fun a e=>?_⟩;cases e;obtain⟨o,n,e,c,hd,_⟩:=pl;exact⟨o,e,hd⟩
  ·refine⟨⟨o,I.kIn p o d,m⟩,fun a e=>?_⟩;cases e;exact⟨o,I.kIn _ o d,hd⟩
  ·have z:∃o,s.heap.get? p=some o/\o.ExactDict:=by
    rcases d with⟨h,d⟩ | ⟨h,d⟩
    ·obtain⟨_,_,_,_,o,_,_,e,ex,_⟩:=I.hok p _ d;exact⟨o,e,ex⟩
    ·obtain⟨_,_,_,_,o,_,_,e,ex,_⟩:=I.hok p _ d;exact⟨o,e,ex⟩
   obtain⟨o,e,ex⟩:=z;refine⟨⟨o,e,ex.1⟩,fun a j=>?_⟩;cases j;exact⟨o,e,ex.2.1⟩
  ·obtain⟨o,_,_,_,e,ex,_⟩:=I.hok p _ d;refine⟨⟨o,e,ex.1⟩,fun a j=>?_⟩;cases j;exact⟨o,e,ex.2.1⟩
 | _=>exact False.elim g
noncomputable def Hk(K:Frag)(T:String)(r:V->List V->Hp->VK->Prop)(f:TE)(t:TA):TE:=fun Y H Q=>f Y H fun x c=>zx K T x c/\t Y c fun d e=>r x d e Q
variable{o e:Expr}{es:List Expr}{to:TE}{t:TA}{name:Str}{apos cpos:Pos}{T id:String}{r:V->List V->Hp->VK->Prop}
theorem qa(L:PlainAttrs T)(slot:Slot T name id)(j:typeOf (.builtin id)=pure (.type "method_descriptor"))(n:pZ X id r)(p:PE X o to)(q:PA X (e::es) t)
  (f:attributeBase o name X.env (eval o X.env)=eval o X.env:=by rfl)
  (i:((backTo cpos (starEach (e::es) X.env)).all (fun x=>!x.1)&&(backToKw cpos (keywordEach [] X.env)).all (fun x=>x.1.isSome)
   && decide ((e::es).length+([]:List Keyword).length+(if ([]:List Keyword).isEmpty then 0 else 1)<30))=true:=by rfl)
  (g:(apos.endLine==cpos.line)=true:=by rfl) (u:starEach (e::es) X.env=(false,eval e X.env)::starEach es X.env:=by rfl) (d:(backTo cpos (starEach es X.env)).any (·.1)=false:=by rfl) :
  PE X (.Call (.Attribute o name apos) (e::es) [] cpos) (Hk X.K T r to t):=by
 intro c s Y H Q I h;refine wpAny_Call_method_late f i g rfl (aR (p c s Y H _ I h) fun v w ⟨x,y,k,l,ty,z⟩=>?_);obtain⟨M,h2⟩:=Hj k l ty;refine⟨T,id,L,slot,j,M,h2,?_⟩;have m:=q cpos c w Y y _ k z;rw[u] at m ⊢;refine Calls.callWith_builtin (by show(false||(backTo cpos (starEach es X.env)).any (·.1))=false;rw[d]<;>rfl) (Calls.evalArgs_plain ?_);exact aR m fun A B ⟨C,D,E,G,J⟩=>n c B Y D x C v A Q E l G J
end
def zy(X:Cx)(id:String)(r:V->List V->Hp->VK->Prop):Prop:=
 ∀(a:List (Addr×Obj)) (s:Shared) (Y:St) (H:Hp) (x:V) (b:List V) (v:Value) (c:List Value) (Q:VK),Inv X a Y H s->bj x v->be b c->r x b H Q->
  wpAny (model X.prog X.w) X.A (call (.builtin id) (v::c)) (EP X a Y Q) X.xe s
theorem be.one:∀{x:V}{a:List Value},be [x] a->∃u,a=[u]/\bj x u
 | _,_,.cons r .nil=>⟨_,rfl,r⟩
theorem be.rep{a:List V}{b:List Value}(h:be a b):∀k:Nat,be (List.replicate k a).flatten (List.replicate k b).flatten
 | 0=>.nil
 | k+1=>by rw[List.replicate_succ,List.replicate_succ,List.flatten_cons,List.flatten_cons];exact be.append h (be.rep h k)
theorem zz(a:List Value):∀(k:Nat) (b:List Value),
  List.foldl (fun c d=>c++d) b.toArray (List.replicate k a.toArray)=(b++(List.replicate k a).flatten).toArray
 | 0,b=>by simp
 | k+1,b=>by
  have e:b.toArray++a.toArray=(b++a).toArray:=by simp
  have f:(b++a)++(List.replicate k a).flatten=b++(List.replicate (k+1) a).flatten:=by rw[List.replicate_succ,List.flatten_cons,List.append_assoc]
  rw[<-f,<-zz a k (b++a),<-e,List.replicate_succ,List.foldl_cons]
section
variable{X:Cx}{pins:List (Addr×Obj)}{Y:St}{H:Hp}{s:Shared}{l b:Addr}{xs ys zs:List V}
theorem Inv.lset{a its':List Value}{n:Nat}{f:Array Value->Array Value}{t':Nat}(I:Inv X pins Y H s)(c:H l=some (.lst xs))
  (e:s.heap.get? l=some { cls:=.type "list",data:=.seq a.toArray n }) (d:f a.toArray=its'.toArray) (g:be ys its') (h:ys.length<=sizeLine) :
  Inv X pins Y (aN H l (.lst ys)) { s with heap:=s.heap.update l (Obj.mapSeq f),toks:=t' }:=by
 have q:=PySem.IsL.update e f;rw[d] at q;refine I.write (x:=l) (e:=l) (by rw[c];exact trivial) (.inl rfl) (fun k u i j=>(Heap.get?_update_other s.heap (Obj.mapSeq f) (Ne.symm i)).trans j) ⟨_,q⟩ ?_;exact⟨h,its',_,g,q⟩
theorem Inv.lnew{a:List Value}{t':Nat}(I:Inv X pins Y H s)(c:be ys a)(d:ys.length<=sizeLine) :
  Inv X pins Y (aN H s.heap.objs.size (.lst ys)) { s with heap:=s.heap.push { cls:=.type "list",data:=.seq a.toArray },toks:=t' }:=
 I.laid (fun _ _ q=>br _ q) (bF _) ⟨d,a,0,c,Heap.get?_push_size _ rfl⟩
theorem Inv.fresh(I:Inv X pins Y H s):H s.heap.objs.size=none:=I.hok.fresh (bF _)
theorem Inv.lstM(I:Inv X pins Y H s)(c:H l=some (.lst xs)):xs.length<=sizeLine/\∃(a:List Value) (n:Nat),be xs a/\xs.length=a.length/\s.heap.get? l=some { cls:=.type "list",data:=.seq a.toArray n }:=by obtain⟨z,a,n,r,e⟩:=I.hok l _ c;exact⟨z,a,n,r,r.length,e⟩
theorem zG{n:Nat}(h:n<=sizeLine):Builtin.List.listTooLong n=false:=by unfold Builtin.List.listTooLong;exact decide_eq_false (by omega)
end
section
variable{X:Cx}
noncomputable def Hm:V->List V->Hp->VK->Prop:=fun x b H Q=>∃l a y,x=.ref l/\b=[y]/\H l=some (.lst a)/\a.length<sizeLine/\Q .non (aN H l (.lst (a++[y])))
theorem zH:zy X "list.append" Hm:=by intro b s Y H x g v i Q I d f h;obtain⟨l,j,y,rfl,rfl,c,k,q⟩:=h;cases d;obtain⟨u,rfl,ru⟩:=f.one;obtain⟨z,a,n,r,m,e⟩:=I.lstM c;refine call_meets F.slot_list_append ⟨_,e,rfl⟩ F.entry_list_append (F.args_list_append_2 _ _) (PySem.list_append l a.toArray n u (by rw[List.size_toArray];omega)) ⟨e,?_⟩;refine⟨.non,_,I.lset (its':=a++[u]) c e (by simp) (r.append (.cons ru .nil)) ?_,rfl,q⟩;rw[List.length_append,List.length_singleton];omega
noncomputable def Hn:V->List V->Hp->VK->Prop:=fun x d H Q=>∃l b a c,x=.ref l/\d=[.ref b]/\H l=some (.lst a)/\H b=some (.lst c)/\a.length+c.length<=sizeLine/\Q .non (aN H l (.lst (a++c)))
theorem Hq:zy X "list.extend" Hn:=by
 intro g s Y H x w v y Q I j k h;obtain⟨l,b,A,B,rfl,rfl,i,hB,C,q⟩:=h;cases j;obtain⟨u,rfl,ru⟩:=k.one;cases ru;obtain⟨z,c,n,r,D,e⟩:=I.lstM i;obtain⟨E,a,m,o,p,t⟩:=I.lstM hB;have f:c.toArray.size+a.toArray.size<=sizeLine:=by rw[List.size_toArray,List.size_toArray];omega
 have d:¬ (!c.toArray.isEmpty&&Builtin.List.listTooLong (c.toArray.size+a.toArray.size))=true:=by rw[zG f,Bool.and_false];exact Bool.false_ne_true
 refine call_meets F.slot_list_extend ⟨_,e,rfl⟩ F.entry_list_extend (F.args_list_extend_2 _ _)
  (AutoSeq1.list_extend_list_list_0 l c.toArray n b a.toArray m d (by rw[List.size_toArray];omega) (by omega)) ⟨e,t,?_⟩
 refine⟨.non,_,I.lset (its':=c++a) i e (by simp) (r.append o) ?_,rfl,q⟩;rw[List.length_append];omega
noncomputable def zI:R2:=fun x y H Q=>∃l b a c,x=.ref l/\y=.ref b/\H l=some (.lst a)/\H b=some (.lst c)/\a.length+c.length<=sizeLine/\∀p,H p=none->Q (.ref p) (aN H p (.lst (a++c)))
theorem Hr:cD X (binaryOp .Add) zI:=by
 intro d s Y H x y v u Q I f g h;obtain⟨l,b,p,t,rfl,rfl,i,hB,w,q⟩:=h;cases f;cases g;obtain⟨z,c,n,r,A,e⟩:=I.lstM i;obtain⟨B,a,C,j,k,m⟩:=I.lstM hB;refine PySem.P.add_list e m ?_ (by rw[List.size_toArray,List.size_toArray];omega);have o:c.toArray++a.toArray=(c++a).toArray:=by simp
 rw[o];exact⟨.ref _,_,I.lnew (t':=s.toks) (r.append j) (by rw[List.length_append];omega),rfl,q _ I.fresh⟩
noncomputable def zJ:R2:=fun x y H Q=>∃l k a,x=.ref l/\y=.int k/\H l=some (.lst a)/\-(2 ^ 63)<=k/\k<2 ^ 63/\a.length * k.toNat<=sizeLine/\
 ∀p,H p=none->Q (.ref p) (aN H p (.lst (List.replicate k.toNat a).flatten))
theorem Hs{α:Type}(a:List α)(k:Nat):(List.replicate k a).flatten.length=k * a.length:=by
 induction k with
 | zero=>simp
 | succ k b=>rw[List.replicate_succ,List.flatten_cons,List.length_append,b,Nat.succ_mul,Nat.add_comm]
theorem Ht:cD X (binaryOp .Mult) zJ:=by
 intro p s Y H x y v u Q I A B h;obtain⟨l,k,J,rfl,rfl,C,h1,h2,w,q⟩:=h;cases A;obtain⟨t,rfl⟩:=B;obtain⟨z,b,n,r,D,e⟩:=I.lstM C;have d:b.toArray.size * k.toNat<=sizeLine:=by rw[List.size_toArray,<-D];exact w
 have f:¬ b.toArray.size * k.toNat>(2 ^ 63 - 1) / 8:=by
  have:(sizeLine:Nat)<=(2 ^ 63 - 1) / 8:=by decide
  omega
 have g:¬ (!Builtin.List.listFitsIndex k)=true:=by rw[fitsIndex_both h1 h2];exact Bool.false_ne_true
 have c:¬ Builtin.List.listTooLong (b.toArray.size * k.toNat)=true:=by rw[zG d];exact Bool.false_ne_true
 have i:List.foldl (fun j o=>j++o) #[] (List.replicate (if b.toArray.isEmpty=true then 0 else k.toNat) b.toArray)=(List.replicate k.toNat b).flatten.toArray:=by
  have E:∀m:Nat,List.foldl (fun j o=>j++o) #[] (List.replicate m b.toArray)=(List.replicate m b).flatten.toArray:=fun m=>by have:=zz b m [];rw[List.nil_append] at this;exact this
  rw[E];cases b with
  | nil=>simp
  | cons a L=>rw[if_neg (by simp)]
 refine wpAny_binaryOp_repeat_ref (T:="list") (U:="int") (by decide) ⟨_,e,rfl⟩ (fun G=>typeIs_int G k t) noFill_list_mul F.fills_int_mul F.slot_int_rmul repeat_list F.slot_int_index.lookup
  (call_meets F.slot_int_rmul (typeIs_int s k t) F.entry_int_rmul (F.args_int_rmul_2 _ _) (int___rmul___int_list k t l b.toArray n)
   ⟨e,rfl,⟨_,e,rfl⟩,call_meets F.slot_list_mul ⟨_,e,rfl⟩ F.entry_list_mul (F.args_list_mul_2 _ _) (AutoListH.list___mul___list_int_3 l b.toArray n k t g f c) ⟨e,?_⟩⟩)
 rw[i];exact⟨.ref _,_,I.lnew (t':=s.toks) (r.rep k.toNat) (by rw[Hs,Nat.mul_comm];exact w),rfl,q _ I.fresh⟩
end
end L2
namespace Att
open PySem PySem.W PySem.Calls PyProof.Rows
theorem Hu{P:Params}{h:Heap}:∀(c:List Int) (d:List Value),WellAll P h d (c.map WData.int)->IntsAre d c:=by
 intro c
 induction c with
 | nil=>intro d w;rw[List.map_nil] at w;cases w;exact .nil
 | cons n c e=>
  intro d w;rw[List.map_cons] at w;cases w with
  | cons a b=>cases a;exact .cons _ _ (e _ b)
theorem Hv{l:OpenLaw}{n:Nat}(s:l.most=some n){P:Params}{h:Heap}{args:List WData}{c:List Value}
  (e:l.row.toRowW.claim.pre args=true) (k:WellAll P h c args) :
  ∃a o b,c=[Value.ref a]/\args=[WData.list (b.map WData.int)]/\h.get? a=some { cls:=.type "list",data:=.seq o.toArray }/\IntsAre o b/\b.length<=n:=by
 have m:WShape.hasAll [] args [.list .int]=true:=(pre_splitW e).1;have p:l.pre.holds [] { args:=args }=true:=(pre_splitW e).2;obtain⟨d,r,rfl,h1,h2⟩:=hasAllW_cons m;obtain rfl:=hasAllW_nil h2;obtain⟨x,rfl,h3⟩:=hasW_list h1;obtain⟨b,rfl⟩:=items_int h3;have f:b.length<=n:=by
  unfold OpenLaw.pre at p;have i:(WTm.not (.lt (.lit (.int (n:Int))) (.len (.arg 0)))).holds [] { args:=[.list (b.map .int)] }=true:=by have i:=(holds_andW p).1;rw[s] at i;exact i
  have j:=condW_of i (w_not (w_lt w_lit (w_len_list (w_arg rfl))));rw[List.length_map] at j;refine Nat.le_of_not_lt fun q=>?_;have t:(n:Int)<((b.length:Nat):Int):=by omega
  first
   | (rw[decide_eq_true t] at j;exact absurd j (by decide))
   | (simp at j;omega)
 cases k with
 | cons u v=>
  cases v;cases u with
  | list w g=>exact⟨_,_,b,rfl,rfl,w,Hu b _ g,f⟩
theorem Hw(l:OpenLaw)(args:List WData):l.row.toRowW.claim.post args (.bool true) args=true:=
 postW_of (r:=l.row.toRowW) (X:=(true==true))
  (show WShape.has [] (.bool true) .bool=true by first | rfl | decide | simp[WShape.has,WShape.arms,WShape.armsAll])
  (show(WTm.eq .res (.lit (.bool true))).value [] { args:=args,res:=some (.bool true),after:=args }=some (.bool (true==true)) from w_eq_bool (w_res rfl) w_lit) rfl
theorem attach_call{l:OpenLaw}{n:Nat}{q:Program}{b:List Str}{C:(Str->Option Value)->Heap->Prop}{D:World->Heap->Prop}{d:DefRec}
  (J:l.most=some n) (v:d.params.defaults=[])
  (call:∀(w:World) (B c:Shared) (t x:Str->Option Value) (i:Addr) (o:Obj) (pm p e:Value) (a:Addr) (h:List Value) (u:List Int),
   Ground q b [] C w B t x c.heap->D w c.heap->
   c.heap.get? i=some o->o.data=.func (docDef d.name d.params d.body d.scope pm p e)->c.heap.CodeRec p d.name->t d.name=some (.ref i)->
   c.heap.get? a=some { cls:=.type "list",data:=.seq h.toArray }->IntsAre h u->u.length<=n->c.gens = #[]->
   codeAny (model l.prog w) callerA (.call (.ref i) ⟨[.ref a],[]⟩) (fun r s=>r=.ok (.ret (.bool true))/\OldK c.heap s.heap/\s.os=c.os/\AllBare s.gens) c) :
  WalkO q b C D l.row.toRowW d [] (fun f h=>PySem.call f h):=by
 intro w B c t x G L i o pm p e dV kV M hd y E z N args H as j I O A Q;obtain rfl:dV=.none:=Dflts.none E v;obtain rfl:kV=.none:=Dflts.noKw E;obtain⟨a,h,u,rfl,rfl,k,g,m⟩:=Hv J j A;refine enter_call (codeAny_mono (call w B c t x i o pm p e a h u G L M (fd_plain hd) y z k g m N) fun r s T=>?_);obtain⟨rfl,h2,h3,U⟩:=T;exact⟨.inl ⟨.bool true,.bool true,[],rfl,fun _=>rfl,.bool true,Hw l _,fun _=>⟨List.Pairwise.nil,fun _ Y=>(nomatch Y)⟩⟩,h2,h3,U⟩
end Att
namespace L2
open PySem PySem.Spec PyProof.Rows
theorem zK:∀{a:List Value}{b:List Int},IntsAre a b->be (b.map V.int) a
 | _,_,.nil=>.nil
 | _,_,.cons n t h=>.cons ⟨t,rfl⟩ (zK h)
def vd(H:Hp):Prop:=∀b,H b=none\/∃o a,H b=some (.frz o (.lst a))
theorem Hx{P:Program}{w:World}{K:Frag}{G M:Str->Option Value}{U:fB}{k:Nat}{N a:Addr}{fd:FuncData}{x:Str}{X:Sp}{c:Shared}{l:List Value}{I:List Int}
  (Y:K.In c.heap) (t:c.heap.Ns mainGlobals G) (g:c.heap.Ns builtinsNs M) (O:∀x:Str,x≠"__name__"->M x=bootBuiltins x) (y:c.heap.NoLimit) (hg:c.gens = #[])
  (L:c.heap.get? a=some { cls:=.type "list",data:=.seq l.toArray }) (Z:IntsAre l I) (hl:I.length<=sizeLine) (hr:bq k callerA)
  (F:∀base:Heap,K.In base->base.Ns mainGlobals G->ay P w K G base U k N fd [x] X) (p:∀(s:Shared) (u:Value),BindsTo s fd ⟨[u],[]⟩ [(x,u)])
  (hsp:∀H:Hp,vd H->df K H a (I.map V.int)->X [.ref a] H (fun v _=>v=.bl true) fun _ _ _=>False)
  (Q:∀H e i,U [] H c (fun _ _ _=>False) e i->False) :
  codeAny (model P w) callerA (.call (.ref N) ⟨[.ref a],[]⟩) (fun r i=>r=.ok (.ret (.bool true))/\OldK c.heap i.heap/\i.os=c.os/\AllBare i.gens) c:=by
 have rv:=zK Z;have A:=Z.length;have core:∀H:Hp,vd H->df K H a (I.map V.int)->bG P w H c.heap->(∀b,H b≠none->b=a)->(H a≠none->K.lookup a=none)->
   codeAny (model P w) callerA (.call (.ref N) ⟨[.ref a],[]⟩) (fun r i=>r=.ok (.ret (.bool true))/\OldK c.heap i.heap/\i.os=c.os/\AllBare i.gens) c:=by
  intro H hO hS J hA hK;have f:∀{b:Addr}{o:Obj},c.heap.get? b=some o->H b=none->(iZ c.heap H).get? b=some o:=fun e n=>EB e n;have R:∀{b:Addr}{o:Obj}{B:Array DictEntry}{C:Nat},c.heap.get? b=some o->o.data=.dict B C->H b=none:=fun {b o B C} e d=>by
   cases q:H b with
   | none=>rfl
   | some u=>have S:b=a:=hA b (by rw[q];simp);subst S;rw[L] at e;cases e;have d':Data.seq l.toArray _=Data.dict B C:=d;cases d'
  have j:∀{b:Addr}{m:Str->Option Value},c.heap.Ns b m->(iZ c.heap H).Ns b m:=fun {b m} ⟨o,B,C,e,d,r⟩=>⟨o,B,C,f e (R e d),d,r⟩
  have D:K.In (iZ c.heap H):=fun b o e=>f (Y b o e) (by
   cases q:H b with
   | none=>rfl
   | some u=>
    have S:b=a:=hA b (by rw[q];simp);subst S;rw[hK (by rw[q];simp)] at e;cases e)
  have hM:Mod K G (iZ c.heap H):=⟨D,j t,⟨M,j g,O⟩,let⟨mc,h1,h2⟩:=y;⟨mc,j h1,h2⟩⟩
  have e0:dR P w K G (iZ c.heap H) callerA [] c H:=⟨rfl,hM,fun b o e=>ED e,Nat.le_of_eq (EA _ _),trivial,fun b g=>absurd (show b∈([]:List Addr) from g) (by simp),J,.of_eq hg⟩
  refine codeAny_mono ((F _ D (j t)).run callerA [] c H ⟨[.ref a],[]⟩ [.ref a] [.ref a] _ _ hr e0 (p c (.ref a)) (.cons rfl .nil) (hsp H hO hS)) fun r i h=>?_;cases r with
  | error e=>exact(Q H e i h).elim
  | ok fl=>
   cases fl with
   | next=>exact False.elim h
   | brk=>exact False.elim h
   | cont=>exact False.elim h
   | ret u=>
    obtain⟨v,H',os,bare,un,E,r',q⟩:=h;have q':v=.bl true:=q;subst q';obtain rfl:u=Value.bool true:=r';refine⟨rfl,OldK.of_keep fun b o e=>?_,os,bare⟩;cases q:H b with
    | none=>exact un.keep b o e q (by intro z;exact absurd (show b∈([]:List Addr) from z) (by simp)) (by simp)
    | some u=>
     rcases hO b with z | ⟨ob,xs,z⟩
     ·rw[q] at z;cases z
     ·have z2:=un.frzs b ob _ z;obtain⟨e1,_⟩:=J b _ z;obtain⟨e2,_⟩:=E b _ z2;rw[e] at e1;cases e1;exact e2
 cases T:K.lookup a with
 | some o=>have e:=Y a o T;rw[L] at e;cases e;refine core (fun _=>none) (fun _=>.inl rfl) (.inr ⟨_,l.toArray,_,T,rfl,rfl,rfl,by rw[List.size_toArray,A];exact hl,by simpa using rv⟩) (fun b u z=>by have z':(none:Option HO)=some u:=z;cases z') (fun b z=>absurd rfl z) fun z=>absurd rfl z
 | none=>
  refine core (fun b=>if b=a then some (.frz { cls:=.type "list",data:=.seq l.toArray } (.lst (I.map V.int))) else none) (fun b=>?_) (.inl (.inr ⟨{ cls:=.type "list",data:=.seq l.toArray },if_pos rfl⟩)) (fun b u z=>?_) (fun b z=>?_) fun _=>T
  ·by_cases g:b=a
   ·exact .inr ⟨_,_,if_pos g⟩
   ·exact .inl (if_neg g)
  ·by_cases g:b=a
   ·have z':=(if_pos g).symm.trans z;cases z';subst g;exact⟨L,by rw[List.length_map];exact hl,l,_,rv,L⟩
   ·have z':=(if_neg g).symm.trans z;cases z'
  ·by_cases g:b=a
   ·exact g
   ·exact absurd (if_neg g) z
theorem walk_of{l:PySem.W.OpenLaw}{n k:Nat}{q:Program}{i:List Str}{J:(Str->Option Value)->Heap->Prop}{D:World->Heap->Prop}{d:DefRec}{K:Params->Frag}{CX:World->fB}{sp:World->Sp}{x:Str}
  (L:l.most=some n) (y:n<=sizeLine) (z:d.params.defaults=[]) (M:bq k callerA)
  (N:∀(w:World) (h:Heap),D w h->(K w.params).In h)
  (F:∀(w:World) (m:Str->Option Value) (r:Addr) (h:Heap),(K w.params).In h->h.Ns mainGlobals m->m d.name=some (.ref r)->
   ∃fd:FuncData,(∀(s:Shared) (u:Value),BindsTo s fd ⟨[u],[]⟩ [(x,u)])/\
    ∀base:Heap,(K w.params).In base->base.Ns mainGlobals m->ay l.prog w (K w.params) m base (CX w) k r fd [x] (sp w))
  (hsp:∀(w:World) (H:Hp) (a:Addr) (t:List Int),t.length<=n->vd H->df (K w.params) H a (t.map V.int)->sp w [.ref a] H (fun v _=>v=.bl true) fun _ _ _=>False)
  (A:∀(w:World) (H:Hp) (s:Shared) (e:Value) (B:Shared),CX w [] H s (fun _ _ _=>False) e B->False) :
  PySem.W.WalkO q i J D l.row.toRowW d [] (fun f E=>PySem.call f E):=by
 refine Att.attach_call L z fun w s₀ O m mb r o pm cd Q a E t G R ho hd S C p j c U=>?_;have I:=N w _ R;obtain⟨fd,X,Y⟩:=F w m r _ I G.T.g C;exact Hx I G.T.g G.T.b G.T.builtins G.T.nolimit U p j (Nat.le_trans c y) M Y X (fun H Z hS=>hsp w H a t c Z hS) fun H e B=>A w H O e B
noncomputable def fQ(s:Stmt)(j:Nat):Stmt:=match s with
 | .ClassDef _ _ _ body _ _ _ _ _ _ _=>body.getD j (.Pass ⟨0,0,0,0⟩)
 | _=>.Pass ⟨0,0,0,0⟩
noncomputable def jf(s:Stmt):Arguments:=match s with
 | .FunctionDef _ a _ _ _ _ _ _ _ _=>a
 | _=>{ posonlyargs:=[],args:=[],vararg:=none,kwonlyargs:=[],kw_defaults:=[],kwarg:=none,defaults:=[] }
noncomputable def hF(s:Stmt):List Stmt:=match s with
 | .FunctionDef _ _ b _ _ _ _ _ _ _=>b
 | _=>[]
noncomputable def aZ(s:Stmt):Scope:=match s with
 | .FunctionDef _ _ _ _ _ _ a _ _ _=>a
 | _=>{ kind:=.function,names:=[],isGenerator:=false,isCoroutine:=false }
structure kM (K:Frag) (x qual:Str) (st:Stmt) (f:Addr) (fd:FuncData):Prop where
 ex:∃(oc:Value) (od:Option Addr) (kV doc pm:Value) (an:Option Addr) (cdv ct:Value) (osl:Array (Option Value)),
  fd=fnOf x qual (jf st) (hF st) (aZ st) .none kV doc pm an cdv ct/\K.lookup f=some ⟨oc,od,.func fd,osl⟩/\codeIn K cdv qual=true
 kp:keepIn K (.ref f)=true
section
variable{P:Program}{w:World}{K:Frag}{mg:Str->Option Value}{base:Heap}
theorem kM.binds{x a:Str}{st:Stmt}{f:Addr}{fd:FuncData}{d:List Str}(F:kM K x a st f fd)
  (h:∀(kV b pm:Value) (e:Option Addr) (c i:Value) (g:List Value),g.length=d.length->bindArgs (fnOf x a (jf st) (hF st) (aZ st) .none kV b pm e c i) ⟨g,[]⟩=pure (d.zip g)):fP K fd d []:=by
 obtain⟨l,m,kV,b,pm,e,c,i,j,rfl,lk,k⟩:=F.ex;exact .all (h kV b pm e c i)
theorem nK{x a:Str}{st:Stmt}{f:Addr}{i:Value}{j g:Option Addr}{e:Array (Option Value)}{kV d pm b h:Value}(l:K.lookup f=some ⟨i,j,.func (fnOf x a (jf st) (hF st) (aZ st) .none kV d pm g b h),e⟩)
  (c:codeIn K b a=true) (k:keepIn K (.ref f)=true):kM K x a st f (fnOf x a (jf st) (hF st) (aZ st) .none kV d pm g b h):=⟨⟨i,j,kV,d,pm,g,b,h,e,rfl,l,c⟩,k⟩
end
theorem qb{A:Around}{k:Nat}(a:bq k A):A.units+1<cLine:=Nat.lt_of_le_of_lt (Nat.add_le_add_left (by decide:1<=64) _) a.units
section
variable{X:Cx}
theorem pv(i:Nat){x:Str}{pos:Pos}(b:X.N[i]? = some x:=by rfl)(c:kJ X.env.scope x:=by first | exact Or.inl rfl | exact Or.inr (Or.inl rfl) | exact Or.inr (Or.inr rfl))(hd:(x==("__debug__":Str))=false:=by decide)
  (a:(x==("__classdict__":Str))=false:=by decide):PE X (.Name x pos) (cf i):=EF b c hd a
end
theorem dZ{A B:Prop}(h:B):if false=true then A else B:=by rw[if_neg Bool.false_ne_true];exact h
theorem ed{A B:Prop}(h:A):if true=true then A else B:=by rw[if_pos rfl];exact h
def bR(H a:Hp):Prop:=∀b o,H b=some o->a b=some o
theorem bR.seq{K:Frag}{H b:Hp}{a:Addr}{c:List V}(e:bR H b)(h:df K H a c):df K b a c:=by
 rcases h with(h | ⟨o,h⟩) | h
 ·exact .inl (.inl (e _ _ h))
 ·exact .inl (.inr ⟨o,e _ _ h⟩)
 ·exact .inr h
end L2
set_option maxHeartbeats 4000000
namespace L2
open PySem PySem.Spec PyProof.Rows
section
variable{κ:Type}[DecidableEq κ]
noncomputable def fC(a:List (κ×V))(k:κ):Option V:=(a.find? fun b=>decide (b.1=k)).map (·.2)
noncomputable def fb(a:List (κ×V))(k:κ)(v:V):List (κ×V):=
 if (a.any fun b=>decide (b.1=k))=true then a.map (fun b=>if b.1=k then(b.1,v) else b) else a++[(k,v)]
theorem qc{p:κ×V}{r:List (κ×V)}{k:κ}(e:p.1=k):fC (p::r) k=some p.2:=by simp[fC,List.find?_cons,e]
theorem qd{p:κ×V}{r:List (κ×V)}{k:κ}(e:¬ p.1=k):fC (p::r) k=fC r k:=by simp[fC,List.find?_cons,e]
theorem qe(k:κ):∀a:List (κ×V),(a.any fun b=>decide (b.1=k))=(fC a k).isSome
 | []=>rfl
 | p::r=>by
  rw[List.any_cons]
  by_cases e:p.1=k
  ·simp only[qc e,decide_eq_true e,Bool.true_or,Option.isSome_some]
  ·rw[qd e,decide_eq_false e,Bool.false_or];exact qe k r
theorem zL(a:List (κ×V))(k:κ)(v:V):(fb a k v).length<=a.length+1:=by
 unfold fb;split
 ·rw[List.length_map];omega
 ·rw[List.length_append,List.length_cons,List.length_nil];omega
theorem Hy{a:List (κ×V)}{k:κ}(v:V)(h:fC a k=none):fb a k v=a++[(k,v)]:=by unfold fb;rw[qe,h];exact if_neg (by decide)
theorem eZ.isSome_eq{o:Option V}{u:Option Value}(r:eZ o u):o.isSome=u.isSome:=by
 cases o with
 | none=>cases u with
  | none=>rfl
  | some _=>exact(show False from r).elim
 | some _=>cases u with
  | none=>exact(show False from r).elim
  | some _=>rfl
theorem KV.val{a:List (κ×V)}{f:List (κ×Value)}(r:KV a f)(k:κ):eZ (fC a k) (valueAt f k):=by
 unfold KV at r
 induction r with
 | nil=>exact True.intro
 | @cons p q j c h t i=>
  obtain⟨g,h2⟩:=h
  by_cases e:p.1=k
  ·have d:q.1=k:=g.symm.trans e;have b:valueAt (q::c) k=some q.2:=by simp[valueAt,List.find?_cons,d]
   rw[qc e,b];exact h2
  ·have d:¬ q.1=k:=fun z=>e (g.trans z);have b:valueAt (q::c) k=valueAt c k:=by simp[valueAt,List.find?_cons,d]
   rw[qd e,b];exact i
theorem KV.any{a:List (κ×V)}{c:List (κ×Value)}(r:KV a c)(k:κ):(a.any fun b=>decide (b.1=k))=c.any fun b=>decide (b.1=k):=by
 unfold KV at r
 induction r with
 | nil=>rfl
 | cons h t d=>rw[List.any_cons,List.any_cons,d,h.1]
theorem KV.repl{b:List (κ×V)}{d:List (κ×Value)}(r:KV b d)(k:κ){y:V}{u:Value}(f:bj y u) :
  KV (b.map fun a=>if a.1=k then(a.1,y) else a) (d.map fun a=>if a.1=k then(a.1,u) else a):=by
 unfold KV at r ⊢
 induction r with
 | nil=>exact .nil
 | @cons p q i j h t g=>
  rw[List.map_cons,List.map_cons];refine .cons ?_ g;obtain⟨c,h2⟩:=h
  by_cases e:p.1=k
  ·rw[if_pos e,if_pos (c.symm.trans e)];exact⟨c,f⟩
  ·rw[if_neg e,if_neg (fun z=>e (c.trans z))];exact⟨c,h2⟩
theorem KV.put{a:List (κ×V)}{b:List (κ×Value)}(r:KV a b)(k:κ){y:V}{u:Value}(c:bj y u):KV (fb a k y) (stored b k u):=by
 unfold fb stored;rw[r.any k]
 by_cases e:(b.any fun d=>decide (d.1=k))=true
 ·rw[if_pos e,if_pos e];exact r.repl k c
 ·rw[if_neg e,if_neg e];exact Paired.snoc r ⟨rfl,c⟩
theorem KV.length{a:List (κ×V)}{b:List (κ×Value)}(r:KV a b):a.length=b.length:=Paired.length r
end
theorem ve{P:Program}{w:World}{k:ba}{u:Value}(r:bj (kV k) u):(fz P w).is k u=true:=by
 cases k with
 | inl i=>obtain⟨t,e⟩:=(show ∃t,u=Value.int i t from r);subst e;exact Ex P w i t
 | inr x=>obtain⟨t,e⟩:=(show ∃t,u=Value.str x t from r);subst e;exact Ey P w x t
theorem zM{P:Program}{w:World}:∀{a:List ba}{b:List Value},be (a.map kV) b->ItemsAre (fz P w) a b
 | [],_,r=>by rw[List.map_nil] at r;cases r;exact .nil
 | k::a,_,r=>by
  rw[List.map_cons] at r;cases r with
  | cons h t=>exact .cons (ve h) (zM t)
noncomputable abbrev KT(H:Hp):List (List ba×V)->List (List ba×Addr×Value)->Prop:=Paired fun p q=>p.1=q.1/\H q.2.1=some (.tup (p.1.map kV))/\bj p.2 q.2.2
theorem KT.val{H:Hp}{a:List (List ba×V)}{f:List (List ba×Addr×Value)}(r:KT H a f)(k:List ba):eZ (fC a k) ((atKey f k).map (·.2)):=by
 induction r with
 | nil=>exact True.intro
 | @cons p q j c h t i=>
  obtain⟨g,_,h2⟩:=h
  by_cases e:p.1=k
  ·have d:q.1=k:=g.symm.trans e;have b:atKey (q::c) k=some q.2:=by simp[atKey,List.find?_cons,d]
   rw[qc e,b];exact h2
  ·have d:¬ q.1=k:=fun z=>e (g.trans z);have b:atKey (q::c) k=atKey c k:=by simp[atKey,List.find?_cons,d]
   rw[qd e,b];exact i
theorem KT.repl{H:Hp}{a:List (List ba×V)}{d:List (List ba×Addr×Value)}(r:KT H a d)(k:List ba){y:V}{u:Value}(f:bj y u) :
  KT H (a.map fun c=>if c.1=k then(c.1,y) else c) (d.map (putAt k u)):=by
 induction r with
 | nil=>exact .nil
 | @cons p q i j h t g=>
  rw[List.map_cons,List.map_cons];refine .cons ?_ g;obtain⟨b,h2,h3⟩:=h;unfold putAt
  by_cases e:p.1=k
  ·rw[if_pos e,if_pos (b.symm.trans e)];exact⟨b,h2,f⟩
  ·rw[if_neg e,if_neg (fun z=>e (b.trans z))];exact⟨b,h2,h3⟩
theorem KT.put{H:Hp}{a:List (List ba×V)}{c:List (List ba×Addr×Value)}(r:KT H a c)(k:List ba){b:Addr}{y:V}{u:Value}(f:H b=some (.tup (k.map kV)))(d:bj y u) :
  KT H (fb a k y) (storedH c k b u):=by
 have e:(a.any fun g=>decide (g.1=k))=(atKey c k).isSome:=by rw[qe,(r.val k).isSome_eq,Option.isSome_map]
 unfold fb storedH;rw[e]
 by_cases q:(atKey c k).isSome=true
 ·rw[if_pos q,if_pos q];exact r.repl k d
 ·rw[if_neg q,if_neg q];exact Paired.snoc r ⟨rfl,f,d⟩
theorem KT.keeps{H c:Hp}{a:List (List ba×V)}{d:List (List ba×Addr×Value)}(r:KT H a d)(f:∀b e,H b=some (.tup e)->c b=some (.tup e)):KT c a d:=
 Paired.mapP r fun _ _ z=>⟨z.1,f _ _ z.2.1,z.2.2⟩
section
variable{P:Program}{w:World}{H:Hp}{h:Heap}{a:Addr}
theorem zN{u:HO}(ok:bG P w H h)(e:Rd H a u):cw P w H h a u:=e.ok ok
theorem vf{b:List (ba×V)}(ok:bG P w H h)(e:Rd H a (.dK b)):b.length<=sizeLine/\(a==sysModules)=false/\∃c,KV b c/\h.DictOf (fz P w) a c:=
 show cw P w H h a (.dK b) from zN ok e
theorem vg{b:List (ba×V)}(ok:bG P w H h)(e:H a=some (.dK b)):b.length<=sizeLine/\(a==sysModules)=false/\∃c,KV b c/\h.DictOf (fz P w) a c:=vf ok (.inl e)
theorem vh{b:List ba}(ok:bG P w H h)(e:H a=some (.tup (b.map kV))):(tupleKind (fz P w)).is h b a:=by
 obtain⟨_,c,r,o,h1,h2,n,h3⟩:=(show cw P w H h a (.tup (b.map kV)) from ok a _ e)
 exact⟨o,c.toArray,n,h1,h2,h3,by simpa using zM r⟩
theorem vi{b:List (List ba×V)}(ok:bG P w H h)(e:Rd H a (.dT b)):b.length<=sizeLine/\(a==sysModules)=false/\
  ∃d,KT H b d/\h.DictOfH (tupleKind (fz P w)) a d:=by
 obtain⟨z,y,d,r,o,g,i,h1,h2,h3,j,k⟩:=(show cw P w H h a (.dT b) from zN ok e)
 refine⟨z,y,d,r,o,g,i,h1,h2,h3,j,fun x c=>?_,k⟩;have all:∀{l:List (List ba×V)}{m:List (List ba×Addr×Value)},KT H l m->∀x∈m,(tupleKind (fz P w)).is h x.1 x.2.1:=by
  intro l m q
  induction q with
  | nil=>intro x c;exact nomatch c
  | @cons p q s u f t n=>
   intro x c;rcases List.mem_cons.mp c with e | c
   ·subst e;exact vh ok (by rw[<-f.1];exact f.2.1)
   ·exact n x c
 exact all r x c
theorem Hz{b:List (List ba×V)}(ok:bG P w H h)(e:H a=some (.dT b)):b.length<=sizeLine/\(a==sysModules)=false/\
  ∃c,KT H b c/\h.DictOfH (tupleKind (fz P w)) a c:=vi ok (.inl e)
end
def jH(H:Hp)(a:Addr)(y:V)(r:Option V):Prop:=
 (∃c k,Rd H a (.dK c)/\y=kV k/\r=fC c k)\/∃c k b,Rd H a (.dT c)/\y=.ref b/\H b=some (.tup (k.map kV))/\r=fC c k
def kN(H:Hp)(a:Addr)(y v:V)(d:Hp):Prop:=
 (∃c k,H a=some (.dK c)/\y=kV k/\c.length<sizeLine/\d = aN H a (.dK (fb c k v)))\/
 ∃c k b,H a=some (.dT c)/\y=.ref b/\H b=some (.tup (k.map kV))/\c.length<sizeLine/\d = aN H a (.dT (fb c k v))
theorem jH.k{H:Hp}{a:Addr}{b:List (ba×V)}{k:ba}(e:H a=some (.dK b)):jH H a (kV k) (fC b k):=.inl ⟨b,k,.inl e,rfl,rfl⟩
theorem jH.t{H:Hp}{a b:Addr}{c:List (List ba×V)}{k:List ba}(e:H a=some (.dT c))(d:H b=some (.tup (k.map kV))):jH H a (.ref b) (fC c k):=.inr ⟨c,k,b,.inl e,rfl,d,rfl⟩
theorem kN.k{H:Hp}{a:Addr}{b:List (ba×V)}{k:ba}{v:V}(e:H a=some (.dK b))(c:b.length<sizeLine):kN H a (kV k) v (aN H a (.dK (fb b k v))):=.inl ⟨b,k,e,rfl,c,rfl⟩
theorem kN.t{H:Hp}{a b:Addr}{c:List (List ba×V)}{k:List ba}{v:V}(e:H a=some (.dT c))(d:H b=some (.tup (k.map kV)))(f:c.length<sizeLine) :
  kN H a (.ref b) v (aN H a (.dT (fb c k v))):=.inr ⟨c,k,b,e,rfl,d,f,rfl⟩
section
variable{X:Cx}{pins:List (Addr×Obj)}{Y:St}{H:Hp}{s:Shared}{a:Addr}{y v:V}{u r:Value}{o:Option V}{A:Around}{E:Value->Shared->Prop}
theorem Inv.big(I:Inv X pins Y H s):sysModules<s.heap.objs.size:=by have h:mainGlobals<s.heap.objs.size:=(I.mod.glob.keeps I.bk).lt;exact Nat.lt_trans (by decide) h
theorem HA{Q:Value->Shared->Prop}(t:A.units+1<cLine)(I:Inv X pins Y H s)(g:jH H a y (some v))(n:bj y u)(h:∀d q,Inv X pins Y H q->bj v d->Q d q) :
  wpAny (model X.prog X.w) A (getItem (.ref a) u) Q E s:=by
 rcases g with⟨f,k,e,i,l⟩ | ⟨f,k,b,e,i,x,l⟩
 ·subst i;obtain⟨z,hd,B,rel,dd⟩:=vf I.hok e;obtain⟨d,j,c⟩:=eZ.some_of (v:=v) (o:=valueAt B k) (by rw[l];exact rel.val k);exact wpAny_getItem_of (ve n) dd.mapOf j (h d _ (I.tok _) c)
 ·subst i;cases(show u=Value.ref b from n);obtain⟨z,hd,C,rel,dd⟩:=vi I.hok e;obtain⟨d,j,c⟩:=eZ.some_of (v:=v) (o:=(atKey C k).map (·.2)) (by rw[l];exact rel.val k);obtain⟨p,D,m⟩:=Option.map_eq_some_iff.mp j;refine wpAny_getItem_heap (tupleKind_room_in1 t) (vh I.hok x) dd D ?_;rw[m];exact h d _ (I.tok _) c
theorem zO{c:Heap}{t':Nat}{d:HO}(I:Inv X pins Y H s)(f:nB (H a))(g:Heap.SameBut a s.heap c)(h:∃q,c.get? a=some q)(new:cw X.prog X.w (aN H a d) c a d) :
  Inv X pins Y (aN H a d) { s with heap:=c,toks:=t' }:=
 I.write (x:=a) (e:=a) f (.inl rfl) (fun b q i z=>(g.2 b i).trans z) h new
theorem HB{P:Program}{w:World}{e:Hp}{d:Heap}{b:List (ba×V)}{c:List (ba×Value)}(z:b.length<=sizeLine)(hd:(a==sysModules)=false)(rel:KV b c)(f:d.DictOf (fz P w) a c) :
  cw P w e d a (.dK b):=⟨z,hd,c,rel,f⟩
theorem HD{x:Hp}{Q:Unit->Shared->Prop}(M:A.units+1<cLine)(I:Inv X pins Y H s)(g:kN H a y v x)(B:bj y u)(C:bj v r)(h:∀D,Inv X pins Y x D->Q () D) :
  wpAny (model X.prog X.w) A (setItem (.ref a) u r) Q E s:=by
 rcases g with⟨d,k,e,j,l,m⟩ | ⟨d,k,b,e,j,G,l,m⟩
 ·subst j m;obtain⟨z,hd,N,rel,dd⟩:=vg I.hok e;have n:N.length<=sizeLine:=by rw[<-rel.length];exact z
  have p:(fb d k v).length<=sizeLine:=by have:=zL d k v;omega
  refine wpAny_setItem_pairs (hsz:=n) (ve B) dd fun J f t=>h _ ?_;have O:∃q,J.get? a=some q:=let⟨q,_,_,i,_⟩:=f;⟨q,i⟩;exact zO I (by rw[e];exact True.intro) t O (HB p hd (rel.put k C) f)
 ·subst j m;cases(show u=Value.ref b from B);obtain⟨z,hd,R,rel,dd⟩:=Hz I.hok e;have n:R.length<=sizeLine:=by rw[<-Paired.length rel];exact z
  have p:(fb d k v).length<=sizeLine:=by have:=zL d k v;omega
  refine wpAny_setItem_heap (hsz:=n) (tupleKind_room_in1 M) (vh I.hok G) dd fun J f t=>h _ ?_;obtain⟨q,S,T,i,h2,h3,U,_,Z⟩:=f;refine zO I (by rw[e];exact True.intro) t ⟨q,i⟩ ⟨p,hd,_,(rel.put k G C).keeps fun c ys L=>?_,q,S,T,i,h2,h3,U,Z⟩;rw[bw (Ez L e (fun z=>nomatch z))];exact L
end
def qf(i:Expr):Prop:=∀a b,subscripted i false a b=operate [a,b] (getItem a b)
theorem zP{a:Program}{w:World}{A:Around}{E:Value->Shared->Prop}{s:Shared}{b:Env}{value slice:Expr}{pos:Pos}{T id:String}{Q:Value->Shared->Prop}
  (j:typeLookup (.type T) "__getitem__" = pure (some (.builtin id))) (k:qf slice)
  (h:wpAny (model a w) A (eval value b) (fun o e=>wpAny (model a w) A (eval slice b) (fun i c=>c.TypeIs o T/\wpAny (model a w) A (getItem o i) Q E c) E e) E s) :
  wpAny (model a w) A (eval (.Subscript value slice pos) b) Q E s:=by
 refine Subscript_ (wpAny_mono h (fun o e l=>wpAny_mono l (fun i c d=>?_) fun _ _ x=>x) fun _ _ x=>x);obtain⟨f,d⟩:=d;unfold subscriptTail;refine az ?_;rw[getitemInPython_of_ne f.not_modules];refine az (wpAny_specialOf f j ?_);have fin:wpAny (model a w) A (subscripted slice false o i) (fun r g=>wpAny (model a w) A (letTemporaryGo value o r >>= fun _=>pure r) Q E g) E c:=by rw[k o i];exact wpAny_operating (wpAny_mono d (fun r g m=>az (wpAny_letTemporaryGo (bp m))) fun _ _ x=>x)
 first
  | exact bp (az fin)
  | exact az (bp (az fin))
  | exact az fin
theorem HE{X:Cx}{c:List (Addr×Obj)}{Y:St}{H:Hp}{s:Shared}{a:Addr}{y:V}{o:Option V}(I:Inv X c Y H s)(g:jH H a y o):s.TypeIs (.ref a) "dict":=by
 rcases g with⟨d,k,e,_,_⟩ | ⟨d,k,b,e,_,_,_⟩
 ·obtain⟨_,_,f,_,dd⟩:=vf I.hok e;exact dd.typeIs
 ·obtain⟨_,_,h,_,dd⟩:=vi I.hok e;exact dd.typeIs
noncomputable def HF(c e:TE):TE:=fun Y H Q=>c Y H fun x d=>e Y d fun y b=>∃a v,x=.ref a/\jH b a y (some v)/\Q v b
noncomputable def HG(c h d:TE):TS:=fun D Y H=>d Y H fun v e=>c Y e fun x f=>h Y f fun y g=>∃a b,x=.ref a/\kN g a y v b/\D.nx Y b
section
variable{X:Cx}{o i e value:Expr}{pos pos' tpos:Pos}{td ty tv:TE}
theorem HH(f:X.A.units+1<cLine)(j:PE X o td)(k:PE X i ty)(l:qf i):PE X (.Subscript o i pos) (HF td ty):=by intro b s Y H Q I h;refine zP PySem.F.slot_dict_getitem.lookup l (aR (j b s Y H _ I h) fun u m ⟨x,n,p,q,r⟩=>aR (k b m Y n _ p r) fun C D ⟨y,t,d,w,a,v,ex,g,z⟩=>?_);subst ex;obtain rfl:u=Value.ref a:=q;exact⟨HE d g,HA f d g w fun E G B c=>⟨v,t,B,c,z⟩⟩
theorem HI(c:X.A.units+1<cLine)(d:PE X o td)(f:PE X i ty)(j:PE X value tv)(k:swapsWith value (some (.Subscript o i pos')) pos.line X.env=pure false) :
  PS X (.Assign [.Subscript o i pos'] value pos) (HG td ty tv):=by
 intro b s Y H D I h;refine wpAny_Assign_Subscript (aR (j b s Y H _ I h) fun r l ⟨v,m,n,p,q⟩=>aR (d b l Y m _ n q) fun u t ⟨x,w,z,B,C⟩=>aR (f b t Y w _ z C) fun N O ⟨y,Q,E,G,a,J,ex,g,L⟩=>?_) k;subst ex;obtain rfl:u=Value.ref a:=B;exact HD c E g G p fun R M=>⟨Y,J,M,L⟩
end
theorem HJ{P:Program}{w:World}{H:Hp}(h:Heap)(a:sysModules<h.objs.size):cw P w H (h.push { cls:=.type "dict",data:=.dict #[] }) h.objs.size (.dK []):=
 ⟨Nat.zero_le _,beq_eq_false_iff_ne.mpr (Ne.symm (Nat.ne_of_lt a)),[],.nil,Heap.DictOf.new h⟩
theorem HK{P:Program}{w:World}{H:Hp}(h:Heap)(a:sysModules<h.objs.size):cw P w H (h.push { cls:=.type "dict",data:=.dict #[] }) h.objs.size (.dT []):=
 ⟨Nat.zero_le _,beq_eq_false_iff_ne.mpr (Ne.symm (Nat.ne_of_lt a)),[],.nil,_,#[],0,Heap.get?_push_size _ rfl,⟨rfl,rfl,rfl⟩,rfl,rfl,List.nodup_nil⟩
noncomputable def HL:TE:=fun _ H Q=>∀p,H p=none->Q (.ref p) (aN H p (.dK []))
noncomputable def HM:TE:=fun _ H Q=>∀p,H p=none->Q (.ref p) (aN H p (.dT []))
section
variable{X:Cx}{pos:Pos}
theorem HN:PE X (.Dict [] [] pos) HL:=fun b s Y H Q I h=>wpAny_Dict_empty ⟨.ref s.heap.objs.size,_,I.laid (a:=s.heap.objs.size) (o:=.dK []) (t':=s.toks) (fun _ _ q=>br _ q) (bF _) (HJ s.heap I.big),rfl,h _ (I.hok.fresh (bF _))⟩
theorem zQ:PE X (.Dict [] [] pos) HM:=fun b s Y H Q I h=>wpAny_Dict_empty ⟨.ref s.heap.objs.size,_,I.laid (a:=s.heap.objs.size) (o:=.dT []) (t':=s.toks) (fun _ _ q=>br _ q) (bF _) (HK s.heap I.big),rfl,h _ (I.hok.fresh (bF _))⟩
end
noncomputable def dE(b:Env):List (Str×NameKind)->List (Str×Addr)->List (Str×Addr)
 | [],a=>a
 | (n,k)::r,a=>if k==.free then dE b r ((n,(b.cells.lookup n).getD 0)::a) else dE b r a
theorem zR(d:Env):∀(b:List (Str×NameKind)) (e:List (Str×Addr)),(∀y∈b,y.2=.free->(d.cells.lookup y.1).isSome=true)->
  (forIn b e fun(x:Str×NameKind) (g:List (Str×Addr))=>if (x.2==NameKind.free)=true then(do let c <-cellOf d x.1;pure (ForInStep.yield ((x.1,c)::g))) else(pure (ForInStep.yield g):Sem (ForInStep (List (Str×Addr)))))=pure (dE d b e)
 | [],e,_=>rfl
 | (n,k)::r,e,h=>by
  have i:=fun a=>zR d r a fun y l=>h y (bY _ l);rw[List.forIn_cons];unfold dE
  by_cases f:(k==NameKind.free)=true
  ·obtain⟨c,j⟩:=Option.isSome_iff_exists.mp (h (n,k) List.mem_cons_self (by simpa using f));simp only[f,if_true];have:cellOf d n=pure c:=by unfold cellOf;rw[j]
   rw[this,j];exact i _
  ·simp only[f];exact i _
theorem zS{a:Scope}{b:Env}(h:∀y∈a.names,y.2=.free->(b.cells.lookup y.1).isSome=true):closureFor a b=pure (dE b a.names []):=by have e:=zR b a.names [] h;unfold closureFor;exact congrArg (fun m=>m >>= pure) e
theorem vj{b:Env}{x:Str}:∀{a:List (Str×NameKind)}{f:List (Str×Addr)}{c:Addr},(∀y∈a,y.2=.free->(b.cells.lookup y.1).isSome=true)->
  (∀c,f.lookup x=some c->b.cells.lookup x=some c)->(dE b a f).lookup x=some c->b.cells.lookup x=some c
 | [],_,_,_,g,h=>g _ h
 | (n,k)::r,f,c,i,g,h=>by
  unfold dE at h
  by_cases j:(k==NameKind.free)=true
  ·rw[if_pos j] at h;refine vj (fun y l=>i y (bY _ l)) (fun o e=>?_) h;rw[List.lookup_cons] at e;cases m:x==n with
   | true=>
    rw[m] at e;have:x=n:=by simpa using m
    subst this;obtain⟨d,hd⟩:=Option.isSome_iff_exists.mp (i (x,k) List.mem_cons_self (by simpa using j));rw[hd] at e ⊢;exact e
   | false=>rw[m] at e;exact g _ e
  ·rw[if_neg j] at h;exact vj (fun y l=>i y (bY _ l)) g h
theorem qg{env:Env}{x:Str}:∀{a:List (Str×NameKind)}{acc:List (Str×Addr)},((x,NameKind.free)∈a\/(acc.lookup x).isSome=true)->((dE env a acc).lookup x).isSome=true
 | [],_,h=>by rcases h with h | h;cases h;exact h
 | (n,k)::r,acc,h=>by
  unfold dE
  by_cases b:(k==NameKind.free)=true
  ·rw[if_pos b];refine qg ?_;rw[List.lookup_cons];cases c:x==n with
   | true=>exact .inr rfl
   | false=>
    rcases h with h | h
    ·rcases List.mem_cons.mp h with e | h
     ·cases e;simp at c
     ·exact .inl h
    ·exact .inr h
  ·rw[if_neg b];refine qg ?_;rcases h with h | h
   ·rcases List.mem_cons.mp h with e | h
    ·cases e;simp at b
    ·exact .inl h
   ·exact .inr h
noncomputable abbrev fE(a:Env):Str×NameKind->Str×NameKind:=fun(n,k)=>if (k==NameKind.free&&a.scope.kind==.function&&a.kindOf n==some .cell) then(n,NameKind.cell) else(n,k)
theorem vk{env:Env}:∀{a:List (Str×NameKind)}{x:Str}{k:NameKind},a.lookup x=some k->
  (a.map (fE env)).lookup x=some k\/(k=.free/\(a.map (fE env)).lookup x=some .cell)
 | [],_,_,h=>by simp at h
 | (n,k)::r,x,f,h=>by
  have g:=@vk env r x f;rw[List.map_cons];have e:fE env (n,k)=(n,k)\/(k=.free/\fE env (n,k)=(n,.cell)):=by
   by_cases c:(k==NameKind.free&&env.scope.kind==.function&&env.kindOf n==some .cell)=true
   ·refine .inr ⟨?_,if_pos c⟩;cases k<;>first | rfl | (simp at c)
   ·exact .inl (if_neg c)
  cases b:x==n with
  | true=>
   simp only[List.lookup_cons,b] at h;cases h;rcases e with e | ⟨d,e⟩
   ·rw[e];exact .inl (by simp only[List.lookup_cons,b])
   ·rw[e];exact .inr ⟨d,by simp only[List.lookup_cons,b]⟩
  | false=>simp only[List.lookup_cons,b] at h;rcases e with e | ⟨d,e⟩<;>(rw[e];simp only[List.lookup_cons,b];exact g h)
theorem zT{env:Env}:∀{a:List (Str×NameKind)}{x:Str},a.lookup x=none->(a.map (fE env)).lookup x=none
 | [],_,_=>rfl
 | (n,k)::r,x,h=>by
  have d:=@zT env r x;rw[List.map_cons];have e:fE env (n,k)=(n,k)\/fE env (n,k)=(n,.cell):=by
   by_cases c:(k==NameKind.free&&env.scope.kind==.function&&env.kindOf n==some .cell)=true
   ·exact .inr (if_pos c)
   ·exact .inl (if_neg c)
  cases b:x==n with
  | true=>simp only[List.lookup_cons,b] at h;cases h
  | false=>simp only[List.lookup_cons,b] at h;rcases e with e | e<;>(rw[e];simp only[List.lookup_cons,b];exact d h)
section
variable{prog:Program}{w:World}{A:Around}{E:Value->Shared->Prop}{R:Result->Shared->Prop}{s:Shared}
theorem HP{e target iter:Expr}{f:List Expr}{d:Scope}{pos:Pos}{it g:Value}{a:Env}(I:Nat->Shared->Prop)
  (turn:∀n s,I n s->wpAny (model prog w) A (pyNext it) (fun r j=>match r with
   | none=>R (.ok .next) j
   | some v=>wpAny (model prog w) A (letOwnedTupleGo target it v) (fun _ i=>wpAny (model prog w) A (assign target a v) (fun _ o=>
     wpAny (model prog w) A (forIn f true fun c r=>if r=true then do let ok <-isTrue c a (eval c a);pure (ForInStep.yield ok) else pure (ForInStep.yield r)) (fun ok k=>
      if ok=true then wpAny (model prog w) A (eval e a) (fun x p=>
       wpAny (model prog w) A (call (.builtin "list.append") [g,x]) (fun _ q=>∃m,m<n/\I m q) (fun _ _=>False) p) (fun _ _=>False) k
      else ∃m,m<n/\I m k) (fun _ _=>False) o) (fun _ _=>False) i) (fun _ _=>False) j) (fun _ _=>False) s)
  (n:Nat) (h:I n s) :
  codeAny (model prog w) A (.compLoop (.ListComp e [⟨target,iter,f,0⟩] d pos) 0 it g a) R s:=by
 refine codeAny_loop rfl I (fun n s y=>?_) n h;show wpAny _ A ((compTurn (.ListComp e [⟨target,iter,f,0⟩] d pos) 0 it g a).onRaise (fun x=>do noteFrame x a;theTreesLotGoes x)) _ _ s;refine wpAny_noted (wpAny_noRaise ?_);rw[compTurn_list];refine az (wpAny_standAt (az (wpAny_mono (turn n s y) (fun r j t=>?_) fun _ _ b=>b)));cases r with
 | none=>exact bp t
 | some v=>
  refine az (wpAny_mono t (fun _ i l=>?_) fun _ _ b=>b);refine az (wpAny_mono l (fun _ o z=>az (wpAny_mono z (fun ok k u=>?_) fun _ _ b=>b)) fun _ _ b=>b);cases ok with
  | false=>exact bp ⟨rfl,u⟩
  | true=>exact az (az (wpAny_mono u (fun x p B=>az (wpAny_mono B (fun _ q C=>bp (bp ⟨rfl,C⟩)) fun _ _ b=>b)) fun _ _ b=>b))
end
theorem qh{x:Str}:∀(a:List (Str×NameKind)) (n:Nat) (b:List (Str×Addr)),((x,NameKind.cell)∉a)->(cellsFrom n a b).lookup x=b.lookup x
 | [],_,_,_=>rfl
 | (y,k)::r,n,b,h=>by
  unfold cellsFrom;have c:(x,NameKind.cell)∉r:=fun z=>h (bY _ z);split
  ·rename_i d;rw[qh r _ _ c,List.lookup_cons];have:(x==y)=false:=by
    cases e:x==y with
    | false=>rfl
    | true=>exact absurd (by rw[eq_of_beq e,<-eq_of_beq d];exact List.mem_cons_self) h
   rw[this]
  ·exact qh r _ _ c
theorem vl{x:Str}{c:Addr}:∀(a:List (Str×NameKind)) (h:Heap) (b:List (Str×Addr)),(cellsFrom h.objs.size a b).lookup x=some c->b.lookup x=some c\/(h.objs.size<=c/\(x,NameKind.cell)∈a/\(pushCells h a).IsCell c none)
 | [],_,_,e=>.inl e
 | (y,k)::r,h,b,e=>by
  unfold cellsFrom at e;unfold pushCells;split at e
  ·rename_i d;rw[if_pos d];have sz:(h.push { cls:=.type "cell",data:=.cell none }).objs.size=h.objs.size+1:=Heap.size_push ..;rw[<-sz] at e;rcases vl r _ _ e with z | ⟨f,g,i⟩
   ·rw[List.lookup_cons] at z;split at z
    ·rename_i j;cases z;refine .inr ⟨bF _,?_,⟨_,pushCells_keeps r _ _ _ (Heap.get?_push_size _ rfl),rfl⟩⟩;rw[eq_of_beq j,<-eq_of_beq d];exact List.mem_cons_self
    ·exact .inl z
   ·exact .inr ⟨by rw[sz] at f;omega,bY _ g,i⟩
  ·rename_i d;rw[if_neg d];rcases vl r _ _ e with z | ⟨f,g,i⟩
   ·exact .inl z
   ·exact .inr ⟨f,bY _ g,i⟩
theorem vm{x:Str}{c:Addr}:∀(a:List (Str×NameKind)) (n:Nat) (b:List (Str×Addr)),(x,NameKind.cell)∈a->(cellsFrom n a b).lookup x=some c->n<=c
 | (y,k)::r,n,b,f,e=>by
  unfold cellsFrom at e
  by_cases d:(x,NameKind.cell)∈r
  ·split at e
   ·have:=vm r _ _ d e;omega
   ·exact vm r _ _ d e
  ·rcases List.mem_cons.mp f with z | z
   ·cases z;rw[if_pos (by rfl),qh r _ _ d,List.lookup_cons,beq_self_eq_true] at e;cases e;exact bF _
   ·exact absurd z d
theorem vn{x:Str}:∀(a:List (Str×NameKind)) (n:Nat) (b:List (Str×Addr)),((x,NameKind.cell)∈a\/(b.lookup x).isSome=true)->((cellsFrom n a b).lookup x).isSome=true
 | [],_,_,h=>by rcases h with h | h;cases h;exact h
 | (y,k)::r,n,b,h=>by
  unfold cellsFrom;split
  ·rename_i c;refine vn r _ _ ?_;rcases h with h | h
   ·rcases List.mem_cons.mp h with z | z
    ·cases z;right;rw[List.lookup_cons,beq_self_eq_true];rfl
    ·exact .inl z
   ·right;rw[List.lookup_cons];split
    ·rfl
    ·exact h
  ·rename_i c;refine vn r _ _ ?_;rcases h with h | h
   ·rcases List.mem_cons.mp h with z | z
    ·cases z;exact absurd rfl c
    ·exact .inl z
   ·exact .inr h
theorem vo{x y:Str}{c:Addr}{lo:Nat}:∀(i:List (Str×NameKind)) (n:Nat) (d:List (Str×Addr)),(∀x y c,lo<=c->d.lookup x=some c->d.lookup y=some c->x=y)->(∀x c,d.lookup x=some c->c<n)->lo<=c->(cellsFrom n i d).lookup x=some c->(cellsFrom n i d).lookup y=some c->x=y
 | [],_,_,h,_,l,g,f=>h _ _ _ l g f
 | (z,k)::r,n,d,h,j,l,g,f=>by
  unfold cellsFrom at g f;split at g
  ·rename_i m;rw[if_pos m] at f;refine vo r (n+1) ((z,n)::d) (fun x y c l g f=>?_) (fun x c e=>?_) l g f
   ·rw[List.lookup_cons] at g f;split at g<;>split at f
    ·rename_i a _ b;rw[eq_of_beq a,eq_of_beq b]
    ·cases g;exact absurd (j _ _ f) (Nat.lt_irrefl _)
    ·cases f;exact absurd (j _ _ g) (Nat.lt_irrefl _)
    ·exact h _ _ _ l g f
   ·rw[List.lookup_cons] at e;split at e
    ·cases e;exact Nat.lt_succ_self _
    ·exact Nat.lt_succ_of_lt (j _ _ e)
  ·rename_i m;rw[if_neg m] at f;exact vo r n d h j l g f
theorem HQ{M:Model}{A:Around}{E:Value->Shared->Prop}{s:Shared}{scope:Scope}{globals:Addr}{cl:List (Str×Addr)}{qual:Str}{a:Env}{Q:Env->Shared->Prop}
  (h:Q { scope,locals:=s.heap.objs.size,globals,cells:=cellsFrom (s.heap.objs.size+1) scope.names cl,qual,func:=none,code:=a.code,frame:=a.frame,builtins:=a.builtins } { s with heap:=pushCells (s.heap.push { cls:=.type "dict",data:=.dict #[] }) scope.names }) :
  wpAny M A (newFunctionEnv scope globals cl [] qual none .none (some a)) Q E s:=by
 simp only[newFunctionEnv,Option.isSome_some,if_true];refine az (wpAny_alloc ?_);refine az (wpAny_layCells _ (fun name kind cells=>by cases b:kind==NameKind.cell<;>simp[b]) _ _ _ _ ?_);rw[show({ s with heap:=s.heap.push { cls:=.type "dict",data:=.dict #[] } }:Shared).heap.objs.size=s.heap.objs.size+1 from Heap.size_push ..];exact az (bp (bp h))
noncomputable abbrev bK(X:Cx)(scope:Scope)(N':List Str)(C:Addr)(fp:List Addr)(s₂:Shared)(H₂:Hp)(pl:List (Addr×Obj)):Cx where
 prog:=X.prog
 w:=X.w
 K:=X.K
 mg:=X.mg
 base:=X.base
 A:=X.A
 N:=N'
 s₀:=s₂
 H₀:=H₂
 env:=compEnvC scope (cellsFrom (C+1) scope.names (dE X.env scope.names [])) C X.env
 outer:=X.stack
 stack:=X.stack
 ex:=fp
 fn:=fun y=>scope.names.lookup y==some .cell
 calm:=X.calm
 pn:=X.pn++pl
 xe:=fun _ _=>False
structure aj (X:Cx) (scope:Scope) (own capN:List Str) (caps:List Nat):Prop where
 kind:scope.kind=.function
 one:∀y∈scope.names,scope.names.lookup y.1=some y.2
 free:∀y∈scope.names,y.2=.free->X.env.kindOf y.1=some .cell\/X.env.kindOf y.1=some .free
 loc:∀y∈scope.names,y.2=.local->scope.names.lookup y.1=some .local
 caps:caps.map (fun j=>X.N[j]?)=capN.map some
 capf:∀x∈capN,scope.names.lookup x=some .free
noncomputable def dB(own:List Str)(a:List Nat)(Y:St):St:=own.map (fun _=>none)++a.map (fun j=>(Y[j]?).getD none)
section
variable{X:Cx}{scope:Scope}{own capN:List Str}{caps:List Nat}
theorem aj.cells(S:aj X scope own capN caps)(ok:X.Ok):∀y∈scope.names,y.2=.free->(X.env.cells.lookup y.1).isSome=true:=fun y a b=>by obtain⟨c,d⟩:=ok.has y.1 (S.free y a b);rw[d];rfl
theorem aj.cl(S:aj X scope own capN caps)(ok:X.Ok){x:Str}{c:Addr}(h:(dE X.env scope.names []).lookup x=some c):X.env.cells.lookup x=some c:=
 vj (S.cells ok) (fun _ e=>by simp at e) h
theorem HR{f:List (Addr×Obj)}{Y:St}{H₂:Hp}{B:Shared}{L:Heap}{C:Addr}{fp:List Addr}{tk:Nat}{m:Str->Option Value}(S:aj X scope own capN caps)(I:Inv X f Y H₂ B)
  (hf:∀b∈fp,gU X f H₂ b) (M:∀b∈fp,b<B.heap.objs.size) (t:B.heap.objs.size<=C) (O:∀b o,B.heap.get? b=some o->L.get? b=some o) (hn:L.Ns C m) (Q:∀x c,(cellsFrom (C+1) scope.names (dE X.env scope.names [])).lookup x=some c->(dE X.env scope.names []).lookup x=some c\/(C+1<=c/\L.IsCell c none)) :
  Inv (bK X scope (own++capN) C fp B H₂ f) [] (dB own caps Y) H₂ { B with heap:=L,toks:=tk }:=by
 have cl:=fun {x:Str}{c:Addr}=>S.cl (x:=x) (c:=c) I.ok;have lt:∀{x:Str}{c:Addr},X.env.cells.lookup x=some c->c<B.heap.objs.size:=fun e=>by obtain⟨v,q⟩:=I.cell _ _ e;exact q.lt
 have D:∀{x:Str}{c:Addr},X.env.cells.lookup x=some c->C+1<=c->False:=fun e z=>absurd (Nat.lt_of_lt_of_le (lt e) (Nat.le_trans t (Nat.le_of_succ_le z))) (Nat.lt_irrefl _);have a:∀{x:Str}{c:Addr},(cellsFrom (C+1) scope.names (dE X.env scope.names [])).lookup x=some c->X.env.cells.lookup x=some c\/(C+1<=c/\L.IsCell c none):=fun {x c} e=>(Q x c e).imp (fun z=>cl z) fun z=>z;have r:∀x,((relabel scope X.env).names.lookup x=some .cell\/(relabel scope X.env).names.lookup x=some .free)->scope.names.lookup x=some .free\/scope.names.lookup x=some .cell:=fun x H=>by
  cases e:scope.names.lookup x with
  | none=>have z:(relabel scope X.env).names.lookup x=none:=zT (env:=X.env) e;rw[z] at H;rcases H with q | q<;>cases q
  | some k=>
   rcases vk (env:=X.env) e with z | ⟨z,_⟩
   ·have z':(relabel scope X.env).names.lookup x=some k:=z;rw[z'] at H;rcases H with q | q
    ·cases q;exact .inr rfl
    ·cases q;exact .inl rfl
   ·rw[z];exact .inl rfl
 have stk:∀b,b≠X.env.locals->b∉X.fs->b∉bH X.stack:=fun b J g z=>(List.mem_cons.mp (I.stkSub b z)).elim J g;refine⟨⟨I.ok.mod,S.kind,I.ok.glob,I.ok.blt,t,fun x y c J g=>?inj,fun x H=>?_,fun x c h e=>?cab,I.ok.hd,I.ok.frames,.inl rfl,fun b w=>⟨?_,fun x c h=>?exf⟩,
   I.bs,Nat.le_trans I.ok.bsz I.sz,fun b o e w=>?_,fun b w=>stk b (hf b w).2.1 (hf b w).2.2.1,I.stack,I.stkFree⟩,
  rfl,I.bare,Un.kept O,⟨m,hn,fun i x v J g h3=>?_⟩,fun x c h=>?_,I.hok.fresh t,fun x c h=>?frc,fun p hp=>?_,I.hok.kept O,?_⟩
 case inj=>
  rcases a J with R | ⟨R,_⟩<;>rcases a g with z2 | ⟨z2,_⟩
  ·exact I.ok.inj x y c R z2
  ·exact(D R z2).elim
  ·exact(D z2 R).elim
  ·exact vo (lo:=C+1) scope.names (C+1) (dE X.env scope.names []) (fun x y c l e _=>(D (cl e) l).elim) (fun x c e=>Nat.lt_succ_of_le (Nat.le_trans (Nat.le_of_lt (lt (cl e))) t)) R J g
 case cab=>have e1:=eq_of_beq (show(scope.names.lookup x==some NameKind.cell)=true from h);have:=vm scope.names (C+1) (dE X.env scope.names []) (PySem.mem_of_lookup e1) e;exact Nat.le_trans t (Nat.le_of_succ_le this)
 case exf=>
  rcases a h with z | ⟨z,_⟩
  ·exact(hf b w).2.2.2.2.1 x c z
  ·exact Ne.symm (Nat.ne_of_lt (Nat.lt_of_lt_of_le (M b w) (Nat.le_trans t (Nat.le_of_succ_le z))))
 case frc=>
  rcases a h with z | ⟨z,_⟩
  ·exact I.freeC x c z
  ·exact I.hok.fresh (Nat.le_trans t (Nat.le_of_succ_le z))
 ·refine Option.isSome_iff_exists.mp (vn scope.names (C+1) (dE X.env scope.names []) ?_);rcases r x H with q | q
  ·exact .inr (qg (env:=X.env) (.inl (PySem.mem_of_lookup q)))
  ·exact .inl (PySem.mem_of_lookup q)
 ·exact Nat.ne_of_lt (Nat.lt_of_lt_of_le (M b w) t)
 ·rcases(hf b w).2.2.2.1 with z | z
  ·exact I.ok.noex b o e z
  ·exact absurd (Nat.lt_of_lt_of_le (bC (I.ok.bs b o e).1) z) (Nat.lt_irrefl _)
 ·
  have hi:own.length<=i:=by
   refine Nat.le_of_not_lt fun a1=>?_;unfold dB at g;rw[List.getElem?_append_left (by simpa using a1),List.getElem?_map] at g;cases q:own[i]? with
   | none=>rw[q] at g;cases g
   | some y=>rw[q] at g;cases g
  have T:capN[i - own.length]? = some x:=by
   have:(own++capN)[i]? = some x:=J
   rwa [List.getElem?_append_right hi] at this
  have U:(caps.map (fun j=>(Y[j]?).getD none))[i - own.length]? = some (some v):=by
   unfold dB at g
   rwa [List.getElem?_append_right (by simpa using hi),List.length_map] at g
  rw[List.getElem?_map] at U;obtain⟨j,hj,s⟩:=Option.map_eq_some_iff.mp U;have hX:X.N[j]? = some x:=by have q:=congrArg (fun l=>l[i - own.length]?) S.caps;simp only[List.getElem?_map,hj,T,Option.map_some] at q;exact Option.some.inj q
  have hY:Y[j]? = some (some v):=by
   cases q:Y[j]? with
   | none=>rw[q] at s;cases s
   | some z=>rw[q] at s;simp at s;rw[s]
  have E:=S.capf x (List.mem_of_getElem? T);have A:(x,NameKind.free)∈scope.names:=PySem.mem_of_lookup E;have Z:=S.free _ A rfl;obtain⟨m',a3,hl⟩:=I.loc;obtain⟨u,ru,l⟩:=hl j x v hX hY (Z.elim (fun q=>.inr (.inl q)) fun q=>.inr (.inr q));refine⟨u,ru,.inr ⟨?_,?_⟩⟩
  ·rcases vk (env:=X.env) E with z | ⟨_,z⟩
   ·exact .inr z
   ·exact .inl z
  ·rcases l with⟨l,_⟩ | ⟨_,c,hc,G⟩
   ·have l':X.env.kindOf x=some .local:=l;rcases Z with q | q<;>(rw[l'] at q;cases q)
   ·obtain⟨c',a0⟩:=Option.isSome_iff_exists.mp (qg (env:=X.env) (acc:=[]) (.inl A));have:=cl a0;rw[hc] at this;cases this;obtain⟨o,ho,hd⟩:=G;have nc:(x,NameKind.cell)∉scope.names:=fun z=>by have:=S.one _ z;rw[E] at this;cases this
    exact⟨c,(qh scope.names (C+1) (dE X.env scope.names []) nc).trans a0,o,O c o ho,hd⟩
 ·rcases a h with z | ⟨_,z⟩
  ·obtain⟨v,o,ho,hd⟩:=I.cell x c z;exact⟨v,o,O c o ho,hd⟩
  ·exact⟨_,z⟩
 ·have a2:p∈X.pn++f:=by simpa using hp
  obtain⟨e,n,ne,nf,d⟩:=I.pin p a2;exact⟨O _ _ e,n,Nat.ne_of_lt (Nat.lt_of_lt_of_le (bC e) t),stk p.1 ne nf,d⟩
 ·unfold dB;have hl:=congrArg List.length S.caps;simp only[List.length_map] at hl;show(own.map (fun _=>(none:Option V))++caps.map (fun j=>(Y[j]?).getD none)).length=(own++capN).length;rw[List.length_append,List.length_append,List.length_map,List.length_map,hl]
end
def mf(X:Cx)(b:List Expr)(t:TT):Prop:=
 ∀(a:List (Addr×Obj)) (s:Shared) (Y:St) (H:Hp) (Q:Bool->Hp->Prop),Inv X a Y H s->t Y H Q->
  wpAny (model X.prog X.w) X.A (forIn b true fun c r=>if r=true then do let ok <-isTrue c X.env (eval c X.env);pure (ForInStep.yield ok) else pure (ForInStep.yield r)) (TP X a Y Q) X.xe s
noncomputable def HS:TT:=fun _ H Q=>Q true H
theorem HU{X:Cx}:mf X [] HS:=fun _ _ _ H _ I h=>wpAny_tests_nil ⟨H,I,h⟩
theorem HV{X:Cx}{c:Expr}{t:TT}(h:PT X c t):mf X [c] t:=fun a s Y H Q I q=>wpAny_tests_one (h a s Y H Q I q)
noncomputable def jI(own:List Str)(d:List Nat)(k:TI)(g:TG)(l:TT)(n:TE):TE:=fun Y H Q=>k Y H fun J o=>∃W:Nat->Nat->List V->St->Hp->Prop,(∃m,W 0 m [] (dB own d Y) o)/\∀i m a f H,W i m a f H->
 (J.stop i H/\a.length<=sizeLine/\∀p,H p=none->Q (.ref p) (aN H p (.lst a)))\/
 (J.go i H/\∀x h,J.yld i H x h->g x f h fun e q=>l e q fun b j=>if b=true then n e j fun y r=>a.length<sizeLine/\∃c,c<m/\W (i+1) c (a++[y]) e r else ∃c,c<m/\W (i+1) c a e j)
section
variable{X:Cx}{scope:Scope}{own capN:List Str}{caps:List Nat}{tg iter elt:Expr}{ifs:List Expr}{wi:TI}{g:TG}{tc:TT}{te:TE}{pos:Pos}
theorem zU{f:List (Addr×Obj)}{Y:St}{H:Hp}{s:Shared}{Q:VK}{RR:Value->Addr->Result->Shared->Prop}(S:aj X scope own capN caps)(hc:X.calm=true)(hi:PI X tg iter wi)
  (b9:∀C E s₂ H₂ pl,PG (bK X scope (own++capN) C E s₂ H₂ pl) tg g/\mf (bK X scope (own++capN) C E s₂ H₂ pl) ifs tc/\PE (bK X scope (own++capN) C E s₂ H₂ pl) elt te)
  (I:Inv X f Y H s) (h:jI own caps wi g tc te Y H Q)
  (c0:∀(D C:Addr) (s':Shared) (M:Hp) (m:Str->Option Value),Inv X f Y M s'->gU X f M C->s'.heap.Ns C m->Q (.ref D) M->RR (.ref D) C (.ok .next) s') :
  wpAny (model X.prog X.w) X.A (eval iter X.env) (fun x s₁=>wpAny (model X.prog X.w) X.A (pyIter x) (fun it s₂=>wpAny (model X.prog X.w) X.A (newList []) (fun b4 s₃=>
   wpAny (model X.prog X.w) X.A (newFunctionEnv scope X.env.globals (dE X.env scope.names []) [] X.env.qual none .none (some X.env)) (fun a8 s₄=>
    codeAny (model X.prog X.w) X.A (.compStart (.ListComp elt [⟨tg,iter,ifs,0⟩] scope pos) 0 it b4 { a8 with scope:=relabel scope X.env }) (RR b4 a8.locals) s₄) X.xe s₃) X.xe s₂) X.xe s₁) X.xe s:=by
 refine aR (hi f s Y H _ I h) fun v s1 h1=>aR h1 fun c7 B h2=>?_;obtain⟨it,E,tn,J,Z,e,I2,T,b1,f2,W,⟨m0,w0⟩,b5⟩:=h2;subst e;have a0:∀b∈E,b<B.heap.objs.size:=fun b t=>by obtain⟨o,e,_⟩:=T.obj _ _ b1 b t;exact bC e
 refine wpAny_newObj_type (HQ ?_);dsimp only;generalize a4:B.heap.push { cls:=.type "list",dict:=none,data:=.seq ([]:List Value).toArray }=G;have hC:G.objs.size=B.heap.objs.size+1:=by rw[<-a4,Heap.size_push]
 have l:B.heap.objs.size<=G.objs.size:=by rw[hC];exact Nat.le_succ _
 have a5:B.heap.objs.size≠G.objs.size:=by rw[hC];exact Nat.ne_of_lt (Nat.lt_succ_self _)
 have below:∀b,b<B.heap.objs.size->b≠G.objs.size:=fun b t=>by rw[hC];exact Nat.ne_of_lt (Nat.lt_succ_of_lt t)
 have b6:(G.push { cls:=.type "dict",data:=.dict #[] }).objs.size=G.objs.size+1:=Heap.size_push ..;have L:∀x c,(cellsFrom (G.objs.size+1) scope.names (dE X.env scope.names [])).lookup x=some c->(dE X.env scope.names []).lookup x=some c\/(G.objs.size+1<=c/\(pushCells (G.push { cls:=.type "dict",data:=.dict #[] }) scope.names).IsCell c none):=fun x c e=>by rw[<-b6] at e ⊢;exact(vl scope.names _ _ e).imp (fun z=>z) fun⟨z1,_,z2⟩=>⟨z1,z2⟩
 have a1:(pushCells (G.push { cls:=.type "dict",data:=.dict #[] }) scope.names).Ns G.objs.size (fun _=>none):=(Heap.Ns.new G (.type "dict")).keeps (pushCells_keeps _ _);have old:∀b o,B.heap.get? b=some o->(pushCells (G.push { cls:=.type "dict",data:=.dict #[] }) scope.names).get? b=some o:=fun b o e=>pushCells_keeps _ _ b o (br _ (a4▸br _ e));have a2:(pushCells (G.push { cls:=.type "dict",data:=.dict #[] }) scope.names).get? B.heap.objs.size=some { cls:=.type "list",dict:=none,data:=.seq ([]:List Value).toArray }:=pushCells_keeps _ _ _ _ (br _ (a4▸Heap.get?_push_size _ rfl));generalize pushCells (G.push { cls:=.type "dict",data:=.dict #[] }) scope.names=h₁ at L a1 old a2 ⊢;generalize c1:G.objs.size=C at a1 a5 l below L ⊢;generalize j:B.heap.objs.size=D at a2 a5 ⊢;clear a4 hC c1 b6 G;obtain⟨hg,ht,he⟩:=b9 C E B Z f;have Ic:Inv (bK X scope (own++capN) C E B Z f) [] (dB own caps Y) Z { B with heap:=h₁,toks:=B.toks }:=HR S I2 f2 a0 (by rw[j];rw[j] at l;exact l) old a1 L;have a6:∀x c,(cellsFrom (C+1) scope.names (dE X.env scope.names [])).lookup x=some c->c≠D:=fun x c e z=>by
  rcases L x c e with e | ⟨e,_⟩
  ·obtain⟨v,q⟩:=I2.cell x c (S.cl I2.ok e);exact absurd q.lt (by rw[z,j];exact Nat.lt_irrefl _)
  ·rw[j] at l;exact absurd (Nat.lt_of_le_of_lt l (Nat.lt_of_lt_of_le (Nat.lt_succ_self C) e)) (by rw[z];exact Nat.lt_irrefl _)
 have a7:D∉bH X.stack:=fun z=>by
  rcases List.mem_cons.mp (I2.stkSub D z) with q | q
  ·exact absurd I2.lt (by rw[<-q,j];exact Nat.lt_irrefl _)
  ·exact I2.nofs (by rw[j];exact bF _) q
 have a3:∀p∈X.pn++f,p.1≠D:=fun p N z=>absurd (bC (I2.pin p N).1) (by rw[z,j];exact Nat.lt_irrefl _);have a9:∀{Y':St}{M:Hp}{s':Shared}{O:List Value}{k:Nat},Inv (bK X scope (own++capN) C E B Z f) [] Y' M s'->s'.heap.get? D=some { cls:=.type "list",data:=.seq O.toArray k }->M D=none->
   Inv (bK X scope (own++capN) C E B Z f) [(D,{ cls:=.type "list",data:=.seq O.toArray k })] Y' M s':=fun J e n=>J.pins_of fun p N=>by
  obtain rfl:=List.mem_singleton.mp N;exact⟨e,n,a5,a7,fun v z=>by cases z⟩
 have b2:∀{M:Hp}{o:Obj},(∀b∈E,M b=none)->∀b∈E,gU (bK X scope (own++capN) C E B Z f) [(D,o)] M b:=fun hn b t=>by
  obtain⟨f0,f1,c2,f3,f4,f5⟩:=f2 b t;refine⟨hn b t,Nat.ne_of_lt (Nat.lt_of_lt_of_le (a0 b t) (by rw[j];rw[j] at l;exact l)),fun z=>(List.mem_cons.mp (I2.stkSub b z)).elim f1 c2,.inl t,fun x c e=>?cl,fun p N=>?_⟩
  case cl=>
   rcases L x c e with e | ⟨e,_⟩
   ·exact f4 x c (S.cl I2.ok e)
   ·exact Ne.symm (Nat.ne_of_lt (Nat.lt_of_lt_of_le (a0 b t) (Nat.le_trans (by rw[j];rw[j] at l;exact l) (Nat.le_of_succ_le e))))
  rcases List.mem_append.mp N with N | N
  ·exact f5 p N
  ·obtain rfl:=List.mem_singleton.mp N;intro z;have z':D=b:=z;exact absurd (a0 b t) (by rw[<-z',j];exact Nat.lt_irrefl _)
 have b0:codeAny (model X.prog X.w) X.A (.compLoop (.ListComp elt [⟨tg,iter,ifs,0⟩] scope pos) 0 (.ref it) (.ref D) (compEnvC scope (cellsFrom (C+1) scope.names (dE X.env scope.names [])) C X.env)) (RR (.ref D) C) { B with heap:=h₁,toks:=B.toks }:=by
  refine HP (fun n s'=>∃i ys O k Y' M,Inv (bK X scope (own++capN) C E B Z f) [(D,{ cls:=.type "list",data:=.seq O.toArray k })] Y' M s'/\tn i s'.heap/\(∀b∈E,M b=none)/\be ys O/\W i n ys Y' M) ?_ m0
   ⟨0,[],[],0,_,Z,a9 Ic a2 (I2.hok.fresh (by rw[j];exact bF _)),T.keep _ _ _ b1 fun b _ o e=>old b o e,fun b t=>(f2 b t).1,.nil,w0⟩
  rintro n s3 ⟨i,ys,O,k,Y3,H3,I3,b7,b8,r3,w3⟩;rcases b5 i n ys Y3 H3 w3 with⟨stop,hz,qn⟩ | ⟨go,step⟩
  ·refine aR (T.done (bK X scope (own++capN) C E B Z f) rfl rfl rfl hc i _ s3 Y3 H3 _ I3 (b2 b8) b7 stop) fun r s4 ⟨hr,R⟩=>?_;subst hr;obtain⟨eD,nD,_⟩:=R.pin (D,_) (bh _ (List.mem_singleton.mpr rfl));have U:H3 D=none:=nD;have I5:Inv X f Y (aN H3 D (.lst ys)) s4:=by
    refine I2.call' (ch:=E) R.os ⟨R.base.keep,R.base.slot,fun b o e n hx=>?_,R.base.there,fun b xs e=>?_,fun b o u e=>?_,fun b ps e=>?_⟩ (fun b u e=>?_) R.bare fun b t=>⟨(f2 b t).2.2.2.1,(f2 b t).2.1,(f2 b t).2.2.2.2.1,(f2 b t).2.2.2.2.2⟩
    ·rw[bw (by intro z;exact absurd (bC e) (by rw[z,j];exact Nat.lt_irrefl _))];exact R.base.free b o e n hx
    ·have q:=R.base.tups b xs e;rw[bw (gT q U)];exact q
    ·have q:=R.base.frzs b o u e;rw[bw (gT q U)];exact q
    ·obtain⟨more,q⟩:=R.base.tbls b ps e;exact⟨more,by rw[bw (gT q U)];exact q⟩
    ·by_cases t:b=D
     ·subst t;rw[cn] at e;cases e;exact⟨hz,O,k,r3,eD⟩
     ·rw[bw t] at e;exact(R.hok b u e).stay (fun _ _ _ q=>q) (fun c q=>by rw[bw (gT q U)];exact q) fun c xs q=>by rw[bw (gT q U)];exact q
   obtain⟨m,hm,_⟩:=R.loc;exact c0 D C s4 _ m I5 (I2.fpOk (by rw[j];rw[j] at l;exact l) (by rw[bw (Ne.symm a5)];exact R.free)) hm (qn D U)
  ·refine aR (T.item (bK X scope (own++capN) C E B Z f) rfl rfl rfl hc i _ s3 Y3 H3 _ I3 (b2 b8) b7 go) fun r s4 ⟨u,hr,h4⟩=>?_;subst hr;refine aR h4 fun _ s5 ⟨x,H5,I5,r5,y5,b3,c3⟩=>?_;have c4:=I5.pinned (b2 c3) (T.obj _ _ b3);refine aR (hg _ s5 Y3 H5 x u _ c4 r5 (step x H5 y5)) fun _ s6 ⟨Y6,H6,I6,q6⟩=>?_;refine aR (ht _ s6 Y6 H6 _ I6 q6) fun ok s7 ⟨H7,I7,q7⟩=>?_;have en:∀{Y8:St}{H8:Hp}{s8:Shared},Inv (bK X scope (own++capN) C E B Z f) ([(D,{ cls:=.type "list",data:=.seq O.toArray k })]++nF E s5.heap) Y8 H8 s8->tn (i+1) s8.heap/\(∀b∈E,H8 b=none):=fun {Y8 H8 s8} I8=>by refine⟨T.keep _ _ _ b3 fun b t o e=>(I8.pin (b,o) (bh _ (bh _ (pT t e)))).1,fun b t=>?_⟩;obtain⟨o,e,d⟩:=T.obj _ _ b3 b t;exact(I8.pin (b,o) (bh _ (bh _ (pT t e)))).2.1
   cases ok with
   | false=>obtain⟨m',hm,w7⟩:=q7;obtain⟨t7,n7⟩:=en I7;exact⟨m',hm,i+1,ys,O,k,Y6,H7,I7.unpinned,t7,n7,r3,w7⟩
   | true=>
    refine aR (he _ s7 Y6 H7 _ I7 q7) fun u8 s8 ⟨y,H8,I8,r8,hz,m',hm,w8⟩=>?_;obtain⟨t8,n8⟩:=en I8;have I9:=I8.unpinned;obtain⟨eD,nD,c5,c8,_⟩:=I9.pin (D,_) (bh _ (List.mem_singleton.mpr rfl));have hl:=r3.length;refine call_meets F.slot_list_append ⟨_,eD,rfl⟩ F.entry_list_append (F.args_list_append_2 _ _) (PySem.list_append D O.toArray k u8 (by rw[List.size_toArray];omega)) ⟨eD,?_⟩;have q:=PySem.IsL.update eD (fun a=>a.push u8);have e2:O.toArray.push u8=(O++[u8]).toArray:=by simp
    rw[e2] at q;have keep:∀b o,b≠D->s8.heap.get? b=some o->(s8.heap.update D (Obj.mapSeq fun a=>a.push u8)).get? b=some o:=fun b o t e=>(Heap.get?_update_other s8.heap _ (Ne.symm t)).trans e;have c6:Inv (bK X scope (own++capN) C E B Z f) [] Y6 H8 { s8 with heap:=s8.heap.update D (Obj.mapSeq fun a=>a.push u8) }:=by refine(I9.pins_of (pins':=[]) fun p N=>absurd N (by simp)).turned (t':=s8.toks) (it:=D) keep nD c5 (.inr (by rw[j];exact bF _)) a6 fun p N=>?_;exact a3 p (by simpa using N)
    exact⟨m',hm,i+1,ys++[y],O++[u8],_,Y6,H8,a9 c6 q nD,T.keep _ _ _ t8 fun b t o e=>keep b o (by intro z;exact absurd (a0 b t) (by rw[z,j];exact Nat.lt_irrefl _)) e,n8,r3.append (.cons r8 .nil),w8⟩
 exact codeAny_compStart_list b0 (wpAny_noRaise (T.self _ 0 _ _ _ (T.keep _ _ _ b1 fun b _ o e=>old b o e) b0))
theorem qi(S:aj X scope own capN caps)(n:X.calm=true)(p:PI X tg iter wi)
  (a:∀C c d i k,PG (bK X scope (own++capN) C c d i k) tg g/\mf (bK X scope (own++capN) C c d i k) ifs tc/\PE (bK X scope (own++capN) C c d i k) elt te)
  (r:∀x,foldedSetIterable iter X.env x=pure x:=by intro _;rfl):PE X (.ListComp elt [⟨tg,iter,ifs,0⟩] scope pos) (jI own caps wi g tc te):=by
 intro l s Y H Q I h;rw[eval_ListComp];refine wpAny_comprehension_free (use:=none) rfl r (zS (S.cells I.ok)) S.kind S.loc ?_;refine zU S n p a I h fun D C t u m v f w q=>⟨m,w,fun z j=>?_⟩
 exact⟨.ref D,u,v.turned (t':=t.toks) (it:=C) (fun b o y e=>(j.2 b y).trans e) f.1 f.2.1 f.2.2.2.1 f.2.2.2.2.1 f.2.2.2.2.2,rfl,q⟩
theorem HW{i:Nat}{y:Str}{py c:Pos}(B:X.N.Nodup)(j:X.N[i]? = some y)(E:fO X.env.scope y)(S:aj X scope own capN caps)(G:X.calm=true)(J:PI X tg iter wi)
  (k:∀C l n p w,PG (bK X scope (own++capN) C l n p w) tg g/\mf (bK X scope (own++capN) C l n p w) ifs tc/\PE (bK X scope (own++capN) C l n p w) elt te)
  (r:swapsWith (.ListComp elt [⟨tg,iter,ifs,0⟩] scope pos) (some (.Name y py)) c.line X.env=pure true:=by rfl)
  (L:∀x,foldedSetIterable iter X.env x=pure x:=by intro _;rfl) (M:X.fn y=true\/X.env.scope.names.lookup y=some .local:=by first | exact .inl rfl | exact .inr rfl | assumption) :
  PS X (.Assign [.Name y py] (.ListComp elt [⟨tg,iter,ifs,0⟩] scope pos) c) (uO (jI own caps wi g tc te) (pP i)):=by
 intro d s Y H D I h;rw[exec_Assign_Name_used _ _ _ _ r];refine az (wpAny_standAt (az ?_));show wpAny _ X.A (do let _ <-comprehension (.ListComp elt [⟨tg,iter,ifs,0⟩] scope pos) scope X.env _ (newList []) false (eval iter X.env) (some (assign (.Name y py) X.env))) _ _ s;refine az (wpAny_mono (wpAny_comprehension_free (use:=some (assign (.Name y py) X.env)) (Q:=fun _ t=>SP X d D .next t) rfl L (zS (S.cells I.ok)) S.kind S.loc ?_) (fun _ t O=>bp (bp O)) fun _ _ e=>e);refine zU S G J k I h fun Da C t R m T f U q=>?_;show wpAny _ X.A (assign (.Name y py) X.env (.ref Da)) _ _ _;refine wpAny_assign_Name (yL T B j E (v:=.ref Da) rfl (fun Z I2 ⟨a,sb,ha⟩=>⟨m,?_,fun h' u=>?_⟩) M)
 ·refine U.sameBut sb ?_;rcases ha with z | z
  ·rw[z];exact f.2.1
  ·exact Ne.symm (f.2.2.2.2.1 y a z)
 ·exact⟨_,R,I2.turned (t':=Z.toks) (it:=C) (fun b o hb e=>(u.2 b hb).trans e) f.1 f.2.1 f.2.2.2.1 f.2.2.2.2.1 f.2.2.2.2.2,q⟩
end
end L2
namespace L2
open PySem
theorem HX{M:Model}{A:Around}{E:Value->Shared->Prop}{s:Shared}{a:Addr}{Q:Option Obj->Shared->Prop}(h:Q (s.heap.get? a) s):wpAny M A (loadIfAlive a) Q E s:=by intro Γ p b;unfold loadIfAlive;rw[Sem.wp_loadIfAlive];exact bp h Γ p b
abbrev fc(h:Heap)(z TI TO:Addr)(a f1:Value):Prop:=
 h.get? z=some { cls:=.type "zip",dict:=none,data:=.fields #[a,f1,.bool false,.ref TI,.ref TO],slots:=#[] }
abbrev dF(h:Heap)(T:Addr)(a b c:Value):Prop:=h.get? T=some { cls:=.type "tuple",data:=.seq #[a,b,c] }
section
variable{prog:Program}{w:World}{A:Around}{E:Value->Shared->Prop}{s:Shared}
theorem vp{T:Addr}{a b c x:Value}{k:Nat}{Q:Unit->Shared->Prop}(e:dF s.heap T a b c)
  (h:∀d,d.get? T=some { cls:=.type "tuple",data:=.seq ((#[a,b,c]:Array Value).setIfInBounds k x) }->Heap.SameBut T s.heap d->Q () { s with heap:=d }) :
  wpAny (model prog w) A (updateSeq T (·.setIfInBounds k x)) Q E s:=by
 refine wpAny_updateSeq e rfl (h _ ?_ (Heap.SameBut.update ..));rw[Heap.get?_update_self _ e rfl];simp[Obj.mapSeq]
theorem HY{z TI TO n r B l1 l2 l3:Addr}{k:Nat}{xs ys zs:Array Value}{x y v a b c:Value}{Q:Value->Shared->Prop}
  (nd:[z,TI,TO,n,r,B].Nodup) (hl:∀l∈[l1,l2,l3],∀j∈[z,TI,TO,n,r,B],l≠j)
  (hz:fc s.heap z TI TO .none (.bool false)) (a6:dF s.heap TI (.ref n) (.ref r) (.ref B)) (a7:dF s.heap TO a b c)
  (h1:s.heap.IsListIter n l1 k) (h2:s.heap.IsListIter r l2 k) (h3:s.heap.IsListIter B l3 k) (a8:s.heap.IsList l1 xs) (a9:s.heap.IsList l2 ys) (b0:s.heap.IsList l3 zs)
  (hx:xs[k]? = some x) (hy:ys[k]? = some y) (hv:zs[k]? = some v)
  (hQ:∀H,fc H z TI TO (rawInt s.heap.objs.size) (.bool false)->dF H TO x y v->H.IsListIter n l1 (k+1)->H.IsListIter r l2 (k+1)->H.IsListIter B l3 (k+1)->dF H s.heap.objs.size x y v->H.objs.size=s.heap.objs.size+1->
   (∀c o,c∉[z,TO,n,r,B]->s.heap.get? c=some o->H.get? c=some o)->Q (.ref s.heap.objs.size) { s with heap:=H }) :
  wpAny (model prog w) A (Builtin.«zip.__next__» ⟨[.ref z],[]⟩) (fun fin s'=>∃v,fin=.done (.ret v)/\Q v s') E s:=by
 simp only[List.nodup_cons,List.mem_cons,List.not_mem_nil,or_false,not_or,not_false_eq_true,and_true,List.nodup_nil] at nd;obtain⟨⟨c0,C,z1,z2,z3⟩,⟨b9,c6,c7,c8⟩,⟨I,J,L⟩,⟨a0,a1⟩,a2⟩:=nd;have n1:∀j∈[z,TI,TO,n,r,B],l1≠j:=hl l1 (by simp);have n2:∀j∈[z,TI,TO,n,r,B],l2≠j:=hl l2 (by simp);have n3:∀j∈[z,TI,TO,n,r,B],l3≠j:=hl l3 (by simp);show wpAny _ _ (field (.ref z) 2 >>= _) _ _ _;refine az (wpAny_field hz rfl (x:=.bool false) rfl ?_);show wpAny _ _ (field (.ref z) 3 >>= _) _ _ _;refine az (wpAny_field hz rfl (x:=.ref TI) rfl ?_);refine az (wpAny_seqItems a6 rfl ?_);show wpAny _ _ (Builtin.SmallTypes.ownedTupleIsFree (.ref z) >>= _) _ _ _;refine az ?_;unfold Builtin.SmallTypes.ownedTupleIsFree;refine az (wpAny_field hz rfl (x:=.none) rfl (bp ?_));simp only[if_true];refine az (wpAny_rule ?_);refine az (wpAny_field hz rfl (x:=.ref TO) rfl ?_);refine az (wpAny_setField_rec hz (by simp) fun h₁ U d=>?_)
 replace U:fc h₁ z TI TO .ellipsis (.bool false):=U
 refine az ?_;simp only[List.zipIdx_cons,List.zipIdx_nil,List.forIn_cons,List.forIn_nil];refine az (az (wpAny_onRaise ?_));show wpAny _ _ (Builtin.SmallTypes.nextOf (.ref n) >>= _) _ _ _;refine az (wpAny_nextOf_list_item (h1.extBut d.extBut (Ne.symm z1)) (a8.extBut d.extBut (n1 z (by simp))) hx fun h₂ b1 f=>bp ?_);have N:dF h₂ TO a b c:=f.extBut _ _ I (d.extBut _ _ (Ne.symm C) a7);refine az (wpAny_seqItems N rfl ?_);refine az (vp N fun h₃ D g=>?_)
 replace D:dF h₃ TO x b c:=D
 refine az (wpAny_letGo (bp ?_));refine az (az (wpAny_onRaise ?_));show wpAny _ _ (Builtin.SmallTypes.nextOf (.ref r) >>= _) _ _ _;refine az (wpAny_nextOf_list_item (((h2.extBut d.extBut (Ne.symm z2)).extBut f.extBut (Ne.symm a0)).extBut g.extBut (Ne.symm J))
  (((a9.extBut d.extBut (n2 z (by simp))).extBut f.extBut (n2 n (by simp))).extBut g.extBut (n2 TO (by simp))) hy fun h₄ b2 i=>bp ?_)
 have O:dF h₄ TO x b c:=i.extBut _ _ J D;refine az (wpAny_seqItems O rfl ?_);refine az (vp O fun h₅ G m=>?_)
 replace G:dF h₅ TO x y c:=G
 refine az (wpAny_letGo (bp ?_));refine az (az (wpAny_onRaise ?_));show wpAny _ _ (Builtin.SmallTypes.nextOf (.ref B) >>= _) _ _ _;refine az (wpAny_nextOf_list_item (((((h3.extBut d.extBut (Ne.symm z3)).extBut f.extBut (Ne.symm a1)).extBut g.extBut (Ne.symm L)).extBut i.extBut (Ne.symm a2)).extBut m.extBut (Ne.symm L))
  (((((b0.extBut d.extBut (n3 z (by simp))).extBut f.extBut (n3 n (by simp))).extBut g.extBut (n3 TO (by simp))).extBut i.extBut (n3 r (by simp))).extBut m.extBut (n3 TO (by simp))) hv fun h₆ b3 t=>bp ?_)
 have R:dF h₆ TO x y c:=t.extBut _ _ L G;refine az (wpAny_seqItems R rfl ?_);refine az (vp R fun h p u=>?_)
 replace p:dF h TO x y v:=p
 refine az (wpAny_letGo (bp (bp ?_)));refine az (wpAny_seqItems p rfl ?_);refine az (wpAny_newTuple ?_);have b4:∀c o,c∉[z,TO,n,r,B]->s.heap.get? c=some o->h.get? c=some o:=fun c o hc e=>by simp only[List.mem_cons,List.not_mem_nil,or_false,not_or] at hc;obtain⟨c1,c2,c3,c4,c5⟩:=hc;exact u.extBut _ _ c2 (t.extBut _ _ c5 (m.extBut _ _ c2 (i.extBut _ _ c4 (g.extBut _ _ c2 (f.extBut _ _ c3 (d.extBut _ _ c1 e))))))
 have a3:h.objs.size=s.heap.objs.size:=by rw[u.1,t.1,m.1,i.1,g.1,f.1,d.1]
 have a4:fc h z TI TO .ellipsis (.bool false):=u.extBut _ _ C (t.extBut _ _ z3 (m.extBut _ _ C (i.extBut _ _ z2 (g.extBut _ _ C (f.extBut _ _ z1 U)))));have b5:h.IsListIter n l1 (k+1):=((((b1.extBut g.extBut (Ne.symm I)).extBut i.extBut a0).extBut m.extBut (Ne.symm I)).extBut t.extBut a1).extBut u.extBut (Ne.symm I);have b6:h.IsListIter r l2 (k+1):=((b2.extBut m.extBut (Ne.symm J)).extBut t.extBut a2).extBut u.extBut (Ne.symm J);have b7:h.IsListIter B l3 (k+1):=b3.extBut u.extBut (Ne.symm L);have S:z<h.objs.size:=bC a4;show wpAny _ _ (Builtin.SmallTypes.ownedTupleHandOut (.ref z) (.ref h.objs.size) >>= _) _ _ _;refine az ?_;unfold Builtin.SmallTypes.ownedTupleHandOut;have b8:fc (h.push { cls:=.type "tuple",data:=.seq #[x,y,v] }) z TI TO .ellipsis (.bool false):=br _ a4;refine az (wpAny_setField_rec b8 (by simp) fun h₉ X Y=>?_)
 replace X:fc h₉ z TI TO (rawInt h.objs.size) (.bool false):=X
 refine wpAny_setField_rec X (by simp) fun hA M Z=>?_
 replace M:fc hA z TI TO (rawInt h.objs.size) (.bool false):=M
 have up:∀c o,c≠z->h.get? c=some o->hA.get? c=some o:=fun c o c1 e=>Z.extBut _ _ c1 (Y.extBut _ _ c1 (br _ e));have a5:dF hA h.objs.size x y v:=Z.extBut _ _ (Nat.ne_of_gt S) (Y.extBut _ _ (Nat.ne_of_gt S) (Heap.get?_push_size _ rfl));have T:hA.objs.size=h.objs.size+1:=by rw[Z.1,Y.1,Heap.size_push]
 rw[a3] at M a5 T;refine bp ⟨_,rfl,?_⟩;show Q (.ref h.objs.size) _;rw[a3];exact hQ hA M (up _ _ (Ne.symm C) p) (b5.at fun o e=>up _ o (Ne.symm z1) e) (b6.at fun o e=>up _ o (Ne.symm z2) e) (b7.at fun o e=>up _ o (Ne.symm z3) e) a5 T fun c o hc e=>up c o (fun q=>hc (by simp[q])) (b4 c o hc e)
theorem zV{z TI TO T:Addr}{f1:Value}{g:Obj}{Q:Bool->Shared->Prop}(b:f1=.bool false\/f1=.bool true)(a:fc s.heap z TI TO (rawInt T) f1)(h:s.heap.get? T=some g)
  (f:∀c,fc c z TI TO (rawInt T) (.bool true)->Heap.SameBut z s.heap c->Q false { s with heap:=c }):wpAny (model prog w) A (Builtin.SmallTypes.ownedTupleIsFree (.ref z)) Q E s:=by
 unfold Builtin.SmallTypes.ownedTupleIsFree;refine az (wpAny_field a rfl (x:=rawInt T) rfl ?_);show wpAny _ _ (loadIfAlive (Int.toNat T) >>= _) _ _ _;refine az (HX ?_);rw[Int.toNat_natCast,h];show wpAny _ _ (field (.ref z) 1 >>= _) _ _ _;refine az (wpAny_field a rfl (x:=f1) rfl ?_);rcases b with rfl | rfl
 ·show wpAny _ _ (setField (.ref z) 1 (.bool true) >>= _) _ _ _;exact az (wpAny_setField_rec a (by simp) fun i d e=>bp (f i d e))
 ·exact bp (f s.heap a (Heap.SameBut.refl ..))
theorem HZ{z TI TO d g h p q r T:Addr}{k:Nat}{f1:Value}{oT:Obj}{Y Z zs:Array Value}{x y v:Value}{Q:Value->Shared->Prop}
  (nd:[z,TI,TO,d,g,h].Nodup) (G:∀l∈[p,q,r],∀j∈[z,TI,TO,d,g,h],l≠j) (H:f1=.bool false\/f1=.bool true)
  (I:fc s.heap z TI TO (rawInt T) f1) (hT:s.heap.get? T=some oT) (J:dF s.heap TI (.ref d) (.ref g) (.ref h))
  (h1:s.heap.IsListIter d p k) (h2:s.heap.IsListIter g q k) (h3:s.heap.IsListIter h r k) (L:s.heap.IsList p Y) (M:s.heap.IsList q Z) (N:s.heap.IsList r zs)
  (hx:Y[k]? = some x) (hy:Z[k]? = some y) (hv:zs[k]? = some v)
  (hQ:∀m,fc m z TI TO (rawInt T) (.bool true)->m.IsListIter d p (k+1)->m.IsListIter g q (k+1)->m.IsListIter h r (k+1)->dF m s.heap.objs.size x y v->m.objs.size=s.heap.objs.size+1->
   (∀c o,c∉[z,d,g,h]->s.heap.get? c=some o->m.get? c=some o)->Q (.ref s.heap.objs.size) { s with heap:=m }) :
  wpAny (model prog w) A (Builtin.«zip.__next__» ⟨[.ref z],[]⟩) (fun fin s'=>∃v,fin=.done (.ret v)/\Q v s') E s:=by
 simp only[List.nodup_cons,List.mem_cons,List.not_mem_nil,or_false,not_or,not_false_eq_true,and_true,List.nodup_nil] at nd;obtain⟨⟨a1,a2,z1,z2,z3⟩,⟨a0,a3,a4,a5⟩,⟨a6,a7,a8⟩,⟨t,u⟩,B⟩:=nd;have n1:∀j∈[z,TI,TO,d,g,h],p≠j:=G p (by simp);have n2:∀j∈[z,TI,TO,d,g,h],q≠j:=G q (by simp);have O:∀j∈[z,TI,TO,d,g,h],r≠j:=G r (by simp);show wpAny _ _ (field (.ref z) 2 >>= _) _ _ _;refine az (wpAny_field I rfl (x:=.bool false) rfl ?_);show wpAny _ _ (field (.ref z) 3 >>= _) _ _ _;refine az (wpAny_field I rfl (x:=.ref TI) rfl ?_);refine az (wpAny_seqItems J rfl ?_);show wpAny _ _ (Builtin.SmallTypes.ownedTupleIsFree (.ref z) >>= _) _ _ _;refine az (zV H I hT fun h₁ R a=>?_);simp only[Bool.false_eq_true,if_false];refine az ?_;simp only[List.forIn_toArray,List.forIn_cons,List.forIn_nil];refine az (az (wpAny_holding ?_));show wpAny _ _ (Builtin.SmallTypes.nextOf (.ref d) >>= _) _ _ _;refine az (wpAny_nextOf_list_item (h1.extBut a.extBut (Ne.symm z1)) (L.extBut a.extBut (n1 z (by simp))) hx fun h₂ S b=>bp (bp ?_));refine az (az (wpAny_holding ?_));show wpAny _ _ (Builtin.SmallTypes.nextOf (.ref g) >>= _) _ _ _;refine az (wpAny_nextOf_list_item ((h2.extBut a.extBut (Ne.symm z2)).extBut b.extBut (Ne.symm t)) ((M.extBut a.extBut (n2 z (by simp))).extBut b.extBut (n2 d (by simp))) hy fun h₃ U f=>bp (bp ?_));refine az (az (wpAny_holding ?_));show wpAny _ _ (Builtin.SmallTypes.nextOf (.ref h) >>= _) _ _ _;refine az (wpAny_nextOf_list_item (((h3.extBut a.extBut (Ne.symm z3)).extBut b.extBut (Ne.symm u)).extBut f.extBut (Ne.symm B)) (((N.extBut a.extBut (O z (by simp))).extBut b.extBut (O d (by simp))).extBut f.extBut (O g (by simp))) hv fun C X i=>bp (bp (bp ?_)));show wpAny _ _ (newTuple [x,y,v] >>= _) _ _ _;refine az (wpAny_newTuple ?_);refine bp ⟨_,rfl,?_⟩;have n:C.objs.size=s.heap.objs.size:=by rw[i.1,f.1,b.1,a.1]
 show Q (.ref C.objs.size) { s with heap:=C.push { cls:=.type "tuple",data:=.seq #[x,y,v] } };have up:∀c o,c∉[z,d,g,h]->s.heap.get? c=some o->C.get? c=some o:=fun c o D e=>by simp only[List.mem_cons,List.not_mem_nil,or_false,not_or] at D;obtain⟨c1,c2,c3,c4⟩:=D;exact i.extBut _ _ c4 (f.extBut _ _ c3 (b.extBut _ _ c2 (a.extBut _ _ c1 e)))
 rw[n];refine hQ _ (br _ (i.extBut _ _ z3 (f.extBut _ _ z2 (b.extBut _ _ z1 R)))) (((S.extBut f.extBut t).extBut i.extBut u).at fun o e=>br _ e) ((U.extBut i.extBut B).at fun o e=>br _ e)
  (X.at fun o e=>br _ e) ?_ (by rw[Heap.size_push,n]) fun c o D e=>br _ (up c o D e)
 rw[<-n];exact Heap.get?_push_size _ rfl
theorem Ia{z TI TO a f g d l2 l3 T:Addr}{k:Nat}{f1:Value}{y:Obj}{t:Array Value}{Q:Fin->Shared->Prop}(B:A.handled=none)
  (v:[z,TI,TO,a,f,g].Nodup) (C:∀l∈[d,l2,l3],∀j∈[z,TI,TO,a,f,g],l≠j) (h:f1=.bool false\/f1=.bool true)
  (i:fc s.heap z TI TO (rawInt T) f1) (D:s.heap.get? T=some y) (m:dF s.heap TI (.ref a) (.ref f) (.ref g))
  (h1:s.heap.IsListIter a d k) (n:s.heap.IsList d t) (G:t[k]? = none)
  (H:∀p e,(∀c o,c∉[z,a]->s.heap.get? c=some o->p.get? c=some o)->(∃o,p.get? e=some o/\o.cls=.type "StopIteration")->E (.ref e) { s with heap:=p }) :
  wpAny (model prog w) A (Builtin.«zip.__next__» ⟨[.ref z],[]⟩) Q E s:=by
 simp only[List.nodup_cons,List.mem_cons,List.not_mem_nil,or_false,not_or,not_false_eq_true,and_true,List.nodup_nil] at v;obtain⟨⟨I,J,L,z2,z3⟩,⟨u,M,N,O⟩,⟨R,S,U⟩,⟨X,Y⟩,Z⟩:=v;have n1:∀j∈[z,TI,TO,a,f,g],d≠j:=C d (by simp);show wpAny _ _ (field (.ref z) 2 >>= _) _ _ _;refine az (wpAny_field i rfl (x:=.bool false) rfl ?_);show wpAny _ _ (field (.ref z) 3 >>= _) _ _ _;refine az (wpAny_field i rfl (x:=.ref TI) rfl ?_);refine az (wpAny_seqItems m rfl ?_);show wpAny _ _ (Builtin.SmallTypes.ownedTupleIsFree (.ref z) >>= _) _ _ _;refine az (zV h i D fun h₁ a0 b=>?_);simp only[Bool.false_eq_true,if_false];refine az ?_;simp only[List.forIn_toArray,List.forIn_cons,List.forIn_nil];refine az (az (wpAny_holding ?_));show wpAny _ _ (Builtin.SmallTypes.nextOf (.ref a) >>= _) _ _ _;refine az (wpAny_nextOf_list_end B (h1.extBut b.extBut (Ne.symm L)) (n.extBut b.extBut (n1 z (by simp))) G fun h₂ e q he=>?_);refine H h₂ e (fun c o r x=>?_) he;simp only[List.mem_cons,List.not_mem_nil,or_false,not_or] at r;exact q _ _ r.2 (b.extBut _ _ r.1 x)
end
structure Z3 (h:Heap) (z TI TO i1 i2 i3 l1 l2 l3:Addr) (xs ys zs:Array Value) (S:Addr) (i:Nat):Prop where
 zrec:∃(f0 f1:Value),fc h z TI TO f0 f1/\(f1=.bool false\/f1=.bool true)/\((i=0/\f0=.none/\f1=.bool false)\/(0<i/\∃(T:Addr) (oT:Obj),f0=rawInt T/\h.get? T=some oT/\T∉[S,z,TO,i1,i2,i3]))
 ti:dF h TI (.ref i1) (.ref i2) (.ref i3)
 to:∃a b c,dF h TO a b c
 h1:h.IsListIter i1 l1 i
 h2:h.IsListIter i2 l2 i
 h3:h.IsListIter i3 l3 i
 l1:h.IsList l1 xs
 l2:h.IsList l2 ys
 l3:h.IsList l3 zs
def qj(h:Heap)(n:Addr)(b c d:Array Value)(a:List Value):Prop:=
 ∀(j:Nat) (v:Value),a[j]? = some v->∃(T:Addr) (x y u:Value),v=Value.ref T/\n<=T/\dF h T x y u/\b[j]? = some x/\c[j]? = some y/\d[j]? = some u
section
variable{prog:Program}{w:World}{A:Around}{E:Value->Shared->Prop}{s:Shared}
theorem Ib{z TI TO f g h u B C S:Addr}{i:Nat}{R U X:Array Value}{x y v:Value}{Q:Option Value->Shared->Prop}
  (D:[z,TI,TO,f,g,h].Nodup) (Y:∀l∈[u,B,C],∀j∈[z,TI,TO,f,g,h],l≠j) (st:Z3 s.heap z TI TO f g h u B C R U X S i) (hS:S<s.heap.objs.size)
  (hx:R[i]? = some x) (hy:U[i]? = some y) (hv:X[i]? = some v)
  (hQ:∀k,Z3 k z TI TO f g h u B C R U X S (i+1)->dF k s.heap.objs.size x y v->k.objs.size=s.heap.objs.size+1->(∀c o,c∉[z,TO,f,g,h]->s.heap.get? c=some o->k.get? c=some o)->Q (some (.ref s.heap.objs.size)) { s with heap:=k }) :
  wpAny (model prog w) A (pyNext (.ref z)) Q E s:=by
 obtain⟨⟨f0,f1,N,Z,hf⟩,ti,⟨a,b,c,to⟩,h1,h2,h3,m,n,p⟩:=st;have hT:s.TypeIs (.ref z) "zip":=⟨_,N,rfl⟩
 have lt:∀{c o},s.heap.get? c=some o->s.heap.objs.size≠c:=fun e=>Nat.ne_of_gt (bC e);have new:s.heap.objs.size∉[S,z,TO,f,g,h]:=by simp only[List.mem_cons,List.not_mem_nil,or_false,not_or];exact⟨Nat.ne_of_gt hS,lt N,lt to,(by obtain⟨_,e,_⟩:=h1;exact lt e),(by obtain⟨_,e,_⟩:=h2;exact lt e),(by obtain⟨_,e,_⟩:=h3;exact lt e)⟩
 have sub:∀l∈[u,B,C],l∉[z,TO,f,g,h]:=fun l hm z'=>by simp only[List.mem_cons,List.not_mem_nil,or_false] at z';rcases z' with q | q | q | q | q<;>exact Y l hm _ (by simp) q
 have G:TI∉[z,TO,f,g,h]:=by simp only[List.nodup_cons,List.mem_cons,List.not_mem_nil,or_false,not_or,not_false_eq_true,and_true,List.nodup_nil] at D;obtain⟨⟨H,I,z1,z2,z3⟩,⟨r,J,L,M⟩,_⟩:=D;simp only[List.mem_cons,List.not_mem_nil,or_false,not_or];exact⟨Ne.symm H,r,J,L,M⟩
 unfold pyNext;refine az (wpAny_attempt (wpAny_callSpecial?_slot (name:=Str.ofString "__next__") hT F.slot_zip_next (wpAny_call_entry F.slot_zip_next hT F.entry_zip_next ?_ (F.args_zip_next_1 _))));rcases hf with⟨hi,rfl,rfl⟩ | ⟨hi,T,oT,rfl,eT,nT⟩
 ·refine HY D Y N ti to h1 h2 h3 m n p hx hy hv fun k a1 a2 a3 a4 a5 O a7 t=>bp ?_;exact hQ k ⟨⟨_,_,a1,.inl rfl,.inr ⟨Nat.succ_pos _,_,_,rfl,O,new⟩⟩,t _ _ G ti,⟨_,_,_,a2⟩,a3,a4,a5,m.at fun o e=>t _ o (sub u (by simp)) e,n.at fun o e=>t _ o (sub B (by simp)) e,p.at fun o e=>t _ o (sub C (by simp)) e⟩ O a7 t
 ·refine HZ D Y Z N eT ti h1 h2 h3 m n p hx hy hv fun k a1 a3 a4 a5 O a7 t=>bp ?_;have d:∀c o,c∉[z,TO,f,g,h]->s.heap.get? c=some o->k.get? c=some o:=fun c o hc e=>t c o (fun q=>hc (by simp only[List.mem_cons,List.not_mem_nil,or_false] at q ⊢;rcases q with q | q | q | q<;>simp[q])) e;have a0:TO∉[z,f,g,h]:=by simp only[List.nodup_cons,List.mem_cons,List.not_mem_nil,or_false,not_or,not_false_eq_true,and_true,List.nodup_nil] at D;obtain⟨⟨H,I,z1,z2,z3⟩,⟨r,J,L,M⟩,⟨a9,b0,b1⟩,_⟩:=D;simp only[List.mem_cons,List.not_mem_nil,or_false,not_or];exact⟨Ne.symm I,a9,b0,b1⟩
  refine hQ k ⟨⟨_,_,a1,.inr rfl,.inr ⟨Nat.succ_pos _,_,_,rfl,d T oT (fun q=>nT (bY _ q)) eT,nT⟩⟩,d _ _ G ti,⟨a,b,c,t _ _ a0 to⟩,a3,a4,a5,m.at fun o e=>d _ o (sub u (by simp)) e,n.at fun o e=>d _ o (sub B (by simp)) e,p.at fun o e=>d _ o (sub C (by simp)) e⟩ O a7 d
theorem Ie{z TI TO d f g r t u S:Addr}{i:Nat}{n v x:Array Value}{Q:Option Value->Shared->Prop}(y:A.handled=none)
  (U:[z,TI,TO,d,f,g].Nodup) (B:∀l∈[r,t,u],∀j∈[z,TI,TO,d,f,g],l≠j) (st:Z3 s.heap z TI TO d f g r t u n v x S i) (X:0<i) (C:n[i]? = none)
  (D:∀h,(∀c o,c∉[z,d]->s.heap.get? c=some o->h.get? c=some o)->Q none { s with heap:=h }) :
  wpAny (model prog w) A (pyNext (.ref z)) Q E s:=by
 obtain⟨⟨Y,f1,p,k,G⟩,ti,⟨a,b,c,to⟩,h1,h2,h3,m,H,I⟩:=st;have q:s.TypeIs (.ref z) "zip":=⟨_,p,rfl⟩
 rcases G with⟨J,_⟩ | ⟨_,T,Z,rfl,L,nT⟩
 ·omega
 ·unfold pyNext;refine az (wpAny_attempt (wpAny_callSpecial?_slot (name:=Str.ofString "__next__") q F.slot_zip_next
   (wpAny_call_entry F.slot_zip_next q F.entry_zip_next (Ia y U B k p L ti h1 m C fun h e M N=>?_) (F.args_zip_next_1 _))))
  obtain⟨o,O,R⟩:=N;refine az (wpAny_isInstance (T:="StopIteration") (b:=true) ⟨o,O,R⟩ isSubtype_stop ?_);exact bp (D _ M)
end
section
variable{prog:Program}{w:World}{A:Around}{R:Result->Shared->Prop}
theorem Z3.keep{h u:Heap}{z TI TO d f g r s t S:Addr}{v x y:Array Value}{i:Nat}(st:Z3 h z TI TO d f g r s t v x y S i)(B:S∉[z,TI,TO,d,f,g,r,s,t])(k:∀b o,b≠S->h.get? b=some o->u.get? b=some o) :
  Z3 u z TI TO d f g r s t v x y S i:=by
 simp only[List.mem_cons,List.not_mem_nil,or_false,not_or] at B;obtain⟨D,E,G,H,I,J,L,M,N⟩:=B;obtain⟨⟨O,f1,Q,j,l⟩,ti,⟨a,b,c,to⟩,h1,h2,h3,m,n,p⟩:=st;refine⟨⟨O,f1,k _ _ (Ne.symm D) Q,j,?_⟩,k _ _ (Ne.symm E) ti,⟨a,b,c,k _ _ (Ne.symm G) to⟩,h1.at fun o e=>k _ o (Ne.symm H) e,h2.at fun o e=>k _ o (Ne.symm I) e,h3.at fun o e=>k _ o (Ne.symm J) e,m.at fun o e=>k _ o (Ne.symm L) e,n.at fun o e=>k _ o (Ne.symm M) e,p.at fun o e=>k _ o (Ne.symm N) e⟩;rcases l with l | ⟨U,T,X,e,Y,C⟩
 ·exact .inl l
 ·exact .inr ⟨U,T,X,e,k _ _ (fun q=>C (by simp[q])) Y,C⟩
noncomputable abbrev cU(a:Array Value)(v:Value)(c:Nat):Nat:=if (a.push v).size==a.size then c else c+1
theorem Ig{z TI TO p D E l1 l2 l3 S n₀:Addr}{h L M:Array Value}(hh:A.handled=none)
  (nd:[z,TI,TO,p,D,E].Nodup) (hl:∀l∈[l1,l2,l3],∀j∈[z,TI,TO,p,D,E],l≠j) (hS:S∉[z,TI,TO,p,D,E,l1,l2,l3]) (H:∀j∈[S,z,TI,TO,p,D,E],j<n₀)
  (e2:L.size=h.size) (e3:M.size=h.size) (a6:0<h.size) (hn:h.size<=sizeLine) (res:Value) :
  ∀(k i:Nat) (s:Shared) (a:List Value) (c:Nat),h.size - i=k->i<=h.size->Z3 s.heap z TI TO p D E l1 l2 l3 h L M S i->n₀<=s.heap.objs.size->s.heap.get? S=some { cls:=.type "list",dict:=none,data:=.seq a.toArray c,slots:=#[] }->a.length=i->qj s.heap n₀ h L M a->
  (∀n d c',(∀b o,b∉[S,z,TO,p,D,E]->s.heap.get? b=some o->n.get? b=some o)->n.get? S=some { cls:=.type "list",dict:=none,data:=.seq d.toArray c',slots:=#[] }->d.length=h.size->qj n n₀ h L M d->R (.ok (.ret res)) { s with heap:=n })->
  codeAny (model prog w) A (.builtin "list.extend.loop" ⟨[.ref S,.ref z,res],[]⟩) R s:=by
 intro k
 induction k with
 | zero=>
  intro i s a c hk hi st r B f tr hR;have N:i=h.size:=by omega
  refine codeAny_builtin F.entry_extend_loop ?_;rw[Around.under_plainId F.plain_extend_loop _];show wpAny _ A.in1 (pyNext (.ref z) >>= _) _ _ s;have nS:S∉[z,p]:=fun q=>hS (by simp only[List.mem_cons,List.not_mem_nil,or_false] at q ⊢;rcases q with q | q<;>simp[q]);refine az (Ie hh nd hl st (by omega) (by rw[N];exact Array.getElem?_eq_none (bF _)) fun n g=>?_);refine bp (hR n a c (fun b o H e=>g b o (fun q=>H (by simp only[List.mem_cons,List.not_mem_nil,or_false] at q ⊢;rcases q with q | q<;>simp[q])) e) (g S _ nS B) (f.trans N) fun j v I=>?_);obtain⟨T,x,y,u,e,G,t,q⟩:=tr j v I;refine⟨T,x,y,u,e,G,g T _ (fun m=>?_) t,q⟩;simp only[List.mem_cons,List.not_mem_nil,or_false] at m;rcases m with m | m
  ·exact absurd (H z (by simp)) (by rw[<-m];exact Nat.not_lt.mpr G)
  ·exact absurd (H p (by simp)) (by rw[<-m];exact Nat.not_lt.mpr G)
 | succ k ih=>
  intro i s a c hk hi st r B f tr hR;have O:i<h.size:=by omega
  refine codeAny_builtin F.entry_extend_loop ?_;rw[Around.under_plainId F.plain_extend_loop _];show wpAny _ A.in1 (pyNext (.ref z) >>= _) _ _ s;refine az (Ib nd hl st (bC B) (x:=h[i]) (y:=L[i]) (v:=M[i]) (Array.getElem?_eq_getElem O) (Array.getElem?_eq_getElem (by omega)) (Array.getElem?_eq_getElem (by omega)) fun n a0 a1 Q g=>?_);have nS:S∉[z,TO,p,D,E]:=fun q=>hS (by simp only[List.mem_cons,List.not_mem_nil,or_false] at q ⊢;rcases q with q | q | q | q | q<;>simp[q]);have U:=g S _ nS B;have ha:a.toArray.size=i:=by rw[List.size_toArray];exact f
  show wpAny _ A.in1 (updateSeq S (·.push (.ref s.heap.objs.size)) >>= _) _ _ _;refine az ?_;have old:∀b o,b≠S->n.get? b=some o->(n.update S (Obj.mapSeq (·.push (.ref s.heap.objs.size)))).get? b=some o:=fun b o H e=>(Heap.get?_update_other _ _ (Ne.symm H)).trans e;have big:∀T,n₀<=T->T∉[S,z,TO,p,D,E]:=fun T G m=>by simp only[List.mem_cons,List.not_mem_nil,or_false] at m;rcases m with m | m | m | m | m | m<;>exact absurd (H T (by rw[m];simp)) (Nat.not_lt.mpr G)
  refine wpAny_updateSeq U rfl (bp ⟨plainId_quiet F.plain_extend_loop _,ih (i+1) _ (a++[.ref s.heap.objs.size]) (cU a.toArray (.ref s.heap.objs.size) c) (by omega) O (a0.keep hS old) ?_ ?_ (by rw[List.length_append,f];rfl) ?_ fun a2 d c' X Y a3 Z=>?_⟩)
   (by rw[ha];omega) (by show(a.toArray.push _).size<=sizeLine+1;rw[Array.size_push,ha];omega)
  ·show n₀<=(n.update S (Obj.mapSeq (·.push (.ref s.heap.objs.size)))).objs.size;rw[show(n.update S (Obj.mapSeq (·.push (Value.ref s.heap.objs.size)))).objs.size=n.objs.size from(Heap.SameBut.update ..).1,Q];exact Nat.le_succ_of_le r
  ·have q:=Heap.get?_update_self (Obj.mapSeq (·.push (Value.ref s.heap.objs.size))) U rfl;have e:a.toArray.push (Value.ref s.heap.objs.size)=(a++[Value.ref s.heap.objs.size]).toArray:=by simp
   have q':(n.update S (Obj.mapSeq (·.push (Value.ref s.heap.objs.size)))).get? S=some { cls:=.type "list",dict:=none,data:=.seq (a.toArray.push (Value.ref s.heap.objs.size)) (cU a.toArray (Value.ref s.heap.objs.size) c),slots:=#[] }:=q;rw[e] at q';exact q'
  ·intro j v I
   by_cases a4:j<a.length
   ·rw[List.getElem?_append_left a4] at I;obtain⟨T,x,y,u,e,G,t,q⟩:=tr j v I;have nb:=big T G;exact⟨T,x,y,u,e,G,old T _ (fun C=>nb (by simp[C])) (g T _ (fun C=>nb (bY _ C)) t),q⟩
   ·have a5:j=a.length:=by have:=(List.getElem?_eq_some_iff.mp I).1;rw[List.length_append,List.length_singleton] at this;omega
    subst a5;rw[List.getElem?_append_right (bF _),Nat.sub_self] at I;cases I;have nb:=big s.heap.objs.size r;refine⟨s.heap.objs.size,h[i],L[i],M[i],rfl,r,old _ _ (fun C=>nb (by simp[C])) a1,?_,?_,?_⟩<;>(rw[f];exact Array.getElem?_eq_getElem (by omega))
  ·refine hR a2 d c' (fun b o J e=>X b o J (old b o (fun C=>J (by simp[C])) (g b o (fun C=>J (bY _ C)) e))) Y a3 Z
end
namespace F3
theorem zip_no_len:typeLookup (.type "zip") "__len__" = pure none:=by rw[typeLookup_type,builtinLookup_eq_fast];kernel_rfl
theorem zip_no_hint:typeLookup (.type "zip") "__length_hint__" = pure none:=by rw[typeLookup_type,builtinLookup_eq_fast];kernel_rfl
theorem typeCall_zip_3(a b c:Value):checkTypeCall "zip" ⟨[a,b,c],[]⟩=pure ():=by kernel_rfl
theorem newCall_zip_3(a b c:Value):checkBuiltinCall "zip.__new__" ⟨[.type "zip",a,b,c],[]⟩=pure ():=by kernel_rfl
theorem args_object_init_4(a b c d:Value):argsOk "object.__init__" ⟨[a,b,c,d],[]⟩:=by unfold argsOk;rw[signature?_of (id:="object.__init__") (n:=['_','_','t','i','n','i','_','_']) (o:=['t','c','e','j','b','o']) (by kernel_rfl) F.owner_object];kernel_rfl
end F3
noncomputable abbrev zA(h:Heap)(a:Addr):Heap:=h.push { cls:=.type "list_iterator",data:=.fields #[.ref a,.int 0 0] }
noncomputable abbrev zB(h:Heap)(a b:Addr):Heap:=(zA h a).push { cls:=.type "list_iterator",data:=.fields #[.ref b,.int 0 0] }
noncomputable abbrev zC(h:Heap)(a b c:Addr):Heap:=(zB h a b).push { cls:=.type "list_iterator",data:=.fields #[.ref c,.int 0 0] }
noncomputable abbrev zD(h:Heap)(a b c:Addr):Heap:=(zC h a b c).push { cls:=.type "tuple",data:=.seq #[.ref h.objs.size,.ref (zA h a).objs.size,.ref (zB h a b).objs.size] }
noncomputable abbrev zE(h:Heap)(a b c:Addr):Heap:=(zD h a b c).push { cls:=.type "tuple",data:=.seq #[.none,.none,.none] }
noncomputable abbrev zF(h:Heap)(a b c:Addr):Heap:=(zE h a b c).push { cls:=.type "zip",data:=.fields #[.none,.bool false,.bool false,.ref (zC h a b c).objs.size,.ref (zD h a b c).objs.size] }
theorem Ih(a b c:Addr)(o p q:Array Value) :
  Meets (Builtin.«zip.__new__» ⟨[.type "zip",.ref a,.ref b,.ref c],[]⟩) (fun _ R s=>s.heap.IsList a o/\s.heap.IsList b p/\s.heap.IsList c q/\
   R (.ok (.ret (.ref (zE s.heap a b c).objs.size))) { s with heap:=zF s.heap a b c }):=
 .of_wp fun t w A R s h=>by
  obtain⟨e,g,d,f,os⟩:=s;obtain⟨i,j,k,h⟩:=h;have r:=sub_zip;have l:Heap.IsList (Shared.heap ⟨e,g,d,f,os⟩) a o:=i;have m:Heap.IsList (Shared.heap ⟨e.push { cls:=.type "list_iterator",data:=.fields #[.ref a,.int 0 0] },g,d,f,os⟩) b p:=Heap.IsList.push j _;have n:Heap.IsList (Shared.heap ⟨(e.push { cls:=.type "list_iterator",data:=.fields #[.ref a,.int 0 0] }).push { cls:=.type "list_iterator",data:=.fields #[.ref b,.int 0 0] },g,d,f,os⟩) c q:=Heap.IsList.push (Heap.IsList.push k _) _
  wp_walk using wpAny_pyIter_list l,wpAny_pyIter_list m,wpAny_pyIter_list n
  exact⟨_,rfl,h⟩
section
variable{prog:Program}{w:World}{A:Around}{E:Value->Shared->Prop}{s:Shared}
theorem Ii{a b d:Addr}{q r t:Array Value}{Q:Value->Shared->Prop}(f:s.heap.IsList a q)(g:s.heap.IsList b r)(i:s.heap.IsList d t)
  (h:∀e,fc e (s.heap.objs.size+5) (s.heap.objs.size+3) (s.heap.objs.size+4) .none (.bool false)->dF e (s.heap.objs.size+3) (.ref s.heap.objs.size) (.ref (s.heap.objs.size+1)) (.ref (s.heap.objs.size+2))->
   dF e (s.heap.objs.size+4) .none .none .none->e.IsListIter s.heap.objs.size a 0->e.IsListIter (s.heap.objs.size+1) b 0->e.IsListIter (s.heap.objs.size+2) d 0->e.objs.size=s.heap.objs.size+6->
   (∀c o,s.heap.get? c=some o->e.get? c=some o)->Q (.ref (s.heap.objs.size+5)) { s with heap:=e }) :
  wpAny (model prog w) A (call (.type "zip") [.ref a,.ref b,.ref d]) Q E s:=by
 refine callType_new F.called_zip (by decide) (F3.typeCall_zip_3 _ _ _) (F3.newCall_zip_3 _ _ _) (fun obj=>F3.args_object_init_4 obj _ _ _) F.entry_zip_new
  (Ih a b d q r t) ⟨f,g,i,?_⟩
 have j:(zA s.heap a).objs.size=s.heap.objs.size+1:=Heap.size_push ..;have k:(zB s.heap a b).objs.size=s.heap.objs.size+2:=by rw[Heap.size_push,j]
 have l:(zC s.heap a b d).objs.size=s.heap.objs.size+3:=by rw[Heap.size_push,k]
 have m:(zD s.heap a b d).objs.size=s.heap.objs.size+4:=by rw[Heap.size_push,l]
 have n:(zE s.heap a b d).objs.size=s.heap.objs.size+5:=by rw[Heap.size_push,m]
 have y:(zF s.heap a b d).objs.size=s.heap.objs.size+6:=by rw[Heap.size_push,n]
 have p:(zF s.heap a b d).get? (zE s.heap a b d).objs.size=some _:=Heap.get?_push_size _ rfl;have u:(zF s.heap a b d).get? (zD s.heap a b d).objs.size=some _:=br _ (Heap.get?_push_size _ rfl);have v:(zF s.heap a b d).get? (zC s.heap a b d).objs.size=some _:=br _ (br _ (Heap.get?_push_size _ rfl));have g3:(zF s.heap a b d).get? (zB s.heap a b).objs.size=some _:=br _ (br _ (br _ (Heap.get?_push_size _ rfl)));have g2:(zF s.heap a b d).get? (zA s.heap a).objs.size=some _:=br _ (br _ (br _ (br _ (Heap.get?_push_size _ rfl))));have g1:(zF s.heap a b d).get? s.heap.objs.size=some _:=br _ (br _ (br _ (br _ (br _ (Heap.get?_push_size _ rfl)))));show _/\_;rw[l,m,n] at p;rw[j,k,l] at v;rw[m] at u;rw[k] at g3;rw[j] at g2;rw[n];exact⟨⟨_,p,rfl⟩,h _ p v u ⟨_,g1,rfl,rfl⟩ ⟨_,g2,rfl,rfl⟩ ⟨_,g3,rfl,rfl⟩ y fun c o x=>
  br _ (br _ (br _ (br _ (br _ (br _ x)))))⟩
theorem Ij{z TI TO k n p L M N:Addr}{g S T:Array Value}{Q:Value->Shared->Prop}(hh:A.handled=none)
  (nd:[z,TI,TO,k,n,p].Nodup) (hl:∀l∈[L,M,N],∀j∈[z,TI,TO,k,n,p],l≠j) (x:∀j∈[z,TI,TO,k,n,p,L,M,N],j<s.heap.objs.size)
  (y:fc s.heap z TI TO .none (.bool false)) (ti:dF s.heap TI (.ref k) (.ref n) (.ref p)) (to:dF s.heap TO .none .none .none)
  (h1:s.heap.IsListIter k L 0) (h2:s.heap.IsListIter n M 0) (h3:s.heap.IsListIter p N 0) (U:s.heap.IsList L g) (X:s.heap.IsList M S) (Y:s.heap.IsList N T)
  (e2:S.size=g.size) (e3:T.size=g.size) (B:0<g.size) (hn:g.size<=sizeLine)
  (hQ:∀f r c,(∀b o,b∉[z,TO,k,n,p]->s.heap.get? b=some o->f.get? b=some o)->f.get? s.heap.objs.size=some { cls:=.type "list",dict:=none,data:=.seq r.toArray c,slots:=#[] }->r.length=g.size->qj f (s.heap.objs.size+1) g S T r->
   Q (.ref s.heap.objs.size) { s with heap:=f }):wpAny (model prog w) A (call (.type "list") [.ref z]) Q E s:=by
 have C:s.heap.objs.size∉[z,TI,TO,k,n,p,L,M,N]:=fun hm=>Nat.lt_irrefl _ (x _ hm);have Z:s.heap.objs.size≠z:=fun e=>C (by simp[e]);refine callType_codes (Q₁:=fun obj s₁=>obj=.ref s.heap.objs.size/\s₁ = { s with heap:=s.heap.push { cls:=.type "list",data:=.seq #[] } }) F.called_list (F.typeCall_list_1 _) F.entry_list_init
  (code_list_new _ ⟨rfl,rfl⟩) fun obj s₁ h₁=>?_
 obtain⟨rfl,rfl⟩:=h₁;have O:(s.heap.push { cls:=.type "list",data:=.seq #[] }).get? s.heap.objs.size=some { cls:=.type "list",data:=.seq #[] }:=Heap.get?_push_size _ rfl;have t:∀f,fc f z TI TO .none (.bool false)->Shared.TypeIs { s with heap:=f } (.ref z) "zip":=fun f q=>⟨_,q,rfl⟩
 refine⟨⟨_,O,rfl⟩,F.args_list_init_2 _ _,?_⟩;have pu:∀b o,s.heap.get? b=some o->(s.heap.push { cls:=.type "list",data:=.seq #[] }).get? b=some o:=fun b o e=>br _ e;show wpAny _ A.in1.in1 (do let old <-Builtin.List.listItems (.ref s.heap.objs.size);Builtin.List.listUpdate (.ref s.heap.objs.size) (fun _=>#[]);letGo old.toList.reverse;Builtin.List.listExtendWith (.ref s.heap.objs.size) (.ref z) .none) _ _ _;refine az ?_;unfold Builtin.List.listItems;refine az (wpAny_seqItems O rfl (bp ?_));show wpAny _ _ (updateSeq s.heap.objs.size (fun _=>#[]) >>= fun _=>letGo (#[]:Array Value).toList.reverse >>= fun _=>Builtin.List.listExtendWith (.ref s.heap.objs.size) (.ref z) .none) _ _ _;refine az (wpAny_updateSeq O rfl ?_);have u:=Heap.get?_update_self (Obj.mapSeq (fun _=>(#[]:Array Value))) O rfl;refine az (wpAny_letGo ?_);generalize D:(s.heap.push { cls:=.type "list",data:=.seq #[] }).update s.heap.objs.size (Obj.mapSeq (fun _=>(#[]:Array Value)))=i at u ⊢;have d:∀b o,s.heap.get? b=some o->i.get? b=some o:=fun b o e=>by rw[<-D];exact(Heap.get?_update_other _ _ (Nat.ne_of_gt (bC e))).trans (pu b o e)
 have Dq:i.objs.size=s.heap.objs.size+1:=by rw[<-D,show((s.heap.push { cls:=.type "list",data:=.seq #[] }).update s.heap.objs.size (Obj.mapSeq (fun _=>(#[]:Array Value)))).objs.size=(s.heap.push { cls:=.type "list",data:=.seq #[] }).objs.size from(Heap.SameBut.update ..).1,Heap.size_push]
 unfold Builtin.List.listExtendWith;refine az (wpAny_typeOf (t _ (d _ _ y)) ?_);have g1:Builtin.List.listSameRef (.ref s.heap.objs.size) (.ref z)=false:=by simp[Builtin.List.listSameRef,Z]
 have g2:(Value.type "zip"==Value.type "list")=false:=by decide
 have g3:(Value.type "zip"==Value.type "tuple")=false:=by decide
 simp only[g1,g2,g3,Bool.or_false,Bool.false_eq_true,if_false];refine az (wpAny_pyIter_zip (s:={ s with heap:=i }) (d _ _ y) ?_);refine az (wpAny_holding ?_);unfold Builtin.List.listLengthHint;refine az (wpAny_specialOf (t _ (d _ _ y)) F3.zip_no_len ?_);show wpAny _ _ (specialOf (Value.ref z) (Str.ofString "__length_hint__") >>= _) _ _ _;refine az (wpAny_specialOf (t _ (d _ _ y)) F3.zip_no_hint ?_);refine bp ?_;show wpAny _ _ (rule "list.extend.makes-room" >>= fun _=>Builtin.List.listTouch (.ref s.heap.objs.size) >>= fun _=>
  again (.builtin "list.extend.loop" ⟨[.ref s.heap.objs.size,.ref z,.none],[]⟩)) _ _ _
 refine az (wpAny_rule ?_);refine az ?_;show wpAny _ _ (updateSeq s.heap.objs.size (·.push .none) >>= fun _=>updateSeq s.heap.objs.size (·.pop)) _ _ _;refine az (wpAny_updateSeq u rfl ?_);have G:=Heap.get?_update_self (Obj.mapSeq (·.push Value.none)) u rfl;refine wpAny_updateSeq (hz:=by seq_fits) G rfl ?_;have H:=Heap.get?_update_self (Obj.mapSeq (·.pop)) G rfl;generalize I:(i.update s.heap.objs.size (Obj.mapSeq (·.push Value.none))).update s.heap.objs.size (Obj.mapSeq (·.pop))=H2 at H ⊢;have a:∀b o,s.heap.get? b=some o->H2.get? b=some o:=fun b o e=>by rw[<-I];exact(Heap.get?_update_other _ _ (Nat.ne_of_gt (bC e))).trans ((Heap.get?_update_other _ _ (Nat.ne_of_gt (bC e))).trans (d b o e))
 have Dr:H2.objs.size=s.heap.objs.size+1:=by
  rw[<-I,show((i.update s.heap.objs.size (Obj.mapSeq (·.push Value.none))).update s.heap.objs.size (Obj.mapSeq (·.pop))).objs.size=(i.update s.heap.objs.size (Obj.mapSeq (·.push Value.none))).objs.size from(Heap.SameBut.update ..).1,
   show(i.update s.heap.objs.size (Obj.mapSeq (·.push Value.none))).objs.size=i.objs.size from(Heap.SameBut.update ..).1,Dq]
 refine bp ⟨plainId_quiet F.plain_extend_loop _,Ig (A:=A.in1) (n₀:=s.heap.objs.size+1) (show A.in1.handled=none from hh) nd hl C (fun j R=>?_) e2 e3 B hn _ g.size 0 _ [] _ rfl (Nat.zero_le _)
  ⟨⟨_,_,a _ _ y,.inl rfl,.inl ⟨rfl,rfl,rfl⟩⟩,a _ _ ti,⟨_,_,_,a _ _ to⟩,h1.at fun o e=>a _ o e,h2.at fun o e=>a _ o e,h3.at fun o e=>a _ o e,U.at fun o e=>a _ o e,X.at fun o e=>a _ o e,Y.at fun o e=>a _ o e⟩
  (Nat.le_of_eq Dr.symm) H rfl (fun j v h=>by simp at h) fun f J c' a0 a1 a2 a3=>?_⟩
 ·rcases List.mem_cons.mp R with rfl | R
  ·exact Nat.lt_succ_self _
  ·refine Nat.lt_succ_of_lt (x j ?_);simp only[List.mem_cons,List.not_mem_nil,or_false] at R ⊢;rcases R with q | q | q | q | q | q<;>simp[q]
 ·refine⟨rfl,hQ f J c' (fun b o hb e=>a0 b o (fun m=>?_) (a b o e)) a1 a2 a3⟩;rcases List.mem_cons.mp m with q | q
  ·exact absurd (bC e) (by rw[q];exact Nat.lt_irrefl _)
  ·exact hb q
end
end L2
namespace L2
open PySem PySem.Spec PyProof.Rows
noncomputable def cJ:List PyData->Bool
 | []=>true
 | .tuple _::_=>true
 | _::ds=>!ds.isEmpty&&cJ ds
def mi(H:Hp)(a:Addr)(b:List V)(c:List PyData):Prop:=H a=some (.tup b)\/(∃o,H a=some (.frz o (.tup b)))/\cJ c=true
theorem mi.mono{H b:Hp}{a:Addr}{c:List V}{d:List PyData}(s:bR H b)(h:mi H a c d):mi b a c d:=h.imp (fun e=>s _ _ e) fun⟨⟨o,e⟩,k⟩=>⟨⟨o,s _ _ e⟩,k⟩
theorem mi.rd{H:Hp}{a:Addr}{b:List V}{c:List PyData}(h:mi H a b c):Rd H a (.tup b):=h.imp id fun z=>z.1
mutual
inductive DV (H:Hp):V->PyData->Prop where
 | non:DV H .non .none
 | bl (b:Bool):DV H (.bl b) (.bool b)
 | int (i:Int):DV H (.int i) (.int i)
 | str (x:Str):DV H (.str x) (.str x)
 | lst {a:Addr}{xs:List V}{ds:List PyData}:H a=some (.lst xs)->aK H xs ds->DV H (.ref a) (.list ds)
 | tup {a:Addr}{xs:List V}{ds:List PyData}:mi H a xs ds->aK H xs ds->DV H (.ref a) (.tuple ds)
inductive aK (H:Hp):List V->List PyData->Prop where
 | nil:aK H [] []
 | cons {x:V}{xs:List V}{d:PyData}{ds:List PyData}:DV H x d->aK H xs ds->aK H (x::xs) (d::ds)
end
section
variable{H H':Hp}
mutual
theorem DV.mono(s:bR H H'):∀{v:V}{d:PyData},DV H v d->DV H' v d
 | _,_,.non=>.non
 | _,_,.bl b=>.bl b
 | _,_,.int i=>.int i
 | _,_,.str x=>.str x
 | _,_,.lst h r=>.lst (s _ _ h) (aK.mono s r)
 | _,_,.tup h r=>.tup (h.mono s) (aK.mono s r)
theorem aK.mono(s:bR H H'):∀{vs:List V}{ds:List PyData},aK H vs ds->aK H' vs ds
 | _,_,.nil=>.nil
 | _,_,.cons h r=>.cons (DV.mono s h) (aK.mono s r)
end
theorem aK.length:∀{a:List V}{b:List PyData},aK H a b->a.length=b.length
 | _,_,.nil=>rfl
 | _,_,.cons _ r=>congrArg (·+1) r.length
theorem aK.append:∀{a b:List V}{d c:List PyData},aK H a d->aK H b c->aK H (a++b) (d++c)
 | _,_,_,_,.nil,s=>s
 | _,_,_,_,.cons h r,s=>.cons h (r.append s)
theorem aK.get:∀{a:List V}{b:List PyData}{i:Nat}{d:PyData},aK H a b->b[i]? = some d->∃v,a[i]? = some v/\DV H v d
 | _,_,_,_,.nil,e=>by simp at e
 | _,_,0,_,.cons h _,e=>by simp at e;subst e;exact⟨_,rfl,h⟩
 | _,_,i+1,d,.cons _ r,e=>by obtain⟨v,h1,h2⟩:=r.get (i:=i) (d:=d) (by simpa using e);exact⟨v,by simpa using h1,h2⟩
theorem aK.get':∀{a:List V}{b:List PyData}{i:Nat}{v:V},aK H a b->a[i]? = some v->∃d,b[i]? = some d/\DV H v d
 | _,_,_,_,.nil,e=>by simp at e
 | _,_,0,_,.cons h _,e=>by simp at e;subst e;exact⟨_,rfl,h⟩
 | _,_,i+1,d,.cons _ r,e=>by obtain⟨v,h1,h2⟩:=r.get' (i:=i) (v:=d) (by simpa using e);exact⟨v,by simpa using h1,h2⟩
theorem aK.drop:∀{a:List V}{b:List PyData}(n:Nat),aK H a b->aK H (a.drop n) (b.drop n)
 | _,_,0,r=>r
 | _,_,_+1,.nil=>.nil
 | _,_,n+1,.cons _ r=>r.drop n
theorem bN{a:Addr}{o:HO}(h:H a=none):bR H (aN H a o):=fun b u e=>by rw[bw (gT e h)];exact e
theorem DV.tup_inv{v:V}{c:List PyData}(h:DV H v (.tuple c)):∃a b,v=.ref a/\Rd H a (.tup b)/\aK H b c:=by cases h with | tup h r=>exact⟨_,_,rfl,h.rd,r⟩
theorem DV.tup_invK{v:V}{b:List PyData}(h:DV H v (.tuple b))(d:cJ b=false):∃a c,v=.ref a/\H a=some (.tup c)/\aK H c b:=by cases h with | tup h r=>exact⟨_,_,rfl,h.elim id (fun z=>by rw[d] at z;cases z.2),r⟩
theorem DV.lst_inv{v:V}{c:List PyData}(h:DV H v (.list c)):∃a b,v=.ref a/\H a=some (.lst b)/\aK H b c:=by cases h with | lst h r=>exact⟨_,_,rfl,h,r⟩
theorem DV.int_inv{v:V}{i:Int}(h:DV H v (.int i)):v=.int i:=by cases h;rfl
theorem DV.str_inv{v:V}{x:Str}(h:DV H v (.str x)):v=.str x:=by cases h;rfl
theorem DV.bl_inv{v:V}{b:Bool}(h:DV H v (.bool b)):v=.bl b:=by cases h;rfl
theorem DV.non_inv{v:V}(h:DV H v .none):v=.non:=by cases h;rfl
end
section
variable{X:Cx}{pins:List (Addr×Obj)}{Y:St}{H:Hp}{s:Shared}
mutual
theorem Inv.reads(I:Inv X pins Y H s):∀{v:V}{d:PyData}{u:Value},DV H v d->bj v u->∃as,Reads s.heap u d as
 | _,_,_,.non,r=>by cases r;exact⟨_,.none⟩
 | _,_,_,.bl b,r=>by cases r;exact⟨_,.bool b⟩
 | _,_,_,.int i,r=>by obtain⟨t,rfl⟩:=r;exact⟨_,.int i t⟩
 | _,_,_,.str x,r=>by obtain⟨t,rfl⟩:=r;exact⟨_,.str x t⟩
 | _,_,_,.lst h q,r=>by cases r;obtain⟨_,its,n,rv,e⟩:=I.hok _ _ h;obtain⟨as,z⟩:=I.readsAll q rv;exact⟨_,reads_list_at e rfl rfl (by simpa using z)⟩
 | _,_,_,.tup h q,r=>by cases r;obtain⟨_,its,rv,o,e,c,n,d⟩:=h.rd.ok I.hok;obtain⟨as,z⟩:=I.readsAll q rv;exact⟨_,reads_tuple_at e c d (by simpa using z)⟩
theorem Inv.readsAll(I:Inv X pins Y H s):∀{vs:List V}{ds:List PyData}{us:List Value},aK H vs ds->be vs us->∃as,ReadsAll s.heap us ds as
 | _,_,_,.nil,.nil=>⟨_,.nil⟩
 | _,_,_,.cons h q,.cons r rr=>by obtain⟨as,z⟩:=I.reads h r;obtain⟨bs,z'⟩:=I.readsAll q rr;exact⟨_,.cons z z'⟩
end
end
section
variable{X:Cx}
noncomputable def vr(neg:Bool):R2:=fun x y H Q=>∃d e,DV H x d/\DV H y e/\SeqAt.shaped d=true/\SeqAt.shaped e=true/\Q (.bl (PyData.eqv d e != neg)) H
theorem zW(b:X.A.units+64<cLine):cD X (compareOp .Eq) (vr false):=by intro a s Y H x y v u Q I c f h;obtain⟨d,e,h1,h2,h3,g,q⟩:=h;obtain⟨as,i⟩:=I.reads h1 c;obtain⟨bs,j⟩:=I.reads h2 f;exact eq_dataH i j h3 g b ⟨_,H,I,by show Value.bool (PyData.eqv d e)=Value.bool (PyData.eqv d e != false);rw[Bool.bne_false],q⟩
theorem Ik(b:X.A.units+64<cLine):cD X (compareOp .NotEq) (vr true):=by intro a s Y H x y v u Q I c f h;obtain⟨d,e,h1,h2,h3,g,q⟩:=h;obtain⟨as,i⟩:=I.reads h1 c;obtain⟨bs,j⟩:=I.reads h2 f;exact ne_dataH i j h3 g b ⟨_,H,I,by show Value.bool (!PyData.eqv d e)=Value.bool (PyData.eqv d e != true);rw[Bool.bne_true],q⟩
@[simp] noncomputable def vt:PyData->String
 | .none=>"NoneType"
 | .bool _=>"bool"
 | .int _=>"int"
 | .str _=>"str"
 | .list _=>"list"
 | .tuple _=>"tuple"
 | .dict _=>"dict"
noncomputable def Il:List V->Hp->VK->Prop:=fun a H Q=>∃x d n b,a=[x,.ty n]/\DV H x d/\(∀K:Frag,kitOne K (.type (vt d)) (.type n)=some b)/\Q (.bl b) H
theorem Im:gj X (.builtin "isinstance") Il:=by
 intro g s Y H k m Q I r h;obtain⟨x,d,n,b,rfl,hd,e,q⟩:=h;obtain⟨u,w,rfl,f,l⟩:=gW r;cases l;have fin:∀j,EP X g Y Q (.bool b) { s with toks:=j }:=fun j=>⟨.bl b,H,I.tok j,rfl,q⟩
 cases hd with
 | non=>exact nI I f .non (e _) fin
 | bl c=>exact nI I f (.bl c) (e _) fin
 | int i=>exact nI I f (.int i) (e _) fin
 | str z=>exact nI I f (.str z) (e _) fin
 | lst h r=>exact nI I f (.lst h) (e _) fin
 | @tup a k ds h r=>cases(show u=Value.ref a from f);obtain⟨_,_,_,p⟩:=h.rd.ok I.hok;obtain⟨o,h1,h2,_⟩:=p;exact kia_one PySem.W.kitx_tuple I.kIn ⟨o,h1,h2⟩ (e _) (fun z=>nomatch z) fin
end
end L2
namespace L2.L3
open PySem PySem.Spec PyProof.Rows
noncomputable def aw(O:List Addr)(H:Hp):Hp:=fun b=>if b∈O then none else H b
section
variable{O O':List Addr}{H H' H1 H2:Hp}
theorem gk{b:Addr}{o:HO}(h:H b=some o)(n:b∉O):aw O H b=some o:=by unfold aw;rw[if_neg n];exact h
theorem cK{b:Addr}{o:HO}(h:aw O H b=some o):H b=some o/\b∉O:=by
 unfold aw at h
 by_cases e:b∈O
 ·rw[if_pos e] at h;cases h
 ·rw[if_neg e] at h;exact⟨h,e⟩
theorem iq{a:Addr}{u:HO}(h:Rd (aw O H) a u):Rd H a u/\a∉O:=by
 rcases h with h | ⟨o,h⟩
 ·obtain⟨e,n⟩:=cK h;exact⟨.inl e,n⟩
 ·obtain⟨e,n⟩:=cK h;exact⟨.inr ⟨o,e⟩,n⟩
theorem nL:bR (aw O H) H:=fun b o h=>(cK h).1
structure aL (O:List Addr) (H:Hp) (O':List Addr) (H':Hp):Prop where
 keep:∀b o,b∉O->H b=some o->H' b=some o
 new:∀a∈O',a∈O\/H a=none
theorem aL.refl:aL O H O H:=⟨fun _ _ _ h=>h,fun _ h=>.inl h⟩
theorem aL.trans{f g i:List Addr}{j:Hp}(a:aL f H1 g H2)(b:aL g H2 i j):aL f H1 i j:=by
 have k:∀c o,c∉f->H1 c=some o->c∉g:=fun c o d e z=>(a.new c z).elim d fun n=>by rw[n] at e;cases e
 refine⟨fun c o d e=>b.keep c o (k c o d e) (a.keep c o d e),fun c h=>?_⟩
 by_cases d:c∈f
 ·exact .inl d
 ·refine .inr ?_;cases e:H1 c with
  | none=>rfl
  | some o=>
   rcases b.new c h with z | z
   ·exact absurd z (k c o d e)
   ·rw[a.keep c o d e] at z;cases z
theorem aL.same(s:bR H H'):aL O H O H':=⟨fun b o _ e=>s b o e,fun _ h=>.inl h⟩
theorem aL.hid(s:aL O H O' H'):bR (aw O H) (aw O' H'):=fun b o e=>by
 obtain⟨a,n⟩:=cK e;refine gk (s.keep b o n a) fun z=>?_;rcases s.new b z with q | q
 ·exact n q
 ·rw[q] at a;cases a
theorem jg(s:bR H H'):bR (aw O H) (aw O H'):=(aL.same s).hid
theorem nM(s:∀a∈O',a∈O):bR (aw O H) (aw O' H):=fun b o e=>by obtain⟨c,n⟩:=cK e;exact gk c fun z=>n (s b z)
end
inductive Fl where
 | d (x:PyData) | l (ds:List PyData) | m (tk:Bool) (kvs:List (PyData×PyData))
inductive Bx where
 | l (ds:List PyData) | m (tk:Bool) (kvs:List (PyData×PyData)) | o (C:Addr) (fs:List (Str×Fl)) | sd (fs:List (Str×Fl)) | ll (xs:List (List PyData)) | pr (C:Addr) (fs:List (Str×Fl)) (d:PyData)
inductive ai where
 | dat (d:PyData)
 | own (io:Bool) (b:Bx)
 | scr (ns:List Int)
 | exc (c:Str)
 | vw (b:Bx)
noncomputable abbrev ak:=List (Option ai)
structure Fx where
 H₀:Hp
 A₀:List Addr
 O₀:List Addr
 I₀:Nat->Addr
def ir(K:Frag)(H:Hp)(a:Addr)(c:List Int):Prop:=c.length<=63/\((∃o,H a=some (.frz o (.lst (c.map V.int))))\/
 ∃(o:Obj) (b:Array Value) (n:Nat),K.lookup a=some o/\o.cls=.type "list"/\o.dict=none/\o.data=.seq b n/\b.size<=sizeLine/\be (c.map V.int) b.toList)
theorem ir.sq{K:Frag}{H:Hp}{a:Addr}{b:List Int}(h:ir K H a b):df K H a (b.map V.int):=h.2.elim (fun⟨o,e⟩=>.inl (.inr ⟨o,e⟩)) .inr
theorem ir.mono{K:Frag}{H b:Hp}{a:Addr}{c:List Int}(h:ir K H a c)(k:∀o u,H a=some (.frz o u)->b a=some (.frz o u)):ir K b a c:=⟨h.1,h.2.imp (fun⟨o,e⟩=>⟨o,k _ _ e⟩) id⟩
def Io(K:Frag)(a:Addr)(c:Str)(h:Heap):Prop:=∃C o,nsIn K mainGlobals c=some (some (.ref C))/\h.get? a=some o/\o.cls=.ref C
noncomputable def gC:ba->PyData
 | .inl i=>.int i
 | .inr x=>.str x
noncomputable def qk(a:List ba):PyData:=.tuple (a.map gC)
noncomputable def hI(G H:Hp)(a:Addr):Bool->List (PyData×PyData)->Prop
 | false,b=>∃c:List (ba×V),H a=some (.dK c)/\Paired (fun(p:ba×V) (q:PyData×PyData)=>gC p.1=q.1/\DV G p.2 q.2) c b
 | true,b=>∃c:List (List ba×V),H a=some (.dT c)/\Paired (fun(p:List ba×V) (q:PyData×PyData)=>qk p.1=q.1/\DV G p.2 q.2) c b
noncomputable def fR(G H:Hp)(v:V):Fl->List Addr->Prop
 | .d x,b=>b=[]/\DV G v x
 | .l ds,b=>∃a e,v=.ref a/\b=[a]/\H a=some (.lst e)/\aK G e ds
 | .m f c,b=>∃a,v=.ref a/\b=[a]/\hI G H a f c
inductive bt (G H:Hp):List (Str×V)->List (Str×Fl)->List (List Addr)->Prop where
 | nil:bt G H [] [] []
 | cons {n:Str}{v:V}{f:Fl}{fp:List Addr}{gs:List (Str×V)}{fs:List (Str×Fl)}{fps:List (List Addr)}:fR G H v f fp->bt G H gs fs fps->bt G H ((n,v)::gs) ((n,f)::fs) (fp::fps)
def ql(G H:Hp)(b:Addr)(c:List PyData):Prop:=∃a,H b=some (.lst a)/\aK G a c
noncomputable def fe(G H:Hp)(a:Addr):Bx->List Addr->Prop
 | .l ds,c=>c=[a]/\∃g,H a=some (.lst g)/\aK G g ds
 | .m j i,c=>c=[a]/\hI G H a j i
 | .o C fs,c=>∃f e b,c=a::f::b.flatten/\H a=some (.ins C f e)/\H f=some (.own a)/\bt G H e fs b
 | .sd fs,c=>∃e b,c=a::b.flatten/\H a=some (.dK (e.map fun p=>(Sum.inr p.1,p.2)))/\bt G H e fs b
 | .ll g,c=>∃bs:List Addr,c=a::bs/\H a=some (.lst (bs.map V.ref))/\Paired (ql G H) bs g
 | .pr C fs d,c=>∃h v f e b,G a=some (.tup [.ref h,v])/\c=h::f::b.flatten/\H h=some (.ins C f e)/\H f=some (.own h)/\bt G H e fs b/\DV G v d
noncomputable def Mv:HO->Prop
 | .lst _=>True
 | .dK _=>True
 | .dT _=>True
 | .ins _ _ _=>True
 | .own _=>True
 | _=>False
noncomputable def cP(K:Frag)(H:Hp)(O:List Addr)(v:V):ai->List Addr->Prop
 | .dat d,_=>DV (aw O H) v d
 | .own _ b,e=>∃a,v=.ref a/\fe (aw O H) H a b e
 | .scr ns,_=>∃a,v=.ref a/\ir K H a ns
 | .exc c,_=>∃a φ,v=.ref a/\aw O H a=some (.ext φ)/\∀h,φ h->Io K a c h
 | .vw b,_=>∃a e,v=.ref a/\fe (aw O H) (aw O H) a b e
section
variable{G G' H H':Hp}{a:Addr}{v:V}{fp:List Addr}
theorem hI.keep{c:Bool}{b:List (PyData×PyData)}(h:hI G H a c b)(k:H' a=H a)(g:bR G G'):hI G' H' a c b:=by
 cases c with
 | false=>obtain⟨d,e,p⟩:=h;exact⟨d,k.trans e,Paired.mapP p fun _ _ z=>⟨z.1,DV.mono g z.2⟩⟩
 | true=>obtain⟨d,e,p⟩:=h;exact⟨d,k.trans e,Paired.mapP p fun _ _ z=>⟨z.1,DV.mono g z.2⟩⟩
theorem hI.live{c:Bool}{b:List (PyData×PyData)}(h:hI G H a c b):∃o,H a=some o/\Mv o:=by
 cases c with
 | false=>obtain⟨d,e,p⟩:=h;exact⟨_,e,trivial⟩
 | true=>obtain⟨d,e,p⟩:=h;exact⟨_,e,trivial⟩
theorem fR.keep{f:Fl}(h:fR G H v f fp)(k:∀c∈fp,H' c=H c)(g:bR G G'):fR G' H' v f fp:=by
 cases f with
 | d x=>exact⟨h.1,DV.mono g h.2⟩
 | l ds=>obtain⟨a,j,e,b,i,n⟩:=h;exact⟨a,j,e,b,(k a (by simp[b])).trans i,aK.mono g n⟩
 | m p o=>obtain⟨a,e,b,i⟩:=h;exact⟨a,e,b,i.keep (k a (by simp[b])) g⟩
theorem fR.live{f:Fl}(h:fR G H v f fp):∀c∈fp,∃o,H c=some o/\Mv o:=by
 cases f with
 | d x=>obtain⟨rfl,_⟩:=h;intro c b;cases b
 | l ds=>obtain⟨a,j,g,rfl,e,k⟩:=h;intro c b;obtain rfl:=List.mem_singleton.mp b;exact⟨_,e,trivial⟩
 | m n i=>obtain⟨a,g,rfl,e⟩:=h;intro c b;obtain rfl:=List.mem_singleton.mp b;exact e.live
theorem bt.keep{f:List (Str×V)}{fs:List (Str×Fl)}{d:List (List Addr)}(h:bt G H f fs d)(k:∀c∈d.flatten,H' c=H c)(g:bR G G'):bt G' H' f fs d:=by
 induction h with
 | nil=>exact .nil
 | cons a b i=>exact .cons (a.keep (fun c e=>k c (by simp[e])) g) (i fun c e=>k c (by rw[List.flatten_cons];exact bh _ e))
theorem bt.live{f:List (Str×V)}{fs:List (Str×Fl)}{e:List (List Addr)}(h:bt G H f fs e):∀c∈e.flatten,∃o,H c=some o/\Mv o:=by
 induction h with
 | nil=>intro c d;cases d
 | cons a b g=>
  intro c d;rw[List.flatten_cons] at d;rcases List.mem_append.mp d with d | d
  ·exact a.live c d
  ·exact g c d
theorem Lls.keep{bs:List Addr}{f:List (List PyData)}(h:Paired (ql G H) bs f)(k:∀c∈bs,H' c=H c)(g:bR G G'):Paired (ql G' H') bs f:=by
 induction h with
 | nil=>exact .nil
 | cons a b i=>obtain⟨j,e,d⟩:=a;exact .cons ⟨j,(k _ List.mem_cons_self).trans e,aK.mono g d⟩ (i fun c l=>k c (bY _ l))
theorem Lls.live{bs:List Addr}{g:List (List PyData)}(h:Paired (ql G H) bs g):∀c∈bs,∃o,H c=some o/\Mv o:=by
 induction h with
 | nil=>intro c f;cases f
 | cons a b i=>
  intro c f;obtain⟨j,e,d⟩:=a;rcases List.mem_cons.mp f with rfl | f
  ·exact⟨_,e,trivial⟩
  ·exact i c f
theorem fe.keep{b:Bx}(h:fe G H a b fp)(k:∀c∈fp,H' c=H c)(g:bR G G'):fe G' H' a b fp:=by
 cases b with
 | l ds=>obtain⟨rfl,s,e,d⟩:=h;exact⟨rfl,s,(k a (by simp)).trans e,aK.mono g d⟩
 | m y u=>obtain⟨rfl,d⟩:=h;exact⟨rfl,d.keep (k a (by simp)) g⟩
 | o C fs=>obtain⟨p,q,i,rfl,j,r,f⟩:=h;exact⟨p,q,i,rfl,(k a (by simp)).trans j,(k p (by simp)).trans r,f.keep (fun c n=>k c (by simp[n])) g⟩
 | sd fs=>obtain⟨q,i,rfl,j,f⟩:=h;exact⟨q,i,rfl,(k a (by simp)).trans j,f.keep (fun c n=>k c (by simp[n])) g⟩
 | ll s=>obtain⟨bs,rfl,j,f⟩:=h;exact⟨bs,rfl,(k a (by simp)).trans j,Lls.keep f (fun c n=>k c (by simp[n])) g⟩
 | pr C fs d=>obtain⟨t,v,p,q,i,w,rfl,j,r,f,x⟩:=h;exact⟨t,v,p,q,i,g _ _ w,rfl,(k t (by simp)).trans j,(k p (by simp)).trans r,f.keep (fun c n=>k c (by simp[n])) g,DV.mono g x⟩
theorem fe.live{b:Bx}(h:fe G H a b fp):∀c∈fp,∃o,H c=some o/\Mv o:=by
 cases b with
 | l ds=>obtain⟨rfl,p,e,d⟩:=h;intro c g;obtain rfl:=List.mem_singleton.mp g;exact⟨_,e,trivial⟩
 | m s q=>obtain⟨rfl,d⟩:=h;intro c g;obtain rfl:=List.mem_singleton.mp g;exact d.live
 | o C fs=>
  obtain⟨r,n,j,rfl,i,k,f⟩:=h;intro c g;rcases List.mem_cons.mp g with rfl | g
  ·exact⟨_,i,trivial⟩
  ·rcases List.mem_cons.mp g with rfl | g
   ·exact⟨_,k,trivial⟩
   ·exact f.live c g
 | sd fs=>
  obtain⟨n,j,rfl,i,f⟩:=h;intro c g;rcases List.mem_cons.mp g with rfl | g
  ·exact⟨_,i,trivial⟩
  ·exact f.live c g
 | ll p=>
  obtain⟨bs,rfl,i,f⟩:=h;intro c g;rcases List.mem_cons.mp g with rfl | g
  ·exact⟨_,i,trivial⟩
  ·exact Lls.live f c g
 | pr C fs d=>
  obtain⟨t,v,r,n,j,u,rfl,i,k,f,w⟩:=h;intro c g;rcases List.mem_cons.mp g with rfl | g
  ·exact⟨_,i,trivial⟩
  ·rcases List.mem_cons.mp g with rfl | g
   ·exact⟨_,k,trivial⟩
   ·exact f.live c g
end
theorem cP.keep{K:Frag}{H H':Hp}{O j:List Addr}{v:V}{c:ai}{fp:List Addr}(h:cP K H O v c fp)(s:aL O H j H')(k:∀b∈fp,H' b=H b)(z:∀b o u,H b=some (.frz o u)->H' b=some (.frz o u)):cP K H' j v c fp:=by
 cases c with
 | dat d=>exact DV.mono s.hid h
 | own io b=>obtain⟨a,e,q⟩:=h;exact⟨a,e,q.keep k s.hid⟩
 | scr ns=>obtain⟨a,f,q⟩:=h;exact⟨a,f,q.mono fun o u w=>z _ _ _ w⟩
 | exc c=>obtain⟨a,φ,f,g,q⟩:=h;exact⟨a,φ,f,s.hid _ _ g,q⟩
 | vw b=>obtain⟨a,i,f,q⟩:=h;exact⟨a,i,f,q.keep (fun c l=>by obtain⟨o,g,_⟩:=q.live c l;rw[g];exact s.hid _ _ g) s.hid⟩
structure bS (K:Frag) (F:Fx) (H:Hp) (Y:St) (U:ak) (W:List (List Addr)):Prop where
 at_:∀(i:Nat) (c:ai),U[i]? = some (some c)->∃v fp,Y[i]? = some (some v)/\W[i]? = some fp/\cP K H (W.flatten++F.O₀) v c fp
 nd:(W.flatten++F.O₀).Nodup
 kept:∀b o,b∉F.A₀->F.H₀ b=some o->H b=some o
 new:∀a∈W.flatten,a∈F.A₀\/F.H₀ a=none
 live:∀a∈W.flatten++F.O₀,∃o,H a=some o/\Mv o
 len:U.length=Y.length
 lw:W.length=U.length
 io:∀(i:Nat) (b:Bx),U[i]? = some (some (.own true b))->Y[i]? = some (some (.ref (F.I₀ i)))
def aC(K:Frag)(F:Fx)(H:Hp)(Y:St)(U:ak)(O:List Addr):Prop:=∃W,bS K F H Y U W/\O=W.flatten++F.O₀
theorem fS{α:Type}{l:List α}{i j:Nat}{x y:α}(e:(l.set i x)[j]? = some y):(j=i/\y=x/\i<l.length)\/(j≠i/\l[j]? = some y):=by
 by_cases b:j=i
 ·subst b;have a:j<l.length:=by
   have:=(List.getElem?_eq_some_iff.mp e).1
   rwa [List.length_set] at this
  rw[List.getElem?_set_self a] at e;exact .inl ⟨rfl,(Option.some.inj e).symm,a⟩
 ·rw[List.getElem?_set_ne (Ne.symm b)] at e;exact .inr ⟨b,e⟩
theorem ff{α:Type}{W:List (List α)}{i:Nat}{c:List α}{a:α}(h:a∈(W.set i c).flatten):a∈c\/∃j l,j≠i/\W[j]? = some l/\a∈l:=by
 obtain⟨l,f,d⟩:=List.mem_flatten.mp h;obtain⟨j,g⟩:=List.getElem?_of_mem f;rcases fS g with⟨_,rfl,_⟩ | ⟨b,e⟩
 ·exact .inl d
 ·exact .inr ⟨j,l,b,e,d⟩
theorem bL{α:Type}{W:List (List α)}{j:Nat}{l:List α}{a:α}(h:W[j]? = some l)(b:a∈l):a∈W.flatten:=List.mem_flatten.mpr ⟨l,List.mem_of_getElem? h,b⟩
theorem Ip{α:Type}{W:List (List α)}{i j:Nat}{b l:List α}{a:α}(c:j≠i)(h:W[j]? = some l)(d:a∈l):a∈(W.set i b).flatten:=bL (j:=j) (by rw[List.getElem?_set_ne (Ne.symm c)];exact h) d
theorem zX{α:Type}{W:List (List α)}{i:Nat}{b:List α}{a:α}(c:i<W.length)(d:a∈b):a∈(W.set i b).flatten:=bL (j:=i) (List.getElem?_set_self c) d
theorem jJ{α:Type}:∀{W:List (List α)}{i j:Nat}{l m:List α}{a:α},W.flatten.Nodup->W[i]? = some l->W[j]? = some m->i≠j->a∈l->a∉m
 | [],_,_,_,_,_,_,h,_,_,_=>by simp at h
 | w::W,0,0,_,_,_,_,_,_,d,_=>absurd rfl d
 | w::W,0,j+1,l,m,a,nd,h1,h2,_,b=>fun c=>by
  have e:w=l:=by simpa using h1
  subst e;rw[List.flatten_cons] at nd;exact(List.nodup_append.mp nd).2.2 a b a (bL (j:=j) (by simpa using h2) c) rfl
 | w::W,i+1,0,l,m,a,nd,h1,h2,_,b=>fun c=>by
  have e:w=m:=by simpa using h2
  subst e;rw[List.flatten_cons] at nd;exact(List.nodup_append.mp nd).2.2 a c a (bL (j:=i) (by simpa using h1) b) rfl
 | w::W,i+1,j+1,l,m,a,nd,h1,h2,d,b=>jJ (W:=W) (i:=i) (j:=j) (by rw[List.flatten_cons] at nd;exact(List.nodup_append.mp nd).2.1) (by simpa using h1) (by simpa using h2) (by omega) b
theorem nN{α:Type}[DecidableEq α]:∀{W:List (List α)}{i:Nat}{fp O:List α},(W.flatten++O).Nodup->fp.Nodup->(∀a∈fp,(∀j l,j≠i->W[j]? = some l->a∉l)/\a∉O)->((W.set i fp).flatten++O).Nodup
 | [],i,fp,O,h,_,_=>by simpa using h
 | w::W,0,fp,O,h,f,hd=>by
  rw[List.set_cons_zero,List.flatten_cons,List.append_assoc];rw[List.flatten_cons,List.append_assoc] at h;refine List.nodup_append.mpr ⟨f,(List.nodup_append.mp h).2.1,fun a d b c e=>?_⟩;subst e;rcases List.mem_append.mp c with c | c
  ·obtain⟨l,g,k⟩:=List.mem_flatten.mp c;obtain⟨j,m⟩:=List.getElem?_of_mem g;exact(hd a d).1 (j+1) l (by omega) (by simpa using m) k
  ·exact(hd a d).2 c
 | w::W,i+1,fp,O,h,f,hd=>by
  rw[List.set_cons_succ,List.flatten_cons,List.append_assoc];rw[List.flatten_cons,List.append_assoc] at h;obtain⟨o,h2,h3⟩:=List.nodup_append.mp h;have n:=nN (W:=W) (i:=i) (fp:=fp) (O:=O) h2 f fun a d=>⟨fun j l m e=>(hd a d).1 (j+1) l (by omega) (by simpa using e),(hd a d).2⟩
  refine List.nodup_append.mpr ⟨o,n,fun a d b c e=>?_⟩;subst e;rcases List.mem_append.mp c with c | c
  ·rcases ff c with c | ⟨j,l,m,e,g⟩
   ·exact(hd a c).1 0 w (by omega) (by simp) d
   ·exact h3 a d a (bi _ (bL e g)) rfl
  ·exact h3 a d a (bh _ c) rfl
section
variable{K:Frag}{F:Fx}{H H':Hp}{Y:St}{U:ak}{O O':List Addr}{W:List (List Addr)}
theorem bS.nofrz(st:bS K F H Y U W){b:Addr}(h:b∈W.flatten++F.O₀){o:Obj}{u:HO}:H b≠some (.frz o u):=fun z=>by obtain⟨a,e,m⟩:=st.live b h;rw[z] at e;cases e;exact m
theorem bS.put(st:bS K F H Y U W){i:Nat}{v:V}{c:ai}{fp:List Addr}(r:i<U.length)
  (keep:∀j l b,j≠i->W[j]? = some l->b∈l->H' b=H b) (f:∀b∈F.O₀,H' b=H b) (frz:∀b o,b∉W.flatten++F.O₀->H b=some o->H' b=some o)
  (D:fp.Nodup) (ap:∀a∈fp,(∀j l,j≠i->W[j]? = some l->a∉l)/\a∉F.O₀) (new:∀a∈fp,a∈W.flatten\/H a=none) (s:∀a∈fp,∃o,H' a=some o/\Mv o)
  (A:aL (W.flatten++F.O₀) H ((W.set i fp).flatten++F.O₀) H'->cP K H' ((W.set i fp).flatten++F.O₀) v c fp) (t:∀b,c=.own true b->v=.ref (F.I₀ i)) :
  bS K F H' (Y.set i (some v)) (U.set i (some c)) (W.set i fp)/\aL (W.flatten++F.O₀) H ((W.set i fp).flatten++F.O₀) H':=by
 have k:aL (W.flatten++F.O₀) H ((W.set i fp).flatten++F.O₀) H':=⟨frz,fun a h=>by
  rcases List.mem_append.mp h with h | h
  ·rcases ff h with h | ⟨j,l,_,e,n⟩
   ·exact(new a h).imp (bi _) id
   ·exact .inl (bi _ (bL e n))
  ·exact .inl (bh _ h)⟩
 have B:∀b o u,H b=some (.frz o u)->H' b=some (.frz o u):=fun b o u e=>frz b _ (fun z=>st.nofrz z e) e;have x:i<W.length:=by rw[st.lw];exact r
 refine⟨⟨fun j d e=>?_,nN st.nd D ap,fun b o p e=>?_,fun a h=>?_,fun a h=>?_,by rw[List.length_set,List.length_set,st.len],by rw[List.length_set,List.length_set,st.lw],fun j b e=>?_⟩,k⟩
 ·rcases fS e with⟨rfl,g,_⟩ | ⟨m,g⟩
  ·cases g;exact⟨v,fp,List.getElem?_set_self (by rw[<-st.len];exact r),List.getElem?_set_self x,A k⟩
  ·obtain⟨w,l,h1,h2,h3⟩:=st.at_ j d g;exact⟨w,l,by rw[List.getElem?_set_ne (Ne.symm m)];exact h1,by rw[List.getElem?_set_ne (Ne.symm m)];exact h2,h3.keep k (fun b C=>keep j l b m h2 C) B⟩
 ·have g:=st.kept b o p e
  by_cases y:b∈F.O₀
  ·rw[f b y];exact g
  ·refine frz b o (fun z=>?_) g;rcases List.mem_append.mp z with z | z
   ·rcases st.new b z with q | q
    ·exact p q
    ·rw[q] at e;cases e
   ·exact y z
 ·rcases ff h with h | ⟨j,l,_,e,n⟩
  ·rcases new a h with q | q
   ·exact st.new a q
   ·by_cases p:a∈F.A₀
    ·exact .inl p
    ·refine .inr ?_;cases e:F.H₀ a with
     | none=>rfl
     | some o=>rw[st.kept a o p e] at q;cases q
  ·exact st.new a (bL e n)
 ·rcases List.mem_append.mp h with h | h
  ·rcases ff h with h | ⟨j,l,m,e,n⟩
   ·exact s a h
   ·obtain⟨o,h1,h2⟩:=st.live a (bi _ (bL e n));exact⟨o,by rw[keep j l a m e n];exact h1,h2⟩
  ·obtain⟨o,h1,h2⟩:=st.live a (bh _ h);exact⟨o,by rw[f a h];exact h1,h2⟩
 ·rcases fS e with⟨rfl,g,_⟩ | ⟨m,g⟩
  ·rw[List.getElem?_set_self (by rw[<-st.len];exact r),t b (Option.some.inj g).symm]
  ·rw[List.getElem?_set_ne (Ne.symm m)];exact st.io j b g
theorem bS.grow(st:bS K F H Y U W)(s:bR H H'):bS K F H' Y U W where
 at_:=fun i c e=>let⟨v,fp,h1,h2,h3⟩:=st.at_ i c e;⟨v,fp,h1,h2,h3.keep (.same s) (fun b hb=>by
  obtain⟨o,e1,_⟩:=st.live b (bi _ (bL h2 hb));rw[e1];exact s _ _ e1) fun b o u e=>s _ _ e⟩
 nd:=st.nd
 kept:=fun b o n e=>s b o (st.kept b o n e)
 new:=st.new
 live:=fun a h=>let⟨o,e,m⟩:=st.live a h;⟨o,s _ _ e,m⟩
 len:=st.len
 lw:=st.lw
 io:=st.io
theorem aC.grow(st:aC K F H Y U O)(s:bR H H'):aC K F H' Y U O:=let⟨W,h,e⟩:=st;⟨W,h.grow s,e⟩
theorem aC.nofree(st:aC K F H Y U O):∀p,H p=none->p∉O:=fun p a z=>by obtain⟨W,h,rfl⟩:=st;obtain⟨o,e,_⟩:=h.live p z;rw[a] at e;cases e
theorem aC.lenE(st:aC K F H Y U O):U.length=Y.length:=let⟨_,h,_⟩:=st;h.len
theorem aC.dat(st:aC K F H Y U O){i:Nat}{d:PyData}(e:U[i]? = some (some (.dat d))):∃v,Y[i]? = some (some v)/\DV (aw O H) v d:=by obtain⟨W,h,rfl⟩:=st;obtain⟨v,a,h1,h2,h3⟩:=h.at_ i _ e;exact⟨v,h1,h3⟩
theorem aC.scr(st:aC K F H Y U O){i:Nat}{b:List Int}(e:U[i]? = some (some (.scr b))):∃a,Y[i]? = some (some (.ref a))/\ir K H a b:=by obtain⟨W,h,rfl⟩:=st;obtain⟨v,c,h1,h2,a,rfl,h3⟩:=h.at_ i _ e;exact⟨a,h1,h3⟩
theorem aC.set(st:aC K F H Y U O){i:Nat}{v:V}{d:PyData}(h:DV (aw O H) v d):aC K F H (Y.set i (some v)) (U.set i (some (.dat d))) O:=by
 obtain⟨W,st,rfl⟩:=st;refine⟨W,⟨fun j c e=>?_,st.nd,st.kept,st.new,st.live,by rw[List.length_set,List.length_set,st.len],by rw[List.length_set,st.lw],fun j b e=>?_⟩,rfl⟩
 rotate_left
 ·rcases fS e with⟨rfl,a,_⟩ | ⟨g,a⟩
  ·cases a
  ·rw[List.getElem?_set_ne (Ne.symm g)];exact st.io j b a
 rcases fS e with⟨rfl,a,f⟩ | ⟨g,a⟩
 ·cases a;obtain⟨k,m⟩:∃k,W[j]? = some k:=⟨W[j]'(by rw[st.lw];exact f),List.getElem?_eq_getElem _⟩
  exact⟨v,k,List.getElem?_set_self (by rw[<-st.len];exact f),m,h⟩
 ·obtain⟨w,l,h1,h2,h3⟩:=st.at_ j c a;exact⟨w,l,by rw[List.getElem?_set_ne (Ne.symm g)];exact h1,h2,h3⟩
theorem aC.box(st:aC K F H Y U O){i:Nat}{io:Bool}{b:Bx}(e:U[i]? = some (some (.own io b))):∃a m,Y[i]? = some (some (.ref a))/\fe (aw O H) H a b m/\(∀c∈m,c∈O)/\
  ∀(H':Hp) (t:Bx) (f:List Addr),(∀c o,c∉m->H c=some o->H' c=some o)->f.Nodup->(∀c∈f,c∈m\/H c=none)->(∀G,(∀O',aL O H O' H'->G=aw O' H'->(∀c∈f,c∈O')->bR (aw O H) G/\fe G H' a t f))->
   ∃O',aC K F H' Y (U.set i (some (.own io t))) O'/\aL O H O' H'/\(∀c∈O',c∈f\/c∈O):=by
 obtain⟨W,st,rfl⟩:=st;obtain⟨v,m,h1,h2,a,rfl,h3⟩:=st.at_ i _ e;have A:i<U.length:=(List.getElem?_eq_some_iff.mp e).1;have u:i<W.length:=by rw[st.lw];exact A
 refine⟨a,m,h1,h3,fun c d=>bi _ (bL h2 d),fun H' t f keep N w D=>?_⟩;have p:W.flatten.Nodup:=(List.nodup_append.mp st.nd).1;have B:∀c∈m,c∉F.O₀:=fun c d z=>(List.nodup_append.mp st.nd).2.2 c (bL h2 d) c z rfl;have E:∀j l c,j≠i->W[j]? = some l->c∈l->H' c=H c:=fun j l c n k d=>by obtain⟨o,g,_⟩:=st.live c (bi _ (bL k d));rw[g];exact keep c o (fun z=>jJ p k h2 n d z) g
 have I:∀c∈F.O₀,H' c=H c:=fun c d=>by obtain⟨o,g,_⟩:=st.live c (bh _ d);rw[g];exact keep c o (fun z=>B c z d) g
 have ap:∀c∈f,(∀j l,j≠i->W[j]? = some l->c∉l)/\c∉F.O₀:=fun c d=>by
  rcases w c d with q | q
  ·exact⟨fun j l n k z=>jJ p h2 k (Ne.symm n) q z,B c q⟩
  ·refine⟨fun j l _ k z=>?_,fun z=>?_⟩
   ·obtain⟨o,g,_⟩:=st.live c (bi _ (bL k z));rw[q] at g;cases g
   ·obtain⟨o,g,_⟩:=st.live c (bh _ z);rw[q] at g;cases g
 have frz:∀c o,c∉W.flatten++F.O₀->H c=some o->H' c=some o:=fun c o d J=>keep c o (fun z=>d (bi _ (bL h2 z))) J;have x:aL (W.flatten++F.O₀) H ((W.set i f).flatten++F.O₀) H':=⟨frz,fun c h=>by
  rcases List.mem_append.mp h with h | h
  ·rcases ff h with h | ⟨j,l,_,k,y⟩
   ·exact(w c h).imp (fun z=>bi _ (bL h2 z)) id
   ·exact .inl (bi _ (bL k y))
  ·exact .inl (bh _ h)⟩
 have r:∀c∈f,c∈(W.set i f).flatten++F.O₀:=fun c d=>bi _ (zX u d);have s:=(D _ _ x rfl r).2;obtain⟨C,L⟩:=st.put (H':=H') (i:=i) (v:=.ref a) (c:=.own io t) (fp:=f) A E I frz N ap (fun c d=>(w c d).imp (fun z=>bL h2 z) id) (fun c d=>s.live c d) (fun _=>⟨a,rfl,s⟩) (fun Q z=>by cases z;have:=st.io i b e;rw[h1] at this;exact(Option.some.inj (Option.some.inj this)));have M:Y.set i (some (.ref a))=Y:=by
  apply List.ext_getElem?;intro j
  by_cases n:j=i
  ·subst n;rw[List.getElem?_set_self (List.getElem?_eq_some_iff.mp h1).1,h1]
  ·rw[List.getElem?_set_ne (Ne.symm n)]
 rw[M] at C;refine⟨_,⟨_,C,rfl⟩,L,fun c d=>?_⟩;rcases List.mem_append.mp d with d | d
 ·rcases ff d with d | ⟨j,l,_,k,y⟩
  ·exact .inl d
  ·exact .inr (bi _ (bL k y))
 ·exact .inr (bh _ d)
theorem aC.freeze(st:aC K F H Y U O){i:Nat}{b:List PyData}(e:U[i]? = some (some (.own false (.l b)))) :
  ∃v O',Y[i]? = some (some v)/\aC K F H Y (U.set i (some (.dat (.list b)))) O'/\aL O H O' H/\DV (aw O' H) v (.list b):=by
 obtain⟨W,st,rfl⟩:=st;obtain⟨v,u,h1,h2,a,rfl,rfl,w,h3,o⟩:=st.at_ i _ e;have p:i<U.length:=(List.getElem?_eq_some_iff.mp e).1;have f:W.flatten.Nodup:=(List.nodup_append.mp st.nd).1;have g:a∉(W.set i []).flatten++F.O₀:=fun z=>by
  rcases List.mem_append.mp z with z | z
  ·rcases ff z with z | ⟨j,l,d,q,r⟩
   ·cases z
   ·exact jJ f h2 q (Ne.symm d) List.mem_cons_self r
  ·exact(List.nodup_append.mp st.nd).2.2 a (bL h2 List.mem_cons_self) a z rfl
 have k:aL (W.flatten++F.O₀) H ((W.set i []).flatten++F.O₀) H->DV (aw ((W.set i []).flatten++F.O₀) H) (.ref a) (.list b):=fun s=>.lst (gk h3 g) (aK.mono s.hid o);obtain⟨m,n⟩:=st.put (H':=H) (i:=i) (v:=.ref a) (c:=.dat (.list b)) (fp:=[]) p (fun _ _ _ _ _ _=>rfl) (fun _ _=>rfl) (fun _ _ _ e=>e) List.nodup_nil (fun a h=>by cases h) (fun a h=>by cases h) (fun a h=>by cases h) (fun s=>k s) (fun _ z=>by cases z);have t:Y.set i (some (.ref a))=Y:=by
  apply List.ext_getElem?;intro j
  by_cases d:j=i
  ·subst d;rw[List.getElem?_set_self (List.getElem?_eq_some_iff.mp h1).1,h1]
  ·rw[List.getElem?_set_ne (Ne.symm d)]
 rw[t] at m;exact⟨_,_,h1,⟨_,m,rfl⟩,n,k n⟩
end
abbrev DT:=ak->(PyData->ak->Prop)->Prop
def Mn(t:DT):Prop:=∀U Q a,(∀d b,Q d b->a d b)->t U Q->t U a
noncomputable def fT(K:Frag)(F:Fx)(t:DT):TE:=fun Y H Q=>∃U O,aC K F H Y U O/\t U fun d c=>∀v a b,aC K F a Y c b->aL O H b a->DV (aw b a) v d->Q v a
structure DE (X:Cx) (F:Fx) (e:Expr) (t:DT):Prop where
 mn:Mn t
 pe:PE X e (fT X.K F t)
theorem _root_.L2.PE.imp{X:Cx}{e:Expr}{t t':TE}(h:PE X e t)(k:∀Y H Q,t' Y H Q->t Y H Q):PE X e t':=fun a s Y H Q I q=>h a s Y H Q I (k Y H Q q)
theorem _root_.L2.PT.imp{X:Cx}{e:Expr}{t t':TT}(h:PT X e t)(k:∀Y H Q,t' Y H Q->t Y H Q):PT X e t':=fun a s Y H Q I q=>h a s Y H Q I (k Y H Q q)
theorem _root_.L2.PS.imp{X:Cx}{e:Stmt}{t t':TS}(h:PS X e t)(k:∀D Y H,t' D Y H->t D Y H):PS X e t':=fun a s Y H D I q=>h a s Y H D I (k D Y H q)
theorem _root_.L2.PSs.imp{X:Cx}{e:List Stmt}{t t':TS}(h:PSs X e t)(k:∀D Y H,t' D Y H->t D Y H):PSs X e t':=fun a s Y H D I q=>h a s Y H D I (k D Y H q)
section
variable{X:Cx}{F:Fx}{a b e:Expr}{ta tb:DT}{pos:Pos}
noncomputable def dC(d:PyData):DT:=fun U Q=>Q d U
noncomputable def dV(i:Nat):DT:=fun U Q=>(∃d,U[i]? = some (some (.dat d))/\Q d U)\/∃c,U[i]? = some (some (.own false (.l c)))/\Q (.list c) (U.set i (some (.dat (.list c))))
theorem Iq{d:PyData}:Mn (dC d):=fun _ _ _ h q=>h _ _ q
theorem nO{d:PyData}{v:V}(h:PE X e (tC v))(hd:∀H,DV H v d):DE X F e (dC d):=
 ⟨Iq,h.imp fun Y H Q ⟨U,O,st,q⟩=>q v H O st .refl (hd _)⟩
theorem aq{i j}:DE X F (.Constant (.int i) j pos) (dC (.int i)):=nO pN fun _=>.int i
theorem fF{i j}:DE X F (.Constant (.bool i) j pos) (dC (.bool i)):=nO EG fun _=>.bl i
theorem em{j}:DE X F (.Constant .none j pos) (dC .none):=nO yM fun _=>.non
theorem bB{x j}:DE X F (.Constant (.str x) j pos) (dC (.str x)):=nO yN fun _=>.str x
theorem Ir(i:Nat){x:Str}(h:PE X (.Name x pos) (cf i)):DE X F (.Name x pos) (dV i):=
 ⟨fun _ _ _ k q=>q.imp (fun⟨d,e,q⟩=>⟨d,e,k _ _ q⟩) fun⟨d,e,q⟩=>⟨d,e,k _ _ q⟩,h.imp fun Y H Q ⟨U,O,st,q⟩=>by
  rcases q with⟨d,e,q⟩ | ⟨ds,e,q⟩
  ·obtain⟨v,h1,h2⟩:=st.dat e;exact⟨v,h1,q v H O st .refl h2⟩
  ·obtain⟨v,c,h1,h2,h3,f⟩:=st.freeze e;exact⟨v,h1,q v H c h2 h3 f⟩⟩
abbrev D2:=PyData->PyData->(PyData->Prop)->Prop
noncomputable def cL(f:D2)(ta tb:DT):DT:=fun U Q=>ta U fun x c=>tb c fun y g=>f x y fun d=>Q d g
structure eN (r:R2) (f:D2):Prop where
 mn:∀x y Q Q',(∀d,Q d->Q' d)->f x y Q->f x y Q'
 ok:∀(O:List Addr) (H:Hp) (u v:V) (x y:PyData) (Q:VK),(∀p,H p=none->p∉O)->DV (aw O H) u x->DV (aw O H) v y->f x y (fun d=>∀w H',bR H H'->DV (aw O H') w d->Q w H')->r u v H Q
theorem qm{r:R2}{f:D2}{ta tb:DT}(o:eN r f)(k:Mn ta)(l:Mn tb){K:Frag}:∀Y H Q,fT K F (cL f ta tb) Y H Q->nG r (fT K F ta) (fT K F tb) Y H Q:=fun Y H Q ⟨U,O,st,q⟩=>by refine⟨U,O,st,k _ _ _ (fun x m n v1 E p g s t=>?_) q⟩;refine⟨m,p,g,l _ _ _ (fun y G u v z h c i A=>?_) n⟩;refine o.ok h z v1 v x y Q c.nofree (DV.mono i.hid t) A (o.mn _ _ _ _ (fun d B w C j D=>?_) u);exact B w C h (c.grow j) (s.trans (i.trans (.same j))) D
theorem nP{r:R2}{f:D2}(o:eN r f)(c:Mn ta)(d:Mn tb):Mn (cL f ta tb):=fun _ _ _ k q=>c _ _ _ (fun _ _ g=>d _ _ _ (fun _ _ h=>o.mn _ _ _ _ (fun _ i=>k _ _ i) h) g) q
theorem jh{op:Operator}{r:R2}{f:D2}(g:cD X (binaryOp op) r)(o:eN r f)(c:DE X F a ta)(d:DE X F b tb):DE X F (.BinOp a op b pos) (cL f ta tb):=
 ⟨nP o c.mn d.mn,(FQ g c.pe d.pe).imp (qm o c.mn d.mn)⟩
theorem mj{op:CmpOp}{r:R2}{f:D2}(g:cD X (compareOp op) r)(o:eN r f)(c:DE X F a ta)(d:DE X F b tb)(h:behindInMarks op b=false):DE X F (.Compare a [op] [b] pos) (cL f ta tb):=
 ⟨nP o c.mn d.mn,(Gd g c.pe d.pe h).imp (qm o c.mn d.mn)⟩
theorem Iu{r:R2}{f:D2}(g:je X r)(o:eN r f)(c:DE X F a ta)(d:DE X F b tb)(h:nJ b):DE X F (.Subscript a b pos) (cL f ta tb):=
 ⟨nP o c.mn d.mn,(uZ g c.pe d.pe h).imp (qm o c.mn d.mn)⟩
noncomputable def fI(C:Int->Int->Prop)(g:Int->Int->PyData):D2:=fun x y Q=>∃i j,x=.int i/\y=.int j/\C i j/\Q (g i j)
theorem qo{C:Int->Int->Prop}{g:Int->Int->V}{g':Int->Int->PyData}(hg:∀i j H,DV H (g i j) (g' i j)):eN (rI C g) (fI C g') where
 mn:=fun _ _ _ _ k ⟨i,j,e1,e2,c,q⟩=>⟨i,j,e1,e2,c,k _ q⟩
 ok:=fun O H u v x y Q hO h1 h2 ⟨i,j,e1,e2,c,q⟩=>by subst e1 e2;exact⟨i,j,h1.int_inv,h2.int_inv,c,q _ H (fun _ _ h=>h) (hg i j _)⟩
theorem jK{g:Int->Int->V}{g':Int->Int->PyData}(hg:∀i j H,DV H (g i j) (g' i j)):eN (ip g) (fI (fun _ _=>True) g') where
 mn:=fun _ _ _ _ k ⟨i,j,e1,e2,c,q⟩=>⟨i,j,e1,e2,c,k _ q⟩
 ok:=fun O H u v x y Q hO h1 h2 ⟨i,j,e1,e2,_,q⟩=>by subst e1 e2;exact⟨i,j,h1.int_inv,h2.int_inv,q _ H (fun _ _ h=>h) (hg i j _)⟩
noncomputable def nQ(neg:Bool):D2:=fun x y Q=>SeqAt.shaped x=true/\SeqAt.shaped y=true/\Q (.bool (PyData.eqv x y != neg))
theorem vu{neg:Bool}:eN (vr neg) (nQ neg) where
 mn:=fun _ _ _ _ k ⟨e1,e2,q⟩=>⟨e1,e2,k _ q⟩
 ok:=fun O H u v x y Q hO h1 h2 ⟨e1,e2,q⟩=>⟨x,y,DV.mono nL h1,DV.mono nL h2,e1,e2,q _ H (fun _ _ h=>h) (.bl _)⟩
@[simp] noncomputable def isNone:PyData->Bool
 | .none=>true
 | _=>false
noncomputable def qp:D2:=fun x y Q=>y=.none/\Q (.bool (isNone x))
noncomputable def vv:D2:=fun x y Q=>y=.none/\Q (.bool (!isNone x))
theorem zY{H:Hp}{v:V}{d:PyData}(h:DV H v d):decide (v=.non)=isNone d:=by cases h<;>first | rfl | (exact decide_eq_false (fun z=>by cases z))
theorem zZ:eN (fun x y H Q=>y=.non/\Q (.bl (decide (x=.non))) H) qp where
 mn:=fun _ _ _ _ k ⟨e,q⟩=>⟨e,k _ q⟩
 ok:=fun O H u v x y Q hO h1 h2 ⟨e,q⟩=>by subst e;exact⟨h2.non_inv,by rw[zY h1];exact q _ H (fun _ _ h=>h) (.bl _)⟩
theorem Aa:eN (fun x y H Q=>y=.non/\Q (.bl (!decide (x=.non))) H) vv where
 mn:=fun _ _ _ _ k ⟨e,q⟩=>⟨e,k _ q⟩
 ok:=fun O H u v x y Q hO h1 h2 ⟨e,q⟩=>by subst e;exact⟨h2.non_inv,by rw[zY h1];exact q _ H (fun _ _ h=>h) (.bl _)⟩
noncomputable def Ab:D2:=fun x y Q=>∃c i d,x=.tuple c/\y=.int i/\bI c i=some d/\Q d
noncomputable def Ac:D2:=fun x y Q=>∃c i d,x=.list c/\y=.int i/\bI c i=some d/\Q d
theorem Ad{H:Hp}{f:List V}{c:List PyData}{i:Int}{d:PyData}(h:aK H f c)(e:bI c i=some d):∃v,bI f i=some v/\DV H v d:=by
 unfold bI at e ⊢;rw[h.length];cases q:dA c.length i with
 | none=>rw[q] at e;cases e
 | some j=>rw[q] at e;exact h.get e
theorem Ae{K:Frag}:eN (vb K) Ab where
 mn:=fun _ _ _ _ k ⟨ds,i,d,e1,e2,e3,q⟩=>⟨ds,i,d,e1,e2,e3,k _ q⟩
 ok:=fun O H u v x y Q hO h1 h2 ⟨ds,i,d,e1,e2,e3,q⟩=>by subst e1 e2;obtain⟨a,xs,rfl,ha,hd⟩:=h1.tup_inv;obtain⟨w,ew,hw⟩:=Ad hd e3;exact⟨a,xs,i,w,rfl,h2.int_inv,.inl (iq ha).1,ew,q w H (fun _ _ h=>h) hw⟩
theorem Af{K:Frag}:eN (va K) Ac where
 mn:=fun _ _ _ _ k ⟨ds,i,d,e1,e2,e3,q⟩=>⟨ds,i,d,e1,e2,e3,k _ q⟩
 ok:=fun O H u v x y Q hO h1 h2 ⟨ds,i,d,e1,e2,e3,q⟩=>by subst e1 e2;obtain⟨a,xs,rfl,ha,hd⟩:=h1.lst_inv;obtain⟨w,ew,hw⟩:=Ad hd e3;exact⟨a,xs,i,w,rfl,h2.int_inv,.of (cK ha).1,ew,q w H (fun _ _ h=>h) hw⟩
theorem hJ{O:List Addr}{H:Hp}{p:Addr}{c:List V}{d:List PyData}(f:H p=none)(g:p∉O)(h:aK (aw O H) c d):DV (aw O (aN H p (.lst c))) (.ref p) (.list d):=
 .lst (gk cn g) (aK.mono (jg (bN f)) h)
theorem qr{O:List Addr}{H:Hp}{p:Addr}{c:List V}{d:List PyData}(f:H p=none)(g:p∉O)(h:aK (aw O H) c d):DV (aw O (aN H p (.tup c))) (.ref p) (.tuple d):=
 .tup (.inl (gk cn g)) (aK.mono (jg (bN f)) h)
noncomputable def vA:D2:=fun x y Q=>∃d c,x=.list d/\y=.list c/\d.length+c.length<=sizeLine/\Q (.list (d++c))
theorem Iw:eN zI vA where
 mn:=fun _ _ _ _ k ⟨ds,es,e1,e2,e3,q⟩=>⟨ds,es,e1,e2,e3,k _ q⟩
 ok:=fun O H u v x y Q hO h1 h2 ⟨ds,es,e1,e2,e3,q⟩=>by subst e1 e2;obtain⟨a,xs,rfl,ha,hd⟩:=h1.lst_inv;obtain⟨b,ys,rfl,hb,he⟩:=h2.lst_inv;refine⟨a,b,xs,ys,rfl,rfl,(cK ha).1,(cK hb).1,by rw[hd.length,he.length];exact e3,fun p hp=>q _ _ (bN hp) (hJ hp (hO p hp) (hd.append he))⟩
noncomputable def vB:D2:=fun x y Q=>∃d c,x=.tuple d/\y=.tuple c/\d.length+c.length<=sizeLine/\Q (.tuple (d++c))
end
theorem iu{A B:Prop}(h:if true=true then A else B):A:=by rw[if_pos rfl] at h;exact h
theorem iw{A B:Prop}(h:if false=true then A else B):B:=by rw[if_neg Bool.false_ne_true] at h;exact h
abbrev dJ:=ak->(List PyData->ak->Prop)->Prop
def qt(t:dJ):Prop:=∀U Q a,(∀d b,Q d b->a d b)->t U Q->t U a
noncomputable def Ag(K:Frag)(F:Fx)(t:dJ):TA:=fun Y H Q=>∃U O,aC K F H Y U O/\t U fun e d=>∀c a b,aC K F a Y d b->aL O H b a->aK (aw b a) c e->Q c a
structure DA (X:Cx) (F:Fx) (es:List Expr) (t:dJ):Prop where
 mn:qt t
 pa:PA X es (Ag X.K F t)
theorem _root_.L2.PA.imp{X:Cx}{e:List Expr}{t t':TA}(h:PA X e t)(k:∀Y H Q,t' Y H Q->t Y H Q):PA X e t':=fun pos a s Y H Q I q=>h pos a s Y H Q I (k Y H Q q)
section
variable{X:Cx}{F:Fx}{a b e c:Expr}{es:List Expr}{ta tb tc:DT}{tA:dJ}{pos:Pos}
noncomputable def Ix:dJ:=fun U Q=>Q [] U
noncomputable def Iy(ta:DT)(f:dJ):dJ:=fun U Q=>ta U fun d g=>f g fun i h=>Q (d::i) h
theorem Iz:DA X F [] Ix:=⟨fun _ _ _ k q=>k _ _ q,dQ.imp fun Y H Q ⟨U,O,st,q⟩=>q [] H O st .refl .nil⟩
theorem IA(f:DE X F e ta)(g:DA X F es tA)(n:starEach (e::es) X.env=(false,eval e X.env)::starEach es X.env:=by rfl):DA X F (e::es) (Iy ta tA):=
 ⟨fun _ _ _ k q=>f.mn _ _ _ (fun _ _ h=>g.mn _ _ _ (fun _ _ i=>k _ _ i) h) q,(da f.pe g.pa n).imp fun Y H Q ⟨U,O,st,q⟩=>
  ⟨U,O,st,f.mn _ _ _ (fun d o h v y p j r s=>⟨o,p,j,g.mn _ _ _ (fun A z i t u w l m x=>i (v::t) u w l (r.trans m) (.cons (DV.mono m.hid s) x)) h⟩) q⟩⟩
noncomputable def IB(t:dJ):DT:=fun U Q=>t U fun d f=>d.length<=sizeLine/\Q (.tuple d) f
noncomputable def IC(t:dJ):DT:=fun U Q=>t U fun d f=>d.length<=sizeLine/\Q (.list d) f
theorem ID{j}(h:DA X F es tA):DE X F (.Tuple es j pos) (IB tA):=
 ⟨fun _ _ _ k q=>h.mn _ _ _ (fun _ _ d=>⟨d.1,k _ _ d.2⟩) q,(uX h.pa).imp fun Y H Q ⟨U,O,st,q⟩=>
  ⟨U,O,st,h.mn _ _ _ (fun s n d o r l f m i=>⟨by rw[i.length];exact d.1,fun p g=>d.2 _ _ l (f.grow (bN g)) (m.trans (.same (bN g))) (qr g (f.nofree p g) i)⟩) q⟩⟩
theorem IE(h:DA X F es tA):DE X F (.List es pos) (IC tA):=
 ⟨fun _ _ _ k q=>h.mn _ _ _ (fun _ _ d=>⟨d.1,k _ _ d.2⟩) q,(pY h.pa).imp fun Y H Q ⟨U,O,st,q⟩=>
  ⟨U,O,st,h.mn _ _ _ (fun r m d n o j f l i=>⟨by rw[i.length];exact d.1,fun p g=>d.2 _ _ j (f.grow (bN g)) (l.trans (.same (bN g))) (hJ g (f.nofree p g) i)⟩) q⟩⟩
noncomputable def IF(ta:DT):DT:=fun U Q=>ta U fun d f=>∃i,d=.int i/\Q (.int (-i)) f
theorem IG(f:DE X F a ta):DE X F (.UnaryOp .USub a pos) (IF ta):=
 ⟨fun _ _ _ k q=>f.mn _ _ _ (fun _ _ ⟨i,e,q⟩=>⟨i,e,k _ _ q⟩) q,(FR Gc f.pe).imp fun Y H Q ⟨U,O,st,q⟩=>
  ⟨U,O,st,f.mn _ _ _ (fun d o ⟨i,e,h⟩ v j l g m n=>by subst e;exact⟨i,n.int_inv,h _ j l g m (.int _)⟩) q⟩⟩
noncomputable def IH(ta:DT):DT:=fun U Q=>ta U fun d f=>∃b,d=.bool b/\Q (.bool (!b)) f
theorem II(f:DE X F a ta):DE X F (.UnaryOp .Not a pos) (IH ta):=
 ⟨fun _ _ _ k q=>f.mn _ _ _ (fun _ _ ⟨i,e,q⟩=>⟨i,e,k _ _ q⟩) q,(EY f.pe).imp fun Y H Q ⟨U,O,st,q⟩=>
  ⟨U,O,st,f.mn _ _ _ (fun d o ⟨i,e,h⟩ v j l g m n=>by subst e;exact⟨i,n.bl_inv,h _ j l g m (.bl _)⟩) q⟩⟩
noncomputable def IJ(ta tb:DT):DT:=fun U Q=>ta U fun d f=>∃b,d=.bool b/\if b=true then tb f Q else Q (.bool false) f
noncomputable def IK(ta tb:DT):DT:=fun U Q=>ta U fun d f=>∃b,d=.bool b/\if b=true then Q (.bool true) f else tb f Q
theorem IL{op}(h:DE X F a ta):DE X F (.BoolOp op [a] pos) ta:=⟨h.mn,EU h.pe⟩
theorem IM{rest:List Expr}(g:DE X F a ta)(h:DE X F (.BoolOp .And (b::rest) pos) tb):DE X F (.BoolOp .And (a::b::rest) pos) (IJ ta tb):=
 ⟨fun _ _ _ k q=>g.mn _ _ _ (fun _ _ ⟨i,e,q⟩=>⟨i,e,by cases i<;>first | exact k _ _ q | exact h.mn _ _ _ k q⟩) q,(EV g.pe h.pe).imp fun Y H Q ⟨U,O,st,q⟩=>
  ⟨U,O,st,g.mn _ _ _ (fun d o ⟨i,e,l⟩ v p m f n r=>by
   subst e;refine⟨i,r.bl_inv,?_⟩;cases i with
   | true=>exact ed ⟨o,m,f,h.mn _ _ _ (fun d z s w t u j x y=>s w t u j (n.trans x) y) (iu l)⟩
   | false=>exact dZ (iw l _ p m f n (.bl _))) q⟩⟩
theorem IP{rest:List Expr}(g:DE X F a ta)(h:DE X F (.BoolOp .Or (b::rest) pos) tb):DE X F (.BoolOp .Or (a::b::rest) pos) (IK ta tb):=
 ⟨fun _ _ _ k q=>g.mn _ _ _ (fun _ _ ⟨i,e,q⟩=>⟨i,e,by cases i<;>first | exact k _ _ q | exact h.mn _ _ _ k q⟩) q,(EW g.pe h.pe).imp fun Y H Q ⟨U,O,st,q⟩=>
  ⟨U,O,st,g.mn _ _ _ (fun d o ⟨i,e,l⟩ v p m f n r=>by
   subst e;refine⟨i,r.bl_inv,?_⟩;cases i with
   | false=>exact dZ ⟨o,m,f,h.mn _ _ _ (fun d z s w t u j x y=>s w t u j (n.trans x) y) (iw l)⟩
   | true=>exact ed (iu l _ p m f n (.bl _))) q⟩⟩
noncomputable def vC(p f:Int->Int->Bool)(ta tb tc:DT):DT:=fun U Q=>ta U fun x g=>tb g fun y d=>∃i j,x=.int i/\y=.int j/\if p i j=true then tc d (fun z h=>∃k,z=.int k/\Q (.bool (f j k)) h) else Q (.bool false) d
theorem IQ{op f:CmpOp}{p G:Int->Int->Bool}(N:cD X (compareOp op) (ip fun i j=>.bl (p i j)))(m:cD X (compareOp f) (ip fun i j=>.bl (G i j)))(n:DE X F a ta)(o:DE X F b tb)(r:DE X F c tc)
  (R:lastMarks [op,f] [b,c]=false:=by with_unfolding_all rfl):DE X F (.Compare a [op,f] [b,c] pos) (vC p G ta tb tc):=
 ⟨fun _ _ _ k q=>n.mn _ _ _ (fun _ _ s=>o.mn _ _ _ (fun _ _ ⟨i,j,t,A,d⟩=>⟨i,j,t,A,by
   by_cases h:p i j=true
   ·rw[if_pos h] at d ⊢;exact r.mn _ _ _ (fun _ _ ⟨l,e,B⟩=>⟨l,e,k _ _ B⟩) d
   ·rw[if_neg h] at d ⊢;exact k _ _ d⟩) s) q,
  (Gg N m n.pe o.pe r.pe R).imp fun Y H Q ⟨U,O,st,q⟩=>
  ⟨U,O,st,n.mn _ _ _ (fun x S s v H1 T C I Z=>⟨S,T,C,o.mn _ _ _ (fun y U2 ⟨i,j,t,A,d⟩ w H2 J g D L=>by
   subst t A;refine⟨i,j,(DV.mono D.hid Z).int_inv,L.int_inv,p i j,rfl,?_⟩
   by_cases h:p i j=true
   ·rw[if_pos h] at d ⊢;exact⟨U2,J,g,r.mn _ _ _ (fun z U3 ⟨l,e,B⟩ u H3 O3 E M d3=>by subst e;exact⟨j,l,(DV.mono M.hid L).int_inv,d3.int_inv,B _ H3 O3 E (I.trans (D.trans M)) (.bl _)⟩) d⟩
   ·rw[if_neg h] at d ⊢;exact d _ H2 J g (I.trans D) (.bl _)) s⟩) q⟩⟩
end
abbrev cx:=ak->(Bool->ak->Prop)->Prop
def ix(t:cx):Prop:=∀U Q a,(∀d b,Q d b->a d b)->t U Q->t U a
noncomputable def ji(K:Frag)(F:Fx)(t:cx):TT:=fun Y H Q=>∃U O,aC K F H Y U O/\t U fun b d=>∀a c,aC K F a Y d c->aL O H c a->Q b a
structure DB (X:Cx) (F:Fx) (e:Expr) (t:cx):Prop where
 mn:ix t
 pt:PT X e (ji X.K F t)
section
variable{X:Cx}{F:Fx}{a b e c:Expr}{ta tb tc:DT}{tA tB:cx}{pos:Pos}
noncomputable def fU(ta:DT):cx:=fun U Q=>ta U fun d f=>∃b,d=.bool b/\Q b f
theorem Ah(h:Mn ta):ix (fU ta):=fun _ _ _ k q=>h _ _ _ (fun _ _ ⟨b,e,d⟩=>⟨b,e,k _ _ d⟩) q
theorem Ai{K:Frag}(h:Mn ta):∀Y H Q,ji K F (fU ta) Y H Q->fT K F ta Y H fun x g=>∃k,x=.bl k/\Q k g:=fun Y H Q ⟨U,O,st,q⟩=>⟨U,O,st,h _ _ _ (fun d o ⟨b,e,i⟩ v j l f m n=>by subst e;exact⟨b,n.bl_inv,i j l f m⟩) q⟩
theorem di(h:DE X F e ta)(d:∀whole,isTrue e X.env whole=(do let v <-whole;standAt e.pos;holding [v] (truthy v)):=by intro _;rfl):DB X F e (fU ta):=⟨Ah h.mn,(EH h.pe d).imp (Ai h.mn)⟩
theorem kO{op:CmpOp}{r:R2}{f:D2}(h:cD X (compareOp op) r)(o:eN r f)(d:DE X F a ta)(g:DE X F b tb)(i:behindInMarks op b=false):DB X F (.Compare a [op] [b] pos) (fU (cL f ta tb)):=
 ⟨Ah (nP o d.mn g.mn),(zc h d.pe g.pe i).imp fun Y H Q q=>qm o d.mn g.mn Y H _ (Ai (nP o d.mn g.mn) Y H Q q)⟩
noncomputable def IR(t:cx):cx:=fun U Q=>t U fun b d=>Q (!b) d
theorem IS(h:DB X F a tA):DB X F (.UnaryOp .Not a pos) (IR tA):=⟨fun _ _ _ k q=>h.mn _ _ _ (fun _ _ q=>k _ _ q) q,(EQ h.pt).imp fun Y H Q ⟨U,O,st,q⟩=>⟨U,O,st,h.mn _ _ _ (fun b l f g i d j=>f g i d j) q⟩⟩
structure DW (X:Cx) (F:Fx) (e:Expr) (t:cx):Prop where
 mn:ix t
 pw:PW X e (ji X.K F t)
theorem _root_.L2.PW.imp{X:Cx}{e:Expr}{t t':TT}(h:PW X e t)(k:∀Y H Q,t' Y H Q->t Y H Q):PW X e t':=fun f d s Y H Q I q=>h f d s Y H Q I (k Y H Q q)
theorem DW.db{t:cx}(h:DW X F e t):DB X F e t:=⟨h.mn,h.pw.pt⟩
noncomputable def IT(t u:cx):cx:=fun U Q=>t U fun b d=>if b=true then u d Q else Q false d
noncomputable def IU(t u:cx):cx:=fun U Q=>t U fun b d=>if b=true then Q true d else u d Q
theorem IV(h:DB X F a tA):DW X F (.BoolOp .And [a] pos) tA:=⟨h.mn,EL h.pt⟩
theorem IW(h:DB X F a tA):DW X F (.BoolOp .Or [a] pos) tA:=⟨h.mn,EM h.pt⟩
theorem IX{rest:List Expr}(f:DB X F a tA)(g:DW X F (.BoolOp .And (b::rest) pos) tB):DW X F (.BoolOp .And (a::b::rest) pos) (IT tA tB):=
 ⟨fun _ _ _ k q=>f.mn _ _ _ (fun b _ q=>by cases b<;>first | exact k _ _ q | exact g.mn _ _ _ k q) q,(EN f.pt g.pw).imp fun Y H Q ⟨U,O,st,q⟩=>
  ⟨U,O,st,f.mn _ _ _ (fun b m i n j d l=>by
   cases b with
   | true=>exact ed ⟨m,j,d,g.mn _ _ _ (fun b t o p r h s=>o p r h (l.trans s)) (iu i)⟩
   | false=>exact dZ (iw i n j d l)) q⟩⟩
theorem IY{rest:List Expr}(f:DB X F a tA)(g:DW X F (.BoolOp .Or (b::rest) pos) tB):DW X F (.BoolOp .Or (a::b::rest) pos) (IU tA tB):=
 ⟨fun _ _ _ k q=>f.mn _ _ _ (fun b _ q=>by cases b<;>first | exact k _ _ q | exact g.mn _ _ _ k q) q,(EO f.pt g.pw).imp fun Y H Q ⟨U,O,st,q⟩=>
  ⟨U,O,st,f.mn _ _ _ (fun b m i n j d l=>by
   cases b with
   | false=>exact dZ ⟨m,j,d,g.mn _ _ _ (fun b t o p r h s=>o p r h (l.trans s)) (iw i)⟩
   | true=>exact ed (iu i n j d l)) q⟩⟩
noncomputable def IZ(t:cx)(ta tb:DT):DT:=fun U Q=>t U fun b d=>if b=true then ta d Q else tb d Q
theorem Ja(h:DB X F c tA)(i:DE X F a ta)(j:DE X F b tb):DE X F (.IfExp c a b pos) (IZ tA ta tb):=
 ⟨fun _ _ _ k q=>h.mn _ _ _ (fun b _ q=>by cases b<;>first | exact i.mn _ _ _ k q | exact j.mn _ _ _ k q) q,(Fa h.pt i.pe j.pe).imp fun Y H Q ⟨U,O,st,q⟩=>
  ⟨U,O,st,h.mn _ _ _ (fun b r s x t g u=>by
   cases b with
   | true=>exact ed ⟨r,t,g,i.mn _ _ _ (fun d w l v m n f o p=>l v m n f (u.trans o) p) (iu s)⟩
   | false=>exact dZ ⟨r,t,g,j.mn _ _ _ (fun d w l v m n f o p=>l v m n f (u.trans o) p) (iw s)⟩) q⟩⟩
end
abbrev DN:=List PyData->(PyData->Prop)->Prop
structure iy (r:List V->Hp->VK->Prop) (f:DN):Prop where
 mn:∀xs Q Q',(∀d,Q d->Q' d)->f xs Q->f xs Q'
 ok:∀(O:List Addr) (H:Hp) (vs:List V) (xs:List PyData) (Q:VK),(∀p,H p=none->p∉O)->aK (aw O H) vs xs->f xs (fun d=>∀w H',bR H H'->DV (aw O H') w d->Q w H')->r vs H Q
noncomputable def nR(f:DN)(t:dJ):DT:=fun U Q=>t U fun b a=>f b fun d=>Q d a
section
variable{X:Cx}{F:Fx}{e:Expr}{es:List Expr}{tA:dJ}{pos p:Pos}{x:Str}{id T:String}{r:List V->Hp->VK->Prop}{f:DN}
theorem Aj{K:Frag}(o:iy r f)(h:qt tA):∀Y H Q,fT K F (nR f tA) Y H Q->uY r (Ag K F tA) Y H Q:=fun Y H Q ⟨U,O,st,q⟩=>⟨U,O,st,h _ _ _ (fun t u g i j b a k l=>o.ok b j i t Q a.nofree l (o.mn _ _ _ (fun d m w n c s=>m w n b (a.grow c) (k.trans (.same c)) s) g)) q⟩
theorem Ak(o:iy r f)(h:qt tA):Mn (nR f tA):=fun _ _ _ k q=>h _ _ _ (fun _ _ a=>o.mn _ _ _ (fun _ b=>k _ _ b) a) q
theorem fV(d:gj X (.builtin id) r)(o:iy r f)(g:Gl X x)(h:X.mg x=none)(i:bootBuiltins x=some (.builtin id))(a:DA X F (e::es) tA)(j:x≠"__name__":=by decide)(b:(x==("__debug__":Str))=false:=by decide)
  (k:starEach (e::es) X.env=(false,eval e X.env)::starEach es X.env:=by rfl) (c:(backTo pos (starEach es X.env)).any (·.1)=false:=by rfl):DE X F (.Call (.Name x p) (e::es) [] pos) (nR f tA):=
 ⟨Ak o a.mn,(kL d g h i a.pa j b k c).imp (Aj o a.mn)⟩
theorem Jb(d:gj X (.type T) r)(o:iy r f)(g:Gl X x)(h:X.mg x=none)(i:bootBuiltins x=some (.type T))(a:DA X F (e::es) tA)(j:x≠"__name__":=by decide)(b:(x==("__debug__":Str))=false:=by decide)
  (k:starEach (e::es) X.env=(false,eval e X.env)::starEach es X.env:=by rfl) (c:(backTo pos (starEach es X.env)).any (·.1)=false:=by rfl):DE X F (.Call (.Name x p) (e::es) [] pos) (nR f tA):=
 ⟨Ak o a.mn,(zt d g h i a.pa j b k c).imp (Aj o a.mn)⟩
end
noncomputable def Al(n:String)(a:DT):DT:=fun U Q=>a U fun d c=>∃b,(∀K:Frag,kitOne K (.type (vt d)) (.type n)=some b)/\Q (.bool b) c
section
variable{X:Cx}{F:Fx}{e:Expr}{ta:DT}{pos p p2:Pos}{T:String}{x:Str}
theorem jj(i:Gl X "isinstance")(j:X.mg "isinstance" = none)(h:DE X F e ta)(l:PE X (.Name x p2) (tC (.ty T)))
  (g:starEach [e,.Name x p2] X.env=(false,eval e X.env)::starEach [.Name x p2] X.env:=by rfl) (a:starEach [.Name x p2] X.env=(false,eval (.Name x p2) X.env)::starEach [] X.env:=by rfl) (c:(backTo pos (starEach [.Name x p2] X.env)).any (·.1)=false:=by rfl) :
  DE X F (.Call (.Name "isinstance" p) [e,.Name x p2] [] pos) (Al T ta):=
 ⟨fun _ _ _ k q=>h.mn _ _ _ (fun _ _ ⟨b,e,q⟩=>⟨b,e,k _ _ q⟩) q,
  (kL Im i j (show bootBuiltins "isinstance" = some (.builtin "isinstance") by decide +kernel) (da h.pe (da l dQ a) g) (by decide) (by decide) g c).imp fun Y H Q ⟨U,O,st,q⟩=>
  ⟨U,O,st,h.mn _ _ _ (fun d t ⟨b,e,m⟩ v n o f r s=>⟨v,d,T,b,rfl,DV.mono nL s,e,m _ n o f r (.bl b)⟩) q⟩⟩
end
structure eO (g:Heap) (H:Hp) (h:Heap) (a:Addr) (C:Value) (fl:Option Value):Prop where
 gh:∀b o,g.get? b=some o->∃o',h.get? b=some o'
 lo:g.get? a=none
 un:H a=none
 ob:∃oe vs a0,h.get? a=some oe/\oe.cls=C/\oe.data=.fields vs/\vs[0]? = some a0/\
  ((fl=none/\vs[1]? = some .none)\/∃T oT ts f,fl=some f/\vs[1]? = some (.ref T)/\g.get? T=none/\H T=none/\T≠a/\h.get? T=some oT/\oT.data=.fields ts/\ts[3]? = some f)
structure Ch (g:Heap) (H:Hp) (fs:List Addr) (h h':Heap):Prop where
 keep:∀b o,h.get? b=some o->((∃o',g.get? b=some o')\/H b≠none)->b∉fs->h'.get? b=some o
 slot:∀b o,b∈fs->h.get? b=some o->∃sl,h'.get? b=some { o with slots:=sl }
 there:∀b o,h.get? b=some o->∃o',h'.get? b=some o'
theorem Ch.refl{g:Heap}{H:Hp}{fs:List Addr}{h:Heap}:Ch g H fs h h:=⟨fun _ _ e _ _=>e,fun b o _ e=>⟨o.slots,e⟩,fun b o e=>⟨o,e⟩⟩
theorem Ch.trans{g:Heap}{H:Hp}{fs:List Addr}{h h1 h2:Heap}(x:Ch g H fs h h1)(y:Ch g H fs h1 h2):Ch g H fs h h2 where
 keep:=fun b o e q n=>y.keep b o (x.keep b o e q n) q n
 slot:=fun b o m e=>let⟨_,e1⟩:=x.slot b o m e;let⟨sl,e2⟩:=y.slot b _ m e1;⟨sl,e2⟩
 there:=fun b o e=>let⟨o1,e1⟩:=x.there b o e;y.there b o1 e1
theorem bG.some_of{P:Program}{w:World}{H:Hp}{h:Heap}(k:bG P w H h){b:Addr}(e:h.get? b=none):H b=none:=by
 cases q:H b with
 | none=>rfl
 | some u=>
  exfalso;have x:=k b u q;have:∀(u:HO),cw P w H h b u->∃o,h.get? b=some o:=by
   intro u
   induction u with
   | lst d=>exact fun⟨_,_,_,_,e⟩=>⟨_,e⟩
   | tup d=>exact fun⟨_,_,_,o,e,_⟩=>⟨_,e⟩
   | dK a=>exact fun⟨_,_,_,_,o,_,_,e,_⟩=>⟨_,e⟩
   | dT a=>exact fun⟨_,_,_,_,o,_,_,e,_⟩=>⟨_,e⟩
   | set S n=>exact fun⟨o,_,_,_,e,_⟩=>⟨_,e⟩
   | ins C g fs=>exact fun⟨_,_,_,e,_⟩=>⟨_,e⟩
   | own y=>exact fun⟨_,e⟩=>⟨_,e⟩
   | xd fs=>exact fun⟨_,⟨_,_,_,e,_⟩,_⟩=>⟨_,e⟩
   | rng lo i=>exact fun⟨_,_,_,e⟩=>⟨_,e⟩
   | frz ob u _=>exact fun⟨e,_⟩=>⟨_,e⟩
   | tbl j=>exact fun e=>⟨_,e⟩
   | met f y=>exact fun e=>⟨_,e⟩
   | ext φ=>exact fun⟨_,⟨_,e⟩,_⟩=>⟨_,e⟩
  obtain⟨o,c⟩:=this u x;rw[e] at c;cases c
theorem Am{h base a:Heap}:∀{l:List Env},(∀b∈bH l,a.get? b=none)->h.FunFrames base l->h.FunFrames a l
 | [],_,_=>trivial
 | c::r,d,⟨g,⟨L,o,f,_,i,hd⟩,j⟩=>by
  have e:bH (c::r)=L::bH r:=by unfold bH;rw[List.filterMap_cons,f]
  exact⟨g,⟨L,o,f,d L (by rw[e];exact List.mem_cons_self),i,hd⟩,Am (fun b h=>d b (by rw[e];exact bY _ h)) j⟩
section
variable{P:Program}{w:World}{M:Model}{A:Around}{E:Value->Shared->Prop}{s:Shared}{g base:Heap}{H:Hp}{env:Env}{outer:List Env}{L a:Addr}{C fv:Value}{fl:Option Value}
theorem An{t:Obj}{u:Array Value}{head O:Value}{d:Bool}{Q:Unit->Shared->Prop}(v:A.frames=some (env::outer))(y:s.heap.FunFrames base (env::outer))(hf:env.frame=some L)(hk:∀b,s.heap.get? b=none->H b=none)
  (gh:∀b o,g.get? b=some o->∃i,s.heap.get? b=some i) (lo:g.get? a=none) (un:H a=none) (he:s.heap.get? a=some t) (hc:t.cls=C) (hd:t.data=.fields u) (B:1<u.size) (h0:u[0]? = some O)
  (h:∀f,Ch g H (bH (env::outer)) s.heap f->eO g H f a C (some (rawInt L))->Q () { s with heap:=f }) :
  wpAny M A (do let x <-frameOf env;let pl <-entryPlaceOf L d;let b <-EntryCells.newEntry head x .none (rawInt L) .none pl;setField (.ref a) 1 b) Q E s:=by
 refine wpAny_entryW (base:=PySem.W.hideAll s.heap (a::bH (env::outer))) v (Am (fun b k=>PySem.W.hideAll_none _ (bY _ k)) y) hf he (fun b o e=>PySem.W.of_hideAll _ e) (PySem.W.hideAll_none _ List.mem_cons_self) hd B h0 fun f ⟨k1,k2,k3,k4⟩=>?_;obtain⟨D,G,T,oT,R,S,⟨e2,I⟩,e3,e4,U,X,Y,Z,e9⟩:=k3;have m:∀b o,b∈bH (env::outer)->s.heap.get? b=some o->∃m,f.get? b=some { o with slots:=m }:=fun b o k e=>by obtain⟨_,i,c,J⟩:=y.mem k;rw[e] at c;cases c;exact k4 b o e J
 have kp:∀b o,s.heap.get? b=some o->b≠a->b∉bH (env::outer)->f.get? b=some o:=fun b o e p r=>k1 b o (PySem.W.hideAll_get _ e fun z=>(List.mem_cons.mp z).elim p r);have hT:g.get? T=none/\H T=none:=by
  cases q:s.heap.get? T with
  | some o=>
   exfalso
   by_cases j:T∈bH (env::outer)
   ·obtain⟨_,i,c,J⟩:=y.mem j;rw[q] at c;cases c;obtain⟨N,l⟩:=m T o j q;rw[Y] at l;cases l;exact J R Z
   ·rw[PySem.W.hideAll_get _ q (fun z=>(List.mem_cons.mp z).elim X j)] at U;cases U
  | none=>
   refine⟨?_,hk T q⟩;cases q2:g.get? T with
   | none=>rfl
   | some o=>obtain⟨i,c⟩:=gh T o q2;rw[q] at c;cases c
 have ch:Ch g H (bH (env::outer)) s.heap f:=⟨fun b o e q n=>kp b o e (fun z=>?_) n,fun b o k e=>m b o k e,fun b o e=>?_⟩
 ·refine h f ch ⟨fun b o e=>?_,lo,un,D,G,O,S,e2.trans hc,e3,I,.inr ⟨T,oT,R,_,rfl,e4,hT.1,hT.2,X,Y,Z,e9⟩⟩;obtain⟨i,c⟩:=gh b o e;exact ch.there b i c
 ·subst z;rcases q with⟨i,q⟩ | q
  ·rw[lo] at q;cases q
  ·exact q un
 ·by_cases r:b∈bH (env::outer)
  ·obtain⟨N,c⟩:=m b o r e;exact⟨_,c⟩
  ·by_cases p:b=a
   ·subst p;exact⟨_,S⟩
   ·exact⟨o,kp b o e p r⟩
theorem Jc{h:Heap}{l:List Env}{T:Addr}{d:Obj}{e:Array Value}{f:Obj->Obj}(i:h.FunFrames base l)(j:h.get? T=some d)(hd:d.data=.fields e):(h.update T f).FunFrames base l:=
 i.of_keeps fun b o c k=>⟨o,by rw[Heap.get?_update_other _ _ (fun z=>k e (by subst z;rw[j] at c;cases c;exact hd))];exact c,rfl⟩
theorem Ao{h:Heap}{fs:List Addr}{T:Addr}{c:Obj}{i:Array Value}{f:Array Value->Array Value}(j:h.get? T=some c)(hd:c.data=.fields i)(k:g.get? T=none)(l:H T=none)(d:T∉fs):Ch g H fs h (h.update T (Obj.mapFields f)):=by
 have self:(h.update T (Obj.mapFields f)).get? T=some (c.mapFields f):=Heap.get?_update_self _ j (Obj.isFreed_of_fields (Obj.data_mapFields hd f));refine⟨fun b o e q n=>?_,fun b o m e=>⟨o.slots,?_⟩,fun b o e=>?_⟩
 ·rw[Heap.get?_update_other _ _ (fun z=>?_)]
  ·exact e
  ·subst z;rcases q with⟨p,q⟩ | q
   ·rw[k] at q;cases q
   ·exact q l
 ·rw[Heap.get?_update_other _ _ (fun z=>d (by rw[z];exact m))];exact e
 ·by_cases z:b=T
  ·subst z;exact⟨_,self⟩
  ·exact⟨o,by rw[Heap.get?_update_other _ _ (Ne.symm z)];exact e⟩
theorem Ap{Q:Unit->Shared->Prop}(k:A.frames=some (env::outer))(t:s.heap.FunFrames base (env::outer))(u:env.frame=some L)(J:∀b,s.heap.get? b=none->H b=none)(x:eO g H s.heap a C fl)
  (h:∀l,Ch g H (bH (env::outer)) s.heap l->eO g H l a C (some (rawInt L))->Q () { s with heap:=l }):wpAny M A (noteFrame (.ref a) env) Q E s:=by
 obtain⟨I,lo,un,N,R,S,m,v,hd,y,U⟩:=x;unfold noteFrame;simp only[u];rcases U with⟨_,h1⟩ | ⟨T,X,O,f,_,h1,n,p,r,j,c,h3⟩
 ·refine az (wpAny_field m hd h1 ?_);rw[if_neg (by decide)];exact An k t u J I lo un m v hd (Array.getElem?_eq_some_iff.mp h1).1 y h
 ·refine az (wpAny_field m hd h1 ?_);rw[if_pos (show(Value.ref T != Value.none)=true from by simp)];refine az (wpAny_field j c h3 ?_)
  by_cases d:(f==rawInt L)=true
  ·rw[if_pos d];have e:f=rawInt L:=by simpa using d
   subst e;exact bp (h s.heap .refl ⟨I,lo,un,N,R,S,m,v,hd,y,.inr ⟨T,X,O,_,rfl,h1,n,p,r,j,c,h3⟩⟩)
  ·rw[if_neg d];refine az (wpAny_setField j c (Array.getElem?_eq_some_iff.mp h3).1 ?_);have B:T∉bH (env::outer):=fun z=>by obtain⟨_,D,i,Y⟩:=t.mem z;rw[j] at i;cases i;exact Y O c
   have G:=Ao (g:=g) (H:=H) (f:=(·.setIfInBounds 3 Value.none)) j c n p B;refine An (s:={ s with heap:=s.heap.update T (Obj.mapFields (·.setIfInBounds 3 Value.none)) }) k (Jc t j c) u (fun b e=>?_) (fun b o e=>?_) lo un ?_ v hd (Array.getElem?_eq_some_iff.mp h1).1 y fun l ch Z=>h l (G.trans ch) Z
   ·refine J b ?_;cases q:s.heap.get? b with
    | none=>rfl
    | some o=>obtain⟨D,i⟩:=G.there b o q;rw[show({ s with heap:=s.heap.update T (Obj.mapFields (·.setIfInBounds 3 Value.none)) }:Shared).heap=s.heap.update T (Obj.mapFields (·.setIfInBounds 3 Value.none)) from rfl] at e;rw[e] at i;cases i
   ·obtain⟨D,i⟩:=I b o e;exact G.there b D i
   ·show(s.heap.update T _).get? a=some N;rw[Heap.get?_update_other _ _ r];exact m
theorem qu{Q:Unit->Shared->Prop}{fs:List Addr}(m:Option Addr)(n:∀b∈fs,∃o,s.heap.get? b=some o/\∀p,o.data≠.fields p)(x:eO g H s.heap a C (some fv))
  (h:∀q,Ch g H fs s.heap q->eO g H q a C (some (m.elim Value.none fun f=>rawInt f))->Q () { s with heap:=q }):wpAny M A (setFlight (.ref a) m) Q E s:=by
 obtain⟨S,lo,un,y,p,B,t,D,hd,G,I⟩:=x;rcases I with⟨z,_⟩ | ⟨T,U,J,f,_,h1,d,i,j,l,c,h3⟩
 ·cases z
 ·unfold setFlight;refine az (wpAny_field t hd h1 ?_);rw[if_pos (show(Value.ref T != Value.none)=true from by simp)];have r:T∉fs:=fun z=>by obtain⟨o,u,N⟩:=n T z;rw[l] at u;cases u;exact N J c
  have k:=(Array.getElem?_eq_some_iff.mp h3).1;have v:=Ao (g:=g) (H:=H) (f:=(·.setIfInBounds 3 (m.elim Value.none fun f=>rawInt f))) l c d i r;refine wpAny_setField l c k (h _ v ⟨fun b o e=>?_,lo,un,y,p,B,?_,D,hd,G,.inr ⟨T,_,_,_,rfl,h1,d,i,j,Heap.get?_update_self _ l (Obj.isFreed_of_fields (Obj.data_mapFields c _)),Obj.data_mapFields c _,?_⟩⟩)
  ·obtain⟨O,R⟩:=S b o e;exact v.there b O R
  ·rw[Heap.get?_update_other _ _ j];exact t
  ·simp[k]
theorem qv{h:Heap}{l:List Env}(c:h.FunFrames base l):∀b∈bH l,∃o,h.get? b=some o/\∀d,o.data≠.fields d:=fun b f=>let⟨_,o,e,n⟩:=c.mem f;⟨o,e,n⟩
theorem Ch.frames{fs:List Addr}{h d:Heap}{l:List Env}(c:Ch g H fs h d)(f:∀b∈bH l,b∈fs)(j:h.FunFrames base l):d.FunFrames base l:=by
 induction l with
 | nil=>trivial
 | cons env r k=>
  obtain⟨m,⟨L,o,i,n,p,hd⟩,q⟩:=j;have e:bH (env::r)=L::bH r:=by unfold bH;rw[List.filterMap_cons,i]
  obtain⟨v,t⟩:=c.slot L o (f L (by rw[e];exact List.mem_cons_self)) p;exact⟨m,⟨L,_,i,n,t,hd⟩,k (fun b u=>f b (by rw[e];exact bY _ u)) q⟩
theorem Aq{Q:Unit->Shared->Prop}(c:A.frames=some (env::outer))(e:s.heap.FunFrames base (env::outer))(i:env.frame=some L)(j:∀b,s.heap.get? b=none->H b=none)(x:eO g H s.heap a C fl)
  (h:∀d,Ch g H (bH (env::outer)) s.heap d->eO g H d a C (some .none)->Q () { s with heap:=d }):wpAny M A (leaving env (.ref a)) Q E s:=by
 unfold leaving;refine az (Ap c e i j x fun n f k=>?_);refine qu (s:={ s with heap:=n }) (fs:=bH (env::outer)) none (qv (f.frames (fun _ h=>h) e)) k fun o l m=>h o (f.trans l) m
end
structure jk (X:Cx) (pins:List (Addr×Obj)) (g:Heap):Prop where
 s0:∀b o,X.s₀.heap.get? b=some o->b∉X.ex->∃o',g.get? b=some o'
 loc:∃o,g.get? X.env.locals=some o
 cell:∀x c,X.env.cells.lookup x=some c->∃o,g.get? c=some o
 pin:∀p∈X.pn++pins,∃o,g.get? p.1=some o
section
variable{X:Cx}{pins:List (Addr×Obj)}{Y:St}{H:Hp}{s:Shared}{g h':Heap}
theorem _root_.L2.Inv.cov(I:Inv X pins Y H s):jk X pins s.heap:=by
 refine⟨fun b o e n=>I.base.there b o e n,?_,fun x c e=>?_,fun p d=>⟨_,(I.pin p d).1⟩⟩
 ·obtain⟨m,⟨o,f,h,a,_⟩,_⟩:=I.loc;exact⟨o,a⟩
 ·obtain⟨v,o,a,_⟩:=I.cell x c e;exact⟨o,a⟩
theorem _root_.L2.Inv.stkIn(I:Inv X pins Y H s){b:Addr}(h:b∉bH X.stack):b∉X.fs:=by
 rcases I.ok.stk with e | ⟨e,a⟩
 ·rw[e] at h;exact h
 ·rw[e] at h;unfold bH at h;rw[List.filterMap_cons,a] at h;exact fun z=>h (bY _ z)
theorem _root_.L2.Inv.stkOut(I:Inv X pins Y H s){b:Addr}(h:b∉X.fs)(a:b≠X.env.locals):b∉bH X.stack:=fun z=>(List.mem_cons.mp (I.stkSub b z)).elim a h
theorem Jd{h h':Heap}{a:Addr}{m:Str->Option Value}(k:∀o,h.get? a=some o->∃b,h'.get? a=some { o with slots:=b })(c:h.Ns a m):h'.Ns a m:=by obtain⟨o,d,e,f,hd,r⟩:=c;obtain⟨b,i⟩:=k o f;exact⟨_,d,e,i,hd,r⟩
theorem _root_.L2.Inv.ch(I:Inv X pins Y H s)(C:jk X pins g)(c:Ch g H (bH X.stack) s.heap h'):Inv X pins Y H { s with heap:=h' }:=by
 have M:∀b o,s.heap.get? b=some o->H b≠none->h'.get? b=some o:=fun b o e n=>c.keep b o e (.inr n) fun z=>n (I.stkFree b z);have G:∀x a,X.env.cells.lookup x=some a->∀o,s.heap.get? a=some o->∃A,h'.get? a=some A/\A.data=o.data:=fun x a e o h=>by
  by_cases t:a∈bH X.stack
  ·obtain⟨T,y⟩:=c.slot a o t h;exact⟨_,y,rfl⟩
  ·exact⟨o,c.keep a o h (.inl (C.cell x a e)) t,rfl⟩
 refine⟨I.ok,I.os,I.bare,⟨fun b o e n B w=>?_,fun b o e n B w=>?_,fun b o e n w=>I.base.free b o e n w,fun b o e w=>?_,I.base.tups,I.base.frzs,I.base.tbls⟩,?_,fun x a e=>?_,I.free,I.freeC,fun p J=>?_,fun b u e=>?_,I.len⟩
 ·have y:=I.base.keep b o e n B w;refine c.keep b o y (.inl (C.s0 b o e w)) (I.stkOut B fun z=>?_);have j:=I.ok.above;have f:b<X.s₀.heap.objs.size:=bC e;rw[z] at f;exact Nat.lt_irrefl _ (Nat.lt_of_lt_of_le f j)
 ·obtain⟨T,y⟩:=I.base.slot b o e n B w
  by_cases t:b∈bH X.stack
  ·obtain⟨E,N⟩:=c.slot b _ t y;exact⟨E,N⟩
  ·exact absurd B (I.stkIn t)
 ·obtain⟨O,y⟩:=I.base.there b o e w;exact c.there b O y
 ·obtain⟨m,Q,R⟩:=I.loc;refine⟨m,Jd (fun o h=>?_) Q,fun i x v j f D=>?_⟩
  ·by_cases t:X.env.locals∈bH X.stack
   ·exact c.slot _ o t h
   ·exact⟨o.slots,c.keep _ o h (.inl C.loc) t⟩
  ·obtain⟨u,r,l⟩:=R i x v j f D;refine⟨u,r,?_⟩;rcases l with l | ⟨k,a,e,o,h,hd⟩
   ·exact .inl l
   ·obtain⟨A,j,f⟩:=G x a e o h;exact .inr ⟨k,a,e,A,j,f.trans hd⟩
 ·obtain⟨v,o,h,hd⟩:=I.cell x a e;obtain⟨A,j,f⟩:=G x a e o h;exact⟨v,A,j,f.trans hd⟩
 ·obtain⟨j,f,D,L,S⟩:=I.pin p J;exact⟨c.keep _ _ j (.inl (C.pin p J)) (I.stkOut L D),f,D,L,S⟩
 ·refine(I.hok b u e).stay (fun d v hd q=>M d v q ?_) (fun _ q=>q) fun _ _ q=>q;rcases hd with rfl | hd
  ·rw[e];exact fun z=>by cases z
  ·rw[hd];exact fun z=>by cases z
noncomputable def aU(P:Program)(w:World):fB:=fun b H s E e c=>∃a C d,e=.ref a/\c.os=s.os/\AllBare c.gens/\Un (bH b) [] H d s.heap c.heap/\bG P w d c.heap/\eO s.heap d c.heap a C (some .none)/\E C none d
structure Je (X:Cx) (pins:List (Addr×Obj)) (Y:St) (H:Hp) (s:Shared) (e:Value) (c:Str):Prop where
 inv:Inv X pins Y H s
 ex:∃a C g fl,e=.ref a/\jk X pins g/\eO g H s.heap a C fl/\X.mg c=some C
noncomputable def glob(x:Str):Option PyData:=if x="ANY_ZONE" then some (.tuple [.int 0,.tuple []]) else if x="NO_DEEDS" then some (.tuple []) else none
noncomputable def fg:HO->Bool
 | .tup _=>true
 | .frz _ (.tup _)=>true
 | _=>false
theorem Jf{u:HO}(h:fg u=true):¬ Mv u:=fun m=>by
 cases u with
 | tup _=>exact m
 | frz _ _=>exact m
 | _=>cases h
noncomputable def nU(H:Hp):Hp:=fun b=>match H b with
 | some u=>if fg u=true then some u else none
 | none=>none
theorem Jg{H:Hp}{b:Addr}{o:HO}(h:nU H b=some o):fg o=true/\H b=some o:=by
 unfold nU at h;split at h
 ·rename_i u e;split at h
  ·rename_i t;cases h;exact⟨t,e⟩
  ·cases h
 ·cases h
theorem Jh{H:Hp}{b:Addr}{u:HO}(t:fg u=true)(h:H b=some u):nU H b=some u:=by unfold nU;rw[h];exact if_pos t
def GH(a:Str->Option Value)(H:Hp):Prop:=∀x d u,glob x=some d->a x=some u->∃v,bj v u/\DV (nU H) v d
def GF(a:Str->Option Value)(F:Fx):Prop:=GH a fun b=>if b∈F.A₀ then none else F.H₀ b
theorem GH.mono{c:Str->Option Value}{H a:Hp}(g:GH c H)(k:∀b u,fg u=true->H b=some u->a b=some u):GH c a:=fun x d u i j=>by obtain⟨v,r,f⟩:=g x d u i j;exact⟨v,r,DV.mono (fun b o e=>by obtain⟨t,h⟩:=Jg e;exact Jh t (k b o t h)) f⟩
theorem GF.at{a:Str->Option Value}{K:Frag}{F:Fx}{H:Hp}{Y:St}{U:ak}{O:List Addr}(g:GF a F)(st:aC K F H Y U O):GH a H:=GH.mono g fun b d t e=>by
 obtain⟨W,st,rfl⟩:=st;split at e
 ·cases e
 ·rename_i c;exact st.kept b _ c e
theorem GH.frame{d:Str->Option Value}{H:Hp}{A O:List Addr}{io:Nat->Addr}(g:GH d H)(h:∀a∈A,∃o,H a=some o/\Mv o):GF d ⟨H,A,O,io⟩:=GH.mono g fun b f t e=>by show(if b∈A then none else H b)=_;rw[if_neg,e];intro z;obtain⟨o,c,m⟩:=h b z;rw[e] at c;cases c;exact Jf t m
theorem GF.into{b:Str->Option Value}{K:Frag}{F:Fx}{H:Hp}{Y:St}{U:ak}{O c:List Addr}{io:Nat->Addr}(g:GF b F)(st:aC K F H Y U O):GF b ⟨H,[],c,io⟩:=(g.at st).frame fun a h=>by cases h
def dS(X:Cx)(F:Fx)(E:Str->ak->Prop):Prop:=GF X.mg F/\∀(pins:List (Addr×Obj)) (Y:St) (H:Hp) (s:Shared) (e:Value) (c:Str) (U:ak) (O:List Addr),Je X pins Y H s e c->aC X.K F H Y U O->E c U->X.xe e s
theorem eO.weak{g c:Heap}{H:Hp}{h:Heap}{a:Addr}{C:Value}{j:Option Value}(x:eO g H h a C j)(k:∀b o,c.get? b=some o->∃d,g.get? b=some d):eO c H h a C j:=by
 have l:∀b,g.get? b=none->c.get? b=none:=fun b e=>by
  cases q:c.get? b with
  | none=>rfl
  | some o=>obtain⟨d,i⟩:=k b o q;rw[e] at i;cases i
 obtain⟨A,lo,un,m,n,p,r,t,hd,u,v⟩:=x;refine⟨fun b o e=>let⟨d,i⟩:=k b o e;A b d i,l a lo,un,m,n,p,r,t,hd,u,v.imp id ?_⟩;rintro⟨T,w,y,f,h1,h2,h3,z⟩;exact⟨T,w,y,f,h1,h2,l T h3,z⟩
theorem _root_.L2.Inv.flies{E:XK}{e:Value}{f:Shared}(I:Inv X pins Y H s)(h:aU X.prog X.w X.stack H s E e f):∃a C c,e=.ref a/\Inv X pins Y c f/\jk X pins s.heap/\eO s.heap c f.heap a C (some .none)/\E C none c:=by obtain⟨a,C,c,j,os,bare,un,hok,ex,q⟩:=h;obtain⟨k,g,d,t,i⟩:=f;obtain rfl:i = s.os:=os;exact⟨a,C,c,j,I.call (h':=k) (g':=g) (d':=d) (t':=t) (ch:=[]) un hok bare (fun b z=>absurd z (by simp)),I.cov,ex,q⟩
end
theorem Ji{P:Program}{w:World}{K:Frag}{m:Str->Option Value}{base:Heap}{N:List Str}{i:Str}{d:Scope}{f:Addr}{j:Value}{A:Around}{h:List Env}{s:Shared}{H:Hp}{E:XK}{F:Fx}{n:Str->ak->Prop}
  (v:GF m F) (x:∀c C p y r B,m c=some C->aC K F r y p B->n c p->E C none r):dS (jd (aU P w) P w K m base N i d f j A h s H E) F n:=by
 refine⟨v,?_⟩;intro t Y k D e c U O ⟨I,a,C,g,S,G,u,ex,L⟩ st q;subst G;have M:(A.deeper (envOfC i d s.heap.objs.size f j)).frames=some (envOfC i d s.heap.objs.size f j::h):=I.ok.frames;have Q:∀b,D.heap.get? b=none->k b=none:=fun b z=>bG.some_of I.hok z;have stk:bH (envOfC i d s.heap.objs.size f j::h)=s.heap.objs.size::bH h:=rfl;refine Aq (base:=base) M I.stack rfl Q ex fun T ch l=>?_;have J:=I.ch u ch;refine⟨a,C,k,rfl,J.os,J.bare,J.base,J.hok,l.weak fun b o R=>u.s0 b o R (by intro z;cases z),x c C U Y k O L st q⟩
noncomputable def Fx.plus(F:Fx)(a:List Addr):Fx:={ F with O₀:=a++F.O₀ }
theorem Fx.plus_plus{F:Fx}{l m:List Addr}:(F.plus l).plus m=F.plus (m++l):=by unfold Fx.plus;simp
section
variable{K:Frag}{F:Fx}{H H':Hp}{Y:St}{U:ak}{O O':List Addr}{W:List (List Addr)}{fp:List Addr}{v:V}{c:ai}
structure eA (K:Frag) (F:Fx) (H:Hp) (Y:St) (U:ak) (O:List Addr) (v:V) (c:ai) (fp:List Addr):Prop where
 st:aC K (F.plus fp) H Y U O
 at_:cP K H O v c fp
 new:∀a∈fp,a∈F.A₀\/F.H₀ a=none
theorem eB(h:∀a∈O',a∈O):aL O H O' H:=⟨fun _ _ _ e=>e,fun a z=>.inl (h a z)⟩
theorem bS.less{b:Fx}(st:bS K F H Y U W)(d:b.H₀=F.H₀)(f:b.A₀=F.A₀)(g:b.I₀=F.I₀)(m:b.O₀.Sublist F.O₀):bS K b H Y U W:=by have sub:(W.flatten++b.O₀).Sublist (W.flatten++F.O₀):=List.Sublist.append (List.Sublist.refl _) m;have mem:∀a∈W.flatten++b.O₀,a∈W.flatten++F.O₀:=fun a h=>sub.subset h;refine⟨fun i c e=>?_,st.nd.sublist sub,by rw[d,f];exact st.kept,by rw[d,f];exact st.new,fun a h=>st.live a (mem a h),st.len,st.lw,by rw[g];exact st.io⟩;obtain⟨v,fp,j,k,l⟩:=st.at_ i c e;exact⟨v,fp,j,k,l.keep (eB mem) (fun _ _=>rfl) (fun _ _ _ e=>e)⟩
theorem aC.unplus(st:aC K (F.plus fp) H Y U O):∃O',aC K F H Y U O'/\aL O H O' H/\(∀a∈fp,a∉O'):=by
 obtain⟨W,st,rfl⟩:=st;have b:bS K F H Y U W:=st.less rfl rfl rfl (List.sublist_append_right _ _);refine⟨_,⟨W,b,rfl⟩,eB fun a h=>?_,fun a d z=>?_⟩
 ·rcases List.mem_append.mp h with h | h
  ·exact bi _ h
  ·exact bh _ (bh _ h)
 ·have nd:(W.flatten++(fp++F.O₀)).Nodup:=st.nd;obtain⟨_,e,f⟩:=List.nodup_append.mp nd;rcases List.mem_append.mp z with z | z
  ·exact f a z a (bi _ d) rfl
  ·exact(List.nodup_append.mp e).2.2 a d a z rfl
theorem eA.drop(r:eA K F H Y U O v c fp):∃O',aC K F H Y U O'/\aL O H O' H:=let⟨O',h1,h2,_⟩:=r.st.unplus;⟨O',h1,h2⟩
@[simp] noncomputable def frz:ai->Option PyData
 | .dat d=>some d
 | .own _ (.l ds)=>some (.list ds)
 | _=>none
theorem eA.frz{d:PyData}(r:eA K F H Y U O v c fp)(e:frz c=some d):∃O',aC K F H Y U O'/\aL O H O' H/\DV (aw O' H) v d:=by
 obtain⟨O',h1,h2,h3⟩:=r.st.unplus;refine⟨O',h1,h2,?_⟩;have f:=r.at_;cases c with
 | dat x=>cases e;exact DV.mono h2.hid f
 | scr ns=>cases e
 | exc c=>cases e
 | vw c=>cases e
 | own io b=>
  cases b with
  | l ds=>cases e;obtain⟨a,rfl,rfl,i,g,h⟩:=f;exact .lst (gk g (h3 a (by simp))) (aK.mono h2.hid h)
  | m _ _=>cases e
  | o _ _=>cases e
  | sd _=>cases e
  | ll _=>cases e
  | pr _ _ _=>cases e
theorem Jj(st:aC K F H Y U O){d:PyData}(h:DV (aw O H) v d):eA K F H Y U O v (.dat d) []:=⟨st,h,fun a h=>by cases h⟩
theorem aC.put1{io:Bool}(st:aC K (F.plus fp) H Y U O)(s:cP K H O v c fp)(new:∀a∈fp,a∈F.A₀\/F.H₀ a=none){i:Nat}(n:i<U.length)(o:∀b,c=.own true b->v=.ref (F.I₀ i)) :
  ∃O',aC K F H (Y.set i (some v)) (U.set i (some c)) O'/\aL O H O' H:=by
 obtain⟨W,st,rfl⟩:=st;have nd:(W.flatten++(fp++F.O₀)).Nodup:=st.nd;obtain⟨t,u,r⟩:=List.nodup_append.mp nd;obtain⟨x,y,A⟩:=List.nodup_append.mp u;have p:i<W.length:=by rw[st.lw];exact n
 have sub:∀a∈(W.set i fp).flatten++F.O₀,a∈W.flatten++(fp++F.O₀):=fun a h=>by
  rcases List.mem_append.mp h with h | h
  ·rcases ff h with h | ⟨j,l,_,e,q⟩
   ·exact bh _ (bi _ h)
   ·exact bi _ (bL e q)
  ·exact bh _ (bh _ h)
 have f:=eB (H:=H) sub;refine⟨_,⟨W.set i fp,⟨fun j d e=>?_,nN (List.nodup_append.mpr ⟨t,y,fun a k b B=>r a k b (bh _ B)⟩) x fun a k=>⟨fun j l _ e z=>r a (bL e z) a (bi _ k) rfl,fun z=>A a k a z rfl⟩,st.kept,fun a h=>?_,fun a h=>st.live a (sub a h),by rw[List.length_set,List.length_set,st.len],by rw[List.length_set,List.length_set,st.lw],fun j b e=>?_⟩,rfl⟩,f⟩
 ·rcases fS e with⟨rfl,g,_⟩ | ⟨m,g⟩
  ·cases g;exact⟨v,fp,List.getElem?_set_self (by rw[<-st.len];exact n),List.getElem?_set_self p,s.keep f (fun _ _=>rfl) (fun _ _ _ e=>e)⟩
  ·obtain⟨w,l,h1,h2,h3⟩:=st.at_ j d g;exact⟨w,l,by rw[List.getElem?_set_ne (Ne.symm m)];exact h1,by rw[List.getElem?_set_ne (Ne.symm m)];exact h2,h3.keep f (fun _ _=>rfl) (fun _ _ _ e=>e)⟩
 ·rcases ff h with h | ⟨j,l,_,e,q⟩
  ·exact new a h
  ·exact st.new a (bL e q)
 ·rcases fS e with⟨rfl,g,_⟩ | ⟨m,g⟩
  ·rw[List.getElem?_set_self (by rw[<-st.len];exact n),o b (Option.some.inj g).symm]
  ·rw[List.getElem?_set_ne (Ne.symm m)];exact st.io j b g
theorem aC.take(st:aC K F H Y U O){i:Nat}{io:Bool}{b:Bx}(e:U[i]? = some (some (.own io b))):∃a fp O',Y[i]? = some (some (.ref a))/\aC K (F.plus fp) H Y (U.set i none) O'/\fe (aw O' H) H a b fp/\aL O H O' H/\aL O' H O H/\(∀a∈fp,a∈F.A₀\/F.H₀ a=none)/\(io=true->a=F.I₀ i):=by
 obtain⟨W,st,rfl⟩:=st;obtain⟨v,fp,h1,h2,a,rfl,h3⟩:=st.at_ i _ e;have G:i<U.length:=(List.getElem?_eq_some_iff.mp e).1;have I:i<W.length:=by rw[st.lw];exact G
 obtain⟨D,J,L⟩:=List.nodup_append.mp st.nd;have E:∀x∈(W.set i []).flatten++(fp++F.O₀),x∈W.flatten++F.O₀:=fun x h=>by
  rcases List.mem_append.mp h with h | h
  ·rcases ff h with h | ⟨j,l,_,g,m⟩
   ·cases h
   ·exact bi _ (bL g m)
  ·rcases List.mem_append.mp h with h | h
   ·exact bi _ (bL h2 h)
   ·exact bh _ h
 have M:∀x∈W.flatten++F.O₀,x∈(W.set i []).flatten++(fp++F.O₀):=fun x h=>by
  rcases List.mem_append.mp h with h | h
  ·obtain⟨l,m,f⟩:=List.mem_flatten.mp h;obtain⟨j,n⟩:=List.getElem?_of_mem m
   by_cases s:j=i
   ·subst s;rw[h2] at n;cases n;exact bh _ (bi _ f)
   ·exact bi _ (Ip s n f)
  ·exact bh _ (bh _ h)
 have t:fp.Nodup:=by
  have:∀{W:List (List Addr)}{i:Nat}{l:List Addr},W.flatten.Nodup->W[i]? = some l->l.Nodup:=fun {W i l} R m=>R.sublist (by
   have:=List.mem_of_getElem? m;exact List.sublist_flatten_of_mem this)
  exact this D h2
 have u:((W.set i []).flatten++(fp++F.O₀)).Nodup:=by
  have q:((W.set i []).flatten++([]++F.O₀)).Nodup:=nN (fp:=[]) (O:=F.O₀) st.nd List.nodup_nil (fun a h=>by cases h);obtain⟨A,_,B⟩:=List.nodup_append.mp q;refine List.nodup_append.mpr ⟨A,List.nodup_append.mpr ⟨t,J,fun x f y o z=>L x (bL h2 f) y o z⟩,fun x f y o z=>?_⟩;subst z;rcases List.mem_append.mp o with o | o
  ·rcases ff f with f | ⟨j,l,n,g,m⟩
   ·cases f
   ·exact jJ D h2 g (Ne.symm n) o m
  ·exact B x f x o rfl
 have p:=eB (H:=H) E;have k:=eB (H:=H) M;refine⟨a,fp,_,h1,⟨W.set i [],⟨fun j d g=>?_,u,st.kept,fun x h=>?_,fun x h=>st.live x (E x h),by rw[List.length_set,st.len],by rw[List.length_set,List.length_set,st.lw],fun j N g=>?_⟩,rfl⟩,h3.keep (fun _ _=>rfl) p.hid,p,k,fun x f=>st.new x (bL h2 f),fun C=>?_⟩
 ·rcases fS g with⟨rfl,r,_⟩ | ⟨n,r⟩
  ·cases r
  ·obtain⟨w,l,A,Q,B⟩:=st.at_ j d r;exact⟨w,l,A,by rw[List.getElem?_set_ne (Ne.symm n)];exact Q,B.keep p (fun _ _=>rfl) (fun _ _ _ e=>e)⟩
 ·rcases ff h with h | ⟨j,l,_,g,m⟩
  ·cases h
  ·exact st.new x (bL g m)
 ·rcases fS g with⟨rfl,r,_⟩ | ⟨n,r⟩
  ·cases r
  ·exact st.io j N r
 ·subst C;have:=st.io i b e;rw[h1] at this;cases this;rfl
theorem aC.swap{L L':List Addr}(st:aC K (F.plus L) H Y U O)(keep:∀b o,b∉L->H b=some o->H' b=some o)(D:L'.Nodup)(new:∀a∈L',a∈L\/H a=none)(t:∀a∈L,a∈F.A₀\/F.H₀ a=none)(l:∀a∈L',∃o,H' a=some o/\Mv o) :
  ∃O',aC K (F.plus L') H' Y U O'/\aL O H O' H'/\(∀a∈L',a∈O')/\(∀a∈O',a∈L'\/a∈O/\a∉L)/\∀a∈O,a∉L->a∈O':=by
 obtain⟨W,st,rfl⟩:=st;have m:(W.flatten++(L++F.O₀)).Nodup:=st.nd;obtain⟨w,x,p⟩:=List.nodup_append.mp m;obtain⟨E,y,A⟩:=List.nodup_append.mp x;have wl:∀a∈W.flatten,a∉L:=fun a h z=>p a h a (bi _ z) rfl;have ol:∀a∈F.O₀,a∉L:=fun a h z=>A a z a h rfl;have j:∀a∈W.flatten++F.O₀,∃o,H a=some o/\Mv o:=fun a h=>st.live a (by
  rcases List.mem_append.mp h with h | h
  ·exact bi _ h
  ·exact bh _ (bh _ h))
 have kp:∀a∈W.flatten++F.O₀,H' a=H a:=fun a h=>by obtain⟨o,e,_⟩:=j a h;rw[e];exact keep a o ((List.mem_append.mp h).elim (wl a) (ol a)) e
 have ap:∀a∈L',a∉W.flatten++F.O₀:=fun a h z=>by
  rcases new a h with q | q
  ·rcases List.mem_append.mp z with z | z
   ·exact wl a z q
   ·exact ol a z q
  ·obtain⟨o,e,_⟩:=j a z;rw[q] at e;cases e
 have f:aL (W.flatten++(L++F.O₀)) H (W.flatten++(L'++F.O₀)) H':=⟨fun b o d e=>keep b o (fun z=>d (bh _ (bi _ z))) e,fun a h=>by
  rcases List.mem_append.mp h with h | h
  ·exact .inl (bi _ h)
  ·rcases List.mem_append.mp h with h | h
   ·exact(new a h).imp (fun z=>bh _ (bi _ z)) id
   ·exact .inl (bh _ (bh _ h))⟩
 have B:∀b o u,H b=some (.frz o u)->H' b=some (.frz o u):=fun b o u e=>keep b _ (fun z=>st.nofrz (bh _ (bi _ z)) e) e;refine⟨_,⟨W,⟨fun i c e=>?_,?_,fun b o d e=>?_,st.new,fun a h=>?_,st.len,st.lw,st.io⟩,rfl⟩,f,fun a h=>bh _ (bi _ h),fun a h=>?_,fun a h C=>?_⟩
 ·obtain⟨v,fp,h1,h2,h3⟩:=st.at_ i c e;exact⟨v,fp,h1,h2,h3.keep f (fun b d=>kp b (bi _ (bL h2 d))) B⟩
 ·refine List.nodup_append.mpr ⟨w,List.nodup_append.mpr ⟨D,y,fun a k b d z=>?_⟩,fun a k b d z=>?_⟩
  ·subst z;exact ap a k (bh _ d)
  ·subst z;rcases List.mem_append.mp d with d | d
   ·exact ap a d (bi _ k)
   ·exact p a k a (bh _ d) rfl
 ·have g:=st.kept b o d e
  by_cases r:b∈L
  ·rcases t b r with q | q
   ·exact absurd q d
   ·have s:F.H₀ b=some o:=e;rw[q] at s;cases s
  ·exact keep b o r g
 ·rcases List.mem_append.mp h with h | h
  ·obtain⟨o,g,n⟩:=j a (bi _ h);exact⟨o,by rw[kp a (bi _ h)];exact g,n⟩
  ·rcases List.mem_append.mp h with h | h
   ·exact l a h
   ·obtain⟨o,g,n⟩:=j a (bh _ h);exact⟨o,by rw[kp a (bh _ h)];exact g,n⟩
 ·rcases List.mem_append.mp h with h | h
  ·exact .inr ⟨bi _ h,wl a h⟩
  ·rcases List.mem_append.mp h with h | h
   ·exact .inl h
   ·exact .inr ⟨bh _ (bh _ h),ol a h⟩
 ·rcases List.mem_append.mp h with h | h
  ·exact bi _ h
  ·rcases List.mem_append.mp h with h | h
   ·exact absurd h C
   ·exact bh _ (bh _ h)
end
abbrev gD:=ak->(ai->ak->Prop)->Prop
def Ar(t:gD):Prop:=∀U Q a,(∀c b,Q c b->a c b)->t U Q->t U a
noncomputable def Jk(K:Frag)(F:Fx)(t:gD):TE:=fun Y H Q=>∃U O,aC K F H Y U O/\t U fun c d=>∀v a b e,eA K F a Y d b v c e->aL O H b a->Q v a
structure DO (X:Cx) (F:Fx) (e:Expr) (t:gD):Prop where
 mn:Ar t
 pe:PE X e (Jk X.K F t)
section
variable{X:Cx}{F:Fx}{e:Expr}{te:DT}{to:gD}
noncomputable def Jl(t:gD):DT:=fun U Q=>t U fun c a=>∃d,frz c=some d/\Q d a
theorem DO.de(h:DO X F e to):DE X F e (Jl to):=
 ⟨fun _ _ _ k q=>h.mn _ _ _ (fun _ _ ⟨d,e,q⟩=>⟨d,e,k _ _ q⟩) q,h.pe.imp fun Y H Q ⟨U,O,st,q⟩=>⟨U,O,st,h.mn _ _ _ (fun c j ⟨d,e,q⟩ v b l m r s=>by
  obtain⟨f,a,g,i⟩:=r.frz e;exact q v b f a (s.trans g) i) q⟩⟩
end
abbrev dU:=PyData->ak->(ak->Prop)->Prop
noncomputable def ml(K:Frag)(F:Fx)(t:dU):TG:=fun v Y H Q=>∃U O d,aC K F H Y U O/\DV (aw O H) v d/\t d U fun e=>∀b a c,aC K F a b e c->aL O H c a->Q b a
structure DG (X:Cx) (F:Fx) (tg:Expr) (t:dU):Prop where
 mn:∀d U Q Q',(∀U',Q U'->Q' U')->t d U Q->t d U Q'
 pg:PG X tg (ml X.K F t)
abbrev jL:=List PyData->ak->(ak->Prop)->Prop
noncomputable def Jm(K:Frag)(F:Fx)(t:jL):jb:=fun e Y H Q=>∃U O d,aC K F H Y U O/\aK (aw O H) e d/\t d U fun f=>∀b a c,aC K F a b f c->aL O H c a->Q b a
structure nV (X:Cx) (F:Fx) (tg:List Expr) (t:jL):Prop where
 mn:∀d U Q Q',(∀U',Q U'->Q' U')->t d U Q->t d U Q'
 pg:PGs X tg (Jm X.K F t)
theorem _root_.L2.PG.imp{X:Cx}{e:Expr}{t t':TG}(h:PG X e t)(k:∀v Y H Q,t' v Y H Q->t v Y H Q):PG X e t':=fun a s Y H v u Q I r q=>h a s Y H v u Q I r (k v Y H Q q)
theorem _root_.L2.PGs.imp{X:Cx}{e:List Expr}{t t':jb}(h:PGs X e t)(k:∀v Y H Q,t' v Y H Q->t v Y H Q):PGs X e t':=fun a s Y H v u Q I r q=>h a s Y H v u Q I r (k v Y H Q q)
section
variable{X:Cx}{F:Fx}{e:Expr}{es:List Expr}{pos:Pos}{x:Str}{t:dU}{ts:jL}
noncomputable def gN(i:Nat):dU:=fun d U Q=>Q (U.set i (some (.dat d)))
theorem Jn{i:Nat}(h:PG X (.Name x pos) (pP i)):DG X F (.Name x pos) (gN i):=⟨fun _ _ _ _ k q=>k _ q,h.imp fun v Y H Q ⟨U,O,d,st,hd,q⟩=>q _ H O (st.set hd) .refl⟩
noncomputable def Jo:jL:=fun a U Q=>a=[]/\Q U
noncomputable def Jp(t:dU)(u:jL):jL:=fun b U Q=>∃d r,b=d::r/\t d U fun a=>u r a Q
theorem Jq:nV X F [] Jo:=⟨fun _ _ _ _ k q=>⟨q.1,k _ q.2⟩,yQ.imp fun a Y H Q ⟨U,O,ds,st,hd,e,q⟩=>by
 subst e;cases hd;exact⟨rfl,q _ H O st .refl⟩⟩
theorem Jr(f:DG X F e t)(g:nV X F es ts)(i:(assignEach (e::es) X.env).map (·.2)=assign e X.env::(assignEach es X.env).map (·.2):=by rfl):nV X F (e::es) (Jp t ts):=
 ⟨fun _ _ _ _ k ⟨d,r,e,q⟩=>⟨d,r,e,f.mn _ _ _ _ (fun _ a=>g.mn _ _ _ _ k a) q⟩,(uN f.pg g.pg i).imp fun v Y H Q ⟨U,O,ds,st,hd,d,r,e,q⟩=>by
  subst e;cases hd with
  | cons hd j=>
   exact⟨_,_,rfl,U,O,d,st,hd,f.mn _ _ _ _ (fun l a w y m b h=>⟨l,m,r,b,aK.mono h.hid j,g.mn _ _ _ _ (fun z n o p s c u=>n o p s c (h.trans u)) a⟩) q⟩⟩
noncomputable def Js(n:Nat)(t:jL):dU:=fun d U Q=>∃a,d=.tuple a/\a.length=n/\t a U Q
theorem Jt{k n:Nat}(g:X.calm=true)(h:nV X F es ts)(i:(assignEach es X.env).length=n:=by rfl)(b:(assignEach es X.env).findIdx? (·.1)=none:=by rfl):DG X F (.Tuple es k pos) (Js n ts):=
 ⟨fun _ _ _ _ k ⟨c,e,l,q⟩=>⟨c,e,l,h.mn _ _ _ _ k q⟩,(yR g h.pg i b).imp fun v Y H Q ⟨U,O,d,st,hd,c,e,l,q⟩=>by
  subst e;obtain⟨a,j,rfl,m,f⟩:=hd.tup_inv;exact⟨a,j,rfl,.inl (iq m).1,by rw[f.length];exact l,U,O,c,st,f,q⟩⟩
end
structure ee where
 nx:ak->Prop
 rt:ai->ak->Prop
 bk:ak->Prop:=fun _=>False
 ct:ak->Prop:=fun _=>False
abbrev dW:=ee->ak->Prop
structure fG (K:Frag) (F:Fx) (O:List Addr) (H:Hp) (D:eM) (DD:ee):Prop where
 nx:∀Y' H' U' O',aC K F H' Y' U' O'->aL O H O' H'->DD.nx U'->D.nx Y' H'
 rt:∀v Y' H' c U' O' fp,eA K F H' Y' U' O' v c fp->aL O H O' H'->DD.rt c U'->D.rt v H'
 bk:∀Y' H' U' O',aC K F H' Y' U' O'->aL O H O' H'->DD.bk U'->D.bk Y' H'
 ct:∀Y' H' U' O',aC K F H' Y' U' O'->aL O H O' H'->DD.ct U'->D.ct Y' H'
theorem fG.later{K:Frag}{F:Fx}{O b:List Addr}{H d:Hp}{D:eM}{e:ee}(f:fG K F O H D e)(s:aL O H b d):fG K F b d D e:=
 ⟨fun Y H U O st a q=>f.nx Y H U O st (s.trans a) q,fun v Y H c U O g r a q=>f.rt v Y H c U O g r (s.trans a) q,fun Y H U O st a q=>f.bk Y H U O st (s.trans a) q,fun Y H U O st a q=>f.ct Y H U O st (s.trans a) q⟩
noncomputable def As(K:Frag)(F:Fx)(t:dW):TS:=fun D Y H=>∃U O a,aC K F H Y U O/\t a U/\fG K F O H D a
def DS(X:Cx)(F:Fx)(s:Stmt)(t:dW):Prop:=PS X s (As X.K F t)
def gl(X:Cx)(F:Fx)(s:List Stmt)(t:dW):Prop:=PSs X s (As X.K F t)
section
variable{X:Cx}{F:Fx}{e:Expr}{es:List Expr}{st:Stmt}{rest:List Stmt}{t u:dW}{te:DT}{to:gD}{tA:dJ}{tc:cx}{tg:dU}{pos:Pos}{x:Str}
noncomputable def Ju:dW:=fun D U=>D.nx U
noncomputable def Jv(t u:dW):dW:=fun D U=>t { D with nx:=fun a=>u D a } U
theorem Jw:gl X F [] Ju:=Fe.imp fun D Y H ⟨U,O,a,st,q,f⟩=>f.nx Y H U O st .refl q
theorem Jx(i:DS X F st t)(j:gl X F rest u):gl X F (st::rest) (Jv t u):=
 (Ff i j).imp fun D Y H ⟨U,O,b,s,q,f⟩=>⟨U,O,_,s,q,⟨fun k l c d a g h=>⟨c,d,b,a,h,f.later g⟩,f.rt,f.bk,f.ct⟩⟩
theorem Jy(h:DS X F st t):gl X F [st] t:=Fg h
noncomputable def qw(te:DT)(tg:dU):dW:=fun D U=>te U fun d a=>tg d a D.nx
theorem Jz{a:Expr}(g:DE X F e te)(h:DG X F a tg)(i:swapsWithSole [a] e pos.line X.env=pure false:=by rfl)(j:swappedStores [a] e X.env=pure none:=by rfl)
  (A:(assignEach [a] X.env).map (·.2)=[assign a X.env]:=by rfl):DS X F (.Assign [a] e pos) (qw te tg):=
 (uP g.pe h.pg i j A).imp fun D Y H ⟨U,O,B,st,q,f⟩=>⟨U,O,st,g.mn _ _ _ (fun d k l v C m b n o=>⟨k,m,d,b,o,h.mn _ _ _ _ (fun p r s w y c z=>f.nx s w p y c (n.trans z) r) l⟩) q⟩
theorem JA{i:Nat}{a:Pos}(g:X.N.Nodup)(h:X.N[i]? = some x)(j:fO X.env.scope x)(c:DE X F e te)(k:swapsWith e (some (.Name x a)) pos.line X.env=pure false:=by rfl)
  (l:X.fn x=true\/X.env.scope.names.lookup x=some .local:=by first | exact .inl rfl | exact .inr rfl | assumption):DS X F (.Assign [.Name x a] e pos) (qw te (gN i)):=
 (yS g h j c.pe k l).imp fun D Y H ⟨U,O,s,st,q,f⟩=>⟨U,O,st,c.mn _ _ _ (fun d w m v n o b p r=>f.nx _ n _ o (b.set r) p m) q⟩
noncomputable def JB(te:DT):dW:=fun D U=>te U fun d a=>D.rt (.dat d) a
theorem JC(b:DE X F e te):DS X F (.Return (some e) pos) (JB te):=
 (yO b.pe).imp fun D Y H ⟨U,O,l,st,q,f⟩=>⟨U,O,st,b.mn _ _ _ (fun d c g v h i a j k=>f.rt v Y h (.dat d) c i [] (Jj a k) j g) q⟩
noncomputable def JD(to:gD):dW:=fun D U=>to U fun c a=>D.rt c a
theorem JE(a:DO X F e to):DS X F (.Return (some e) pos) (JD to):=
 (yO a.pe).imp fun D Y H ⟨U,O,k,st,q,f⟩=>⟨U,O,st,a.mn _ _ _ (fun c b d v g h i r j=>f.rt v Y g c b h i r j d) q⟩
noncomputable def JF(i:Nat)(to:gD):dW:=fun D U=>to U fun c a=>i<a.length/\(∀b,c≠.own true b)/\D.nx (a.set i (some c))
theorem JG{i:Nat}{a:Pos}(h:X.N.Nodup)(j:X.N[i]? = some x)(k:fO X.env.scope x)(g:DO X F e to)(l:swapsWith e (some (.Name x a)) pos.line X.env=pure false:=by rfl)
  (m:X.fn x=true\/X.env.scope.names.lookup x=some .local:=by first | exact .inl rfl | exact .inr rfl | assumption):DS X F (.Assign [.Name x a] e pos) (JF i to):=
 (yS h j k g.pe l m).imp fun D Y H ⟨U,O,B,st,q,f⟩=>⟨U,O,st,g.mn _ _ _ (fun c C ⟨n,o,p⟩ v s E G r w=>by
  obtain⟨y,d,A⟩:=aC.put1 (io:=true) r.st r.at_ r.new n (fun b z=>absurd z (o b));exact f.nx _ s _ y d (w.trans A) p) q⟩
noncomputable def JH(to:gD):dW:=fun D U=>to U fun _ a=>D.nx a
theorem JI(b:DO X F e to)(d:swapsWith e none pos.line X.env=pure false:=by rfl):DS X F (.Expr e pos) (JH to):=
 (pO b.pe d).imp fun D Y H ⟨U,O,j,st,q,f⟩=>⟨U,O,st,b.mn _ _ _ (fun c k g v l m n r h=>by
  obtain⟨o,a,i⟩:=r.drop;exact f.nx _ _ _ _ a (h.trans i) g) q⟩
noncomputable def JJ(tc:cx)(t u:dW):dW:=fun D U=>tc U fun b a=>if b=true then t D a else u D a
theorem JK{c:Expr}{a b:List Stmt}(g:DB X F c tc)(m:gl X F a t)(n:gl X F b u):DS X F (.If c a b pos) (JJ tc t u):=
 (Fk g.pt m n).imp fun D Y H ⟨U,O,h,st,q,f⟩=>⟨U,O,st,g.mn _ _ _ (fun b i j o k d l=>by
  cases b with
  | true=>exact ed ⟨i,k,h,d,iu j,f.later l⟩
  | false=>exact dZ ⟨i,k,h,d,iw j,f.later l⟩) q⟩
end
inductive vD where
 | rt (c:ai) (outs:List Bx) | ex (c:Str) (outs:List Bx) | bad
noncomputable abbrev FM:=List ai->vD
inductive aV (K:Frag) (H:Hp) (O:List Addr):List V->List ai->List (List Addr)->Prop where
 | nil:aV K H O [] [] []
 | dat {v:V}{d:PyData}{vs:List V}{cs:List ai}{fps:List (List Addr)}:DV (aw O H) v d->aV K H O vs cs fps->aV K H O (v::vs) (.dat d::cs) ([]::fps)
 | oth {v:V}{c:ai}{vs:List V}{cs:List ai}{fps:List (List Addr)}:(∀d,c≠.dat d)->(∀io b,c≠.own io b)->cP K H O v c []->aV K H O vs cs fps->aV K H O (v::vs) (c::cs) ([]::fps)
 | own {a:Addr}{b:Bx}{fp:List Addr}{vs:List V}{cs:List ai}{fps:List (List Addr)}:fe (aw O H) H a b fp->aV K H O vs cs fps->aV K H O (.ref a::vs) (.own true b::cs) (fp::fps)
inductive aT (H:Hp) (O:List Addr):List V->List ai->List Bx->List (List Addr)->Prop where
 | nil:aT H O [] [] [] []
 | skip {v:V}{c:ai}{vs:List V}{cs:List ai}{bs:List Bx}{fps:List (List Addr)}:(∀io b,c≠.own io b)->aT H O vs cs bs fps->aT H O (v::vs) (c::cs) bs fps
 | own {a:Addr}{io:Bool}{b b':Bx}{fp:List Addr}{vs:List V}{cs:List ai}{bs:List Bx}{fps:List (List Addr)}:fe (aw O H) H a b' fp->aT H O vs cs bs fps->aT H O (.ref a::vs) (.own io b::cs) (b'::bs) (fp::fps)
structure fh (H H':Hp) (L L' O₀:List Addr):Prop where
 nd:(L'++O₀).Nodup
 live:∀a∈L',∃o,H' a=some o/\Mv o
 keep:∀b o,b∉L->H b=some o->H' b=some o
 new:∀a∈L',a∈L\/H a=none
noncomputable def aW(K:Frag)(l:Str->Option Value)(f:FM):Sp:=fun k H Q E=>GH l H/\∃(i:List ai) (d:List (List Addr)) (h:List Addr),aV K H (d.flatten++h) k i d/\(d.flatten++h).Nodup/\(∀a∈d.flatten++h,∃o,H a=some o/\Mv o)/\
 match f i with
 | .rt c e=>∀v g j b,cP K g (b.flatten++j++h) v c j->aT g (b.flatten++j++h) k i e b->fh H g d.flatten (b.flatten++j) h->Q v g
 | .ex c e=>∀C g b,l c=some C->aT g (b.flatten++h) k i e b->fh H g d.flatten b.flatten h->E C none g
 | .bad=>False
theorem aV.len{K:Frag}{H:Hp}{O:List Addr}{d:List V}{c:List ai}{b:List (List Addr)}(h:aV K H O d c b):d.length=c.length/\b.length=c.length:=by
 induction h with
 | nil=>exact⟨rfl,rfl⟩
 | dat _ _ a=>exact⟨congrArg Nat.succ a.1,congrArg Nat.succ a.2⟩
 | oth _ _ _ _ a=>exact⟨congrArg Nat.succ a.1,congrArg Nat.succ a.2⟩
 | own _ _ a=>exact⟨congrArg Nat.succ a.1,congrArg Nat.succ a.2⟩
theorem aV.get{K:Frag}{H:Hp}{O:List Addr}{d:List V}{f:List ai}{a:List (List Addr)}(h:aV K H O d f a):∀(i:Nat) (c:ai),f[i]? = some c->∃v g,d[i]? = some v/\a[i]? = some g/\cP K H O v c g:=by
 induction h with
 | nil=>intro i c e;simp at e
 | dat h _ b=>
  intro i c e;cases i with
  | zero=>simp at e;subst e;exact⟨_,_,rfl,rfl,h⟩
  | succ i=>exact b i c (by simpa using e)
 | oth _ _ h _ b=>
  intro i c e;cases i with
  | zero=>simp at e;subst e;exact⟨_,_,rfl,rfl,h⟩
  | succ i=>exact b i c (by simpa using e)
 | own h _ b=>
  intro i c e;cases i with
  | zero=>simp at e;subst e;exact⟨_,_,rfl,rfl,⟨_,rfl,h⟩⟩
  | succ i=>exact b i c (by simpa using e)
theorem aV.mono{K:Frag}{H:Hp}{O c:List Addr}{d:List V}{f:List ai}{a:List (List Addr)}(h:aV K H O d f a)(s:aL O H c H):aV K H c d f a:=by
 induction h with
 | nil=>exact .nil
 | dat h _ b=>exact .dat (DV.mono s.hid h) b
 | oth h1 h2 h _ b=>exact .oth h1 h2 (h.keep s (fun _ _=>rfl) (fun _ _ _ e=>e)) b
 | own h _ b=>exact .own (h.keep (fun _ _=>rfl) s.hid) b
theorem aT.mono{H:Hp}{O c:List Addr}{d:List V}{e:List ai}{bs:List Bx}{a:List (List Addr)}(h:aT H O d e bs a)(s:aL O H c H):aT H c d e bs a:=by
 induction h with
 | nil=>exact .nil
 | skip h1 _ b=>exact .skip h1 b
 | own h _ b=>exact .own (h.keep (fun _ _=>rfl) s.hid) b
inductive gm where
 | nx (U:ak) | rt (c:ai) (U:ak) | bk (U:ak) | ct (U:ak) | ex (c:Str) (U:ak) | bad
noncomputable abbrev SM:=ak->gm
noncomputable def bV(E:Str->ak->Prop)(m:SM):dW:=fun D U=>match m U with
 | .nx a=>D.nx a
 | .rt c a=>D.rt c a
 | .bk a=>D.bk a
 | .ct a=>D.ct a
 | .ex c a=>E c a
 | .bad=>False
@[simp] noncomputable def cE:List ai->ak->Option (List Bx)
 | [],_=>some []
 | .own _ _::a,some (.own true b)::U=>(cE a U).map (b::·)
 | .own _ _::_,_=>none
 | _::a,_::U=>cE a U
 | _::_,[]=>none
@[simp] noncomputable def bc(n N:Nat)(m:SM):FM:=fun a=>if a.length=n then(match m (a.map some++List.replicate (N - n) none) with
 | .nx U=>(match cE a U with | some o=>.rt (.dat .none) o | none=>.bad)
 | .rt c U=>(match cE a U with | some o=>.rt c o | none=>.bad)
 | .ex c U=>(match cE a U with | some o=>.ex c o | none=>.bad)
 | _=>.bad) else .bad
section
variable{K:Frag}{F:Fx}{H:Hp}{Y:St}{U:ak}{W:List (List Addr)}
theorem vE{α:Type}{l:List α}{k:Nat}{x:α}{r:List α}(h:l.drop k=x::r):l[k]? = some x/\l.drop (k+1)=r:=by
 constructor
 ·rw[<-List.head?_drop,h];rfl
 ·rw[<-List.drop_drop,h];rfl
theorem qx(st:bS K F H Y U W):∀(l:List ai) (m:List V) (k:Nat) (g:List Bx),m.length=l.length->(∀(i:Nat) io b,l[i]? = some (.own io b)->m[i]? = some (.ref (F.I₀ (k+i))))->cE l (U.drop k)=some g->
  ∃j,aT H (W.flatten++F.O₀) m l g j/\j.flatten.Sublist (W.drop k).flatten
 | [],[],k,g,_,_,e=>by cases e;exact⟨[],.nil,by simp⟩
 | [],_::_,_,_,p,_,_=>by cases p
 | _::_,[],_,_,p,_,_=>by cases p
 | c::l,v::m,k,g,p,G,e=>by
  have t:m.length=l.length:=Nat.succ.inj p;have y:∀(i:Nat) io b,l[i]? = some (.own io b)->m[i]? = some (.ref (F.I₀ (k+1+i))):=fun i io b h=>by have:=G (i+1) io b (by simpa using h);rw[show k+1+i=k+(i+1) by omega];simpa using this
  have A:(W.drop (k+1)).flatten.Sublist (W.drop k).flatten:=by
   cases B:W.drop k with
   | nil=>rw[show W.drop (k+1)=[] from by rw[<-List.drop_drop,B];rfl];exact List.Sublist.refl _
   | cons w r=>rw[(vE B).2,List.flatten_cons];exact List.sublist_append_right _ _
  cases hd:U.drop k with
  | nil=>
   rw[hd] at e;cases c with
   | own io b=>cases e
   | dat d=>cases e
   | scr n=>cases e
   | exc n=>cases e
   | vw n=>cases e
  | cons x r=>
   obtain⟨L,h2⟩:=vE hd;rw[hd] at e;have f:(∀io b,c≠.own io b)->cE l r=some g->∃j,aT H (W.flatten++F.O₀) (v::m) (c::l) g j/\j.flatten.Sublist (W.drop k).flatten:=fun M N=>by obtain⟨j,o,s⟩:=qx st l m (k+1) g t y (by rw[h2];exact N);exact⟨j,.skip M o,s.trans A⟩
   cases c with
   | dat d=>exact f (fun _ _ z=>by cases z) e
   | scr n=>exact f (fun _ _ z=>by cases z) e
   | exc n=>exact f (fun _ _ z=>by cases z) e
   | vw n=>exact f (fun _ _ z=>by cases z) e
   | own io b=>
    cases x with
    | none=>cases e
    | some x=>
     cases x with
     | dat d=>cases e
     | scr n=>cases e
     | exc n=>cases e
     | vw n=>cases e
     | own C O=>
      cases C with
      | false=>cases e
      | true=>
       cases q:cE l r with
       | none=>simp[cE,q] at e
       | some Q=>
        simp[cE,q] at e;subst e;obtain⟨j,o,s⟩:=qx st l m (k+1) Q t y (by rw[h2];exact q);obtain⟨u,R,S,D,a,rfl,T⟩:=st.at_ k _ L;have I:=st.io k O L;rw[S] at I;have X:a=F.I₀ k:=by cases I;rfl
        have Z:=G 0 io b rfl;have E:v=.ref a:=by rw[X];simpa using Z
        subst E;refine⟨R::j,.own T o,?_⟩;cases B:W.drop k with
        | nil=>rw[<-List.head?_drop,B] at D;cases D
        | cons w wr=>obtain⟨J,w2⟩:=vE B;rw[D] at J;cases J;rw[List.flatten_cons,List.flatten_cons];rw[w2] at s;exact List.Sublist.append (List.Sublist.refl _) s
end
theorem jM{α:Type}(n:Nat):(List.replicate n ([]:List α)).flatten=[]:=by induction n with | zero=>rfl | succ n a=>rw[List.replicate_succ,List.flatten_cons,a];rfl
noncomputable def gn(N n:Nat)(a:List ai):ak:=a.map some++List.replicate (N - n) none
section
variable{P:Program}{w:World}{K:Frag}{mg:Str->Option Value}{base:Heap}{x qual:Str}{st:Stmt}{f:Addr}{fd:FuncData}{N ps:List Str}{k:Nat}{m:SM}
noncomputable def kP(b:List V)(i:Nat):Addr:=match b[i]? with
 | some (.ref a)=>a
 | _=>0
theorem At{H:Hp}{l:List V}{j:List ai}{g:List (List Addr)}{p:List Addr}(q:aV K H (g.flatten++p) l j g)(s:(g.flatten++p).Nodup)(live:∀a∈g.flatten++p,∃o,H a=some o/\Mv o)(u:j.length<=N.length) :
  bS K ⟨H,g.flatten,p,kP l⟩ H (start N l) (gn N.length j.length j) (g++List.replicate (N.length - j.length) []):=by
 have n:(g++List.replicate (N.length - j.length) ([]:List Addr)).flatten=g.flatten:=by rw[List.flatten_append,jM,List.append_nil]
 obtain⟨t,l2⟩:=q.len;have get:∀(i:Nat) c,(gn N.length j.length j)[i]? = some (some c)->j[i]? = some c:=fun i c e=>by
  unfold gn at e
  by_cases h:i<j.length
  ·rw[List.getElem?_append_left (by simpa using h),List.getElem?_map] at e;obtain⟨d,h1,h2⟩:=Option.map_eq_some_iff.mp e;cases h2;exact h1
  ·rw[List.getElem?_append_right (by simpa using Nat.le_of_not_lt h),List.getElem?_replicate] at e;split at e<;>cases e
 have put:∀(i:Nat) v,l[i]? = some v->(start N l)[i]? = some (some v):=fun i v e=>by unfold start;rw[List.getElem?_append_left (by simpa using(List.getElem?_eq_some_iff.mp e).1),List.getElem?_map,e];rfl
 refine⟨fun i c e=>?_,by rw[n];exact s,fun _ _ _ h=>h,fun a h=>.inl (by rw[n] at h;exact h),by rw[n];exact live,?_,?_,fun i b e=>?_⟩
 ·obtain⟨v,r,h1,h2,h3⟩:=q.get i c (get i c e);exact⟨v,r,put i v h1,by rw[List.getElem?_append_left (List.getElem?_eq_some_iff.mp h2).1];exact h2,by rw[n];exact h3⟩
 ·unfold gn start;rw[List.length_append,List.length_append,List.length_map,List.length_map,List.length_replicate,List.length_replicate,t]
 ·unfold gn;rw[List.length_append,List.length_append,List.length_map,List.length_replicate,List.length_replicate,l2]
 ·obtain⟨v,r,h1,h2,a,rfl,h3⟩:=q.get i _ (get i _ e);rw[put i _ h1];show _=some (some (V.ref (kP l i)));unfold kP;rw[h1]
theorem aV.ios{H:Hp}{O:List Addr}{c:List V}{g:List ai}{d:List (List Addr)}(h:aV K H O c g d):∀(i:Nat) io b,g[i]? = some (.own io b)->c[i]? = some (.ref (kP c (0+i))):=fun i io b e=>by obtain⟨v,j,h1,_,a,rfl,_⟩:=h.get i _ e;rw[Nat.zero_add];unfold kP;rw[h1]
theorem bv(Fn:kM K x qual st f fd)(S:aa N ps (aZ st))(hN:ps.length<=N.length)
  (a0:∀(B:Value) (A:Around) (u:List Env) (s:Shared) (H:Hp) (E:XK) (F:Fx) (Z:Str->ak->Prop),bq k (A.deeper (envOfC qual (aZ st) s.heap.objs.size f B))->dS (jd (aU P w) P w K mg base N qual (aZ st) f B A u s H E) F Z->
   gl (jd (aU P w) P w K mg base N qual (aZ st) f B A u s H E) F (hF st) (bV Z m)):ay P w K mg base (aU P w) (k+1) f fd ps (aW K mg (bc ps.length N.length m)):=by
 obtain⟨oc,od,kV,a4,pm,an,B,ct,a5,rfl,lk,a1⟩:=Fn.ex;have I:∀D H Q E,aW K mg (bc ps.length N.length m) D H Q E->D.length=ps.length:=fun D H Q E ⟨_,l,y,O₀,M,_,_,q⟩=>by
  rw[M.len.1];unfold bc at q
  by_cases h:l.length=ps.length
  ·exact h
  ·rw[if_neg h] at q;exact q.elim
 refine GC lk a1 S I fun A u s H D Q E hr O=>?_;have a6:=I D H Q E O;obtain⟨gh,l,y,O₀,M,nd,live,q⟩:=O;obtain⟨l1,l2⟩:=M.len;have R:l.length=ps.length:=by omega
 let F:Fx:=⟨H,y.flatten,O₀,kP D⟩
 have T:=At (N:=N) M nd live (by omega);have fin:∀{X:St}{j:Hp}{n:ak}{L:List Addr}{fp:List Addr}{g:List Bx},aC K (F.plus fp) j X n L->(∀a∈fp,a∈F.A₀\/F.H₀ a=none)->cE l n = some g->∃d,aT j (d.flatten++fp++O₀) D l g d/\fh H j y.flatten (d.flatten++fp) O₀/\aL L j (d.flatten++fp++O₀) j:=by
  rintro X j n L fp g ⟨W,p,rfl⟩ a2 t;obtain⟨d,o,sb⟩:=qx p l D 0 g l1 (fun i io b e=>M.ios i io b e) t;have Y:d.flatten.Sublist W.flatten:=sb;have sub:(d.flatten++fp++O₀).Sublist (W.flatten++(fp++O₀)):=by rw[List.append_assoc];exact List.Sublist.append Y (List.Sublist.refl _)
  have G:aL (W.flatten++(fp++O₀)) j (d.flatten++fp++O₀) j:=eB fun a h=>sub.subset h;refine⟨d,o.mono G,⟨p.nd.sublist sub,fun a h=>p.live a (sub.subset (bi _ h)),fun b o hb e=>p.kept b o hb e,fun a h=>?_⟩,G⟩;rcases List.mem_append.mp h with h | h
  ·exact p.new a (Y.subset h)
  ·exact a2 a h
 have a3:bc ps.length N.length m l=(match m (gn N.length ps.length l) with
  | .nx U=>(match cE l U with | some o=>.rt (.dat .none) o | none=>.bad)
  | .rt c U=>(match cE l U with | some o=>.rt c o | none=>.bad)
  | .ex c U=>(match cE l U with | some o=>.ex c o | none=>.bad)
  | _=>.bad):=by unfold bc gn;rw[if_pos R]
 rw[a3] at q;rw[R] at T;let Z:Str->ak->Prop:=fun c n=>∃g,cE l n = some g/\∀C j d,mg c=some C->aT j (d.flatten++O₀) D l g d->fh H j y.flatten d.flatten O₀->E C none j;refine⟨_,a0 B A u s H E F Z hr (Ji (gh.frame fun a h=>live a (bi _ h)) fun c C n X j L J p ⟨g,t,k⟩=>?_),?_⟩
 ·obtain⟨d,o,b,_⟩:=fin (fp:=[]) p (fun a h=>by cases h) t;rw[List.append_nil] at o b;exact k C j d J o b
 ·refine⟨gn N.length ps.length l,_,⟨fun n=>∃g,cE l n = some g/\∀j d,aT j (d.flatten++[]++O₀) D l g d->fh H j y.flatten (d.flatten++[]) O₀->Q .non j,fun c n=>∃g,cE l n = some g/\∀v j fp d,cP K j (d.flatten++fp++O₀) v c fp->aT j (d.flatten++fp++O₀) D l g d->fh H j y.flatten (d.flatten++fp) O₀->Q v j,fun _=>False,fun _=>False⟩,⟨_,T,rfl⟩,?_,?_⟩
  ·unfold bV;cases J:m (gn N.length ps.length l) with
   | nx n=>
    rw[J] at q;cases t:cE l n with
    | none=>simp[t] at q
    | some g=>simp only[t] at q;exact⟨g,t,fun j d o b=>q .non j [] d .non o b⟩
   | rt c n=>
    rw[J] at q;cases t:cE l n with
    | none=>simp[t] at q
    | some g=>simp only[t] at q;exact⟨g,t,q⟩
   | ex c n=>
    rw[J] at q;cases t:cE l n with
    | none=>simp[t] at q
    | some g=>simp only[t] at q;exact⟨g,t,q⟩
   | bk n=>rw[J] at q;exact q
   | ct n=>rw[J] at q;exact q
   | bad=>rw[J] at q;exact q
  ·refine⟨fun X j n L p s' ⟨g,t,k⟩=>?_,fun v X j c n L fp r s' ⟨g,t,k⟩=>?_,fun _ _ _ _ _ _ z=>z.elim,fun _ _ _ _ _ _ z=>z.elim⟩
   ·obtain⟨d,o,b,_⟩:=fin (fp:=[]) p (fun a h=>by cases h) t;exact k j d o b
   ·obtain⟨d,o,b,G⟩:=fin r.st r.new t;exact k v j fp d (r.at_.keep G (fun _ _=>rfl) (fun _ _ _ e=>e)) o b
end
inductive AX where
 | d (x:PyData) | s (j:Nat)
inductive cM (Y:St) (G:Hp):List V->List AX->Prop where
 | nil:cM Y G [] []
 | d {v:V}{x:PyData}{vs:List V}{as:List AX}:DV G v x->cM Y G vs as->cM Y G (v::vs) (.d x::as)
 | s {v:V}{j:Nat}{vs:List V}{as:List AX}:Y[j]? = some (some v)->cM Y G vs as->cM Y G (v::vs) (.s j::as)
abbrev gp:=ak->(List AX->ak->Prop)->Prop
def Au(t:gp):Prop:=∀U Q a,(∀d b,Q d b->a d b)->t U Q->t U a
noncomputable def JL(K:Frag)(F:Fx)(t:gp):TA:=fun Y H Q=>∃U O,aC K F H Y U O/\t U fun as d=>∀c a b,aC K F a Y d b->aL O H b a->cM Y (aw b a) c as->Q c a
structure DX (X:Cx) (F:Fx) (es:List Expr) (t:gp):Prop where
 mn:Au t
 pa:PA X es (JL X.K F t)
section
variable{X:Cx}{F:Fx}{e:Expr}{es:List Expr}{te:DT}{tX:gp}{x:Str}{p:Pos}{j:Nat}
noncomputable def JM:gp:=fun U Q=>Q [] U
noncomputable def JN(te:DT)(t:gp):gp:=fun U Q=>te U fun d a=>t a fun as b=>Q (.d d::as) b
noncomputable def JO(j:Nat)(t:gp):gp:=fun U Q=>(∃c,U[j]? = some (some c))/\t U fun as a=>Q (.s j::as) a
theorem JP:DX X F [] JM:=⟨fun _ _ _ k q=>k _ _ q,dQ.imp fun Y H Q ⟨U,O,st,q⟩=>q [] H O st .refl .nil⟩
theorem JQ(a:DE X F e te)(b:DX X F es tX)(l:starEach (e::es) X.env=(false,eval e X.env)::starEach es X.env:=by rfl):DX X F (e::es) (JN te tX):=
 ⟨fun _ _ _ k q=>a.mn _ _ _ (fun _ _ c=>b.mn _ _ _ (fun _ _ f=>k _ _ f) c) q,(da a.pe b.pa l).imp fun Y H Q ⟨U,O,st,q⟩=>
  ⟨U,O,st,a.mn _ _ _ (fun d m c v y n g o r=>⟨m,n,g,b.mn _ _ _ (fun as z f s t u h i w=>f (v::s) t u h (o.trans i) (.d (DV.mono i.hid r) w)) c⟩) q⟩⟩
theorem JR(f:PE X (.Name x p) (cf j))(a:DX X F es tX)(g:starEach (.Name x p::es) X.env=(false,eval (.Name x p) X.env)::starEach es X.env:=by rfl):DX X F (.Name x p::es) (JO j tX):=
 ⟨fun _ _ _ k ⟨h,q⟩=>⟨h,a.mn _ _ _ (fun _ _ b=>k _ _ b) q⟩,(da f a.pa g).imp fun Y H Q ⟨U,O,st,⟨c,i⟩,q⟩=>by
  obtain⟨W,h,rfl⟩:=id st;obtain⟨v,t,h1,h2,h3⟩:=h.at_ j c i;exact⟨v,h1,U,_,st,a.mn _ _ _ (fun as u b l m n d o r=>b (v::l) m n d o (.s h1 r)) q⟩⟩
end
@[simp] noncomputable def gq(U:ak):List AX->Option (List ai×List (Nat×Bool))
 | []=>some ([],[])
 | .d x::as=>(match gq U as with | some (e,a)=>some (.dat x::e,a) | none=>none)
 | .s j::as=>(match gq U as with
  | some (e,a)=>(match U[j]? with
   | some (some (.own io b))=>if a.any (fun p=>p.1==j) then none else some (.own true b::e,(j,io)::a)
   | some (some c)=>some (c::e,a)
   | _=>none)
  | none=>none)
@[simp] noncomputable def eP:List (Nat×Bool)->ak->ak
 | [],U=>U
 | (j,_)::r,U=>(eP r U).set j none
@[simp] noncomputable def en:List (Nat×Bool)->List Bx->ak->ak
 | (j,io)::r,b::bs,U=>en r bs (U.set j (some (.own io b)))
 | _,_,U=>U
theorem qy{a:List (Nat×Bool)}{U:ak}:(eP a U).length=U.length:=by
 induction a with
 | nil=>rfl
 | cons p r b=>obtain⟨j,io⟩:=p;rw[eP,List.length_set,b]
theorem JS{a:List (Nat×Bool)}{U:ak}{i:Nat}(h:∀p∈a,p.1≠i):(eP a U)[i]? = U[i]?:=by
 induction a with
 | nil=>rfl
 | cons p r b=>obtain⟨j,io⟩:=p;rw[eP,List.getElem?_set_ne (h (j,io) List.mem_cons_self),b fun q c=>h q (bY _ c)]
inductive eQ (Y:St) (F:Fx) (n:Nat):List V->List ai->List (Nat×Bool)->Prop where
 | nil:eQ Y F n [] [] []
 | skip {v:V}{c:ai}{vs:List V}{cs:List ai}{js:List (Nat×Bool)}:(∀io b,c≠.own io b)->eQ Y F n vs cs js->eQ Y F n (v::vs) (c::cs) js
 | own {a:Addr}{io:Bool}{b:Bx}{j:Nat}{vs:List V}{cs:List ai}{js:List (Nat×Bool)}:Y[j]? = some (some (.ref a))->(io=true->a=F.I₀ j)->j<n->eQ Y F n vs cs js->eQ Y F n (.ref a::vs) (.own true b::cs) ((j,io)::js)
section
variable{K:Frag}{F:Fx}{H H':Hp}{Y:St}{U:ak}{O O':List Addr}
theorem qA(st:aC K F H Y U O):∀(as:List AX) (l:List V) (t:List ai) (u:List (Nat×Bool)),gq U as=some (t,u)->cM Y (aw O H) l as->
  ∃f O',aC K (F.plus f.flatten) H Y (eP u U) O'/\aV K H O' l t f/\aL O H O' H/\aL O' H O H/\(∀a∈f.flatten,a∈F.A₀\/F.H₀ a=none)/\eQ Y F U.length l t u
 | [],l,t,u,e,h=>by cases e;cases h;refine⟨[],O,st,.nil,.refl,.refl,?_,.nil⟩;intro a h;cases h
 | .d x::as,l,t,u,e,h=>by
  cases h with
  | d y G=>
   unfold gq at e;cases q:gq U as with
   | none=>rw[q] at e;cases e
   | some p=>obtain⟨k,g⟩:=p;rw[q] at e;simp only[Option.some.injEq,Prod.mk.injEq] at e;obtain⟨X,Z⟩:=e;obtain⟨f,O',m,r,o,B,C,D⟩:=qA st as _ k g q G;subst X Z;exact⟨[]::f,O',m,.dat (DV.mono o.hid y) r,o,B,C,.skip (fun _ _ z=>by cases z) D⟩
 | .s j::as,l,t,u,e,h=>by
  cases h with
  | @s v _ l _ y G=>
   unfold gq at e;cases q:gq U as with
   | none=>rw[q] at e;cases e
   | some p=>
    obtain⟨k,g⟩:=p;rw[q] at e;obtain⟨f,O',m,r,o,B,C,D⟩:=qA st as _ k g q G;cases w:U[j]? with
    | none=>rw[w] at e;cases e
    | some oc=>
     cases oc with
     | none=>rw[w] at e;cases e
     | some c=>
      rw[w] at e;obtain⟨W,I,J⟩:=id st;obtain⟨E,a0,h1,h2,h3⟩:=I.at_ j c w;rw[y] at h1;have L:E = v:=by cases h1;rfl
      subst L;rw[<-J] at h3;have other:(∀io b,c≠.own io b)->∃f O',aC K (F.plus f.flatten) H Y (eP g U) O'/\aV K H O' (E::l) (c::k) f/\aL O H O' H/\aL O' H O H/\(∀a∈f.flatten,a∈F.A₀\/F.H₀ a=none)/\eQ Y F U.length (E::l) (c::k) g:=fun Q=>by
       refine⟨[]::f,O',m,?_,o,B,C,.skip Q D⟩;cases c with
       | dat d=>exact .dat (DV.mono o.hid h3) r
       | own io b=>exact absurd rfl (Q io b)
       | scr ns=>exact .oth (fun _ z=>by cases z) (fun _ _ z=>by cases z) (cP.keep (c:=.scr ns) (fp:=[]) h3 o (fun _ _=>rfl) (fun _ _ _ e=>e)) r
       | exc n=>exact .oth (fun _ z=>by cases z) (fun _ _ z=>by cases z) (cP.keep (c:=.exc n) (fp:=[]) h3 o (fun _ _=>rfl) (fun _ _ _ e=>e)) r
       | vw n=>exact .oth (fun _ z=>by cases z) (fun _ _ z=>by cases z) (cP.keep (c:=.vw n) (fp:=[]) h3 o (fun _ _=>rfl) (fun _ _ _ e=>e)) r
      cases c with
      | dat d=>simp only[Option.some.injEq,Prod.mk.injEq] at e;rw[<-e.1,<-e.2];exact other (fun _ _ z=>by cases z)
      | scr ns=>simp only[Option.some.injEq,Prod.mk.injEq] at e;rw[<-e.1,<-e.2];exact other (fun _ _ z=>by cases z)
      | exc n=>simp only[Option.some.injEq,Prod.mk.injEq] at e;rw[<-e.1,<-e.2];exact other (fun _ _ z=>by cases z)
      | vw n=>simp only[Option.some.injEq,Prod.mk.injEq] at e;rw[<-e.1,<-e.2];exact other (fun _ _ z=>by cases z)
      | own io b=>
       by_cases M:g.any (fun p=>p.1==j)=true
       ·simp only[if_pos M] at e;cases e
       ·simp only[if_neg M,Option.some.injEq,Prod.mk.injEq] at e;rw[<-e.1,<-e.2];have N:∀p∈g,p.1≠j:=fun p hp z=>M (List.any_eq_true.mpr ⟨p,hp,by simp[z]⟩);obtain⟨a,fp,O2,R,S,t3,T,t5,t6,t7⟩:=m.take (i:=j) (io:=io) (b:=b) (by rw[JS N];exact w);rw[y] at R;have L:E = .ref a:=by cases R;rfl
        subst L;rw[Fx.plus_plus] at S;refine⟨fp::f,O2,S,.own t3 (r.mono T),o.trans T,t5.trans B,fun x A=>?_,.own y t7 (List.getElem?_eq_some_iff.mp w).1 D⟩;rcases List.mem_append.mp A with A | A
        ·exact t6 x A
        ·exact C x A
theorem qC{fp:List Addr}{n:Nat}{m:List V}{o:List ai}{p:List (Nat×Bool)}(u:eQ Y F n m o p):∀{d:List Bx}{e:List (List Addr)}{U:ak}{O:List Addr},U.length=n->aC K (F.plus (e.flatten++fp)) H Y U O->aT H O m o d e->(∀a∈e.flatten,a∈F.A₀\/F.H₀ a=none)->
  ∃O',aC K (F.plus fp) H Y (en p d U) O'/\aL O H O' H:=by
 induction u with
 | nil=>intro d e U O h st f k;cases f;exact⟨O,st,.refl⟩
 | skip g _ q=>
  intro d e U O h st f k;cases f with
  | skip _ f=>exact q h st f k
  | own _ _=>exact absurd rfl (g _ _)
 | @own a io b j m o p h1 h2 h3 u q=>
  intro d e U O h st f k;cases f with
  | skip g _=>exact absurd rfl (g _ _)
  | @own _ _ _ A f1 _ _ bs B C f=>
   have r:aC K ((F.plus (B.flatten++fp)).plus f1) H Y U O:=by rw[Fx.plus_plus,<-List.append_assoc];exact st
   obtain⟨I,l,w⟩:=aC.put1 (io:=true) (c:=.own io A) (v:=.ref a) (i:=j) r ⟨a,rfl,C⟩ (fun x s=>k x (by rw[List.flatten_cons];exact bi _ s)) (by rw[h];exact h3) (fun b z=>by cases z;rw[h2 rfl];rfl);have D:Y.set j (some (.ref a))=Y:=by
    apply List.ext_getElem?;intro i
    by_cases y:i=j
    ·subst y;rw[List.getElem?_set_self (List.getElem?_eq_some_iff.mp h1).1,h1]
    ·rw[List.getElem?_set_ne (Ne.symm y)]
   rw[D] at l;obtain⟨E,t,G⟩:=q (by rw[List.length_set];exact h) l (f.mono w) (fun x s=>k x (by rw[List.flatten_cons];exact bh _ s));exact⟨E,t,w.trans G⟩
end
def fW(f:FM)(E:Str->ak->Prop)(Q:ai->ak->Prop)(as:List AX)(U:ak):Prop:=match gq U as with
 | some (d,b)=>(match f d with
  | .rt c a=>Q c (en b a (eP b U))
  | .ex c a=>E c (en b a (eP b U))
  | .bad=>False)
 | none=>False
noncomputable def vF(f:FM)(E:Str->ak->Prop)(t:gp):gD:=fun U Q=>t U fun as a=>fW f E Q as a
section
variable{X:Cx}{F:Fx}{e:Expr}{es:List Expr}{tX:gp}{E:Str->ak->Prop}{pos p:Pos}{x:Str}{f:FM}{k:Nat}{g:Addr}{fd:FuncData}{ps:List Str}
theorem Av{Q b:ai->ak->Prop}{as:List AX}{U:ak}(h:∀c d,Q c d->b c d)(q:fW f E Q as U):fW f E b as U:=by
 unfold fW at q ⊢;split
 ·rename_i i j e;rw[e] at q;simp only at q;split
  ·rename_i a;rw[a] at q;exact h _ _ q
  ·rename_i a;rw[a] at q;exact q
  ·rename_i a;rw[a] at q;exact q
 ·rename_i e;rw[e] at q;exact q
theorem vG{m:List (Addr×Obj)}{Y:St}{H:Hp}{s:Shared}{Q:VK}{us:List Value}{vs:List V}{as:List AX}{U:ak}{O:List Addr}{QC:ai->ak->Prop}(hx:dS X F E)(G:ay X.prog X.w X.K X.mg X.base (aU X.prog X.w) k g fd ps (aW X.K X.mg f))(hr:bq k X.A)(hb:fP X.K fd ps [])
  (I:Inv X m Y H s) (r:be vs us) (st:aC X.K F H Y U O) (ax:cM Y (aw O H) vs as) (q:fW f E QC as U) (hQ:∀c L,QC c L->∀v b S M,eA X.K F b Y L S v c M->aL O H S b->Q v b) :
  wpAny (model X.prog X.w) X.A (call (.ref g) us) (EP X m Y Q) X.xe s:=by
 unfold fW at q;cases hc:gq U as with
 | none=>rw[hc] at q;exact q.elim
 | some p=>
  obtain⟨cs,js⟩:=p;rw[hc] at q;simp only at q;obtain⟨i,O2,T,ar,s1,a6,nw,ja⟩:=qA st as vs cs js hc ax;obtain⟨W,y,Z⟩:=id T;have a2:(W.flatten++(i.flatten++F.O₀)).Nodup:=y.nd;have l:∀a,a∈O2↔a∈i.flatten++(W.flatten++F.O₀):=fun a=>by
   rw[Z];show a∈W.flatten++(i.flatten++F.O₀)↔_;simp only[List.mem_append];constructor
   ·rintro(h | h | h)<;>simp[h]
   ·rintro(h | h | h)<;>simp[h]
  have perm:(i.flatten++(W.flatten++F.O₀)).Perm (W.flatten++(i.flatten++F.O₀)):=by rw[<-List.append_assoc,<-List.append_assoc];exact List.Perm.append_right _ List.perm_append_comm
  have a0:(i.flatten++(W.flatten++F.O₀)).Nodup:=perm.nodup_iff.mpr a2;have a3:aL O2 H (i.flatten++(W.flatten++F.O₀)) H:=eB fun a h=>(l a).mpr h;have N:∀(b:Hp) (n:List Addr) (a:Addr),(a∈n++(W.flatten++F.O₀))->a∈n\/(a∈O2/\a∉i.flatten):=fun b n a h=>by
   rcases List.mem_append.mp h with h | h
   ·exact .inl h
   ·refine .inr ⟨(l a).mpr (bh _ h),fun z=>?_⟩;exact(List.nodup_append.mp a0).2.2 a z a h rfl
  have j:∀(b:Hp) (n:List Addr),fh H b i.flatten n (W.flatten++F.O₀)->∃B,aC X.K (F.plus n) b Y (eP js U) B/\aL O2 H B b/\∀a,a∈B↔a∈n++(W.flatten++F.O₀):=fun b n t=>by
   obtain⟨B,t1,t2,t3,t4,t5⟩:=T.swap (H':=b) (L':=n) t.keep (List.nodup_append.mp t.nd).1 t.new nw t.live;refine⟨B,t1,t2,fun a=>⟨fun h=>?_,fun h=>?_⟩⟩
   ·rcases t4 a h with z | ⟨z1,z2⟩
    ·exact bi _ z
    ·rcases List.mem_append.mp ((l a).mp z1) with z | z
     ·exact absurd z z2
     ·exact bh _ z
   ·rcases N b n a h with z | ⟨z1,z2⟩
    ·exact t3 a z
    ·exact t5 a z1 z2
  have r2:be (vs++[]) (us++[]):=by rw[List.append_nil,List.append_nil];exact r
  let EX:XK:=fun C _ b=>∃c L S,X.mg c=some C/\aC X.K F b Y L S/\E c L;have sp:aW X.K X.mg f vs H Q EX:=by
   refine⟨hx.1.at st,cs,i,W.flatten++F.O₀,ar.mono a3,a0,fun a h=>?_,?_⟩
   ·exact y.live a (by have:=(l a).mpr h;rw[Z] at this;exact this)
   ·cases hf:f cs with
    | bad=>rw[hf] at q;exact q
    | rt c a1=>
     rw[hf] at q;simp only at q ⊢;intro v b M d a4 R t;obtain⟨B,t1,t2,t3⟩:=j b (d.flatten++M) t;have D:aL (d.flatten++M++(W.flatten++F.O₀)) b B b:=eB fun a h=>(t3 a).mp h;have J:∀a∈d.flatten++M,a∈F.A₀\/F.H₀ a=none:=fun a h=>by
      rcases t.new a h with z | z
      ·exact nw a z
      ·by_cases hA:a∈F.A₀
       ·exact .inl hA
       ·refine .inr ?_;cases e:F.H₀ a with
        | none=>rfl
        | some o=>have:=y.kept a o hA e;rw[z] at this;cases this
     have lj:(eP js U).length=U.length:=qy;obtain⟨O4,u1,u2⟩:=qC (fp:=M) ja lj t1 (R.mono D) fun a h=>J a (bi _ h);exact hQ c _ q v b O4 M ⟨u1,a4.keep (D.trans u2) (fun _ _=>rfl) (fun _ _ _ e=>e),fun a h=>J a (bh _ h)⟩ (s1.trans (t2.trans u2))
    | ex c a1=>
     rw[hf] at q;simp only at q ⊢;intro C b d hm R t;obtain⟨B,t1,t2,t3⟩:=j b d.flatten t;have D:aL (d.flatten++(W.flatten++F.O₀)) b B b:=eB fun a h=>(t3 a).mp h;have J:∀a∈d.flatten,a∈F.A₀\/F.H₀ a=none:=fun a h=>by
      rcases t.new a h with z | z
      ·exact nw a z
      ·by_cases hA:a∈F.A₀
       ·exact .inl hA
       ·refine .inr ?_;cases e:F.H₀ a with
        | none=>rfl
        | some o=>have:=y.kept a o hA e;rw[z] at this;cases this
     have lj:(eP js U).length=U.length:=qy;obtain⟨O4,u1,u2⟩:=qC (fp:=[]) ja lj (by rw[List.append_nil];exact t1) (R.mono D) J;exact⟨c,_,O4,hm,u1,q⟩
  have hl:(us++[]).length=ps.length:=by rw[List.append_nil,<-r.length];exact G.len _ _ _ _ sp
  refine wpAny_call (codeAny_mono (G.run X.A X.stack s H ⟨us,[]⟩ us vs Q EX hr I.env0 (by have:=hb s us I.kIn hl;rw[List.append_nil] at this;exact this) r sp) fun r s' hq=>?_);cases r with
  | error e=>obtain⟨a,C,b,e1,I',cv,ex,c,L,S,hm,a5,hE⟩:=I.flies hq;exact hx.2 m Y b s' e c L S ⟨I',a,C,s.heap,_,e1,cv,ex,hm⟩ a5 hE
  | ok fl=>
   cases fl with
   | ret u=>exact I.after hq
   | next=>exact False.elim hq
   | brk=>exact False.elim hq
   | cont=>exact False.elim hq
theorem JT(M:dS X F E)(G:ay X.prog X.w X.K X.mg X.base (aU X.prog X.w) k g fd ps (aW X.K X.mg f))(N:bq k X.A)(R:Gl X x)(S:X.mg x=some (.ref g))(T:keepIn X.K (.ref g)=true)(Z:fP X.K fd ps [])
  (o:DX X F (e::es) tX) (t:(x==("__debug__":Str))=false:=by decide) (he:starEach (e::es) X.env=(false,eval e X.env)::starEach es X.env:=by rfl) (u:(backTo pos (starEach es X.env)).any (·.1)=false:=by rfl) :
  DO X F (.Call (.Name x p) (e::es) [] pos) (vF f E tX):=by
 refine⟨fun U Q Q' k q=>o.mn _ _ _ (fun as b i=>Av k i) q,fun j s Y H Q I ⟨U,O,st,q⟩=>?_⟩;refine wpAny_Call_Name_kw (kK I R S ?_ t);refine callWith_K (h₀:=X.base) I.ok.mod.kin T (aR (o.pa pos j s Y H (fun y l=>∃as b d,aC X.K F l Y b d/\aL O H d l/\cM Y (aw d l) y as/\fW f E (fun c D=>∀v m n z,eA X.K F m Y D n v c z->aL O H n m->Q v m) as b) I ⟨U,O,st,o.mn _ _ _ (fun as b i y l d a J B=>⟨as,b,d,a,J,B,i⟩) q⟩) fun us J ⟨y,l,L,r,as,b,d,a,C,B,i⟩=>⟨L.kIn,?_⟩) he u;exact vG M G N Z L r a B i fun c D h v m n z res s2=>h v m n z res (C.trans s2)
end
def kQ(H:Hp)(O:List Addr):Prop:=∀a∈O,∃o,H a=some o/\Mv o
theorem aC.live{K:Frag}{F:Fx}{H:Hp}{Y:St}{U:ak}{O:List Addr}(st:aC K F H Y U O):kQ H O:=by obtain⟨W,h,rfl⟩:=st;exact h.live
abbrev dL:=ak->(List PyData->ak->Prop)->Prop
def Wk(O:List Addr)(H:Hp)(J:It)(c:List PyData):Prop:=∀e b,aL O H e b->kQ b e->
 (∀i d,c[i]? = some d->J.go i b/\∀x a,J.yld i b x a->bR b a/\DV (aw e a) x d)/\J.stop c.length b
noncomputable def nW(K:Frag)(F:Fx)(s:dL):TI:=fun Y H R=>∃U O,aC K F H Y U O/\s U fun b d=>∀J a c,aC K F a Y d c->aL O H c a->Wk c a J b->R J a
structure DI (X:Cx) (F:Fx) (tg iter:Expr) (s:dL):Prop where
 mn:∀U Q Q',(∀d U',Q d U'->Q' d U')->s U Q->s U Q'
 pi:PI X tg iter (nW X.K F s)
theorem _root_.L2.PI.imp{X:Cx}{b e:Expr}{t t':TI}(h:PI X b e t)(k:∀Y H Q,t' Y H Q->t Y H Q):PI X b e t':=fun a s Y H Q I q=>h a s Y H Q I (k Y H Q q)
section
variable{X:Cx}{F:Fx}{tg e a b:Expr}{te:DT}{tA:dJ}{pos p:Pos}
noncomputable def iL(te:DT):dL:=fun U Q=>te U fun d f=>∃c,d=.list c/\Q c f
noncomputable def iT(te:DT):dL:=fun U Q=>te U fun d f=>∃c,d=.tuple c/\Q c f
theorem JU{K:Frag}{O:List Addr}{H:Hp}{a:Addr}{c:List V}{j:List PyData}(k:aw O H a=some (.lst c))(hd:aK (aw O H) c j):Wk O H (uQ K a) j:=fun t u s ok=>by obtain⟨r,l⟩:=cK k;have h2:=s.keep a _ l r;have f:=aK.mono s.hid hd;refine⟨fun i d e=>?_,⟨c,.of h2,by rw[hd.length];exact bF _⟩⟩;obtain⟨v,g,m⟩:=f.get e;refine⟨⟨c,v,.of h2,g⟩,fun x n ⟨o,q⟩=>?_⟩;subst o;have:=q c (.of h2);rw[g] at this;cases this;exact⟨fun _ _ h=>h,m⟩
theorem JV{K:Frag}{O:List Addr}{H:Hp}{a:Addr}{c:List V}{k:List PyData}(l:Rd (aw O H) a (.tup c))(hd:aK (aw O H) c k):Wk O H (pR K a) k:=fun w m s ok=>by
 obtain⟨u,g⟩:=iq l;have h2:Rd m a (.tup c):=u.imp (fun e=>s.keep a _ g e) fun⟨o,e⟩=>⟨o,s.keep a _ g e⟩
 have f:=aK.mono s.hid hd;refine⟨fun i d e=>?_,⟨c,.inl h2,by rw[hd.length];exact bF _⟩⟩;obtain⟨v,j,n⟩:=f.get e;refine⟨⟨c,v,.inl h2,j⟩,fun x q ⟨r,t⟩=>?_⟩;subst r;have:=t c (.inl h2);rw[j] at this;cases this;exact⟨fun _ _ h=>h,n⟩
theorem JW(h:DE X F e te):DI X F tg e (iL te):=
 ⟨fun _ _ _ k q=>h.mn _ _ _ (fun _ _ ⟨g,e,q⟩=>⟨g,e,k _ _ q⟩) q,(Fz h.pe).imp fun Y H R ⟨U,O,st,q⟩=>
  ⟨U,O,st,h.mn _ _ _ (fun d r ⟨g,e,i⟩ v j l c m n=>by
   subst e;obtain⟨a,o,rfl,f,hd⟩:=n.lst_inv;exact⟨a,rfl,⟨o,.of (cK f).1⟩,i _ j l c m (JU f hd)⟩) q⟩⟩
theorem JX(h:DE X F e te):DI X F tg e (iT te):=
 ⟨fun _ _ _ k q=>h.mn _ _ _ (fun _ _ ⟨g,e,q⟩=>⟨g,e,k _ _ q⟩) q,(yV h.pe).imp fun Y H R ⟨U,O,st,q⟩=>
  ⟨U,O,st,h.mn _ _ _ (fun d r ⟨g,e,i⟩ v j l c m n=>by
   subst e;obtain⟨a,o,rfl,f,hd⟩:=n.tup_inv;exact⟨a,rfl,⟨o,.inl (iq f).1⟩,i _ j l c m (JV f hd)⟩) q⟩⟩
noncomputable def intsFrom(lo:Int)(n:Nat):List PyData:=(List.range n).map fun(i:Nat)=>PyData.int (lo+i)
theorem qD(lo:Int)(n:Nat):(intsFrom lo n).length=n:=by unfold intsFrom;rw[List.length_map,List.length_range]
theorem JY{O:List Addr}{H:Hp}{lo:Int}{n:Nat}:Wk O H (pS lo n) (intsFrom lo n):=fun q r s ok=>by refine⟨fun i d e=>?_,by show n<=(intsFrom lo n).length;rw[qD];exact bF _⟩;unfold intsFrom at e;rw[List.getElem?_map] at e;obtain⟨j,g,k⟩:=Option.map_eq_some_iff.mp e;obtain⟨c,f⟩:=List.getElem?_eq_some_iff.mp g;rw[List.length_range] at c;rw[List.getElem_range] at f;subst f k;exact⟨c,fun x l ⟨m,o⟩=>by subst m o;exact⟨fun _ _ h=>h,.int _⟩⟩
noncomputable def Aw(t:dJ):dL:=fun U Q=>t U fun d c=>∃j:Int,d=[.int j]/\-(2 ^ 62)<=j/\j<2 ^ 62/\Q (intsFrom 0 j.toNat) c
theorem nX(g:Gl X "range")(h:X.mg "range" = none)(c:DA X F [a] tA)(i:starEach [a] X.env=[(false,eval a X.env)]:=by rfl):DI X F tg (.Call (.Name "range" p) [a] [] pos) (Aw tA):=
 ⟨fun _ _ _ k q=>c.mn _ _ _ (fun _ _ ⟨j,e,h1,h2,q⟩=>⟨j,e,h1,h2,k _ _ q⟩) q,(FH g h c.pa i).imp fun Y H R ⟨U,O,st,q⟩=>
  ⟨U,O,st,c.mn _ _ _ (fun v t ⟨j,e,h1,h2,l⟩ u m n f o s=>by
   subst e;cases s with
   | cons d r=>
    cases r;obtain rfl:=d.int_inv;exact⟨j,rfl,h1,h2,l _ m n f o JY⟩) q⟩⟩
end
noncomputable def JZ(s:dL)(g:dU)(c:dW):dW:=fun D U=>s U fun a e=>∃b:Nat->ak->Prop,b 0 e/\(∀i d U,a[i]? = some d->b i U->g d U fun f=>c { D with nx:=b (i+1),ct:=b (i+1),bk:=D.nx } f)/\∀U,b a.length U->D.nx U
section
variable{X:Cx}{F:Fx}{tg iter:Expr}{body:List Stmt}{s:dL}{g:dU}{tb:dW}{pos:Pos}
theorem Ka(hp:PassesOwn (model X.prog X.w) X.A X.env X.xe)(hc:X.calm=true)(hi:DI X F tg iter s)(hg:DG X F tg g)(hb:gl X F body tb)(hs:∀x,foldedSetIterable iter X.env x=pure x:=by intro _;rfl):DS X F (.For tg iter body [] pos) (JZ s g tb):=
 (FL hp hc hi.pi hg.pg hb hs).imp fun D Y H ⟨U,O,DD,st,q,f⟩=>by
  refine⟨U,O,st,hi.mn _ _ _ (fun a U1 ⟨I,i0,step,fin⟩ J L y M N wk=>?_) q⟩;refine⟨fun i m Q z=>∃l u,aC X.K F z Q l u/\aL y L u z/\I i l/\i<=a.length/\m=a.length - i,⟨a.length,U1,y,M,.refl,i0,Nat.zero_le _,rfl⟩,?_⟩;rintro i m Q z ⟨l,u,n,R,iv,a2,rfl⟩;obtain⟨w1,w2⟩:=wk u z R n.live
  by_cases o:i<a.length
  ·obtain⟨go,yld⟩:=w1 i a[i] (List.getElem?_eq_getElem o);refine .inr ⟨go,fun Y2 B=>∃c p,aC X.K F B Y2 c p/\aL y L p B/\I (i+1) c,fun Y2 B ⟨c,p,S,s2,T⟩=>⟨a.length - (i+1),by omega,c,p,S,s2,T,o,rfl⟩,fun x B hy=>?_⟩;obtain⟨sm,dv⟩:=yld x B hy;refine⟨l,u,a[i],n.grow sm,dv,hg.mn _ _ _ _ (fun c q2 Y3 H3 Z a0 s3=>?_) (step i a[i] l (List.getElem?_eq_getElem o) iv)⟩;have r:aL y L Z H3:=R.trans ((aL.same sm).trans s3);have C:∀t h j k,aC X.K F h t j k->aL Z H3 k h->I (i+1) j->∃c p,aC X.K F h t c p/\aL y L p h/\I (i+1) c:=fun t h j k b E G=>⟨j,k,b,r.trans E,G⟩
   exact⟨c,Z,_,a0,q2,⟨C,fun v t h d j k a1 b E G=>f.rt v t h d j k a1 b (N.trans (r.trans E)) G,fun t h j k b E G=>f.nx t h j k b (N.trans (r.trans E)) G,C⟩⟩
  ·have e:i=a.length:=by omega
   subst e;exact .inl ⟨w2,f.nx Q z l u n (N.trans R) (fin l iv)⟩
end
@[simp] noncomputable def qE:Option (Option ai)->Option ai
 | some (some (.dat d))=>some (.dat d)
 | some (some (.scr ns))=>some (.scr ns)
 | some (some (.vw b))=>some (.vw b)
 | _=>none
noncomputable def cF(own:List Str)(a:List Nat)(U:ak):ak:=own.map (fun _=>none)++a.map fun j=>qE U[j]?
noncomputable def nY(own:List Str)(f:List Nat)(s:dL)(g:dU)(l:cx)(m:DT):DT:=fun U Q=>s U fun c j=>∃e:Nat->List PyData->ak->Prop,e 0 [] (cF own f j)/\
 (∀i d a h,c[i]? = some d->e i a h->g d h fun n=>l n fun b k=>if b=true then m k fun y o=>a.length<sizeLine/\e (i+1) (a++[y]) o else e (i+1) a k)/\
 ∀a h,e c.length a h->a.length<=sizeLine/\Q (.list a) j
def jN(s:dL):Prop:=∀U Q a,(∀d b,Q d b->a d b)->s U Q->s U a
section
variable{K:Frag}{F:Fx}{own:List Str}{caps:List Nat}{s:dL}{g:dU}{tc:cx}{te:DT}
theorem vH(c:jN s):Mn (nY own caps s g tc te):=fun _ _ _ k q=>c _ _ _ (fun _ _ ⟨d,e,h1,h2⟩=>⟨d,e,h1,fun a b h=>⟨(h2 a b h).1,k _ _ (h2 a b h).2⟩⟩) q
theorem Ax{N:Fx->Prop}(Z:∀r Y w k O2,aC K F r Y w k->N ⟨r,[],O2,fun _=>0⟩)(hs:jN s)(hg:∀d U Q Q',(∀t,Q t->Q' t)->g d U Q->g d U Q')(ht:ix tc)(he:Mn te):∀Y H Q,fT K F (nY own caps s g tc te) Y H Q->
  jI own caps (nW K F s) (fun v Y H Q=>∃A,N A/\ml K A g v Y H Q) (fun Y H Q=>∃A,N A/\ji K A tc Y H Q) (fun Y H Q=>∃A,N A/\fT K A te Y H Q) Y H Q:=fun Y H Q ⟨U,O,st,q⟩=>by
 refine⟨U,O,st,hs _ _ _ (fun f w ⟨Iv,i0,step,fin⟩ J r k l s1 wk=>?_) q⟩;refine⟨fun i m ys Y' G=>∃t D C,aC K ⟨r,[],k,fun _=>0⟩ G Y' t D/\Iv i C t/\aK (aw D G) ys C/\i<=f.length/\m=f.length - i,⟨f.length,cF own caps w,k,[],?_,i0,.nil,Nat.zero_le _,rfl⟩,?_⟩
 ·have cell:∀(i:Nat) (c:ai),(cF own caps w)[i]? = some (some c)->(∀io b,c≠.own io b)/\∃v,(dB own caps Y)[i]? = some (some v)/\cP K r k v c []:=fun i c e=>by
   unfold cF at e;unfold dB
   by_cases R:i<own.length
   ·rw[List.getElem?_append_left (by simpa using R),List.getElem?_map] at e;cases h:own[i]? with
    | none=>rw[h] at e;cases e
    | some y=>rw[h] at e;cases e
   ·rw[List.getElem?_append_right (by simpa using Nat.le_of_not_lt R),List.length_map,List.getElem?_map] at e;rw[List.getElem?_append_right (by simpa using Nat.le_of_not_lt R),List.length_map,List.getElem?_map];obtain⟨j,h1,h2⟩:=Option.map_eq_some_iff.mp e;rw[h1];show _/\∃v,some ((Y[j]?).getD none)=some (some v)/\_;cases h3:w[j]? with
    | none=>rw[h3] at h2;cases h2
    | some o=>
     cases o with
     | none=>rw[h3] at h2;cases h2
     | some c'=>
      rw[h3] at h2;obtain⟨W,E,rfl⟩:=id l;obtain⟨v,fp,e1,_,I⟩:=E.at_ j c' h3;rw[e1];cases c' with
      | dat d=>cases h2;exact⟨(fun _ _ z=>by cases z),v,rfl,I⟩
      | scr ns=>cases h2;exact⟨(fun _ _ z=>by cases z),v,rfl,I⟩
      | own _ _=>cases h2
      | exc _=>cases h2
      | vw b=>cases h2;exact⟨(fun _ _ z=>by cases z),v,rfl,I⟩
  obtain⟨W,E,a0⟩:=id l;have ln:(cF own caps w).length=(dB own caps Y).length:=by unfold cF dB;simp
  have S:(List.replicate (cF own caps w).length ([]:List Addr)).flatten++k=k:=by rw[jM];rfl
  refine⟨List.replicate (cF own caps w).length [],⟨fun i c e=>?_,by show(_++k).Nodup;rw[S,a0];exact E.nd,fun _ _ _ h=>h,fun a h=>?_,by show kQ r (_++k);rw[S];exact l.live,ln,by simp,fun i b e=>absurd rfl ((cell i _ e).1 true b)⟩,S.symm⟩
  ·obtain⟨_,v,e1,I⟩:=cell i c e;refine⟨v,[],e1,?_,by show cP K r (_++k) v c [];rw[S];exact I⟩;rw[List.getElem?_replicate,if_pos (List.getElem?_eq_some_iff.mp e).1]
  ·rw[jM] at h;cases h
 ·rintro i m ys Y' G ⟨t,D,C,n,iv,dv,R,rfl⟩;have sm:bR r G:=fun b o e=>by obtain⟨W',T,_⟩:=id n;exact T.kept b o (by simp) e
  have a1:aL k r D G:=⟨fun b o _ e=>sm b o e,fun a h=>by
   obtain⟨W',T,rfl⟩:=id n;rcases List.mem_append.mp h with h | h
   ·exact(T.new a h).elim (fun z=>absurd z (by simp)) .inr
   ·exact .inl h⟩
  have B:∀a∈k,a∈D:=fun a h=>by obtain⟨W',T,rfl⟩:=id n;exact bh _ h
  obtain⟨w1,w2⟩:=wk D G a1 n.live
  by_cases u:i<f.length
  ·obtain⟨go,yld⟩:=w1 i f[i] (List.getElem?_eq_getElem u);refine .inr ⟨go,fun x H2 hy=>?_⟩;obtain⟨L,dx⟩:=yld x H2 hy;refine⟨⟨r,[],k,fun _=>0⟩,Z _ _ _ _ _ l,t,D,f[i],n.grow L,dx,hg _ _ _ _ (fun U2 q2 Y3 H3 O3 a2 s3=>?_) (step i f[i] C t (List.getElem?_eq_getElem u) iv)⟩;refine⟨⟨r,[],k,fun _=>0⟩,Z _ _ _ _ _ l,U2,O3,a2,ht _ _ _ (fun b U3 q3 H4 O4 M s4=>?_) q2⟩;have d4:aK (aw O4 H4) ys C:=aK.mono s4.hid (aK.mono s3.hid (aK.mono (jg L) dv));cases b with
   | false=>exact dZ ⟨f.length - (i+1),by omega,U3,O4,C,M,iw q3,d4,u,rfl⟩
   | true=>refine ed ⟨⟨r,[],k,fun _=>0⟩,Z _ _ _ _ _ l,U3,O4,M,he _ _ _ (fun y U4 q4 v H5 O5 a3 s5 dy=>?_) (iu q3)⟩;refine⟨by rw[d4.length];exact q4.1,f.length - (i+1),by omega,U4,O5,C++[y],a3,q4.2,(aK.mono s5.hid d4).append (.cons dy .nil),u,rfl⟩
  ·have e:i=f.length:=by omega
   subst e;obtain⟨hz,q⟩:=fin C t iv;refine .inl ⟨w2,by rw[dv.length];exact hz,fun p X=>?_⟩;have a4:=n.nofree p X;exact q _ _ k (l.grow fun b o e=>bN X _ _ (sm b o e)) (s1.trans (.same fun b o e=>bN X _ _ (sm b o e))) (hJ X (fun z=>a4 (B p z)) (aK.mono (nM B) dv))
end
def kR(X:Cx)(F:Fx)(a:List Expr)(t:cx):Prop:=ix t/\mf X a (ji X.K F t)
noncomputable def Kb:cx:=fun U Q=>Q true U
theorem Kc{X:Cx}{F:Fx}:kR X F [] Kb:=⟨fun _ _ _ k q=>k _ _ q,fun a s Y H Q I ⟨U,O,st,q⟩=>HU a s Y H Q I (q H O st .refl)⟩
theorem Kd{X:Cx}{F:Fx}{c:Expr}{t:cx}(h:DB X F c t):kR X F [c] t:=⟨h.mn,HV h.pt⟩
section
variable{X:Cx}{F:Fx}{scope:Scope}{own capN:List Str}{caps:List Nat}{tg iter elt:Expr}{ifs:List Expr}{s:dL}{g:dU}{tc:cx}{te:DT}{pos:Pos}
theorem Ke(k:GF X.mg F)(S:aj X scope own capN caps)(l:X.calm=true)(j:DI X F tg iter s)
  (c:∀C d e f h b,GF X.mg b->DG (bK X scope (own++capN) C d e f h) b tg g/\kR (bK X scope (own++capN) C d e f h) b ifs tc/\DE (bK X scope (own++capN) C d e f h) b elt te)
  (m:∀x,foldedSetIterable iter X.env x=pure x:=by intro _;rfl):DE X F (.ListComp elt [⟨tg,iter,ifs,0⟩] scope pos) (nY own caps s g tc te):=by
 have t:Fx:=F;obtain⟨n,o,p⟩:=c 0 [] (PySem.start X.prog).1 (fun _=>none) [] F k;refine⟨vH j.mn,(qi S l j.pi (fun C d e f h=>⟨fun a s Y H v u Q I r ⟨b,i,q⟩=>(c C d e f h b i).1.pg a s Y H v u Q I r q,fun a s Y H Q I ⟨b,i,q⟩=>(c C d e f h b i).2.1.2 a s Y H Q I q,fun a s Y H Q I ⟨b,i,q⟩=>(c C d e f h b i).2.2.pe a s Y H Q I q⟩) m).imp (Ax (fun _ _ _ _ _ st=>k.into st) j.mn n.mn o.1 p.mn)⟩
theorem Kf{i:Nat}{y:Str}{py e:Pos}(z:X.N.Nodup)(n:X.N[i]? = some y)(A:fO X.env.scope y)(w:GF X.mg F)(S:aj X scope own capN caps)(B:X.calm=true)(o:DI X F tg iter s)
  (c:∀C h j k l b,GF X.mg b->DG (bK X scope (own++capN) C h j k l) b tg g/\kR (bK X scope (own++capN) C h j k l) b ifs tc/\DE (bK X scope (own++capN) C h j k l) b elt te)
  (p:swapsWith (.ListComp elt [⟨tg,iter,ifs,0⟩] scope pos) (some (.Name y py)) e.line X.env=pure true:=by rfl)
  (E:∀x,foldedSetIterable iter X.env x=pure x:=by intro _;rfl) (G:X.fn y=true\/X.env.scope.names.lookup y=some .local:=by first | exact .inl rfl | exact .inr rfl | assumption) :
  DS X F (.Assign [.Name y py] (.ListComp elt [⟨tg,iter,ifs,0⟩] scope pos) e) (qw (nY own caps s g tc te) (gN i)):=by
 obtain⟨J,L,M⟩:=c 0 [] (PySem.start X.prog).1 (fun _=>none) [] F w;refine(HW z n A S B o.pi (fun C h j k l=>⟨fun a s Y H v u Q I r ⟨b,m,q⟩=>(c C h j k l b m).1.pg a s Y H v u Q I r q,fun a s Y H Q I ⟨b,m,q⟩=>(c C h j k l b m).2.1.2 a s Y H Q I q,fun a s Y H Q I ⟨b,m,q⟩=>(c C h j k l b m).2.2.pe a s Y H Q I q⟩) p E G).imp
  fun D Y H ⟨U,O,DD,st,q,f⟩=>Ax (fun _ _ _ _ _ st=>w.into st) o.mn J.mn L.1 M.mn Y H _ ⟨U,O,st,vH o.mn _ _ _ (fun d U1 R v T Z t s1 d1=>f.nx _ T _ Z (t.set d1) s1 R) q⟩
end
end L2.L3
namespace L2
open PySem PySem.Spec PyProof.Rows
section
variable{X:Cx}{pins:List (Addr×Obj)}{Y:St}{H:Hp}{s:Shared}
theorem Inv.track{a:Addr}{o:HO}(I:Inv X pins Y H s)(f:gU X pins H a)(new:cw X.prog X.w (aN H a o) s.heap a o):Inv X pins Y (aN H a o) s:=by
 have g:=f.1;refine I.step (h':=s.heap) (g':=s.gens) (d':=s.drawn) (t':=s.toks) (ch:=[a]) (fun b h=>by obtain rfl:=List.mem_singleton.mp h;exact⟨f.2.2.2.1,f.2.1,f.2.2.2.2.1,f.2.2.2.2.2⟩) (fun b d _ _ _ e _=>e) (fun b d _ _ _ e _=>⟨d.slots,e⟩)
  (fun b d i _ n=>by rw[bw (fun z=>i (by simp[z]))];exact n) (fun b d _ e=>⟨d,e⟩) (fun b j e=>bN g b _ e) (fun b d u e=>bN g b _ e) (fun b l e=>⟨#[],by rw[bN g b _ e];simp⟩) (fun m k=>k) (fun b u e=>?_) I.bare
 by_cases h:b=a
 ·subst h;rw[cn] at e;cases e;exact new
 ·rw[bw h] at e;exact(I.hok b u e).stay (fun _ _ _ q=>q) (fun c q=>bN g c _ q) fun c j q=>bN g c _ q
end
theorem nZ{x y z:V}{a:List Value}(r:be [x,y,z] a):∃u v w,a=[u,v,w]/\bj x u/\bj y v/\bj z w:=by
 cases r with
 | cons b r=>cases r with
  | cons c r=>cases r with
   | cons d r=>cases r;exact⟨_,_,_,rfl,b,c,d⟩
section
variable{X:Cx}{a b c:Expr}{t:TA}{pos p1 p2 pos2:Pos}
noncomputable def Kg(t:TA):TE:=fun Y H Q=>t Y H fun n d=>∃k l m e g h,n=[.ref k,.ref l,.ref m]/\d k=some (.lst e)/\d l=some (.lst g)/\d m=some (.lst h)/\g.length=e.length/\h.length=e.length/\0<e.length/\
 ∀p f (j:List Addr),bR d f->d p=none->f p=some (.lst (j.map V.ref))->j.length=e.length->(∀(i:Nat) (q:Addr),j[i]? = some q->∃x y z,e[i]? = some x/\g[i]? = some y/\h[i]? = some z/\d q=none/\f q=some (.tup [x,y,z]))->Q (.ref p) f
theorem Ay:∀{acc:List Value},(∀(j:Nat) (w:Value),acc[j]? = some w->∃T,w=Value.ref T)->∃d:List Addr,acc=d.map Value.ref
 | [],_=>⟨[],rfl⟩
 | v::r,h=>by obtain⟨T,e⟩:=h 0 v rfl;obtain⟨d,f⟩:=Ay (acc:=r) fun j w e=>h (j+1) w (by simpa using e);exact⟨T::d,by rw[f,e];rfl⟩
theorem Kh{h:Heap}{n:Addr}{f g i:Array Value}{d:List Value}(t:qj h n f g i d):∃k:List Addr,d=k.map Value.ref:=
 Ay fun j w e=>by obtain⟨T,_,_,_,e,_⟩:=t j w e;exact⟨T,e⟩
theorem Ki(hc:X.calm=true)(c2:Gl X "list")(c3:X.mg "list" = none)(c4:Gl X "zip")(c5:X.mg "zip" = none)(ha:PA X [a,b,c] t)
  (he:starEach [.Call (.Name "zip" p2) [a,b,c] [] pos2] X.env=[(false,eval (.Call (.Name "zip" p2) [a,b,c] [] pos2) X.env)]:=by rfl)
  (hs:starEach [a,b,c] X.env=(false,eval a X.env)::starEach [b,c] X.env:=by rfl) (c6:(backTo pos2 (starEach [b,c] X.env)).any (·.1)=false:=by rfl) :
  PE X (.Call (.Name "list" p1) [.Call (.Name "zip" p2) [a,b,c] [] pos2] [] pos) (Kg t):=by
 intro g s Y H Q I h;refine wpAny_Call_Name_kw (jG I c2 c3 (show bootBuiltins "list" = some (.type "list") by decide +kernel) ?_ (by decide) (by decide));refine PyProof.Rows.callWith_type1 ?_ (by rw[he];rfl) rfl;rw[he];show wpAny _ _ (spliced [(false,eval (.Call (.Name "zip" p2) [a,b,c] [] pos2) X.env)]) _ _ s;refine Calls.spliced_cons ?_;refine wpAny_Call_Name_kw (jG I c4 c5 boot_zip ?_ (by decide) (by decide));refine PyProof.Rows.callWith_type1 (aR (ha pos2 g s Y H _ I h) fun us d ⟨vs,B,R,r1,q1⟩=>?_) hs c6;obtain⟨l1,l2,l3,A,S,U,rfl,h1,O,h3,e2,e3,e6,q⟩:=q1;obtain⟨u1,u2,u3,rfl,c7,c8,c9⟩:=nZ r1;cases c7;cases c8;cases c9;obtain⟨z1,Z,n1,a0,g1⟩:=R.hok _ _ h1;obtain⟨z2,a6,n2,a7,g2⟩:=R.hok _ _ O;obtain⟨z3,a8,n3,a9,g3⟩:=R.hok _ _ h3;have L1:d.heap.IsList l1 Z.toArray:=⟨_,g1,rfl,_,rfl⟩
 have b0:d.heap.IsList l2 a6.toArray:=⟨_,g2,rfl,_,rfl⟩
 have b1:d.heap.IsList l3 a8.toArray:=⟨_,g3,rfl,_,rfl⟩
 have b2:=a0.length;have e7:=a7.length;have e8:=a9.length;refine Ii L1 b0 b1 fun v hz d0 d1 qS d2 d3 d4 hk=>?_;refine Calls.spliced_nil ?_;have b3:l1<d.heap.objs.size:=bC g1;have b4:l2<d.heap.objs.size:=bC g2;have b5:l3<d.heap.objs.size:=bC g3;have nd:[d.heap.objs.size+5,d.heap.objs.size+3,d.heap.objs.size+4,d.heap.objs.size,d.heap.objs.size+1,d.heap.objs.size+2].Nodup:=by generalize d.heap.objs.size=n;simp only[List.nodup_cons,List.mem_cons,List.not_mem_nil,or_false,not_or,not_false_eq_true,and_true,List.nodup_nil];refine⟨⟨?_,?_,?_,?_,?_⟩,⟨?_,?_,?_,?_⟩,⟨?_,?_,?_⟩,⟨?_,?_⟩,?_⟩<;>exact(by intro e;exact absurd (show(_:Nat)=_ from e) (by omega))
 have ge:∀j∈[d.heap.objs.size+5,d.heap.objs.size+3,d.heap.objs.size+4,d.heap.objs.size,d.heap.objs.size+1,d.heap.objs.size+2],d.heap.objs.size<=j:=fun j w=>by
  simp only[List.mem_cons,List.not_mem_nil,or_false] at w;rcases w with rfl | rfl | rfl | rfl | rfl | rfl
  ·exact Nat.le_add_right _ _
  ·exact Nat.le_add_right _ _
  ·exact Nat.le_add_right _ _
  ·exact bF _
  ·exact Nat.le_add_right _ _
  ·exact Nat.le_add_right _ _
 have I2:Inv X g Y B { d with heap:=v }:=R.kept (t':=d.toks) hk;refine Ij (s:={ d with heap:=v }) (R.ok.hd hc) nd (fun l hl j w=>?_) (fun j w=>?_) hz d0 d1 qS d2 d3 (L1.at fun o e=>hk _ _ e) (b0.at fun o e=>hk _ _ e) (b1.at fun o e=>hk _ _ e)
  (by simp only[List.size_toArray];omega) (by simp only[List.size_toArray];omega) (by simp only[List.size_toArray];omega) (by simp only[List.size_toArray];omega) fun O e9 cc qT hS hl tr=>?_
 ·simp only[List.mem_cons,List.not_mem_nil,or_false] at hl;rcases hl with rfl | rfl | rfl
  ·exact Nat.ne_of_lt (Nat.lt_of_lt_of_le b3 (ge j w))
  ·exact Nat.ne_of_lt (Nat.lt_of_lt_of_le b4 (ge j w))
  ·exact Nat.ne_of_lt (Nat.lt_of_lt_of_le b5 (ge j w))
 ·show j<v.objs.size;rw[d4];simp only[List.mem_cons,List.not_mem_nil,or_false] at w;generalize d.heap.objs.size=n at *;rcases w with rfl | rfl | rfl | rfl | rfl | rfl | rfl | rfl | rfl
  ·exact Nat.lt_succ_self _
  ·exact Nat.add_lt_add_left (show(3:Nat)<6 by decide) _
  ·exact Nat.add_lt_add_left (show(4:Nat)<6 by decide) _
  ·exact Nat.lt_add_of_pos_right (by decide)
  ·exact Nat.add_lt_add_left (show(1:Nat)<6 by decide) _
  ·exact Nat.add_lt_add_left (show(2:Nat)<6 by decide) _
  ·exact Nat.lt_of_lt_of_le b3 (Nat.le_add_right _ _)
  ·exact Nat.lt_of_lt_of_le b4 (Nat.le_add_right _ _)
  ·exact Nat.lt_of_lt_of_le b5 (Nat.le_add_right _ _)
 ·
  have kp:∀b ob,d.heap.get? b=some ob->O.get? b=some ob:=fun b ob e=>qT b ob (fun z=>absurd (ge b (by
   simp only[List.mem_cons,List.not_mem_nil,or_false] at z ⊢;rcases z with z | z | z | z | z<;>simp[z])) (Nat.not_le.mpr (bC e))) (hk b ob e)
  have I3:Inv X g Y B { d with heap:=O }:=R.kept (t':=d.toks) kp;obtain⟨f,C⟩:=Kh tr;have big:∀b,v.objs.size<=b->gU X g B b:=fun b D=>I2.fpOk D (I2.hok.fresh D);have E:f.length=A.length:=by have:=congrArg List.length C;rw[List.length_map] at this;rw[<-this,hl,List.size_toArray];exact b2.symm
  have vq:∀f:List Addr,be (f.map V.ref) (f.map Value.ref):=fun f=>by
   induction f with
   | nil=>exact .nil
   | cons q r ih=>exact .cons rfl ih
  have I4:Inv X g Y (aN B v.objs.size (.lst (f.map V.ref))) { d with heap:=O }:=I3.track (big _ (bF _)) ⟨by rw[List.length_map,E];exact z1,_,_,vq f,by rw[<-C];exact hS⟩;have all:∀k,k<=f.length->∃u,bR B u/\Inv X g Y u { d with heap:=O }/\u v.objs.size=some (.lst (f.map V.ref))/\(∀b,v.objs.size<b->u b=none\/∃row,u b=some (.tup row))/\
    ∀(i:Nat) (q:Addr),i<k->f[i]? = some q->∃x y z,A[i]? = some x/\S[i]? = some y/\U[i]? = some z/\B q=none/\u q=some (.tup [x,y,z]):=fun k=>by
   induction k with
   | zero=>exact fun _=>⟨_,bN (big _ (bF _)).1,I4,cn,fun b D=>.inl (by rw[bw (Nat.ne_of_gt D)];exact(big b (Nat.le_of_lt D)).1),fun i q h=>absurd h (Nat.not_lt_zero _)⟩
   | succ k ih=>
    intro b6;obtain⟨u,sm,J,hp,G,m⟩:=ih (Nat.le_of_succ_le b6);have b7:k<f.length:=b6;have L:f[k]? = some f[k]:=List.getElem?_eq_getElem b7;obtain⟨T,x',y',u',eT,hT,b8,ex,ey,eu⟩:=tr k (.ref f[k]) (by rw[C,List.getElem?_map,L];rfl);cases eT;have p:v.objs.size<f[k]:=hT;have kx:k<A.length:=by rw[<-E];exact b7
    have vx:A[k]? = some A[k]:=List.getElem?_eq_getElem kx;have vy:S[k]? = some (S[k]'(by omega)):=List.getElem?_eq_getElem (by omega);have vz:U[k]? = some (U[k]'(by omega)):=List.getElem?_eq_getElem (by omega);obtain⟨w1,d5,d6⟩:=a0.get vx;obtain⟨w2,d7,d8⟩:=a7.get vy;obtain⟨w3,d9,e0⟩:=a9.get vz;have e1:x' = w1:=by simp only[List.getElem?_toArray] at ex;rw[d5] at ex;exact(Option.some.inj ex).symm
    have e4:y' = w2:=by simp only[List.getElem?_toArray] at ey;rw[d7] at ey;exact(Option.some.inj ey).symm
    have e5:u' = w3:=by simp only[List.getElem?_toArray] at eu;rw[d9] at eu;exact(Option.some.inj eu).symm
    subst e1 e4 e5;have rel:be [A[k],S[k]'(by omega),U[k]'(by omega)] [x',y',u']:=.cons d6 (.cons d8 (.cons e0 .nil));have b9:B f[k]=none:=(big _ (Nat.le_of_lt p)).1;rcases G f[k] p with hn | ⟨row,hr⟩
    ·refine⟨aN u f[k] (.tup [A[k],S[k]'(by omega),U[k]'(by omega)]),fun b o e=>bN hn _ _ (sm b o e),J.track ⟨hn,(big _ (Nat.le_of_lt p)).2⟩ ⟨by show 3<=sizeLine;decide,_,rel,⟨_,b8,rfl,_,rfl⟩⟩,
      by rw[bw (Nat.ne_of_lt p)];exact hp,fun b D=>?_,fun i q M N=>?_⟩
     ·by_cases e:b=f[k]
      ·subst e;exact .inr ⟨_,cn⟩
      ·rw[bw e];exact G b D
     ·rcases Nat.lt_succ_iff_lt_or_eq.mp M with M | rfl
      ·obtain⟨x,y,z,a1,a2,a3,a4,a5⟩:=m i q M N;exact⟨x,y,z,a1,a2,a3,a4,bN hn _ _ a5⟩
      ·rw[L] at N;cases N;exact⟨_,_,_,vx,vy,vz,b9,cn⟩
    ·have same:row=[A[k],S[k]'(by omega),U[k]'(by omega)]:=by
      obtain⟨_,c0,rv,o,eo,co,n,dn⟩:=J.hok _ _ hr;have c1:O.get? f[k]=some o:=eo;rw[b8] at c1;cases c1;have d':(#[x',y',u']:Array Value)=c0.toArray:=by injection dn
      have:c0=[x',y',u']:=by have:=congrArg Array.toList d';simpa using this.symm
      subst this;exact rv.inj rel
     refine⟨u,sm,J,hp,G,fun i q M N=>?_⟩;rcases Nat.lt_succ_iff_lt_or_eq.mp M with M | rfl
     ·exact m i q M N
     ·rw[L] at N;cases N;exact⟨_,_,_,vx,vy,vz,b9,by rw[hr,same]⟩
  obtain⟨u,sm,J,hp,_,m⟩:=all f.length (bF _);exact⟨.ref v.objs.size,u,J,rfl,q v.objs.size u f sm (big _ (bF _)).1 hp E fun i qq e=>m i qq (List.getElem?_eq_some_iff.mp e).1 e⟩
theorem Kj(E:X.calm=true):gj X (.builtin "all") (fun p H Q=>∃(l:Addr) (bs:List Bool),p=[.ref l]/\H l=some (.lst (bs.map V.bl))/\Q (.bl (bs.all id)) H):=by
 intro y s Y H p U Q I r h;obtain⟨l,bs,rfl,G,q⟩:=h;obtain⟨u,rfl,ru⟩:=cZ r;cases ru;obtain⟨z,d,n,B,e⟩:=I.hok _ _ G;have L:s.heap.IsList l d.toArray:=⟨_,e,rfl,_,rfl⟩
 have f:l<s.heap.objs.size:=bC e;have len:=B.length;rw[List.length_map] at len;refine call_all_walk (wpAny_pyIter_list L ?_);refine⟨s.heap.objs.size,_,_,_,_,_,fun i=>bs.getD i true,rfl,Walks.list (A:=X.A.in1) (show X.A.in1.handled=none from I.ok.hd E) s.heap.objs.size l (Nat.ne_of_lt f) d.toArray,⟨⟨_,Heap.get?_push_size _ rfl,rfl,rfl⟩,L.push _⟩,?_,fun Z tk J=>?_⟩
 ·intro i v M N E' O k;have g:d[i]? = some v:=by simpa using O
  have f:i<bs.length:=by rw[len];exact(List.getElem?_eq_some_iff.mp g).1
  obtain⟨w,C,m⟩:=B.get (i:=i) (x:=.bl bs[i]) (by rw[List.getElem?_map,List.getElem?_eq_getElem f];rfl);rw[g] at C;cases C;cases m;refine wpAny_truthy_bool ?_;have:bs.getD i true=bs[i]:=by simp[List.getD,f]
  have k:N (bs.getD i true) M:=k;rw[this] at k;exact k
 ·have R:(List.range d.toArray.size).all (fun i=>bs.getD i true)=bs.all id:=by
   rw[List.size_toArray,<-len];rw[Bool.eq_iff_iff,List.all_eq_true,List.all_eq_true];constructor
   ·intro h b S;obtain⟨i,g,rfl⟩:=List.getElem_of_mem S;have:=h i (List.mem_range.mpr g);simpa[List.getD,g] using this
   ·intro h i g;have j:=List.mem_range.mp g;have:=h bs[i] (List.getElem_mem j);simpa[List.getD,j] using this
  rw[R];exact⟨.bl (bs.all id),H,I.kept fun b o D=>J b o (fun T=>absurd (bC D) (by rw[List.mem_singleton.mp T];exact Nat.lt_irrefl _)) (br _ D),rfl,q⟩
end
end L2
namespace L2.L3
open PySem PySem.Spec PyProof.Rows
noncomputable def Az:DN:=fun b Q=>∃a,(b=[.list a]\/b=[.tuple a])/\Q (.int a.length)
theorem jl{K:Frag}:iy (fun xs H Q=>∃p ys,xs=[.ref p]/\(df K H p ys\/ei K H p ys)/\Q (.int ys.length) H) Az where
 mn:=fun _ _ _ k ⟨ds,e,q⟩=>⟨ds,e,k _ q⟩
 ok:=fun O H vs xs Q hO hd ⟨ds,e,q⟩=>by
  rcases e with rfl | rfl
  ·cases hd with
   | cons d r=>cases r;obtain⟨a,ys,rfl,ha,hy⟩:=d.lst_inv;exact⟨a,ys,rfl,.inl (.of (cK ha).1),by rw[hy.length];exact q _ H (fun _ _ h=>h) (.int _)⟩
  ·cases hd with
   | cons d r=>cases r;obtain⟨a,ys,rfl,ha,hy⟩:=d.tup_inv;exact⟨a,ys,rfl,.inr (.inl (iq ha).1),by rw[hy.length];exact q _ H (fun _ _ h=>h) (.int _)⟩
theorem oa{H:Hp}{c:List V}{a b:PyData}(h:aK H c [a,b]):∃x y,c=[x,y]/\DV H x a/\DV H y b:=by cases h with | cons d r=>cases r with | cons e r=>cases r;exact⟨_,_,rfl,d,e⟩
theorem hU{H:Hp}{b:List V}{a:PyData}(h:aK H b [a]):∃x,b=[x]/\DV H x a:=by cases h with | cons d r=>cases r;exact⟨_,rfl,d⟩
theorem vI{H:Hp}{f:List V}{a b c:PyData}(h:aK H f [a,b,c]):∃x y z,f=[x,y,z]/\DV H x a/\DV H y b/\DV H z c:=by cases h with | cons d r=>cases r with | cons g r=>cases r with | cons e r=>cases r;exact⟨_,_,_,rfl,d,g,e⟩
noncomputable def AA:DN:=fun a Q=>∃i j:Int,a=[.int i,.int j]/\Q (.int (max i j))
theorem AB:iy (fun xs H Q=>∃i j,xs=[.int i,.int j]/\Q (.int (if j>i then j else i)) H) AA where
 mn:=fun _ _ _ k ⟨i,j,e,q⟩=>⟨i,j,e,k _ q⟩
 ok:=fun O H vs xs Q hO hd ⟨i,j,e,q⟩=>by
  subst e;obtain⟨x,y,rfl,h1,h2⟩:=oa hd;have e:(if j>i then j else i)=max i j:=by split<;>omega
  exact⟨i,j,by rw[h1.int_inv,h2.int_inv],by rw[e];exact q _ H (fun _ _ h=>h) (.int _)⟩
noncomputable def AC:DN:=fun b Q=>(∃a,b=[.list a]/\Q (.tuple a))\/∃a,b=[.tuple a]/\Q (.tuple a)
theorem Kk{K:Frag}:iy (fun xs H Q=>∃p ys,xs=[.ref p]/\((df K H p ys/\∀l,H l=none->Q (.ref l) (aN H l (.tup ys)))\/(ei K H p ys/\Q (.ref p) H))) AC where
 mn:=fun _ _ _ k q=>q.imp (fun⟨i,e,q⟩=>⟨i,e,k _ q⟩) fun⟨i,e,q⟩=>⟨i,e,k _ q⟩
 ok:=fun O H vs xs Q hO hd q=>by
  rcases q with⟨ds,e,q⟩ | ⟨ds,e,q⟩
  ·subst e;obtain⟨x,rfl,h1⟩:=hU hd;obtain⟨a,ys,rfl,ha,hy⟩:=h1.lst_inv;exact⟨a,ys,rfl,.inl ⟨.of (cK ha).1,fun p hp=>q _ _ (bN hp) (qr hp (hO p hp) hy)⟩⟩
  ·subst e;obtain⟨x,rfl,h1⟩:=hU hd;obtain⟨a,ys,e,ha,hy⟩:=h1.tup_inv;subst e;exact⟨a,ys,rfl,.inr ⟨.inl (iq ha).1,q _ H (fun _ _ h=>h) h1⟩⟩
noncomputable def AD:DN:=fun a Q=>∃bs:List Bool,a=[.list (bs.map .bool)]/\Q (.bool (bs.all id))
theorem vJ{H:Hp}:∀{bs:List Bool}{a:List V},aK H a (bs.map PyData.bool)->a=bs.map V.bl
 | [],_,h=>by cases h;rfl
 | b::r,_,h=>by
  cases h with
  | cons d q=>rw[d.bl_inv,vJ q];rfl
theorem Kl:iy (fun xs H Q=>∃(l:Addr) (bs:List Bool),xs=[.ref l]/\H l=some (.lst (bs.map V.bl))/\Q (.bl (bs.all id)) H) AD where
 mn:=fun _ _ _ k ⟨bs,e,q⟩=>⟨bs,e,k _ q⟩
 ok:=fun O H vs xs Q hO hd ⟨bs,e,q⟩=>by subst e;obtain⟨x,rfl,h1⟩:=hU hd;obtain⟨a,ys,rfl,ha,hy⟩:=h1.lst_inv;exact⟨a,bs,rfl,by rw[(cK ha).1,vJ hy],q _ H (fun _ _ h=>h) (.bl _)⟩
noncomputable def og(as bs a:List PyData):List PyData:=(as.zip (bs.zip a)).map fun q=>PyData.tuple [q.1,q.2.1,q.2.2]
noncomputable def AE(t:dJ):DT:=fun U Q=>t U fun c b=>∃as bs a,c=[.list as,.list bs,.list a]/\bs.length=as.length/\a.length=as.length/\0<as.length/\Q (.list (og as bs a)) b
theorem AF:∀{H:Hp}{a:List V}{b:List PyData},a.length=b.length->(∀(i:Nat) v d,a[i]? = some v->b[i]? = some d->DV H v d)->aK H a b
 | _,[],[],_,_=>.nil
 | _,[],_::_,e,_=>by cases e
 | _,_::_,[],e,_=>by cases e
 | H,v::a,d::b,e,h=>.cons (h 0 v d rfl rfl) (AF (by simpa using e) fun i c f g j=>h (i+1) c f (by simpa using g) (by simpa using j))
section
variable{X:Cx}{F:Fx}{a b c e:Expr}{te:DT}{tA:dJ}{pos p1 p2 pos2:Pos}
theorem Km(Z:X.calm=true)(o:Gl X "list")(r:X.mg "list" = none)(s:Gl X "zip")(t:X.mg "zip" = none)(u:DA X F [a,b,c] tA)
  (he:starEach [.Call (.Name "zip" p2) [a,b,c] [] pos2] X.env=[(false,eval (.Call (.Name "zip" p2) [a,b,c] [] pos2) X.env)]:=by rfl)
  (hs:starEach [a,b,c] X.env=(false,eval a X.env)::starEach [b,c] X.env:=by rfl) (w:(backTo pos2 (starEach [b,c] X.env)).any (·.1)=false:=by rfl) :
  DE X F (.Call (.Name "list" p1) [.Call (.Name "zip" p2) [a,b,c] [] pos2] [] pos) (AE tA):=
 ⟨fun _ _ _ k q=>u.mn _ _ _ (fun _ _ ⟨x,y,z,e,h1,h2,h3,q⟩=>⟨x,y,z,e,h1,h2,h3,k _ _ q⟩) q,(Ki Z o r s t u.pa he hs w).imp fun Y H Q ⟨U,O,st,q⟩=>
  ⟨U,O,st,u.mn _ _ _ (fun ds U1 ⟨as,bs,cs,e,l1,l2,l3,q1⟩ vs H1 A g s1 B=>by
   subst e;obtain⟨x,y,z,rfl,h1,h2,h3⟩:=vI B;obtain⟨a1,xs,rfl,C,h⟩:=h1.lst_inv;obtain⟨a2,ys,rfl,D,M⟩:=h2.lst_inv;obtain⟨a3,zs,rfl,E,N⟩:=h3.lst_inv;refine⟨a1,a2,a3,xs,ys,zs,rfl,(cK C).1,(cK D).1,(cK E).1,by rw[h.length,M.length];exact l1,by rw[h.length,N.length];exact l2,by rw[h.length];exact l3,fun p H2 qs G hp I hl j=>?_⟩;have R:∀b,H1 b=none->b∉A:=g.nofree;refine q1 _ H2 A (g.grow G) (s1.trans (.same G)) (.lst (gk I (R p hp)) (AF ?_ fun i v d S J=>?_))
   ·unfold og;rw[List.length_map,List.length_map,List.length_zip,List.length_zip,hl,h.length];omega
   ·rw[List.getElem?_map] at S;obtain⟨T,e3,e4⟩:=Option.map_eq_some_iff.mp S;subst e4;obtain⟨x,y,z,g1,g2,g3,g4,g5⟩:=j i T e3;unfold og at J;rw[List.getElem?_map] at J;obtain⟨⟨d0,B,d2⟩,e5,e6⟩:=Option.map_eq_some_iff.mp J;subst e6;obtain⟨e7,e8⟩:=List.getElem?_zip_eq_some.mp e5;obtain⟨e9,L⟩:=List.getElem?_zip_eq_some.mp e8;obtain⟨dx,k1,k2⟩:=h.get' g1;obtain⟨dy,k3,k4⟩:=M.get' g2;obtain⟨dz,k5,k6⟩:=N.get' g3;have l:as[i]? = some d0:=e7;have n:bs[i]? = some B:=e9;have f:cs[i]? = some d2:=L;rw[k1] at l;rw[k3] at n;rw[k5] at f;cases l;cases n;cases f;have m:=jg (O:=A) G;exact .tup (.inl (gk g5 (R T g4))) (.cons (DV.mono m k2) (.cons (DV.mono m k4) (.cons (DV.mono m k6) .nil)))) q⟩⟩
noncomputable def AG(te:DT)(k:Nat):DT:=fun U Q=>te U fun d g=>∃f,d=.list f/\Q (.list (f.drop k)) g
theorem Kn{k j:Nat}{x n:Pos}(l:DE X F e te):DE X F (.Subscript e (.Slice (some (.Constant (.int (k:Int)) j x)) none none n) pos) (AG te k):=
 ⟨fun _ _ _ k q=>l.mn _ _ _ (fun _ _ ⟨m,e,q⟩=>⟨m,e,k _ _ q⟩) q,(GU Hf l.pe (GR pN) GQ).imp fun Y H Q ⟨U,O,st,q⟩=>
  ⟨U,O,st,l.mn _ _ _ (fun d y ⟨m,e,o⟩ v z r f s t=>by
   subst e;obtain⟨a,g,rfl,u,w⟩:=t.lst_inv;refine⟨(k:Int),rfl,a,g,rfl,.of (cK u).1,fun p i=>o _ _ r (f.grow (bN i)) (s.trans (.same (bN i))) (hJ i (f.nofree p i) ?_)⟩;have:me g (some (k:Int)) none=g.drop k:=by
    unfold me;rw[HT.sIx_none,HT.sIx_nat]
    by_cases h:k<=g.length
    ·rw[Nat.min_eq_left h,List.take_of_length_le (by rw[List.length_drop];exact bF _)]
    ·rw[Nat.min_eq_right (by omega),List.drop_of_length_le (bF _),List.drop_of_length_le (by omega)];simp
   rw[this];exact w.drop k) q⟩⟩
end
section
variable{X:Cx}{F:Fx}{a b c e:Expr}{te:DT}{tA:dJ}{pos p p1 p2 pos2:Pos}{x:Str}{i:Nat}
noncomputable def AH(i:Nat):DT:=fun U Q=>∃d,U[i]? = some (some (.scr d))/\(d.length<=63->Q (.int d.length) U)
theorem AI(l:Gl X "len")(m:X.mg "len" = none)(h:PE X (.Name x p1) (cf i))(g:starEach [.Name x p1] X.env=(false,eval (.Name x p1) X.env)::starEach [] X.env:=by rfl)(d:(backTo pos (starEach [] X.env)).any (·.1)=false:=by rfl) :
  DE X F (.Call (.Name "len" p) [.Name x p1] [] pos) (AH i):=
 ⟨fun _ _ _ k ⟨f,e,q⟩=>⟨f,e,fun h=>k _ _ (q h)⟩,(kL gZ l m PySem.boot_len (da h dQ g) (by decide) (by decide) g d).imp fun Y H Q ⟨U,O,st,f,e,q⟩=>by
  obtain⟨o,n,j⟩:=st.scr e;refine⟨_,n,o,f.map V.int,rfl,.inl j.sq,?_⟩;rw[List.length_map];exact q j.1 _ H O st .refl (.int _)⟩
noncomputable def AJ(i:Nat)(te:DT):DT:=fun U Q=>∃f,U[i]? = some (some (.scr f))/\te U fun d g=>∃k n,d=.int k/\bI f k=some n/\Q (.int n) g
theorem Ko{α β:Type}{g:α->β}{l:List α}{k:Int}{n:α}(h:bI l k=some n):bI (l.map g) k=some (g n):=by
 unfold bI at h ⊢;rw[List.length_map];cases q:dA l.length k with
 | none=>rw[q] at h;cases h
 | some j=>rw[q] at h;show(l.map g)[j]? = some (g n);rw[List.getElem?_map];have h:l[j]? = some n:=h;rw[h];rfl
theorem AK(h:PE X (.Name x p1) (cf i))(g:DE X F e te)(j:nJ e):DE X F (.Subscript (.Name x p1) e pos) (AJ i te):=
 ⟨fun _ _ _ k ⟨f,e,q⟩=>⟨f,e,g.mn _ _ _ (fun _ _ ⟨B,n,l,r,q⟩=>⟨B,n,l,r,k _ _ q⟩) q⟩,(uZ vc h g.pe j).imp fun Y H Q ⟨U,O,st,f,e,q⟩=>by
  obtain⟨A,C,j⟩:=st.scr e;refine⟨_,C,U,O,st,g.mn _ _ _ (fun d I ⟨k,n,l,r,D⟩ w v E s y G=>?_) q⟩;subst l;have t:ir X.K v A f:=j.mono fun o u q=>y.keep _ _ (fun z=>by obtain⟨J,e,m⟩:=st.live _ z;rw[q] at e;cases e;exact m) q;exact⟨A,f.map V.int,k,.int n,rfl,G.int_inv,t.sq,Ko r,D _ v E s y (.int _)⟩⟩
noncomputable def Kp(K:Frag):R2:=fun x y H Q=>∃a b d,x=.ref a/\y=.ref b/\df K H a (d.map V.int)/\H b=some (.lst [])/\Q (.bl (decide (d=[]))) H
theorem AL{h:Heap}:∀{d:List Int}{f:List Value},be (d.map V.int) f->∃as,ReadsAll h f (d.map PyData.int) as
 | [],_,r=>by cases r;exact⟨_,.nil⟩
 | n::d,_,r=>by
  cases r with
  | cons g r=>obtain⟨t,rfl⟩:=g;obtain⟨as,q⟩:=AL r;exact⟨_,.cons (.int n t) q⟩
theorem Kq(l:X.A.units+64<cLine):cD X (compareOp .Eq) (Kp X.K):=by
 intro g s Y H x y v u Q I m t h;obtain⟨a,b,d,rfl,rfl,h1,h2,q⟩:=h;cases m;cases t;obtain⟨w,z,⟨o,n,e,B,_,C⟩,L⟩:=I.list h1;obtain⟨_,j,M,f,D⟩:=I.hok _ _ h2;cases f;obtain⟨as,E⟩:=AL (h:=s.heap) z;have G:PyData.eqv (.list (d.map .int)) (.list [])=decide (d=[]):=by cases d<;>rfl
 refine eq_dataH (reads_list_at e B C (by simpa using E)) (reads_list_at (xs:=[]) D rfl rfl .nil) ?_ (by decide) l (by rw[G];exact⟨.bl _,H,I,rfl,q⟩);unfold SeqAt.shaped;have J:PyData.canLay0 (.list (d.map .int))=true:=by
  have:∀d:List Int,PyData.canLayAll0 (d.map .int)=true:=fun d=>by
   induction d with
   | nil=>rfl
   | cons n r k=>rw[List.map_cons];simp only[PyData.canLayAll0,PyData.canLay0,k,Bool.and_self]
  simp only[PyData.canLay0,this]
 have dp:PyData.depth (.list (d.map .int))<=64:=by
  have:∀d:List Int,PyData.depthAll (d.map .int)<=1:=fun d=>by
   induction d with
   | nil=>simp[PyData.depthAll]
   | cons n r k=>rw[List.map_cons];simp only[PyData.depthAll,PyData.depth];omega
  have:=this d;simp only[PyData.depth];omega
 rw[J,Bool.true_and];exact decide_eq_true dp
noncomputable def AM(i:Nat):cx:=fun U Q=>∃d,U[i]? = some (some (.scr d))/\Q (decide (d=[])) U
theorem Kr{g:Pos}(j:X.A.units+64<cLine)(h:PE X (.Name x p1) (cf i)):DB X F (.Compare (.Name x p1) [.Eq] [.List [] g] pos) (AM i):=
 ⟨fun _ _ _ k ⟨f,e,q⟩=>⟨f,e,k _ _ q⟩,(zc (Kq j) h (pY dQ) (bA _)).imp fun Y H Q ⟨U,O,st,f,e,q⟩=>by
  obtain⟨n,l,m⟩:=st.scr e;refine⟨_,l,Nat.zero_le _,fun p d=>⟨n,p,f,rfl,rfl,(bN d).seq m.sq,cn,_,rfl,q _ O (st.grow (bN d)) (.same (bN d))⟩⟩⟩
end
structure FD (K:Frag) (mg:Str->Option Value) (x:Str) (st:Stmt) (ps:List Str) (g:Addr) (fd:FuncData):Prop where
 fn:kM K x x st g fd
 mgf:mg x=some (.ref g)
 b:fP K fd ps []
section
variable{X:Cx}{scope:Scope}{own capN:List Str}{caps:List Nat}
theorem aj.of(h1:scope.kind=.function:=by rfl)(h2:(scope.names.all fun y=>scope.names.lookup y.1==some y.2)=true:=by rfl)
  (h3:(scope.names.all fun y=>y.2 != .free||(X.env.kindOf y.1==some .cell||X.env.kindOf y.1==some .free))=true:=by rfl)
  (h4:(scope.names.all fun y=>y.2 != .local||scope.names.lookup y.1==some .local)=true:=by rfl) (h5:caps.map (fun j=>X.N[j]?)=capN.map some:=by rfl)
  (h6:(capN.all fun x=>scope.names.lookup x==some .free)=true:=by rfl):aj X scope own capN caps where
 kind:=h1
 one:=fun y hy=>eq_of_beq (List.all_eq_true.mp h2 y hy)
 free:=fun y hy e=>by
  have:=List.all_eq_true.mp h3 y hy;rw[e] at this;rw[Bool.or_eq_true] at this;rcases this with z | z
  ·exact absurd z (by decide)
  ·rw[Bool.or_eq_true] at z;exact z.imp (fun z=>eq_of_beq z) fun z=>eq_of_beq z
 loc:=fun y hy e=>by
  have:=List.all_eq_true.mp h4 y hy;rw[e] at this;rw[Bool.or_eq_true] at this;rcases this with z | z
  ·exact absurd z (by decide)
  ·exact eq_of_beq z
 caps:=h5
 capf:=fun x hx=>eq_of_beq (List.all_eq_true.mp h6 x hx)
end
section
variable{X:Cx}{F:Fx}{a b c e:Expr}{ta tb tc:DT}{pos:Pos}
noncomputable abbrev qI(g:Int->Int->Int):D2:=fI (fun _ _=>True) fun i j=>.int (g i j)
noncomputable abbrev qB(g:Int->Int->Bool):D2:=fI (fun _ _=>True) fun i j=>.bool (g i j)
theorem Ks(d:DE X F a ta)(f:DE X F b tb):DE X F (.BinOp a .Add b pos) (cL (qI fun i j=>i+j) ta tb):=jh FT (jK fun _ _ _=>.int _) d f
theorem Kt(d:DE X F a ta)(f:DE X F b tb):DE X F (.BinOp a .Sub b pos) (cL (qI fun i j=>i - j) ta tb):=jh FU (jK fun _ _ _=>.int _) d f
theorem Ku(d:DE X F a ta)(f:DE X F b tb):DE X F (.BinOp a .Mult b pos) (cL (fI nH fun i j=>.int (i * j)) ta tb):=jh FV (qo fun _ _ _=>.int _) d f
theorem Kv(d:DE X F a ta)(f:DE X F b tb):DE X F (.BinOp a .FloorDiv b pos) (cL (fI uU fun i j=>.int (i / j)) ta tb):=jh FY (qo fun _ _ _=>.int _) d f
theorem Kw(d:DE X F a ta)(f:DE X F b tb):DE X F (.BinOp a .Mod b pos) (cL (fI (fun _ j=>0<j) fun i j=>.int (i % j)) ta tb):=jh FZ (qo fun _ _ _=>.int _) d f
theorem Kx(d:DE X F a ta)(f:DE X F b tb):DE X F (.BinOp a .Add b pos) (cL vA ta tb):=jh Hr Iw d f
theorem Ky(d:DE X F a ta)(f:DE X F b tb):DE X F (.Compare a [.Lt] [b] pos) (cL (qB fun i j=>decide (i<j)) ta tb):=mj yY (jK fun _ _ _=>.bl _) d f (bA _)
theorem Kz(d:DE X F a ta)(f:DE X F b tb):DE X F (.Compare a [.LtE] [b] pos) (cL (qB fun i j=>decide (i<=j)) ta tb):=mj pV (jK fun _ _ _=>.bl _) d f (bA _)
theorem KA(d:DE X F a ta)(f:DE X F b tb):DE X F (.Compare a [.Gt] [b] pos) (cL (qB fun i j=>decide (j<i)) ta tb):=mj yZ (jK fun _ _ _=>.bl _) d f (bA _)
theorem KB(d:DE X F a ta)(f:DE X F b tb):DB X F (.Compare a [.Lt] [b] pos) (fU (cL (qB fun i j=>decide (i<j)) ta tb)):=kO yY (jK fun _ _ _=>.bl _) d f (bA _)
theorem KC(d:DE X F a ta)(f:DE X F b tb):DB X F (.Compare a [.LtE] [b] pos) (fU (cL (qB fun i j=>decide (i<=j)) ta tb)):=kO pV (jK fun _ _ _=>.bl _) d f (bA _)
theorem KD(d:DE X F a ta)(f:DE X F b tb):DB X F (.Compare a [.Gt] [b] pos) (fU (cL (qB fun i j=>decide (j<i)) ta tb)):=kO yZ (jK fun _ _ _=>.bl _) d f (bA _)
theorem KE(d:X.A.units+64<cLine)(f:DE X F a ta)(g:DE X F b tb):DE X F (.Compare a [.Eq] [b] pos) (cL (nQ false) ta tb):=mj (zW d) vu f g (bA _)
theorem KG(d:X.A.units+64<cLine)(f:DE X F a ta)(g:DE X F b tb):DB X F (.Compare a [.Eq] [b] pos) (fU (cL (nQ false) ta tb)):=kO (zW d) vu f g (bA _)
theorem KH(d:X.A.units+64<cLine)(f:DE X F a ta)(g:DE X F b tb):DB X F (.Compare a [.NotEq] [b] pos) (fU (cL (nQ true) ta tb)):=kO (Ik d) vu f g (bA _)
theorem KJ(d:DE X F a ta)(f:DE X F b tb):DE X F (.Compare a [.Is] [b] pos) (cL qp ta tb):=mj za zZ d f (bA _)
theorem KL(d:DE X F a ta)(f:DE X F b tb):DB X F (.Compare a [.Is] [b] pos) (fU (cL qp ta tb)):=kO za zZ d f (bA _)
theorem KM(d:DE X F a ta)(f:DE X F b tb):DB X F (.Compare a [.IsNot] [b] pos) (fU (cL vv ta tb)):=kO zb Aa d f (bA _)
theorem KN(d:DE X F a ta)(f:DE X F b tb)(g:DE X F c tc)(h:lastMarks [.LtE,.LtE] [b,c]=false:=by with_unfolding_all rfl):DE X F (.Compare a [.LtE,.LtE] [b,c] pos) (vC (fun i j=>decide (i<=j)) (fun i j=>decide (i<=j)) ta tb tc):=IQ pV pV d f g h
theorem ef{x:Str}{i:Int}{t:Tok}(d:Gl X x)(f:X.mg x=some (.int i t))(hd:(x==("__debug__":Str))=false:=by decide):DE X F (.Name x pos) (dC (.int i)):=nO (v:=.int i) (nE d f ⟨t,rfl⟩ hd) fun _=>.int i
mutual
theorem AN:∀(d:PyData),d.canLay0=true->PyData.eqv d d=true
 | .none,_=>rfl
 | .bool b,_=>by simp[PyData.eqv]
 | .int i,_=>by simp[PyData.eqv]
 | .str s,_=>by simp[PyData.eqv]
 | .list xs,h=>by rw[PyData.eqv];exact vK xs (by simpa[PyData.canLay0] using h)
 | .tuple xs,h=>by rw[PyData.eqv];exact vK xs (by simpa[PyData.canLay0] using h)
 | .dict kvs,h=>by simp[PyData.canLay0] at h
theorem vK:∀(ds:List PyData),PyData.canLayAll0 ds=true->PyData.eqvAll ds ds=true
 | [],_=>rfl
 | x::xs,h=>by simp only[PyData.canLayAll0,Bool.and_eq_true] at h;rw[PyData.eqvAll,AN x h.1,vK xs h.2];rfl
end
theorem AO{d:PyData}(h:SeqAt.shaped d=true):PyData.eqv d d=true:=AN d (SeqAt.canLay_of_shaped h)
end
end L2.L3
namespace L2
open PySem PySem.Spec PyProof.Rows
section
variable{X:Cx}
noncomputable def AQ(K:Frag):R2:=fun x y H Q=>∃a b c d,x=.ref a/\y=.ref b/\ei K H a c/\ei K H b d/\c.length+d.length<=sizeLine/\
 (c=[]->Q (.ref b) H)/\(c≠[]->d=[]->Q (.ref a) H)/\(c≠[]->d≠[]->∀p,H p=none->Q (.ref p) (aN H p (.tup (c++d))))
theorem KO:cD X (binaryOp .Add) (AQ X.K):=by
 intro c s Y H x y v u Q I m o h;obtain⟨a,b,p,A,rfl,rfl,q,r,B,C,D,E⟩:=h
 by_cases i:p=[]
 ·subst i;cases m;cases o;obtain⟨j,G,J,_⟩:=I.tuple q;obtain⟨d,O,L,_⟩:=I.tuple r;have M:j=[]:=G.nil_iff.mpr rfl;subst M;obtain⟨⟨cls,dd,data,sl⟩,t,w,n,hd⟩:=id J;obtain⟨⟨z,k,data2,l⟩,e,f,N,g⟩:=id L;simp only at w hd f g;subst w hd f g;exact concat_meets ⟨_,t,rfl⟩ ⟨_,e,rfl⟩ noFill_tuple_add seq_tuple_add PySem.F.slot_tuple_add PySem.F.entry_tuple_add (PySem.F.args_tuple_add_2 _ _)
   (tuple_addW0 a b [].toArray d.toArray n N dd k sl l rfl) ⟨t,e,.ref b,H,I,rfl,C rfl⟩
 ·exact GX c s Y H _ _ v u Q I m o ⟨a,b,p,A,rfl,rfl,q,r,i,B,D i,E i⟩
end
end L2
namespace L2.L3
open PySem PySem.Spec PyProof.Rows
section
variable{X:Cx}{F:Fx}{a b:Expr}{ta tb:DT}{pos:Pos}
theorem KP{K:Frag}:eN (AQ K) vB where
 mn:=fun _ _ _ _ k ⟨ds,es,e1,e2,e3,q⟩=>⟨ds,es,e1,e2,e3,k _ q⟩
 ok:=fun O H u v x y Q hO h1 h2 ⟨ds,es,e1,e2,e3,q⟩=>by
  subst e1 e2;obtain⟨a,xs,rfl,ha,hd⟩:=id h1.tup_inv;obtain⟨b,ys,rfl,hb,he⟩:=id h2.tup_inv;refine⟨a,b,xs,ys,rfl,rfl,.inl (iq ha).1,.inl (iq hb).1,by rw[hd.length,he.length];exact e3,fun z=>?_,fun _ z=>?_,fun _ _ p hp=>q _ _ (bN hp) (qr hp (hO p hp) (hd.append he))⟩
  ·subst z;cases hd;exact q _ H (fun _ _ h=>h) h2
  ·subst z;cases he;rw[List.append_nil] at q;exact q _ H (fun _ _ h=>h) h1
theorem KQ(c:DE X F a ta)(d:DE X F b tb):DE X F (.BinOp a .Add b pos) (cL vB ta tb):=jh KO KP c d
end
section
variable{X:Cx}{F:Fx}{a b:Expr}{ta tb:DT}{pos:Pos}{q:PyData->Prop}
theorem KR(c:DE X F a ta)(d:DE X F b tb):DE X F (.BinOp a .Pow b pos) (cL (fI uV fun i j=>.int (i ^ j.toNat)) ta tb):=jh Ga (qo fun _ _ _=>.int _) c d
end
section
variable{X:Cx}{F:Fx}{a b:Expr}{ta tb:DT}{pos:Pos}{q:PyData->Prop}
noncomputable def vL:D2:=fun x y Q=>∃c k,x=.list c/\y=.int k/\(-(2 ^ 63)<=k/\k<2 ^ 63/\c.length * k.toNat<=sizeLine)/\Q (.list (List.replicate k.toNat c).flatten)
theorem AR{H:Hp}{c:List V}{d:List PyData}(r:aK H c d):∀k:Nat,aK H (List.replicate k c).flatten (List.replicate k d).flatten
 | 0=>.nil
 | k+1=>by rw[List.replicate_succ,List.replicate_succ,List.flatten_cons,List.flatten_cons];exact r.append (AR r k)
theorem KS:eN zJ vL where
 mn:=fun _ _ _ _ k ⟨ds,n,e1,e2,e3,q⟩=>⟨ds,n,e1,e2,e3,k _ q⟩
 ok:=fun O H u v x y Q hO h1 h2 ⟨ds,k,e1,e2,⟨e3,e4,e5⟩,q⟩=>by subst e1 e2;obtain⟨a,xs,rfl,ha,hd⟩:=h1.lst_inv;refine⟨a,k,xs,rfl,h2.int_inv,(cK ha).1,e3,e4,by rw[hd.length];exact e5,fun p hp=>q _ _ (bN hp) (hJ hp (hO p hp) (AR hd _))⟩
theorem KU(c:DE X F a ta)(d:DE X F b tb):DE X F (.BinOp a .Mult b pos) (cL vL ta tb):=jh Ht KS c d
end
section
variable{X:Cx}{F:Fx}{tA:dJ}{U:ak}{N B C:ak->Prop}{R:PyData->ak->Prop}
def vM(i j:Nat)(N:ak->Prop)(b:List PyData)(a:ak):Prop:=∃x y,b=[x,y]/\N ((a.set i (some (.dat x))).set j (some (.dat y)))
noncomputable def AS(i j:Nat)(tA:dJ):dW:=fun D U=>tA U fun b a=>vM i j D.nx b a
theorem KW{i j:Nat}{x y:Str}{a b:Expr}{c py pt pos:Pos}{d g gR}(m:X.calm=true)(n:X.N.Nodup)(o:X.N[i]? = some x)(p:X.N[j]? = some y)(h:i≠j)
  (r:X.env.scope.names.lookup x=some .local) (s:X.env.scope.names.lookup y=some .local) (l:DA X F [a,b] tA)
  (t:swappedStores [.Tuple [.Name x c,.Name y py] d pt] (.Tuple [a,b] g gR) X.env=pure (some [x,y]):=by rfl)
  (u:swapsWithSole [.Tuple [.Name x c,.Name y py] d pt] (.Tuple [a,b] g gR) pos.line X.env=pure false:=by rfl) :
  DS X F (.Assign [.Tuple [.Name x c,.Name y py] d pt] (.Tuple [a,b] g gR) pos) (AS i j tA):=
 (yT m n o p h r s l.pa t u).imp fun D Y H ⟨U,O,I,st,q,f⟩=>⟨U,O,st,l.mn _ _ _ (fun S J ⟨L,M,e,z⟩ Q A E k G dd=>by
  subst e;obtain⟨v,w,rfl,h1,h2⟩:=oa dd;exact⟨v,w,rfl,f.nx _ A _ E ((k.set h1).set h2) G z⟩) q⟩
end
inductive fX (α:Type) where
 | ok (a:α) (U:ak) | ex (c:Str) (U:ak) | bad
@[simp] noncomputable def fX.bind{α β:Type}(o:fX α)(k:α->ak->fX β):fX β:=match o with
 | .ok a U=>k a U
 | .ex c U=>.ex c U
 | .bad=>.bad
@[simp] noncomputable def lift{α:Type}(o:Option α)(U:ak):fX α:=match o with
 | some a=>.ok a U
 | none=>.bad
noncomputable abbrev XM(α:Type):=ak->fX α
noncomputable def wp{α:Type}(E:Str->ak->Prop)(m:XM α):ak->(α->ak->Prop)->Prop:=fun U Q=>match m U with
 | .ok a b=>Q a b
 | .ex c b=>E c b
 | .bad=>False
section
variable{α β:Type}{E:Str->ak->Prop}
theorem aH{m:XM α}:∀U (Q e:α->ak->Prop),(∀d b,Q d b->e d b)->wp E m U Q->wp E m U e:=fun U Q e k q=>by
 unfold wp at q ⊢;generalize m U=o at q ⊢;cases o with
 | ok a b=>exact k _ _ q
 | ex c b=>exact q
 | bad=>exact q
theorem bO{m:XM α}{k:α->XM β}{U:ak}{Q:β->ak->Prop}(h:wp E (fun U=>(m U).bind k) U Q):wp E m U fun a b=>wp E (k a) b Q:=by
 unfold wp at h ⊢;unfold fX.bind at h;simp only at h;generalize m U=o at h ⊢;cases o with
 | ok a b=>exact h
 | ex c b=>exact h
 | bad=>exact h
theorem cV{o:Option α}{U:ak}{Q:α->ak->Prop}(h:wp E (lift o) U Q):∃a,o=some a/\Q a U:=by
 unfold wp lift at h;cases o with
 | some a=>exact⟨a,rfl,h⟩
 | none=>exact h.elim
end
section
variable{X:Cx}{F:Fx}{E:Str->ak->Prop}{e a b c:Expr}{es:List Expr}{pos:Pos}
theorem DE.imp{t t':DT}(h:DE X F e t)(d:Mn t')(k:∀U Q,t' U Q->t U Q):DE X F e t':=⟨d,h.pe.imp fun Y H Q ⟨U,O,st,q⟩=>⟨U,O,st,k U _ q⟩⟩
theorem DO.imp{t t':gD}(h:DO X F e t)(d:Ar t')(k:∀U Q,t' U Q->t U Q):DO X F e t':=⟨d,h.pe.imp fun Y H Q ⟨U,O,st,q⟩=>⟨U,O,st,k U _ q⟩⟩
theorem DA.imp{t t':dJ}(h:DA X F es t)(d:qt t')(k:∀U Q,t' U Q->t U Q):DA X F es t':=⟨d,h.pa.imp fun Y H Q ⟨U,O,st,q⟩=>⟨U,O,st,k U _ q⟩⟩
theorem DX.imp{t t':gp}(h:DX X F es t)(d:Au t')(k:∀U Q,t' U Q->t U Q):DX X F es t':=⟨d,h.pa.imp fun Y H Q ⟨U,O,st,q⟩=>⟨U,O,st,k U _ q⟩⟩
theorem DB.imp{t t':cx}(h:DB X F e t)(d:ix t')(k:∀U Q,t' U Q->t U Q):DB X F e t':=⟨d,h.pt.imp fun Y H Q ⟨U,O,st,q⟩=>⟨U,O,st,k U _ q⟩⟩
theorem DW.imp{t t':cx}(h:DW X F e t)(d:ix t')(k:∀U Q,t' U Q->t U Q):DW X F e t':=⟨d,h.pw.imp fun Y H Q ⟨U,O,st,q⟩=>⟨U,O,st,k U _ q⟩⟩
theorem gl.imp{d:List Stmt}{t t':dW}(h:gl X F d t)(k:∀D U,t' D U->t D U):gl X F d t':=PSs.imp h fun D Y H ⟨U,O,g,st,q,f⟩=>⟨U,O,g,st,k g U q,f⟩
theorem DS.imp{s:Stmt}{t t':dW}(h:DS X F s t)(k:∀D U,t' D U->t D U):DS X F s t':=PS.imp h fun D Y H ⟨U,O,d,st,q,f⟩=>⟨U,O,d,st,k d U q,f⟩
abbrev FE(X:Cx)(F:Fx)(E:Str->ak->Prop)(e:Expr)(m:XM PyData):Prop:=DE X F e (wp E m)
abbrev FO(X:Cx)(F:Fx)(E:Str->ak->Prop)(e:Expr)(m:XM ai):Prop:=DO X F e (wp E m)
abbrev FB(X:Cx)(F:Fx)(E:Str->ak->Prop)(e:Expr)(m:XM Bool):Prop:=DB X F e (wp E m)
abbrev FW(X:Cx)(F:Fx)(E:Str->ak->Prop)(e:Expr)(m:XM Bool):Prop:=DW X F e (wp E m)
abbrev FA(X:Cx)(F:Fx)(E:Str->ak->Prop)(es:List Expr)(m:XM (List PyData)):Prop:=DA X F es (wp E m)
abbrev FX(X:Cx)(F:Fx)(E:Str->ak->Prop)(es:List Expr)(m:XM (List AX)):Prop:=DX X F es (wp E m)
abbrev FI(X:Cx)(F:Fx)(E:Str->ak->Prop)(d iter:Expr)(m:XM (List PyData)):Prop:=DI X F d iter (wp E m)
noncomputable abbrev GM:=PyData->ak->Option ak
noncomputable def er(g:GM):dU:=fun d U Q=>match g d U with
 | some f=>Q f
 | none=>False
abbrev FG(X:Cx)(F:Fx)(d:Expr)(g:GM):Prop:=DG X F d (er g)
abbrev FS(X:Cx)(F:Fx)(E:Str->ak->Prop)(s:Stmt)(m:SM):Prop:=DS X F s (bV E m)
abbrev hV(X:Cx)(F:Fx)(E:Str->ak->Prop)(s:List Stmt)(m:SM):Prop:=gl X F s (bV E m)
@[simp] noncomputable def xC(d:PyData):XM PyData:=fun U=>.ok d U
@[simp] noncomputable def xV(i:Nat):XM PyData:=fun U=>match U[i]? with
 | some (some (.dat d))=>.ok d U
 | some (some (.own false (.l ds)))=>.ok (.list ds) (U.set i (some (.dat (.list ds))))
 | _=>.bad
theorem ae{d:PyData}(h:DE X F e (dC d)):FE X F E e (xC d):=h.imp aH fun _ _ q=>q
theorem KY{i:Nat}(h:DE X F e (dV i)):FE X F E e (xV i):=h.imp aH fun U Q q=>by
 unfold wp xV at q;unfold dV;cases h:U[i]? with
 | none=>rw[h] at q;exact q.elim
 | some o=>
  rw[h] at q;cases o with
  | none=>exact q.elim
  | some c=>
   cases c with
   | dat d=>exact .inl ⟨d,rfl,q⟩
   | scr n=>exact q.elim
   | exc n=>exact q.elim
   | vw n=>exact q.elim
   | own io f=>
    cases io with
    | true=>exact q.elim
    | false=>
     cases f with
     | l ds=>exact .inr ⟨ds,rfl,q⟩
     | m _ _=>exact q.elim
     | o _ _=>exact q.elim
     | sd _=>exact q.elim
     | ll _=>exact q.elim
     | pr _ _ _=>exact q.elim
@[simp] noncomputable def ao(g:PyData->PyData->Option PyData)(a b:XM PyData):XM PyData:=fun U=>(a U).bind fun x d=>(b d).bind fun y=>lift (g x y)
def F2(f:D2)(g:PyData->PyData->Option PyData):Prop:=∀x y d Q,g x y=some d->Q d->f x y Q
theorem fi{f:D2}{g:PyData->PyData->Option PyData}{i j:XM PyData}(k:F2 f g)(h:DE X F e (cL f (wp E i) (wp E j))):FE X F E e (ao g i j):=h.imp aH fun U Q q=>by refine aH _ _ _ (fun x p l=>?_) (bO q);refine aH _ _ _ (fun y r m=>?_) (bO l);obtain⟨d,n,o⟩:=cV m;exact k x y d _ n o
@[simp] noncomputable def bo(m:XM PyData):XM Bool:=fun U=>(m U).bind fun d=>lift (match d with | .bool b=>some b | _=>none)
theorem AU{U:ak}{Q:Bool->ak->Prop}{m:XM PyData}(q:wp E (bo m) U Q):fU (wp E m) U Q:=aH _ _ _ (fun d i g=>by
 obtain⟨b,f,h⟩:=cV g;cases d with
 | bool j=>cases f;exact⟨_,rfl,h⟩
 | _=>cases f) (bO q)
theorem kS{f:D2}{g:PyData->PyData->Option PyData}{i j:XM PyData}(k:F2 f g)(h:DB X F e (fU (cL f (wp E i) (wp E j)))):FB X F E e (bo (ao g i j)):=h.imp aH fun U Q q=>by have l:=AU q;refine aH _ _ _ (fun x r m=>?_) (bO l);refine aH _ _ _ (fun y s n=>?_) (bO m);obtain⟨d,o,p⟩:=cV n;exact k x y d _ o p
theorem dj{m:XM PyData}(h:DB X F e (fU (wp E m))):FB X F E e (bo m):=h.imp aH fun U Q q=>AU q
@[simp] noncomputable def gI(g:Int->Int->PyData):PyData->PyData->Option PyData:=fun x y=>match x,y with
 | .int i,.int j=>some (g i j)
 | _,_=>none
@[simp] noncomputable def mm(C:Int->Int->Bool)(g:Int->Int->PyData):PyData->PyData->Option PyData:=fun x y=>match x,y with
 | .int i,.int j=>if C i j=true then some (g i j) else none
 | _,_=>none
theorem jO{g:Int->Int->PyData}:F2 (fI (fun _ _=>True) g) (gI g):=fun x y d Q e q=>by
 unfold gI at e;split at e
 ·cases e;exact⟨_,_,rfl,rfl,trivial,q⟩
 ·cases e
theorem qF{C:Int->Int->Bool}{P:Int->Int->Prop}{g:Int->Int->PyData}(h:∀i j,C i j=true->P i j):F2 (fI P g) (mm C g):=fun x y d Q e q=>by
 unfold mm at e;split at e
 ·split at e
  ·rename_i f;cases e;exact⟨_,_,rfl,rfl,h _ _ f,q⟩
  ·cases e
 ·cases e
noncomputable def jP(i j:Int):Bool:=(decide (-(2 ^ 64)<i)&&decide (i<2 ^ 64))||(decide (-(2 ^ 64)<j)&&decide (j<2 ^ 64))
noncomputable def qG(_ j:Int):Bool:=decide (0<j)&&decide (j<1073741824)
noncomputable def oh(_ j:Int):Bool:=decide (0<j)
noncomputable def qH(i j:Int):Bool:=decide (0<=j)&&decide (j<=1000000)&&decide (i.natAbs<2 ^ 64)
theorem KZ(i j:Int)(h:jP i j=true):nH i j:=by unfold jP at h;simp only[Bool.or_eq_true,Bool.and_eq_true,decide_eq_true_eq] at h;exact h
theorem La(i j:Int)(h:qG i j=true):uU i j:=by unfold qG at h;simp only[Bool.and_eq_true,decide_eq_true_eq] at h;exact h
theorem Lb(i j:Int)(h:oh i j=true):0<j:=by unfold oh at h;simpa using h
theorem Lc(i j:Int)(h:qH i j=true):uV i j:=by unfold qH at h;simp only[Bool.and_eq_true,decide_eq_true_eq] at h;exact⟨h.1.1,h.1.2,h.2⟩
noncomputable def aP(neg:Bool):PyData->PyData->Option PyData:=fun x y=>if (SeqAt.shaped x&&SeqAt.shaped y)=true then some (.bool (PyData.eqv x y != neg)) else none
theorem vN{neg:Bool}:F2 (nQ neg) (aP neg):=fun x y d Q e q=>by
 unfold aP at e;split at e
 ·rename_i h;cases e;exact⟨(Bool.and_eq_true_iff.mp h).1,(Bool.and_eq_true_iff.mp h).2,q⟩
 ·cases e
@[simp] noncomputable def mq:PyData->PyData->Option PyData:=fun x y=>match y with | .none=>some (.bool (isNone x)) | _=>none
@[simp] noncomputable def iz:PyData->PyData->Option PyData:=fun x y=>match y with | .none=>some (.bool (!isNone x)) | _=>none
theorem AV:F2 qp mq:=fun x y d Q e q=>by
 unfold mq at e;split at e
 ·cases e;exact⟨rfl,q⟩
 ·cases e
theorem AW:F2 vv iz:=fun x y d Q e q=>by
 unfold iz at e;split at e
 ·cases e;exact⟨rfl,q⟩
 ·cases e
@[simp] noncomputable def iA:PyData->PyData->Option PyData:=fun x y=>match x,y with
 | .list ds,.list es=>if ds.length+es.length<=sizeLine then some (.list (ds++es)) else none
 | _,_=>none
@[simp] noncomputable def jQ:PyData->PyData->Option PyData:=fun x y=>match x,y with
 | .tuple ds,.tuple es=>if ds.length+es.length<=sizeLine then some (.tuple (ds++es)) else none
 | _,_=>none
theorem Ld:F2 vA iA:=fun x y d Q e q=>by
 unfold iA at e;split at e
 ·split at e
  ·rename_i h;cases e;exact⟨_,_,rfl,rfl,h,q⟩
  ·cases e
 ·cases e
theorem Le:F2 vB jQ:=fun x y d Q e q=>by
 unfold jQ at e;split at e
 ·split at e
  ·rename_i h;cases e;exact⟨_,_,rfl,rfl,h,q⟩
  ·cases e
 ·cases e
@[simp] noncomputable def oi:PyData->PyData->Option PyData:=fun x y=>match x,y with
 | .list ds,.int k=>if (decide (-(2 ^ 63)<=k)&&decide (k<2 ^ 63)&&decide (ds.length * k.toNat<=sizeLine))=true then some (.list (List.replicate k.toNat ds).flatten) else none
 | _,_=>none
theorem Lf:F2 vL oi:=fun x y d Q e q=>by
 unfold oi at e;split at e
 ·split at e
  ·rename_i h;cases e;simp only[Bool.and_eq_true,decide_eq_true_eq] at h;exact⟨_,_,rfl,rfl,⟨h.1.1,h.1.2,h.2⟩,q⟩
  ·cases e
 ·cases e
@[simp] noncomputable def hZ(a:XM PyData):XM PyData:=fun U=>(a U).bind fun d=>lift (match d with | .int i=>some (.int (-i)) | _=>none)
theorem iB{f:XM PyData}(h:FE X F E a f):FE X F E (.UnaryOp .USub a pos) (hZ f):=(IG h).imp aH fun U Q q=>aH _ _ _ (fun d l j=>by
 obtain⟨y,g,k⟩:=cV j;cases d with
 | int i=>cases g;exact⟨i,rfl,k⟩
 | _=>cases g) (bO q)
@[simp] noncomputable def AY(a:XM PyData):XM PyData:=fun U=>(a U).bind fun d=>lift (match d with | .bool b=>some (.bool (!b)) | _=>none)
theorem Lg{f:XM PyData}(h:FE X F E a f):FE X F E (.UnaryOp .Not a pos) (AY f):=(II h).imp aH fun U Q q=>aH _ _ _ (fun d k i=>by
 obtain⟨y,g,j⟩:=cV i;cases d with
 | bool b=>cases g;exact⟨b,rfl,j⟩
 | _=>cases g) (bO q)
@[simp] noncomputable def AZ(b:XM PyData)(d:PyData):XM PyData:=fun f=>match d with
 | .bool true=>b f
 | .bool false=>.ok (.bool false) f
 | _=>.bad
@[simp] noncomputable def Ba(b:XM PyData)(d:PyData):XM PyData:=fun f=>match d with
 | .bool true=>.ok (.bool true) f
 | .bool false=>b f
 | _=>.bad
@[simp] noncomputable def eE(a b:XM PyData):XM PyData:=fun U=>(a U).bind (AZ b)
@[simp] noncomputable def vO(a b:XM PyData):XM PyData:=fun U=>(a U).bind (Ba b)
theorem eR{rest:List Expr}{h f:XM PyData}(i:FE X F E a h)(j:FE X F E (.BoolOp .And (b::rest) pos) f):FE X F E (.BoolOp .And (a::b::rest) pos) (eE h f):=(IM i j).imp aH fun U Q q=>aH _ _ _ (fun d l g=>by
 cases d with
 | bool b=>cases b with
  | true=>exact⟨true,rfl,ed g⟩
  | false=>exact⟨false,rfl,dZ g⟩
 | _=>exact g.elim) (bO (k:=AZ f) q)
theorem Bb{rest:List Expr}{h f:XM PyData}(i:FE X F E a h)(j:FE X F E (.BoolOp .Or (b::rest) pos) f):FE X F E (.BoolOp .Or (a::b::rest) pos) (vO h f):=(IP i j).imp aH fun U Q q=>aH _ _ _ (fun d l g=>by
 cases d with
 | bool b=>cases b with
  | true=>exact⟨true,rfl,ed g⟩
  | false=>exact⟨false,rfl,dZ g⟩
 | _=>exact g.elim) (bO (k:=Ba f) q)
theorem fY{op}{d:XM PyData}(h:FE X F E a d):FE X F E (.BoolOp op [a] pos) d:=IL h
@[simp] noncomputable def vP(p f:Int->Int->Bool)(a b c:XM PyData):XM PyData:=fun U=>(a U).bind fun x g=>(b g).bind fun y d=>match x,y with
 | .int i,.int j=>if p i j=true then(c d).bind (fun z=>lift (match z with | .int k=>some (.bool (f j k)) | _=>none)) else .ok (.bool false) d
 | _,_=>.bad
theorem Lh{p l:Int->Int->Bool}{o r n:XM PyData}(h:DE X F e (vC p l (wp E o) (wp E r) (wp E n))):FE X F E e (vP p l o r n):=h.imp aH fun U Q q=>by
 refine aH _ _ _ (fun x w t=>?_) (bO q);refine aH _ _ _ (fun y A f=>?_) (bO t);unfold wp at f;cases x with
 | int i=>cases y with
  | int j=>
   refine⟨i,j,rfl,rfl,?_⟩
   by_cases g:p i j=true
   ·simp only[if_pos g] at f;rw[if_pos g];refine aH _ _ _ (fun z B u=>?_) (bO (m:=n) (k:=fun z=>lift (match z with | .int k=>some (PyData.bool (l j k)) | _=>none)) f);obtain⟨d,s,v⟩:=cV u;cases z with
    | int k=>cases s;exact⟨k,rfl,v⟩
    | _=>cases s
   ·simp only[if_neg g] at f;rw[if_neg g];exact f
  | _=>exact f.elim
 | _=>exact f.elim
@[simp] noncomputable def et(a:XM Bool):XM Bool:=fun U=>(a U).bind fun b d=>.ok (!b) d
theorem eF{f:XM Bool}(h:FB X F E a f):FB X F E (.UnaryOp .Not a pos) (et f):=(IS h).imp aH fun U Q q=>aH _ _ _ (fun d g i=>i) (bO (k:=fun b g=>.ok (!b) g) q)
@[simp] noncomputable def vQ(a b:XM Bool):XM Bool:=fun U=>(a U).bind fun x d=>if x=true then b d else .ok false d
@[simp] noncomputable def iD(a b:XM Bool):XM Bool:=fun U=>(a U).bind fun x d=>if x=true then .ok true d else b d
theorem Bc{d:XM Bool}(h:FB X F E a d):FW X F E (.BoolOp .And [a] pos) d:=IV h
theorem mr{d:XM Bool}(h:FB X F E a d):FW X F E (.BoolOp .Or [a] pos) d:=IW h
theorem Be{rest:List Expr}{h f:XM Bool}(j:FB X F E a h)(l:FW X F E (.BoolOp .And (b::rest) pos) f):FW X F E (.BoolOp .And (a::b::rest) pos) (vQ h f):=(IX j l).imp aH fun U Q q=>aH _ _ _ (fun d g i=>by
 cases d with
 | true=>exact ed i
 | false=>exact dZ i) (bO (k:=fun x g=>if x=true then f g else .ok false g) q)
theorem kT{rest:List Expr}{h f:XM Bool}(j:FB X F E a h)(l:FW X F E (.BoolOp .Or (b::rest) pos) f):FW X F E (.BoolOp .Or (a::b::rest) pos) (iD h f):=(IY j l).imp aH fun U Q q=>aH _ _ _ (fun d g i=>by
 cases d with
 | true=>exact ed i
 | false=>exact dZ i) (bO (k:=fun x g=>if x=true then .ok true g else f g) q)
theorem jR{d:XM Bool}(h:FW X F E e d):FB X F E e d:=h.db
@[simp] noncomputable def kU{α:Type}(t:XM Bool)(a b:XM α):XM α:=fun U=>(t U).bind fun x d=>if x=true then a d else b d
theorem qJ{mt:XM Bool}{f g:XM PyData}(j:FB X F E c mt)(l:FE X F E a f)(m:FE X F E b g):FE X F E (.IfExp c a b pos) (kU mt f g):=(Ja j l m).imp aH fun U Q q=>aH _ _ _ (fun d h i=>by
 cases d with
 | true=>exact ed i
 | false=>exact dZ i) (bO (k:=fun x h=>if x=true then f h else g h) q)
@[simp] noncomputable def aA:XM (List PyData):=fun U=>.ok [] U
@[simp] noncomputable def af(a:XM PyData)(r:XM (List PyData)):XM (List PyData):=fun U=>(a U).bind fun d f=>(r f).bind fun h g=>.ok (d::h) g
theorem aD:FA X F E [] aA:=Iz.imp aH fun _ _ q=>q
theorem Li{i:XM PyData}{h:XM (List PyData)}(l:FE X F E e i)(m:FA X F E es h)(n:starEach (e::es) X.env=(false,eval e X.env)::starEach es X.env:=by rfl):FA X F E (e::es) (af i h):=(IA l m n).imp aH fun U Q q=>aH _ _ _ (fun d j o=>aH _ _ _ (fun g f p=>p) (bO (k:=fun g f=>.ok (d::g) f) o)) (bO (k:=fun d j=>(h j).bind fun g f=>.ok (d::g) f) q)
@[simp] noncomputable def bb(a:XM (List PyData)):XM PyData:=fun U=>(a U).bind fun d=>lift (if d.length<=sizeLine then some (.tuple d) else none)
@[simp] noncomputable def cm(a:XM (List PyData)):XM PyData:=fun U=>(a U).bind fun d=>lift (if d.length<=sizeLine then some (.list d) else none)
theorem bn{i}{g:XM (List PyData)}(h:FA X F E es g):FE X F E (.Tuple es i pos) (bb g):=(ID h).imp aH fun U Q q=>aH _ _ _ (fun m l j=>by
 obtain⟨d,f,k⟩:=cV j;split at f
 ·rename_i h;cases f;exact⟨h,k⟩
 ·cases f) (bO q)
theorem cH{g:XM (List PyData)}(h:FA X F E es g):FE X F E (.List es pos) (cm g):=(IE h).imp aH fun U Q q=>aH _ _ _ (fun l k i=>by
 obtain⟨d,f,j⟩:=cV i;split at f
 ·rename_i h;cases f;exact⟨h,j⟩
 ·cases f) (bO q)
@[simp] noncomputable def dG(g:List PyData->Option PyData)(a:XM (List PyData)):XM PyData:=fun U=>(a U).bind fun d=>lift (g d)
def FN(f:DN)(g:List PyData->Option PyData):Prop:=∀h d Q,g h=some d->Q d->f h Q
theorem fH{f:DN}{g:List PyData->Option PyData}{i:XM (List PyData)}(j:FN f g)(h:DE X F e (nR f (wp E i))):FE X F E e (dG g i):=h.imp aH fun U Q q=>aH _ _ _ (fun n o k=>by
 obtain⟨d,l,m⟩:=cV k;exact j n d _ l m) (bO q)
end
section
variable{X:Cx}{F:Fx}{E:Str->ak->Prop}{e a b c:Expr}{es:List Expr}{st:Stmt}{rest:List Stmt}{pos:Pos}{x:Str}
@[simp] noncomputable def fj:List PyData->Option PyData:=fun d=>match d with
 | [.list ds]=>some (.int ds.length)
 | [.tuple ds]=>some (.int ds.length)
 | _=>none
theorem jn:FN Az fj:=fun f d Q e q=>by
 unfold fj at e;split at e
 ·cases e;exact⟨_,.inl rfl,q⟩
 ·cases e;exact⟨_,.inr rfl,q⟩
 ·cases e
@[simp] noncomputable def qK:List PyData->Option PyData:=fun d=>match d with
 | [.int i,.int j]=>some (.int (max i j))
 | _=>none
theorem Bf:FN AA qK:=fun f d Q e q=>by
 unfold qK at e;split at e
 ·cases e;exact⟨_,_,rfl,q⟩
 ·cases e
@[simp] noncomputable def vR:List PyData->Option PyData:=fun d=>match d with
 | [.list ds]=>some (.tuple ds)
 | [.tuple ds]=>some (.tuple ds)
 | _=>none
theorem Lj:FN AC vR:=fun f d Q e q=>by
 unfold vR at e;split at e
 ·cases e;exact .inl ⟨_,rfl,q⟩
 ·cases e;exact .inr ⟨_,rfl,q⟩
 ·cases e
noncomputable def bools?:List PyData->Option (List Bool)
 | []=>some []
 | .bool i::r=>(bools? r).map (i::·)
 | _::_=>none
theorem vS:∀{g:List PyData}{f:List Bool},bools? g=some f->g=f.map .bool
 | [],_,e=>by cases e;rfl
 | d::r,f,e=>by
  cases d with
  | bool i=>
   cases q:bools? r with
   | none=>simp[bools?,q] at e
   | some l=>simp[bools?,q] at e;subst e;rw[vS q];rfl
  | _=>cases e
noncomputable def ms:List PyData->Option PyData:=fun d=>match d with
 | [.list ds]=>(bools? ds).map fun bs=>.bool (bs.all id)
 | _=>none
theorem Lk:FN AD ms:=fun h d Q e q=>by
 unfold ms at e;split at e
 ·obtain⟨bs,f,g⟩:=Option.map_eq_some_iff.mp e;rw[vS f];subst g;exact⟨bs,rfl,q⟩
 ·cases e
@[simp] noncomputable def qL(i:Nat):XM PyData:=fun U=>match U[i]? with
 | some (some (.scr ns))=>if ns.length<=63 then .ok (.int ns.length) U else .bad
 | _=>.bad
@[simp] noncomputable def qM(i:Nat)(a:XM PyData):XM PyData:=fun U=>match U[i]? with
 | some (some (.scr ns))=>(a U).bind fun d=>lift (match d with | .int k=>(bI ns k).map .int | _=>none)
 | _=>.bad
@[simp] noncomputable def vT(i:Nat):XM Bool:=fun U=>match U[i]? with
 | some (some (.scr ns))=>.ok (decide (ns=[])) U
 | _=>.bad
theorem Bg{i:Nat}(h:DE X F e (AH i)):FE X F E e (qL i):=h.imp aH fun U Q q=>by
 unfold wp qL at q;cases h:U[i]? with
 | none=>rw[h] at q;exact q.elim
 | some o=>
  rw[h] at q;cases o with
  | none=>exact q.elim
  | some c=>
   cases c with
   | scr ns=>
    simp only at q
    by_cases d:ns.length<=63
    ·rw[if_pos d] at q;exact⟨ns,h,fun _=>q⟩
    ·rw[if_neg d] at q;exact q.elim
   | _=>exact q.elim
theorem Bh{i:Nat}{f:XM PyData}(h:DE X F e (AJ i (wp E f))):FE X F E e (qM i f):=h.imp aH fun U Q q=>by
 unfold wp qM at q;cases h:U[i]? with
 | none=>rw[h] at q;exact q.elim
 | some o=>
  rw[h] at q;cases o with
  | none=>exact q.elim
  | some c=>
   cases c with
   | scr ns=>
    refine⟨ns,h,aH _ _ _ (fun d s j=>?_) (bO (m:=f) (k:=fun d=>lift (match d with | .int k=>(bI ns k).map PyData.int | _=>none)) q)⟩;obtain⟨y,g,l⟩:=cV j;cases d with
    | int k=>obtain⟨n,p,r⟩:=Option.map_eq_some_iff.mp g;subst r;exact⟨k,n,rfl,p,l⟩
    | _=>cases g
   | _=>exact q.elim
theorem Ll{i:Nat}(h:DB X F e (AM i)):FB X F E e (vT i):=h.imp aH fun U Q q=>by
 unfold wp vT at q;cases h:U[i]? with
 | none=>rw[h] at q;exact q.elim
 | some o=>
  rw[h] at q;cases o with
  | none=>exact q.elim
  | some c=>
   cases c with
   | scr ns=>exact⟨ns,h,q⟩
   | _=>exact q.elim
@[simp] noncomputable def aI(i:Nat):GM:=fun d U=>some (U.set i (some (.dat d)))
theorem Lm{i:Nat}(h:DG X F e (gN i)):FG X F e (aI i):=⟨fun d U Q f k q=>k _ q,h.pg.imp fun v Y H Q ⟨U,O,d,st,hd,q⟩=>⟨U,O,d,st,hd,q⟩⟩
noncomputable abbrev jo:=List PyData->ak->Option ak
noncomputable def mu(g:jo):jL:=fun d U Q=>match g d U with
 | some f=>Q f
 | none=>False
abbrev qN(X:Cx)(F:Fx)(d:List Expr)(g:jo):Prop:=nV X F d (mu g)
@[simp] noncomputable def jS:jo:=fun d U=>match d with | []=>some U | _=>none
@[simp] noncomputable def dk(t:GM)(u:jo):jo:=fun g U=>match g with | d::r=>(t d U).bind fun f=>u r f | []=>none
theorem Ln{g:GM}:∀d U (Q f:ak->Prop),(∀h,Q h->f h)->er g d U Q->er g d U f:=fun d U Q f k q=>by
 unfold er at q ⊢;generalize g d U=o at q ⊢;cases o with
 | some h=>exact k _ q
 | none=>exact q
theorem Bi{g:jo}:∀d U (Q f:ak->Prop),(∀h,Q h->f h)->mu g d U Q->mu g d U f:=fun d U Q f k q=>by
 unfold mu at q ⊢;generalize g d U=o at q ⊢;cases o with
 | some h=>exact k _ q
 | none=>exact q
theorem oj:qN X F [] jS:=⟨Bi,Jq.pg.imp fun v Y H Q ⟨U,O,d,st,hd,q⟩=>⟨U,O,d,st,hd,by
 unfold mu jS at q;cases d with
 | nil=>exact⟨rfl,q⟩
 | cons _ _=>exact q.elim⟩⟩
theorem eg{g:GM}{f:jo}(j:FG X F e g)(k:qN X F es f)(i:(assignEach (e::es) X.env).map (·.2)=assign e X.env::(assignEach es X.env).map (·.2):=by rfl):qN X F (e::es) (dk g f):=⟨Bi,(Jr j k i).pg.imp fun v Y H Q ⟨U,O,d,st,hd,q⟩=>⟨U,O,d,st,hd,by
 unfold mu dk at q;cases d with
 | nil=>exact q.elim
 | cons d r=>
  refine⟨d,r,rfl,?_⟩;unfold er;simp only at q;cases h:g d U with
  | none=>rw[h] at q;exact q
  | some l=>rw[h] at q;exact q⟩⟩
@[simp] noncomputable def jT(n:Nat)(t:jo):GM:=fun d U=>match d with | .tuple ds=>if ds.length=n then t ds U else none | _=>none
theorem om{k n:Nat}{i:jo}(j:X.calm=true)(h:qN X F es i)(l:(assignEach es X.env).length=n:=by rfl)(f:(assignEach es X.env).findIdx? (·.1)=none:=by rfl):FG X F (.Tuple es k pos) (jT n i):=⟨Ln,(Jt j h l f).pg.imp fun v Y H Q ⟨U,O,d,st,hd,q⟩=>⟨U,O,d,st,hd,by
 unfold er jT at q;cases d with
 | tuple ds=>
  simp only at q
  by_cases g:ds.length=n
  ·rw[if_pos g] at q;exact⟨ds,rfl,g,q⟩
  ·rw[if_neg g] at q;exact q.elim
 | _=>exact q.elim⟩⟩
@[simp] noncomputable def aF:XM (List AX):=fun U=>.ok [] U
@[simp] noncomputable def au(a:XM PyData)(r:XM (List AX)):XM (List AX):=fun U=>(a U).bind fun d f=>(r f).bind fun as g=>.ok (.d d::as) g
@[simp] noncomputable def aS(j:Nat)(r:XM (List AX)):XM (List AX):=fun U=>match U[j]? with
 | some (some _)=>(r U).bind fun as d=>.ok (.s j::as) d
 | _=>.bad
theorem aJ:FX X F E [] aF:=JP.imp aH fun _ _ q=>q
theorem Lo{g:XM PyData}{h:XM (List AX)}(j:FE X F E e g)(l:FX X F E es h)(n:starEach (e::es) X.env=(false,eval e X.env)::starEach es X.env:=by rfl):FX X F E (e::es) (au g h):=(JQ j l n).imp aH fun U Q q=>aH _ _ _ (fun d i o=>aH _ _ _ (fun r f p=>p) (bO (k:=fun as f=>fX.ok (AX.d d::as) f) o)) (bO (m:=g) (k:=fun d i=>(h i).bind fun as f=>fX.ok (AX.d d::as) f) q)
theorem Lp{p:Pos}{j:Nat}{d:XM (List AX)}(g:PE X (.Name x p) (cf j))(i:FX X F E es d)(l:starEach (.Name x p::es) X.env=(false,eval (.Name x p) X.env)::starEach es X.env:=by rfl):FX X F E (.Name x p::es) (aS j d):=(JR g i l).imp aH fun U Q q=>by
 unfold wp aS at q;cases h:U[j]? with
 | none=>rw[h] at q;exact q.elim
 | some o=>
  rw[h] at q;cases o with
  | none=>exact q.elim
  | some c=>exact⟨⟨c,h⟩,aH _ _ _ (fun as f n=>n) (bO (m:=d) (k:=fun as f=>fX.ok (AX.s j::as) f) (show wp E (fun U=>(d U).bind fun as f=>fX.ok (AX.s j::as) f) U Q from q))⟩
@[simp] noncomputable def kW(f:FM)(as:List AX):XM ai:=fun U=>match gq U as with
 | some (h,g)=>(match f h with
  | .rt c d=>.ok c (en g d (eP g U))
  | .ex c d=>.ex c (en g d (eP g U))
  | .bad=>.bad)
 | none=>.bad
@[simp] noncomputable def aM(f:FM)(a:XM (List AX)):XM ai:=fun U=>(a U).bind (kW f)
theorem Bj{g:FM}{j:XM (List AX)}(h:DO X F e (vF g E (wp E j))):FO X F E e (aM g j):=h.imp aH fun U Q q=>aH _ _ _ (fun as m d=>by
 unfold wp kW at d;unfold fW;cases l:gq m as with
 | none=>rw[l] at d;exact d
 | some p=>
  obtain⟨n,o⟩:=p;rw[l] at d;simp only at d ⊢;cases i:g n with
  | rt c f=>rw[i] at d;exact d
  | ex c f=>rw[i] at d;exact d
  | bad=>rw[i] at d;exact d) (bO (k:=kW g) q)
@[simp] noncomputable def aQ(a:XM ai):XM PyData:=fun U=>(a U).bind fun c=>lift (frz c)
theorem aX{d:XM ai}(h:FO X F E e d):FE X F E e (aQ d):=h.de.imp aH fun U Q q=>aH _ _ _ (fun c g f=>cV f) (bO q)
@[simp] noncomputable def bW:SM:=fun U=>.nx U
@[simp] noncomputable def aB(m k:SM):SM:=fun U=>match m U with
 | .nx d=>k d
 | o=>o
theorem ca:hV X F E [] bW:=Jw.imp fun _ _ q=>q
theorem aE{m k:SM}(d:FS X F E st m)(f:hV X F E rest k):hV X F E (st::rest) (aB m k):=(Jx d f).imp fun D U q=>by
 show bV E m _ U;unfold bV aB at q;unfold bV;generalize m U=o at q ⊢;cases o with
 | nx g=>exact q
 | _=>exact q
theorem aG{m:SM}(h:FS X F E st m):hV X F E [st] m:=Jy h
@[simp] noncomputable def dM{α:Type}(o:fX α)(k:α->ak->gm):gm:=match o with
 | .ok a U=>k a U
 | .ex c U=>.ex c U
 | .bad=>.bad
theorem fk{α:Type}{m:XM α}{k:α->SM}{D:ee}{U:ak}(q:bV E (fun U=>dM (m U) k) D U):wp E m U fun a d=>bV E (k a) D d:=by
 unfold bV dM at q;unfold wp;simp only at q;generalize m U=o at q ⊢;cases o with
 | ok a d=>exact q
 | ex c d=>exact q
 | bad=>exact q
@[simp] noncomputable def vU(o:Option ak):gm:=match o with
 | some U=>.nx U
 | none=>.bad
@[simp] noncomputable def bE(m:XM PyData)(g:GM):SM:=fun U=>dM (m U) fun d f=>vU (g d f)
theorem vV{m:XM PyData}{g:GM}{D:ee}{U:ak}(q:bV E (bE m g) D U):qw (wp E m) (er g) D U:=aH _ _ _ (fun d h f=>by
 unfold bV vU at f;unfold er;simp only at f;generalize g d h=o at f ⊢;cases o with
 | some i=>exact f
 | none=>exact f) (fk (k:=fun d h=>vU (g d h)) q)
theorem Lq{d:Expr}{m:XM PyData}{g:GM}(f:FE X F E e m)(h:FG X F d g)(i:swapsWithSole [d] e pos.line X.env=pure false:=by rfl)(j:swappedStores [d] e X.env=pure none:=by rfl)
  (k:(assignEach [d] X.env).map (·.2)=[assign d X.env]:=by rfl):FS X F E (.Assign [d] e pos) (bE m g):=(Jz f h i j k).imp fun D U q=>vV q
theorem bP{i:Nat}{d:Pos}{m:XM PyData}(f:X.N.Nodup)(g:X.N[i]? = some x)(h:fO X.env.scope x)(j:FE X F E e m)(k:swapsWith e (some (.Name x d)) pos.line X.env=pure false:=by rfl)
  (l:X.fn x=true\/X.env.scope.names.lookup x=some .local:=by first | exact .inl rfl | exact .inr rfl | assumption):FS X F E (.Assign [.Name x d] e pos) (bE m (aI i)):=(JA f g h j k l).imp fun D U q=>vV q
@[simp] noncomputable def vW(i:Nat)(c:ai):SM:=fun d=>if i<d.length then(match c with | .own true _=>.bad | c=>.nx (d.set i (some c))) else .bad
@[simp] noncomputable def gE(i:Nat)(m:XM ai):SM:=fun U=>dM (m U) (vW i)
theorem jq{i:Nat}{g:Pos}{m:XM ai}(j:X.N.Nodup)(l:X.N[i]? = some x)(n:fO X.env.scope x)(o:FO X F E e m)(p:swapsWith e (some (.Name x g)) pos.line X.env=pure false:=by rfl)
  (r:X.fn x=true\/X.env.scope.names.lookup x=some .local:=by first | exact .inl rfl | exact .inr rfl | assumption):FS X F E (.Assign [.Name x g] e pos) (gE i m):=(JG j l n o p r).imp fun D U q=>aH _ _ _ (fun c s f=>by
 unfold bV vW at f
 by_cases h:i<s.length
 ·simp only[if_pos h] at f;cases c with
  | own io b=>cases io with
   | true=>exact f.elim
   | false=>exact⟨h,(fun _ z=>by cases z),f⟩
  | dat d=>exact⟨h,(fun _ z=>by cases z),f⟩
  | scr d=>exact⟨h,(fun _ z=>by cases z),f⟩
  | exc d=>exact⟨h,(fun _ z=>by cases z),f⟩
  | vw d=>exact⟨h,(fun _ z=>by cases z),f⟩
 ·simp only[if_neg h] at f) (fk (k:=vW i) q)
@[simp] noncomputable def bz(m:XM PyData):SM:=fun U=>dM (m U) fun d f=>.rt (.dat d) f
@[simp] noncomputable def dm(m:XM ai):SM:=fun U=>dM (m U) fun c d=>.rt c d
@[simp] noncomputable def fZ(m:XM ai):SM:=fun U=>dM (m U) fun _ d=>.nx d
theorem bD{m:XM PyData}(g:FE X F E e m):FS X F E (.Return (some e) pos) (bz m):=(JC g).imp fun D U q=>aH _ _ _ (fun c f h=>h) (fk (k:=fun d f=>.rt (.dat d) f) q)
theorem dD{m:XM ai}(g:FO X F E e m):FS X F E (.Return (some e) pos) (dm m):=(JE g).imp fun D U q=>aH _ _ _ (fun c f h=>h) (fk (k:=fun d f=>.rt d f) q)
theorem gr{m:XM ai}(f:FO X F E e m)(g:swapsWith e none pos.line X.env=pure false:=by rfl):FS X F E (.Expr e pos) (fZ m):=(JI f g).imp fun D U q=>aH _ _ _ (fun c d h=>h) (fk (k:=fun _ d=>.nx d) q)
@[simp] noncomputable def bQ(t:XM Bool)(a b:SM):SM:=fun U=>dM (t U) fun x d=>if x=true then a d else b d
theorem bX{d:Expr}{l i:List Stmt}{mt:XM Bool}{f g:SM}(m:FB X F E d mt)(n:hV X F E l f)(o:hV X F E i g):FS X F E (.If d l i pos) (bQ mt f g):=(JK m n o).imp fun D U q=>aH _ _ _ (fun x h j=>by
 cases x with
 | true=>exact ed j
 | false=>exact dZ j) (fk (k:=fun x h=>if x=true then f h else g h) q)
end
noncomputable def cq(d n:String):Option Bool:=if d=n then some true else
 if d="bool"/\n="int" then some true else
 if (d="int"\/d="bool"\/d="str"\/d="list"\/d="tuple"\/d="NoneType")/\(n="int"\/n="bool"\/n="str"\/n="list"\/n="tuple") then some false else none
theorem Lr{d n:String}{b:Bool}(h:cq d n=some b)(K:Frag):kitOne K (.type d) (.type n)=some b:=by
 unfold cq at h;split at h
 ·rename_i e;cases h;subst e;unfold kitOne;rw[if_pos (by simp)]
 ·split at h
  ·rename_i e;cases h;obtain⟨rfl,rfl⟩:=e;rfl
  ·rename_i a c;split at h
   ·rename_i e;cases h;obtain⟨f,g⟩:=e;rcases f with rfl | rfl | rfl | rfl | rfl | rfl<;>rcases g with rfl | rfl | rfl | rfl | rfl<;>first | rfl | (exact absurd rfl a) | (exact absurd ⟨rfl,rfl⟩ c)
   ·cases h
@[simp] noncomputable def iE(n:String)(a:XM PyData):XM PyData:=fun U=>(a U).bind fun d=>lift ((cq (vt d) n).map .bool)
section
variable{X:Cx}{F:Fx}{E:Str->ak->Prop}{e a b c:Expr}{es:List Expr}{st:Stmt}{rest:List Stmt}{pos:Pos}{x:Str}
theorem jr{n:String}{f:XM PyData}(h:DE X F e (Al n (wp E f))):FE X F E e (iE n f):=h.imp aH fun U Q q=>aH _ _ _ (fun d m g=>by
 obtain⟨y,i,j⟩:=cV g;obtain⟨b,k,l⟩:=Option.map_eq_some_iff.mp i;subst l;exact⟨b,Lr k,j⟩) (bO q)
noncomputable def cQ(g:GM)(b:SM):List PyData->SM
 | [],U=>.nx U
 | d::r,U=>(match g d U with
  | some h=>(match b h with
   | .nx f=>cQ g b r f
   | .ct f=>cQ g b r f
   | .bk f=>.nx f
   | o=>o)
  | none=>.bad)
@[simp] noncomputable def gF(s:XM (List PyData))(g:GM)(b:SM):SM:=fun U=>dM (s U) (cQ g b)
theorem jt{n iter:Expr}{body:List Stmt}{s:XM (List PyData)}{g:GM}{l:SM}(t:PassesOwn (model X.prog X.w) X.A X.env X.xe)(u:X.calm=true)(f:FI X F E n iter s)(v:FG X F n g)(y:hV X F E body l)(z:∀x,foldedSetIterable iter X.env x=pure x:=by intro _;rfl):FS X F E (.For n iter body [] pos) (gF s g l):=
 (Ka t u f v y z).imp fun D U q=>aH _ _ _ (fun j p B=>by
  refine⟨fun i U=>bV E (cQ g l (j.drop i)) D U,B,fun i d U hd f=>?_,fun U h=>?_⟩
  ·have e:j.drop i=d::j.drop (i+1):=by obtain⟨r,C⟩:=List.getElem?_eq_some_iff.mp hd;rw[<-C];exact List.drop_eq_getElem_cons r
   simp only[e] at f;unfold bV cQ at f;unfold er;generalize g d U=o at f ⊢;cases o with
   | none=>exact f
   | some p=>
    show bV E l _ p;simp only at f;unfold bV;generalize l p=G at f ⊢;cases G with
    | nx m=>exact f
    | ct m=>exact f
    | bk m=>exact f
    | rt c m=>exact f
    | ex c m=>exact f
    | bad=>exact f
  ·simp only[List.drop_length] at h;exact h) (fk (k:=cQ g l) q)
@[simp] noncomputable def ju(a:XM PyData):XM (List PyData):=fun U=>(a U).bind fun d=>lift (match d with | .list ds=>some ds | _=>none)
@[simp] noncomputable def kX(a:XM PyData):XM (List PyData):=fun U=>(a U).bind fun d=>lift (match d with | .tuple ds=>some ds | _=>none)
theorem DI.imp{f iter:Expr}{t t':dL}(h:DI X F f iter t)(j:∀U Q g,(∀d i,Q d i->g d i)->t' U Q->t' U g)(k:∀U Q,t' U Q->t U Q):DI X F f iter t':=⟨j,h.pi.imp fun Y H Q ⟨U,O,st,q⟩=>⟨U,O,st,k U _ q⟩⟩
theorem jU{i:Expr}{f:XM PyData}(h:FE X F E e f):FI X F E i e (ju f):=(JW h).imp aH fun U Q q=>aH _ _ _ (fun d l j=>by
 obtain⟨y,g,k⟩:=cV j;cases d with
 | list ds=>cases g;exact⟨_,rfl,k⟩
 | _=>cases g) (bO q)
theorem mw{i:Expr}{f:XM PyData}(h:FE X F E e f):FI X F E i e (kX f):=(JX h).imp aH fun U Q q=>aH _ _ _ (fun d l j=>by
 obtain⟨y,g,k⟩:=cV j;cases d with
 | tuple ds=>cases g;exact⟨_,rfl,k⟩
 | _=>cases g) (bO q)
@[simp] noncomputable def ia(g:List PyData->Option (List PyData))(a:XM (List PyData)):XM (List PyData):=fun U=>(a U).bind fun d=>lift (g d)
@[simp] noncomputable def bZ:List PyData->Option (List PyData):=fun d=>match d with
 | [.int j]=>if (decide (-(2 ^ 62)<=j)&&decide (j<2 ^ 62))=true then some (intsFrom 0 j.toNat) else none
 | _=>none
theorem on{f:Expr}{g:XM (List PyData)}(h:DI X F f e (Aw (wp E g))):FI X F E f e (ia bZ g):=h.imp aH fun U Q q=>aH _ _ _ (fun l k i=>by
 obtain⟨y,d,j⟩:=cV i;unfold bZ at d;split at d
 ·split at d
  ·rename_i h;cases d;simp only[Bool.and_eq_true,decide_eq_true_eq] at h;exact⟨_,rfl,h.1,h.2,j⟩
  ·cases d
 ·cases d) (bO q)
noncomputable def cj(g:GM)(t:XM Bool)(m:XM PyData):List PyData->List PyData->ak->Option (List PyData)
 | [],f,_=>some f
 | d::r,f,U=>(match g d U with
  | some i=>(match t i with
   | .ok true h=>(match m h with
    | .ok y j=>if f.length<sizeLine then cj g t m r (f++[y]) j else none
    | _=>none)
   | .ok false h=>cj g t m r f h
   | _=>none)
  | none=>none)
@[simp] noncomputable def iF(own:Nat)(d:List Nat)(U:ak):ak:=List.replicate own none++d.map fun j=>qE U[j]?
@[simp] noncomputable def Bk(own:Nat)(d:List Nat)(g:GM)(t:XM Bool)(m:XM PyData)(f:List PyData):XM PyData:=fun h=>lift ((cj g t m f [] (iF own d h)).bind fun i=>if i.length<=sizeLine then some (.list i) else none) h
@[simp] noncomputable def gu(own:Nat)(d:List Nat)(s:XM (List PyData))(g:GM)(t:XM Bool)(m:XM PyData):XM PyData:=fun U=>(s U).bind (Bk own d g t m)
noncomputable abbrev dH:Str->ak->Prop:=fun _ _=>False
theorem Bl{own:List Str}{j:List Nat}{s:XM (List PyData)}{g:GM}{t:XM Bool}{m:XM PyData}{U:ak}{Q:PyData->ak->Prop}(q:wp E (gu own.length j s g t m) U Q):nY own j (wp E s) (er g) (wp dH t) (wp dH m) U Q:=aH _ _ _ (fun l r G=>by
 obtain⟨y,H,A⟩:=cV (o:=(cj g t m l [] (iF own.length j r)).bind fun p=>if p.length<=sizeLine then some (PyData.list p) else none) (U:=r) (E:=E) (Q:=Q) G;obtain⟨n,I,u⟩:=Option.bind_eq_some_iff.mp H;have B:n.length<=sizeLine/\y=.list n:=by
  split at u
  ·rename_i h;cases u;exact⟨h,rfl⟩
  ·cases u
 have J:cF own j r=iF own.length j r:=by unfold cF iF;rw[List.map_const']
 refine⟨fun i p U=>cj g t m (l.drop i) p U=some n,by rw[J];exact I,fun i d p U hd f=>?_,fun p U h=>?_⟩
 ·have e:l.drop i=d::l.drop (i+1):=by obtain⟨v,L⟩:=List.getElem?_eq_some_iff.mp hd;rw[<-L];exact List.drop_eq_getElem_cons v
  simp only[e] at f;unfold cj at f;unfold er;cases C:g d U with
  | none=>rw[C] at f;cases f
  | some M=>
   rw[C] at f;simp only at f ⊢;unfold wp;cases w:t M with
   | ex c D=>rw[w] at f;cases f
   | bad=>rw[w] at f;cases f
   | ok b D=>
    rw[w] at f;cases b with
    | false=>exact dZ f
    | true=>
     refine ed ?_;simp only at f ⊢;cases z:m D with
     | ex c N=>rw[z] at f;cases f
     | bad=>rw[z] at f;cases f
     | ok O N=>
      rw[z] at f;simp only at f ⊢;split at f
      ·rename_i h;exact⟨h,f⟩
      ·cases f
 ·simp only[List.drop_length] at h;have:p=n:=by unfold cj at h;exact Option.some.inj h
  subst this;rw[B.2] at A;exact⟨B.1,A⟩) (bO (k:=Bk own.length j g t m) q)
abbrev kY(X:Cx)(F:Fx)(E:Str->ak->Prop)(d:List Expr)(m:XM Bool):Prop:=kR X F d (wp E m)
noncomputable def dX:XM Bool:=fun U=>.ok true U
theorem jV:kY X F E [] dX:=⟨aH,fun d s Y H Q I ⟨U,O,st,q⟩=>Kc.2 d s Y H Q I ⟨U,O,st,q⟩⟩
theorem qO{d:XM Bool}(h:FB X F E c d):kY X F E [c] d:=Kd h
theorem jW{d:Scope}{own f:List Str}{h:List Nat}{l iter i:Expr}{j:List Expr}{s:XM (List PyData)}{g:GM}{t:XM Bool}{m:XM PyData}{n:Nat}(w:GF X.mg F)(S:aj X d own f h)(y:X.calm=true)(z:own.length=n)(A:FI X F E l iter s)
  (o:∀C p r u v k,GF X.mg k->FG (bK X d (own++f) C p r u v) k l g/\kY (bK X d (own++f) C p r u v) k dH j t/\FE (bK X d (own++f) C p r u v) k dH i m)
  (B:∀x,foldedSetIterable iter X.env x=pure x:=by intro _;rfl):FE X F E (.ListComp i [⟨l,iter,j,0⟩] d pos) (gu n h s g t m):=by
 subst z;exact(Ke w S y A o B).imp aH fun U Q q=>Bl q
theorem Ls{f:Scope}{own capN:List Str}{caps:List Nat}{o iter k:Expr}{l:List Expr}{s:XM (List PyData)}{g:GM}{t:XM Bool}{m:XM PyData}{n i:Nat}{y:Str}{py j:Pos}(H:X.N.Nodup)(r:X.N[i]? = some y)(I:fO X.env.scope y)(J:GF X.mg F)(S:aj X f own capN caps)(L:X.calm=true)(M:own.length=n)(O:FI X F E o iter s)
  (u:∀C v w z B p,GF X.mg p->FG (bK X f (own++capN) C v w z B) p o g/\kY (bK X f (own++capN) C v w z B) p dH l t/\FE (bK X f (own++capN) C v w z B) p dH k m)
  (A:swapsWith (.ListComp k [⟨o,iter,l,0⟩] f pos) (some (.Name y py)) j.line X.env=pure true:=by rfl)
  (R:∀x,foldedSetIterable iter X.env x=pure x:=by intro _;rfl) (T:X.fn y=true\/X.env.scope.names.lookup y=some .local:=by first | exact .inl rfl | exact .inr rfl | assumption) :
  FS X F E (.Assign [.Name y py] (.ListComp k [⟨o,iter,l,0⟩] f pos) j) (bE (gu n caps s g t m) (aI i)):=by
 subst M;exact(Kf H r I J S L O u A R T).imp fun D U q=>by have Y:=vV q;exact vH (s:=wp E s) aH U _ _ (fun d G h=>h) (Bl (Q:=fun d G=>er (aI i) d G D.nx) Y)
end
section
variable{K:Frag}{F:Fx}{H H':Hp}{Y:St}{U:ak}{O O':List Addr}
theorem aC.fresh(st:aC K F H Y U O){p:Addr}{o:HO}(c:H p=none)(d:Mv o):∃O',aC K (F.plus [p]) (aN H p o) Y U O'/\aL O H O' (aN H p o):=by obtain⟨O',h1,h2,_⟩:=aC.swap (L:=[]) (L':=[p]) (H':=aN H p o) (F:=F) st (fun b u _ e=>bN c b u e) (by simp) (fun a h=>.inr (by obtain rfl:=List.mem_singleton.mp h;exact c)) (fun a h=>by cases h) (fun a h=>by obtain rfl:=List.mem_singleton.mp h;exact⟨o,cn,d⟩);exact⟨O',h1,h2⟩
theorem aC.new1(st:aC K F H Y U O){p:Addr}(c:H p=none):∀a∈[p],a∈F.A₀\/F.H₀ a=none:=fun a h=>by
 obtain rfl:=List.mem_singleton.mp h
 by_cases b:a∈F.A₀
 ·exact .inl b
 ·refine .inr ?_;cases e:F.H₀ a with
  | none=>rfl
  | some o=>obtain⟨W,h,_⟩:=st;have:=h.kept a o b e;rw[c] at this;cases this
end
section
variable{X:Cx}{F:Fx}{E:Str->ak->Prop}{e a b c:Expr}{es:List Expr}{st:Stmt}{rest:List Stmt}{pos:Pos}{x:Str}
noncomputable def Lu(t:dJ):gD:=fun U Q=>t U fun d f=>d.length<=sizeLine/\Q (.own false (.l d)) f
theorem Lv{i:dJ}(h:DA X F es i):DO X F (.List es pos) (Lu i):=
 ⟨fun _ _ _ k q=>h.mn _ _ _ (fun _ _ d=>⟨d.1,k _ _ d.2⟩) q,(pY h.pa).imp fun Y H Q ⟨U,O,st,q⟩=>
  ⟨U,O,st,h.mn _ _ _ (fun w t d j u v f r l=>⟨by rw[l.length];exact d.1,fun p m=>by
   obtain⟨s,g,n⟩:=f.fresh (o:=.lst j) m trivial;exact d.2 _ _ s [p] ⟨g,⟨p,rfl,rfl,j,cn,aK.mono n.hid l⟩,f.new1 m⟩ (r.trans n)⟩) q⟩⟩
@[simp] noncomputable def jX(a:XM (List PyData)):XM ai:=fun U=>(a U).bind fun d=>lift (if d.length<=sizeLine then some (.own false (.l d)) else none)
theorem oo{g:XM (List PyData)}(h:FA X F E es g):FO X F E (.List es pos) (jX g):=(Lv h).imp aH fun U Q q=>aH _ _ _ (fun l k i=>by
 obtain⟨d,f,j⟩:=cV i;split at f
 ·rename_i h;cases f;exact⟨h,j⟩
 ·cases f) (bO q)
@[simp] noncomputable def qP(i:Nat)(d:PyData):SM:=fun f=>match f[i]? with
 | some (some (.own io (.l ds)))=>if ds.length<sizeLine then .nx (f.set i (some (.own io (.l (ds++[d]))))) else .bad
 | _=>.bad
@[simp] noncomputable def mx(i:Nat)(m:XM PyData):SM:=fun U=>match U[i]? with
 | some (some (.own _ (.l _)))=>dM (m U) (qP i)
 | _=>.bad
theorem vX{i:Nat}{m:XM PyData}{r apos g:Pos}(N:PE X (.Name x r) (cf i))(Q:FE X F E e m)(y:swapsWith (.Call (.Attribute (.Name x r) "append" apos) [e] [] g) none pos.line X.env=pure false:=by rfl)
  (n:attributeBase (.Name x r) "append" X.env (eval (.Name x r) X.env)=eval (.Name x r) X.env:=by rfl)
  (t:((backTo g (starEach [e] X.env)).all (fun x=>!x.1)&&(backToKw g (keywordEach [] X.env)).all (fun x=>x.1.isSome)&&decide (([e]:List Expr).length+([]:List Keyword).length+(if ([]:List Keyword).isEmpty then 0 else 1)<30))=true:=by rfl)
  (p:(apos.endLine==g.line)=true:=by rfl) (M:starEach [e] X.env=(false,eval e X.env)::starEach [] X.env:=by rfl) (j:(backTo g (starEach [] X.env)).any (·.1)=false:=by rfl) :
  FS X F E (.Expr (.Call (.Attribute (.Name x r) "append" apos) [e] [] g) pos) (mx i m):=
 (pO (qa PySem.F.plainAttrs_list PySem.F.slot_list_append PySem.F.type_list_append zH N (da Q.pe dQ M) n t p M j) y).imp fun D Y H ⟨U,O,DD,st,q,f⟩=>by
  unfold bV mx at q;cases z:U[i]? with
  | none=>rw[z] at q;exact q.elim
  | some o=>
   rw[z] at q;cases o with
   | none=>exact q.elim
   | some R=>
    cases R with
    | dat d=>exact q.elim
    | scr d=>exact q.elim
    | exc d=>exact q.elim
    | vw d=>exact q.elim
    | own S T=>
     cases T with
     | m _ _=>exact q.elim
     | o _ _=>exact q.elim
     | sd _=>exact q.elim
     | ll _=>exact q.elim
     | pr _ _ _=>exact q.elim
     | l Z=>
      obtain⟨a,fp,u,⟨_,xs,hH,_⟩,_,_⟩:=st.box z;refine⟨_,u,.inl ⟨rfl,xs,.of hH⟩,U,O,st,aH _ _ _ (fun d U1 h w H1 O1 A s1 d1=>?_) (fk (m:=m) (k:=qP i) q)⟩;unfold bV qP at h;cases h1:U1[i]? with
      | none=>rw[h1] at h;exact h.elim
      | some o=>
       rw[h1] at h;cases o with
       | none=>exact h.elim
       | some c1=>
        cases c1 with
        | dat d=>exact h.elim
        | scr d=>exact h.elim
        | exc d=>exact h.elim
        | vw d=>exact h.elim
        | own a0 b1=>
         cases b1 with
         | m _ _=>exact h.elim
         | o _ _=>exact h.elim
         | sd _=>exact h.elim
         | ll _=>exact h.elim
         | pr _ _ _=>exact h.elim
         | l ds=>
          simp only at h;obtain⟨a1,a2,v,⟨e1,B,C,hd⟩,hO,up⟩:=A.box h1;rw[u] at v;cases v;subst e1
          by_cases I:ds.length<sizeLine
          ·rw[if_pos I] at h;refine⟨a,B,w,rfl,rfl,C,by rw[hd.length];exact I,?_⟩;obtain⟨O2,J,s2,_⟩:=up (aN H1 a (.lst (B++[w]))) (.l (ds++[d])) [a] (fun c o L e=>by rw[bw (by simpa using L)];exact e) (by simp) (fun c L=>.inl L) (fun G O' s hG _=>by
            subst hG;exact⟨s.hid,rfl,B++[w],cn,(aK.mono s.hid hd).append (.cons (DV.mono s.hid d1) .nil)⟩)
           exact f.nx _ _ _ _ J (s1.trans s2) h
          ·rw[if_neg I] at h;exact h.elim
@[simp] noncomputable def Lw:ai->Option PyData
 | .dat (.list ds)=>some (.int ds.length)
 | .dat (.tuple ds)=>some (.int ds.length)
 | .own _ (.l ds)=>some (.int ds.length)
 | _=>none
@[simp] noncomputable def vY(i:Nat):XM PyData:=fun U=>match U[i]? with
 | some (some c)=>lift (Lw c) U
 | _=>.bad
theorem Lx{i:Nat}{p j:Pos}(t:Gl X "len")(u:X.mg "len" = none)(h:PE X (.Name x j) (cf i))(s:starEach [.Name x j] X.env=(false,eval (.Name x j) X.env)::starEach [] X.env:=by rfl)(n:(backTo pos (starEach [] X.env)).any (·.1)=false:=by rfl) :
  FE X F E (.Call (.Name "len" p) [.Name x j] [] pos) (vY i):=
 ⟨aH,(kL gZ t u PySem.boot_len (da h dQ s) (by decide) (by decide) s n).imp fun Y H Q ⟨U,O,st,q⟩=>by
  unfold wp vY at q;cases k:U[i]? with
  | none=>rw[k] at q;exact q.elim
  | some o=>
   rw[k] at q;cases o with
   | none=>exact q.elim
   | some w=>
    unfold lift at q;cases w with
    | scr d=>exact q.elim
    | exc d=>exact q.elim
    | vw d=>exact q.elim
    | dat d=>
     obtain⟨v,m,hd⟩:=st.dat k;cases d with
     | list ds=>obtain⟨a,f,rfl,r,g⟩:=hd.lst_inv;exact⟨_,m,a,f,rfl,.inl (.of (cK r).1),by rw[g.length];exact q _ H O st .refl (.int _)⟩
     | tuple ds=>obtain⟨a,f,rfl,r,g⟩:=hd.tup_inv;exact⟨_,m,a,f,rfl,.inr (.inl (iq r).1),by rw[g.length];exact q _ H O st .refl (.int _)⟩
     | _=>exact q.elim
    | own io b=>
     cases b with
     | l ds=>obtain⟨a,z,m,⟨_,f,y,g⟩,_,_⟩:=st.box k;exact⟨_,m,a,f,rfl,.inl (.of y),by rw[g.length];exact q _ H O st .refl (.int _)⟩
     | _=>exact q.elim⟩
end
noncomputable def iG:PyData->Option ba
 | .int i=>some (.inl i)
 | .str x=>some (.inr x)
 | _=>none
noncomputable def iH:List PyData->Option (List ba)
 | []=>some []
 | d::r=>(match iG d,iH r with | some k,some l=>some (k::l) | _,_=>none)
noncomputable def ib:Bool->PyData->Option (List ba)
 | false,d=>(iG d).map fun k=>[k]
 | true,.tuple ds=>iH ds
 | true,_=>none
noncomputable abbrev gG:=List (PyData×PyData)
noncomputable def gH(a:Bool):gG->List ba->Option PyData
 | [],_=>none
 | p::r,k=>if ib a p.1=some k then some p.2 else gH a r k
noncomputable def kZ(a:Bool)(k:List ba)(v:PyData):gG->gG
 | []=>[]
 | p::r=>(if ib a p.1=some k then(p.1,v) else p)::kZ a k v r
noncomputable def jY(b:Bool)(a:gG)(d:PyData)(k:List ba)(v:PyData):gG:=if (gH b a k).isSome=true then kZ b k v a else a++[(d,v)]
theorem vZ{G:Hp}{v:V}{d:PyData}{k:ba}(h:DV G v d)(e:iG d=some k):v=kV k:=by
 cases d with
 | int i=>cases e;exact h.int_inv
 | str x=>cases e;exact h.str_inv
 | _=>cases e
theorem wa{k:ba}:iG (gC k)=some k:=by cases k<;>rfl
theorem Bm{d:PyData}{k:ba}(e:iG d=some k):d=gC k:=by
 cases d with
 | int i=>cases e;rfl
 | str x=>cases e;rfl
 | _=>cases e
theorem Bn:∀{a:List ba},iH (a.map gC)=some a
 | []=>rfl
 | k::r=>by show(match iG (gC k),iH (r.map gC) with | some k,some l=>some (k::l) | _,_=>none)=_;rw[wa,Bn]
theorem qQ:∀{b:List PyData}{a:List ba},iH b=some a->b=a.map gC
 | [],a,e=>by cases e;rfl
 | d::r,a,e=>by
  unfold iH at e;cases h1:iG d with
  | none=>rw[h1] at e;cases e
  | some k=>
   cases h2:iH r with
   | none=>rw[h1,h2] at e;cases e
   | some l=>rw[h1,h2] at e;cases e;rw[Bm h1,qQ h2];rfl
theorem wb{G:Hp}:∀{a:List V}{b:List ba},aK G a (b.map gC)->a=b.map kV
 | [],[],_=>rfl
 | _::_,k::r,.cons h1 h2=>by rw[vZ h1 wa,wb h2];rfl
theorem qR{κ:Type}[DecidableEq κ]{R:κ->PyData->Prop}{G:Hp}{f:Bool}{inj:κ->List ba}(g:∀k d,R k d->ib f d=some (inj k))(j:∀a b,inj a=inj b->a=b) :
  ∀{i:List (κ×V)}{c:gG}(k:κ),Paired (fun(p:κ×V) (q:PyData×PyData)=>R p.1 q.1/\DV G p.2 q.2) i c->(fC i k=none/\gH f c (inj k)=none)\/∃v d,fC i k=some v/\gH f c (inj k)=some d/\DV G v d
 | [],[],k,_=>.inl ⟨rfl,rfl⟩
 | p::r,q::s,k,.cons h t=>by
  by_cases e:p.1=k
  ·refine .inr ⟨p.2,q.2,qc e,?_,h.2⟩;unfold gH;rw[if_pos (by rw[g _ _ h.1,e])]
  ·rw[qd e];unfold gH;rw[if_neg (by rw[g _ _ h.1];exact fun z=>e (j _ _ (Option.some.inj z)))];exact qR g j k t
theorem Bo{κ:Type}[DecidableEq κ]{R:κ->PyData->Prop}{G:Hp}{i:Bool}{inj:κ->List ba}(f:∀k d,R k d->ib i d=some (inj k))(j:∀a b,inj a=inj b->a=b){v:V}{x:PyData}(l:DV G v x) :
  ∀{m:List (κ×V)}{c:gG}(k:κ),Paired (fun(p:κ×V) (q:PyData×PyData)=>R p.1 q.1/\DV G p.2 q.2) m c->Paired (fun(p:κ×V) (q:PyData×PyData)=>R p.1 q.1/\DV G p.2 q.2) (m.map fun g=>if g.1=k then(g.1,v) else g) (kZ i (inj k) x c)
 | [],[],k,_=>.nil
 | p::r,q::s,k,.cons h t=>by
  refine .cons ?_ (Bo f j l k t);dsimp only
  by_cases e:p.1=k
  ·rw[if_pos e,if_pos (by rw[f _ _ h.1,e])];exact⟨h.1,l⟩
  ·rw[if_neg e,if_neg (by rw[f _ _ h.1];exact fun z=>e (j _ _ (Option.some.inj z)))];exact h
theorem Bp{α β:Type}{R:α->β->Prop}:∀{a:List α}{b:List β}{c:List α}{d:List β},Paired R a b->Paired R c d->Paired R (a++c) (b++d)
 | _,_,_,_,.nil,h=>h
 | _,_,_,_,.cons h t,r=>.cons h (Bp t r)
theorem Bq{κ:Type}[DecidableEq κ]{R:κ->PyData->Prop}{G:Hp}{g:Bool}{inj:κ->List ba}(i:∀k d,R k d->ib g d=some (inj k))(j:∀a b,inj a=inj b->a=b){v:V}{x d:PyData}(l:DV G v x)
  {m:List (κ×V)}{c:gG}{k:κ}(hd:R k d) (h:Paired (fun(p:κ×V) (q:PyData×PyData)=>R p.1 q.1/\DV G p.2 q.2) m c):Paired (fun(p:κ×V) (q:PyData×PyData)=>R p.1 q.1/\DV G p.2 q.2) (fb m k v) (jY g c d (inj k) x):=by
 rcases qR i j k h with⟨e,f⟩ | ⟨n,o,e,f,_⟩
 ·rw[Hy v e];unfold jY;rw[f,if_neg (by simp)];exact Bp h (.cons ⟨hd,l⟩ .nil)
 ·unfold jY;rw[f,if_pos (by rfl)];unfold fb;rw[if_pos (by rw[qe,e];rfl)];exact Bo i j l k h
theorem Br:∀(k:ba) (d:PyData),gC k=d->ib false d=some [k]:=fun k d e=>by subst e;show(iG (gC k)).map _=_;rw[wa];rfl
theorem qS:∀(a b:ba),[a]=[b]->a=b:=fun a b e=>by cases e;rfl
theorem qT:∀(k:List ba) (d:PyData),qk k=d->ib true d=some k:=fun k d e=>by subst e;exact Bn
@[simp] noncomputable def jZ(a:Bool)(d:PyData):Option (List ba):=match d with
 | .tuple []=>none
 | d=>ib a d
theorem Bs{a:Bool}{d:PyData}{k:List ba}(e:jZ a d=some k):ib a d=some k/\d≠.tuple []:=by
 unfold jZ at e;split at e
 ·cases e
 ·rename_i h;exact⟨e,h⟩
theorem wc:∀{ds:List PyData}{k:List ba},iH ds=some k->ds≠[]->cJ ds=false
 | [],_,_,h=>absurd rfl h
 | [d],k,e,_=>by cases d<;>first | rfl | (simp[iH,iG] at e)
 | d::f::r,k,e,_=>by
  unfold iH at e;split at e
  ·rename_i g l a b;have c:=wc (ds:=f::r) b (by simp);cases d<;>first | (exact(by simpa[cJ] using c)) | (exfalso;simp[iG] at a)
  ·cases e
section
variable{G H:Hp}{a:Addr}{tk:Bool}{kvs:gG}
theorem Ly(h:hI G H a tk kvs)(l:bR G H){y:V}{d:PyData}{k:List ba}(g:DV G y d)(e:jZ tk d=some k):∃o,jH H a y o/\((o=none/\gH tk kvs k=none)\/∃v x,o=some v/\gH tk kvs k=some x/\DV G v x):=by
 obtain⟨e,c⟩:=Bs e;cases tk with
 | false=>obtain⟨m,f,pr⟩:=h;obtain⟨n,p,q⟩:=Option.map_eq_some_iff.mp e;subst q;obtain rfl:=vZ g p;exact⟨_,.k f,qR Br qS n pr⟩
 | true=>
  obtain⟨m,f,pr⟩:=h;cases d with
  | tuple ds=>obtain⟨b,r,rfl,i,j⟩:=g.tup_invK (wc e fun z=>c (by rw[z]));rw[qQ e] at j;rw[wb j] at i;exact⟨_,.t f (l _ _ i),qR (inj:=id) qT (fun _ _ z=>z) k pr⟩
  | _=>cases e
theorem Lz(h:hI G H a tk kvs)(q:bR G H){y v:V}{d x:PyData}{k:List ba}(i:DV G y d)(j:DV G v x)(e:jZ tk d=some k)(l:kvs.length<sizeLine) :
  ∃o,kN H a y v (aN H a o)/\Mv o/\∀c,bR G c->hI c (aN H a o) a tk (jY tk kvs d k x):=by
 obtain⟨e,f⟩:=Bs e;cases tk with
 | false=>obtain⟨r,g,pr⟩:=h;obtain⟨w,m,u⟩:=Option.map_eq_some_iff.mp e;subst u;obtain rfl:=vZ i m;refine⟨_,.k g (by rw[Paired.length pr];exact l),trivial,fun c s=>⟨_,cn,Bq Br qS (DV.mono s j) (Bm m).symm (Paired.mapP pr fun _ _ z=>⟨z.1,DV.mono s z.2⟩)⟩⟩
 | true=>
  obtain⟨r,g,pr⟩:=h;cases d with
  | tuple ds=>obtain⟨b,A,rfl,n,p⟩:=i.tup_invK (wc e fun z=>f (by rw[z]));rw[qQ e] at p;rw[wb p] at n;exact⟨_,.t g (q _ _ n) (by rw[Paired.length pr];exact l),trivial,fun c s=>⟨_,cn,Bq (inj:=id) qT (fun _ _ z=>z) (DV.mono s j) (show qk k=_ by unfold qk;rw[<-qQ e]) (Paired.mapP pr fun _ _ z=>⟨z.1,DV.mono s z.2⟩)⟩⟩
  | _=>cases e
end
section
variable{X:Cx}{F:Fx}{E:Str->ak->Prop}{e a b c:Expr}{es:List Expr}{st:Stmt}{rest:List Stmt}{pos:Pos}{x:Str}
noncomputable def lb(d:Bool):XM ai:=fun U=>.ok (.own false (.m d [])) U
theorem we(i:Bool):FO X F E (.Dict [] [] pos) (lb i):=by
 refine⟨aH,?_⟩;cases i with
 | false=>refine HN.imp ?_;rintro Y H Q ⟨U,O,st,q⟩ p f;obtain⟨g,d,h⟩:=st.fresh (o:=.dK []) f trivial;exact q _ _ g [p] ⟨d,⟨p,rfl,rfl,[],cn,.nil⟩,st.new1 f⟩ h
 | true=>refine zQ.imp ?_;rintro Y H Q ⟨U,O,st,q⟩ p f;obtain⟨g,d,h⟩:=st.fresh (o:=.dT []) f trivial;exact q _ _ g [p] ⟨d,⟨p,rfl,rfl,[],cn,.nil⟩,st.new1 f⟩ h
end
section
variable{X:Cx}{F:Fx}{E:Str->ak->Prop}{e a b c:Expr}{es:List Expr}{st:Stmt}{rest:List Stmt}{pos:Pos}{x:Str}
@[simp] noncomputable def wg:List PyData->Option PyData:=fun f=>match f with
 | [.list as,.list bs,.list d]=>if bs.length=as.length/\d.length=as.length/\0<as.length then some (.list (og as bs d)) else none
 | _=>none
theorem LA{g:XM (List PyData)}(h:DE X F e (AE (wp E g))):FE X F E e (dG wg g):=h.imp aH fun U Q q=>aH _ _ _ (fun l k i=>by
 obtain⟨d,f,j⟩:=cV i;unfold wg at f;split at f
 ·split at f
  ·rename_i h;cases f;exact⟨_,_,_,rfl,h.1,h.2.1,h.2.2,j⟩
  ·cases f
 ·cases f) (bO q)
@[simp] noncomputable def Bt(k:Nat):PyData->Option PyData:=fun d=>match d with | .list ds=>some (.list (ds.drop k)) | _=>none
@[simp] noncomputable def xU(g:PyData->Option PyData)(a:XM PyData):XM PyData:=fun U=>(a U).bind fun d=>lift (g d)
theorem LB{k:Nat}{f:XM PyData}(h:DE X F e (AG (wp E f) k)):FE X F E e (xU (Bt k) f):=h.imp aH fun U Q q=>aH _ _ _ (fun d l i=>by
 obtain⟨y,g,j⟩:=cV i;cases d with
 | list ds=>cases g;exact⟨_,rfl,j⟩
 | _=>cases g) (bO q)
noncomputable def qU(i j:Nat)(d:List PyData):SM:=fun U=>match d with
 | [x,y]=>.nx ((U.set i (some (.dat x))).set j (some (.dat y)))
 | _=>.bad
noncomputable def wh(i j:Nat)(m:XM (List PyData)):SM:=fun U=>dM (m U) (qU i j)
theorem LC{i j:Nat}{m:XM (List PyData)}(h:DS X F st (AS i j (wp E m))):FS X F E st (wh i j m):=h.imp fun D U q=>aH _ _ _ (fun g f d=>by
 unfold bV qU at d;split at d
 ·rename_i e;split at e
  ·cases e;exact⟨_,_,rfl,d⟩
  ·cases e
 all_goals (rename_i e;split at e<;>cases e)
 all_goals exact d.elim) (fk (k:=qU i j) q)
end
noncomputable abbrev oq:List Value:=[.type "ValueError",.type "Exception",.type "BaseException",.type "object"]
def wj(h:Heap)(C:Addr):Prop:=∃c N e q bs a f sub g b n i j k l m d,h.get? C=some (excClassObj e q C N bs c a f sub g b n i j k l m "ValueError.__new__")/\h.Ns N d/\d "__init__" = none/\OwnTail h oq c
theorem wm{K:Frag}{h:Heap}{C:Addr}(X:K.In h)(e:excIn K C oq "ValueError.__new__" = true):wj h C:=by
 unfold excIn at e;split at e
 ·rename_i j k m n;split at e
  ·rename_i I o p q r s J t d a;have f:=e;simp only[Bool.and_eq_true,beq_iff_eq] at f;obtain⟨⟨⟨⟨⟨u,v⟩,g⟩,w⟩,b⟩,i⟩:=f;obtain⟨x,y,L,z,A,B,D,E,G,c,H⟩:=k;obtain⟨l⟩:=m;simp at g d a b i;subst u v g d a;exact⟨o,z,x,A,y,B,D,E,G,c,j,p,q,r,s,t,_,X _ _ n,.of_isNs (PySem.W.isNs_of_in X b),PySem.W.nsMap_none_of_in X b i,PySem.W.tail_of_in X w⟩
  ·cases e
 ·cases e
structure EC (K:Frag) (mg:Str->Option Value) (c:Str) (C:Addr):Prop where
 mg:mg c=some (.ref C)
 ns:nsIn K mainGlobals c=some (some (.ref C))
 ex:excIn K C oq "ValueError.__new__" = true
@[simp] noncomputable def gv(c:Str):SM:=fun U=>.ex c U
section
variable{X:Cx}{F:Fx}{E:Str->ak->Prop}
theorem _root_.L2.Inv.madeX{a:List (Addr×Obj)}{Y:St}{H:Hp}{s:Shared}{c:Heap}{e:Addr}{C:Value}{d:List Value}(I:Inv X a Y H s)(m:Heap.MadeExcOf s.heap c e C d):Inv X a Y H { s with heap:=c }/\jk X a s.heap/\eO s.heap H c e C none:=by have f:∀b,s.heap.get? b=none->H b=none:=fun b z=>bG.some_of I.hok z;obtain⟨t,h1,h2,h3⟩:=m.there;refine⟨I.ch I.cov ⟨fun b o q _ _=>m.keeps b o q,fun b o _ q=>⟨o.slots,m.keeps b o q⟩,fun b o q=>⟨o,m.keeps b o q⟩⟩,I.cov,⟨fun b o q=>⟨o,m.keeps b o q⟩,m.new,f e m.new,_,_,_,h1,rfl,rfl,rfl,.inl ⟨rfl,rfl⟩⟩⟩
theorem gJ{c g:Str}{C:Addr}{j:Nat}{np a pos i:Pos}(v:dS X F E)(x:X.A.handled=none)(y:Gl X c)(k:EC X.K X.mg c C)(l:(c==("__debug__":Str))=false:=by decide)
  (n:starEach [.Constant (.str g) j i] X.env=(false,eval (.Constant (.str g) j i) X.env)::starEach [] X.env:=by rfl) :
  FS X F E (.Raise (some (.Call (.Name c np) [.Constant (.str g) j i] [] a)) none pos) (gv c):=fun b s Y H D I ⟨U,O,DD,st,q,f⟩=>by
 obtain⟨z,N,B,G,bs,d,J,sub,L,o,dd,M,Q,R,S,Z,mN,hC,hN,p,T⟩:=wm I.ok.mod.kin k.ex;refine wpAny_Raise_call_subU (C:=C) (nm:=B) (q:=G) (N:=N) (bs:=bs) (bm:=z) (hdct:=d) (sn:=J) (sub:=sub) (ab:=L) (col:=o) (dd:=dd) (k0:=M) (k1:=Q) (k2:=R) (k3:=S) (k5:=Z) (mN:=mN)
  PySem.F.excBase_ValueError (by decide) PySem.F.excBase_ValueError (T.hasType (by decide)) x (by rw[n];rfl) p (kK I y k.mg ⟨rfl,?_⟩ l)
 have pa:PA X [.Constant (.str g) j i] _:=da (yN (X:=X)) dQ n;have w:=pa a b s Y H (fun t u=>t.length=1/\u=H) I (by exact⟨rfl,rfl⟩);rw[n] at w ⊢;refine Calls.evalArgs_plain (aR w fun us s2 ⟨t,u,h,r,h1,h2⟩=>?_);subst h2;refine⟨rfl,by show us.length<=_;rw[<-r.length,h1];decide,h.bk _ _ hC,hN.keeps h.bk,T.keeps h.bk,fun h' e m=>?_⟩;obtain⟨I2,cv,ex⟩:=h.madeX m;exact v.2 b Y _ _ _ c U O ⟨I2,e,.ref C,s2.heap,none,rfl,cv,ex,k.mg⟩ st q
end
noncomputable def qV(K:Frag)(C D:Addr):Bool:=match K.lookup C with
 | some ⟨_,_,.cls a,_⟩=>a.mro.contains (.ref D)
 | _=>false
noncomputable def ot(K:Frag)(C:Addr):Bool:=findIn K (.ref C) "__getattribute__"==some (some (.builtin "BaseException.__getattribute__"))&&findIn K (.ref C) "__class__"==some (some (.builtin "object.__class__"))&&findIn K (.ref C) "__getattr__"==some none &&
 mroIn K C (.type "BaseException")==some true&&mroIn K C (.type "object")==some true
noncomputable def Bu(K:Frag)(D:Addr)(l:List Str):Bool:=l.all fun c=>match nsIn K mainGlobals c with
 | some (some (.ref C))=>excIn K C oq "ValueError.__new__"&&qV K C D&&ot K C&&(kitOne K (.ref C) (.type "ValueError")==some true)&&l.all fun d=>match nsIn K mainGlobals d with
  | some (some (.ref a))=>kitOne K (.ref C) (.ref a)==some (c==d)
  | _=>false
 | _=>false
structure XT (K:Frag) (mg:Str->Option Value) (l:List Str) (D:Addr):Prop where
 top:EC K mg "DueError" D
 tab:Bu K D l=true
 mgs:∀c C,nsIn K mainGlobals c=some (some (.ref C))->mg c=some (.ref C)
theorem XT.at_{K:Frag}{b:Str->Option Value}{l:List Str}{D:Addr}(x:XT K b l D){c:Str}(h:c∈l):∃C,EC K b c C/\qV K C D=true/\ot K C=true/\kitOne K (.ref C) (.type "ValueError")=some true/\
  ∀d∈l,∃a,b d=some (.ref a)/\nsIn K mainGlobals d=some (some (.ref a))/\kitOne K (.ref C) (.ref a)=some (c==d):=by
 have t:=List.all_eq_true.mp x.tab c h;split at t
 ·rename_i C e;simp only[Bool.and_eq_true] at t;obtain⟨⟨⟨⟨g,i⟩,j⟩,k⟩,m⟩:=t;refine⟨C,⟨x.mgs c C e,e,g⟩,i,j,by simpa using k,fun d hd=>?_⟩;have u:=List.all_eq_true.mp m d hd;split at u
  ·rename_i a f;exact⟨a,x.mgs d a f,f,by simpa using u⟩
  ·cases u
 ·cases t
theorem LD{K:Frag}{h:Heap}{C D N:Addr}{f q:Str}{bs d:List Value}{b:Bool}{g:List Str}{sub:List Value}{i:Bool}{c:Option Bool}{r:Option Addr}{j k l m n:Option Value}{a:String}
  (X:K.In h) (e:qV K C D=true) (p:h.get? C=some (excClassObj f q C N bs d b g sub i c r j k l m n a)):(Value.ref C::d).contains (.ref D)=true:=by
 unfold qV at e;split at e
 ·rename_i o;have:=X _ _ o;rw[p] at this;cases this;exact e
 ·cases e
theorem LF{M:Model}{A:Around}{E:Value->Shared->Prop}{h:Heap}{g:Array GenState}{d:Drawn}{t:Nat}{os:OsState}{e C D:Addr}{n:Obj}{Q:Bool->Shared->Prop}
  (I:wj h C) (xd:wj h D) (J:∀{o q N bs k a p sub r i H s u v w x c},h.get? C=some (excClassObj o q C N bs k a p sub r i H s u v w x c)->(Value.ref C::k).contains (.ref D)=true)
  (L:h.get? e=some n) (j:n.cls=.ref C) (O:Q true ⟨h,g,d,t,os⟩):wpAny M A (excMatches (.ref e) (.ref D)) Q E ⟨h,g,d,t,os⟩:=by
 obtain⟨k,N,o,q,bs,a,p,sub,r,i,H,s,u,v,w,x,mN,y,_,_,_⟩:=I;obtain⟨l,N',R,q',S,m,T,z,U,B,Y,Z,a0,a1,a2,a3,a4,G,_,_,T'⟩:=xd;have cB:(Value.ref D::l).contains (.type "BaseException")=true:=by rw[List.contains_cons,T'.hasType (X:="BaseException") (b:=true) (by decide),Bool.or_true]
 have cC:=J y;have f:=tc_notTuple;unfold excMatches
 repeat (first | (with_reducible refine wpAny_loadPart_at L ?_;rw[j]) | with_reducible refine wpAny_loadPart_at G ?_ | (with_reducible refine wpAny_isSubtype_exc G ?_;rw[cB]) | (with_reducible refine wpAny_isSubtype_exc y ?_;rw[cC]) | wp_step)
 exact O
noncomputable abbrev iI(X:Cx)(A:Around)(b:Bool)(a:List (Addr×Obj))(c:Value->Shared->Prop):Cx:={ X with A:=A,calm:=b,pn:=a,xe:=c }
section
variable{X:Cx}{F:Fx}{E:Str->ak->Prop}{pins pins':List (Addr×Obj)}{Y:St}{H:Hp}{s:Shared}{A:Around}{b:Bool}{xe:Value->Shared->Prop}
theorem _root_.L2.Inv.re(I:Inv X pins Y H s)(A:Around)(b:Bool)(xe:Value->Shared->Prop)(a:A.frames=X.A.frames)(c:b=true->A.handled=none):Inv (iI X A b (X.pn++pins) xe) [] Y H s:=
 ⟨⟨I.ok.mod,I.ok.kind,I.ok.glob,I.ok.blt,I.ok.above,I.ok.inj,I.ok.has,I.ok.cab,c,a.trans I.ok.frames,I.ok.stk,I.ok.exf,I.ok.bs,I.ok.bsz,I.ok.noex,I.ok.exfs,I.ok.funs,I.ok.frf⟩,I.os,I.bare,I.base,I.loc,I.cell,I.free,I.freeC,fun p d=>I.pin p (by simpa using d),I.hok,I.len⟩
theorem _root_.L2.Inv.unre(ok:X.Ok)(I:Inv (iI X A b (X.pn++pins) xe) pins' Y H s):Inv X pins Y H s:=
 ⟨ok,I.os,I.bare,I.base,I.loc,I.cell,I.free,I.freeC,fun p a=>I.pin p (bi _ a),I.hok,I.len⟩
theorem ka(ok:X.Ok){D:eM}{f:Flow}{d:Shared}(h:SP (iI X A b (X.pn++pins) xe) pins' D f d):SP X pins D f d:=by
 cases f with
 | next=>obtain⟨a,c,I,q⟩:=h;exact⟨a,c,I.unre ok,q⟩
 | brk=>obtain⟨a,c,I,q⟩:=h;exact⟨a,c,I.unre ok,q⟩
 | cont=>obtain⟨a,c,I,q⟩:=h;exact⟨a,c,I.unre ok,q⟩
 | ret u=>obtain⟨v,a,c,I,r,q⟩:=h;exact⟨v,a,c,I.unre ok,r,q⟩
theorem _root_.L2.Inv.caught{g:Heap}{a:Addr}{C:Value}{M:Option Value}(I:Inv X pins Y H s)(j:jk X pins g)(t:eO g H s.heap a C M):Inv X pins Y (aN H a (.ext fun h=>∃o,h.get? a=some o/\o.cls=C)) s:=by
 have l:∀b o,g.get? b=some o->b≠a:=fun b o e z=>by subst z;rw[t.lo] at e;cases e
 obtain⟨w,S,T,y,N,_⟩:=t.ob;have i:bR H (aN H a (.ext fun h=>∃o,h.get? a=some o/\o.cls=C)):=bN t.un;refine⟨I.ok,I.os,I.bare,⟨I.base.keep,I.base.slot,fun b o e n B=>?_,I.base.there,fun b D e=>i _ _ (I.base.tups b D e),fun b o u e=>i _ _ (I.base.frzs b o u e),fun b O e=>let⟨m,q⟩:=I.base.tbls b O e;⟨m,i _ _ q⟩⟩,I.loc,I.cell,?_,fun x c e=>?_,fun p G=>?_,fun b u e=>?_,I.len⟩
 ·obtain⟨r,f⟩:=j.s0 b o e B;rw[bw (l _ _ f)];exact I.base.free b o e n B
 ·obtain⟨r,f⟩:=j.loc;rw[bw (l _ _ f)];exact I.free
 ·obtain⟨r,f⟩:=j.cell x c e;rw[bw (l _ _ f)];exact I.freeC x c e
 ·obtain⟨r,f⟩:=j.pin p G;obtain⟨J,L,h3⟩:=I.pin p G;exact⟨J,by rw[bw (l _ _ f)];exact L,h3⟩
 ·by_cases z:b=a
  ·subst z;rw[cn] at e;cases e;refine⟨⟨w,y,N⟩,⟨w,y⟩,fun J L ⟨o,Q,R⟩ k=>⟨o,k o Q,R⟩⟩
  ·rw[bw z] at e;exact(I.hok b u e).stay (fun d v hd q=>q) (fun d q=>i _ _ q) fun d D q=>i _ _ q
theorem LG{M:Model}{A:Around}{E:Value->Shared->Prop}{i:Nat}{x:Str}{pos:Pos}{Q:Unit->Shared->Prop}(I:Inv X pins Y H s)(G:X.N.Nodup)(J:X.N[i]? = some x)(a:X.env.scope.names.lookup x=some .local)
  (h:∀B,Inv X pins (Y.set i none) H B->Q () B):wpAny M A (do bindName X.env x .none;unbindBehindTheSuite X.env x pos) Q E s:=by
 obtain⟨m,C,L⟩:=id I.loc;have l:(X.env.scope.kind==.class||(X.env.scope.kind==.module&&X.env.locals != X.env.globals))=false:=by rw[I.ok.kind];rfl
 have cne:=I.cne;obtain⟨oL,_,_,O,_⟩:=id C;refine wpAny_nameGoes_keeps a C l fun h' v t f=>h _ ⟨I.ok,I.os,I.bare,⟨fun b o e n u a=>?_,fun b o e n u a=>?_,I.base.free,fun b o e a=>?_,I.base.tups,I.base.frzs,I.base.tbls⟩,⟨_,t,fun j y R g S T=>?_⟩,fun y c e=>?_,I.free,I.freeC,fun p U=>?_,fun b ob e=>?_,?_⟩
 ·exact(f.2 b (Nat.ne_of_lt (Nat.lt_of_lt_of_le (bC e) I.ok.above))).trans (I.base.keep b o e n u a)
 ·obtain⟨sl,g⟩:=I.base.slot b o e n u a;exact⟨sl,(f.2 b (Nat.ne_of_lt (Nat.lt_of_lt_of_le (bC e) I.ok.above))).trans g⟩
 ·obtain⟨Z,g⟩:=I.base.there b o e a;exact⟨Z,(f.2 b (Nat.ne_of_lt (Nat.lt_of_lt_of_le (bC e) I.ok.above))).trans g⟩
 ·rcases fS S with⟨_,z,_⟩ | ⟨hj,w⟩
  ·cases z
  ·obtain⟨u',r',q⟩:=L j y R g w T;refine⟨u',r',?_⟩;rcases q with⟨k,e⟩ | ⟨k,c,e,z⟩
   ·refine .inl ⟨k,?_⟩;have:y≠x:=fun e=>hj (uK G g (e▸J));simp[this,e]
   ·exact .inr ⟨k,c,e,z.sameBut f (cne y c e)⟩
 ·obtain⟨D,z⟩:=I.cell y c e;exact⟨D,z.sameBut f (cne y c e)⟩
 ·obtain⟨e,n,ne,nf,d⟩:=I.pin p U;exact⟨(f.2 p.1 ne).trans e,n,ne,nf,d⟩
 ·refine(I.hok b ob e).stay (fun c D r q=>(f.2 c ?_).trans q) (fun _ q=>q) fun _ _ q=>q;rintro rfl;rcases r with rfl | r
  ·rw[I.free] at e;cases e
  ·rw[I.free] at r;cases r
 ·rw[List.length_set];exact I.len
end
section
variable{K:Frag}{F:Fx}{H H':Hp}{Y Y':St}{U U':ak}{O O':List Addr}{W:List (List Addr)}
noncomputable def Fx.here(F:Fx)(H:Hp)(L:List Addr):Fx:=⟨H,L,F.O₀,F.I₀⟩
theorem bS.here(st:bS K F H Y U W):bS K (F.here H W.flatten) H Y U W:=⟨st.at_,st.nd,fun _ _ _ e=>e,fun _ h=>.inl h,st.live,st.len,st.lw,st.io⟩
theorem qW(st:bS K F H Y U W){a:Addr}(h:a∈W.flatten\/H a=none):a∈F.A₀\/F.H₀ a=none:=by
 rcases h with h | h
 ·exact st.new a h
 ·by_cases b:a∈F.A₀
  ·exact .inl b
  ·refine .inr ?_;cases e:F.H₀ a with
   | none=>rfl
   | some o=>have:=st.kept a o b e;rw[h] at this;cases this
theorem cW{fp:List Addr}(st:bS K F H Y U W)(c:aC K ((F.here H W.flatten).plus fp) H' Y' U' O'):aC K (F.plus fp) H' Y' U' O':=by
 obtain⟨f,h,e⟩:=c;refine⟨f,⟨h.at_,h.nd,fun b o d e=>h.kept b o (fun z=>?_) (st.kept b o d e),fun a g=>qW st (h.new a g),h.live,h.len,h.lw,h.io⟩,e⟩;rcases st.new b z with q | q
 ·exact d q
 ·rw[show F.H₀ b=some o from e] at q;cases q
theorem Bv(c:aC K (F.here H W.flatten) H' Y' U' O'):aL (W.flatten++F.O₀) H O' H':=by
 obtain⟨g,h,rfl⟩:=c;refine⟨fun b o d e=>h.kept b o (fun z=>d (bi _ z)) e,fun a f=>?_⟩;rcases List.mem_append.mp f with z | z
 ·exact(h.new a z).imp (bi _) id
 ·exact .inl (bh _ z)
theorem fG.here{D:eM}{e:ee}(st:bS K F H Y U W)(f:fG K F O H D e):fG K (F.here H W.flatten) O H D e:=
 ⟨fun Y' H' U' O' d b q=>f.nx Y' H' U' O' (cW (fp:=[]) st d) b q,fun v Y' H' c U' O' g r b q=>f.rt v Y' H' c U' O' g ⟨cW st r.st,r.at_,fun a h=>qW st (r.new a h)⟩ b q,
  fun Y' H' U' O' d b q=>f.bk Y' H' U' O' (cW (fp:=[]) st d) b q,fun Y' H' U' O' d b q=>f.ct Y' H' U' O' (cW (fp:=[]) st d) b q⟩
theorem aC.clear(st:aC K F H Y U O)(i:Nat):∃O',aC K F H Y (U.set i none) O'/\aL O H O' H:=by
 obtain⟨W,h,rfl⟩:=st;have sub:∀a∈(W.set i []).flatten,a∈W.flatten:=fun a d=>by
  rcases ff d with z | ⟨j,l,_,e,m⟩
  ·cases z
  ·exact bL e m
 have f:aL (W.flatten++F.O₀) H ((W.set i []).flatten++F.O₀) H:=eB fun a d=>by
  rcases List.mem_append.mp d with z | z
  ·exact bi _ (sub a z)
  ·exact bh _ z
 refine⟨_,⟨W.set i [],⟨fun j c e=>?_,nN h.nd List.nodup_nil (fun a d=>by cases d),h.kept,fun a d=>h.new a (sub a d),fun a d=>h.live a ?_,by rw[List.length_set];exact h.len,by rw[List.length_set,List.length_set];exact h.lw,fun j b e=>?_⟩,rfl⟩,f⟩
 ·rcases fS e with⟨_,z,_⟩ | ⟨k,g⟩
  ·cases z
  ·obtain⟨v,n,h1,h2,h3⟩:=h.at_ j c g;exact⟨v,n,h1,by rw[List.getElem?_set_ne (Ne.symm k)];exact h2,h3.keep f (fun _ _=>rfl) fun _ _ _ e=>e⟩
 ·rcases List.mem_append.mp d with z | z
  ·exact bi _ (sub a z)
  ·exact bh _ z
 ·rcases fS e with⟨_,z,_⟩ | ⟨k,g⟩
  ·cases z
  ·exact h.io j b g
end
noncomputable def my(l:List Str)(i:Nat)(b e:SM):SM:=fun U=>match b U with
 | .ex c f=>if c∈l then(match e (f.set i (some (.exc c))) with | .rt d a=>.rt d (a.set i none) | _=>.bad) else .bad
 | o=>o
noncomputable def ou(l:List Str)(b e:SM):SM:=fun U=>match b U with
 | .ex c f=>if c∈l then(match e f with | .rt d a=>.rt d a | _=>.bad) else .bad
 | o=>o
section
variable{X:Cx}{F:Fx}{E:Str->ak->Prop}
theorem Bw{l:List Str}{D a:Addr}{c:Str}{C:Value}{g:Heap}{O:Option Value}{np e:Pos}{p:Option Str}{G:Stmt}{i:List Stmt}{d:List (Addr×Obj)}{Y:St}{H:Hp}{s:Shared}{Q:Flow->Shared->Prop}{k:Value->Shared->Prop}
  (t:XT X.K X.mg l D) (R:Gl X "DueError") (j:X.stack=X.env::X.outer) (u:X.env.frame=some X.env.locals) (S:c∈l) (J:Inv X d Y H s) (T:jk X d g) (ex:eO g H s.heap a C O) (U:X.mg c=some C)
  (h:∀v,Inv X d Y H v->eO g H v.heap a C (some .none)->codeAny (model X.prog X.w) (X.A.mark (some (.ref a))) (.handlers (.ref a) [.ExceptHandler none p (G::i) e] X.env) (fun r m=>match r with
     | .ok f=>(match p with
      | none=>Q f m
      | some n=>wpAny (model X.prog X.w) X.A (do bindName X.env n .none;unbindBehindTheSuite X.env n e) (fun _ y=>Q f y) k m)
     | .error x=>cameBackBy (model X.prog X.w) X.A X.env k x m) v) :
  wpAny (model X.prog X.w) X.A (noteFrame (.ref a) X.env) (fun _ m=>wpAny (model X.prog X.w) X.A (setFlight (.ref a) none) (fun _ y=>wpAny (model X.prog X.w) X.A (handleBy (.ref a) X.env [.ExceptHandler (some (.Name "DueError" np)) p (G::i) e]) Q k y) k m) k s:=by
 have Z:X.A.frames=some (X.env::X.outer):=by rw[J.ok.frames,j]
 have stk:s.heap.FunFrames X.base (X.env::X.outer):=by have:=J.stack;rw[j] at this;exact this
 have hb:∀b,s.heap.get? b=none->H b=none:=fun b z=>bG.some_of J.hok z;refine Ap (base:=X.base) Z stk u hb ex fun h1 I x1=>?_;refine qu (s:={ s with heap:=h1 }) (fs:=bH (X.env::X.outer)) none (qv (I.frames (fun _ h=>h) stk)) x1 fun h2 c2 L=>?_;have o:Inv X d Y H { s with heap:=h2 }:=J.ch T (by rw[j];exact I.trans c2);refine wpAny_handleBy_cons (codeAny_handlers_test ?_) (by intro q;cases q);have J3:=o.re (X.A.mark (some (.ref a))) false X.xe rfl (fun z=>by cases z);refine kK (X:=iI X (X.A.mark (some (.ref a))) false (X.pn++d) X.xe) J3 R t.top.mg ?_ (by decide);obtain⟨M,N,hu,_⟩:=t.at_ S;have eC:C=.ref M:=Option.some.inj (U.symm.trans N.mg);obtain⟨oe,vs,a0,he,B,_⟩:=L.ob;refine LF (C:=M) (wm o.kIn N.ex) (wm o.kIn t.top.ex) (fun hC=>LD o.kIn hu hC) he (B.trans eC) ?_;exact h _ o L
theorem LH{l:List Str}{D:Addr}{i:Nat}{n:Str}{np M pos:Pos}{body k:List Stmt}{b₀:Stmt}{mb mh:SM}(xt:XT X.K X.mg l D)(hg:Gl X "DueError")(y:X.stack=X.env::X.outer)(a0:X.env.frame=some X.env.locals)(hN:X.N.Nodup)(hi:X.N[i]? = some n)(hn:X.env.scope.names.lookup n=some .local)
  (hG:GF X.mg F) (hb:∀Q pn Z R,dS (iI X X.A X.calm pn Z) Q R->PassesOwn (model X.prog X.w) X.A X.env Z->hV (iI X X.A X.calm pn Z) Q R body mb)
  (hs:∀Q e pn Z,GF X.mg Q->hV (iI X (X.A.mark (some e)) false pn Z) Q dH (b₀::k) mh) :
  FS X F E (.Try body [.ExceptHandler (some (.Name "DueError" np)) (some n) (b₀::k) M] [] [] pos) (my l i mb mh):=fun b s Y H D' I ⟨U,O,DD,st,q,f⟩=>by
 obtain⟨W,m,rfl⟩:=id st;have S:GF X.mg (F.here H W.flatten):=(hG.at st).frame fun a h=>m.live a (bi _ h);let R:Str->ak->Prop:=fun c T=>c∈l/\∃d j,mh (T.set i (some (.exc c)))=.rt d j/\DD.rt d (j.set i none);have q1:bV R mb DD U:=by
  unfold bV my at q;unfold bV;generalize mb U=o at q ⊢;cases o with
  | ex c T=>
   simp only at q
   by_cases G:c∈l
   ·rw[if_pos G] at q;refine⟨G,?_⟩;generalize mh (T.set i (some (.exc c)))=o2 at q ⊢;cases o2 with
    | rt d j=>exact⟨d,j,rfl,q⟩
    | _=>exact q.elim
   ·rw[if_neg G] at q;exact q.elim
  | _=>exact q
 refine wpAny_Try_except ?_;refine aR (hb (F.here H W.flatten) (X.pn++b) _ R ?_ PassesOwn.looking [] s Y H D' (I.re X.A X.calm _ rfl I.ok.hd) ⟨U,_,DD,⟨W,m.here,rfl⟩,q1,f.here m⟩) fun fw s1 h=>?_
 ·refine⟨S,?_⟩;intro a1 Y' H' s' e c T O' ⟨J1,a,C,g,fl,e1,cv,ex,hm⟩ t ⟨G,d,j,a2,hd⟩;subst e1;have J:Inv X b Y' H' s':=J1.unre I.ok;have B:jk X b g:=⟨cv.s0,cv.loc,cv.cell,fun p hp=>cv.pin p (bi _ hp)⟩
  have a3:i<T.length:=by rw[t.lenE,J.len];exact(List.getElem?_eq_some_iff.mp hi).1
  refine Bw xt hg y a0 G J B ex hm fun L J3 x3=>codeAny_handlers_suite_as ?_;have stk:L.heap.FunFrames X.base (X.env::X.outer):=by have:=J3.stack;rw[y] at this;exact this
  refine qu (s:=L) (fs:=bH (X.env::X.outer)) none (qv stk) x3 fun h4 c4 x4=>?_;have J4:Inv X b Y' H' { L with heap:=h4 }:=J3.ch B (by rw[y];exact c4);have J5:=J4.caught B x4;obtain⟨C',ec,_⟩:=xt.at_ G;have eC:C=.ref C':=Option.some.inj (hm.symm.trans ec.mg);refine nC J5 hN hi (.inl hn) (v:=.ref a) rfl (fun s5 J6=>?_) (.inr hn);have sm:=bN (o:=.ext fun h=>∃o,h.get? a=some o/\o.cls=C) ex.un;have na:a∉O':=t.nofree a ex.un;have cell:cP X.K (aN H' a (.ext fun h=>∃o,h.get? a=some o/\o.cls=C)) O' (.ref a) (.exc c) []:=⟨a,_,rfl,gk cn na,fun h ⟨o,z1,z2⟩=>⟨C',o,ec.ns,z1,z2.trans eC⟩⟩
  obtain⟨O6,a4,s6⟩:=aC.put1 (io:=false) (F:=F.here H W.flatten) (fp:=[]) (i:=i) (t.grow sm) cell (fun _ z=>by cases z) a3 (fun _ z=>by cases z);have step:aL (W.flatten++F.O₀) H O6 _:=(Bv t).trans ((aL.same sm).trans s6);refine aR (hs (F.here H W.flatten) (.ref a) (X.pn++b) _ S [] s5 _ _ ⟨fun _ _=>False,D'.rt,fun _ _=>False,fun _ _=>False⟩ (J6.re (X.A.mark (some (.ref a))) false _ rfl (fun z=>by cases z)) ⟨_,O6,⟨fun _=>False,fun d j=>DD.rt d (j.set i none),fun _=>False,fun _=>False⟩,a4,?_,?_⟩) fun fw s6 h6=>?_
  ·unfold bV;rw[a2];exact hd
  ·refine⟨fun _ _ _ _ _ _ z=>z.elim,fun v Y2 H2 c2 U2 O2 fp r s2 qq=>?_,fun _ _ _ _ _ _ z=>z.elim,fun _ _ _ _ _ _ z=>z.elim⟩;have r2:aC X.K (F.plus fp) H2 Y2 U2 O2:=cW m r.st;obtain⟨O3,r3,L⟩:=r2.clear i;exact f.rt v Y2 H2 c2 _ O3 fp ⟨r3,r.at_.keep L (fun _ _=>rfl) (fun _ _ _ e=>e),fun x hx=>qW m (r.new x hx)⟩ (step.trans (s2.trans L)) qq
  ·cases fw with
   | next=>obtain⟨_,_,_,z⟩:=h6;exact z.elim
   | brk=>obtain⟨_,_,_,z⟩:=h6;exact z.elim
   | cont=>obtain⟨_,_,_,z⟩:=h6;exact z.elim
   | ret u=>obtain⟨v,Y7,H7,J8,r8,q8⟩:=h6;exact LG (J8.unre I.ok) hN hi hn fun s9 J9=>⟨v,_,H7,J9,r8,q8⟩
 ·cases fw with
  | next=>exact wpAny_execs_nil (ka I.ok h)
  | brk=>exact ka I.ok h
  | cont=>exact ka I.ok h
  | ret u=>exact ka I.ok h
theorem LI{l:List Str}{D:Addr}{np n pos:Pos}{body j:List Stmt}{b₀:Stmt}{Q R:SM}(xt:XT X.K X.mg l D)(hg:Gl X "DueError")(m:X.stack=X.env::X.outer)(a0:X.env.frame=some X.env.locals)
  (hG:GF X.mg F) (hb:∀t pn N y,dS (iI X X.A X.calm pn N) t y->PassesOwn (model X.prog X.w) X.A X.env N->hV (iI X X.A X.calm pn N) t y body Q)
  (hs:∀t e pn N,GF X.mg t->hV (iI X (X.A.mark (some e)) false pn N) t dH (b₀::j) R) :
  FS X F E (.Try body [.ExceptHandler (some (.Name "DueError" np)) none (b₀::j) n] [] [] pos) (ou l Q R):=fun b s Y H D' I ⟨U,O,S,st,q,f⟩=>by
 obtain⟨W,k,rfl⟩:=id st;have B:GF X.mg (F.here H W.flatten):=(hG.at st).frame fun a h=>k.live a (bi _ h);let y:Str->ak->Prop:=fun c T=>c∈l/\∃d i,R T = .rt d i/\S.rt d i;have q1:bV y Q S U:=by
  unfold bV ou at q;unfold bV;generalize Q U=o at q ⊢;cases o with
  | ex c T=>
   simp only at q
   by_cases G:c∈l
   ·rw[if_pos G] at q;refine⟨G,?_⟩;generalize R T = o2 at q ⊢;cases o2 with
    | rt d i=>exact⟨d,i,rfl,q⟩
    | _=>exact q.elim
   ·rw[if_neg G] at q;exact q.elim
  | _=>exact q
 refine wpAny_Try_except ?_;refine aR (hb (F.here H W.flatten) (X.pn++b) _ y ?_ PassesOwn.looking [] s Y H D' (I.re X.A X.calm _ rfl I.ok.hd) ⟨U,_,S,⟨W,k.here,rfl⟩,q1,f.here k⟩) fun fw s1 h=>?_
 ·refine⟨B,?_⟩;intro a1 Y' H' s' e c T O' ⟨J1,a,C,g,fl,e1,Z,ex,hm⟩ L ⟨G,d,i,a2,hd⟩;subst e1;have J:Inv X b Y' H' s':=J1.unre I.ok;have M:jk X b g:=⟨Z.s0,Z.loc,Z.cell,fun p hp=>Z.pin p (bi _ hp)⟩
  refine Bw xt hg m a0 G J M ex hm fun s3 J3 x3=>codeAny_handlers_suite ?_;have stk:s3.heap.FunFrames X.base (X.env::X.outer):=by have:=J3.stack;rw[m] at this;exact this
  refine qu (s:=s3) (fs:=bH (X.env::X.outer)) none (qv stk) x3 fun h4 c4 x4=>?_;have J4:Inv X b Y' H' { s3 with heap:=h4 }:=J3.ch M (by rw[m];exact c4);have step:aL (W.flatten++F.O₀) H O' H':=Bv L;refine aR (hs (F.here H W.flatten) (.ref a) (X.pn++b) _ B [] _ _ _ ⟨fun _ _=>False,D'.rt,fun _ _=>False,fun _ _=>False⟩ (J4.re (X.A.mark (some (.ref a))) false _ rfl (fun z=>by cases z)) ⟨_,O',⟨fun _=>False,fun d i=>S.rt d i,fun _=>False,fun _=>False⟩,L,?_,?_⟩) fun fw s6 h6=>?_
  ·unfold bV;rw[a2];exact hd
  ·refine⟨fun _ _ _ _ _ _ z=>z.elim,fun v Y2 H2 c2 U2 O2 fp r s2 qq=>?_,fun _ _ _ _ _ _ z=>z.elim,fun _ _ _ _ _ _ z=>z.elim⟩;exact f.rt v Y2 H2 c2 _ O2 fp ⟨cW k r.st,r.at_,fun x hx=>qW k (r.new x hx)⟩ (step.trans s2) qq
  ·cases fw with
   | next=>obtain⟨_,_,_,z⟩:=h6;exact z.elim
   | brk=>obtain⟨_,_,_,z⟩:=h6;exact z.elim
   | cont=>obtain⟨_,_,_,z⟩:=h6;exact z.elim
   | ret u=>obtain⟨v,Y7,H7,J8,r8,q8⟩:=h6;exact⟨v,_,H7,J8.unre I.ok,r8,q8⟩
 ·cases fw with
  | next=>exact wpAny_execs_nil (ka I.ok h)
  | brk=>exact ka I.ok h
  | cont=>exact ka I.ok h
  | ret u=>exact ka I.ok h
end
structure cy (k:Nat) (A:Around):Prop where
 dp:A.depth+3 * k+5<recursionLimit
 un:A.units+16 * k+200<cLine
theorem bq.h{k:Nat}{A:Around}(r:bq k A)(v:Option Value):cy k (A.mark v):=⟨r.dp,r.un⟩
theorem cy.deeper{k:Nat}{A:Around}(r:cy (k+1) A)(a:Env):cy k (A.deeper a):=
 ⟨by have:=r.dp;show A.depth+1+3 * k+5<_;omega,by have:=r.un;show A.units+3+16 * k+200<_;omega⟩
structure eS (P:Program) (w:World) (K:Frag) (mg:Str->Option Value) (base:Heap) (CX:fB) (k:Nat) (f:Addr) (fd:FuncData) (ps:List Str) (sp:Sp):Prop where
 len:∀vs H Q E,sp vs H Q E->vs.length=ps.length
 run:∀(A:Around) (outer:List Env) (s:Shared) (H:Hp) (args:Args) (us:List Value) (vs:List V) (Q:VK) (E:XK),cy k A->dR P w K mg base A outer s H->BindsTo s fd args (ps.zip us)->be vs us->sp vs H Q E->
  codeAny (model P w) A (.call (.ref f) args) (CR CX outer P w H s Q E) s
noncomputable abbrev lc(d:fB)(P:Program)(w:World)(K:Frag)(g:Str->Option Value)(base:Heap)(N:List Str)(c:Str)(a:Scope)(f:Addr)(e:Value)(A:Around)(b:List Env)(s:Shared)(H:Hp)(E:XK):Cx:=
 { jd d P w K g base N c a f e A b s H E with calm:=false }
theorem LJ{k:fB}{P:Program}{w:World}{K:Frag}{j:Str->Option Value}{base:Heap}{N e:List Str}{c:Str}{a:Scope}{f:Addr}{g:Value}{A:Around}{b:List Env}{s l:Shared}{H:Hp}{E:XK}{h:List Value}{i:List V}
  (S:aa N e a) (d:dR P w K j base A b s H) (m:i.length=e.length) (r:be i h)
  (x:InCallC s s.heap.objs.size (bindL (envOfC c a s.heap.objs.size f g).kindOf (e.zip h) fun _=>none) (cellsFrom (s.heap.objs.size+1) a.names []) (bindC (envOfC c a s.heap.objs.size f g).kindOf (e.zip h) fun _=>none) l) :
  Inv (lc k P w K j base N c a f g A b s H E) [] (start N i) H l:=by
 have n:dR P w K j base { A with handled:=none } b s H:=⟨d.frames,d.mod,d.bs,d.bsz,d.funs,d.frf,d.hok,d.bare⟩
 have I:=zr (CX:=k) (E:=E) (qual:=c) (f:=f) (cd:=g) S rfl n m r x;exact⟨⟨I.ok.mod,I.ok.kind,I.ok.glob,I.ok.blt,I.ok.above,I.ok.inj,I.ok.has,I.ok.cab,(fun z=>by cases z),I.ok.frames,I.ok.stk,I.ok.exf,I.ok.bs,I.ok.bsz,I.ok.noex,I.ok.exfs,I.ok.funs,I.ok.frf⟩,I.os,I.bare,I.base,I.loc,I.cell,I.free,I.freeC,I.pin,I.hok,I.len⟩
theorem LL{D:fB}{P:Program}{w:World}{K:Frag}{M:Str->Option Value}{base:Heap}{k:Nat}{f:Addr}{name d:Str}{h:Arguments}{body:List Stmt}{a:Scope}{dV kV z pm g ct oc:Value}{Z od:Option Addr}
  {O:Array (Option Value)}{N G:List Str}{R:Sp}(lk:K.lookup f=some ⟨oc,od,.func (fnOf name d h body a dV kV z pm Z g ct),O⟩) (T:codeIn K g d=true) (S:aa N G a)
  (len:∀i H Q E,R i H Q E->i.length=G.length)
  (l:∀(A:Around) (c:List Env) (s:Shared) (H:Hp) (i:List V) (Q:VK) (E:XK),cy k (A.deeper (envOfC d a s.heap.objs.size f g))->R i H Q E->
   ∃t,PSs (lc D P w K M base N d a f g A c s H E) body t/\t { nx:=fun _ j=>Q .non j,rt:=Q } (start N i) H) :
  eS P w K M base D (k+1) f (fnOf name d h body a dV kV z pm Z g ct) G R:=by
 refine⟨len,fun A c s H args us i Q E hr B hb r C=>?_⟩;have hl:=len _ _ _ _ C;have KX:K.In s.heap:=B.mod.kin.keeps fun b o e=>(B.bs b o e).1;have U:s.heap.NoLimit:=B.mod.nolimit.keeps fun b o e=>(B.bs b o e).1;have m:∀y∈G.zip us,a.names.lookup y.1=some .local\/(a.names.lookup y.1=some .cell/\((cellsFrom (s.heap.objs.size+1) a.names []).lookup y.1).isSome=true):=fun⟨n,v⟩ hy=>by
  rcases S.par n (List.of_mem_zip hy).1 with q | q
  ·exact .inl q
  ·exact .inr ⟨q,PySem.W.cellsFrom_some _ _ _ (.inl q)⟩
 refine codeAny_call_function (by have:=hr.dp;omega) (KX _ _ lk) rfl S.co S.gen rfl (PySem.W.codeRec_of KX T) (hb _ _ _ _ ?_);refine wpAny_newFunctionEnv_cells S.kind m fun a0 he s1 x=>?_;subst he;refine⟨U.keeps x.toInCall.keep,codeAny_func ?_⟩;obtain⟨t,ht,hq⟩:=l A c s H i Q E (hr.deeper _) C;have I:Inv (lc D P w K M base N d a f g A c s H E) [] (start N i) H s1:=LJ S B hl r x;refine wpAny_mono (ht [] s1 (start N i) H _ I hq) (fun fl X p=>?_) fun e X p=>p;have fin:∀{L:St}{j:Hp}{v:V}{u:Value},Inv (lc D P w K M base N d a f g A c s H E) [] L j X->bj v u->Q v j->CE c P w H s Q u X:=
  fun {L j v u} J Y q=>⟨v,j,J.os,J.bare,J.base,J.hok,Y,q⟩
 cases fl with
 | ret u=>obtain⟨v,L,j,J,Y,q⟩:=p;exact fin J Y q
 | next=>obtain⟨L,j,J,q⟩:=p;exact fin (v:=V.non) (u:=Value.none) J rfl q
 | brk=>obtain⟨_,_,_,q⟩:=p;exact False.elim q
 | cont=>obtain⟨_,_,_,q⟩:=p;exact False.elim q
theorem LM{P:Program}{w:World}{K:Frag}{m:Str->Option Value}{base:Heap}{N:List Str}{i:Str}{d:Scope}{f:Addr}{j:Value}{A:Around}{h:List Env}{s:Shared}{H:Hp}{E:XK}{F:Fx}{n:Str->ak->Prop}
  (v:GF m F) (x:∀c C p y r B,m c=some C->aC K F r y p B->n c p->E C none r):dS (lc (aU P w) P w K m base N i d f j A h s H E) F n:=by
 refine⟨v,?_⟩;intro t Y k D e c U O ⟨I,a,C,g,S,G,u,ex,L⟩ st q;subst G;have M:(A.deeper (envOfC i d s.heap.objs.size f j)).frames=some (envOfC i d s.heap.objs.size f j::h):=I.ok.frames;have Q:∀b,D.heap.get? b=none->k b=none:=fun b z=>bG.some_of I.hok z;have stk:bH (envOfC i d s.heap.objs.size f j::h)=s.heap.objs.size::bH h:=rfl;refine Aq (base:=base) M I.stack rfl Q ex fun T ch l=>?_;have J:=I.ch u ch;refine⟨a,C,k,rfl,J.os,J.bare,J.base,J.hok,l.weak fun b o R=>u.s0 b o R (by intro z;cases z),x c C U Y k O L st q⟩
section
variable{P:Program}{w:World}{K:Frag}{mg:Str->Option Value}{base:Heap}{x qual:Str}{st:Stmt}{f:Addr}{fd:FuncData}{N ps:List Str}{k:Nat}{m:SM}
theorem LN(Fn:kM K x qual st f fd)(S:aa N ps (aZ st))(hN:ps.length<=N.length)
  (a0:∀(B:Value) (A:Around) (u:List Env) (s:Shared) (H:Hp) (E:XK) (F:Fx) (Z:Str->ak->Prop),cy k (A.deeper (envOfC qual (aZ st) s.heap.objs.size f B))->dS (lc (aU P w) P w K mg base N qual (aZ st) f B A u s H E) F Z->
   gl (lc (aU P w) P w K mg base N qual (aZ st) f B A u s H E) F (hF st) (bV Z m)):eS P w K mg base (aU P w) (k+1) f fd ps (aW K mg (bc ps.length N.length m)):=by
 obtain⟨oc,od,kV,a4,pm,an,B,ct,a5,rfl,lk,a1⟩:=Fn.ex;have I:∀D H Q E,aW K mg (bc ps.length N.length m) D H Q E->D.length=ps.length:=fun D H Q E ⟨_,l,y,O₀,M,_,_,q⟩=>by
  rw[M.len.1];unfold bc at q
  by_cases h:l.length=ps.length
  ·exact h
  ·rw[if_neg h] at q;exact q.elim
 refine LL lk a1 S I fun A u s H D Q E hr O=>?_;have a6:=I D H Q E O;obtain⟨gh,l,y,O₀,M,nd,live,q⟩:=O;obtain⟨l1,l2⟩:=M.len;have R:l.length=ps.length:=by omega
 let F:Fx:=⟨H,y.flatten,O₀,kP D⟩
 have T:=At (N:=N) M nd live (by omega);have fin:∀{X:St}{j:Hp}{n:ak}{L:List Addr}{fp:List Addr}{g:List Bx},aC K (F.plus fp) j X n L->(∀a∈fp,a∈F.A₀\/F.H₀ a=none)->cE l n = some g->∃d,aT j (d.flatten++fp++O₀) D l g d/\fh H j y.flatten (d.flatten++fp) O₀/\aL L j (d.flatten++fp++O₀) j:=by
  rintro X j n L fp g ⟨W,p,rfl⟩ a2 t;obtain⟨d,o,sb⟩:=qx p l D 0 g l1 (fun i io b e=>M.ios i io b e) t;have Y:d.flatten.Sublist W.flatten:=sb;have sub:(d.flatten++fp++O₀).Sublist (W.flatten++(fp++O₀)):=by rw[List.append_assoc];exact List.Sublist.append Y (List.Sublist.refl _)
  have G:aL (W.flatten++(fp++O₀)) j (d.flatten++fp++O₀) j:=eB fun a h=>sub.subset h;refine⟨d,o.mono G,⟨p.nd.sublist sub,fun a h=>p.live a (sub.subset (bi _ h)),fun b o hb e=>p.kept b o hb e,fun a h=>?_⟩,G⟩;rcases List.mem_append.mp h with h | h
  ·exact p.new a (Y.subset h)
  ·exact a2 a h
 have a3:bc ps.length N.length m l=(match m (gn N.length ps.length l) with
  | .nx U=>(match cE l U with | some o=>.rt (.dat .none) o | none=>.bad)
  | .rt c U=>(match cE l U with | some o=>.rt c o | none=>.bad)
  | .ex c U=>(match cE l U with | some o=>.ex c o | none=>.bad)
  | _=>.bad):=by unfold bc gn;rw[if_pos R]<;>rfl
 rw[a3] at q;rw[R] at T;let Z:Str->ak->Prop:=fun c n=>∃g,cE l n = some g/\∀C j d,mg c=some C->aT j (d.flatten++O₀) D l g d->fh H j y.flatten d.flatten O₀->E C none j;refine⟨_,a0 B A u s H E F Z hr (LM (gh.frame fun a h=>live a (bi _ h)) fun c C n X j L J p ⟨g,t,k⟩=>?_),?_⟩
 ·obtain⟨d,o,b,_⟩:=fin (fp:=[]) p (fun a h=>by cases h) t;rw[List.append_nil] at o b;exact k C j d J o b
 ·refine⟨gn N.length ps.length l,_,⟨fun n=>∃g,cE l n = some g/\∀j d,aT j (d.flatten++[]++O₀) D l g d->fh H j y.flatten (d.flatten++[]) O₀->Q .non j,fun c n=>∃g,cE l n = some g/\∀v j fp d,cP K j (d.flatten++fp++O₀) v c fp->aT j (d.flatten++fp++O₀) D l g d->fh H j y.flatten (d.flatten++fp) O₀->Q v j,fun _=>False,fun _=>False⟩,⟨_,T,rfl⟩,?_,?_⟩
  ·unfold bV;cases J:m (gn N.length ps.length l) with
   | nx n=>
    rw[J] at q;cases t:cE l n with
    | none=>simp[t] at q
    | some g=>simp only[t] at q;exact⟨g,t,fun j d o b=>q .non j [] d .non o b⟩
   | rt c n=>
    rw[J] at q;cases t:cE l n with
    | none=>simp[t] at q
    | some g=>simp only[t] at q;exact⟨g,t,q⟩
   | ex c n=>
    rw[J] at q;cases t:cE l n with
    | none=>simp[t] at q
    | some g=>simp only[t] at q;exact⟨g,t,q⟩
   | bk n=>rw[J] at q;exact q
   | ct n=>rw[J] at q;exact q
   | bad=>rw[J] at q;exact q
  ·refine⟨fun X j n L p s' ⟨g,t,k⟩=>?_,fun v X j c n L fp r s' ⟨g,t,k⟩=>?_,fun _ _ _ _ _ _ z=>z.elim,fun _ _ _ _ _ _ z=>z.elim⟩
   ·obtain⟨d,o,b,_⟩:=fin (fp:=[]) p (fun a h=>by cases h) t;exact k j d o b
   ·obtain⟨d,o,b,G⟩:=fin r.st r.new t;exact k v j fp d (r.at_.keep G (fun _ _=>rfl) (fun _ _ _ e=>e)) o b
end
section
variable{X:Cx}{F:Fx}{e:Expr}{es:List Expr}{tX:gp}{E:Str->ak->Prop}{pos p:Pos}{x:Str}{f:FM}{k:Nat}{g:Addr}{fd:FuncData}{ps:List Str}
theorem LO{m:List (Addr×Obj)}{Y:St}{H:Hp}{s:Shared}{Q:VK}{L:List Value}{T:List V}{as:List AX}{U:ak}{O:List Addr}{QC:ai->ak->Prop}(hx:dS X F E)(G:eS X.prog X.w X.K X.mg X.base (aU X.prog X.w) k g fd ps (aW X.K X.mg f))(hr:cy k X.A)(hb:fP X.K fd ps [])
  (I:Inv X m Y H s) (r:be T L) (st:aC X.K F H Y U O) (ax:cM Y (aw O H) T as) (q:fW f E QC as U) (hQ:∀c M,QC c M->∀v b Z N,eA X.K F b Y M Z v c N->aL O H Z b->Q v b) :
  wpAny (model X.prog X.w) X.A (call (.ref g) L) (EP X m Y Q) X.xe s:=by
 unfold fW at q;cases hc:gq U as with
 | none=>rw[hc] at q;exact q.elim
 | some p=>
  obtain⟨cs,js⟩:=p;rw[hc] at q;simp only at q;obtain⟨i,O2,a0,ar,s1,a8,nw,ja⟩:=qA st as T cs js hc ax;obtain⟨W,y,a1⟩:=id a0;have a4:(W.flatten++(i.flatten++F.O₀)).Nodup:=y.nd;have l:∀a,a∈O2↔a∈i.flatten++(W.flatten++F.O₀):=fun a=>by
   rw[a1];show a∈W.flatten++(i.flatten++F.O₀)↔_;simp only[List.mem_append];constructor
   ·rintro(h | h | h)<;>simp[h]
   ·rintro(h | h | h)<;>simp[h]
  have perm:(i.flatten++(W.flatten++F.O₀)).Perm (W.flatten++(i.flatten++F.O₀)):=by rw[<-List.append_assoc,<-List.append_assoc];exact List.Perm.append_right _ List.perm_append_comm
  have a2:(i.flatten++(W.flatten++F.O₀)).Nodup:=perm.nodup_iff.mpr a4;have a5:aL O2 H (i.flatten++(W.flatten++F.O₀)) H:=eB fun a h=>(l a).mpr h;have R:∀(b:Hp) (n:List Addr) (a:Addr),(a∈n++(W.flatten++F.O₀))->a∈n\/(a∈O2/\a∉i.flatten):=fun b n a h=>by
   rcases List.mem_append.mp h with h | h
   ·exact .inl h
   ·refine .inr ⟨(l a).mpr (bh _ h),fun z=>?_⟩;exact(List.nodup_append.mp a2).2.2 a z a h rfl
  have j:∀(b:Hp) (n:List Addr),fh H b i.flatten n (W.flatten++F.O₀)->∃B,aC X.K (F.plus n) b Y (eP js U) B/\aL O2 H B b/\∀a,a∈B↔a∈n++(W.flatten++F.O₀):=fun b n t=>by
   obtain⟨B,t1,t2,t3,t4,t5⟩:=a0.swap (H':=b) (L':=n) t.keep (List.nodup_append.mp t.nd).1 t.new nw t.live;refine⟨B,t1,t2,fun a=>⟨fun h=>?_,fun h=>?_⟩⟩
   ·rcases t4 a h with z | ⟨z1,z2⟩
    ·exact bi _ z
    ·rcases List.mem_append.mp ((l a).mp z1) with z | z
     ·exact absurd z z2
     ·exact bh _ z
   ·rcases R b n a h with z | ⟨z1,z2⟩
    ·exact t3 a z
    ·exact t5 a z1 z2
  have r2:be (T++[]) (L++[]):=by rw[List.append_nil,List.append_nil];exact r
  let EX:XK:=fun C _ b=>∃c M Z,X.mg c=some C/\aC X.K F b Y M Z/\E c M;have sp:aW X.K X.mg f T H Q EX:=by
   refine⟨hx.1.at st,cs,i,W.flatten++F.O₀,ar.mono a5,a2,fun a h=>?_,?_⟩
   ·exact y.live a (by have:=(l a).mpr h;rw[a1] at this;exact this)
   ·cases hf:f cs with
    | bad=>rw[hf] at q;exact q
    | rt c a3=>
     rw[hf] at q;simp only at q ⊢;intro v b N d a6 S t;obtain⟨B,t1,t2,t3⟩:=j b (d.flatten++N) t;have D:aL (d.flatten++N++(W.flatten++F.O₀)) b B b:=eB fun a h=>(t3 a).mp h;have J:∀a∈d.flatten++N,a∈F.A₀\/F.H₀ a=none:=fun a h=>by
      rcases t.new a h with z | z
      ·exact nw a z
      ·by_cases hA:a∈F.A₀
       ·exact .inl hA
       ·refine .inr ?_;cases e:F.H₀ a with
        | none=>rfl
        | some o=>have:=y.kept a o hA e;rw[z] at this;cases this
     have lj:(eP js U).length=U.length:=qy;obtain⟨O4,u1,u2⟩:=qC (fp:=N) ja lj t1 (S.mono D) fun a h=>J a (bi _ h);exact hQ c _ q v b O4 N ⟨u1,a6.keep (D.trans u2) (fun _ _=>rfl) (fun _ _ _ e=>e),fun a h=>J a (bh _ h)⟩ (s1.trans (t2.trans u2))
    | ex c a3=>
     rw[hf] at q;simp only at q ⊢;intro C b d hm S t;obtain⟨B,t1,t2,t3⟩:=j b d.flatten t;have D:aL (d.flatten++(W.flatten++F.O₀)) b B b:=eB fun a h=>(t3 a).mp h;have J:∀a∈d.flatten,a∈F.A₀\/F.H₀ a=none:=fun a h=>by
      rcases t.new a h with z | z
      ·exact nw a z
      ·by_cases hA:a∈F.A₀
       ·exact .inl hA
       ·refine .inr ?_;cases e:F.H₀ a with
        | none=>rfl
        | some o=>have:=y.kept a o hA e;rw[z] at this;cases this
     have lj:(eP js U).length=U.length:=qy;obtain⟨O4,u1,u2⟩:=qC (fp:=[]) ja lj (by rw[List.append_nil];exact t1) (S.mono D) J;exact⟨c,_,O4,hm,u1,q⟩
  have hl:(L++[]).length=ps.length:=by rw[List.append_nil,<-r.length];exact G.len _ _ _ _ sp
  refine wpAny_call (codeAny_mono (G.run X.A X.stack s H ⟨L,[]⟩ L T Q EX hr I.env0 (by have:=hb s L I.kIn hl;rw[List.append_nil] at this;exact this) r sp) fun r s' hq=>?_);cases r with
  | error e=>obtain⟨a,C,b,e1,I',cv,ex,c,M,Z,hm,a7,hE⟩:=I.flies hq;exact hx.2 m Y b s' e c M Z ⟨I',a,C,s.heap,_,e1,cv,ex,hm⟩ a7 hE
  | ok fl=>
   cases fl with
   | ret u=>exact I.after hq
   | next=>exact False.elim hq
   | brk=>exact False.elim hq
   | cont=>exact False.elim hq
theorem LP(M:dS X F E)(G:eS X.prog X.w X.K X.mg X.base (aU X.prog X.w) k g fd ps (aW X.K X.mg f))(N:cy k X.A)(R:Gl X x)(S:X.mg x=some (.ref g))(T:keepIn X.K (.ref g)=true)(Z:fP X.K fd ps [])
  (o:DX X F (e::es) tX) (t:(x==("__debug__":Str))=false:=by decide) (he:starEach (e::es) X.env=(false,eval e X.env)::starEach es X.env:=by rfl) (u:(backTo pos (starEach es X.env)).any (·.1)=false:=by rfl) :
  DO X F (.Call (.Name x p) (e::es) [] pos) (vF f E tX):=by
 refine⟨fun U Q Q' k q=>o.mn _ _ _ (fun as b i=>Av k i) q,fun j s Y H Q I ⟨U,O,st,q⟩=>?_⟩;refine wpAny_Call_Name_kw (kK I R S ?_ t);refine callWith_K (h₀:=X.base) I.ok.mod.kin T (aR (o.pa pos j s Y H (fun y l=>∃as b d,aC X.K F l Y b d/\aL O H d l/\cM Y (aw d l) y as/\fW f E (fun c D=>∀v m n z,eA X.K F m Y D n v c z->aL O H n m->Q v m) as b) I ⟨U,O,st,o.mn _ _ _ (fun as b i y l d a J B=>⟨as,b,d,a,J,B,i⟩) q⟩) fun us J ⟨y,l,L,r,as,b,d,a,C,B,i⟩=>⟨L.kIn,?_⟩) he u;exact LO M G N Z L r a B i fun c D h v m n z res s2=>h v m n z res (C.trans s2)
end
end L2.L3
namespace L2.L3
open PySem PySem.Spec PyProof.Rows Builtin Builtin.ObjectAttr Builtin.Getset_descriptor
section
variable{prog:Program}{w:World}{A:Around}{E:Value->Shared->Prop}{K:Frag}{h:Heap}{g:Array GenState}{d:Drawn}{t:Nat}{os:OsState}{a C:Addr}{o:Obj}
theorem LQ{Q:Option Value->Shared->Prop}(X:K.In h)(e:h.get? a=some o)(f:o.cls=.ref C)(f1:findIn K (.ref C) "__getattribute__" = some (some (.builtin "BaseException.__getattribute__")))
  (f2:findIn K (.ref C) "__class__" = some (some (.builtin "object.__class__"))) (i:findIn K (.ref C) "__getattr__" = some none) (j:mroIn K C (.type "BaseException")=some true) (k:mroIn K C (.type "object")=some true)
  (q:Q (some (.ref C)) ⟨h,g,d,t+1,os⟩):wpAny (model prog w) A (getAttr? (.ref a) "__class__") Q E ⟨h,g,d,t,os⟩:=by
 have b:PySem.W.Looks (model prog w) h (typeOf (.ref a)) (.ref C):=f▸(PySem.W.Looks.ld e).andThen .now;have l:=PySem.W.looks_findIn (M:=model prog w) X f1;have L2:=PySem.W.looks_findIn (M:=model prog w) X i;have L3:=PySem.W.looks_findIn (M:=model prog w) X f2;have m:=PySem.W.looks_mroIn (M:=model prog w) X j;have c:=PySem.W.looks_mroIn (M:=model prog w) X k;have g3:=F.attrBase_ValueError.ga.bind (.ref a);unfold getAttr? getAttrBy? getAttrBy;refine az (wpAny_mkText (az (wpAny_attempt (wpAny_holding (az (b.at (az (l.at ?_))))))));show wpAny _ _ (getAttrByItsOwn _ _ _ _ _ _) _ _ _;unfold getAttrByItsOwn
 repeat (any_goals (first | assumption | with_reducible refine b.at ?_ | with_reducible refine L2.at ?_ | wp_step))
 refine codeAny_call_builtin F.attrBase_ValueError.ga.plain F.entry_bexc_ga ?_;have n:builtinKind "BaseException.__getattribute__" = some .slot:=by decide +kernel
 have p:splitId "BaseException.__getattribute__" = some ("BaseException","__getattribute__"):=by decide +kernel
 have r:=F.args_bexc_ga (.ref a) (.str "__class__" t);simp only[checkBuiltinCall,n,p];refine az ?_;unfold isInstance
 repeat (any_goals (first | assumption | with_reducible refine b.at ?_ | with_reducible refine m.at ?_ | wp_step))
 have s:typeOf (.builtin "object.__class__")=pure (.type "getset_descriptor"):=PySem.W.KF.type_class;have u:=F.slot_gs_get.lookup;have v:=F.slot_gs_set.lookup
 repeat (any_goals (first | assumption | with_reducible refine b.at ?_ | with_reducible refine L3.at ?_ | wp_step))
 refine codeAny_call_builtin PySem.W.KF.slot_gs.plain PySem.W.KF.entry_gs (PySem.W.KF.slot_gs.check _ _ _ _ _ _ _ _ PySem.W.KF.type_class (PySem.W.KF.args_gs _ _ _) ?_);unfold Builtin.«getset_descriptor.__get__» descrGet;rw[PySem.W.dga_obj];refine az (bp ?_);unfold descrGetter descrCheckInstance descrNameAndClass isInstance;simp only[PySem.W.KF.owner_class]
 repeat (any_goals (first | assumption | with_reducible refine b.at ?_ | with_reducible refine c.at ?_ | wp_step))
 refine⟨Code.quiet_builtin _ (by decide +kernel),codeAny_builtin PySem.W.KF.entry_class ?_⟩;unfold Builtin.«object.__class__» PySem.shownTypeOf
 repeat (any_goals (first | assumption | with_reducible refine b.at ?_ | with_reducible refine c.at ?_ | wp_step))
theorem LR(f:ot K C=true)(m:(clsIn K C).isSome=true):PySem.W.KitX K (.ref a) (.ref C) (fun h=>∃o,h.get? a=some o/\o.cls=.ref C):=by
 unfold ot at f;simp only[Bool.and_eq_true,beq_iff_eq] at f;obtain⟨⟨⟨⟨f1,f2⟩,p⟩,r⟩,u⟩:=f;obtain⟨z,b⟩:=Option.isSome_iff_exists.mp m;unfold clsIn at b;split at b
 ·rename_i B D G H l;refine⟨fun M h X ⟨o,c,i⟩=>i▸(PySem.W.Looks.ld c).andThen .now,fun M h X _=>?_,fun h v R x n S X j=>?_,fun {prog w A E Q s} X ⟨o,c,i⟩ k=>?_⟩
  ·intro I J L N k q;unfold isType loadHead;exact az (wpAny_loadPart (k _ _ (X _ _ l)) (bp q))
  ·refine Bool.eq_false_iff.mpr fun q=>?_;have e:C=v:=Value.ref.inj (beq_iff_eq.mp q);subst e;have y:=(X _ _ l).symm.trans j;cases y
  ·obtain⟨O,g,d,t,os⟩:=s;exact LQ X c i f1 f2 p r u k
 ·cases b
end
end L2.L3
namespace L2.L3
open PySem PySem.Spec PyProof.Rows
noncomputable def iJ:Value->V
 | .bool b=>.bl b
 | .int i _=>.int i
 | .str x _=>.str x
 | _=>.non
theorem By{v:V}{z:Value}(r:bj v z)(f:gY v=true):iJ z=v:=by
 cases v with
 | non=>cases r;rfl
 | bl b=>cases r;rfl
 | int i=>obtain⟨t,rfl⟩:=r;rfl
 | str i=>obtain⟨t,rfl⟩:=r;rfl
 | _=>cases f
theorem wn{A:Around}{s:Shared}{y:V}{u:Value}(e:bj y u)(f:gY y=true):∀{c:List V}{a:List Value},be c a->c.all gY=true->(∀z∈a,SeqAt.EqAt A s z u (ek (iJ z) y))/\a.map iJ=c
 | _,_,.nil,_=>⟨(fun _ h=>nomatch h),rfl⟩
 | _,_,.cons h t,b=>by
  rw[List.all_cons,Bool.and_eq_true] at b;obtain⟨g,h2⟩:=wn (A:=A) (s:=s) e f t b.2;refine⟨fun z d=>?_,?_⟩
  ·rcases List.mem_cons.mp d with rfl | d
   ·rw[By h b.1];exact Hg h e b.1 f
   ·exact g z d
  ·rw[List.map_cons,h2,By h b.1]
section
variable{X:Cx}{F:Fx}{E:Str->ak->Prop}{e a b c:Expr}{es:List Expr}{st:Stmt}{rest:List Stmt}{pos:Pos}{x:Str}
noncomputable def Bz:V->List V->Hp->VK->Prop:=fun x f H Q=>∃l d y,x=.ref l/\f=[y]/\H l=some (.lst d)/\d.all gY=true/\gY y=true/\Q (.int (d.countP fun z=>ek z y:Nat)) H
theorem BA:pZ X "list.count" Bz:=by
 intro f s Y H x w v B Q I g i h;obtain⟨l,j,y,rfl,rfl,k,m,o,q⟩:=h;cases g;obtain⟨u,rfl,ru⟩:=i.one;obtain⟨z,d,n,r,C,e⟩:=I.lstM k;obtain⟨t,h2⟩:=wn (A:=X.A.in1) (s:=s) ru o r m;refine call_meets F.slot_list_count ⟨_,e,rfl⟩ F.entry_list_count (F.args_list_count_2 _ _) (SeqAt.list_countAt l d.toArray n none #[] u fun z=>ek (iJ z) y) ⟨e,fun z p=>t z (by simpa using p),?_⟩;refine⟨.int _,H,I.tok _,⟨_,rfl⟩,?_⟩;have:d.countP (fun z=>ek (iJ z) y)=j.countP fun z=>ek z y:=by rw[<-h2,List.countP_map];rfl
 rw[this];exact q
noncomputable def BB:V->List V->Hp->VK->Prop:=fun x f H Q=>∃l d y,x=.ref l/\f=[y]/\H l=some (.lst d)/\d.all gY=true/\gY y=true/\(d.findIdx fun z=>ek z y)<d.length/\Q (.int (d.findIdx fun z=>ek z y:Nat)) H
theorem LS:pZ X "list.index" BB:=by
 intro k s Y H x J v L Q I o p h;obtain⟨l,f,y,rfl,rfl,t,B,C,g,q⟩:=h;cases o;obtain⟨u,rfl,ru⟩:=p.one;obtain⟨z,d,n,r,M,e⟩:=I.lstM t;obtain⟨G,h2⟩:=wn (A:=X.A.in1) (s:=s) ru C r B;have gt:∀m (i:m<d.length),ek (iJ d[m]) y=ek (f[m]'(by omega)) y:=fun m i=>by
  have:f[m]'(by omega)=iJ d[m]:=by subst h2;simp
  rw[this]
 have big:((f.findIdx fun z=>ek z y:Nat):Int)<2 ^ 63 - 1:=by
  have:sizeLine<2 ^ 62:=by decide
  omega
 refine call_meets F.slot_list_index ⟨_,e,rfl⟩ F.entry_list_index (F.args_list_index_2 _ _) (SeqAt.list_indexAt l d.toArray n none #[] u (fun z=>ek (iJ z) y) (f.findIdx fun z=>ek z y) (by rw[List.size_toArray];omega) big ?_ ?_) ⟨e,fun z D=>G z (by simpa using D),?_⟩
 ·show ek (iJ d[f.findIdx fun z=>ek z y]) y=true;rw[gt _ (by omega)];exact List.findIdx_getElem (w:=g)
 ·intro m i h;have j:m<d.length:=by simpa using i
  show ek (iJ d[m]) y=false;rw[gt m j];have:=List.not_of_lt_findIdx h;simpa using this
 ·exact⟨.int _,H,I.tok _,⟨_,rfl⟩,q⟩
@[simp] noncomputable def BC:ai->Option (List PyData)
 | .dat (.list ds)=>some ds
 | .own _ (.l ds)=>some ds
 | _=>none
@[simp] noncomputable def lg(U:ak)(i:Nat):Option (List PyData):=match U[i]? with
 | some (some c)=>BC c
 | _=>none
theorem BD{K:Frag}{H:Hp}{Y:St}{U:ak}{O:List Addr}{i:Nat}{k:List PyData}(st:aC K F H Y U O)(h:lg U i=some k):∃p j,Y[i]? = some (some (.ref p))/\H p=some (.lst j)/\aK (aw O H) j k:=by
 unfold lg at h;split at h
 ·rename_i c e;unfold BC at h;split at h
  ·cases h;obtain⟨v,d,hd⟩:=st.dat e;obtain⟨p,f,rfl,l,g⟩:=hd.lst_inv;exact⟨p,f,d,(cK l).1,g⟩
  ·cases h;obtain⟨p,n,d,⟨_,f,m,g⟩,_⟩:=st.box e;exact⟨p,f,d,m,g⟩
  ·cases h
 ·cases h
@[simp] noncomputable def ow:PyData->Option V
 | .none=>some .non
 | .bool b=>some (.bl b)
 | .int i=>some (.int i)
 | .str x=>some (.str x)
 | _=>none
@[simp] noncomputable def mz:List PyData->Option (List V)
 | []=>some []
 | d::r=>(match ow d,mz r with | some v,some l=>some (v::l) | _,_=>none)
theorem wo{G:Hp}{v w:V}{d:PyData}(h:DV G v d)(e:ow d=some w):v=w/\gY v=true:=by
 cases d with
 | none=>cases e;rw[h.non_inv];exact⟨rfl,rfl⟩
 | bool b=>cases e;rw[h.bl_inv];exact⟨rfl,rfl⟩
 | int b=>cases e;rw[h.int_inv];exact⟨rfl,rfl⟩
 | str b=>cases e;rw[h.str_inv];exact⟨rfl,rfl⟩
 | _=>cases e
theorem wq{G:Hp}:∀{f i:List V}{g:List PyData},aK G f g->mz g=some i->f=i/\f.all gY=true
 | [],_,[],.nil,e=>by cases e;exact⟨rfl,rfl⟩
 | v::f,_,d::g,.cons h t,e=>by
  unfold mz at e;cases h1:ow d with
  | none=>rw[h1] at e;cases e
  | some w=>
   cases h2:mz g with
   | none=>rw[h1,h2] at e;cases e
   | some l=>rw[h1,h2] at e;cases e;obtain⟨j,f1⟩:=wo h h1;obtain⟨k,f2⟩:=wq t h2;exact⟨by rw[j,k],by rw[List.all_cons,f1,f2];rfl⟩
@[simp] noncomputable def mB(f:List PyData)(y:PyData):Option PyData:=match mz f,ow y with
 | some d,some w=>some (.int (d.countP fun z=>ek z w:Nat))
 | _,_=>none
@[simp] noncomputable def qX(f:List PyData)(y:PyData):Option PyData:=match mz f,ow y with
 | some d,some w=>if (d.findIdx fun z=>ek z w)<d.length then some (.int (d.findIdx fun z=>ek z w:Nat)) else none
 | _,_=>none
@[simp] noncomputable def BE(g:List PyData->PyData->Option PyData)(i:Nat)(d:PyData):XM PyData:=fun U=>lift (match lg U i with
 | some ds=>g ds d
 | none=>none) U
@[simp] noncomputable def ox(g:List PyData->PyData->Option PyData)(i:Nat)(m:XM PyData):XM PyData:=fun U=>match lg U i with
 | some _=>(m U).bind (BE g i)
 | none=>.bad
theorem wt{i:Nat}{m:XM PyData}{s apos f:Pos}{I:Str}{id:String}{r:V->List V->Hp->VK->Prop}{g:List PyData->PyData->Option PyData}(slot:Slot "list" I id)(J:typeOf (.builtin id)=pure (.type "method_descriptor"))(hm:pZ X id r)
  (hg:∀G l Z D y d z H Q,H l=some (.lst Z)->aK G Z D->DV G y d->g D d=some z->(∀u,DV G u z->Q u H)->r (.ref l) [y] H Q)
  (hv:PE X (.Name x s) (cf i)) (he:FE X F E e m)
  (j:attributeBase (.Name x s) I X.env (eval (.Name x s) X.env)=eval (.Name x s) X.env:=by rfl)
  (t:((backTo f (starEach [e] X.env)).all (fun x=>!x.1)&&(backToKw f (keywordEach [] X.env)).all (fun x=>x.1.isSome)&&decide (([e]:List Expr).length+([]:List Keyword).length+(if ([]:List Keyword).isEmpty then 0 else 1)<30))=true:=by rfl)
  (n:(apos.endLine==f.line)=true:=by rfl) (hs:starEach [e] X.env=(false,eval e X.env)::starEach [] X.env:=by rfl) (h:(backTo f (starEach [] X.env)).any (·.1)=false:=by rfl) :
  FE X F E (.Call (.Attribute (.Name x s) I apos) [e] [] f) (ox g i m):=
 ⟨aH,(qa PySem.F.plainAttrs_list slot J hm hv (da he.pe dQ hs) j t n hs h).imp fun Y H Q ⟨U,O,st,q⟩=>by
  unfold wp ox at q;cases L:lg U i with
  | none=>rw[L] at q;exact q.elim
  | some a0=>
   rw[L] at q;obtain⟨p,M,v,N,_⟩:=BD st L;refine⟨_,v,.inl ⟨rfl,M,.of N⟩,U,O,st,aH _ _ _ (fun d R q1 w H1 O1 A s1 d1=>?_) (bO (m:=m) (k:=BE g i) q)⟩;obtain⟨z,C,q2⟩:=cV (o:=match lg R i with | some D=>g D d | none=>none) (U:=R) (E:=E) q1;cases h1:lg R i with
   | none=>rw[h1] at C;cases C
   | some a1=>
    rw[h1] at C;obtain⟨p',a2,B,S,T⟩:=BD A h1;rw[v] at B;cases B;exact hg _ _ _ _ _ _ _ _ _ S T d1 C fun u hu=>q2 u H1 O1 A s1 hu⟩
theorem BF:∀G l f g y d z H Q,H l=some (.lst f)->aK G f g->DV G y d->mB g d=some z->(∀u,DV G u z->Q u H)->Bz (.ref l) [y] H Q:=fun G l f g y d z H Q h i j e q=>by
 unfold mB at e;split at e
 ·rename_i k w h1 h2;cases e;obtain⟨rfl,f1⟩:=wq i h1;obtain⟨rfl,f2⟩:=wo j h2;exact⟨l,f,y,rfl,rfl,h,f1,f2,q _ (.int _)⟩
 ·cases e
theorem LU:∀G l f g y d z H Q,H l=some (.lst f)->aK G f g->DV G y d->qX g d=some z->(∀u,DV G u z->Q u H)->BB (.ref l) [y] H Q:=fun G l f g y d z H Q h i j e q=>by
 unfold qX at e;split at e
 ·rename_i m w h1 h2;split at e
  ·rename_i k;cases e;obtain⟨rfl,f1⟩:=wq i h1;obtain⟨rfl,f2⟩:=wo j h2;exact⟨l,f,y,rfl,rfl,h,f1,f2,k,q _ (.int _)⟩
  ·cases e
 ·cases e
end
section
variable{X:Cx}{F:Fx}{E:Str->ak->Prop}{e a b c:Expr}{es:List Expr}{st:Stmt}{rest:List Stmt}{pos:Pos}{x:Str}
@[simp] noncomputable def jv(U:ak)(i:Nat):Option (Bool×List PyData):=match U[i]? with
 | some (some (.own io (.l ds)))=>some (io,ds)
 | _=>none
theorem wu{U:ak}{i:Nat}{io:Bool}{d:List PyData}(h:jv U i=some (io,d)):U[i]? = some (some (.own io (.l d))):=by
 unfold jv at h;split at h
 ·rename_i e;cases h;exact e
 ·cases h
@[simp] noncomputable def wv(i:Nat)(d:PyData):SM:=fun f=>match jv f i,d with
 | some (io,ds),.list g=>if ds.length+g.length<=sizeLine then .nx (f.set i (some (.own io (.l (ds++g))))) else .bad
 | _,_=>.bad
@[simp] noncomputable def oy(i:Nat)(m:XM PyData):SM:=fun U=>match jv U i with
 | some _=>dM (m U) (wv i)
 | none=>.bad
theorem ww{i:Nat}{m:XM PyData}{n apos g:Pos}(Z:PE X (.Name x n) (cf i))(he:FE X F E e m)(B:swapsWith (.Call (.Attribute (.Name x n) "extend" apos) [e] [] g) none pos.line X.env=pure false:=by rfl)
  (r:attributeBase (.Name x n) "extend" X.env (eval (.Name x n) X.env)=eval (.Name x n) X.env:=by rfl)
  (u:((backTo g (starEach [e] X.env)).all (fun x=>!x.1)&&(backToKw g (keywordEach [] X.env)).all (fun x=>x.1.isSome)&&decide (([e]:List Expr).length+([]:List Keyword).length+(if ([]:List Keyword).isEmpty then 0 else 1)<30))=true:=by rfl)
  (t:(apos.endLine==g.line)=true:=by rfl) (S:starEach [e] X.env=(false,eval e X.env)::starEach [] X.env:=by rfl) (j:(backTo g (starEach [] X.env)).any (·.1)=false:=by rfl) :
  FS X F E (.Expr (.Call (.Attribute (.Name x n) "extend" apos) [e] [] g) pos) (oy i m):=
 (pO (qa PySem.F.plainAttrs_list PySem.F.slot_list_extend PySem.F.type_list_extend Hq Z (da he.pe dQ S) r u t S j) B).imp fun D Y H ⟨U,O,DD,st,q,f⟩=>by
  unfold bV oy at q;cases C:jv U i with
  | none=>rw[C] at q;exact q.elim
  | some p0=>
   obtain⟨a0,a1⟩:=p0;rw[C] at q;obtain⟨p,fp,v,⟨_,xs,hH,_⟩,_,_⟩:=st.box (wu C);refine⟨_,v,.inl ⟨rfl,xs,.of hH⟩,U,O,st,aH _ _ _ (fun d U1 h w H1 O1 I s1 d1=>?_) (fk (m:=m) (k:=wv i) q)⟩;unfold bV wv at h;cases h1:jv U1 i with
   | none=>rw[h1] at h;exact h.elim
   | some n=>
    obtain⟨a2,y⟩:=n;rw[h1] at h;cases d with
    | list T=>
     simp only at h;obtain⟨p',a3,z,⟨e1,J,L,hd⟩,hO,up⟩:=I.box (wu h1);rw[v] at z;cases z;subst e1;obtain⟨b,M,rfl,hb,A⟩:=d1.lst_inv
     by_cases N:y.length+T.length<=sizeLine
     ·rw[if_pos N] at h;refine⟨p,b,J,M,rfl,rfl,L,(cK hb).1,by rw[hd.length,A.length];exact N,?_⟩;obtain⟨O2,Q,s2,_⟩:=up (aN H1 p (.lst (J++M))) (.l (y++T)) [p] (fun c o R e=>by rw[bw (by simpa using R)];exact e) (by simp) (fun c R=>.inl R) (fun G O' s hG _=>by
       subst hG;exact⟨s.hid,rfl,J++M,cn,(aK.mono s.hid hd).append (aK.mono s.hid A)⟩)
      exact f.nx _ _ _ _ Q (s1.trans s2) h
     ·rw[if_neg N] at h;exact h.elim
    | _=>exact h.elim
noncomputable def LV(K:Frag):List V->Hp->VK->Prop:=fun d H Q=>∃a φ C w b,d=[.ref a,w]/\H a=some (.ext φ)/\(∀h,φ h->∃o,h.get? a=some o/\o.cls=.ref C)/\ot K C=true/\(clsIn K C).isSome=true/\(∀u,bj w u->kitOne K (.ref C) u=some b)/\Q (.bl b) H
theorem BG:gj X (.builtin "isinstance") (LV X.K):=by
 intro d s Y H l m Q I r h;obtain⟨a,φ,C,w,b,rfl,f,g,at_,cl,e,q⟩:=h;obtain⟨u,n,rfl,i,j⟩:=gW r;cases i;obtain⟨p,_,_⟩:=(show cw X.prog X.w H s.heap a (.ext φ) from I.hok a _ f)
 exact kia_one (LR at_ cl) I.kIn (g _ p) (e _ j) (fun z=>nomatch z) fun k=>⟨.bl b,H,I.tok k,rfl,q⟩
theorem BH{K:Frag}{C:Addr}{l:List Value}{n:String}(h:excIn K C l n=true):(clsIn K C).isSome=true:=by
 unfold excIn at h;unfold clsIn;split at h
 ·rename_i e;rw[e];rfl
 ·cases h
@[simp] noncomputable def mC(U:ak)(i:Nat):Option Str:=match U[i]? with
 | some (some (.exc c))=>some c
 | _=>none
theorem BI{U:ak}{i:Nat}{c:Str}(h:mC U i=some c):U[i]? = some (some (.exc c)):=by
 unfold mC at h;split at h
 ·rename_i e;cases h;exact e
 ·cases h
@[simp] noncomputable def fm(i:Nat)(l:List Str)(cls:Str):XM PyData:=fun U=>match mC U i with
 | some c=>if c∈l/\cls∈l then .ok (.bool (c==cls)) U else .bad
 | none=>.bad
@[simp] noncomputable def wx(i:Nat)(l:List Str):XM PyData:=fun U=>match mC U i with
 | some c=>if c∈l then .ok (.bool true) U else .bad
 | none=>.bad
theorem BJ{K:Frag}{m:Str->Option Value}{H:Hp}{Y:St}{U:ak}{O:List Addr}{i:Nat}{c:Str}{C:Addr}(st:aC K F H Y U O)(h:U[i]? = some (some (.exc c)))(f:EC K m c C):∃a φ,Y[i]? = some (some (.ref a))/\H a=some (.ext φ)/\∀h,φ h->∃o,h.get? a=some o/\o.cls=.ref C:=by obtain⟨W,g,rfl⟩:=st;obtain⟨v,n,h1,h2,a,φ,rfl,h3,j⟩:=g.at_ i _ h;refine⟨a,φ,h1,(cK h3).1,fun h p=>?_⟩;obtain⟨q,o,d,k,l⟩:=j h p;rw[f.ns] at d;cases d;exact⟨o,k,l⟩
theorem gb{l:List Str}{D:Addr}{i:Nat}{cls:Str}{p f d:Pos}(t:XT X.K X.mg l D)(h:Gl X "isinstance")(j:X.mg "isinstance" = none)(B:PE X (.Name x f) (cf i))(k:Gl X cls)(m:cls∈l)(n:(cls==("__debug__":Str))=false:=by decide)
  (w:starEach [.Name x f,.Name cls d] X.env=(false,eval (.Name x f) X.env)::starEach [.Name cls d] X.env:=by rfl) (o:starEach [.Name cls d] X.env=(false,eval (.Name cls d) X.env)::starEach [] X.env:=by rfl) (r:(backTo pos (starEach [.Name cls d] X.env)).any (·.1)=false:=by rfl) :
  FE X F E (.Call (.Name "isinstance" p) [.Name x f,.Name cls d] [] pos) (fm i l cls):=by
 obtain⟨y,z,_⟩:=t.at_ m;refine⟨aH,(kL BG h j (show bootBuiltins "isinstance" = some (.builtin "isinstance") by decide +kernel) (da B (da (nE (v:=.ref y) k z.mg rfl n) dQ o) w) (by decide) (by decide) w r).imp fun Y H Q ⟨U,O,st,q⟩=>?_⟩;unfold wp fm at q;cases s:mC U i with
 | none=>rw[s] at q;exact q.elim
 | some c=>
  rw[s] at q
  by_cases g:c∈l/\cls∈l
  ·simp only[if_pos g] at q;obtain⟨C,A,_,at_,_,G⟩:=t.at_ g.1;obtain⟨D2,I,M,J⟩:=G cls g.2;have L:D2=y:=by have:=z.mg.symm.trans I;cases this;rfl
   subst L;obtain⟨a,φ,h1,h2,h3⟩:=BJ st (BI s) A;exact⟨_,h1,a,φ,C,.ref D2,_,rfl,h2,h3,at_,BH A.ex,fun u ru=>by cases ru;exact J,q _ H O st .refl (.bl _)⟩
  ·simp only[if_neg g] at q
theorem LW{l:List Str}{D:Addr}{i:Nat}{p f d:Pos}(w:XT X.K X.mg l D)(g:Gl X "isinstance")(h:X.mg "isinstance" = none)(y:PE X (.Name x f) (cf i))(j:Gl X "ValueError")(k:X.mg "ValueError" = none)
  (s:starEach [.Name x f,.Name "ValueError" d] X.env=(false,eval (.Name x f) X.env)::starEach [.Name "ValueError" d] X.env:=by rfl) (m:starEach [.Name "ValueError" d] X.env=(false,eval (.Name "ValueError" d) X.env)::starEach [] X.env:=by rfl) (n:(backTo pos (starEach [.Name "ValueError" d] X.env)).any (·.1)=false:=by rfl) :
  FE X F E (.Call (.Name "isinstance" p) [.Name x f,.Name "ValueError" d] [] pos) (wx i l):=by
 refine⟨aH,(kL BG g h (show bootBuiltins "isinstance" = some (.builtin "isinstance") by decide +kernel) (da y (da (im (v:=.ty "ValueError") j k (show bootBuiltins "ValueError" = some (.type "ValueError") by decide +kernel) rfl) dQ m) s) (by decide) (by decide) s n).imp fun Y H Q ⟨U,O,st,q⟩=>?_⟩;unfold wp wx at q;cases o:mC U i with
 | none=>rw[o] at q;exact q.elim
 | some c=>
  rw[o] at q
  by_cases r:c∈l
  ·simp only[if_pos r] at q;obtain⟨C,t,_,at_,z,A⟩:=w.at_ r;obtain⟨a,φ,h1,h2,h3⟩:=BJ st (BI o) t;exact⟨_,h1,a,φ,C,.ty "ValueError",_,rfl,h2,h3,at_,BH t.ex,fun u ru=>by cases ru;exact z,q _ H O st .refl (.bl _)⟩
  ·simp only[if_neg r] at q
end
section
variable{X:Cx}{F:Fx}{E:Str->ak->Prop}{e a b c:Expr}{es:List Expr}{st:Stmt}{rest:List Stmt}{pos:Pos}{x:Str}{ma mb mc:XM PyData}
@[simp] noncomputable def dN:=gI fun i j=>.int (i+j)
@[simp] noncomputable def jc:=gI fun i j=>.int (i - j)
@[simp] noncomputable def mD:=mm jP fun i j=>.int (i * j)
@[simp] noncomputable def BK:=mm qG fun i j=>.int (i / j)
@[simp] noncomputable def mE:=mm oh fun i j=>.int (i % j)
@[simp] noncomputable def mF:=gI fun i j=>.bool (decide (i<j))
@[simp] noncomputable def qY:=gI fun i j=>.bool (decide (i<=j))
@[simp] noncomputable def lh:=gI fun i j=>.bool (decide (j<i))
theorem eG(d:FE X F E a ma)(f:FE X F E b mb):FE X F E (.BinOp a .Add b pos) (ao dN ma mb):=fi jO (Ks d f)
theorem mG(d:FE X F E a ma)(f:FE X F E b mb):FE X F E (.BinOp a .Sub b pos) (ao jc ma mb):=fi jO (Kt d f)
theorem oz(d:FE X F E a ma)(f:FE X F E b mb):FE X F E (.BinOp a .Mult b pos) (ao mD ma mb):=fi (qF KZ) (Ku d f)
theorem LX(d:FE X F E a ma)(f:FE X F E b mb):FE X F E (.BinOp a .FloorDiv b pos) (ao BK ma mb):=fi (qF La) (Kv d f)
theorem oA(d:FE X F E a ma)(f:FE X F E b mb):FE X F E (.BinOp a .Mod b pos) (ao mE ma mb):=fi (qF Lb) (Kw d f)
theorem li(d:FE X F E a ma)(f:FE X F E b mb):FE X F E (.BinOp a .Add b pos) (ao iA ma mb):=fi Ld (Kx d f)
theorem wy(d:FE X F E a ma)(f:FE X F E b mb):FE X F E (.BinOp a .Add b pos) (ao jQ ma mb):=fi Le (KQ d f)
theorem LY(d:FE X F E a ma)(f:FE X F E b mb):FE X F E (.BinOp a .Mult b pos) (ao oi ma mb):=fi Lf (KU d f)
theorem BL(d:FE X F E a ma)(f:FE X F E b mb):FE X F E (.Compare a [.Lt] [b] pos) (ao mF ma mb):=fi jO (Ky d f)
theorem LZ(d:FE X F E a ma)(f:FE X F E b mb):FE X F E (.Compare a [.LtE] [b] pos) (ao qY ma mb):=fi jO (Kz d f)
theorem Ma(d:FE X F E a ma)(f:FE X F E b mb):FE X F E (.Compare a [.Gt] [b] pos) (ao lh ma mb):=fi jO (KA d f)
theorem BM(d:FE X F E a ma)(f:FE X F E b mb):FB X F E (.Compare a [.Lt] [b] pos) (bo (ao mF ma mb)):=kS jO (KB d f)
theorem Mb(d:FE X F E a ma)(f:FE X F E b mb):FB X F E (.Compare a [.LtE] [b] pos) (bo (ao qY ma mb)):=kS jO (KC d f)
theorem qZ(d:FE X F E a ma)(f:FE X F E b mb):FB X F E (.Compare a [.Gt] [b] pos) (bo (ao lh ma mb)):=kS jO (KD d f)
theorem kb(d:X.A.units+64<cLine)(f:FE X F E a ma)(g:FE X F E b mb):FE X F E (.Compare a [.Eq] [b] pos) (ao (aP false) ma mb):=fi vN (KE d f g)
theorem fJ(d:X.A.units+64<cLine)(f:FE X F E a ma)(g:FE X F E b mb):FB X F E (.Compare a [.Eq] [b] pos) (bo (ao (aP false) ma mb)):=kS vN (KG d f g)
theorem lm(d:X.A.units+64<cLine)(f:FE X F E a ma)(g:FE X F E b mb):FB X F E (.Compare a [.NotEq] [b] pos) (bo (ao (aP true) ma mb)):=kS vN (KH d f g)
theorem Mc(d:FE X F E a ma)(f:FE X F E b mb):FE X F E (.Compare a [.Is] [b] pos) (ao mq ma mb):=fi AV (KJ d f)
theorem wz(d:FE X F E a ma)(f:FE X F E b mb):FE X F E (.Compare a [.IsNot] [b] pos) (ao iz ma mb):=fi AW (mj zb Aa d f (bA _))
theorem Md(d:FE X F E a ma)(f:FE X F E b mb):FB X F E (.Compare a [.Is] [b] pos) (bo (ao mq ma mb)):=kS AV (KL d f)
theorem wA(d:FE X F E a ma)(f:FE X F E b mb):FB X F E (.Compare a [.IsNot] [b] pos) (bo (ao iz ma mb)):=kS AW (KM d f)
theorem Me(d:FE X F E a ma)(f:FE X F E b mb)(g:FE X F E c mc)(h:lastMarks [.LtE,.LtE] [b,c]=false:=by with_unfolding_all rfl):FE X F E (.Compare a [.LtE,.LtE] [b,c] pos) (vP (fun i j=>decide (i<=j)) (fun i j=>decide (i<=j)) ma mb mc):=Lh (KN d f g h)
@[simp] noncomputable def aY:PyData->PyData->Option PyData:=fun x y=>match x,y with
 | .tuple ds,.int i=>bI ds i
 | .list ds,.int i=>bI ds i
 | _,_=>none
noncomputable def BN:D2:=fun x y Q=>Ab x y Q\/Ac x y Q
theorem Mf{K:Frag}:eN (fun x y H Q=>vb K x y H Q\/va K x y H Q) BN where
 mn:=fun x y Q Q' k h=>h.imp (Ae (K:=K).mn x y Q Q' k) (Af (K:=K).mn x y Q Q' k)
 ok:=fun O H u v x y Q hO h1 h2 h=>h.imp (Ae.ok O H u v x y Q hO h1 h2) (Af.ok O H u v x y Q hO h1 h2)
theorem Mg:F2 BN aY:=fun x y d Q e q=>by
 unfold aY at e;split at e
 ·exact .inl ⟨_,_,_,rfl,rfl,e,q⟩
 ·exact .inr ⟨_,_,_,rfl,rfl,e,q⟩
 ·cases e
theorem bd(d:FE X F E a ma)(f:FE X F E b mb)(g:nJ b:=by intro _ _;rfl):FE X F E (.Subscript a b pos) (ao aY ma mb):=fi Mg (Iu (je.or GY vc) Mf d f g)
end
noncomputable def wB:Expr->Bool
 | .Starred ..=>true
 | _=>false
theorem wC{e:Expr}{b:List Expr}{a:Env}(h:wB e=false):starEach (e::b) a=(false,eval e a)::starEach b a:=by cases e<;>first | rfl | cases h
section
variable{X:Cx}{F:Fx}{E:Str->ak->Prop}{e a b c:Expr}{es:List Expr}{pos:Pos}{x:Str}
theorem ag{d:XM PyData}{f:XM (List PyData)}(g:FE X F E e d)(h:FA X F E es f)(i:wB e=false:=by rfl):FA X F E (e::es) (af d f):=Li g h (wC i)
theorem av{d:XM PyData}{f:XM (List AX)}(g:FE X F E e d)(h:FX X F E es f)(i:wB e=false:=by rfl):FX X F E (e::es) (au d f):=Lo g h (wC i)
theorem bf{p:Pos}{j:Nat}{d:XM (List AX)}(f:PE X (.Name x p) (cf j))(g:FX X F E es d):FX X F E (.Name x p::es) (aS j d):=Lp f g (wC rfl)
end
section
variable{X:Cx}{F:Fx}{E:Str->ak->Prop}{e a b c:Expr}{es:List Expr}{pos:Pos}{x:Str}{ma mb:XM PyData}
@[simp] noncomputable def BO:=mm qH fun i j=>.int (i ^ j.toNat)
theorem Mh(d:FE X F E a ma)(f:FE X F E b mb):FE X F E (.BinOp a .Pow b pos) (ao BO ma mb):=fi (qF Lc) (KR d f)
end
section
variable{X:Cx}{F:Fx}{E:Str->ak->Prop}{e a b c:Expr}{es:List Expr}{st:Stmt}{pos:Pos}{x:Str}{ma mb:XM PyData}
@[simp] noncomputable def ra:SM:=fun _=>.bad
theorem wD:FS X F E st ra:=fun _ _ _ _ _ _ ⟨_,_,_,_,q,_⟩=>q.elim
end
noncomputable def bJ(f:Str)(v:Fl):List (Str×Fl)->List (Str×Fl)
 | []=>[(f,v)]
 | (g,x)::r=>if g=f then(g,v)::r else(g,x)::bJ f v r
noncomputable def fo:Option Fl->Bool
 | none=>true
 | some (.d _)=>true
 | _=>false
noncomputable def bT(C:Addr)(U:ak)(i:Nat):Option (Bool×List (Str×Fl)):=match U[i]? with
 | some (some (.own io (.o a fs)))=>if a = C then some (io,fs) else none
 | _=>none
theorem iK{C:Addr}{U:ak}{i:Nat}{io:Bool}{fs:List (Str×Fl)}(h:bT C U i=some (io,fs)):U[i]? = some (some (.own io (.o C fs))):=by
 unfold bT at h;split at h
 ·rename_i e;split at h
  ·rename_i a;cases h;rw[e,a]
  ·cases h
 ·cases h
section
variable{G H:Hp}
theorem oB{b:List (Str×V)}{fs:List (Str×Fl)}{a:List (List Addr)}(h:bt G H b fs a)(f:Str):(b.lookup f=none/\fs.lookup f=none)\/∃v x c,b.lookup f=some v/\fs.lookup f=some x/\fR G H v x c/\c∈a:=by
 induction h with
 | nil=>exact .inl ⟨rfl,rfl⟩
 | @cons n v x c b fs a h1 h2 g=>
  by_cases e:f=n
  ·subst e;exact .inr ⟨v,x,c,by simp[List.lookup],by simp[List.lookup],h1,List.mem_cons_self⟩
  ·have i:(f==n)=false:=by simpa using e
   rw[List.lookup_cons,List.lookup_cons,i];rcases g with q | ⟨j,k,d,l,m,o,p⟩
   ·exact .inl q
   ·exact .inr ⟨j,k,d,l,m,o,bY _ p⟩
end
theorem BP{α:Type}:∀{W:List (List α)}{i:Nat}{l:List α},W.flatten.Nodup->W[i]? = some l->l.Nodup
 | w::W,0,l,nd,h=>by simp only[List.getElem?_cons_zero,Option.some.injEq] at h;subst h;rw[List.flatten_cons] at nd;exact(List.nodup_append.mp nd).1
 | w::W,i+1,l,nd,h=>by rw[List.flatten_cons] at nd;exact BP (List.nodup_append.mp nd).2.1 (by simpa using h)
theorem aC.boxN{K:Frag}{F:Fx}{H:Hp}{Y:St}{U:ak}{O:List Addr}(st:aC K F H Y U O){i:Nat}{io:Bool}{b:Bx}(e:U[i]? = some (some (.own io b))):∃a n,Y[i]? = some (some (.ref a))/\fe (aw O H) H a b n/\(∀c∈n,c∈O)/\n.Nodup/\
  ∀(g:Hp) (w:Bx) (f:List Addr),(∀c o,c∉n->H c=some o->g c=some o)->f.Nodup->(∀c∈f,c∈n\/H c=none)->(∀G,(∀p,aL O H p g->G=aw p g->(∀c∈f,c∈p)->bR (aw O H) G/\fe G g a w f))->
   ∃p,aC K F g Y (U.set i (some (.own io w))) p/\aL O H p g/\(∀c∈p,c∈f\/c∈O):=by
 obtain⟨W,st,rfl⟩:=st;obtain⟨v,n,h1,h2,a,rfl,h3⟩:=st.at_ i _ e;have C:i<U.length:=(List.getElem?_eq_some_iff.mp e).1;have x:i<W.length:=by rw[st.lw];exact C
 refine⟨a,n,h1,h3,fun c d=>bi _ (bL h2 d),(BP (List.nodup_append.mp st.nd).1 h2),fun g w f keep R y I=>?_⟩;have s:W.flatten.Nodup:=(List.nodup_append.mp st.nd).1;have D:∀c∈n,c∉F.O₀:=fun c d z=>(List.nodup_append.mp st.nd).2.2 c (bL h2 d) c z rfl;have J:∀j l c,j≠i->W[j]? = some l->c∈l->g c=H c:=fun j l c r m d=>by obtain⟨o,k,_⟩:=st.live c (bi _ (bL m d));rw[k];exact keep c o (fun z=>jJ s m h2 r d z) k
 have L:∀c∈F.O₀,g c=H c:=fun c d=>by obtain⟨o,k,_⟩:=st.live c (bh _ d);rw[k];exact keep c o (fun z=>D c z d) k
 have ap:∀c∈f,(∀j l,j≠i->W[j]? = some l->c∉l)/\c∉F.O₀:=fun c d=>by
  rcases y c d with q | q
  ·exact⟨fun j l r m z=>jJ s h2 m (Ne.symm r) q z,D c q⟩
  ·refine⟨fun j l _ m z=>?_,fun z=>?_⟩
   ·obtain⟨o,k,_⟩:=st.live c (bi _ (bL m z));rw[q] at k;cases k
   ·obtain⟨o,k,_⟩:=st.live c (bh _ z);rw[q] at k;cases k
 have frz:∀c o,c∉W.flatten++F.O₀->H c=some o->g c=some o:=fun c o d M=>keep c o (fun z=>d (bi _ (bL h2 z))) M;have A:aL (W.flatten++F.O₀) H ((W.set i f).flatten++F.O₀) g:=⟨frz,fun c h=>by
  rcases List.mem_append.mp h with h | h
  ·rcases ff h with h | ⟨j,l,_,m,B⟩
   ·exact(y c h).imp (fun z=>bi _ (bL h2 z)) id
   ·exact .inl (bi _ (bL m B))
  ·exact .inl (bh _ h)⟩
 have t:∀c∈f,c∈(W.set i f).flatten++F.O₀:=fun c d=>bi _ (zX x d);have u:=(I _ _ A rfl t).2;obtain⟨E,N⟩:=st.put (H':=g) (i:=i) (v:=.ref a) (c:=.own io w) (fp:=f) C J L frz R ap (fun c d=>(y c d).imp (fun z=>bL h2 z) id) (fun c d=>u.live c d) (fun _=>⟨a,rfl,u⟩) (fun S z=>by cases z;have:=st.io i b e;rw[h1] at this;exact(Option.some.inj (Option.some.inj this)));have Q:Y.set i (some (.ref a))=Y:=by
  apply List.ext_getElem?;intro j
  by_cases r:j=i
  ·subst r;rw[List.getElem?_set_self (List.getElem?_eq_some_iff.mp h1).1,h1]
  ·rw[List.getElem?_set_ne (Ne.symm r)]
 rw[Q] at E;refine⟨_,⟨_,E,rfl⟩,N,fun c d=>?_⟩;rcases List.mem_append.mp d with d | d
 ·rcases ff d with d | ⟨j,l,_,m,B⟩
  ·exact .inl d
  ·exact .inr (bi _ (bL m B))
 ·exact .inr (bh _ d)
theorem bt.len{G H:Hp}{b:List (Str×V)}{fs:List (Str×Fl)}{a:List (List Addr)}(h:bt G H b fs a):b.length=fs.length:=by
 induction h with
 | nil=>rfl
 | cons _ _ c=>simp[c]
theorem bt.putD{G r H p:Hp}{s:List (Str×V)}{fs:List (Str×Fl)}{a:List (List Addr)}{f:Str}{v:V}{d:PyData}(h:bt G H s fs a)(i:fo (fs.lookup f)=true)(hd:DV r v d)(g:bR G r)(k:∀c∈a.flatten,p c=H c) :
  bt r p (cG f v s) (bJ f (.d d) fs) (if (fs.lookup f).isSome=true then a else a++[[]]):=by
 induction h with
 | nil=>exact .cons ⟨rfl,hd⟩ .nil
 | @cons n w x D s fs a h1 h2 u=>
  unfold cG bJ
  by_cases e:n=f
  ·subst e;have A:List.lookup n ((n,x)::fs)=some x:=by simp[List.lookup]
   rw[A] at i ⊢;rw[if_pos rfl,if_pos rfl];have t:=h2.keep (H':=p) (fun c j=>k c (by simp only[List.flatten_cons,List.mem_append];exact .inr j)) g;cases x with
   | d y=>obtain⟨rfl,_⟩:=h1;exact .cons ⟨rfl,hd⟩ t
   | l ds=>cases i
   | m E B=>cases i
  ·have C:(f==n)=false:=by simpa using fun z=>e z.symm
   rw[List.lookup_cons,C] at i ⊢;rw[if_neg e,if_neg e];have o:=h1.keep (H':=p) (fun c j=>k c (by simp only[List.flatten_cons,List.mem_append];exact .inl j)) g;have b:=u i fun c j=>k c (by simp only[List.flatten_cons,List.mem_append];exact .inr j);simp only at b ⊢;split
   ·rename_i q;rw[if_pos q] at b;exact .cons o b
   ·rename_i q;rw[if_neg q] at b;exact .cons o b
section
variable{X:Cx}{F:Fx}{E:Str->ak->Prop}{e a b c:Expr}{es:List Expr}{st:Stmt}{pos p1:Pos}{x f:Str}{C:Addr}{i:Nat}
noncomputable def cu(C:Addr)(i:Nat)(f:Str):XM PyData:=fun U=>match bT C U i with
 | some (_,fs)=>(match fs.lookup f with
  | some (.d d)=>.ok d U
  | _=>.bad)
 | none=>.bad
theorem dq(cl:dg X.K C)(j:cO X.K C f)(k:PE X (.Name x p1) (cf i))(n:attributeBase (.Name x p1) f X.env (eval (.Name x p1) X.env)=eval (.Name x p1) X.env:=by rfl):FE X F E (.Attribute (.Name x p1) f pos) (cu C i f):=
 ⟨aH,(lZ k n).imp fun Y H Q ⟨U,O,st,q⟩=>by
  unfold wp cu at q;cases g:bT C U i with
  | none=>rw[g] at q;exact q.elim
  | some p=>
   obtain⟨io,fs⟩:=p;rw[g] at q;simp only at q;obtain⟨o,B,h,⟨r,s,t,D,u,G,w⟩,_,_⟩:=st.box (iK g);rcases oB w f with⟨l1,l2⟩ | ⟨v,y,z,l1,l2,l3,_⟩
   ·rw[l2] at q;exact q.elim
   ·rw[l2] at q;cases y with
    | d d=>exact⟨_,h,o,C,r,s,v,rfl,u,cl,j,l1,q v H O st (.refl ..) l3.2⟩
    | l ds=>exact q.elim
    | m I A=>exact q.elim⟩
noncomputable def fq(C:Addr)(i:Nat)(f:Str)(d:PyData):SM:=fun U=>match bT C U i with
 | some (io,fs)=>if fs.length<1000/\fo (fs.lookup f)=true then .nx (U.set i (some (.own io (.o C (bJ f (.d d) fs))))) else .bad
 | none=>.bad
noncomputable def cI(C:Addr)(i:Nat)(f:Str)(m:XM PyData):SM:=fun U=>dM (m U) (fq C i f)
theorem fr{m:XM PyData}{h:Pos}(cl:dg X.K C)(M:cO X.K C f)(N:PE X (.Name x p1) (cf i))(Q:FE X F E e m)(R:swapsWith e (some (.Attribute (.Name x p1) f h)) pos.line X.env=pure false:=by rfl):FS X F E (.Assign [.Attribute (.Name x p1) f h] e pos) (cI C i f m):=
 (pX N Q.pe R).imp fun D Y H ⟨U,O,DD,st,q,S⟩=>⟨U,O,st,aH _ _ _ (fun d T g J Z O1 t s1 d1=>by
  unfold bV fq at g;cases u:bT C T i with
  | none=>rw[u] at g;exact g.elim
  | some p=>
   obtain⟨io,fs⟩:=p;rw[u] at g;simp only at g
   by_cases j:fs.length<1000/\fo (fs.lookup f)=true
   ·rw[if_pos j] at g;obtain⟨r,fp,v,⟨n,y,l,e1,e2,e3,L⟩,hO,nd,up⟩:=t.boxN (iK u);subst e1;obtain⟨A,_⟩:n≠r/\True:=⟨fun z=>by subst z;simp at nd,trivial⟩
    refine⟨_,v,r,C,n,y,rfl,e2,cl,M,by rw[L.len];exact j.1,?_⟩;obtain⟨O3,B,s3,_⟩:=up (aN Z r (.ins C n (cG f J y))) (.o C (bJ f (.d d) fs)) (r::n::l.flatten) (fun c o I e=>by rw[bw (fun z=>I (by simp[z]))];exact e) nd (fun c j=>.inl j) (fun G O' s hG _=>by
     subst hG;refine⟨s.hid,n,cG f J y,if (fs.lookup f).isSome=true then l else l++[[]],?_,cn,by rw[bw A];exact e3,?_⟩
     ·split
      ·rfl
      ·simp
     ·refine L.putD j.2 (DV.mono s.hid d1) s.hid fun c j=>bw (fun z=>?_);subst z;exact absurd j (by
       have:=(List.nodup_cons.mp nd).1;exact fun w=>this (bY _ w)))
    exact S.nx _ _ _ _ B (s1.trans s3) g
   ·rw[if_neg j] at g;exact g.elim) (fk (m:=m) (k:=fq C i f) q)⟩
end
section
variable{X:Cx}{F:Fx}{E:Str->ak->Prop}{e:Expr}{es:List Expr}{pos p1 apos p:Pos}{x m:Str}{C:Addr}{i:Nat}{k:Nat}{g:Addr}{fd:FuncData}{ps:List Str}{f:FM}{mX:XM (List AX)}
theorem BQ{as:List AX}{d:ak}{Q:ai->ak->Prop}(a:wp E (kW f as) d Q):fW f E Q as d:=by
 unfold wp kW at a;unfold fW;cases j:gq d as with
 | none=>rw[j] at a;exact a
 | some p=>
  obtain⟨l,n⟩:=p;rw[j] at a;simp only at a ⊢;cases h:f l with
  | rt c b=>rw[h] at a;exact a
  | ex c b=>rw[h] at a;exact a
  | bad=>rw[h] at a;exact a
noncomputable def cz(f:FM)(i:Nat)(as:List AX):XM ai:=kW f (.s i::as)
noncomputable def bM(C:Addr)(i:Nat)(m:Str)(f:FM)(mX:XM (List AX)):XM ai:=fun U=>match bT C U i with
 | some (_,fs)=>if fs.lookup m=none then(mX U).bind (cz f i) else .bad
 | none=>.bad
theorem Mi{pl:Sem Bool}(hx:dS X F E)(cl:dg X.K C)(hm:gX X.K C m g)(G:ay X.prog X.w X.K X.mg X.base (aU X.prog X.w) k g fd ps (aW X.K X.mg f))(hr:bq k X.A)(hb:fP X.K fd ps [])(hv:PE X (.Name x p1) (cf i))(ha:FX X F E (e::es) mX)
  (J:starEach (e::es) X.env=(false,eval e X.env)::starEach es X.env:=by rfl) (L:(backTo pos (starEach es X.env)).any (·.1)=false:=by rfl)
  (ht:eval (.Call (.Attribute (.Name x p1) m apos) (e::es) [] pos) X.env=(do
   let ov <-eval (.Name x p1) X.env
   standAt apos.atName
   let(f,first) <-holding [ov] (getMethod ov m pl)
   callWith pos f first (backTo pos (starEach (e::es) X.env)) (backToKw pos (keywordEach [] X.env))):=by rfl) :
  FO X F E (.Call (.Attribute (.Name x p1) m apos) (e::es) [] pos) (bM C i m f mX):=by
 refine⟨aH,fun a s Y H Q I ⟨U,O,st,q⟩=>?_⟩;unfold wp bM at q;cases M:bT C U i with
 | none=>rw[M] at q;exact q.elim
 | some p=>
  obtain⟨io,fs⟩:=p;rw[M] at q;simp only at q
  by_cases N:fs.lookup m=none
  ·rw[if_pos N] at q;obtain⟨b,z,l,⟨dx,gs,a1,e1,e2,e3,e4⟩,_,_⟩:=st.box (iK M);have hg:gs.lookup m=none:=by
    rcases oB e4 m with⟨l1,_⟩ | ⟨_,_,_,_,l2,_⟩
    ·exact l1
    ·rw[N] at l2;cases l2
   refine PySem.W.methodCall_KW (pl:=pl) (aR (hv a s Y H (fun v n=>v=.ref b/\n=H) I ⟨_,l,rfl,rfl⟩) fun u R ⟨v,n,I1,rx,ex,eH⟩=>?_) ht;subst ex eH;obtain rfl:u=Value.ref b:=rx;refine zh I1 e2 cl hm hg ?_;have q':=bO (E:=E) (m:=mX) (k:=cz f i) (U:=U) q;refine callWith_K (first:=[.ref b]) (h₀:=X.base) I.ok.mod.kin hm.kp (aR (ha.pa pos a R Y n (fun B o=>∃as t j,aC X.K F o Y t j/\aL O n j o/\cM Y (aw j o) B as/\fW f E (fun c U'=>∀v y D z,eA X.K F y Y U' D v c z->aL O n D y->Q v y) (.s i::as) t) I1 ⟨U,O,st,ha.mn _ _ _ (fun as t S B o j d R T=>⟨as,t,j,d,R,T,BQ S⟩) q'⟩) fun us s2 ⟨B,o,I2,r,as,t,j,d,Z,T,S⟩=>⟨I2.kIn,?_⟩) J L;exact vG hx G hr hb I2 (vs:=V.ref b::B) (us:=Value.ref b::us) (.cons (show bj (.ref b) (.ref b) from rfl) r) d (cM.s l T) S fun c U' h v y D z res s2=>h v y D z res (Z.trans s2)
  ·rw[if_neg N] at q;exact q.elim
noncomputable def dt(C:Addr)(i:Nat)(m:Str)(f:FM):XM ai:=fun U=>match bT C U i with
 | some (_,fs)=>if fs.lookup m=none then kW f [.s i] U else .bad
 | none=>.bad
theorem Mj{pl:Sem Bool}(z:dS X F E)(cl:dg X.K C)(o:gX X.K C m g)(G:ay X.prog X.w X.K X.mg X.base (aU X.prog X.w) k g fd ps (aW X.K X.mg f))(B:bq k X.A)(D:fP X.K fd ps [])(J:PE X (.Name x p1) (cf i))
  (L:eval (.Call (.Attribute (.Name x p1) m apos) [] [] pos) X.env=(do
   let r <-eval (.Name x p1) X.env
   standAt apos.atName
   let(f,first) <-holding [r] (getMethod r m pl)
   callWith pos f first (backTo pos (starEach [] X.env)) (backToKw pos (keywordEach [] X.env))):=by rfl) :
  FO X F E (.Call (.Attribute (.Name x p1) m apos) [] [] pos) (dt C i m f):=by
 refine⟨aH,fun b s Y H Q I ⟨U,O,st,q⟩=>?_⟩;unfold wp dt at q;cases j:bT C U i with
 | none=>rw[j] at q;exact q.elim
 | some p=>
  obtain⟨io,fs⟩:=p;rw[j] at q;simp only at q
  by_cases l:fs.lookup m=none
  ·rw[if_pos l] at q;obtain⟨a,t,d,⟨dx,M,N,e1,R,e3,S⟩,_,_⟩:=st.box (iK j);have T:M.lookup m=none:=by
    rcases oB S m with⟨l1,_⟩ | ⟨_,_,_,_,l2,_⟩
    ·exact l1
    ·rw[l] at l2;cases l2
   refine PySem.W.methodCall_KW (pl:=pl) (aR (J b s Y H (fun v y=>v=.ref a/\y=H) I ⟨_,d,rfl,rfl⟩) fun u s1 ⟨v,y,n,Z,ex,eH⟩=>?_) L;subst ex eH;obtain rfl:u=Value.ref a:=Z;refine zh n R cl o T ?_;refine PySem.W.callWith_K0 (first:=[.ref a]) n.kIn o.kp ?_;exact vG (vs:=[V.ref a]) (us:=[Value.ref a]) (as:=[.s i]) z G B D n (.cons (show bj (.ref a) (.ref a) from rfl) .nil) st (cM.s d .nil) (BQ q) fun c U' h v H' O' t res s2=>h v H' O' t res s2
  ·rw[if_neg l] at q;exact q.elim
noncomputable def lp(C:Addr)(f:FM)(a:List PyData):XM ai:=fun U=>match f (.own true (.o C [])::a.map .dat) with
 | .rt (.dat .none) [b]=>.ok (.own false b) U
 | .ex c _=>.ex c U
 | _=>.bad
noncomputable def lq(C:Addr)(f:FM)(a:XM (List PyData)):XM ai:=fun U=>(a U).bind (lp C f)
theorem BR{K:Frag}{H:Hp}{O:List Addr}:∀{b:List V}{a:List PyData},aK (aw O H) b a->aV K H O b (a.map .dat) (a.map fun _=>[])
 | _,_,.nil=>.nil
 | _,_,.cons h t=>.dat h (BR t)
theorem BS{H:Hp}{O:List Addr}{a:Addr}{b:Bx}:∀{j:List PyData}{l:List V}{bs:List Bx}{c:List (List Addr)},aT H O l (j.map ai.dat) bs c->bs=[]/\c=[]
 | [],_,_,_,.nil=>⟨rfl,rfl⟩
 | d::j,_,_,_,.skip _ h=>BS (a:=a) (b:=b) h
theorem wE{α β:Type}:∀l:List α,(l.map fun _=>([]:List β)).flatten=[]
 | []=>rfl
 | _::r=>by simp[wE r]
theorem wF{mA:XM (List PyData)}(hx:dS X F E)(M:Mk X.K C g)(G:ay X.prog X.w X.K X.mg X.base (aU X.prog X.w) k g fd ps (aW X.K X.mg f))(hr:bq (k+1) X.A)(hg:Gl X x)(hm:X.mg x=some (.ref C))(hb:fP X.K fd ps [])(j:FA X F E (e::es) mA)
  (b3:(x==("__debug__":Str))=false:=by decide) (he:starEach (e::es) X.env=(false,eval e X.env)::starEach es X.env:=by rfl) (b4:(backTo pos (starEach es X.env)).any (·.1)=false:=by rfl) :
  FO X F E (.Call (.Name x p) (e::es) [] pos) (lq C f mA):=by
 refine⟨aH,fun T s Y H Q I ⟨U,O,st,q⟩=>?_⟩;refine wpAny_Call_Name_kw (kK I hg hm ?_ b3);have q':=bO (E:=E) (m:=mA) (k:=lp C f) (U:=U) q;refine callWith_K (h₀:=X.base) I.ok.mod.kin M.kp (aR (j.pa pos T s Y H (fun vs t=>∃R Z n,aC X.K F t Y Z n/\aL O H n t/\aK (aw n t) vs R/\wp E (lp C f R) Z (fun c U'=>∀v l O' fp,eA X.K F l Y U' O' v c fp->aL O H O' l->Q v l)) I ⟨U,O,st,j.mn _ _ _ (fun R Z B vs t n D J dv=>⟨R,Z,n,D,J,dv,B⟩) q'⟩) fun us J ⟨vs,t,I1,r,R,Z,n,D,b5,dv,B⟩=>⟨I1.kIn,?_⟩) he b4;let EX:XK:=fun C _ l=>∃c U' O',X.mg c=some C/\aC X.K F l Y U' O'/\E c U';have h:∀x d,t x=none->t d=none->d≠x->aW X.K X.mg f (.ref x::vs) (aN (aN t d (.own x)) x (.ins C d [])) (fun v H2=>v=.non/\Q (.ref x) H2) EX:=fun x d h1 h2 a1=>by
  obtain⟨W,a2,a8⟩:=id D;have a3:∀a∈n,∃o,t a=some o/\Mv o:=fun a h=>a2.live a (by rw[<-a8];exact h);have nx:x∉n:=fun z=>by obtain⟨o,e,_⟩:=a3 x z;rw[h1] at e;cases e
  have b6:d∉n:=fun z=>by obtain⟨o,e,_⟩:=a3 d z;rw[h2] at e;cases e
  have a4:n.Nodup:=by rw[a8];exact a2.nd
  have up:∀b o,t b=some o->aN (aN t d (.own x)) x (.ins C d []) b=some o:=fun b o e=>by rw[bw (fun z=>by subst z;rw[h1] at e;cases e),bw (fun z=>by subst z;rw[h2] at e;cases e)];exact e
  have fl:(([x,d]::R.map fun _=>([]:List Addr)).flatten++n)=x::d::n:=by rw[List.flatten_cons,wE];rfl
  have hid:bR (aw n t) (aw (x::d::n) (aN (aN t d (.own x)) x (.ins C d []))):=fun b o e=>by
   obtain⟨S,n1⟩:=cK e;refine gk (up b o S) fun z=>?_;rcases List.mem_cons.mp z with z | z
   ·subst z;rw[h1] at S;cases S
   ·rcases List.mem_cons.mp z with z | z
    ·subst z;rw[h2] at S;cases S
    ·exact n1 z
  refine⟨(hx.1.at D).mono fun b u _ e=>up b u e,.own true (.o C [])::R.map .dat,[x,d]::R.map fun _=>[],n,?_,?_,?_,?_⟩
  ·rw[fl];exact .own ⟨d,[],[],rfl,cn,by rw[bw a1,cn],.nil⟩ (BR (aK.mono hid dv))
  ·rw[fl];refine List.nodup_cons.mpr ⟨fun z=>?_,List.nodup_cons.mpr ⟨b6,a4⟩⟩;rcases List.mem_cons.mp z with z | z
   ·exact a1 z.symm
   ·exact nx z
  ·rw[fl];intro a j;rcases List.mem_cons.mp j with rfl | j
   ·exact⟨.ins C d [],cn,trivial⟩
   ·rcases List.mem_cons.mp j with rfl | j
    ·exact⟨.own x,by rw[bw a1,cn],trivial⟩
    ·obtain⟨o,S,e2⟩:=a3 a j;exact⟨o,up a o S,e2⟩
  ·unfold wp lp at B;have hL:([x,d]::R.map fun _=>([]:List Addr)).flatten=[x,d]:=by rw[List.flatten_cons,wE];rfl
   have a9:aC X.K (F.plus []) t Y Z n:=D;have lift:∀(l:Hp) (L':List Addr),fh (aN (aN t d (.own x)) x (.ins C d [])) l [x,d] L' n->∃N,aC X.K (F.plus L') l Y Z N/\aL n t N l/\(∀a∈L',a∈N)/\(∀a∈N,a∈L'\/a∈n)/\∀a∈L',a∈F.A₀\/F.H₀ a=none:=fun l L' y=>by
    have new1:∀a∈L',t a=none:=fun a j=>by
     rcases y.new a j with z | z
     ·simp only[List.mem_cons,List.not_mem_nil,or_false] at z;rcases z with rfl | rfl
      ·exact h1
      ·exact h2
     ·cases e:t a with
      | none=>rfl
      | some o=>rw[up a o e] at z;cases z
    obtain⟨N,t1,t2,t3,t4,_⟩:=a9.swap (L':=L') (H':=l) (fun b o _ e=>y.keep b o (fun z=>by
     simp only[List.mem_cons,List.not_mem_nil,or_false] at z;rcases z with rfl | rfl
     ·rw[h1] at e;cases e
     ·rw[h2] at e;cases e) (up b o e)) (List.nodup_append.mp y.nd).1 (fun a j=>.inr (new1 a j)) (fun a h=>by cases h) y.live
    refine⟨N,t1,t2,t3,fun a j=>(t4 a j).imp id (·.1),fun a j=>?_⟩
    by_cases hA:a∈F.A₀
    ·exact .inl hA
    ·refine .inr ?_;cases e:F.H₀ a with
     | none=>rfl
     | some o=>have:=a2.kept a o hA e;rw[new1 a j] at this;cases this
   cases hf:f (.own true (.o C [])::R.map .dat) with
   | bad=>rw[hf] at B;exact B
   | ex c a0=>rw[hf] at B;intro C' l b0 a5 b1 y;rw[hL] at y;obtain⟨N,t1,t2,t3,t4,t5⟩:=lift l [] ⟨a4,fun a h=>(by cases h),y.keep,fun a h=>(by cases h)⟩;exact⟨c,Z,N,a5,t1,B⟩
   | rt c a0=>
    rw[hf] at B;intro v l fp b0 b7 b1 y;rw[hL] at y
    match c,a0,B with
    | .dat .none,[b'],B=>
     have hv:v=.non:=DV.non_inv b7;cases b1 with
     | skip b8 _=>exact absurd rfl (b8 _ _)
     | @own _ _ _ _ a6 _ _ _ c1 b2 a7=>
      obtain⟨_,rfl⟩:=BS (a:=0) (b:=b') a7;refine⟨hv,?_⟩;simp only[List.flatten_cons,List.flatten_nil,List.append_nil] at b2 y;have b9:fh (aN (aN t d (.own x)) x (.ins C d [])) l [x,d] a6 n:=⟨by
       have n1:=y.nd;rw[List.append_assoc] at n1;obtain⟨m1,m2,m3⟩:=List.nodup_append.mp n1;exact List.nodup_append.mpr ⟨m1,a4,fun a j b hb=>m3 a j b (bh _ hb)⟩,fun a j=>y.live a (bi _ j),y.keep,fun a j=>y.new a (bi _ j)⟩
      obtain⟨N,t1,t2,t3,t4,t5⟩:=lift l a6 b9;refine B (.ref x) l N a6 ⟨t1,⟨x,rfl,b2.keep (fun _ _=>rfl) (nM fun a j=>?_)⟩,t5⟩ (b5.trans t2);rcases t4 a j with z | z
      ·exact bi _ (bi _ z)
      ·exact bh _ z
 have hq:=h (J.heap.objs.size+1) J.heap.objs.size (I1.hok.fresh (Nat.le_succ _)) (I1.hok.fresh (bF _)) (Nat.ne_of_lt (Nat.lt_succ_self _));have I2:=Inv.made (C:=C) I1;have r2:be (V.ref (J.heap.objs.size+1)::vs) (Value.ref (J.heap.objs.size+1)::us):=.cons rfl r;have hl:(Value.ref (J.heap.objs.size+1)::us++[]).length=ps.length:=by have e:=r2.length;rw[G.len _ _ _ _ hq] at e;rw[List.append_nil];exact e.symm
 refine wpAny_call (Gm (f:=g) I1.kIn M.makes M.init (beq_iff_eq.mp M.fn) (codeAny_mono (G.run _ X.stack _ _ ⟨Value.ref (J.heap.objs.size+1)::us,[]⟩ (Value.ref (J.heap.objs.size+1)::us) _ _ EX (hr.make C us [])
  (I2.env0.make C us []) (by have:=hb _ (Value.ref (J.heap.objs.size+1)::us) I2.kIn hl;rw[List.append_nil] at this;exact this) r2 hq) fun r s' L=>?_))
 cases r with
 | error e=>obtain⟨a,C',l,S,I',cv,ex,c,U',O',a5,c0,hE⟩:=I2.flies L;exact hx.2 T Y l s' e c U' O' ⟨I',a,C',_,_,S,cv,ex,a5⟩ c0 hE
 | ok fl=>
  cases fl with
  | ret u=>obtain⟨v,l,I3,rv,ev,q3⟩:=I2.after L;subst ev;exact⟨rv,⟨V.ref (J.heap.objs.size+1),l,I3,rfl,q3⟩⟩
  | next=>exact False.elim L
  | brk=>exact False.elim L
  | cont=>exact False.elim L
end
noncomputable def wG:Fl->Bool
 | .d _=>false
 | _=>true
theorem Ml{G H:Hp}{v:V}{x:Fl}{f:List Addr}(h:fR G H v x f)(g:wG x=true):∃b,v=.ref b/\f=[b]:=by
 cases x with
 | d _=>cases g
 | l ds=>obtain⟨a,j,c,e,_⟩:=h;exact⟨a,c,e⟩
 | m k i=>obtain⟨a,c,e,_⟩:=h;exact⟨a,c,e⟩
theorem BT{G H:Hp}{f:Str}{x:Fl}(q:wG x=true):∀{o:List (Str×V)}{fs:List (Str×Fl)}{a:List (List Addr)},bt G H o fs a->fs.lookup f=some x->a.flatten.Nodup->
  ∃b,o.lookup f=some (.ref b)/\fR G H (.ref b) x [b]/\b∈a.flatten/\∀(i j:Hp) (l:Fl),bR G i->(∀c∈a.flatten,c≠b->j c=H c)->fR i j (.ref b) l [b]->bt i j o (bJ f l fs) a
 | _,_,_,.nil,m,_=>by cases m
 | (n,v)::o,(_,y)::fs,D::a,.cons h1 h2,m,nd=>by
  rw[List.flatten_cons] at nd;obtain⟨E,u,r⟩:=List.nodup_append.mp nd
  by_cases e:f=n
  ·subst e;have w:y=x:=by simpa[List.lookup] using m
   subst w;obtain⟨b,rfl,rfl⟩:=Ml h1 q;refine⟨b,by simp[List.lookup],h1,by simp,fun i j l g k d=>?_⟩;unfold bJ;rw[if_pos rfl];refine .cons d (h2.keep (fun c h=>k c (by rw[List.flatten_cons];exact bh _ h) fun z=>?_) g);exact r b (by simp) c h z.symm
  ·have s:(f==n)=false:=by simpa using e
   rw[List.lookup_cons,s] at m;obtain⟨b,A,B,t,C⟩:=BT q h2 m u;refine⟨b,by rw[List.lookup_cons,s];exact A,B,by rw[List.flatten_cons];exact bh _ t,fun i j l g k d=>?_⟩;unfold bJ;rw[if_neg (fun z=>e z.symm)];refine .cons (h1.keep (fun c h=>k c (by rw[List.flatten_cons];exact bi _ h) fun z=>?_) g) (C i j l g (fun c h p=>k c (by rw[List.flatten_cons];exact bh _ h) p) d);exact r c h b t z
theorem aC.fldUp{K:Frag}{F:Fx}{H:Hp}{Y:St}{U:ak}{O:List Addr}{C:Addr}{i:Nat}{io:Bool}{fs:List (Str×Fl)}{f:Str}{x:Fl}(st:aC K F H Y U O)(w:bT C U i=some (io,fs))(lk:fs.lookup f=some x)(y:wG x=true) :
  ∃a d h b,Y[i]? = some (some (.ref a))/\H a=some (.ins C d h)/\h.lookup f=some (.ref b)/\fR (aw O H) H (.ref b) x [b]/\
   ∀(g:HO) (j:Fl),Mv g->(∀G,bR (aw O H) G->fR G (aN H b g) (.ref b) j [b])->∃k,aC K F (aN H b g) Y (U.set i (some (.own io (.o C (bJ f j fs))))) k/\aL O H k (aN H b g):=by
 obtain⟨a,X,n,⟨d,h,l,A,v,B,D⟩,Z,nd,up⟩:=st.boxN (iK w);subst A;have m:=nd;rw[List.nodup_cons,List.nodup_cons] at m;obtain⟨E,p,I⟩:=m;obtain⟨b,J,L,q,M⟩:=BT y D lk I;have N:a≠b:=fun z=>E (by rw[z];exact bY _ q);have Q:d≠b:=fun z=>p (by rw[z];exact q);refine⟨a,d,h,b,n,v,J,L,fun g j hM R=>?_⟩;obtain⟨k,r,S,_⟩:=up (aN H b g) (.o C (bJ f j fs)) (a::d::l.flatten) (fun c o t e=>by rw[bw (fun z=>t (by rw[z];exact bY _ (bY _ q)))];exact e) nd (fun c t=>.inl t) (fun G k s T _=>by
  subst T;exact⟨s.hid,d,h,l,rfl,by rw[bw N];exact v,by rw[bw Q];exact B,M _ _ j s.hid (fun c _ u=>bw u) (R _ s.hid)⟩)
 exact⟨k,r,S⟩
section
variable{X:Cx}{F:Fx}{E:Str->ak->Prop}{e a b c:Expr}{es:List Expr}{st:Stmt}{pos p1 apos cpos fpos:Pos}{x f:Str}{C:Addr}{i:Nat}{m:XM PyData}
noncomputable def mH(C:Addr)(i:Nat)(f:Str)(d:PyData):SM:=fun U=>match bT C U i with
 | some (io,fs)=>(match fs.lookup f with
  | some (.l ds)=>if ds.length<sizeLine then .nx (U.set i (some (.own io (.o C (bJ f (.l (ds++[d])) fs))))) else .bad
  | _=>.bad)
 | none=>.bad
noncomputable def eI(U:ak)(j:Nat):Option PyData:=match U[j]? with
 | some (some (.dat d))=>some d
 | _=>none
theorem oC{U:ak}{j:Nat}{d:PyData}(h:eI U j=some d):U[j]? = some (some (.dat d)):=by
 unfold eI at h;split at h
 ·rename_i e;cases h;exact e
 ·cases h
noncomputable def lr(C:Addr)(i:Nat)(f:Str)(j:Nat):SM:=fun U=>match eI U j with
 | some d=>mH C i f d U
 | none=>.bad
theorem Mm{y:Str}{k:Pos}{j:Nat}(cl:dg X.K C)(S:cO X.K C f)(T:PE X (.Name x p1) (cf i))(Z:PE X (.Name y k) (cf j))(hb:attributeBase (.Name x p1) f X.env (eval (.Name x p1) X.env)=eval (.Name x p1) X.env:=by rfl)
  (A:swapsWith (.Call (.Attribute (.Attribute (.Name x p1) f fpos) "append" apos) [.Name y k] [] cpos) none pos.line X.env=pure false:=by rfl)
  (n:attributeBase (.Attribute (.Name x p1) f fpos) "append" X.env (eval (.Attribute (.Name x p1) f fpos) X.env)=eval (.Attribute (.Name x p1) f fpos) X.env:=by rfl)
  (t:((backTo cpos (starEach [.Name y k] X.env)).all (fun x=>!x.1)&&(backToKw cpos (keywordEach [] X.env)).all (fun x=>x.1.isSome)&&decide (([.Name y k]:List Expr).length+([]:List Keyword).length+(if ([]:List Keyword).isEmpty then 0 else 1)<30))=true:=by rfl)
  (o:(apos.endLine==cpos.line)=true:=by rfl) (Q:starEach [.Name y k] X.env=(false,eval (.Name y k) X.env)::starEach [] X.env:=by rfl) (h:(backTo cpos (starEach [] X.env)).any (·.1)=false:=by rfl) :
  FS X F E (.Expr (.Call (.Attribute (.Attribute (.Name x p1) f fpos) "append" apos) [.Name y k] [] cpos) pos) (lr C i f j):=
 (pO (qa PySem.F.plainAttrs_list PySem.F.slot_list_append PySem.F.type_list_append zH (lZ T hb) (da Z dQ Q) n t o Q h) A).imp fun D Y H ⟨U,O,DD,st,q,fD⟩=>by
  unfold bV lr at q;cases r:eI U j with
  | none=>rw[r] at q;exact q.elim
  | some d=>
   have hd:=oC r;rw[r] at q;simp only at q;unfold mH at q;cases B:bT C U i with
   | none=>rw[B] at q;exact q.elim
   | some p=>
    obtain⟨io,fs⟩:=p;rw[B] at q;simp only at q;cases s:fs.lookup f with
    | none=>rw[s] at q;exact q.elim
    | some z=>
     rw[s] at q;cases z with
     | d _=>exact q.elim
     | m _ _=>exact q.elim
     | l ds=>
      simp only at q
      by_cases I:ds.length<sizeLine
      ·rw[if_pos I] at q;obtain⟨a0,dx,gs,J,L,e2,q1,⟨b1,v,eb,_,R,u⟩,up⟩:=st.fldUp B s rfl;cases eb;obtain⟨w,hw,M⟩:=st.dat hd;obtain⟨O2,N,s2⟩:=up (.lst (v++[w])) (.l (ds++[d])) trivial (fun G g=>⟨J,v++[w],rfl,rfl,cn,(aK.mono g u).append (.cons (DV.mono g M) .nil)⟩);exact⟨_,L,a0,C,dx,gs,.ref J,rfl,e2,cl,S,q1,.inl ⟨rfl,v,.of R⟩,w,hw,J,v,w,rfl,rfl,R,by rw[u.length];exact I,fD.nx _ _ _ _ N s2 q⟩
      ·rw[if_neg I] at q;exact q.elim
noncomputable def ls(C:Addr)(i:Nat)(f:Str)(j l:Nat)(v:PyData):SM:=fun U=>match bT C U i,eI U j,eI U l with
 | some (io,fs),some y,some z=>(match fs.lookup f,jZ true (.tuple [y,z]) with
  | some (.m true d),some k=>if d.length<sizeLine then .nx (U.set i (some (.own io (.o C (bJ f (.m true (jY true d (.tuple [y,z]) k v)) fs))))) else .bad
  | _,_=>.bad)
 | _,_,_=>.bad
noncomputable def mI(C:Addr)(i:Nat)(f:Str)(j l:Nat)(m:XM PyData):SM:=fun U=>dM (m U) (ls C i f j l)
theorem Mo{y z:Str}{B s p4 r:Pos}{j l kx:Nat}(hu:X.A.units+1<cLine)(cl:dg X.K C)(na:cO X.K C f)(hv:PE X (.Name x p1) (cf i))(hy:PE X (.Name y B) (cf j))(hz:PE X (.Name z s) (cf l))(he:FE X F E e m)(hb:attributeBase (.Name x p1) f X.env (eval (.Name x p1) X.env)=eval (.Name x p1) X.env:=by rfl)
  (h1:starEach [.Name y B,.Name z s] X.env=(false,eval (.Name y B) X.env)::starEach [.Name z s] X.env:=by rfl) (h2:starEach [.Name z s] X.env=(false,eval (.Name z s) X.env)::starEach [] X.env:=by rfl)
  (hs:swapsWith e (some (.Subscript (.Attribute (.Name x p1) f fpos) (.Tuple [.Name y B,.Name z s] kx p4) r)) pos.line X.env=pure false:=by rfl) :
  FS X F E (.Assign [.Subscript (.Attribute (.Name x p1) f fpos) (.Tuple [.Name y B,.Name z s] kx p4) r] e pos) (mI C i f j l m):=
 (HI hu (lZ hv hb) (uX (da hy (da hz dQ h2) h1)) he.pe hs).imp fun D Y H ⟨U,O,DD,st,q,fD⟩=>⟨U,O,st,aH _ _ _ (fun v Q h vy H1 O1 n s1 d1=>by
  unfold bV ls at h;cases w:bT C Q i with
  | none=>rw[w] at h;exact h.elim
  | some p=>
   obtain⟨io,fs⟩:=p;cases M:eI Q j with
   | none=>rw[w,M] at h;exact h.elim
   | some y0=>
    cases R:eI Q l with
    | none=>rw[w,M,R] at h;exact h.elim
    | some z0=>
     rw[w,M,R] at h;simp only at h;cases o:fs.lookup f with
     | none=>rw[o] at h;exact h.elim
     | some t=>
      rw[o] at h;cases t with
      | d _=>exact h.elim
      | l _=>exact h.elim
      | m tk I=>
       cases tk with
       | false=>exact h.elim
       | true=>
        cases S:jZ true (.tuple [y0,z0]) with
        | none=>rw[S] at h;exact h.elim
        | some k=>
         rw[S] at h;simp only at h
         by_cases u:I.length<sizeLine
         ·rw[if_pos u] at h;obtain⟨a0,dx,gs,T,J,e2,l1,_,_⟩:=n.fldUp w o rfl;obtain⟨w1,Z,a2⟩:=n.dat (oC M);obtain⟨w2,a3,a4⟩:=n.dat (oC R);refine⟨_,J,a0,C,dx,gs,.ref T,rfl,e2,cl,na,l1,w1,Z,w2,a3,show 2<=sizeLine by decide,fun p hp=>?_⟩;have N:bR H1 (aN H1 p (.tup [w1,w2])):=bN hp;have a5:=n.grow N;have hd:=jg (O:=O1) N;obtain⟨a1,a7,a8,b1,L,e3,l2,⟨b2,eb,_,dic⟩,up⟩:=a5.fldUp w o rfl;rw[J] at L;cases L;rw[N _ _ e2] at e3;cases e3;rw[l1] at l2;cases l2;cases eb;obtain⟨o',g1,mv,g2⟩:=Lz dic nL (qr hp (n.nofree p hp) (.cons a2 (.cons a4 .nil))) (DV.mono hd d1) S u;obtain⟨O3,a6,s3⟩:=up o' (.m true (jY true I (.tuple [y0,z0]) k v)) mv (fun G g=>⟨T,rfl,rfl,g2 G g⟩);exact⟨T,_,rfl,g1,fD.nx _ _ _ _ a6 (s1.trans ((aL.same N).trans s3)) h⟩
         ·rw[if_neg u] at h;exact h.elim) (fk (m:=m) (k:=ls C i f j l) q)⟩
end
section
variable{X:Cx}{F:Fx}{E:Str->ak->Prop}{e a b c:Expr}{es:List Expr}{st:Stmt}{pos p1 apos cpos fpos:Pos}{x f:Str}{C:Addr}{i:Nat}{m:XM PyData}
noncomputable def oD(C:Addr)(i:Nat)(f:Str)(j:Nat):XM PyData:=fun U=>match bT C U i,eI U j with
 | some (_,fs),some (.int k)=>(match fs.lookup f with
  | some (.l ds)=>lift (bI ds k) U
  | some (.d (.list ds))=>lift (bI ds k) U
  | some (.d (.tuple ds))=>.bad
  | _=>.bad)
 | _,_=>.bad
theorem BU{G:Hp}{l:List V}{g:List PyData}{k:Int}{d:PyData}(h:aK G l g)(e:bI g k=some d):∃v,bI l k=some v/\DV G v d:=by
 unfold bI at e ⊢;rw[h.length];cases n:dA g.length k with
 | none=>rw[n] at e;cases e
 | some j=>rw[n] at e;exact h.get e
theorem Mp{y:Str}{u:Pos}{j:Nat}(cl:dg X.K C)(S:cO X.K C f)(hv:PE X (.Name x p1) (cf i))(hy:PE X (.Name y u) (cf j))(hb:attributeBase (.Name x p1) f X.env (eval (.Name x p1) X.env)=eval (.Name x p1) X.env:=by rfl)(hs:nJ (.Name y u):=by intro _ _;rfl) :
  FE X F E (.Subscript (.Attribute (.Name x p1) f fpos) (.Name y u) pos) (oD C i f j):=
 ⟨aH,(uZ vc (lZ hv hb) hy hs).imp fun Y H Q ⟨U,O,st,q⟩=>by
  unfold wp oD at q;cases r:bT C U i with
  | none=>rw[r] at q;exact q.elim
  | some p=>
   obtain⟨io,fs⟩:=p;cases z:eI U j with
   | none=>rw[r,z] at q;exact q.elim
   | some y0=>
    rw[r,z] at q;cases y0 with
    | int k=>
     simp only at q;obtain⟨w,T,dw⟩:=st.dat (oC z);obtain rfl:=dw.int_inv;cases g:fs.lookup f with
     | none=>rw[g] at q;exact q.elim
     | some t=>
      rw[g] at q;cases t with
      | m _ _=>exact q.elim
      | l ds=>obtain⟨A,B,D,Z,h,G,l1,⟨I,J,eb,_,L,n⟩,_⟩:=st.fldUp r g rfl;cases eb;obtain⟨d,s,M⟩:=cV (o:=bI ds k) (U:=U) (E:=E) q;obtain⟨v,N,R⟩:=BU n s;exact⟨_,h,A,C,B,D,.ref Z,rfl,G,cl,S,l1,_,T,Z,J,k,v,rfl,rfl,.of L,N,M v H O st .refl R⟩
      | d x0=>
       cases x0 with
       | list ds=>
        obtain⟨A,fp,h,⟨B,D,a1,s,G,e3,e4⟩,_,_⟩:=st.box (iK r);rcases oB e4 f with⟨_,l2⟩ | ⟨v,y1,a2,l1,l2,l3,_⟩
        ·rw[g] at l2;cases l2
        ·rw[g] at l2;cases l2;obtain⟨I,J,rfl,L,n⟩:=l3.2.lst_inv;obtain⟨d,s,M⟩:=cV (o:=bI ds k) (U:=U) (E:=E) q;obtain⟨v,N,R⟩:=BU n s;exact⟨_,h,A,C,B,D,.ref I,rfl,G,cl,S,l1,_,T,I,J,k,v,rfl,rfl,.of (cK L).1,N,M v H O st .refl R⟩
       | _=>exact q.elim
    | _=>exact q.elim⟩
noncomputable def lu(C:Addr)(i:Nat)(f:Str)(j:Nat)(v:PyData):SM:=fun U=>match bT C U i,eI U j with
 | some (io,fs),some (.int k)=>(match fs.lookup f with
  | some (.l ds)=>(match dA ds.length k with
   | some n=>.nx (U.set i (some (.own io (.o C (bJ f (.l (ds.set n v)) fs)))))
   | none=>.bad)
  | _=>.bad)
 | _,_=>.bad
noncomputable def mJ(C:Addr)(i:Nat)(f:Str)(j:Nat)(m:XM PyData):SM:=fun U=>dM (m U) (lu C i f j)
theorem BV{G:Hp}{v:V}{d:PyData}(hd:DV G v d):∀{g:List V}{j:List PyData}(n:Nat),aK G g j->aK G (g.set n v) (j.set n d)
 | _,_,_,.nil=>.nil
 | _,_,0,.cons _ t=>.cons hd t
 | _,_,n+1,.cons h t=>.cons h (BV hd n t)
theorem Mq{y:Str}{r h:Pos}{j:Nat}(cl:dg X.K C)(na:cO X.K C f)(hv:PE X (.Name x p1) (cf i))(hy:PE X (.Name y r) (cf j))(he:FE X F E e m)(hb:attributeBase (.Name x p1) f X.env (eval (.Name x p1) X.env)=eval (.Name x p1) X.env:=by rfl)
  (hs:swapsWithSole [.Subscript (.Attribute (.Name x p1) f fpos) (.Name y r) h] e pos.line X.env=pure false:=by rfl) (hw:swappedStores [.Subscript (.Attribute (.Name x p1) f fpos) (.Name y r) h] e X.env=pure none:=by rfl)
  (h1:(assignEach [.Subscript (.Attribute (.Name x p1) f fpos) (.Name y r) h] X.env).map (·.2)=[assign (.Subscript (.Attribute (.Name x p1) f fpos) (.Name y r) h) X.env]:=by rfl)
  (hq:∀v,assign (.Subscript (.Attribute (.Name x p1) f fpos) (.Name y r) h) X.env v=(do
   let A <-holding [v] (eval (.Attribute (.Name x p1) f fpos) X.env);let I <-holding [v,A] (eval (.Name y r) X.env)
   standAt h
   holding [v,A,I] (setItem A I v)
   release [v,A,I] []):=by intro _;rfl) :
  FS X F E (.Assign [.Subscript (.Attribute (.Name x p1) f fpos) (.Name y r) h] e pos) (mJ C i f j m):=
 (uP he.pe (Fq (lZ hv hb) hy Hb hq) hs hw h1).imp fun D Y H ⟨U,O,DD,st,q,fD⟩=>⟨U,O,st,aH _ _ _ (fun v T o Z H1 O1 u s1 d1=>by
  unfold bV lu at o;cases B:bT C T i with
  | none=>rw[B] at o;exact o.elim
  | some p=>
   obtain⟨io,fs⟩:=p;cases J:eI T j with
   | none=>rw[B,J] at o;exact o.elim
   | some y0=>
    rw[B,J] at o;cases y0 with
    | int k=>
     simp only at o;cases s:fs.lookup f with
     | none=>rw[s] at o;exact o.elim
     | some t=>
      rw[s] at o;cases t with
      | d _=>exact o.elim
      | m _ _=>exact o.elim
      | l ds=>
       simp only at o;cases L:dA ds.length k with
       | none=>rw[L] at o;exact o.elim
       | some n=>rw[L] at o;obtain⟨w,M,dw⟩:=u.dat (oC J);obtain rfl:=dw.int_inv;obtain⟨a0,dx,gs,N,Q,e2,l1,⟨b1,R,eb,_,hH,z⟩,up⟩:=u.fldUp B s rfl;cases eb;obtain⟨O2,S,s2⟩:=up (.lst (R.set n Z)) (.l (ds.set n v)) trivial (fun G g=>⟨N,R.set n Z,rfl,rfl,cn,BV (DV.mono g d1) n (aK.mono g z)⟩);exact⟨_,Q,a0,C,dx,gs,.ref N,rfl,e2,cl,na,l1,_,M,N,R,k,n,rfl,rfl,hH,by rw[z.length];exact L,fD.nx _ _ _ _ S (s1.trans s2) o⟩
    | _=>exact o.elim) (fk (m:=m) (k:=lu C i f j) q)⟩
noncomputable def rb(C:Addr)(i:Nat)(f:Str)(n:Int):SM:=fun U=>match bT C U i with
 | some (io,fs)=>(match fs.lookup f with
  | some (.d (.int v))=>if fs.length<1000 then .nx (U.set i (some (.own io (.o C (bJ f (.d (.int (v+n))) fs))))) else .bad
  | _=>.bad)
 | none=>.bad
theorem Mr{n:Int}{k:Pos}(cl:dg X.K C)(S:cO X.K C f)(T:PE X (.Name x p1) (cf i))(Z:PE X e (fun Y H Q=>Q (.int n) H)):FS X F E (.AugAssign (.Attribute (.Name x p1) f k) .Add e pos) (rb C i f n):=
 (Gs T Z Gv).imp fun D Y H ⟨U,O,DD,st,q,fD⟩=>by
  unfold bV rb at q;cases y:bT C U i with
  | none=>rw[y] at q;exact q.elim
  | some p=>
   obtain⟨io,fs⟩:=p;rw[y] at q;simp only at q;cases g:fs.lookup f with
   | none=>rw[g] at q;exact q.elim
   | some t=>
    rw[g] at q;cases t with
    | l _=>exact q.elim
    | m _ _=>exact q.elim
    | d x0=>
     cases x0 with
     | int v0=>
      simp only at q
      by_cases A:fs.length<1000
      ·rw[if_pos A] at q;obtain⟨r,fp,B,⟨j,u,h,e1,R,e3,I⟩,hO,nd,up⟩:=st.boxN (iK y);subst e1;have J:j≠r:=fun z=>by subst z;simp at nd
       rcases oB I f with⟨_,l2⟩ | ⟨v,y1,a1,l1,l2,l3,_⟩
       ·rw[g] at l2;cases l2
       ·rw[g] at l2;cases l2;obtain rfl:=l3.2.int_inv;obtain⟨O3,L,s3,_⟩:=up (aN H r (.ins C j (cG f (.int (v0+n)) u))) (.o C (bJ f (.d (.int (v0+n))) fs)) (r::j::h.flatten) (fun c o M e=>by rw[bw (fun z=>M (by simp[z]))];exact e) nd (fun c N=>.inl N) (fun G O' s hG _=>by
         subst hG;refine⟨s.hid,j,cG f (.int (v0+n)) u,if (fs.lookup f).isSome=true then h else h++[[]],?_,cn,by rw[bw J];exact e3,?_⟩
         ·split
          ·rfl
          ·simp
         ·refine I.putD (by rw[g];rfl) (.int _) s.hid fun c N=>bw (fun z=>?_);subst z;exact absurd N (fun w=>(List.nodup_cons.mp nd).1 (bY _ w)))
        exact⟨_,B,r,C,j,u,_,rfl,R,cl,S,l1,v0,n,rfl,rfl,j,u,R,by rw[I.len];exact A,fD.nx _ _ _ _ L s3 q⟩
      ·rw[if_neg A] at q;exact q.elim
     | _=>exact q.elim
end
theorem BW{G b H d:Hp}{f:Str}{p:Addr}{y:Fl}:∀{i:List (Str×V)}{fs:List (Str×Fl)}{a:List (List Addr)},bt G H i fs a->fs.lookup f=none->bR G b->(∀c∈a.flatten,d c=H c)->fR b d (.ref p) y [p]->bt b d (cG f (.ref p) i) (bJ f y fs) (a++[[p]])
 | _,_,_,.nil,_,_,_,h=>.cons h .nil
 | (n,v)::i,(_,z)::fs,o::a,.cons h1 h2,j,g,k,h=>by
  by_cases e:f=n
  ·subst e;simp[List.lookup] at j
  ·have m:(f==n)=false:=by simpa using e
   rw[List.lookup_cons,m] at j;unfold cG bJ;rw[if_neg (fun z=>e z.symm),if_neg (fun z=>e z.symm)];exact .cons (h1.keep (fun c l=>k c (by rw[List.flatten_cons];exact bi _ l)) g) (BW h2 j g (fun c l=>k c (by rw[List.flatten_cons];exact bh _ l)) h)
theorem aC.fldNew{K:Frag}{F:Fx}{H:Hp}{Y:St}{U:ak}{O:List Addr}{C:Addr}{i:Nat}{io:Bool}{fs:List (Str×Fl)}{f:Str}(st:aC K F H Y U O)(D:bT C U i=some (io,fs))(lk:fs.lookup f=none) :
  ∃a d g,Y[i]? = some (some (.ref a))/\H a=some (.ins C d g)/\g.length=fs.length/\
   ∀(p:Addr) (h:HO) (y:Fl),H p=none->Mv h->(∀G,bR (aw O H) G->fR G (aN (aN H p h) a (.ins C d (cG f (.ref p) g))) (.ref p) y [p])->aN H p h a=some (.ins C d g)/\∃l,aC K F (aN (aN H p h) a (.ins C d (cG f (.ref p) g))) Y (U.set i (some (.own io (.o C (bJ f y fs))))) l/\aL O H l (aN (aN H p h) a (.ins C d (cG f (.ref p) g))):=by
 obtain⟨a,T,n,⟨d,g,j,E,q,v,w⟩,I,nd,up⟩:=st.boxN (iK D);subst E;have m:=nd;rw[List.nodup_cons,List.nodup_cons] at m;obtain⟨r,t,J⟩:=m;have ad:d≠a:=fun z=>r (by rw[z];exact List.mem_cons_self);refine⟨a,d,g,n,q,w.len,fun p h y k X L=>?_⟩;have pa:a≠p:=fun z=>by subst z;rw[q] at k;cases k
 have A:d≠p:=fun z=>by subst z;rw[v] at k;cases k
 have M:=st.live;have B:p∉j.flatten:=fun z=>by exact absurd (I p (bY _ (bY _ z))) (st.nofree p k)
 refine⟨by rw[bw pa];exact q,?_⟩;obtain⟨l,u,N,_⟩:=up (aN (aN H p h) a (.ins C d (cG f (.ref p) g))) (.o C (bJ f y fs)) (a::d::(j++[[p]]).flatten) (fun c o b e=>by
   rw[bw (fun z=>b (by simp[z])),bw (fun z=>by subst z;rw[k] at e;cases e)];exact e) (by
   rw[List.flatten_append];simp only[List.flatten_cons,List.flatten_nil,List.append_nil];refine List.nodup_cons.mpr ⟨fun z=>?_,List.nodup_cons.mpr ⟨fun z=>?_,List.nodup_append.mpr ⟨J,by simp,fun x Q y R=>?_⟩⟩⟩
   ·rcases List.mem_cons.mp z with z | z
    ·exact ad z.symm
    ·rcases List.mem_append.mp z with z | z
     ·exact r (bY _ z)
     ·exact pa (List.mem_singleton.mp z)
   ·rcases List.mem_append.mp z with z | z
    ·exact t z
    ·exact A (List.mem_singleton.mp z)
   ·rw[List.mem_singleton.mp R];exact fun z=>B (by rw[<-z];exact Q)) (fun c b=>by
   rw[List.flatten_append] at b;simp only[List.flatten_cons,List.flatten_nil,List.append_nil] at b;rcases List.mem_cons.mp b with rfl | b
   ·exact .inl List.mem_cons_self
   ·rcases List.mem_cons.mp b with rfl | b
    ·exact .inl (by simp)
    ·rcases List.mem_append.mp b with b | b
     ·exact .inl (bY _ (bY _ b))
     ·exact .inr (by rw[List.mem_singleton.mp b];exact k)) (fun G l s S _=>by
  subst S;refine⟨s.hid,d,cG f (.ref p) g,j++[[p]],rfl,cn,by rw[bw ad,bw A];exact v,BW w lk s.hid (fun c b=>?_) (L _ s.hid)⟩;rw[bw (fun z=>r (by rw[<-z];exact bY _ b)),bw (fun z=>B (by rw[<-z];exact b))])
 exact⟨l,u,N⟩
section
variable{X:Cx}{F:Fx}{E:Str->ak->Prop}{e a b c:Expr}{es:List Expr}{st:Stmt}{pos p1 p2 apos cpos fpos pos':Pos}{x f:Str}{C:Addr}{i:Nat}{m:XM PyData}
noncomputable def lv(C:Addr)(i:Nat)(f:Str)(y:Fl):SM:=fun U=>match bT C U i with
 | some (io,fs)=>if fs.lookup f=none/\fs.length<1000 then .nx (U.set i (some (.own io (.o C (bJ f y fs))))) else .bad
 | none=>.bad
theorem Ms(cl:dg X.K C)(r:cO X.K C f)(s:PE X (.Name x p1) (cf i))(t:swapsWith (.List [] p2) (some (.Attribute (.Name x p1) f pos')) pos.line X.env=pure false:=by rfl):FS X F E (.Assign [.Attribute (.Name x p1) f pos'] (.List [] p2) pos) (lv C i f (.l [])):=
 (pX s (pY dQ) t).imp fun D Y H ⟨U,O,L,st,q,u⟩=>by
  unfold bV lv at q;cases h:bT C U i with
  | none=>rw[h] at q;exact q.elim
  | some p=>
   obtain⟨io,fs⟩:=p;rw[h] at q;simp only at q
   by_cases d:fs.lookup f=none/\fs.length<1000
   ·rw[if_pos d] at q;obtain⟨o,v,w,j,y,A,B⟩:=st.fldNew h d.1;refine⟨Nat.zero_le _,fun p k=>?_⟩;have pa:o≠p:=fun z=>by subst z;rw[y] at k;cases k
    obtain⟨J,M,n,I⟩:=B p (.lst []) (.l []) k trivial (fun G g=>⟨p,[],rfl,rfl,by rw[bw (fun z=>pa z.symm),cn],.nil⟩);exact⟨_,j,o,C,v,w,rfl,J,cl,r,by rw[A];exact d.2,u.nx _ _ _ _ n I q⟩
   ·rw[if_neg d] at q;exact q.elim
theorem Mt(cl:dg X.K C)(o:cO X.K C f)(r:PE X (.Name x p1) (cf i))(s:swapsWith (.Dict [] [] p2) (some (.Attribute (.Name x p1) f pos')) pos.line X.env=pure false:=by rfl):FS X F E (.Assign [.Attribute (.Name x p1) f pos'] (.Dict [] [] p2) pos) (lv C i f (.m true [])):=
 (pX r zQ s).imp fun D Y H ⟨U,O,L,st,q,t⟩=>by
  unfold bV lv at q;cases h:bT C U i with
  | none=>rw[h] at q;exact q.elim
  | some p=>
   obtain⟨io,fs⟩:=p;rw[h] at q;simp only at q
   by_cases d:fs.lookup f=none/\fs.length<1000
   ·rw[if_pos d] at q;obtain⟨n,u,v,j,w,y,A⟩:=st.fldNew h d.1;intro p k;have I:n≠p:=fun z=>by subst z;rw[w] at k;cases k
    obtain⟨J,M,l,B⟩:=A p (.dT []) (.m true []) k trivial (fun G g=>⟨p,rfl,rfl,[],by rw[bw (fun z=>I z.symm),cn],.nil⟩);exact⟨_,j,n,C,u,v,rfl,J,cl,o,by rw[y];exact d.2,t.nx _ _ _ _ l B q⟩
   ·rw[if_neg d] at q;exact q.elim
noncomputable def rc(C:Addr)(i:Nat)(f:Str):XM PyData:=fun U=>match bT C U i with
 | some (_,fs)=>(match fs.lookup f with
  | some (.l ds)=>.ok (.list ds) U
  | _=>.bad)
 | none=>.bad
theorem Mu{u:Pos}(v:Gl X "list")(w:X.mg "list" = none)(cl:dg X.K C)(y:cO X.K C f)(z:PE X (.Name x p1) (cf i))(A:attributeBase (.Name x p1) f X.env (eval (.Name x p1) X.env)=eval (.Name x p1) X.env:=by rfl)
  (r:starEach [.Attribute (.Name x p1) f fpos] X.env=(false,eval (.Attribute (.Name x p1) f fpos) X.env)::starEach [] X.env:=by rfl) (j:(backTo pos (starEach [] X.env)).any (·.1)=false:=by rfl) :
  FE X F E (.Call (.Name "list" u) [.Attribute (.Name x p1) f fpos] [] pos) (rc C i f):=
 ⟨aH,(zt Hh v w (show bootBuiltins "list" = some (.type "list") by decide +kernel) (da (lZ z A) dQ r) (by decide) (by decide) r j).imp fun Y H Q ⟨U,O,st,q⟩=>by
  unfold wp rc at q;cases k:bT C U i with
  | none=>rw[k] at q;exact q.elim
  | some p=>
   obtain⟨io,fs⟩:=p;rw[k] at q;simp only at q;cases g:fs.lookup f with
   | none=>rw[g] at q;exact q.elim
   | some t=>
    rw[g] at q;cases t with
    | d _=>exact q.elim
    | m _ _=>exact q.elim
    | l ds=>
     obtain⟨B,D,G,s,n,I,l1,⟨N,J,L,_,M,o⟩,_⟩:=st.fldUp k g rfl;cases L;exact⟨_,n,B,C,D,G,.ref s,rfl,I,cl,y,l1,s,J,rfl,.inl (.of M),fun p h=>q _ _ O (st.grow (bN h)) (.same (bN h)) (hJ h (st.nofree p h) o)⟩⟩
end
end L2.L3
namespace L2
open PySem
section
variable{prog:Program}{w:World}{A:Around}{E:Value->Shared->Prop}{s:Shared}
theorem BX(a d:Value):argsOk "min" ⟨[a],[("default",d)]⟩:=by unfold argsOk;kernel_rfl
theorem BY{id:String}{b:Builtin}{args:List Value}{d:List (Str×Value)}{Q:Value->Shared->Prop}(k:builtinKind id=none)(l:plainId id=true)(m:entryFor table id=some b)(n:argsOk id ⟨args,d⟩)
  (i:wpAny (model prog w) A.in1 (b ⟨args,d⟩) (fun fin a=>match fin with
   | .done f=>(match (Except.ok f:Result) with | .ok (.ret v)=>Q v a | .ok _=>False | .error e=>E e a)
   | .again j=>j.quiet=true/\codeAny (model prog w) A j (fun r a=>match r with | .ok (.ret v)=>Q v a | .ok _=>False | .error e=>E e a) a) E s):wpAny (model prog w) A (call (.builtin id) args d) Q E s:=by
 refine wpAny_call (codeAny_call_builtin l m ?_);simp only[checkBuiltinCall,k];cases c:Manifest.signature? id with
 | none=>exact bp i
 | some g=>
  have h:Bind.checkArgs id g ⟨args,d⟩=pure ():=by simpa only[argsOk,c] using n
  simp only[h];exact bp i
theorem Mw{l:Addr}{d:Value}{Q:Value->Shared->Prop}(p:A.handled=none)(k:s.heap.IsList l #[])(q:∀c,(∀b o,s.heap.get? b=some o->c.get? b=some o)->Q d { s with heap:=c }) :
  wpAny (model prog w) A (call (.builtin "min") [.ref l] [("default",d)]) Q E s:=by
 refine BY F.kind_min F.plain_min F.entry_min (BX _ _) ?_;show wpAny _ A.in1 (Builtin.Builtins.bindParams "min" ["key","default"] 0 ⟨[],[("default",d)]⟩ >>= _) _ _ s;refine az (wpAny_of_eq (show Builtin.Builtins.bindParams "min" ["key","default"] 0 ⟨[],[("default",d)]⟩=pure [none,some d] from rfl) ?_);refine az (bp ?_);refine az (wpAny_pyIter_list k ?_);refine az (wpAny_newObj_type ?_);have a:(toString "min"++toString ".loop":String)="min.loop":=by decide
 rw[a];obtain⟨ol,f,g,nl,h⟩:=id k;generalize m:(s.heap.push { cls:=.type "list_iterator",data:=.fields #[.ref l,.int 0 0] })=h1;have r:h1.get? s.heap.objs.size=some { cls:=.type "list_iterator",data:=.fields #[.ref l,.int 0 0] }:=by rw[<-m];exact Heap.get?_push_size _ rfl
 have n:∀b o,s.heap.get? b=some o->h1.get? b=some o:=fun b o e=>by rw[<-m];exact br _ e
 refine bp ⟨plainId_quiet F.plain_min_loop _,?_⟩;refine codeAny_builtin F.entry_min_loop ?_;rw[Around.under_plainId F.plain_min_loop _];have t:(h1.push { cls:=.type "list",data:=.seq #[] }).get? h1.objs.size=some { cls:=.type "list",data:=.seq #[] }:=Heap.get?_push_size _ rfl;show wpAny _ A.in1 (seqItems? (.ref h1.objs.size) >>= _) _ _ _;refine az (wpAny_seqItems t rfl ?_);show wpAny _ A.in1 (tryCatch (pyNext (.ref s.heap.objs.size)) _ >>= _) _ _ _;refine az (wpAny_tryCatch (wpAny_pyNext_list_end (i:=0) (l:=l) (items:=#[]) p ⟨_,br _ r,rfl,rfl⟩ ⟨ol,br _ (n _ _ f),g,nl,h⟩ rfl fun c j=>?_));refine az (wpAny_rule (bp ?_));exact q c fun b o e=>j b o (Nat.ne_of_lt (bC e)) (br _ (n b o e))
end
end L2
namespace L2.L3
open PySem PySem.Spec PyProof.Rows
def BZ(O:List Addr)(H:Hp)(J:It)(c:List PyData):Prop:=∀e a,aL O H e a->bR H a->kQ a e->
 (∀i d,c[i]? = some d->J.go i a/\∀x b,J.yld i a x b->bR a b/\DV (aw e b) x d)/\J.stop c.length a
theorem Wk.S{O:List Addr}{H:Hp}{J:It}{a:List PyData}(h:Wk O H J a):BZ O H J a:=fun b c s _ ok=>h b c s ok
noncomputable def Cb(K:Frag)(F:Fx)(s:dL):TI:=fun Y H R=>∃U O,aC K F H Y U O/\s U fun b d=>∀J a c,aC K F a Y d c->aL O H c a->BZ c a J b->R J a
structure wH (X:Cx) (F:Fx) (tg iter:Expr) (s:dL):Prop where
 mn:jN s
 pi:PI X tg iter (Cb X.K F s)
theorem DI.S{X:Cx}{F:Fx}{d iter:Expr}{s:dL}(h:DI X F d iter s):wH X F d iter s:=⟨h.mn,h.pi.imp fun Y H R ⟨U,O,st,q⟩=>⟨U,O,st,h.mn _ _ _ (fun e i k J f g a b c=>k J f g a b c.S) q⟩⟩
@[simp] noncomputable def wI:Option (Option ai)->Option ai
 | some (some (.own _ b))=>some (.vw b)
 | some (some (.exc _))=>none
 | some o=>o
 | none=>none
noncomputable def iM(own:List Str)(a:List Nat)(U:ak):ak:=own.map (fun _=>none)++a.map fun j=>wI U[j]?
mutual
@[simp] noncomputable def jw:PyData->Bool
 | .int _=>true
 | .bool _=>true
 | .none=>true
 | .str _=>true
 | .tuple ds=>mK ds
 | .list _=>false
 | .dict _=>false
@[simp] noncomputable def mK:List PyData->Bool
 | []=>true
 | d::ds=>jw d&&mK ds
end
theorem Cc:∀a:List PyData,a.all jw=mK a
 | []=>rfl
 | d::a=>by rw[List.all_cons,Cc a,mK]
mutual
theorem Mx{G G':Hp}(k:∀a u,¬ Mv u->G a=some u->G' a=some u):∀{v:V}{d:PyData},DV G v d->jw d=true->DV G' v d
 | _,_,.non,_=>.non
 | _,_,.bl b,_=>.bl b
 | _,_,.int i,_=>.int i
 | _,_,.str x,_=>.str x
 | _,_,.tup h r,f=>.tup (h.imp (fun e=>k _ _ id e) fun⟨⟨o,e⟩,z⟩=>⟨⟨o,k _ _ id e⟩,z⟩) (wJ k r (by simpa[jw] using f))
theorem wJ{G G':Hp}(k:∀a u,¬ Mv u->G a=some u->G' a=some u):∀{vs:List V}{ds:List PyData},aK G vs ds->mK ds=true->aK G' vs ds
 | _,_,.nil,_=>.nil
 | _,_,.cons h t,f=>by rw[mK,Bool.and_eq_true] at f;exact .cons (Mx k h f.1) (wJ k t f.2)
end
theorem My{G c:Hp}(k:∀a u,¬ Mv u->G a=some u->c a=some u){d:List V}{b:List PyData}(h:aK G d b)(f:b.all jw=true):aK c d b:=wJ k h (by rw[<-Cc];exact f)
noncomputable def rf(own:List Str)(f:List Nat)(s:dL)(g:dU)(l:cx)(m:DT):DT:=fun U Q=>s U fun c j=>∃e:Nat->List PyData->ak->Prop,e 0 [] (iM own f j)/\
 (∀i d a h,c[i]? = some d->e i a h->g d h fun n=>l n fun b k=>if b=true then m k fun y o=>a.length<sizeLine/\e (i+1) (a++[y]) o else e (i+1) a k)/\
 ∀a h,e c.length a h->a.length<=sizeLine/\a.all jw=true/\Q (.list a) j
section
variable{K:Frag}{F:Fx}{own:List Str}{caps:List Nat}{s:dL}{g:dU}{tc:cx}{te:DT}
theorem Mz(c:jN s):Mn (rf own caps s g tc te):=fun _ _ _ k q=>c _ _ _ (fun _ _ ⟨d,e,h1,h2⟩=>⟨d,e,h1,fun a b h=>⟨(h2 a b h).1,(h2 a b h).2.1,k _ _ (h2 a b h).2.2⟩⟩) q
theorem MA{PF:Fx->Prop}(hP:∀k Y A I O2,aC K F k Y A I->PF ⟨k,[],O2,fun _=>0⟩)(hs:jN s)(hg:∀d U Q Q',(∀B,Q B->Q' B)->g d U Q->g d U Q')(ht:ix tc)(he:Mn te):∀Y H Q,fT K F (rf own caps s g tc te) Y H Q->
  jI own caps (Cb K F s) (fun v Y H Q=>∃L,PF L/\ml K L g v Y H Q) (fun Y H Q=>∃L,PF L/\ji K L tc Y H Q) (fun Y H Q=>∃L,PF L/\fT K L te Y H Q) Y H Q:=fun Y H Q ⟨U,O,st,q⟩=>by
 refine⟨U,O,st,hs _ _ _ (fun f A ⟨Iv,i0,step,fin⟩ J k I n s1 wk=>?_) q⟩;obtain⟨W,T,X⟩:=id n;let V:List Addr:=(caps.map fun j=>(W[j]?).getD []).flatten;let r:List Addr:=I.filter fun a=>decide (a∉V);have sub:∀a∈r,a∈I:=fun a h=>(List.mem_filter.mp h).1;have a2:r.Nodup:=by
  have:I.Nodup:=by rw[X];exact T.nd
  exact this.filter _
 have a3:∀j∈caps,∀l,W[j]? = some l->∀a∈l,a∉r:=fun j hj l hl a ha z=>by have h1:=(List.mem_filter.mp z).2;simp only[decide_eq_true_eq] at h1;exact h1 (List.mem_flatten.mpr ⟨l,List.mem_map.mpr ⟨j,hj,by rw[hl];rfl⟩,ha⟩)
 have Z:∀j∈caps,∀c,wI A[j]? = some c->(∀io b,c≠.own io b)/\∃v,Y[j]? = some (some v)/\cP K k r v c []:=fun j hj c w=>by
  cases h3:A[j]? with
  | none=>rw[h3] at w;cases w
  | some o=>
   cases o with
   | none=>rw[h3] at w;cases w
   | some c'=>
    rw[h3] at w;obtain⟨v,fp,t,e0,C⟩:=T.at_ j c' h3;rw[<-X] at C;have D:aL I k r k:=eB sub;cases c' with
    | dat d=>cases w;exact⟨(fun _ _ z=>by cases z),v,t,cP.keep (c:=.dat d) (fp:=[]) C D (fun _ _=>rfl) fun _ _ _ e=>e⟩
    | scr ns=>cases w;exact⟨(fun _ _ z=>by cases z),v,t,cP.keep (c:=.scr ns) (fp:=[]) C D (fun _ _=>rfl) fun _ _ _ e=>e⟩
    | exc _=>cases w
    | vw b=>cases w;exact⟨(fun _ _ z=>by cases z),v,t,cP.keep (c:=.vw b) (fp:=[]) C D (fun _ _=>rfl) fun _ _ _ e=>e⟩
    | own io b=>cases w;obtain⟨a,ev,q2⟩:=C;refine⟨(fun _ _ z=>by cases z),v,t,a,fp,ev,q2.keep (fun c hc=>?_) D.hid⟩;obtain⟨o,eo,_⟩:=q2.live c hc;rw[eo];exact gk eo (a3 j hj fp e0 c hc)
 refine⟨fun i m ys Y' N=>∃B R M,aC K ⟨k,[],r,fun _=>0⟩ N Y' B R/\Iv i M B/\aK (aw R N) ys M/\i<=f.length/\m=f.length - i,⟨f.length,iM own caps A,r,[],?_,i0,.nil,Nat.zero_le _,rfl⟩,?_⟩
 ·have cell:∀(i:Nat) (c:ai),(iM own caps A)[i]? = some (some c)->(∀io b,c≠.own io b)/\∃v,(dB own caps Y)[i]? = some (some v)/\cP K k r v c []:=fun i c e=>by
   unfold iM at e;unfold dB
   by_cases hi:i<own.length
   ·rw[List.getElem?_append_left (by simpa using hi),List.getElem?_map] at e;cases h:own[i]? with
    | none=>rw[h] at e;cases e
    | some y=>rw[h] at e;cases e
   ·rw[List.getElem?_append_right (by simpa using Nat.le_of_not_lt hi),List.length_map,List.getElem?_map] at e;rw[List.getElem?_append_right (by simpa using Nat.le_of_not_lt hi),List.length_map,List.getElem?_map];obtain⟨j,h1,w⟩:=Option.map_eq_some_iff.mp e;rw[h1];show _/\∃v,some ((Y[j]?).getD none)=some (some v)/\_;obtain⟨n1,v,t,C⟩:=Z j (List.mem_of_getElem? h1) c w;rw[t];exact⟨n1,v,rfl,C⟩
  have ln:(iM own caps A).length=(dB own caps Y).length:=by unfold iM dB;simp
  have fl:(List.replicate (iM own caps A).length ([]:List Addr)).flatten++r=r:=by rw[jM];rfl
  refine⟨List.replicate (iM own caps A).length [],⟨fun i c e=>?_,by show(_++r).Nodup;rw[fl];exact a2,fun _ _ _ h=>h,fun a h=>?_,by show kQ k (_++r);rw[fl];exact fun a ha=>n.live a (sub a ha),ln,by simp,fun i b e=>absurd rfl ((cell i _ e).1 true b)⟩,fl.symm⟩
  ·obtain⟨_,v,t,C⟩:=cell i c e;refine⟨v,[],t,?_,by show cP K k (_++r) v c [];rw[fl];exact C⟩;rw[List.getElem?_replicate,if_pos (List.getElem?_eq_some_iff.mp e).1]
  ·rw[jM] at h;cases h
 ·rintro i m ys Y' N ⟨B,R,M,E,iv,dv,hi,rfl⟩;have S:bR k N:=fun b o e=>by obtain⟨W',h',_⟩:=id E;exact h'.kept b o (by simp) e
  have a4:aL I k R N:=⟨fun b o _ e=>S b o e,fun a h=>by
   obtain⟨W',h',rfl⟩:=id E;rcases List.mem_append.mp h with h | h
   ·exact(h'.new a h).elim (fun z=>absurd z (by simp)) .inr
   ·exact .inl (sub a h)⟩
  obtain⟨w1,w2⟩:=wk R N a4 S E.live
  by_cases G:i<f.length
  ·obtain⟨go,yld⟩:=w1 i f[i] (List.getElem?_eq_getElem G);refine .inr ⟨go,fun x H2 hy=>?_⟩;obtain⟨a0,dx⟩:=yld x H2 hy;refine⟨⟨k,[],r,fun _=>0⟩,hP _ _ _ _ _ n,B,R,f[i],E.grow a0,dx,hg _ _ _ _ (fun U2 q2 Y3 H3 O3 a5 s3=>?_) (step i f[i] M B (List.getElem?_eq_getElem G) iv)⟩;refine⟨⟨k,[],r,fun _=>0⟩,hP _ _ _ _ _ n,U2,O3,a5,ht _ _ _ (fun b U3 q3 H4 O4 a1 s4=>?_) q2⟩;have d4:aK (aw O4 H4) ys M:=aK.mono s4.hid (aK.mono s3.hid (aK.mono (jg a0) dv));cases b with
   | false=>exact dZ ⟨f.length - (i+1),by omega,U3,O4,M,a1,iw q3,d4,G,rfl⟩
   | true=>refine ed ⟨⟨k,[],r,fun _=>0⟩,hP _ _ _ _ _ n,U3,O4,a1,he _ _ _ (fun y U4 q4 v H5 O5 a6 s5 dy=>?_) (iu q3)⟩;refine⟨by rw[d4.length];exact q4.1,f.length - (i+1),by omega,U4,O5,M++[y],a6,q4.2,(aK.mono s5.hid d4).append (.cons dy .nil),G,rfl⟩
  ·have e:i=f.length:=by omega
   subst e;obtain⟨hz,a7,q⟩:=fin M B iv;refine .inl ⟨w2,by rw[dv.length];exact hz,fun p hp=>?_⟩;have a8:k p=none:=by
    cases e:k p with
    | none=>rfl
    | some o=>rw[S p o e] at hp;cases hp
   exact q _ _ I (n.grow fun b o e=>bN hp _ _ (S b o e)) (s1.trans (.same fun b o e=>bN hp _ _ (S b o e))) (hJ hp (n.nofree p a8) (My (fun a u nm e=>by
    obtain⟨t,_⟩:=cK e;refine gk t fun z=>?_;obtain⟨o,eo,mo⟩:=n.live a z;rw[S a o eo] at t;cases t;exact nm mo) dv a7))
end
section
variable{X:Cx}{F:Fx}{scope:Scope}{own capN:List Str}{caps:List Nat}{tg iter elt:Expr}{ifs:List Expr}{s:dL}{g:dU}{tc:cx}{te:DT}{pos:Pos}
theorem MB(k:GF X.mg F)(S:aj X scope own capN caps)(l:X.calm=true)(j:wH X F tg iter s)
  (c:∀C d e f h b,GF X.mg b->DG (bK X scope (own++capN) C d e f h) b tg g/\kR (bK X scope (own++capN) C d e f h) b ifs tc/\DE (bK X scope (own++capN) C d e f h) b elt te)
  (m:∀x,foldedSetIterable iter X.env x=pure x:=by intro _;rfl):DE X F (.ListComp elt [⟨tg,iter,ifs,0⟩] scope pos) (rf own caps s g tc te):=by
 obtain⟨n,o,p⟩:=c 0 [] (PySem.start X.prog).1 (fun _=>none) [] F k;refine⟨Mz j.mn,(qi S l j.pi (fun C d e f h=>⟨fun a s Y H v u Q I r ⟨b,i,q⟩=>(c C d e f h b i).1.pg a s Y H v u Q I r q,fun a s Y H Q I ⟨b,i,q⟩=>(c C d e f h b i).2.1.2 a s Y H Q I q,fun a s Y H Q I ⟨b,i,q⟩=>(c C d e f h b i).2.2.pe a s Y H Q I q⟩) m).imp (MA (fun _ _ _ _ _ st=>k.into st) j.mn n.mn o.1 p.mn)⟩
end
@[simp] noncomputable def rg(own:Nat)(a:List Nat)(U:ak):ak:=List.replicate own none++a.map fun j=>wI U[j]?
@[simp] noncomputable def Cd(own:Nat)(a:List Nat)(g:GM)(t:XM Bool)(m:XM PyData)(b:List PyData):XM PyData:=fun d=>lift ((cj g t m b [] (rg own a d)).bind fun c=>if c.length<=sizeLine/\c.all jw=true then some (.list c) else none) d
@[simp] noncomputable def wK(own:Nat)(a:List Nat)(s:XM (List PyData))(g:GM)(t:XM Bool)(m:XM PyData):XM PyData:=fun U=>(s U).bind (Cd own a g t m)
section
variable{X:Cx}{F:Fx}{E:Str->ak->Prop}{pos:Pos}
theorem MC{own:List Str}{f:List Nat}{s:XM (List PyData)}{g:GM}{t:XM Bool}{m:XM PyData}{U:ak}{Q:PyData->ak->Prop}(q:wp E (wK own.length f s g t m) U Q):rf own f (wp E s) (er g) (wp dH t) (wp dH m) U Q:=aH _ _ _ (fun l p C=>by
 obtain⟨y,D,z⟩:=cV (o:=(cj g t m l [] (rg own.length f p)).bind fun n=>if n.length<=sizeLine/\n.all jw=true then some (PyData.list n) else none) (U:=p) (E:=E) (Q:=Q) C;obtain⟨j,G,r⟩:=Option.bind_eq_some_iff.mp D;have u:(j.length<=sizeLine/\j.all jw=true)/\y=.list j:=by
  split at r
  ·rename_i h;cases r;exact⟨h,rfl⟩
  ·cases r
 have H:iM own f p=rg own.length f p:=by unfold iM rg;rw[List.map_const']
 refine⟨fun i n U=>cj g t m (l.drop i) n U=some j,by rw[H];exact G,fun i d n U hd a=>?_,fun n U h=>?_⟩
 ·have e:l.drop i=d::l.drop (i+1):=by obtain⟨v,I⟩:=List.getElem?_eq_some_iff.mp hd;rw[<-I];exact List.drop_eq_getElem_cons v
  simp only[e] at a;unfold cj at a;unfold er;cases A:g d U with
  | none=>rw[A] at a;cases a
  | some J=>
   rw[A] at a;simp only at a ⊢;unfold wp;cases w:t J with
   | ex c B=>rw[w] at a;cases a
   | bad=>rw[w] at a;cases a
   | ok b B=>
    rw[w] at a;cases b with
    | false=>exact dZ a
    | true=>
     refine ed ?_;simp only at a ⊢;cases x:m B with
     | ex c L=>rw[x] at a;cases a
     | bad=>rw[x] at a;cases a
     | ok M L=>
      rw[x] at a;simp only at a ⊢;split at a
      ·rename_i h;exact⟨h,a⟩
      ·cases a
 ·simp only[List.drop_length] at h;have:n=j:=by unfold cj at h;exact Option.some.inj h
  subst this;rw[u.2] at z;exact⟨u.1.1,u.1.2,z⟩) (bO (k:=Cd own.length f g t m) q)
theorem DE.imp'{e:Expr}{t t':DT}(h:DE X F e t)(a:Mn t')(k:∀U Q,t' U Q->t U Q):DE X F e t':=⟨a,h.pe.imp fun Y H Q ⟨U,O,st,q⟩=>⟨U,O,st,k U _ q⟩⟩
theorem ME{a:Scope}{own b:List Str}{c:List Nat}{h iter d:Expr}{e:List Expr}{s:XM (List PyData)}{g:GM}{t:XM Bool}{m:XM PyData}{n:Nat}(p:GF X.mg F)(S:aj X a own b c)(r:X.calm=true)(u:own.length=n)(v:wH X F h iter (wp E s))
  (i:∀C j k l o f,GF X.mg f->FG (bK X a (own++b) C j k l o) f h g/\kY (bK X a (own++b) C j k l o) f dH e t/\FE (bK X a (own++b) C j k l o) f dH d m)
  (w:∀x,foldedSetIterable iter X.env x=pure x:=by intro _;rfl):FE X F E (.ListComp d [⟨h,iter,e,0⟩] a pos) (wK n c s g t m):=by
 subst u;exact DE.imp' (MB p S r v i w) aH fun U Q q=>MC q
theorem aC.view{K:Frag}{H:Hp}{Y:St}{U:ak}{O:List Addr}(st:aC K F H Y U O){i:Nat}{b:Bx}(e:U[i]? = some (some (.vw b))):∃a d,Y[i]? = some (some (.ref a))/\fe (aw O H) (aw O H) a b d:=by obtain⟨W,h,rfl⟩:=st;obtain⟨v,d,h1,h2,a,c,rfl,h3⟩:=h.at_ i _ e;exact⟨a,c,h1,h3⟩
end
section
variable{K:Frag}{F:Fx}{own:List Str}{caps:List Nat}{s:dL}{g:dU}{tc:cx}{te:DT}
theorem MG{T:Fx->Prop}(hP:∀u Y w k O2,aC K F u Y w k->T ⟨u,[],O2,fun _=>0⟩)(hs:jN s)(hg:∀d U Q Q',(∀n,Q n->Q' n)->g d U Q->g d U Q')(ht:ix tc)(he:Mn te):∀(Y:St) (H:Hp) (Q:VK),(∃U O,aC K F H Y U O/\s U fun f w=>∃G:Nat->List PyData->ak->Prop,G 0 [] (cF own caps w)/\
   (∀i d r n,f[i]? = some d->G i r n->g d n fun U2=>tc U2 fun b L=>if b=true then te L fun y U4=>r.length<sizeLine/\G (i+1) (r++[y]) U4 else G (i+1) r L)/\
   ∀r n,G f.length r n->r.length<=sizeLine/\∀t A vs p,aC K F t Y w A->aL O H A t->aK (aw A t) vs r->t p=none->Q (.ref p) (aN t p (.lst vs)))->
  jI own caps (nW K F s) (fun v Y H Q=>∃D,T D/\ml K D g v Y H Q) (fun Y H Q=>∃D,T D/\ji K D tc Y H Q) (fun Y H Q=>∃D,T D/\fT K D te Y H Q) Y H Q:=fun Y H Q ⟨U,O,st,q⟩=>by
 refine⟨U,O,st,hs _ _ _ (fun f w ⟨G,i0,step,fin⟩ J u k l s1 wk=>?_) q⟩;refine⟨fun i m r Y' t=>∃n A E,aC K ⟨u,[],k,fun _=>0⟩ t Y' n A/\G i E n/\aK (aw A t) r E/\i<=f.length/\m=f.length - i,⟨f.length,cF own caps w,k,[],?_,i0,.nil,Nat.zero_le _,rfl⟩,?_⟩
 ·have cell:∀(i:Nat) (c:ai),(cF own caps w)[i]? = some (some c)->(∀io b,c≠.own io b)/\∃v,(dB own caps Y)[i]? = some (some v)/\cP K u k v c []:=fun i c e=>by
   unfold cF at e;unfold dB
   by_cases X:i<own.length
   ·rw[List.getElem?_append_left (by simpa using X),List.getElem?_map] at e;cases h:own[i]? with
    | none=>rw[h] at e;cases e
    | some y=>rw[h] at e;cases e
   ·rw[List.getElem?_append_right (by simpa using Nat.le_of_not_lt X),List.length_map,List.getElem?_map] at e;rw[List.getElem?_append_right (by simpa using Nat.le_of_not_lt X),List.length_map,List.getElem?_map];obtain⟨j,h1,h2⟩:=Option.map_eq_some_iff.mp e;rw[h1];show _/\∃v,some ((Y[j]?).getD none)=some (some v)/\_;cases h3:w[j]? with
    | none=>rw[h3] at h2;cases h2
    | some o=>
     cases o with
     | none=>rw[h3] at h2;cases h2
     | some c'=>
      rw[h3] at h2;obtain⟨W,I,rfl⟩:=id l;obtain⟨v,fp,e1,_,M⟩:=I.at_ j c' h3;rw[e1];cases c' with
      | dat d=>cases h2;exact⟨(fun _ _ z=>by cases z),v,rfl,M⟩
      | scr ns=>cases h2;exact⟨(fun _ _ z=>by cases z),v,rfl,M⟩
      | own _ _=>cases h2
      | exc _=>cases h2
      | vw b=>cases h2;exact⟨(fun _ _ z=>by cases z),v,rfl,M⟩
  obtain⟨W,I,a0⟩:=id l;have ln:(cF own caps w).length=(dB own caps Y).length:=by unfold cF dB;simp
  have Z:(List.replicate (cF own caps w).length ([]:List Addr)).flatten++k=k:=by rw[jM];rfl
  refine⟨List.replicate (cF own caps w).length [],⟨fun i c e=>?_,by show(_++k).Nodup;rw[Z,a0];exact I.nd,fun _ _ _ h=>h,fun a h=>?_,by show kQ u (_++k);rw[Z];exact l.live,ln,by simp,fun i b e=>absurd rfl ((cell i _ e).1 true b)⟩,Z.symm⟩
  ·obtain⟨_,v,e1,M⟩:=cell i c e;refine⟨v,[],e1,?_,by show cP K u (_++k) v c [];rw[Z];exact M⟩;rw[List.getElem?_replicate,if_pos (List.getElem?_eq_some_iff.mp e).1]
  ·rw[jM] at h;cases h
 ·rintro i m r Y' t ⟨n,A,E,B,iv,dv,X,rfl⟩;have sm:bR u t:=fun b o e=>by obtain⟨W',h',_⟩:=id B;exact h'.kept b o (by simp) e
  have a1:aL k u A t:=⟨fun b o _ e=>sm b o e,fun a h=>by
   obtain⟨W',h',rfl⟩:=id B;rcases List.mem_append.mp h with h | h
   ·exact(h'.new a h).elim (fun z=>absurd z (by simp)) .inr
   ·exact .inl h⟩
  have N:∀a∈k,a∈A:=fun a h=>by obtain⟨W',h',rfl⟩:=id B;exact bh _ h
  obtain⟨w1,w2⟩:=wk A t a1 B.live
  by_cases C:i<f.length
  ·obtain⟨go,yld⟩:=w1 i f[i] (List.getElem?_eq_getElem C);refine .inr ⟨go,fun x H2 hy=>?_⟩;obtain⟨R,dx⟩:=yld x H2 hy;refine⟨⟨u,[],k,fun _=>0⟩,hP _ _ _ _ _ l,n,A,f[i],B.grow R,dx,hg _ _ _ _ (fun U2 q2 Y3 H3 O3 a2 s3=>?_) (step i f[i] E n (List.getElem?_eq_getElem C) iv)⟩;refine⟨⟨u,[],k,fun _=>0⟩,hP _ _ _ _ _ l,U2,O3,a2,ht _ _ _ (fun b L q3 H4 O4 S s4=>?_) q2⟩;have d4:aK (aw O4 H4) r E:=aK.mono s4.hid (aK.mono s3.hid (aK.mono (jg R) dv));cases b with
   | false=>exact dZ ⟨f.length - (i+1),by omega,L,O4,E,S,iw q3,d4,C,rfl⟩
   | true=>refine ed ⟨⟨u,[],k,fun _=>0⟩,hP _ _ _ _ _ l,L,O4,S,he _ _ _ (fun y U4 q4 v H5 O5 a3 s5 dy=>?_) (iu q3)⟩;refine⟨by rw[d4.length];exact q4.1,f.length - (i+1),by omega,U4,O5,E++[y],a3,q4.2,(aK.mono s5.hid d4).append (.cons dy .nil),C,rfl⟩
  ·have e:i=f.length:=by omega
   subst e;obtain⟨hz,q⟩:=fin E n iv;exact .inl ⟨w2,by rw[dv.length];exact hz,fun p hp=>q t k r p (l.grow sm) (s1.trans (.same sm)) (aK.mono (nM N) dv) hp⟩
end
section
variable{X:Cx}{F:Fx}{E:Str->ak->Prop}{pos:Pos}
theorem MH{own:List Str}{k:List Nat}{s:XM (List PyData)}{g:GM}{t:XM Bool}{m:XM PyData}{U:ak}{P:List PyData->ak->Prop}(q:wp E s U fun f l=>∃j,cj g t m f [] (iF own.length k l)=some j/\j.length<=sizeLine/\P j l) :
  wp E s U fun f l=>∃n:Nat->List PyData->ak->Prop,n 0 [] (cF own k l)/\
   (∀i d j r,f[i]? = some d->n i j r->er g d r fun u=>wp dH t u fun b o=>if b=true then wp dH m o fun y v=>j.length<sizeLine/\n (i+1) (j++[y]) v else n (i+1) j o)/\
   ∀j r,n f.length j r->j.length<=sizeLine/\P j l:=aH _ _ _ (fun f l ⟨p,B,C,D⟩=>by
 have G:cF own k l=iF own.length k l:=by unfold cF iF;rw[List.map_const']
 refine⟨fun i j U=>cj g t m (f.drop i) j U=some p,by rw[G];exact B,fun i d j U hd a=>?_,fun j U h=>?_⟩
 ·have e:f.drop i=d::f.drop (i+1):=by obtain⟨w,H⟩:=List.getElem?_eq_some_iff.mp hd;rw[<-H];exact List.drop_eq_getElem_cons w
  simp only[e] at a;unfold cj at a;unfold er;cases A:g d U with
  | none=>rw[A] at a;cases a
  | some u=>
   rw[A] at a;simp only at a ⊢;unfold wp;cases x:t u with
   | ex c o=>rw[x] at a;cases a
   | bad=>rw[x] at a;cases a
   | ok b o=>
    rw[x] at a;cases b with
    | false=>exact dZ a
    | true=>
     refine ed ?_;simp only at a ⊢;cases z:m o with
     | ex c v=>rw[z] at a;cases a
     | bad=>rw[z] at a;cases a
     | ok I v=>
      rw[z] at a;simp only at a ⊢;split at a
      ·rename_i h;exact⟨h,a⟩
      ·cases a
 ·simp only[List.drop_length] at h;have:j=p:=by unfold cj at h;exact Option.some.inj h
  subst this;exact⟨C,D⟩) q
noncomputable def rh(C:Addr)(i:Nat)(f:Str)(own:Nat)(a:List Nat)(g:GM)(t:XM Bool)(m:XM PyData)(b:List PyData):SM:=fun U=>match cj g t m b [] (iF own a U),bT C U i with
 | some c,some (io,fs)=>if c.length<=sizeLine/\fs.lookup f=none/\fs.length<1000 then .nx (U.set i (some (.own io (.o C (bJ f (.l c) fs))))) else .bad
 | _,_=>.bad
noncomputable def wL(C:Addr)(i:Nat)(f:Str)(own:Nat)(a:List Nat)(s:XM (List PyData))(g:GM)(t:XM Bool)(m:XM PyData):SM:=fun U=>dM (s U) (rh C i f own a g t m)
theorem MI{C:Addr}{i:Nat}{f x:Str}{T w y:Pos}{a:Scope}{own capN:List Str}{caps:List Nat}{N iter h:Expr}{j:List Expr}{s:XM (List PyData)}{g:GM}{t:XM Bool}{m:XM PyData}{n:Nat}(cl:dg X.K C)(na:cO X.K C f)(hv:PE X (.Name x T) (cf i))(hG:GF X.mg F)(S:aj X a own capN caps)(hc:X.calm=true)(hn:own.length=n)(hi:FI X F E N iter s)
  (o:∀C A B J M b,GF X.mg b->FG (bK X a (own++capN) C A B J M) b N g/\kY (bK X a (own++capN) C A B J M) b dH j t/\FE (bK X a (own++capN) C A B J M) b dH h m)
  (Z:swapsWith (.ListComp h [⟨N,iter,j,0⟩] a pos) (some (.Attribute (.Name x T) f w)) y.line X.env=pure false:=by rfl)
  (hs:∀x,foldedSetIterable iter X.env x=pure x:=by intro _;rfl):FS X F E (.Assign [.Attribute (.Name x T) f w] (.ListComp h [⟨N,iter,j,0⟩] a pos) y) (wL C i f n caps s g t m):=by
 subst hn;obtain⟨hg,ht,he⟩:=o 0 [] (PySem.start X.prog).1 (fun _=>none) [] F hG;have pe:PE X (.ListComp h [⟨N,iter,j,0⟩] a pos) (jI own caps (nW X.K F (wp E s)) (fun v Y H Q=>∃b,GF X.mg b/\ml X.K b (er g) v Y H Q) (fun Y H Q=>∃b,GF X.mg b/\ji X.K b (wp dH t) Y H Q) (fun Y H Q=>∃b,GF X.mg b/\fT X.K b (wp dH m) Y H Q)):=qi S hc hi.pi (fun C A B J M=>⟨fun c s Y H v u Q I r ⟨b,R,q⟩=>(o C A B J M b R).1.pg c s Y H v u Q I r q,fun c s Y H Q I ⟨b,R,q⟩=>(o C A B J M b R).2.1.2 c s Y H Q I q,fun c s Y H Q I ⟨b,R,q⟩=>(o C A B J M b R).2.2.pe c s Y H Q I q⟩) hs;refine(pX hv pe Z).imp fun D Y H ⟨U,O,DD,st,q,fD⟩=>?_;refine MG (fun _ _ _ _ _ st=>hG.into st) hi.mn hg.mn ht.1 he.mn Y H _ ⟨U,O,st,MH (aH _ _ _ (fun a1 U1 e=>?_) (fk (m:=s) (k:=rh C i f own.length caps g t m) q))⟩;unfold bV rh at e;cases L:cj g t m a1 [] (iF own.length caps U1) with
 | none=>rw[L] at e;exact e.elim
 | some ys=>
  cases ho:bT C U1 i with
  | none=>rw[L,ho] at e;exact e.elim
  | some p=>
   obtain⟨io,fs⟩:=p;rw[L,ho] at e;simp only at e
   by_cases d:ys.length<=sizeLine/\fs.lookup f=none/\fs.length<1000
   ·rw[if_pos d] at e;refine⟨ys,rfl,d.1,fun H' O' vs p a2 s' dv hp=>?_⟩;obtain⟨a0,dx,gs,a3,e2,hl,nw⟩:=a2.fldNew ho d.2.1;have pa:a0≠p:=fun z=>by subst z;rw[e2] at hp;cases hp
    obtain⟨h1,O3,a4,s3⟩:=nw p (.lst vs) (.l ys) hp trivial (fun G gg=>⟨p,vs,rfl,rfl,by rw[bw (fun z=>pa z.symm),cn],aK.mono gg dv⟩);exact⟨_,a3,a0,C,dx,gs,rfl,h1,cl,na,by rw[hl];exact d.2.2,fD.nx _ _ _ _ a4 (s'.trans s3) e⟩
   ·rw[if_neg d] at e;exact e.elim
end
end L2.L3
namespace L2
open PySem PyProof.Rows
def wM(h:Heap)(a:List Value)(rows:List (List Int)):Prop:=a.length=rows.length/\∀(i:Nat) (v:Value),a[i]? = some v->∃(T:Addr) (items:Array Value) (r:List Int),v=.ref T/\IsTup h T items/\rows[i]? = some r/\IntsAre items.toList r
noncomputable abbrev gK(rows:List (List Int)):Nat->Nat->Bool:=fun i j=>HT.lexLt (rows.getD i []) (rows.getD j [])
section
variable{prog:Program}{w:World}{A:Around}{R:Result->Shared->Prop}{E:Value->Shared->Prop}{s:Shared}{h0:Heap}{I l S:Addr}{its:Array Value}{rows:List (List Int)}{d:Value}
theorem MJ{Q:Value->Shared->Prop}{i j:Nat}{u v:Value}(g:A.units<cLine)(a:wM h0 its.toList rows)(f:∀b o,h0.get? b=some o->s.heap.get? b=some o)(h:its[i]? = some u)(k:its[j]? = some v)(q:Q (.bool (gK rows i j)) s):wpAny (model prog w) A (richCompare .Lt u v) Q E s:=by
 obtain⟨T,m,r,rfl,n,p,t⟩:=a.2 i u (by simpa using h);obtain⟨c,y,z,rfl,B,C,D⟩:=a.2 j v (by simpa using k);have G:rows.getD i []=r:=by rw[List.getD_eq_getElem?_getD,p];rfl
 have H:rows.getD j []=z:=by rw[List.getD_eq_getElem?_getD,C];rfl
 unfold gK at q;rw[G,H] at q;have J:IsTup s.heap T m:=let⟨o,e,x⟩:=n;⟨o,f _ _ e,x⟩;have L:IsTup s.heap c y:=let⟨o,e,x⟩:=B;⟨o,f _ _ e,x⟩;exact(HT.lt_tupInts J L t D g q:wpAny (model prog w) A (compareOp .Lt (.ref T) (.ref c)) Q E s)
theorem MK(T:A.handled=none)(U:A.in1.units<cLine)(X:wM h0 its.toList rows)(L:h0.IsList l its)(Y:h0.objs.size<=I)(Z:h0.objs.size<=S)(q:I≠S) :
  ∀(k j:Nat) (s:Shared) (n:Value) (c:Nat),its.size - (j+1)=k->j+1<=its.size->(∀b o,h0.get? b=some o->s.heap.get? b=some o)->s.heap.IsListIter I l (j+1)->its[argBest (gK rows) j]? = some n->
  s.heap.get? S=some { cls:=.type "list",dict:=none,data:=.seq #[n,n] c,slots:=#[] }->
  (∀v u y,its[argBest (gK rows) (its.size - 1)]? = some v->(∀b o,h0.get? b=some o->u.get? b=some o)->R (.ok (.ret v)) { s with heap:=u,toks:=y })->
  codeAny (model prog w) A (.builtin "min.loop" ⟨[.ref I,.none,.ref S],[("default",d)]⟩) R s:=by
 have a:(toString "min"++toString ".loop":String)="min.loop":=by decide
 have M:∀{b:Addr}{o:Obj},h0.get? b=some o->b≠I:=fun e z=>by subst z;exact absurd (bC e) (Nat.not_lt.mpr Y)
 have N:∀{b:Addr}{o:Obj},h0.get? b=some o->S≠b:=fun e z=>by subst z;exact absurd (bC e) (Nat.not_lt.mpr Z)
 intro k
 induction k with
 | zero=>
  intro j s n c hk hj C hit D f G;have H:j+1=its.size:=by omega
  refine codeAny_builtin F.entry_min_loop ?_;rw[Around.under_plainId F.plain_min_loop _];show wpAny _ A.in1 (seqItems? (.ref S) >>= _) _ _ s;refine az (wpAny_seqItems f rfl ?_);show wpAny _ A.in1 (tryCatch (pyNext (.ref I)) _ >>= _) _ _ s;refine az (wpAny_tryCatch (wpAny_pyNext_list_end T hit (L.at fun o e=>C _ _ e) (by simp;omega) fun Q g=>?_));have h:=g S _ (Ne.symm q) f;show wpAny _ A.in1 (updateSeq S (fun _=>#[]) >>= _) _ _ _;refine az (wpAny_updateSeq h rfl (az (wpAny_letGo (bp ?_))));refine G n _ _ (by rw[<-H];exact D) fun b o e=>?_;exact(Heap.get?_update_other _ _ (N e)).trans (g _ _ (M e) (C _ _ e))
 | succ k O=>
  intro j s n c hk hj C hit D f G;have m:j+1<its.size:=by omega
  refine codeAny_builtin F.entry_min_loop ?_;rw[Around.under_plainId F.plain_min_loop _];show wpAny _ A.in1 (seqItems? (.ref S) >>= _) _ _ s;refine az (wpAny_seqItems f rfl ?_);show wpAny _ A.in1 (tryCatch (pyNext (.ref I)) _ >>= _) _ _ s;refine az (wpAny_tryCatch (wpAny_pyNext_list_item hit (L.at fun o e=>C _ _ e) (x:=its[j+1]) (by simp[m]) fun Q p g=>?_));have h:=g.extBut S _ (Ne.symm q) f;have r:∀b o,h0.get? b=some o->Q.get? b=some o:=fun b o e=>g.extBut _ _ (M e) (C _ _ e);show wpAny _ A.in1 (tryCatch (holding [its[j+1],its[j+1]] (richCompare .Lt its[j+1] n >>= _)) _ >>= _) _ _ _;refine az (wpAny_tryCatch (wpAny_holding (az (MJ (i:=j+1) (j:=argBest (gK rows) j) U X r (by simp[m]) D ?_))));refine az (wpAny_holding (wpAny_truthy_bool ?_));refine az (wpAny_letGo (bp ?_));cases B:gK rows (j+1) (argBest (gK rows) j) with
  | true=>simp only[if_true];refine az (wpAny_updateSeq h rfl (az (wpAny_letGo ?_)));rw[a];refine bp ⟨plainId_quiet F.plain_min_loop _,O (j+1) _ its[j+1] _ (by omega) m (fun b o e=>(Heap.get?_update_other _ _ (N e)).trans (r _ _ e)) (p.at fun o e=>(Heap.get?_update_other _ _ (Ne.symm q)).trans e) (by simp only[argBest,B,if_true];simp[m]) (Heap.get?_update_self _ h rfl) fun v u y J t=>G v u y J t⟩
  | false=>simp only[Bool.false_eq_true,if_false];refine az (wpAny_letGo ?_);rw[a];exact bp ⟨plainId_quiet F.plain_min_loop _,O (j+1) _ n c (by omega) m r p (by simp only[argBest,B,Bool.false_eq_true,if_false];exact D) h fun v u y J t=>G v u y J t⟩
theorem ML{Q:Value->Shared->Prop}(t:A.handled=none)(u:A.in1.units<cLine)(j:s.heap.IsList l its)(y:wM s.heap its.toList rows)(k:0<its.size)(B:∀v h m,its[argBest (gK rows) (its.size - 1)]? = some v->(∀b o,s.heap.get? b=some o->h.get? b=some o)->Q v { s with heap:=h,toks:=m }) :
  wpAny (model prog w) A (call (.builtin "min") [.ref l] [("default",d)]) Q E s:=by
 refine BY F.kind_min F.plain_min F.entry_min (BX _ _) ?_;show wpAny _ A.in1 (Builtin.Builtins.bindParams "min" ["key","default"] 0 ⟨[],[("default",d)]⟩ >>= _) _ _ s;refine az (wpAny_of_eq (show Builtin.Builtins.bindParams "min" ["key","default"] 0 ⟨[],[("default",d)]⟩=pure [none,some d] from rfl) ?_);refine az (bp ?_);refine az (wpAny_pyIter_list j ?_);refine az (wpAny_newObj_type ?_);have a:(toString "min"++toString ".loop":String)="min.loop":=by decide
 rw[a];generalize n:(s.heap.push { cls:=.type "list_iterator",data:=.fields #[.ref l,.int 0 0] })=h1;have C:h1.get? s.heap.objs.size=some { cls:=.type "list_iterator",data:=.fields #[.ref l,.int 0 0] }:=by rw[<-n];exact Heap.get?_push_size _ rfl
 have D:∀b o,s.heap.get? b=some o->h1.get? b=some o:=fun b o e=>by rw[<-n];exact br _ e
 have p:h1.objs.size=s.heap.objs.size+1:=by rw[<-n,Heap.size_push]
 refine bp ⟨plainId_quiet F.plain_min_loop _,?_⟩;refine codeAny_builtin F.entry_min_loop ?_;rw[Around.under_plainId F.plain_min_loop _];have q:(h1.push { cls:=.type "list",data:=.seq #[] }).get? h1.objs.size=some { cls:=.type "list",data:=.seq #[] }:=Heap.get?_push_size _ rfl;have r:∀b o,s.heap.get? b=some o->(h1.push { cls:=.type "list",data:=.seq #[] }).get? b=some o:=fun b o e=>br _ (D b o e);show wpAny _ A.in1 (seqItems? (.ref h1.objs.size) >>= _) _ _ _;refine az (wpAny_seqItems q rfl ?_);show wpAny _ A.in1 (tryCatch (pyNext (.ref s.heap.objs.size)) _ >>= _) _ _ _;refine az (wpAny_tryCatch (wpAny_pyNext_list_item (i:=0) (l:=l) (items:=its) (x:=its[0]) ⟨_,br _ C,rfl,rfl⟩ (j.at fun o e=>r _ _ e) (by simp[k]) fun J c f=>?_));have ne:s.heap.objs.size≠h1.objs.size:=by rw[p];exact Nat.ne_of_lt (Nat.lt_succ_self _)
 have g:=f.extBut _ _ (Ne.symm ne) q;have G:∀b o,s.heap.get? b=some o->J.get? b=some o:=fun b o e=>f.extBut _ _ (Nat.ne_of_lt (bC e)) (r _ _ e);show wpAny _ A.in1 (updateSeq h1.objs.size (fun _=>#[its[0],its[0]]) >>= _) _ _ _;refine az (wpAny_updateSeq g rfl ?_);rw[a];refine bp ⟨plainId_quiet F.plain_min_loop _,MK (h0:=s.heap) (its:=its) (rows:=rows) t u y j (bF _) (by rw[p];exact Nat.le_succ _) ne _ 0 _ its[0] _ rfl k (fun b o e=>(Heap.get?_update_other _ _ (fun z=>by subst z;exact absurd (bC e) (by rw[p];exact Nat.not_lt.mpr (Nat.le_succ _)))).trans (G _ _ e)) (c.at fun o e=>(Heap.get?_update_other _ _ (Ne.symm ne)).trans e) (by simp[argBest,k]) (Heap.get?_update_self _ g rfl) fun v h m H L=>B v h m H L⟩
end
end L2
namespace L2.L3
open PySem PySem.Spec PyProof.Rows
noncomputable def lx:List PyData->Option (List Int)
 | []=>some []
 | .int i::r=>(lx r).map (i::·)
 | _=>none
noncomputable def kc:List PyData->Option (List (List Int))
 | []=>some []
 | .tuple ds::r=>(match lx ds,kc r with | some x,some y=>some (x::y) | _,_=>none)
 | _=>none
theorem Ce:∀{b:List PyData}{a:List Int},lx b=some a->b=a.map PyData.int
 | [],a,h=>by cases h;rfl
 | .int i::r,a,h=>by unfold lx at h;obtain⟨m,h1,h2⟩:=Option.map_eq_some_iff.mp h;subst h2;rw[Ce h1];rfl
 | .none::_,_,h=>by cases h
 | .bool _::_,_,h=>by cases h
 | .str _::_,_,h=>by cases h
 | .list _::_,_,h=>by cases h
 | .tuple _::_,_,h=>by cases h
 | .dict _::_,_,h=>by cases h
theorem Cf:∀{b:List PyData}{a:List (List Int)},kc b=some a->b=a.map fun r=>PyData.tuple (r.map PyData.int)
 | [],a,h=>by cases h;rfl
 | .tuple l::r,a,h=>by
  unfold kc at h;cases h1:lx l with
  | none=>rw[h1] at h;cases h
  | some x=>
   cases h2:kc r with
   | none=>rw[h1,h2] at h;cases h
   | some y=>rw[h1,h2] at h;cases h;rw[Cf h2,Ce h1];rfl
 | .none::_,_,h=>by cases h
 | .bool _::_,_,h=>by cases h
 | .str _::_,_,h=>by cases h
 | .list _::_,_,h=>by cases h
 | .int _::_,_,h=>by cases h
 | .dict _::_,_,h=>by cases h
theorem Cg{H:Hp}:∀{b:List V}{a:List Int},aK H b (a.map PyData.int)->b=a.map V.int
 | _,[],.nil=>rfl
 | _,n::a,.cons h t=>by rw[h.int_inv,Cg t];rfl
theorem Ci:∀{a:List Int}{b:List Value},be (a.map V.int) b->IntsAre b a
 | [],_,.nil=>.nil
 | n::a,_,.cons r t=>by obtain⟨c,rfl⟩:=r;exact .cons n c (Ci t)
noncomputable def fK:List (List Int)->List Int->List Int
 | [],b=>b
 | r::a,b=>fK a (if HT.lexLt r b=true then r else b)
theorem Cj(rows:List (List Int)):∀(k j:Nat),j+1+k=rows.length->fK (rows.drop (j+1)) (rows.getD (argBest (gK rows) j) [])=rows.getD (argBest (gK rows) (rows.length - 1)) []
 | 0,j,h=>by have e:rows.drop (j+1)=[]:=List.drop_eq_nil_of_le (by omega);rw[e,fK,show rows.length - 1=j by omega]
 | k+1,j,h=>by
  have a:j+1<rows.length:=by omega
  rw[List.drop_eq_getElem_cons a,fK,<-Cj rows k (j+1) (by omega)]
  congr 1
  have b:rows.getD (j+1) []=rows[j+1]:=by rw[List.getD_eq_getElem?_getD,List.getElem?_eq_getElem a];rfl
  simp only[argBest];unfold gK;rw[b];split
  ·exact b.symm
  ·rfl
theorem MM{A:Around}(a:A.units+1<cLine):A.in1.units<cLine:=by
 have:A.in1.units<=A.units+1:=by first | exact bF _ | exact Nat.le_succ _
 exact Nat.lt_of_le_of_lt this a
section
variable{X:Cx}{F:Fx}{E:Str->ak->Prop}{pos p p1 kp kpos:Pos}{x:Str}{i:Nat}
noncomputable def ke(i:Nat):XM PyData:=fun U=>match jv U i with
 | some (_,ds)=>(match kc ds with
  | some []=>.ok .none U
  | some (r::a)=>.ok (.tuple ((fK a r).map PyData.int)) U
  | none=>.bad)
 | none=>.bad
theorem MN{N:Nat}(hu:X.A.units+1<cLine)(hc:X.calm=true)(hg:Gl X "min")(C:X.mg "min" = none)(R:PE X (.Name x p1) (cf i))
  (a0:starEach [.Name x p1] X.env=(false,eval (.Name x p1) X.env)::starEach [] X.env:=by rfl)
  (he:backTo pos (starEach [.Name x p1] X.env)=(false,eval (.Name x p1) X.env)::backTo pos (starEach [] X.env):=by rfl)
  (f:(backTo pos (starEach [.Name x p1] X.env)).any (·.1)=false:=by rfl)
  (D:(backToKw pos (keywordEach [⟨some "default",.Constant .none N kp,kpos⟩] X.env)).all (·.1.isSome)=true:=by rfl)
  (a1:(backToKw pos (keywordEach [⟨some "default",.Constant .none N kp,kpos⟩] X.env)).any (·.1.isNone)=false:=by rfl)
  (hn:(backToKw pos (keywordEach [⟨some "default",.Constant .none N kp,kpos⟩] X.env)).filterMap (·.1)=[("default":Str)]:=by rfl) :
  FE X F E (.Call (.Name "min" p) [.Name x p1] [⟨some "default",.Constant .none N kp,kpos⟩] pos) (ke i):=by
 refine⟨aH,fun h s Y H Q I ⟨U,O,st,q⟩=>?_⟩;unfold wp ke at q;cases ho:jv U i with
 | none=>rw[ho] at q;exact q.elim
 | some pr=>
  obtain⟨io,ds⟩:=pr;rw[ho] at q;simp only at q;cases hr:kc ds with
  | none=>rw[hr] at q;exact q.elim
  | some rows=>
   rw[hr] at q;obtain⟨a,fp,a2,⟨_,xs,hH,hd⟩,_,_⟩:=st.box (wu ho);refine wpAny_Call_Name_kw (jG I hg C PyProof.Rows.boot_min ?_ (by decide) (by decide));refine PyProof.Rows.callWith_kw ?_ he f D a1;refine aR ((da R dQ a0) pos h s Y H (fun G S=>G=[.ref a]/\S=H) I ⟨_,a2,rfl,rfl⟩) fun us s1 ⟨G,S,I1,r1,t,y⟩=>?_;subst t y;obtain⟨u,rfl,ru⟩:=cZ r1;cases ru;refine aR ((GB (nm:=some "default") (kpos:=kpos) yM GA) pos h s1 Y S (fun G m=>G=[.non]/\m=S) I1 ⟨rfl,rfl⟩) fun us s2 ⟨G,m,z,r2,t,y⟩=>?_;subst t y;obtain⟨u,rfl,ru⟩:=cZ r2;cases ru;rw[hn];obtain⟨z1,g,n1,rv,g1⟩:=z.hok _ _ hH;have n:=Cf hr;have L:s2.heap.IsList a g.toArray:=⟨_,g1,rfl,_,rfl⟩
   cases rows with
   | nil=>subst n;cases hd;cases rv;simp only at q;refine Mw (l:=a) (d:=.none) (z.ok.hd hc) L fun h' j=>?_;exact⟨.non,m,z.kept (t':=s2.toks) j,rfl,q _ m O st .refl .non⟩
   | cons r e=>
    simp only at q;have c:g.length=(r::e).length:=by rw[<-rv.length,hd.length,n,List.length_map]
    have item:∀(k:Nat) (v:Value),g[k]? = some v->∃(T:Addr) (o:List Int) (b:List Value) (B:V),v=.ref T/\IsTup s2.heap T b.toArray/\(r::e)[k]? = some o/\IntsAre b o/\bj B v/\DV (aw O m) B (.tuple (o.map PyData.int)):=fun k v j=>by
     have J:k<(r::e).length:=by rw[<-c];exact(List.getElem?_eq_some_iff.mp j).1
     have a3:ds[k]? = some (.tuple (((r::e)[k]).map PyData.int)):=by rw[n,List.getElem?_map,List.getElem?_eq_getElem J];rfl
     obtain⟨B,a4,M⟩:=hd.get a3;obtain⟨w,hw,a5⟩:=rv.get a4;rw[j] at hw;cases hw;obtain⟨T,ys,rfl,hT,hy⟩:=M.tup_inv;obtain⟨_,b,rj,pj⟩:=(iq hT).1.ok z.hok;rw[Cg hy] at rj;cases a5;exact⟨T,_,b,.ref T,rfl,pj,List.getElem?_eq_getElem J,Ci rj,rfl,M⟩
    refine ML (l:=a) (its:=g.toArray) (rows:=r::e) (d:=.none) (z.ok.hd hc) (MM hu) L ⟨c,fun k v j=>by
     obtain⟨T,o,b,B,t,y,Z,e4,_,_⟩:=item k v j;exact⟨T,b.toArray,o,t,y,Z,e4⟩⟩ (by simp only[List.size_toArray];rw[c];simp) fun v h' tk R j=>?_
    simp only[List.size_toArray,List.getElem?_toArray] at R;obtain⟨T,o,b,B,t,y,Z,e4,e5,e6⟩:=item _ v R;have C:=Cj (r::e) e.length 0 (by simp;omega);have a6:(r::e).getD (argBest (gK (r::e)) 0) []=r:=by simp[argBest]
    rw[a6] at C;change fK e r=_ at C;rw[c] at Z;have:o=fK e r:=by rw[C,List.getD_eq_getElem?_getD,Z];rfl
    subst this;exact⟨B,m,z.kept (t':=tk) j,e5,q _ m O st .refl e6⟩
end
structure MD (K:Frag) (C:Addr) (m qual:Str) (st:Stmt) (ps:List Str) (g:Addr) (fd:FuncData):Prop where
 fn:kM K m qual st g fd
 mt:gX K C m g
 b:fP K fd ps []
theorem bu{N P:List Str}{a:Scope}(f:a.kind=.function:=by rfl)(g:a.isCoroutine=false:=by rfl)(h:a.isGenerator=false:=by rfl)(b:N.Nodup:=by decide +kernel)(c:N.take P.length=P:=by rfl)(d:∀x∈P,a.names.lookup x=some .local\/a.names.lookup x=some .cell:=by decide +kernel)(e:∀y∈a.names,y.2≠.free:=by decide +kernel):aa N P a:=⟨f,g,h,b,c,d,e⟩
section
variable{X:Cx}{F:Fx}{E:Str->ak->Prop}{e:Expr}{es:List Expr}{pos p p1 apos:Pos}{x m q:Str}{C:Addr}{i k j:Nat}{g:Addr}{fd:FuncData}{ps:List Str}{f:FM}{st:Stmt}{mX:XM (List AX)}
theorem fv(i:Nat)(b:X.N[i]? = some x:=by rfl)(c:kJ X.env.scope x:=by first | exact Or.inl rfl | exact Or.inr (Or.inl rfl) | exact Or.inr (Or.inr rfl))(hd:(x==("__debug__":Str))=false:=by decide)(a:(x==("__classdict__":Str))=false:=by decide):FE X F E (.Name x pos) (xV i):=KY (Ir i (pv i b c hd a))
theorem ck(i:Nat)(a:X.N.Nodup)(b:X.N[i]? = some x:=by rfl)(c:fO X.env.scope x:=by first | exact Or.inl rfl | exact Or.inr rfl)(d:X.fn x=true\/X.env.scope.names.lookup x=some .local:=by first | exact .inl rfl | exact .inr rfl | assumption):FG X F (.Name x pos) (aI i):=Lm (Jn (uM a b c d))
theorem aO(d:dS X F E)(G:ay X.prog X.w X.K X.mg X.base (aU X.prog X.w) k g fd ps (aW X.K X.mg f))(D:FD X.K X.mg x st ps g fd)(h:bq j X.A)(l:FX X F E (e::es) mX)(n:k<=j:=by decide)(o:Gl X x:=by rfl)(a:(x==("__debug__":Str))=false:=by decide)
  (r:starEach (e::es) X.env=(false,eval e X.env)::starEach es X.env:=by rfl) (c:(backTo pos (starEach es X.env)).any (·.1)=false:=by rfl):FO X F E (.Call (.Name x p) (e::es) [] pos) (aM f mX):=Bj (JT d G (h.mono n) o D.mgf D.fn.kp D.b l a r c)
theorem ft{t:Sem Bool}(h:dS X F E)(cl:dg X.K C)(G:ay X.prog X.w X.K X.mg X.base (aU X.prog X.w) k g fd ps (aW X.K X.mg f))(D:MD X.K C m q st ps g fd)(l:bq j X.A)(n:PE X (.Name x p1) (cf i))(o:FX X F E (e::es) mX)(r:k<=j:=by decide)
  (a:starEach (e::es) X.env=(false,eval e X.env)::starEach es X.env:=by rfl) (c:(backTo pos (starEach es X.env)).any (·.1)=false:=by rfl)
  (s:eval (.Call (.Attribute (.Name x p1) m apos) (e::es) [] pos) X.env=(do
   let d <-eval (.Name x p1) X.env
   standAt apos.atName
   let(f,first) <-holding [d] (getMethod d m t)
   callWith pos f first (backTo pos (starEach (e::es) X.env)) (backToKw pos (keywordEach [] X.env))):=by rfl) :
  FO X F E (.Call (.Attribute (.Name x p1) m apos) (e::es) [] pos) (bM C i m f mX):=Mi h cl D.mt G (l.mono r) D.b n o a c s
theorem eU{o:Sem Bool}(c:dS X F E)(cl:dg X.K C)(G:ay X.prog X.w X.K X.mg X.base (aU X.prog X.w) k g fd ps (aW X.K X.mg f))(D:MD X.K C m q st ps g fd)(d:bq j X.A)(h:PE X (.Name x p1) (cf i))(l:k<=j:=by decide)
  (n:eval (.Call (.Attribute (.Name x p1) m apos) [] [] pos) X.env=(do
   let a <-eval (.Name x p1) X.env
   standAt apos.atName
   let(f,first) <-holding [a] (getMethod a m o)
   callWith pos f first (backTo pos (starEach [] X.env)) (backToKw pos (keywordEach [] X.env))):=by rfl) :
  FO X F E (.Call (.Attribute (.Name x p1) m apos) [] [] pos) (dt C i m f):=Mj c cl D.mt G (d.mono l) D.b h n
end
section
variable{X:Cx}{F:Fx}{E:Str->ak->Prop}{e:Expr}{es:List Expr}{pos p1 apos cpos p:Pos}{x m q:Str}{C:Addr}{i k j:Nat}{g:Addr}{fd:FuncData}{ps:List Str}{f f0:FM}{st:Stmt}
theorem MO{y:List (Addr×Obj)}{Y:St}{H:Hp}{s:Shared}{Q:VK}{U:ak}{O t:List Addr}{a:Addr}{b:Bx}{QC:ai->ak->Prop}(hx:dS X F E)(G:ay X.prog X.w X.K X.mg X.base (aU X.prog X.w) k g fd ps (aW X.K X.mg f))(hr:bq k X.A)(hb:fP X.K fd ps [])
  (I:Inv X y Y H s) (res:eA X.K F H Y U O (.ref a) (.own false b) t) (q:match f [.own true b] with | .rt c _=>QC c U | .ex c _=>E c U | .bad=>False) (hQ:∀c N,QC c N->∀v d T t,eA X.K F d Y N T v c t->aL O H T d->Q v d) :
  wpAny (model X.prog X.w) X.A (call (.ref g) [.ref a]) (EP X y Y Q) X.xe s:=by
 obtain⟨R,at_,nw⟩:=res;obtain⟨a',ea,bx⟩:=at_;cases ea;obtain⟨W,S,hO⟩:=id R;have a1:(W.flatten++(t++F.O₀)).Nodup:=S.nd;have B:∀c,c∈O↔c∈[t].flatten++(W.flatten++F.O₀):=fun c=>by
  rw[hO];show c∈W.flatten++(t++F.O₀)↔_;simp only[List.flatten_cons,List.flatten_nil,List.append_nil,List.mem_append];constructor
  ·rintro(h | h | h)<;>simp[h]
  ·rintro(h | h | h)<;>simp[h]
 have perm:(t++(W.flatten++F.O₀)).Perm (W.flatten++(t++F.O₀)):=by rw[<-List.append_assoc,<-List.append_assoc];exact List.Perm.append_right _ List.perm_append_comm
 have a2:([t].flatten++(W.flatten++F.O₀)).Nodup:=by simp only[List.flatten_cons,List.flatten_nil,List.append_nil];exact perm.nodup_iff.mpr a1
 have a3:aL O H ([t].flatten++(W.flatten++F.O₀)) H:=eB fun a h=>(B a).mpr h;have l:∀(d:Hp) (J:List Addr),fh H d [t].flatten J (W.flatten++F.O₀)->∃L,aC X.K (F.plus J) d Y U L/\aL O H L d/\∀a,a∈L->a∈J++(W.flatten++F.O₀):=fun d J D=>by
  have kp:=D.keep;have Z:=D.new;simp only[List.flatten_cons,List.flatten_nil,List.append_nil] at kp Z;obtain⟨L,t1,t2,t3,t4,t5⟩:=R.swap (H':=d) (L':=J) kp (List.nodup_append.mp D.nd).1 Z nw D.live;refine⟨L,t1,t2,fun c h=>?_⟩;rcases t4 c h with z | ⟨z1,z2⟩
  ·exact bi _ z
  ·have:=(B c).mp z1;simp only[List.flatten_cons,List.flatten_nil,List.append_nil] at this;rcases List.mem_append.mp this with z | z
   ·exact absurd z z2
   ·exact bh _ z
 have a4:∀(d:Hp) (J:List Addr),fh H d [t].flatten J (W.flatten++F.O₀)->∀c∈J,c∈F.A₀\/F.H₀ c=none:=fun d J D c h=>by
  rcases D.new c h with z | z
  ·simp only[List.flatten_cons,List.flatten_nil,List.append_nil] at z;exact nw c z
  ·by_cases hA:c∈F.A₀
   ·exact .inl hA
   ·refine .inr ?_;cases e:F.H₀ c with
    | none=>rfl
    | some o=>have:=S.kept c o hA e;rw[z] at this;cases this
 let EX:XK:=fun C _ d=>∃c N T,X.mg c=some C/\aC X.K F d Y N T/\E c N;have sp:aW X.K X.mg f [.ref a] H Q EX:=by
  refine⟨GF.at (F:=F.plus t) hx.1 R,[.own true b],[t],W.flatten++F.O₀,.own (bx.keep (fun _ _=>rfl) a3.hid) .nil,a2,fun c h=>?_,?_⟩
  ·exact S.live c (by have:=(B c).mpr h;rw[hO] at this;exact this)
  ·cases hf:f [.own true b] with
   | bad=>rw[hf] at q;exact q
   | rt c a0=>
    rw[hf] at q;simp only at q ⊢;intro v d M n a5 a6 D;obtain⟨L,t1,t2,t3⟩:=l d (n.flatten++M) D;have a7:aC X.K ((F.plus M).plus n.flatten) d Y U L:=by rw[Fx.plus_plus];exact t1
    obtain⟨O4,u1,u2,_⟩:=a7.unplus;have a8:aL (n.flatten++M++(W.flatten++F.O₀)) d L d:=eB fun a h=>t3 a h;exact hQ c _ q v d O4 M ⟨u1,a5.keep (a8.trans u2) (fun _ _=>rfl) (fun _ _ _ e=>e),fun a h=>a4 d _ D a (bh _ h)⟩ (t2.trans u2)
   | ex c a0=>rw[hf] at q;simp only at q ⊢;intro C d n hm a6 D;obtain⟨L,t1,t2,t3⟩:=l d n.flatten D;obtain⟨O4,u1,u2,_⟩:=t1.unplus;exact⟨c,_,O4,hm,u1,q⟩
 have r:be [V.ref a] [Value.ref a]:=.cons rfl .nil;have hl:([Value.ref a]++[]).length=ps.length:=by rw[List.append_nil,<-r.length];exact G.len _ _ _ _ sp
 refine wpAny_call (codeAny_mono (G.run X.A X.stack s H ⟨[.ref a],[]⟩ [.ref a] [.ref a] Q EX hr I.env0 (by have:=hb s [.ref a] I.kIn hl;rw[List.append_nil] at this;exact this) r sp) fun r s' hq=>?_);cases r with
 | error e=>obtain⟨a,C,d,e1,I',cv,ex,c,N,T,hm,a9,hE⟩:=I.flies hq;exact hx.2 y Y d s' e c N T ⟨I',a,C,s.heap,_,e1,cv,ex,hm⟩ a9 hE
 | ok fl=>
  cases fl with
  | ret u=>exact I.after hq
  | next=>exact False.elim hq
  | brk=>exact False.elim hq
  | cont=>exact False.elim hq
noncomputable def oE(f:FM)(b:Bx):XM ai:=fun U=>match f [.own true b] with
 | .rt c _=>.ok c U
 | .ex c _=>.ex c U
 | .bad=>.bad
theorem MP{b:Bx}{U:ak}{Q:ai->ak->Prop}(h:wp E (oE f b) U Q):match f [.own true b] with | .rt c _=>Q c U | .ex c _=>E c U | .bad=>False:=by
 unfold wp oE at h;cases a:f [.own true b] with
 | rt c o=>rw[a] at h;exact h
 | ex c o=>rw[a] at h;exact h
 | bad=>rw[a] at h;exact h
end
noncomputable def gL(U:ak)(i:Nat):Option (Bool×gG):=match U[i]? with
 | some (some (.own _ (.m b a)))=>some (b,a)
 | some (some (.vw (.m b a)))=>some (b,a)
 | _=>none
theorem aC.dic{K:Frag}{F:Fx}{H:Hp}{Y:St}{U:ak}{O:List Addr}(st:aC K F H Y U O){i:Nat}{d:Bool}{b:gG}(e:gL U i=some (d,b)):∃a,Y[i]? = some (some (.ref a))/\hI (aw O H) H a d b:=by
 unfold gL at e;split at e
 ·rename_i h;cases e;obtain⟨a,g,c,⟨_,hd⟩,_,_⟩:=st.box h;exact⟨a,c,hd⟩
 ·rename_i h;cases e;obtain⟨a,g,c,⟨_,hd⟩⟩:=st.view h;refine⟨a,c,hd.keep ?_ fun _ _ z=>z⟩;obtain⟨o,f,_⟩:=hd.live;rw[f,(cK f).1]
 ·cases e
section
variable{X:Cx}{F:Fx}{E:Str->ak->Prop}{e a b c:Expr}{pos:Pos}{x:Str}
noncomputable def Ck(i:Nat)(d:PyData):XM PyData:=fun U=>lift (match gL U i with
 | some (g,f)=>(jZ g d).bind fun k=>gH g f k
 | none=>none) U
noncomputable def ri(i:Nat)(m:XM PyData):XM PyData:=fun U=>match gL U i with
 | some _=>(m U).bind (Ck i)
 | none=>.bad
theorem Cm{i:Nat}{m:XM PyData}{C:Pos}(G:X.A.units+1<cLine)(I:PE X (.Name x C) (cf i))(J:FE X F E e m)(L:qf e:=by intro _ _;rfl):FE X F E (.Subscript (.Name x C) e pos) (ri i m):=
 ⟨aH,(HH G I J.pe L).imp fun Y H Q ⟨U,O,st,q⟩=>by
  unfold wp ri at q;cases u:gL U i with
  | none=>rw[u] at q;exact q.elim
  | some p=>
   rw[u] at q;obtain⟨z,h⟩:=p;obtain⟨M,j,_⟩:=st.dic u;refine⟨_,j,U,O,st,aH _ _ _ (fun d B N w R S l T Z=>?_) (bO (m:=m) (k:=Ck i) q)⟩;obtain⟨y,s,q2⟩:=cV (o:=match gL B i with | some (z,h)=>(jZ z d).bind fun k=>gH z h k | none=>none) (U:=B) (E:=E) N;cases f:gL B i with
   | none=>rw[f] at s;cases s
   | some p=>
    obtain⟨a1,D⟩:=p;rw[f] at s;obtain⟨k,e2,t⟩:=Option.bind_eq_some_iff.mp s;obtain⟨a,n,hd⟩:=l.dic f;rw[j] at n;cases n;obtain⟨o,g,r⟩:=Ly hd nL Z e2;rcases r with⟨rfl,e⟩ | ⟨v,x,rfl,e,hx⟩
    ·rw[e] at t;cases t
    ·rw[e] at t;cases t;exact⟨M,v,rfl,g,q2 v R S l T hx⟩⟩
end
end L2.L3
namespace L2.L3
open PySem PySem.Spec PyProof.Rows PySem.W
section
variable{X:Cx}{F:Fx}{E:Str->ak->Prop}{pos p p1:Pos}{x:Str}{i:Nat}
theorem MQ{K:Frag}{H:Hp}{Y:St}{U:ak}{O:List Addr}(st:aC K F H Y U O){b:gG}(e:gL U i=some (false,b)):∃a c,Y[i]? = some (some (.ref a))/\H a=some (.dK c)/\Paired (fun(p:ba×V) (q:PyData×PyData)=>gC p.1=q.1/\DV (aw O H) p.2 q.2) c b:=
 let⟨a,d,c,h1,h2⟩:=st.dic e;⟨a,c,d,h1,h2⟩
end
end L2.L3
namespace L2.L3
open PySem PySem.Spec PyProof.Rows
noncomputable def gM(a:List Str):List PyData:=a.map PyData.str
def oF(K:Frag)(g:Addr)(b:List Str):Prop:=
 ∃(o:Obj) (a:Array Value) (n:Nat),K.lookup g=some o/\o.cls=.type "tuple"/\o.data=.seq a n/\a.size<=sizeLine/\be (b.map V.str) a.toList
theorem oF.sq{K:Frag}{g:Addr}{a:List Str}(h:oF K g a)(H:Hp):ei K H g (a.map V.str):=.inr h
section
variable{X:Cx}{F:Fx}{E:Str->ak->Prop}{tg e:Expr}{x:Str}{pos p1:Pos}{g d:Addr}{ws:List Str}
theorem MR{K:Frag}{O:List Addr}{H:Hp}(h:oF K g ws):Wk O H (pR K g) (gM ws):=fun l b s ok=>by
 refine⟨fun i d e=>?_,⟨_,h.sq b,by simp[gM]⟩⟩;unfold gM at e;rw[List.getElem?_map] at e;obtain⟨y,f,rfl⟩:=Option.map_eq_some_iff.mp e;have c:(ws.map V.str)[i]? = some (.str y):=by rw[List.getElem?_map,f];rfl
 refine⟨⟨_,_,h.sq b,c⟩,fun x a ⟨j,k⟩=>?_⟩;subst j;have:=k _ (h.sq a);rw[c] at this;cases this;exact⟨fun _ _ h=>h,.str _⟩
@[simp] noncomputable def iC(a:List PyData):XM (List PyData):=fun U=>.ok a U
theorem MS(a:Gl X x)(b:X.mg x=some (.ref g))(h:oF X.K g ws)(hd:(x==("__debug__":Str))=false:=by decide):FI X F E tg (.Name x pos) (iC (gM ws)):=
 ⟨aH,(yV (nE (v:=.ref g) a b rfl hd)).imp fun Y H R ⟨U,O,st,q⟩=>⟨g,rfl,⟨_,h.sq H⟩,q _ H O st (.refl ..) (MR h)⟩⟩
def Cn(X:Cx)(d:Addr)(b:List (Str×Int)):Prop:=(d==sysModules)=false/\∃(a:List (Str×Value)) (c:Nat),
 (∀h:Heap,X.K.In h->h.DictAt (strKind X.prog X.w) d a c)/\a.map (·.1)=b.map (·.1)/\∀k n,b.lookup k=some n->∃t,valueAt a k=some (.int n t)
noncomputable def mL(ws:List Str):It:=⟨fun i _=>i<ws.length,fun i H x a=>a = H/\∃k,ws[i]? = some k/\x=.str k,fun i _=>ws.length<=i⟩
theorem MT{kvs:List (Str×Value)}{ep:Nat}{P:Program}{w:World}{K:Frag}(it:Addr)(hD:∀h:Heap,K.In h->h.DictAt (strKind P w) d kvs ep) :
  gV P w K tg (mL (kvs.map (·.1))) [it] it (fun i h=>h.IsKeyIter it d i kvs.length ep) where
 mem:=by simp
 obj:=fun i h st b hb=>by
  have e:b=it:=by simpa using hb
  subst e;obtain⟨o,e,c,dd⟩:=st;exact⟨o,e,fun v z=>by rw[dd] at z;cases z⟩
 keep:=fun i h h' st k=>by obtain⟨o,e,c,dd⟩:=st;exact⟨o,k it (by simp) o e,c,dd⟩
 item:=by
  intro X hP hw hK hc i pins s Y H E I hf st hg;subst hP hw hK;have hi:i<kvs.length:=by simpa[mL] using hg
  obtain⟨⟨k,x⟩,hx⟩:∃p,kvs[i]? = some p:=⟨kvs[i],by simp[hi]⟩
  obtain⟨f0,f1,f2,f3,f4,f5⟩:=hf it (by simp);refine wpAny_pyNext_dict_item st (hD _ I.kIn) hx fun key h' hkey hit' sb=>?_;obtain⟨t,rfl⟩:=Value.isStrOf_shape hkey;have I1:Inv X pins Y H { s with heap:=h' }:=I.turned (t':=s.toks) (fun b o hb e=>(sb.2 b hb).trans e) f0 f1 f3 f4 f5;obtain⟨o,e,c,dd⟩:=id hit';exact⟨_,rfl,pQ (s:={ s with heap:=h' }) e c dd (by decide) ⟨.str k,H,I1,⟨t,rfl⟩,⟨rfl,k,by simp[hx],rfl⟩,hit',fun b hb=>(hf b hb).1⟩⟩
 done:=by
  intro X hP hw hK hc i pins s Y H E I hf st hg;subst hP hw hK;have hi:kvs.length<=i:=by simpa[mL] using hg
  obtain⟨f0,f1,f2,f3,f4,f5⟩:=hf it (by simp);exact wpAny_pyNext_dict_end (I.ok.hd hc) st (hD _ I.kIn) (by simp;omega) fun h' eb=>⟨rfl,I.turned (t':=s.toks) (fun b o hb e=>eb b o hb e) f0 f1 f3 f4 f5⟩
 self:=fun _ _ _ _ _ st h=>wpAny_pyIter_keyiter st h
theorem MU{O:List Addr}{H:Hp}:Wk O H (mL ws) (gM ws):=fun l m s ok=>by refine⟨fun i d e=>?_,by simp[mL,gM]⟩;unfold gM at e;rw[List.getElem?_map] at e;obtain⟨y,a,rfl⟩:=Option.map_eq_some_iff.mp e;refine⟨(List.getElem?_eq_some_iff.mp a).1,fun x c ⟨f,k,b,j⟩=>?_⟩;subst f j;rw[a] at b;cases b;exact⟨fun _ _ h=>h,.str _⟩
theorem MV{a:List (Str×Value)}{l:Nat}(m:(d==sysModules)=false)(n:Gl X x)(p:X.mg x=some (.ref d))(k:∀h:Heap,X.K.In h->h.DictAt (strKind X.prog X.w) d a l)(hd:(x==("__debug__":Str))=false:=by decide) :
  PI X tg (.Name x pos) (fun _ H R=>R (mL (a.map (·.1))) H):=by
 intro c s Y H R I h;refine aR (nE (v:=.ref d) n p rfl hd c s Y H (fun v j=>v=.ref d/\j=H) I ⟨rfl,rfl⟩) fun v f ⟨y,j,i,q,r,t⟩=>?_;subst r t;cases q;refine wpAny_pyIter_dict m (k _ i.kIn) ?_;refine⟨f.heap.objs.size,[f.heap.objs.size],_,_,j,rfl,i.kept (t':=f.toks) fun b o e=>br _ e,MT _ k,⟨_,Heap.get?_push_size _ rfl,rfl,rfl⟩,fun b u=>?_,h⟩;have e:b=f.heap.objs.size:=by simpa using u
 subst e;exact i.fpOk (bF _) (i.hok.fresh (bF _))
theorem MW{kd:List (Str×Int)}(a:Gl X x)(b:X.mg x=some (.ref d))(c:Cn X d kd)(hd:(x==("__debug__":Str))=false:=by decide):FI X F E tg (.Name x pos) (iC (gM (kd.map (·.1)))):=by obtain⟨f,h,i,h1,h2,_⟩:=c;refine⟨aH,(MV f a b h1 hd).imp fun Y H R ⟨U,O,st,q⟩=>?_⟩;rw[h2];exact q _ H O st (.refl ..) MU
noncomputable def wN(a:List (Str×Int)):PyData->Option PyData
 | .str k=>(a.lookup k).map PyData.int
 | _=>none
@[simp] noncomputable def Co(a:List (Str×Int))(m:XM PyData):XM PyData:=fun U=>(m U).bind fun d=>lift (wN a d)
theorem MX{kd:List (Str×Int)}{m:XM PyData}(p:Gl X x)(A:X.mg x=some (.ref d))(B:Cn X d kd)(C:FE X F E e m)(D:qf e:=by intro _ _;rfl)(hd:(x==("__debug__":Str))=false:=by decide):FE X F E (.Subscript (.Name x p1) e pos) (Co kd m):=by
 obtain⟨G,J,ep,h1,h2,h3⟩:=B;refine⟨aH,fun a s Y H Q I ⟨U,O,st,q⟩=>?_⟩;refine zP PySem.F.slot_dict_getitem.lookup D (aR (nE (v:=.ref d) p A rfl hd a s Y H (fun v f=>v=.ref d/\f=H) I ⟨rfl,rfl⟩) fun u L ⟨y,f,M,N,h,R⟩=>?_);subst h R;cases N;refine aR (C.pe a L Y f (fun v b=>∃k n,v=.str k/\kd.lookup k=some n/\Q (.int n) b) M ⟨U,O,st,aH _ _ _ (fun j U1 h w b S i l T=>?_) (bO q)⟩) fun Z l ⟨z,b,o,rz,k,n,ez,el,qz⟩=>?_
 ·obtain⟨r,c,q3⟩:=cV h;unfold wN at c;split at c
  ·rename_i k;obtain⟨n,e2,e3⟩:=Option.map_eq_some_iff.mp c;subst e3;cases T;exact⟨k,n,rfl,e2,q3 _ b S i l (.int _)⟩
  ·cases c
 ·subst ez;obtain⟨t,rfl⟩:=(show ∃t,Z=Value.str k t from rz)
  have j:=h1 _ o.kIn;obtain⟨t',hv⟩:=h3 k n el;refine⟨j.dictOf.typeIs,wpAny_getItem_of (knd:=strKind X.prog X.w) (k:=k) ?_ j.dictOf.mapOf hv ⟨.int n,b,o.tok _,⟨t',rfl⟩,qz⟩⟩;show Value.isStrOf k (.str k t)=true;simp[Value.isStrOf]
end
section
variable{X:Cx}{F:Fx}{E:Str->ak->Prop}{a b:Expr}
@[simp] noncomputable def wO(i j:Nat)(n:Int)(c:ai):SM:=fun d=>if i<d.length then(match c with | .own true _=>.bad | c=>.nx ((d.set i (some c)).set j (some (.dat (.int n))))) else .bad
@[simp] noncomputable def Cp(i j:Nat)(n:Int)(m:XM ai):SM:=fun U=>dM (m U) (wO i j n)
theorem MY{i j:Nat}{x y:Str}{o py pt pos h:Pos}{p s gR}{n:Int}{l}{m:XM ai}(B:X.calm=true)(C:X.N.Nodup)(G:X.N[i]? = some x)(I:X.N[j]? = some y)(t:i≠j)
  (J:X.env.scope.names.lookup x=some .local) (L:X.env.scope.names.lookup y=some .local) (A:FO X F E a m)
  (M:swappedStores [.Tuple [.Name x o,.Name y py] p pt] (.Tuple [a,.Constant (.int n) l h] s gR) X.env=pure (some [x,y]):=by rfl)
  (Q:swapsWithSole [.Tuple [.Name x o,.Name y py] p pt] (.Tuple [a,.Constant (.int n) l h] s gR) pos.line X.env=pure false:=by rfl)
  (h1:starEach [a,.Constant (.int n) l h] X.env=(false,eval a X.env)::starEach [.Constant (.int n) l h] X.env:=by rfl) (h2:starEach [.Constant (.int n) l h] X.env=(false,eval (.Constant (.int n) l h) X.env)::starEach [] X.env:=by rfl) :
  FS X F E (.Assign [.Tuple [.Name x o,.Name y py] p pt] (.Tuple [a,.Constant (.int n) l h] s gR) pos) (Cp i j n m):=
 (yT B C G I t J L (da A.pe (da pN dQ h2) h1) M Q).imp fun D Y H ⟨U,O,R,st,q,f⟩=>⟨U,O,st,A.mn _ _ _ (fun c u e v S O1 fp r T=>by
  have Z:i<u.length/\(∀b,c≠.own true b)/\R.nx ((u.set i (some c)).set j (some (.dat (.int n)))):=by
   unfold bV wO at e
   by_cases g:i<u.length
   ·simp only[if_pos g] at e;cases c with
    | own io b=>cases io with
     | true=>exact e.elim
     | false=>exact⟨g,(fun _ z=>by cases z),e⟩
    | dat d=>exact⟨g,(fun _ z=>by cases z),e⟩
    | scr d=>exact⟨g,(fun _ z=>by cases z),e⟩
    | exc d=>exact⟨g,(fun _ z=>by cases z),e⟩
    | vw d=>exact⟨g,(fun _ z=>by cases z),e⟩
   ·simp only[if_neg g] at e
  obtain⟨g,hn,q2⟩:=Z;obtain⟨O2,w,s2⟩:=aC.put1 (io:=true) r.st r.at_ r.new g (fun b z=>absurd z (hn b));exact⟨v,.int n,rfl,f.nx _ S _ O2 (w.set (.int n)) (T.trans s2) q2⟩) (fk (k:=wO i j n) q)⟩
end
end L2.L3
namespace L2.L3
open PySem
theorem MZ{c:Str->Option Value}(e:c "ANY_ZONE" = none)(f:c "NO_DEEDS" = none)(H:Hp):GH c H:=fun x d u a b=>by
 unfold glob at a;split at a
 ·rename_i h;subst h;rw[e] at b;cases b
 ·split at a
  ·rename_i h;subst h;rw[f] at b;cases b
  ·cases a
end L2.L3
namespace L2.L3
open PySem PySem.Spec PyProof.Rows
def Cq(P:Program)(w:World)(K:Frag)(d:Addr)(b:List (Str×Int)):Prop:=(d==sysModules)=false/\∃(a:List (Str×Value)) (c:Nat),
 (∀h:Heap,K.In h->h.DictAt (strKind P w) d a c)/\a.map (·.1)=b.map (·.1)/\∀k n,b.lookup k=some n->∃t,valueAt a k=some (.int n t)
structure rk where
 k:Str
 n:Int
 t:Tok
 u:Tok
noncomputable def wP(w:World)(e:rk):DictEntry:=⟨hashStr w e.k,.str e.k e.t,.int e.n e.u⟩
theorem Cr{P:Program}{w:World}:∀L:List rk,Pairs (strKind P w) (L.map (wP w)) (L.map fun e=>(e.k,Value.int e.n e.u))
 | []=>.nil
 | e::L=>.cons (by show Value.isStrOf e.k (.str e.k e.t)=true;simp[Value.isStrOf]) rfl (Cr L)
theorem Cs:∀(L:List rk) (k:Str) (n:Int),(L.map fun e=>(e.k,e.n)).lookup k=some n->∃t,valueAt (L.map fun e=>(e.k,Value.int e.n e.u)) k=some (.int n t)
 | [],k,n,e=>by cases e
 | e::L,k,n,h=>by
  rw[List.map_cons,List.lookup_cons] at h
  by_cases q:k=e.k
  ·subst q;simp at h;subst h;exact⟨e.u,by simp[valueAt]⟩
  ·have:(k==e.k)=false:=by simpa using q
   rw[this] at h;obtain⟨t,a⟩:=Cs L k n h;refine⟨t,?_⟩;rw[<-a];unfold valueAt;rw[List.map_cons,List.find?_cons_of_neg (by simpa using fun z:e.k=k=>q z.symm)]
theorem Na{P:Program}{w:World}{K:Frag}{d:Addr}{a:Nat}(L:List rk)(b:K.lookup d=some ⟨.type "dict",none,.dict (L.map (wP w)).toArray a,#[]⟩)(g:(L.map (·.k)).Nodup)(c:(d==sysModules)=false):Cq P w K d (L.map fun e=>(e.k,e.n)):=by
 refine⟨c,L.map fun e=>(e.k,Value.int e.n e.u),a,fun h X=>⟨_,_,X _ _ b,⟨rfl,rfl,rfl⟩,rfl,?_,by simpa using Cr L,by simpa[Function.comp_def] using g⟩,by simp[Function.comp_def],Cs L⟩;intro e f;obtain⟨x,_,rfl⟩:∃x∈L,wP w x=e:=by simpa using f
 exact⟨x.k,by show Value.isStrOf x.k (.str x.k x.t)=true;simp[Value.isStrOf],rfl⟩
end L2.L3
namespace L2
open PySem PySem.Spec PyProof.Rows
section
variable{X:Cx}
theorem Nb(B:X.calm=true):gj X (.builtin "any") (fun k H Q=>∃(l:Addr) (bs:List Bool),k=[.ref l]/\H l=some (.lst (bs.map V.bl))/\Q (.bl (bs.any id)) H):=by
 intro m s Y H k R Q I r h;obtain⟨l,bs,rfl,C,q⟩:=h;obtain⟨u,rfl,ru⟩:=cZ r;cases ru;obtain⟨z,a,n,p,e⟩:=I.hok _ _ C;have L:s.heap.IsList l a.toArray:=⟨_,e,rfl,_,rfl⟩
 have c:l<s.heap.objs.size:=bC e;have len:=p.length;rw[List.length_map] at len;refine call_any_walk (wpAny_pyIter_list L ?_);refine⟨s.heap.objs.size,_,_,_,_,_,fun i=>bs.getD i false,rfl,Walks.list (A:=X.A.in1) (show X.A.in1.handled=none from I.ok.hd B) s.heap.objs.size l (Nat.ne_of_lt c) a.toArray,⟨⟨_,Heap.get?_push_size _ rfl,rfl,rfl⟩,L.push _⟩,?_,fun S T D=>?_⟩
 ·intro i v E G U J g;have d:a[i]? = some v:=by simpa using J
  have c:i<bs.length:=by rw[len];exact(List.getElem?_eq_some_iff.mp d).1
  obtain⟨w,t,j⟩:=p.get (i:=i) (x:=.bl bs[i]) (by rw[List.getElem?_map,List.getElem?_eq_getElem c];rfl);rw[d] at t;cases t;cases j;refine wpAny_truthy_bool ?_;have:bs.getD i false=bs[i]:=by simp[List.getD,c]
  have g:G (bs.getD i false) E:=g;rw[this] at g;exact g
 ·have M:(List.range a.toArray.size).any (fun i=>bs.getD i false)=bs.any id:=by
   rw[List.size_toArray,<-len];rw[Bool.eq_iff_iff,List.any_eq_true,List.any_eq_true];constructor
   ·rintro⟨i,d,h⟩;have f:=List.mem_range.mp d;exact⟨bs[i],List.getElem_mem f,by simpa[List.getD,f] using h⟩
   ·rintro⟨b,N,h⟩;obtain⟨i,d,rfl⟩:=List.getElem_of_mem N;exact⟨i,List.mem_range.mpr d,by simpa[List.getD,d] using h⟩
  rw[M];exact⟨.bl (bs.any id),H,I.kept fun b o y=>D b o (fun O=>absurd (bC y) (by rw[List.mem_singleton.mp O];exact Nat.lt_irrefl _)) (br _ y),rfl,q⟩
end
end L2
namespace L2.L3
open PySem PySem.Spec PyProof.Rows
noncomputable def Ct:DN:=fun a Q=>∃bs:List Bool,a=[.list (bs.map .bool)]/\Q (.bool (bs.any id))
theorem Nc:iy (fun xs H Q=>∃(l:Addr) (bs:List Bool),xs=[.ref l]/\H l=some (.lst (bs.map V.bl))/\Q (.bl (bs.any id)) H) Ct where
 mn:=fun _ _ _ k ⟨bs,e,q⟩=>⟨bs,e,k _ q⟩
 ok:=fun O H vs xs Q hO hd ⟨bs,e,q⟩=>by subst e;obtain⟨x,rfl,h1⟩:=hU hd;obtain⟨a,ys,rfl,ha,hy⟩:=h1.lst_inv;exact⟨a,bs,rfl,by rw[(cK ha).1,vJ hy],q _ H (fun _ _ h=>h) (.bl _)⟩
noncomputable def ly:List PyData->Option PyData:=fun a=>match a with
 | [.list ds]=>(bools? ds).map fun bs=>.bool (bs.any id)
 | _=>none
theorem Nd:FN Ct ly:=fun c d Q e q=>by
 unfold ly at e;split at e
 ·obtain⟨bs,a,b⟩:=Option.map_eq_some_iff.mp e;rw[vS a];subst b;exact⟨bs,rfl,q⟩
 ·cases e
end L2.L3
namespace L2
open PySem PySem.Spec PyProof.Rows
section
variable{X:Cx}{pins:List (Addr×Obj)}{Y:St}{H:Hp}{s:Shared}{i:Nat}{x:Str}{v:V}{pos:Pos}
theorem Nf(I:Inv X pins Y H s)(g:X.N[i]? = some x)(h:kJ X.env.scope x)(e:Y[i]? = some (some v))(hd:(x==("__debug__":Str))=false:=by decide)(d:(x==("__classdict__":Str))=false:=by decide) :
  ∃u,bj v u/\∀(E:Value->Shared->Prop) (Q:Value->Shared->Prop),Q u s->wpAny (model X.prog X.w) X.A (eval (.Name x pos) X.env) Q E s:=by
 obtain⟨m,j,k⟩:=I.loc;obtain⟨u,r,l⟩:=k i x v g e h;refine⟨u,r,fun E Q fin=>?_⟩;rcases l with⟨b,n⟩ | ⟨b,c,f,a⟩
 ·exact wpAny_Name (wpAny_loadName_local I.ok.kind b j n fin) hd
 ·rcases b with b | b
  ·exact wpAny_Name (wpAny_loadName_cell I.ok.kind b f a fin) hd
  ·exact wpAny_Name (wpAny_loadName_free I.ok.kind b f a fin d) hd
end
end L2
namespace L2.L3
open PySem PySem.Spec PyProof.Rows
theorem Cu{α:Type}{a:List α}:∀{n k:Nat},k<n->((List.replicate n ([]:List α)).set k a).flatten=a
 | 0,_,h=>by omega
 | n+1,0,_=>by rw[List.replicate_succ,List.set_cons_zero,List.flatten_cons,jM,List.append_nil]
 | n+1,k+1,h=>by rw[List.replicate_succ,List.set_cons_succ,List.flatten_cons,Cu (by omega)];rfl
noncomputable def kf(own:List Str)(a:List Nat)(k:Nat)(b:Bx)(U:ak):ak:=(cF own a U).set (own.length+k) (some (.own true b))
noncomputable def rm(own:List Str)(h:List Nat)(k l:Nat)(s:dL)(g:dU)(o:cx)(p:DT):DT:=fun U Q=>s U fun c j=>∃io b,j[l]? = some (some (.own io b))/\∃e:Nat->List PyData->ak->Prop,e 0 [] (kf own h k b j)/\
 (∀i d a f,c[i]? = some d->e i a f->g d f fun q=>o q fun b m=>if b=true then p m fun y r=>a.length<sizeLine/\e (i+1) (a++[y]) r else e (i+1) a m)/\
 ∀a f,e c.length a f->∃n,f[own.length+k]? = some (some (.own true n))/\a.length<=sizeLine/\Q (.list a) (j.set l (some (.own io n)))
section
variable{K:Frag}{F:Fx}{own:List Str}{caps:List Nat}{k jm:Nat}{s:dL}{g:dU}{tc:cx}{te:DT}
theorem Ng(a:jN s):Mn (rm own caps k jm s g tc te):=fun _ _ _ c q=>a _ _ _ (fun _ _ ⟨io,b,d,f,i,h1,h2⟩=>⟨io,b,d,f,i,h1,fun j m h=>let⟨n,e,l,q⟩:=h2 j m h;⟨n,e,l,c _ _ q⟩⟩) q
theorem Nh{PF:Fx->Prop}(hP:∀B Y M N A O2 I,aC K F B Y M N->(∀a∈A,∃o,B a=some o/\Mv o)->PF ⟨B,A,O2,I⟩)(a6:caps[k]? = some jm)(hs:jN s)(hg:∀d U Q Q',(∀U',Q U'->Q' U')->g d U Q->g d U Q')(ht:ix tc)(he:Mn te):∀Y H Q,fT K F (rm own caps k jm s g tc te) Y H Q->
  jI own caps (nW K F s) (fun v Y H Q=>∃E,PF E/\ml K E g v Y H Q) (fun Y H Q=>∃E,PF E/\ji K E tc Y H Q) (fun Y H Q=>∃E,PF E/\fT K E te Y H Q) Y H Q:=fun Y H Q ⟨U,O,st,q⟩=>by
 refine⟨U,O,st,hs _ _ _ (fun n M ⟨io,b0,a5,Iv,i0,step,fin⟩ J B N R s1 wk=>?_) q⟩;obtain⟨W,C,u⟩:=id R;obtain⟨v0,r,hY,hW,a,rfl,a7⟩:=C.at_ jm _ a5;rw[<-u] at a7;have b8:jm<M.length:=(List.getElem?_eq_some_iff.mp a5).1;have b9:N.Nodup:=by rw[u];exact C.nd
 have a8:W.flatten.Nodup:=(List.nodup_append.mp C.nd).1;have c0:r.Nodup:=a8.sublist (List.sublist_flatten_of_mem (List.mem_of_getElem? hW));have S:∀c∈r,c∈N:=fun c f=>by rw[u];exact bi _ (bL hW f)
 have c1:∀c∈r,∃o,B c=some o/\Mv o:=fun c f=>R.live c (S c f);let t:List Addr:=N.filter fun c=>decide (c∉r);have w:∀c∈t,c∈N/\c∉r:=fun c h=>by obtain⟨h1,G⟩:=List.mem_filter.mp h;exact⟨h1,by simpa using G⟩
 have inc:∀c∈N,c∉r->c∈t:=fun c h G=>List.mem_filter.mpr ⟨h,by simpa using G⟩;have a2:∀c,c∈r++t↔c∈N:=fun c=>⟨fun h=>(List.mem_append.mp h).elim (S c) fun z=>(w c z).1,fun h=>by
  by_cases z:c∈r
  ·exact bi _ z
  ·exact bh _ (inc c h z)⟩
 have c2:(r++t).Nodup:=List.nodup_append.mpr ⟨c0,b9.filter _,fun x hx y hy e=>by subst e;exact(w x hy).2 hx⟩;have a9:aL N B (r++t) B:=eB fun c h=>(a2 c).mp h;let E:Fx:=⟨B,r,t,fun _=>a⟩
 have pf:PF E:=hP _ _ _ _ _ _ _ R c1;have kn:own.length+k<(cF own caps M).length:=by have:=(List.getElem?_eq_some_iff.mp a6).1;unfold cF;simp;omega
 have ln:(cF own caps M).length=(dB own caps Y).length:=by unfold cF dB;simp
 have fl:((List.replicate (cF own caps M).length ([]:List Addr)).set (own.length+k) r).flatten=r:=Cu kn;have Yk:(dB own caps Y)[own.length+k]? = some (some (.ref a)):=by unfold dB;rw[List.getElem?_append_right (by simp),List.length_map,Nat.add_sub_cancel_left,List.getElem?_map,a6];show some ((Y[jm]?).getD none)=_;rw[hY];rfl
 refine⟨fun i m ys Y' H'=>∃U' O' ds,aC K E H' Y' U' O'/\Iv i ds U'/\aK (aw O' H') ys ds/\i<=n.length/\m=n.length - i,⟨n.length,kf own caps k b0 M,r++t,[],?_,i0,.nil,Nat.zero_le _,rfl⟩,?_⟩
 ·have cell:∀(i:Nat) (c:ai),(cF own caps M)[i]? = some (some c)->(∀io b,c≠.own io b)/\∃v,(dB own caps Y)[i]? = some (some v)/\cP K B N v c []:=fun i c e=>by
   unfold cF at e;unfold dB
   by_cases hi:i<own.length
   ·rw[List.getElem?_append_left (by simpa using hi),List.getElem?_map] at e;cases h:own[i]? with
    | none=>rw[h] at e;cases e
    | some y=>rw[h] at e;cases e
   ·rw[List.getElem?_append_right (by simpa using Nat.le_of_not_lt hi),List.length_map,List.getElem?_map] at e;rw[List.getElem?_append_right (by simpa using Nat.le_of_not_lt hi),List.length_map,List.getElem?_map];obtain⟨j,h1,G⟩:=Option.map_eq_some_iff.mp e;rw[h1];show _/\∃v,some ((Y[j]?).getD none)=some (some v)/\_;cases h3:M[j]? with
    | none=>rw[h3] at G;cases G
    | some o=>
     cases o with
     | none=>rw[h3] at G;cases G
     | some c'=>
      rw[h3] at G;obtain⟨v,D,Z,_,e2⟩:=C.at_ j c' h3;rw[<-u] at e2;rw[Z];cases c' with
      | dat d=>cases G;exact⟨(fun _ _ z=>by cases z),v,rfl,e2⟩
      | scr ns=>cases G;exact⟨(fun _ _ z=>by cases z),v,rfl,e2⟩
      | own _ _=>cases G
      | exc _=>cases G
      | vw b=>cases G;exact⟨(fun _ _ z=>by cases z),v,rfl,e2⟩
  refine⟨(List.replicate (cF own caps M).length []).set (own.length+k) r,⟨fun i c e=>?_,by show(_++t).Nodup;rw[fl];exact c2,fun _ _ _ h=>h,fun c h=>?_,?_,?_,?_,fun i b e=>?_⟩,by show r++t=_++t;rw[fl]⟩
  ·unfold kf at e;rcases fS e with⟨rfl,Z,hl⟩ | ⟨hi,Z⟩
   ·cases Z;refine⟨.ref a,r,Yk,List.getElem?_set_self (by simpa using hl),a,rfl,?_⟩;show fe (aw (_++t) B) B a b0 r;rw[fl];exact a7.keep (fun _ _=>rfl) a9.hid
   ·obtain⟨_,v,e2,e3⟩:=cell i c Z;refine⟨v,[],e2,?_,?_⟩
    ·rw[List.getElem?_set_ne (Ne.symm hi),List.getElem?_replicate,if_pos (List.getElem?_eq_some_iff.mp Z).1]
    ·show cP K B (_++t) v c [];rw[fl];exact e3.keep a9 (fun _ _=>rfl) fun _ _ _ e=>e
  ·rw[fl] at h;exact .inl h
  ·show kQ B (_++t);rw[fl];exact fun c h=>R.live c ((a2 c).mp h)
  ·unfold kf;rw[List.length_set];exact ln
  ·unfold kf;rw[List.length_set,List.length_set,List.length_replicate]
  ·unfold kf at e;rcases fS e with⟨rfl,_,_⟩ | ⟨hi,Z⟩
   ·exact Yk
   ·exact absurd rfl ((cell i _ Z).1 true b)
 ·rintro i m ys Y' H' ⟨U',O',ds,a0,iv,dv,hi,rfl⟩;obtain⟨W',h',L⟩:=id a0;have kp:∀b o,b∉r->B b=some o->H' b=some o:=fun b o hb e=>h'.kept b o hb e;have c3:aL N B O' H':=⟨fun b o hb e=>kp b o (fun z=>hb (S b z)) e,fun c h=>by
   rw[L] at h;rcases List.mem_append.mp h with h | h
   ·exact(h'.new c h).imp (S c) id
   ·exact .inl (w c h).1⟩
  obtain⟨w1,w2⟩:=wk O' H' c3 a0.live
  by_cases a1:i<n.length
  ·obtain⟨go,yld⟩:=w1 i n[i] (List.getElem?_eq_getElem a1);refine .inr ⟨go,fun x H2 hy=>?_⟩;obtain⟨b1,dx⟩:=yld x H2 hy;refine⟨E,pf,U',O',n[i],a0.grow b1,dx,hg _ _ _ _ (fun U2 q2 Y3 H3 O3 c4 s3=>?_) (step i n[i] ds U' (List.getElem?_eq_getElem a1) iv)⟩;refine⟨E,pf,U2,O3,c4,ht _ _ _ (fun b U3 q3 H4 O4 b3 s4=>?_) q2⟩;have d4:aK (aw O4 H4) ys ds:=aK.mono s4.hid (aK.mono s3.hid (aK.mono (jg b1) dv));cases b with
   | false=>exact dZ ⟨n.length - (i+1),by omega,U3,O4,ds,b3,iw q3,d4,a1,rfl⟩
   | true=>refine ed ⟨E,pf,U3,O4,b3,he _ _ _ (fun y U4 q4 v H5 O5 c5 s5 dy=>?_) (iu q3)⟩;refine⟨by rw[d4.length];exact q4.1,n.length - (i+1),by omega,U4,O5,ds++[y],c5,q4.2,(aK.mono s5.hid d4).append (.cons dy .nil),a1,rfl⟩
  ·have e:i=n.length:=by omega
   subst e;obtain⟨b',b4,hz,q⟩:=fin ds U' iv;refine .inl ⟨w2,by rw[dv.length];exact hz,fun p hp=>?_⟩;obtain⟨v',D,g1,g2,a',ea,g3⟩:=h'.at_ _ _ b4;have g4:=h'.io _ _ b4;rw[g1] at g4;obtain rfl:a' = a:=by cases ea;cases g4;rfl
   rw[<-L] at g3;have a3:∀c∈D,c∈O':=fun c f=>by rw[L];exact bi _ (bL g2 f)
   have a4:(W'.flatten++t).Nodup:=h'.nd;have b5:D.Nodup:=(List.nodup_append.mp a4).1.sublist (List.sublist_flatten_of_mem (List.mem_of_getElem? g2));have oth:∀j l,j≠jm->W[j]? = some l->∀c∈l,c∈t:=fun j l hj e c f=>inc c (by rw[u];exact bi _ (bL e f)) (jJ a8 e hW hj f);have T:∀c∈F.O₀,c∈t:=fun c f=>inc c (by rw[u];exact bh _ f) fun z=>(List.nodup_append.mp C.nd).2.2 c (bL hW z) c f rfl;have b6:∀c∈D,c∉t:=fun c f z=>(List.nodup_append.mp a4).2.2 c (bL g2 f) c z rfl;have b7:∀c∈t,H' c=B c:=fun c f=>by obtain⟨o,e,_⟩:=R.live c (w c f).1;rw[e];exact kp c o (w c f).2 e
   have X:∀c∈(W.set jm D).flatten++F.O₀,c∈O':=fun c h=>by
    rcases List.mem_append.mp h with h | h
    ·rcases ff h with h | ⟨j,l,hj,e,hl⟩
     ·exact a3 c h
     ·rw[L];exact bh _ (oth j l hj e c hl)
    ·rw[L];exact bh _ (T c h)
   obtain⟨s2,s3⟩:=C.put (H':=H') (i:=jm) (v:=.ref a') (c:=.own io b') (fp:=D) b8 (fun j l c hj e f=>b7 c (oth j l hj e c f)) (fun c f=>b7 c (T c f)) (fun c o f e=>kp c o (fun z=>f (by rw[<-u];exact S c z)) e) b5
    (fun c f=>⟨fun j l hj e z=>b6 c f (oth j l hj e c z),fun z=>b6 c f (T c z)⟩) (fun c f=>(h'.new c (bL g2 f)).imp (fun z=>bL hW z) id) (fun c f=>h'.live c (by rw[<-L];exact a3 c f)) (fun _=>⟨a',rfl,g3.keep (fun _ _=>rfl) (nM X)⟩) (fun b2 z=>by
     have Z:io=true:=by cases z;rfl
     subst Z;have:=C.io jm b0 a5;rw[hY] at this;exact Option.some.inj (Option.some.inj this))
   have eY:Y.set jm (some (.ref a'))=Y:=by
    apply List.ext_getElem?;intro j
    by_cases hj:j=jm
    ·subst hj;rw[List.getElem?_set_self (List.getElem?_eq_some_iff.mp hY).1,hY]
    ·rw[List.getElem?_set_ne (Ne.symm hj)]
   rw[eY] at s2;have stN:aC K F H' Y (M.set jm (some (.own io b'))) ((W.set jm D).flatten++F.O₀):=⟨_,s2,rfl⟩
   rw[<-u] at s3;have c6:=a0.nofree p hp;exact q _ _ _ (stN.grow (bN hp)) (s1.trans (s3.trans (.same (bN hp)))) (hJ hp (fun z=>c6 (X p z)) (aK.mono (nM X) dv))
end
section
variable{X:Cx}{F:Fx}{scope:Scope}{own capN:List Str}{caps:List Nat}{k jm:Nat}{tg iter elt:Expr}{ifs:List Expr}{s:dL}{g:dU}{tc:cx}{te:DT}{pos:Pos}
theorem Ni(m:GF X.mg F)(S:aj X scope own capN caps)(j:caps[k]? = some jm)(n:X.calm=true)(l:DI X F tg iter s)
  (c:∀C d e f h b,GF X.mg b->DG (bK X scope (own++capN) C d e f h) b tg g/\kR (bK X scope (own++capN) C d e f h) b ifs tc/\DE (bK X scope (own++capN) C d e f h) b elt te)
  (o:∀x,foldedSetIterable iter X.env x=pure x:=by intro _;rfl):DE X F (.ListComp elt [⟨tg,iter,ifs,0⟩] scope pos) (rm own caps k jm s g tc te):=by
 obtain⟨p,t,w⟩:=c 0 [] (PySem.start X.prog).1 (fun _=>none) [] F m;refine⟨Ng l.mn,(qi S n l.pi (fun C d e f h=>⟨fun a s Y H v u Q I r ⟨b,i,q⟩=>(c C d e f h b i).1.pg a s Y H v u Q I r q,fun a s Y H Q I ⟨b,i,q⟩=>(c C d e f h b i).2.1.2 a s Y H Q I q,fun a s Y H Q I ⟨b,i,q⟩=>(c C d e f h b i).2.2.pe a s Y H Q I q⟩) o).imp (Nh (fun _ _ _ _ _ _ _ st y=>(m.at st).frame y) j l.mn p.mn t.1 w.mn)⟩
end
noncomputable def jx(g:GM)(t:XM Bool)(m:XM PyData):List PyData->List PyData->ak->Option (List PyData×ak)
 | [],a,U=>some (a,U)
 | d::r,a,U=>(match g d U with
  | some c=>(match t c with
   | .ok true b=>(match m b with
    | .ok y e=>if a.length<sizeLine then jx g t m r (a++[y]) e else none
    | _=>none)
   | .ok false b=>jx g t m r a b
   | _=>none)
  | none=>none)
noncomputable def ro(own:Nat)(a:List Nat)(k e:Nat)(g:GM)(t:XM Bool)(m:XM PyData)(c:List PyData):XM PyData:=fun d=>match d[e]? with
 | some (some (.own io b))=>(match jx g t m c [] ((List.replicate own none++a.map fun j=>qE d[j]?).set (own+k) (some (.own true b))) with
  | some (f,h)=>(match h[own+k]? with
   | some (some (.own true i))=>if f.length<=sizeLine then .ok (.list f) (d.set e (some (.own io i))) else .bad
   | _=>.bad)
  | none=>.bad)
 | _=>.bad
noncomputable def rq(own:Nat)(a:List Nat)(k b:Nat)(s:XM (List PyData))(g:GM)(t:XM Bool)(m:XM PyData):XM PyData:=fun U=>(s U).bind (ro own a k b g t m)
section
variable{X:Cx}{F:Fx}{E:Str->ak->Prop}{pos:Pos}
theorem Nj{own:List Str}{f:List Nat}{k u:Nat}{s:XM (List PyData)}{g:GM}{t:XM Bool}{m:XM PyData}{U:ak}{Q:PyData->ak->Prop}(q:wp E (rq own.length f k u s g t m) U Q):rm own f k u (wp E s) (er g) (wp dH t) (wp dH m) U Q:=aH _ _ _ (fun n A o=>by
 unfold wp ro at o;split at o
 ·rename_i l
  revert o l
  split
  ·rename_i io b G;split
   ·rename_i p B v;split
    ·rename_i H w;split
     ·rename_i I;intro l o;cases l;have J:kf own f k b A=(List.replicate own.length none++f.map fun j=>qE A[j]?).set (own.length+k) (some (.own true b)):=by unfold kf cF;rw[List.map_const']
      refine⟨io,b,G,fun i r U=>jx g t m (n.drop i) r U=some (p,B),by rw[J];exact v,fun i d r U hd a=>?_,fun r U h=>?_⟩
      ·have e:n.drop i=d::n.drop (i+1):=by obtain⟨x,L⟩:=List.getElem?_eq_some_iff.mp hd;rw[<-L];exact List.drop_eq_getElem_cons x
       simp only[e] at a;unfold jx at a;unfold er;cases C:g d U with
       | none=>rw[C] at a;cases a
       | some M=>
        rw[C] at a;simp only at a ⊢;unfold wp;cases y:t M with
        | ex c D=>rw[y] at a;cases a
        | bad=>rw[y] at a;cases a
        | ok b D=>
         rw[y] at a;cases b with
         | false=>exact dZ a
         | true=>
          refine ed ?_;simp only at a ⊢;cases z:m D with
          | ex c N=>rw[z] at a;cases a
          | bad=>rw[z] at a;cases a
          | ok O N=>
           rw[z] at a;simp only at a ⊢;split at a
           ·rename_i h;exact⟨h,a⟩
           ·cases a
      ·simp only[List.drop_length] at h;have e:r=p/\U=B:=by unfold jx at h;cases h;exact⟨rfl,rfl⟩
       obtain⟨rfl,rfl⟩:=e;exact⟨H,w,I,o⟩
     ·intro l _;cases l
    ·intro l _;cases l
   ·intro l _;cases l
  ·intro l _;cases l
 ·rename_i l
  revert l
  repeat (first | (split) | (intro l;cases l))
 ·exact o.elim) (bO (k:=ro own.length f k u g t m) q)
theorem Nk{a:Scope}{own b:List Str}{c:List Nat}{k jm:Nat}{h iter d:Expr}{e:List Expr}{s:XM (List PyData)}{g:GM}{t:XM Bool}{m:XM PyData}{n:Nat}(u:GF X.mg F)(S:aj X a own b c)(i:c[k]? = some jm)(v:X.calm=true)(w:own.length=n)(y:FI X F E h iter s)
  (j:∀C l o p r f,GF X.mg f->FG (bK X a (own++b) C l o p r) f h g/\kY (bK X a (own++b) C l o p r) f dH e t/\FE (bK X a (own++b) C l o p r) f dH d m)
  (z:∀x,foldedSetIterable iter X.env x=pure x:=by intro _;rfl):FE X F E (.ListComp d [⟨h,iter,e,0⟩] a pos) (rq n c k jm s g t m):=by
 subst w;exact DE.imp' (Ni u S i v y j z) aH fun U Q q=>Nj q
end
section
variable{X:Cx}{F:Fx}{E:Str->ak->Prop}{e:Expr}{pos p1 px py pt:Pos}{x y:Str}{i j:Nat}{C:Addr}
noncomputable def oG(C:Addr)(i:Nat)(d:PyData):XM ai:=fun U=>match bT C U i with
 | some (false,fs)=>.ok (.own false (.pr C fs d)) (U.set i none)
 | _=>.bad
noncomputable def mM(C:Addr)(i:Nat)(m:XM PyData):XM ai:=fun U=>match bT C U i with
 | some (false,_)=>(m U).bind (oG C i)
 | _=>.bad
theorem Cv{m:XM PyData}{k}(L:PE X (.Name x p1) (cf i))(M:FE X F E e m)(h1:starEach [.Name x p1,e] X.env=(false,eval (.Name x p1) X.env)::starEach [e] X.env:=by rfl)(h2:starEach [e] X.env=(false,eval e X.env)::starEach [] X.env:=by rfl) :
  FO X F E (.Tuple [.Name x p1,e] k pos) (mM C i m):=
 ⟨aH,(uX (da L (da M.pe dQ h2) h1)).imp fun Y H Q ⟨U,O,st,q⟩=>by
  unfold wp mM at q;cases n:bT C U i with
  | none=>rw[n] at q;exact q.elim
  | some s=>
   obtain⟨t,N⟩:=s;cases t with
   | true=>rw[n] at q;exact q.elim
   | false=>
    rw[n] at q;obtain⟨a,R,z,_,_,_⟩:=st.box (iK n);refine⟨.ref a,z,U,O,st,aH _ _ _ (fun d S f r g O1 u T Z=>⟨by show 2<=sizeLine;decide,fun p h=>?_⟩) (bO (E:=E) (m:=m) (k:=oG C i) (U:=U) q)⟩;unfold wp oG at f;cases h3:bT C S i with
    | none=>rw[h3] at f;exact f.elim
    | some pr=>
     obtain⟨io,fs⟩:=pr;cases io with
     | true=>rw[h3] at f;exact f.elim
     | false=>
      rw[h3] at f;obtain⟨l,fp,v,A,B,t3,D,t5,t6,t7⟩:=u.take (iK h3);obtain rfl:l=a:=by rw[z] at A;cases A;rfl
      obtain⟨dx,gs,w,e1,e2,e3,G⟩:=t3;have ne:∀b o,g b=some o->aN g p (.tup [.ref l,r]) b=some o:=fun b o e=>bN h b o e;have I:bR (aw v g) (aw v (aN g p (.tup [.ref l,r]))):=jg (bN h);refine f (.ref p) (aN g p (.tup [.ref l,r])) v fp ⟨B.grow (bN h),⟨p,rfl,l,r,dx,gs,w,gk cn (B.nofree p h),e1,ne _ _ e2,ne _ _ e3,G.keep (fun c hc=>?_) I,DV.mono I (DV.mono D.hid Z)⟩,t6⟩ (T.trans (D.trans (.same (bN h))));obtain⟨o,J,_⟩:=G.live c hc;rw[J];exact ne _ _ J⟩
noncomputable def oH(i j:Nat)(c:ai):SM:=fun U=>match c with
 | .own false (.pr C fs d)=>if i<U.length then .nx ((U.set i (some (.own false (.o C fs)))).set j (some (.dat d))) else .bad
 | _=>.bad
noncomputable def oI(i j:Nat)(m:XM ai):SM:=fun U=>dM (m U) (oH i j)
theorem Cw{m:XM ai}{k}(Q:X.calm=true)(J:FO X F E e m)(L:X.N.Nodup)(R:X.N[i]? = some x)(S:X.N[j]? = some y)(T:fO X.env.scope x)(Z:fO X.env.scope y)
  (p:X.fn x=true\/X.env.scope.names.lookup x=some .local:=by first | exact .inl rfl | exact .inr rfl | assumption) (s:X.fn y=true\/X.env.scope.names.lookup y=some .local:=by first | exact .inl rfl | exact .inr rfl | assumption)
  (t:(assignEach [.Name x px,.Name y py] X.env).map (·.2)=assign (.Name x px) X.env::(assignEach [.Name y py] X.env).map (·.2):=by rfl) (u:(assignEach [.Name y py] X.env).map (·.2)=assign (.Name y py) X.env::(assignEach [] X.env).map (·.2):=by rfl)
  (hn:(assignEach [.Name x px,.Name y py] X.env).length=2:=by rfl) (w:(assignEach [.Name x px,.Name y py] X.env).findIdx? (·.1)=none:=by rfl)
  (hs:swapsWithSole [.Tuple [.Name x px,.Name y py] k pt] e pos.line X.env=pure false:=by rfl) (hw:swappedStores [.Tuple [.Name x px,.Name y py] k pt] e X.env=pure none:=by rfl)
  (h1:(assignEach [.Tuple [.Name x px,.Name y py] k pt] X.env).map (·.2)=[assign (.Tuple [.Name x px,.Name y py] k pt) X.env]:=by rfl) :
  FS X F E (.Assign [.Tuple [.Name x px,.Name y py] k pt] e pos) (oI i j m):=
 (uP J.pe (yR Q (uN (uM L R T p) (uN (uM L S Z s) yQ u) t) hn w) hs hw h1).imp fun D Y H ⟨U,O,DD,st,q,f⟩=>⟨U,O,st,J.mn _ _ _ (fun c A g v H1 O1 fp r s1=>by
  have q1:∃C fs d,c=.own false (.pr C fs d)/\i<A.length/\DD.nx ((A.set i (some (.own false (.o C fs)))).set j (some (.dat d))):=by
   unfold bV oH at g;cases c with
   | dat _=>exact g.elim
   | scr _=>exact g.elim
   | exc _=>exact g.elim
   | vw _=>exact g.elim
   | own io b=>
    cases io with
    | true=>exact g.elim
    | false=>
     cases b with
     | l _=>exact g.elim
     | m _ _=>exact g.elim
     | o _ _=>exact g.elim
     | sd _=>exact g.elim
     | ll _=>exact g.elim
     | pr C fs d=>
      simp only at g
      by_cases h:i<A.length
      ·rw[if_pos h] at g;exact⟨C,fs,d,rfl,h,g⟩
      ·rw[if_neg h] at g;exact g.elim
  obtain⟨C,fs,d,rfl,h,g⟩:=q1;obtain⟨a,rfl,n,B,dx,gs,G,e0,rfl,e1,e2,e4,dv⟩:=r.at_;obtain⟨O2,I,M⟩:=aC.put1 (io:=true) (c:=.own false (.o C fs)) (v:=.ref n) r.st ⟨n,rfl,dx,gs,G,rfl,e1,e2,e4⟩ r.new h (fun b z=>by cases z);refine⟨a,[.ref n,B],rfl,.inl (.inl (cK e0).1),rfl,.ref n,[B],rfl,B,[],rfl,rfl,?_⟩;exact f.nx _ H1 _ O2 (I.set (DV.mono M.hid dv)) (s1.trans M) g
  ) (fk (k:=oH i j) q)⟩
end
noncomputable def rs(f:FM)(c:ai):XM ai:=fun U=>match c with
 | .own false (.o a fs)=>oE f (.o a fs) U
 | _=>.bad
noncomputable def ry(f:FM)(mo:XM ai):XM ai:=fun U=>(mo U).bind (rs f)
section
variable{X:Cx}{F:Fx}{e:Expr}{es:List Expr}{E:Str->ak->Prop}{pos p p1:Pos}{x y:Str}{f:FM}{k i j:Nat}{g:Addr}{fd:FuncData}{ps:List Str}{st:Stmt}
theorem Nl{mo:XM ai}(hx:dS X F E)(G:ay X.prog X.w X.K X.mg X.base (aU X.prog X.w) k g fd ps (aW X.K X.mg f))(hr:bq k X.A)(hg:Gl X x)(hm:X.mg x=some (.ref g))(hk:keepIn X.K (.ref g)=true)(hb:fP X.K fd ps [])
  (S:FO X F E e mo) (L:(x==("__debug__":Str))=false:=by decide) (T:starEach [e] X.env=(false,eval e X.env)::starEach [] X.env:=by rfl) (M:(backTo pos (starEach [] X.env)).any (·.1)=false:=by rfl) :
  FO X F E (.Call (.Name x p) [e] [] pos) (ry f mo):=by
 refine⟨aH,fun B s Y H Q I ⟨U,O,st,q⟩=>?_⟩;have q':=bO (E:=E) (m:=mo) (k:=rs f) (U:=U) q;refine wpAny_Call_Name_kw (kK I hg hm ?_ L);refine callWith_K (h₀:=X.base) I.ok.mod.kin hk (aR (da S.pe dQ T pos B s Y H (fun Z D=>∃v,Z=[v]/\∃c z C d,eA X.K F D Y z C v c d/\aL O H C D/\wp E (rs f c) z (fun c J=>∀v n u d,eA X.K F n Y J u v c d->aL O H u n->Q v n)) I ⟨U,O,st,S.mn _ _ _ (fun c z b v D C d res s1=>⟨v,rfl,c,z,C,d,res,s1,b⟩) q'⟩) fun us s1 ⟨Z,D,I1,r,v,N,c,z,C,d,res,R,b⟩=>⟨I1.kIn,?_⟩) T M;subst N
 match c,res,b with
 | .own false (.o C' fs),t,q2=>
  have q4:wp E (oE f (.o C' fs)) z (fun c J=>∀v n u d,eA X.K F n Y J u v c d->aL O H u n->Q v n):=q2;obtain⟨a,ev,_⟩:=id t.at_;subst ev;cases r with
  | cons rx rn=>cases rx;cases rn;exact MO hx G hr hb I1 t (MP q4) fun c J h v n u d res s2=>h v n u d res (R.trans s2)
 | .own true _,_,b=>exact b.elim
 | .own false (.l _),_,b=>exact b.elim
 | .own false (.m _ _),_,b=>exact b.elim
 | .own false (.sd _),_,b=>exact b.elim
 | .own false (.ll _),_,b=>exact b.elim
 | .own false (.pr _ _ _),_,b=>exact b.elim
 | .dat _,_,b=>exact b.elim
 | .scr _,_,b=>exact b.elim
 | .exc _,_,b=>exact b.elim
 | .vw _,_,b=>exact b.elim
theorem Nm{mo:XM ai}{body:Stmt}(d:dS X F E)(G:ay X.prog X.w X.K X.mg X.base (aU X.prog X.w) k g fd ps (aW X.K X.mg f))(D:FD X.K X.mg x body ps g fd)(h:bq j X.A)(l:FO X F E e mo)(m:k<=j:=by decide)(n:Gl X x:=by rfl)(a:(x==("__debug__":Str))=false:=by decide)(o:starEach [e] X.env=(false,eval e X.env)::starEach [] X.env:=by rfl)(c:(backTo pos (starEach [] X.env)).any (·.1)=false:=by rfl) :
  FO X F E (.Call (.Name x p) [e] [] pos) (ry f mo):=Nl d G (h.mono m) n D.mgf D.fn.kp D.b l a o c
end
def DF(K:Frag)(x:Str)(st:Stmt):Prop:=∃(f:Addr) (b:Value) (c d:Option Addr) (g:Array (Option Value)) (kV e pm a h:Value),nsIn K mainGlobals x=some (some (.ref f))/\
 K.lookup f=some ⟨b,c,.func (fnOf x x (jf st) (hF st) (aZ st) .none kV e pm d a h),g⟩/\codeIn K a x=true/\keepIn K (.ref f)=true
def MF(K:Frag)(C:Addr)(m q:Str)(st:Stmt):Prop:=∃(f:Addr) (b:Value) (c d:Option Addr) (g:Array (Option Value)) (kV e pm a h:Value),findIn K (.ref C) m=some (some (.ref f))/\PySem.W.isFn K (.ref f)=true/\
 K.lookup f=some ⟨b,c,.func (fnOf m q (jf st) (hF st) (aZ st) .none kV e pm d a h),g⟩/\codeIn K a q=true/\keepIn K (.ref f)=true
theorem cX{P:List Value->Prop}(h:∀a,P [a]):∀b:List Value,b.length=1->P b
 | [a],_=>h a
theorem gw{P:List Value->Prop}(h:∀a b,P [a,b]):∀c:List Value,c.length=2->P c
 | [a,b],_=>h a b
theorem eJ{P:List Value->Prop}(h:∀a b c,P [a,b,c]):∀d:List Value,d.length=3->P d
 | [a,b,c],_=>h a b c
theorem oJ{P:List Value->Prop}(h:∀a b c d,P [a,b,c,d]):∀e:List Value,e.length=4->P e
 | [a,b,c,d],_=>h a b c d
theorem Nn{P:List Value->Prop}(h:∀a b c d e,P [a,b,c,d,e]):∀f:List Value,f.length=5->P f
 | [a,b,c,d,e],_=>h a b c d e
section
variable{K:Frag}{h:Heap}{mg:Str->Option Value}{x m q:Str}{st:Stmt}{C:Addr}{ps:List Str}
abbrev Bd(x q:Str)(st:Stmt)(ps:List Str):Prop:=∀(kV a pm:Value) (d:Option Addr) (b e:Value) (c:List Value),c.length=ps.length->bindArgs (fnOf x q (jf st) (hF st) (aZ st) .none kV a pm d b e) ⟨c,[]⟩=pure (ps.zip c)
theorem DF.fd(D:DF K x st)(X:K.In h)(G:h.Ns mainGlobals mg)(b:Bd x x st ps):∃g fd,FD K mg x st ps g fd:=by obtain⟨f,_,_,_,_,_,_,_,_,_,a,l,c,k⟩:=D;exact⟨f,_,nK l c k,mg_of X G a,(nK l c k).binds b⟩
theorem MF.md(D:MF K C m q st)(b:Bd m q st ps):∃g fd,MD K C m q st ps g fd:=by obtain⟨f,_,_,_,_,_,_,_,_,_,a,i,l,c,k⟩:=D;exact⟨f,_,nK l c k,⟨a,i,k⟩,(nK l c k).binds b⟩
end
end L2.L3
namespace L2.TS
open PySem PyProof.Rows PySem.W
section
variable{prog:Program}{w:World}{A:Around}{E:Value->Shared->Prop}{s:Shared}
theorem No{g:Heap}{f:Nat}{Q:Value->Shared->Prop}(h:∀(c:Heap) (n:Nat),(∀b o,g.get? b=some o->c.get? b=some o)->c.get? g.objs.size=some (seqObj "list" #[] n)->Q (.ref g.objs.size) { s with heap:=c,toks:=f }) :
  wpAny (model prog w) A (do let l <-newList [];let _ <-holding [l] (call (.builtin "list.sort") [l] []);ret l) (fun fin j=>∃r,fin=.done (.ret r)/\Q r j) E { s with heap:=g,toks:=f }:=by
 refine az (wpAny_newList ?_);have uv:(g.push (seqObj "list" #[] 0)).get? g.objs.size=some (seqObj "list" ([]:List Value).toArray 0):=Heap.get?_push_size _ rfl;have k:∀b o,g.get? b=some o->b≠g.objs.size/\(g.push (seqObj "list" #[] 0)).get? b=some o:=fun b o e=>⟨Nat.ne_of_lt (bC e),br _ e⟩
 refine az (wpAny_holding (wpAny_call_entry slot_list_sort ⟨_,uv,rfl⟩ entry_list_sort (list_sort_tree uv .nil (by decide) fun a m i p u=>⟨_,rfl,?_⟩) (args_list_sort _)));have t:a = #[]:=by rw[p.eq_nil] at i;obtain⟨l⟩:=a;cases i;rfl
 subst t;refine bp ⟨_,rfl,?_⟩;obtain⟨d,Dn⟩:∃d,((g.push (seqObj "list" #[] 0)).update g.objs.size (Obj.mapSeq fun _=>#[])).get? g.objs.size=some (seqObj "list" #[] d):=⟨_,get?_update_seq uv fun _=>#[]⟩
 have Du:((((g.push (seqObj "list" #[] 0)).update g.objs.size (Obj.mapSeq fun _=>#[])).push (seqObj "tuple" #[] 0)).push (seqObj "list" #[] 0)).get? g.objs.size=some (seqObj "list" #[] d):=br _ (br _ Dn);refine h _ _ (fun b o e=>?_) (get?_update_seq Du fun _=>#[]);have q:=k b o e;unfold sortedHeap;rw[Heap.get?_update_ne _ _ _ _ q.1];refine br _ (br _ ?_);rw[Heap.get?_update_ne _ _ _ _ q.1];exact q.2
theorem sorted_E{r:Addr}{Q:Value->Shared->Prop}(d:∀(e:Value->Shared->Prop) (R:List Value->Shared->Prop),(∀(g:Heap) (a:Nat),(∀b o,s.heap.get? b=some o->g.get? b=some o)->R [] { s with heap:=g,toks:=a })->wpAny (model prog w) A.in1 (collect (.ref r)) R e s)
  (h:∀(g c:Heap) (a n:Nat),(∀b o,s.heap.get? b=some o->g.get? b=some o)->(∀b o,g.get? b=some o->c.get? b=some o)->c.get? g.objs.size=some (seqObj "list" #[] n)->Q (.ref g.objs.size) { s with heap:=c,toks:=a }) :
  wpAny (model prog w) A (call (.builtin "sorted") [.ref r]) Q E s:=by
 refine Calls.call_function_entry kind_sorted plain_sorted entry_sorted (args_sorted1 _) ?_;unfold Builtin.«sorted»;refine az (m:=checkCount "sorted" 1 1 _) (bp ?_);refine az (d _ _ fun g a f=>?_);exact No fun c n i j=>h g c a n f i j
end
end L2.TS
namespace L2.L3
open PySem PySem.Spec PyProof.Rows PySem.W
section
variable{X:Cx}{F:Fx}{E:Str->ak->Prop}{pos p p1 apos ipos:Pos}{x:Str}{i:Nat}{pins:List (Addr×Obj)}{Y:St}{H:Hp}{s:Shared}
theorem Cy{Q:VK}(I:Inv X pins Y H s)(q:∀l,H l=none->Q (.ref l) (aN H l (.lst []))){g a:Heap}{c n:Nat}(f:∀b o,s.heap.get? b=some o->g.get? b=some o)(h:∀b o,g.get? b=some o->a.get? b=some o)(e:a.get? g.objs.size=some (seqObj "list" #[] n)) :
  EP X pins Y Q (.ref g.objs.size) { s with heap:=a,toks:=c }:=by
 have d:Inv X pins Y H { s with heap:=g,toks:=c }:=I.kept (t':=c) f;exact⟨.ref g.objs.size,_,d.laid (t':=c) h (bF _) (show cw X.prog X.w _ a _ (.lst []) from⟨Nat.zero_le _,[],n,.nil,e⟩),rfl,q _ (d.hok.fresh (bF _))⟩
noncomputable def Cz(K:Frag):List V->Hp->VK->Prop:=fun b H Q=>∃a,b=[.ref a]/\(df K H a []\/H a=some (.dK []))/\∀l,H l=none->Q (.ref l) (aN H l (.lst []))
theorem CA(v:X.calm=true):gj X (.builtin "sorted") (Cz X.K):=by
 intro pins s Y H N O Q I r h;obtain⟨a,rfl,c,q⟩:=h;obtain⟨u,rfl,y⟩:=cZ r;cases y;refine TS.sorted_E (fun T R l=>?_) fun g m t n z B e=>Cy I q z B e;rcases c with c | c
 ·obtain⟨C,D,pl,G⟩:=I.list c;cases D;refine collect_list (vs:=[]) pl.isList ?_;refine l _ s.toks fun b o e=>?_;have d:b<s.heap.objs.size:=bC e;rw[Heap.get?_update_ne _ _ _ _ (Nat.ne_of_lt d),Heap.get?_push_ne _ _ _ (Nat.ne_of_lt d)];exact e
 ·obtain⟨G,lo,U,J,L⟩:=vg I.hok c;cases J;obtain⟨ep,f⟩:=L.dictAt;refine kdu_collect (A:=X.A.in1) (kdl_dict (knd:=fz X.prog X.w) (kvs:=[]) (ep:=ep) lo) (I.ok.hd v) f (Nat.zero_le _) fun m t j k M=>?_;rw[show j = #[] from Array.eq_empty_of_size_eq_zero M.1];exact l m t k
noncomputable def oK:List PyData->Option PyData:=fun a=>match a with
 | [.list []]=>some (.list [])
 | _=>none
noncomputable def CB:DN:=fun a Q=>∃d,oK a=some d/\Q d
theorem Np{K:Frag}:iy (Cz K) CB where
 mn:=fun _ _ _ k ⟨d,e,q⟩=>⟨d,e,k _ q⟩
 ok:=fun O H vs xs Q hO hd q=>by
  obtain⟨d,e,q⟩:=q;obtain⟨rfl,rfl⟩:xs=[.list []]/\d=.list []:=by
   unfold oK at e;split at e
   ·cases e;exact⟨rfl,rfl⟩
   ·cases e
  obtain⟨x,rfl,h1⟩:=hU hd;obtain⟨a,ys,rfl,ha,hy⟩:=h1.lst_inv;cases hy;exact⟨a,rfl,.inl (.of (cK ha).1),fun l hl=>q _ _ (bN hl) (hJ hl (hO l hl) .nil)⟩
theorem Nq:FN CB oK:=fun a d Q e q=>⟨d,e,q⟩
noncomputable def mO(i:Nat):XM PyData:=fun U=>lift (match gL U i with
 | some (false,[])=>some (.list [])
 | _=>none) U
theorem CC{K:Frag}{U:ak}{O:List Addr}{y:PyData}(st:aC K F H Y U O)(e:(match gL U i with | some (false,[])=>some (PyData.list []) | _=>none)=some y):y=.list []/\∃a,Y[i]? = some (some (.ref a))/\H a=some (.dK []):=by
 split at e
 ·rename_i b;cases e;obtain⟨a,c,h1,h2,h3⟩:=MQ st b;cases h3;exact⟨rfl,a,h1,h2⟩
 ·cases e
theorem Nr(e:X.calm=true)(f:Gl X "sorted")(g:X.mg "sorted" = none)(h:PE X (.Name x p1) (cf i))(d:starEach [.Name x p1] X.env=(false,eval (.Name x p1) X.env)::starEach [] X.env:=by rfl)(c:(backTo pos (starEach [] X.env)).any (·.1)=false:=by rfl) :
  FE X F E (.Call (.Name "sorted" p) [.Name x p1] [] pos) (mO i):=
 ⟨aH,(kL (CA e) f g (show bootBuiltins "sorted" = some (.builtin "sorted") by decide +kernel) (da h dQ d) (by decide) (by decide) d c).imp fun Y H Q ⟨U,O,st,q⟩=>by
  obtain⟨y,j,k⟩:=cV q;obtain⟨rfl,a,h1,h2⟩:=CC st j;exact⟨_,h1,a,rfl,.inr h2,fun l b=>k _ _ O (st.grow (bN b)) (.same (bN b)) (hJ b (st.nofree l b) .nil)⟩⟩
noncomputable def Nt(i:Nat):TE:=fun Y H Q=>∃a:Addr,Y[i]? = some (some (.ref a))/\H a=some (.dK [])/\∀l,H l=none->Q (.ref l) (aN H l (.lst []))
theorem Nu(t:X.calm=true)(v:Gl X "sorted")(y:X.mg "sorted" = none)(z:X.N[i]? = some x)(B:kJ X.env.scope x)(hd:(x==("__debug__":Str))=false:=by decide)(j:(x==("__classdict__":Str))=false:=by decide)
  (c:attributeBase (.Name x p1) "items" X.env (eval (.Name x p1) X.env)=eval (.Name x p1) X.env:=by rfl) (f:(apos.endLine==ipos.line)=true:=by rfl)
  (m:starEach [.Call (.Attribute (.Name x p1) "items" apos) [] [] ipos] X.env=(false,eval (.Call (.Attribute (.Name x p1) "items" apos) [] [] ipos) X.env)::starEach [] X.env:=by rfl) (l:(backTo pos (starEach [] X.env)).any (·.1)=false:=by rfl) :
  PE X (.Call (.Name "sorted" p) [.Call (.Attribute (.Name x p1) "items" apos) [] [] ipos] [] pos) (Nt i):=by
 intro pins s Y H Q I ⟨a,C,D,q⟩;obtain⟨u,ru,ld⟩:=Nf (pos:=p1) I z B C hd j;cases ru;obtain⟨hz,G,vs,J,dd⟩:=vg I.hok D;cases J;obtain⟨ep,L⟩:=dd.dictAt;refine wpAny_Call_Name_kw (jG I v y (show bootBuiltins "sorted" = some (.builtin "sorted") by decide +kernel) ?_ (by decide) (by decide));refine PyProof.Rows.callWith_builtin1 ?_ m l;rw[m];show wpAny _ _ (spliced ((false,eval (.Call (.Attribute (.Name x p1) "items" apos) [] [] ipos) X.env)::backTo pos (starEach [] X.env))) _ _ s;refine Calls.spliced_cons (wpAny_Call_items G dd c f (fun M h=>ld _ M h) ?_);refine Calls.spliced_nil ?_;have O:Inv X pins Y H { s with heap:=s.heap.push { cls:=.type "dict_items",data:=.fields #[.ref a] } }:=I.kept (t':=s.toks) fun b o e=>br _ e;refine TS.sorted_E (fun E' R T=>kdx_collect (A:=X.A.in1) (knd:=fz X.prog X.w) (kvs:=[]) (ep:=ep) (d:=a) (I.ok.hd t) ⟨_,Heap.get?_push_size _ rfl,rfl,rfl⟩ (L.push _) (Nat.zero_le _) fun g r as k U hG=>?_) fun g h' r n k1 k2 e=>Cy O q k1 k2 e;rw[List.length_eq_zero_iff.mp U];exact T g r k
theorem Nv(i:Nat)(g:X.calm=true)(h:Gl X "sorted")(j:X.mg "sorted" = none)(k:X.N[i]? = some x:=by rfl)(m:kJ X.env.scope x:=by first | exact Or.inl rfl | exact Or.inr (Or.inl rfl) | exact Or.inr (Or.inr rfl))(hd:(x==("__debug__":Str))=false:=by decide)(e:(x==("__classdict__":Str))=false:=by decide)
  (b:attributeBase (.Name x p1) "items" X.env (eval (.Name x p1) X.env)=eval (.Name x p1) X.env:=by rfl) (c:(apos.endLine==ipos.line)=true:=by rfl)
  (n:starEach [.Call (.Attribute (.Name x p1) "items" apos) [] [] ipos] X.env=(false,eval (.Call (.Attribute (.Name x p1) "items" apos) [] [] ipos) X.env)::starEach [] X.env:=by rfl) (f:(backTo pos (starEach [] X.env)).any (·.1)=false:=by rfl) :
  FE X F E (.Call (.Name "sorted" p) [.Call (.Attribute (.Name x p1) "items" apos) [] [] ipos] [] pos) (mO i):=
 ⟨aH,(Nu g h j k m hd e b c n f).imp fun Y H Q ⟨U,O,st,q⟩=>by
  obtain⟨y,o,r⟩:=cV q;obtain⟨rfl,a,h1,h2⟩:=CC st o;exact⟨a,h1,h2,fun l d=>r _ _ O (st.grow (bN d)) (.same (bN d)) (hJ d (st.nofree l d) .nil)⟩⟩
end
end L2.L3
namespace Due
noncomputable abbrev Sh:=List (Int×Int)
noncomputable def rA(a:Int):Sh->Int->Int
 | [],_=>a
 | (b,c)::r,m=>rA (if b<=m then c else a) r m
noncomputable def wQ(a:Int)(b:Sh)(m:Int):Int:=m+rA a b m
noncomputable def mP:Int->Sh->Prop
 | _,[]=>True
 | lo,(b,_)::r=>lo<b/\mP b r
noncomputable def oM(g:Int):Int->Int->Sh->Int
 | s,a,[]=>max s (g - a)
 | s,a,(b,c)::r=>if max s (g - a)<b then max s (g - a) else oM g b c r
def CD(a:Int)(b:Sh):Prop:=(-12<=a/\a<=14)/\∀p∈b,-12<=p.2/\p.2<=14
noncomputable def cg(s a:Int):Sh->List (Int×Option Int×Int)
 | []=>[(s,none,a)]
 | (b,c)::r=>(s,some b,a)::cg b c r
noncomputable def lz(m:Int):Option Int->Bool
 | none=>true
 | some e=>decide (m<e)
noncomputable def mQ(g:Int)(l:List (Int×Option Int×Int)):List Int:=(l.filter fun p=>lz (max p.1 (g - p.2.2)) p.2.1).map fun p=>max p.1 (g - p.2.2)
theorem CF(g:Int):∀(d:Sh) (s a:Int),∃t,mQ g (cg s a d)=oM g s a d::t
 | [],s,a=>⟨[],rfl⟩
 | (b,c)::r,s,a=>by
  obtain⟨t,e⟩:=CF g r b c;unfold cg oM mQ;rw[List.filter_cons]
  by_cases h:max s (g - a)<b
  ·rw[if_pos (by show decide (max s (g - a)<b)=true;exact decide_eq_true h),if_pos h];exact⟨_,rfl⟩
  ·rw[if_neg (by show ¬ decide (max s (g - a)<b)=true;simpa using h),if_neg h];exact⟨t,e⟩
noncomputable def wR(a:Int)(b:Sh)(h:Int):Int:=-((h - wQ a b 0) / 24)
noncomputable def wS(a:Int)(b:Sh)(h:Int)(c:Nat):Int:=oM ((wR a b h+c) * 24+h) 0 a b
inductive dY where
 | once (m:Int) | every (f s:Int) | daily (h:Int)
noncomputable def eV(a:Int)(b:Sh):dY->Nat->Option Int
 | .once m,c=>if c=0 then some m else none
 | .every f s,c=>some (f+c * s)
 | .daily h,c=>some (wS a b h c)
structure lA (a:Int) (ss:Sh):Prop where
 len:ss.length<=6
 rise:mP 0 ss
 ah:CD a ss
 top:∀p∈ss,p.1<=9999
noncomputable def ic:dY->Prop
 | .once m=>0<=m/\m<=9999
 | .every f s=>(0<=f/\f<=9999)/\1<=s/\s<=999
 | .daily h=>0<=h/\h<=23
noncomputable def CG(a:Int)(b:Sh)(p:dY)(c:Nat):Int:=(eV a b p c).getD 0
end Due
namespace K3
open PySem PySem.Spec L2 L2.L3 PyProof.Rows
noncomputable abbrev dO:List Str:=["NoZone","NoPlan","NoMoment","NoCount","NoDeeds","NoDeed","NoRunner","NoTerm","NotHolder","Nothing","NoCall","NoText","NoWidth","NoHolds"]
noncomputable def oN:SM:=(bz (eE (iE "int" (xV 0)) (eE (AY (iE "bool" (xV 0))) (vP (fun i j=>decide (i<=j)) (fun i j=>decide (i<=j)) (xV 1) (xV 0) (xV 2)))))
noncomputable def gc:FM:=bc 3 3 oN
noncomputable def rB:SM:=(bz (eE (iE "tuple" (xV 0)) (ao (aP false) (dG fj (af (xV 0) aA)) (xV 1))))
noncomputable def kg:FM:=bc 2 2 rB
noncomputable def rC:SM:=(bQ (bo (ao qY (ao aY (xV 3) (xC (.int 0))) (xV 1))) (bE (ao aY (xV 3) (xC (.int 1))) (aI 2)) bW)
noncomputable def wT:SM:=(aB (bE (ao aY (xV 0) (xC (.int 0))) (aI 2))
  (aB (gF (kX (ao aY (xV 0) (xC (.int 1)))) (aI 3) rC)
  (bz (ao dN (xV 1) (xV 2)))))
noncomputable def rD:FM:=bc 2 4 wT
noncomputable def wU:XM PyData:=(ao aY (xV 0) (xC (.int 0)))
noncomputable def wV:XM PyData:=(ao aY (xV 0) (xC (.int 1)))
noncomputable def wW:SM:=(aB (bE (ao iA (cm (af (xC (.int 0)) aA)) (gu 1 [] (kX (ao aY (xV 0) (xC (.int 1)))) (aI 0) dX wU)) (aI 1))
  (aB (bE (ao iA (xU (Bt 1) (xV 1)) (cm (af (xC .none) aA))) (aI 2))
  (aB (bE (ao iA (cm (af (ao aY (xV 0) (xC (.int 0))) aA)) (gu 1 [] (kX (ao aY (xV 0) (xC (.int 1)))) (aI 0) dX wV)) (aI 3))
  (bz (dG wg (af (xV 1) (af (xV 2) (af (xV 3) aA))))))))
noncomputable def rE:FM:=bc 1 4 wW
noncomputable def wX:SM:=(bz (vO (ao mq (xV 1) (xC .none)) (ao mF (xV 0) (xV 1))))
noncomputable def rF:FM:=bc 2 2 wX
noncomputable def Nw:XM Bool:=(bo (ao (aP false) (ao aY (xV 0) (xC (.int 3))) (xV 1)))
noncomputable def Nx:XM PyData:=(ao aY (xV 0) (xC (.int 2)))
noncomputable def Ny:XM PyData:=(ox mB 1 (xV 0))
noncomputable def CH:SM:=(aB (bE (gu 1 [1] (ju (xV 0)) (aI 0) Nw Nx) (aI 2))
  (bz (dG vR (af (gu 1 [2] (iC (gM ["begun","done","left","unsure"])) (aI 0) dX Ny) aA))))
noncomputable def wY:FM:=bc 2 3 CH
noncomputable def oO:SM:=(aB (bQ (bo (ao mF (xV 1) (qL 0))) (bz (qM 0 (xV 1))) bW)
  (aB (bQ (vT 0) (bz (xC (.int 0))) bW)
  (bz (ao dN (ao mD (qM 0 (ao mE (xV 1) (qL 0))) (xC (.int 31))) (xV 1)))))
noncomputable def mR:FM:=bc 2 2 oO
noncomputable def CI:SM:=(aB (gE 1 (jX (af (fm 0 dO "NoZone") (af (fm 0 dO "NoPlan") (af (fm 0 dO "NoMoment") (af (fm 0 dO "NoCount") aA))))))
  (aB (oy 1 (cm (af (fm 0 dO "NoDeeds") (af (fm 0 dO "NoDeed") (af (fm 0 dO "NoRunner") (af (fm 0 dO "NoTerm") aA))))))
  (aB (oy 1 (cm (af (fm 0 dO "NotHolder") (af (fm 0 dO "Nothing") (af (fm 0 dO "NoCall") (af (fm 0 dO "NoText") aA))))))
  (aB (oy 1 (cm (af (fm 0 dO "NoWidth") (af (fm 0 dO "NoHolds") aA))))
  (aB (bQ (iD (bo (ao (aP true) (ox mB 1 (xC (.bool true))) (xC (.int 1)))) (et (bo (wx 0 dO)))) (bz (bb (af (xC (.str "refused")) (af (hZ (xC (.int 1))) aA)))) bW)
  (bz (bb (af (xC (.str "refused")) (af (ox qX 1 (xC (.bool true))) aA)))))))))
noncomputable def oP:FM:=bc 1 2 CI
noncomputable def wZ(C:Addr):SM:=(bz (eE (ao iz (cu C 0 "holder") (xC .none)) (ao mF (xV 1) (cu C 0 "until"))))
noncomputable def oQ(C:Addr):FM:=bc 2 2 (wZ C)
noncomputable def mS(C:Addr):SM:=(aB (bE (ao aY (xV 1) (xC (.int 2))) (aI 2))
  (aB (bE (ao aY (xV 1) (xC (.int 3))) (aI 3))
  (aB (bE (ao aY (xV 1) (xC (.int 4))) (aI 4))
  (aB (lr C 0 "rows" 1)
  (aB (mI C 0 "words" 3 4 (xV 2))
  (aB (bQ (bo (ao (aP false) (xV 2) (xC (.str "begun")))) (cI C 0 "begun" (bb (af (xV 3) (af (xV 4) (af (cu C 0 "holds") aA))))) (aB (cI C 0 "begun" (xC .none))
  (mJ C 0 "settled" 3 (ao dN (xV 4) (xC (.int 1))))))
  (bz (bb (af (xV 2) (af (xV 3) (af (xV 4) aA)))))))))))
noncomputable def gd(C:Addr):FM:=bc 2 5 (mS C)
noncomputable def rG(C:Addr):SM:=(bz (eE (ao iz (cu C 0 "begun") (xC .none)) (ao (aP false) (ao aY (cu C 0 "begun") (xC (.int 2))) (cu C 0 "holds"))))
noncomputable def mT(C:Addr):FM:=bc 1 1 (rG C)
noncomputable def xa(C:Addr):SM:=(bz (rc C 0 "rows"))
noncomputable def jy(C:Addr):FM:=bc 1 1 (xa C)
noncomputable def xb:SM:=(dm (aM gc (au (xV 0) (au (xC (.int (-12))) (au (xC (.int (14))) aF)))))
noncomputable def oR:FM:=bc 1 1 xb
noncomputable def xc:SM:=(dm (aM gc (au (xV 0) (au (xC (.int 0)) (au (xC (.int (9999))) aF)))))
noncomputable def mU:FM:=bc 1 1 xc
noncomputable def xf:SM:=(dm (aM gc (au (xV 0) (au (xC (.int 0)) (au (xC (.int (3))) aF)))))
noncomputable def rH:FM:=bc 1 1 xf
noncomputable def xg:SM:=(dm (aM gc (au (xV 0) (au (xC (.int 1)) (au (xC (.int (99))) aF)))))
noncomputable def rJ:FM:=bc 1 1 xg
noncomputable def oS:SM:=(bz (eE (aQ (aM kg (au (xV 0) (au (xV 2) aF)))) (eE (iE "str" (ao aY (xV 0) (xC (.int 0)))) (ao (aP false) (ao aY (xV 0) (xC (.int 0))) (xV 1)))))
noncomputable def iN:FM:=bc 3 3 oS
noncomputable def xh:XM Bool:=(bo (aQ (aM rF (au (dG qK (af (xV 0) (af (ao jc (xV 3) (xV 2)) aA))) (au (xV 1) aF)))))
noncomputable def xi:XM PyData:=(dG qK (af (xV 0) (af (ao jc (xV 3) (xV 2)) aA)))
noncomputable def xj:SM:=(aB (bE (gu 3 [1] (ju (aQ (aM rE (au (xV 0) aF)))) (jT 3 (dk (aI 0) (dk (aI 1) (dk (aI 2) jS)))) xh xi) (aI 2))
  (bz (ao aY (xV 2) (xC (.int 0)))))
noncomputable def rK:FM:=bc 2 3 xj
noncomputable def xk:SM:=(bz (hZ (ao BK (ao jc (xV 1) (aQ (aM rD (au (xV 0) (au (xC (.int 0)) aF))))) (xC (.int (24))))))
noncomputable def rL:FM:=bc 2 2 xk
noncomputable def rM(C:Addr):XM PyData:=(aQ (aM wY (au (xV 1) (au (xV 0) aF))))
noncomputable def rN(C:Addr):SM:=(aB (bE (aQ (dt C 0 "log" (jy C))) (aI 1))
  (bz (gu 1 [1] (ia bZ (af (dG fj (af (cu C 0 "deeds") aA)) aA)) (aI 0) dX (rM C))))
noncomputable def lB(C:Addr):FM:=bc 1 2 (rN C)
noncomputable def CJ(C:Addr):SM:=ra
noncomputable def Nz(C:Addr):XM Bool:=(bo (ao lh (ri 1 (xV 0)) (xC (.int 1))))
noncomputable def NA(C:Addr):XM PyData:=(bb (af (ao aY (xV 0) (xC (.int 0))) (af (ao aY (xV 0) (xC (.int 1))) (af (ri 1 (xV 0)) aA))))
noncomputable def xl(C:Addr):SM:=(aB (gE 1 (lb false))
  (aB (gF (ju (aQ (dt C 0 "log" (jy C)))) (jT 5 (dk (aI 2) (dk (aI 3) (dk (aI 4) (dk (aI 5) (dk (aI 6) jS)))))) (CJ C))
  (bz (wK 1 [1] (ju (mO 1)) (aI 0) (Nz C) (NA C)))))
noncomputable def rO(C:Addr):FM:=bc 1 7 (xl C)
noncomputable def CK(C:Addr):SM:=ra
noncomputable def xm(C:Addr):SM:=(aB (gE 1 (lb false))
  (aB (gF (ju (aQ (dt C 0 "log" (jy C)))) (jT 5 (dk (aI 2) (dk (aI 3) (dk (aI 4) (dk (aI 5) (dk (aI 6) jS)))))) (CK C))
  (bz (mO 1))))
noncomputable def rP(C:Addr):FM:=bc 1 7 (xm C)
noncomputable def CL(C:Addr):SM:=ra
noncomputable def xn(C:Addr):SM:=(aB (gE 1 (jX aA))
  (aB (gE 2 (lb false))
  (aB (gF (ju (aQ (dt C 0 "log" (jy C)))) (jT 5 (dk (aI 3) (dk (aI 4) (dk (aI 5) (dk (aI 6) (dk (aI 7) jS)))))) (CL C))
  (bz (dG oK (af (xV 1) aA))))))
noncomputable def rQ(C:Addr):FM:=bc 1 8 (xn C)
noncomputable def xo:SM:=(aB (bE (ao mE (ao dN (ao dN (ao mD (aQ (aM mR (aS 0 (au (xV 1) aF)))) (xC (.int 1103515245))) (ao mD (xC (.int 7919)) (xV 1))) (xC (.int 12345))) (xC (.int 2147483647))) (aI 3))
  (bz (ao mE (ao mE (ao mE (ao BO (xV 3) (xC (.int 5))) (xC (.int 2147483647))) (xC (.int 999983))) (xV 2))))
noncomputable def rR:FM:=bc 3 4 xo
noncomputable def rS(C:Addr):SM:=(aB (bE (ao aY (cu C 0 "begun") (xC (.int 0))) (aI 3))
  (aB (bE (kU (bo (ao aY (ao aY (cu C 0 "deeds") (xV 3)) (xC (.int (2))))) (xC (.str "begun")) (xC (.str "unsure"))) (aI 4))
  (dm (bM C 0 "add_row" (gd C) (au (bb (af (xV 2) (af (xV 1) (af (xV 4) (af (xV 3) (af (ao aY (cu C 0 "begun") (xC (.int 1))) aA)))))) aF)))))
noncomputable def oU(C:Addr):FM:=bc 3 5 (rS C)
noncomputable def mV:SM:=(aB (bQ (iD (et (bo (aQ (aM kg (au (xV 2) (au (xC (.int 2)) aF)))))) (et (bo (aQ (aM oR (au (ao aY (xV 2) (xC (.int 1))) aF)))))) (bz (xC (.bool false))) bW)
  (aB (bQ (et (bo (aQ (aM gc (au (ao aY (xV 2) (xC (.int 0))) (au (xV 1) (au (xC (.int (9999))) aF))))))) (bz (xC (.bool false))) bW)
  (bE (ao dN (ao aY (xV 2) (xC (.int 0))) (xC (.int 1))) (aI 1))))
noncomputable def rT:SM:=(aB (bQ (iD (et (bo (iE "tuple" (xV 0)))) (bo (ao lh (dG fj (af (xV 0) aA)) (xC (.int (6)))))) (bz (xC (.bool false))) bW)
  (aB (bE (xC (.int 1)) (aI 1))
  (aB (gF (kX (xV 0)) (aI 2) mV)
  (bz (xC (.bool true))))))
noncomputable def oV:FM:=bc 1 3 rT
noncomputable def mW:SM:=(aB (bQ (bo (aQ (aM iN (au (xV 0) (au (xC (.str "once")) (au (xC (.int 2)) aF)))))) (dm (aM mU (au (ao aY (xV 0) (xC (.int 1))) aF))) bW)
  (aB (bQ (bo (aQ (aM iN (au (xV 0) (au (xC (.str "every")) (au (xC (.int 3)) aF)))))) (bz (eE (aQ (aM mU (au (ao aY (xV 0) (xC (.int 1))) aF))) (aQ (aM gc (au (ao aY (xV 0) (xC (.int 2))) (au (xC (.int 1)) (au (xC (.int (999))) aF))))))) bW)
  (bz (eE (aQ (aM iN (au (xV 0) (au (xC (.str "daily")) (au (xC (.int 2)) aF))))) (aQ (aM gc (au (ao aY (xV 0) (xC (.int 1))) (au (xC (.int 0)) (au (xC (.int (23))) aF)))))))))
noncomputable def kh:FM:=bc 1 1 mW
noncomputable def oW:SM:=(aB (bQ (bo (iE "str" (xV 0))) (bz (vO (ao (aP false) (xV 0) (xC (.str "all"))) (ao (aP false) (xV 0) (xC (.str "last"))))) bW)
  (bz (eE (aQ (aM iN (au (xV 0) (au (xC (.str "within")) (au (xC (.int 2)) aF))))) (aQ (aM gc (au (ao aY (xV 0) (xC (.int 1))) (au (xC (.int 0)) (au (xC (.int (999))) aF))))))))
noncomputable def mY:FM:=bc 1 1 oW
noncomputable def xp:SM:=(bQ (et (bo (aQ (aM mU (au (xV 0) aF))))) (gv "NoMoment") bW)
noncomputable def rV:FM:=bc 1 1 xp
noncomputable def xq:SM:=(bQ (et (bo (aQ (aM rH (au (xV 0) aF))))) (gv "NoRunner") bW)
noncomputable def rW:FM:=bc 1 1 xq
noncomputable def xr:SM:=(bQ (et (bo (aQ (aM rJ (au (xV 0) aF))))) (gv "NoTerm") bW)
noncomputable def rX:FM:=bc 1 1 xr
noncomputable def xu:SM:=(aB (bE (ao dN (aQ (aM rL (au (xV 0) (au (xV 1) aF)))) (xV 2)) (aI 3))
  (dm (aM rK (au (xV 0) (au (ao dN (ao mD (xV 3) (xC (.int (24)))) (xV 1)) aF)))))
noncomputable def rY:FM:=bc 3 4 xu
noncomputable def rZ:XM PyData:=(aQ (aM iN (au (xV 1) (au (xV 0) (au (Co [("take",4),("give",3),("step",3),("finish",3)] (xV 0)) aF)))))
noncomputable def mZ:SM:=(bQ (et (bo (dG ly (af (gu 1 [0] (iC (gM ["take","give","step","finish"])) (aI 0) dX rZ) aA)))) (gv "NoCall") bW)
noncomputable def gO:FM:=bc 1 1 mZ
noncomputable def xv:SM:=(aB (mx 1 (xC (.int 0)))
  (dm (aM rR (aS 0 (au (vY 1) (au (xV 2) aF))))))
noncomputable def dP:FM:=bc 3 3 xv
noncomputable def se:SM:=(bz (eE (aQ (aM kg (au (xV 0) (au (xC (.int 2)) aF)))) (eE (aQ (aM oR (au (ao aY (xV 0) (xC (.int 0))) aF))) (aQ (aM oV (au (ao aY (xV 0) (xC (.int 1))) aF))))))
noncomputable def oX:FM:=bc 1 1 se
noncomputable def xw:SM:=(bz (eE (aQ (aM kg (au (xV 0) (au (xC (.int 3)) aF)))) (eE (aQ (aM kh (au (ao aY (xV 0) (xC (.int 0))) aF))) (eE (aQ (aM mY (au (ao aY (xV 0) (xC (.int 1))) aF))) (iE "bool" (ao aY (xV 0) (xC (.int 2))))))))
noncomputable def sf:FM:=bc 1 1 xw
noncomputable def sg:SM:=(bQ (et (bo (aQ (aM kh (au (xV 0) aF))))) (gv "NoPlan") bW)
noncomputable def ki:FM:=bc 1 1 sg
noncomputable def ng:SM:=(aB (bQ (bo (ao (aP false) (ao aY (xV 1) (xC (.int 0))) (xC (.str "once")))) (bz (kU (bo (ao (aP false) (xV 2) (xC (.int 0)))) (ao aY (xV 1) (xC (.int 1))) (xC .none))) bW)
  (aB (bQ (bo (ao (aP false) (ao aY (xV 1) (xC (.int 0))) (xC (.str "every")))) (bz (ao dN (ao aY (xV 1) (xC (.int 1))) (ao mD (xV 2) (ao aY (xV 1) (xC (.int 2)))))) bW)
  (dm (aM rY (au (xV 0) (au (ao aY (xV 1) (xC (.int 1))) (au (xV 2) aF)))))))
noncomputable def gP:FM:=bc 3 3 ng
noncomputable def xx:SM:=(bz (ao aY (xV 2) (aQ (aM dP (aS 0 (aS 1 (au (dG fj (af (xV 2) aA)) aF)))))))
noncomputable def fu:FM:=bc 3 3 xx
noncomputable def sh(C:Addr):SM:=(aB (fZ (aM rW (au (xV 1) aF)))
  (aB (fZ (aM rV (au (xV 2) aF)))
  (bQ (vQ (bo (ao iz (cu C 0 "last") (xC .none))) (bo (ao mF (xV 2) (cu C 0 "last")))) (gv "NoMoment") bW)))
noncomputable def iO(C:Addr):FM:=bc 3 3 (sh C)
noncomputable def si:XM PyData:=(aQ (aM sf (au (xV 0) aF)))
noncomputable def xy:SM:=(aB (bQ (iD (et (bo (iE "tuple" (xV 0)))) (bo (ao lh (dG fj (af (xV 0) aA)) (xC (.int (6)))))) (bz (xC (.bool false))) bW)
  (bz (dG ms (af (gu 1 [] (kX (xV 0)) (aI 0) dX si) aA))))
noncomputable def xz:FM:=bc 1 1 xy
noncomputable def sj:SM:=(bQ (et (bo (aQ (aM oX (au (xV 0) aF))))) (gv "NoZone") bW)
noncomputable def gx:FM:=bc 1 1 sj
noncomputable def nh:SM:=(aB (bQ (bo (ao (aP false) (ao aY (xV 1) (xC (.int (1)))) (xC (.str "all")))) (bz (xC (.bool false))) bW)
  (aB (bQ (bo (ao (aP false) (ao aY (xV 1) (xC (.int (1)))) (xC (.str "last")))) (aB (bE (aQ (aM gP (au (xV 0) (au (ao aY (xV 1) (xC (.int (0)))) (au (ao dN (xV 2) (xC (.int 1))) aF))))) (aI 4))
  (bz (eE (ao iz (xV 4) (xC .none)) (ao qY (xV 4) (xV 3))))) bW)
  (bz (ao lh (ao jc (xV 3) (aQ (aM gP (au (xV 0) (au (ao aY (xV 1) (xC (.int (0)))) (au (xV 2) aF)))))) (ao aY (ao aY (xV 1) (xC (.int (1)))) (xC (.int 1)))))))
noncomputable def lC:FM:=bc 4 5 nh
noncomputable def oY:SM:=(aB (bE (ao dN (ao dN (xV 4) (xC (.int 1))) (aQ (aM dP (aS 0 (aS 1 (au (xV 2) aF)))))) (aI 4))
  (bE (ao jQ (xV 3) (bb (af (bb (af (xV 4) (af (aQ (aM fu (aS 0 (aS 1 (au (cm (af (xC (.int 0)) (af (xC (.int 1)) (af (xC (.int 2)) (af (hZ (xC (.int 1))) (af (xC (.int 14)) (af (hZ (xC (.int 12))) (af (xC (.int 3)) aA)))))))) aF))))) aA))) aA))) (aI 3)))
noncomputable def xA:SM:=(aB (bE (bb (af (bb aA) (af (xC (.int 0)) aA))) (jT 2 (dk (aI 3) (dk (aI 4) jS))))
  (aB (gF (ia bZ (af (aQ (aM dP (aS 0 (aS 1 (au (xC (.int 5)) aF))))) aA)) (aI 5) oY)
  (bz (bb (af (aQ (aM fu (aS 0 (aS 1 (au (cm (af (xC (.int 0)) (af (xC (.int 1)) (af (xC (.int 2)) (af (hZ (xC (.int 1))) (af (xC (.int 14)) (af (hZ (xC (.int 12))) aA))))))) aF))))) (af (xV 3) aA))))))
noncomputable def sk:FM:=bc 3 6 xA
noncomputable def oZ:SM:=(aB (bE (aQ (aM dP (aS 0 (aS 1 (au (xC (.int 3)) aF))))) (aI 3))
  (aB (bQ (bo (ao (aP false) (xV 3) (xC (.int 0)))) (bz (bb (af (xC (.str "once")) (af (aQ (aM dP (aS 0 (aS 1 (au (xV 2) aF))))) aA)))) bW)
  (aB (bQ (bo (ao (aP false) (xV 3) (xC (.int 1)))) (aB (bE (ao dN (xC (.int 1)) (aQ (aM dP (aS 0 (aS 1 (au (aQ (aM fu (aS 0 (aS 1 (au (cm (af (xC (.int 3)) (af (xC (.int 30)) (af (xC (.int 200)) aA)))) aF))))) aF)))))) (aI 4))
  (bz (bb (af (xC (.str "every")) (af (aQ (aM dP (aS 0 (aS 1 (au (xV 2) aF))))) (af (xV 4) aA)))))) bW)
  (bz (bb (af (xC (.str "daily")) (af (aQ (aM dP (aS 0 (aS 1 (au (xC (.int 24)) aF))))) aA)))))))
noncomputable def ni:FM:=bc 3 5 oZ
noncomputable def xB:SM:=(aB (bE (cm (af (xC .none) (af (xC (.int 5)) (af (bb aA) (af (bb (af (xC (.int 0)) aA)) (af (bb (af (xC (.int 15)) (af (bb aA) aA))) (af (bb (af (hZ (xC (.int 13))) (af (bb aA) aA))) (af (bb (af (xC (.int 0)) (af (bb (af (bb (af (xC (.int 0)) (af (xC (.int 1)) aA))) aA)) aA))) (af (bb (af (xC (.int 0)) (af (bb (af (bb (af (xC (.int 5)) (af (xC (.int 15)) aA))) aA)) aA))) (af (bb (af (xC (.int 0)) (af (bb (af (bb (af (xC (.int 5)) (af (xC (.int 1)) aA))) (af (bb (af (xC (.int 5)) (af (xC (.int 2)) aA))) aA))) aA))) aA)))))))))) (aI 2))
  (aB (bE (ao iA (xV 2) (cm (af (bb (af (xC (.int 0)) (af (cm (af (bb (af (xC (.int 5)) (af (xC (.int 1)) aA))) aA)) aA))) (af (cm (af (xC (.int 0)) (af (bb aA) aA))) (af (bb (af (xC (.bool true)) (af (bb aA) aA))) (af (bb (af (xC (.int 0)) (af (bb (af (bb (af (xC (.int 5)) aA)) aA)) aA))) (af (xC (.str "+0")) (af (bb (af (xC (.int 0)) (af (bb (af (bb (af (xC (.int 9)) (af (xC (.int 1)) aA))) (af (bb (af (xC (.int 5)) (af (xC (.int 2)) aA))) aA))) aA))) aA)))))))) (aI 2))
  (dm (aM fu (aS 0 (aS 1 (au (xV 2) aF)))))))
noncomputable def so:FM:=bc 2 3 xB
noncomputable def xD:SM:=(aB (bE (cm (af (xC .none) (af (xC (.int 5)) (af (bb aA) (af (bb (af (xC (.str "once")) aA)) (af (bb (af (xC (.str "once")) (af (hZ (xC (.int 1))) aA))) (af (bb (af (xC (.str "once")) (af (xC (.int 10000)) aA))) (af (bb (af (xC (.str "every")) (af (xC (.int 5)) aA))) (af (bb (af (xC (.str "every")) (af (xC (.int 5)) (af (xC (.int 0)) aA)))) (af (bb (af (xC (.str "every")) (af (xC (.int 5)) (af (xC (.int 1000)) aA)))) aA)))))))))) (aI 2))
  (dm (aM fu (aS 0 (aS 1 (au (ao iA (xV 2) (cm (af (bb (af (xC (.str "daily")) (af (xC (.int 24)) aA))) (af (bb (af (xC (.str "daily")) (af (hZ (xC (.int 1))) aA))) (af (cm (af (xC (.str "once")) (af (xC (.int 5)) aA))) (af (bb (af (xC (.str "Once")) (af (xC (.int 5)) aA))) (af (bb (af (xC (.str "daily")) (af (xC (.bool true)) aA))) aA))))))) aF))))))
noncomputable def sr:FM:=bc 2 3 xD
noncomputable def pb(C:Addr):SM:=(aB (fZ (bM C 0 "check_call" (iO C) (au (xV 1) (au (xV 2) aF))))
  (bQ (iD (et (bo (aQ (bM C 0 "is_held" (oQ C) (au (xV 2) aF))))) (bo (ao (aP true) (cu C 0 "holder") (xV 1)))) (gv "NotHolder") bW))
noncomputable def eK(C:Addr):FM:=bc 3 3 (pb C)
noncomputable def pc(C:Addr):SM:=(aB (fZ (bM C 0 "check_call" (iO C) (au (xV 1) (au (xV 2) aF))))
  (aB (fZ (aM rX (au (xV 3) aF)))
  (aB (cI C 0 "last" (xV 2))
  (aB (bQ (et (bo (aQ (bM C 0 "is_held" (oQ C) (au (xV 2) aF))))) (rb C 0 "holds" 1) (bQ (bo (ao (aP true) (cu C 0 "holder") (xV 1))) (bz (xC (.bool false))) bW))
  (aB (cI C 0 "holder" (xV 1))
  (aB (cI C 0 "until" (ao dN (xV 2) (xV 3)))
  (bz (xC (.bool true)))))))))
noncomputable def lD(C:Addr):FM:=bc 4 4 (pc C)
noncomputable def kj(C:Addr):SM:=(aB (bE (oD C 0 "settled" 2) (aI 3))
  (aB (bE (aQ (aM gP (au (cu C 0 "zone") (au (ao aY (ao aY (cu C 0 "deeds") (xV 2)) (xC (.int (0)))) (au (xV 3) aF))))) (aI 4))
  (bQ (bo (ao iz (xV 4) (xC .none))) (mx 1 (bb (af (xV 4) (af (xV 2) (af (xV 3) aA))))) bW)))
noncomputable def CM(C:Addr):SM:=(aB (gE 1 (jX aA))
  (aB (gF (ia bZ (af (dG fj (af (cu C 0 "deeds") aA)) aA)) (aI 2) (kj C))
  (bz (ke 1))))
noncomputable def xE(C:Addr):FM:=bc 1 5 (CM C)
noncomputable def xF:SM:=(bQ (et (bo (aQ (aM xz (au (xV 0) aF))))) (gv "NoDeeds") bW)
noncomputable def lE:FM:=bc 1 1 xF
noncomputable def NB(C:Addr):XM Bool:=(vQ (bo (ao (aP false) (ao aY (xV 0) (xC (.int 2))) (xC (.str "done")))) (bo (ao (aP false) (ao aY (xV 0) (xC (.int 3))) (xV 3))))
noncomputable def NC(C:Addr):XM PyData:=(ao jc (ao aY (xV 0) (xC (.int 0))) (aQ (aM gP (au (xV 1) (au (xV 2) (au (ao aY (xV 0) (xC (.int 4))) aF))))))
noncomputable def pd(C:Addr):SM:=(aB (fZ (aM gx (au (xV 1) aF)))
  (aB (fZ (aM ki (au (xV 2) aF)))
  (aB (bQ (et (bo (aQ (aM gc (au (xV 3) (au (xC (.int 0)) (au (ao jc (dG fj (af (cu C 0 "deeds") aA)) (xC (.int 1))) aF))))))) (gv "NoDeed") bW)
  (bz (gu 1 [1,2,3] (ju (aQ (dt C 0 "log" (jy C)))) (aI 0) (NB C) (NC C))))))
noncomputable def kl(C:Addr):FM:=bc 4 4 (pd C)
noncomputable def ph:SM:=(aB (bE (aQ (aM dP (aS 0 (aS 1 (au (xC (.int 9)) aF))))) (aI 6))
  (aB (bE (aQ (aM fu (aS 0 (aS 1 (au (cm (af (xC (.str "all")) (af (xC (.str "all")) (af (xC (.str "last")) (af (bb (af (xC (.str "within")) (af (xV 6) aA))) aA))))) aF))))) (aI 7))
  (aB (bE (ao (aP false) (aQ (aM dP (aS 0 (aS 1 (au (xC (.int 2)) aF))))) (xC (.int 0))) (aI 8))
  (bE (ao jQ (xV 4) (bb (af (bb (af (aQ (aM ni (aS 0 (aS 1 (au (xV 3) aF))))) (af (xV 7) (af (xV 8) aA)))) aA))) (aI 4)))))
noncomputable def xG:SM:=(aB (bE (bb aA) (aI 4))
  (aB (gF (ia bZ (af (aQ (aM dP (aS 0 (aS 1 (au (ao dN (xV 2) (xC (.int 1))) aF))))) aA)) (aI 5) ph)
  (bz (xV 4))))
noncomputable def su:FM:=bc 4 9 xG
noncomputable def sv(C:Addr):SM:=(aB (fZ (bM C 0 "check_holder" (eK C) (au (xV 1) (au (xV 2) aF))))
  (aB (cI C 0 "last" (xV 2))
  (cI C 0 "holder" (xC .none))))
noncomputable def km(C:Addr):FM:=bc 3 3 (sv C)
noncomputable def nj(C:Addr):SM:=(aB (bE (aQ (dt C 0 "first_unsettled" (xE C))) (aI 3))
  (aB (bQ (bo (ao mq (xV 3) (xC .none))) (bz (bb (af (xC (.str "idle")) (af (xC .none) aA)))) bW)
  (aB (bQ (bo (ao lh (ao aY (xV 3) (xC (.int 0))) (xV 2))) (bz (bb (af (xC (.str "idle")) (af (ao aY (xV 3) (xC (.int 0))) aA)))) bW)
  (aB (bE (ao aY (xV 3) (xC (.int 1))) (aI 4))
  (aB (bE (ao aY (xV 3) (xC (.int 2))) (aI 5))
  (aB (bE (kU (bo (aQ (aM lC (au (cu C 0 "zone") (au (ao aY (cu C 0 "deeds") (xV 4)) (au (xV 5) (au (xV 2) aF))))))) (xC (.str "left")) (xC (.str "begun"))) (aI 6))
  (dm (bM C 0 "add_row" (gd C) (au (bb (af (xV 2) (af (xV 1) (af (xV 6) (af (xV 4) (af (xV 5) aA)))))) aF)))))))))
noncomputable def lF(C:Addr):FM:=bc 3 7 (nj C)
noncomputable def pk(C:Addr):SM:=(aB (fZ (bM C 0 "check_holder" (eK C) (au (xV 1) (au (xV 2) aF))))
  (aB (bQ (et (bo (aQ (dt C 0 "is_busy" (mT C))))) (gv "Nothing") bW)
  (aB (cI C 0 "last" (xV 2))
  (dm (bM C 0 "add_row" (gd C) (au (bb (af (xV 2) (af (xV 1) (af (xC (.str "done")) (af (ao aY (cu C 0 "begun") (xC (.int 0))) (af (ao aY (cu C 0 "begun") (xC (.int 1))) aA)))))) aF))))))
noncomputable def iP(C:Addr):FM:=bc 3 3 (pk C)
noncomputable def pp(C:Addr):SM:=(my dO 4 (dm (aM (kl C) (aS 0 (au (xV 1) (au (xV 2) (au (xV 3) aF)))))) (dm (aM oP (aS 4 aF))))
noncomputable def iQ(C:Addr):FM:=bc 4 5 (pp C)
noncomputable def sx(C:Addr):XM PyData:=(xC (.int 0))
noncomputable def xH(C:Addr):SM:=(aB (fZ (aM gx (au (xV 1) aF)))
  (aB (fZ (aM lE (au (xV 2) aF)))
  (aB (cI C 0 "zone" (xV 1))
  (aB (cI C 0 "deeds" (xV 2))
  (aB (cI C 0 "last" (xC .none))
  (aB (cI C 0 "holder" (xC .none))
  (aB (cI C 0 "until" (xC (.int 0)))
  (aB (cI C 0 "holds" (xC (.int 0)))
  (aB (cI C 0 "begun" (xC .none))
  (aB (lv C 0 "rows" (.l []))
  (aB (lv C 0 "words" (.m true []))
  (wL C 0 "settled" 1 [] (kX (xV 2)) (aI 0) dX (sx C)))))))))))))
noncomputable def nk(C:Addr):FM:=bc 3 3 (xH C)
noncomputable def nn(C:Addr):SM:=(aB (fZ (bM C 0 "check_holder" (eK C) (au (xV 1) (au (xV 2) aF))))
  (aB (cI C 0 "last" (xV 2))
  (aB (bQ (bo (aQ (dt C 0 "is_busy" (mT C)))) (bz (bb (af (xC (.str "busy")) (af (ao aY (cu C 0 "begun") (xC (.int 0))) (af (ao aY (cu C 0 "begun") (xC (.int 1))) aA))))) bW)
  (aB (bQ (bo (ao iz (cu C 0 "begun") (xC .none))) (dm (bM C 0 "step_behind_a_fall" (oU C) (au (xV 1) (au (xV 2) aF)))) bW)
  (dm (bM C 0 "step_ahead" (lF C) (au (xV 1) (au (xV 2) aF))))))))
noncomputable def iR(C:Addr):FM:=bc 3 3 (nn C)
noncomputable def jz(C:Addr):SM:=(aB (bQ (bo (ao (aP false) (ao aY (xV 1) (xC (.int 0))) (xC (.str "take")))) (dm (bM C 0 "take" (lD C) (au (ao aY (xV 1) (xC (.int 1))) (au (ao aY (xV 1) (xC (.int 2))) (au (ao aY (xV 1) (xC (.int 3))) aF))))) bW)
  (aB (bQ (bo (ao (aP false) (ao aY (xV 1) (xC (.int 0))) (xC (.str "give")))) (dm (bM C 0 "give" (km C) (au (ao aY (xV 1) (xC (.int 1))) (au (ao aY (xV 1) (xC (.int 2))) aF)))) bW)
  (aB (bQ (bo (ao (aP false) (ao aY (xV 1) (xC (.int 0))) (xC (.str "step")))) (dm (bM C 0 "step" (iR C) (au (ao aY (xV 1) (xC (.int 1))) (au (ao aY (xV 1) (xC (.int 2))) aF)))) bW)
  (dm (bM C 0 "finish" (iP C) (au (ao aY (xV 1) (xC (.int 1))) (au (ao aY (xV 1) (xC (.int 2))) aF)))))))
noncomputable def eL(C:Addr):FM:=bc 2 2 (jz C)
noncomputable def sy(C:Addr):SM:=(aB (fZ (aM gO (au (xV 1) aF)))
  (ou dO (dm (aM (eL C) (aS 0 (au (xV 1) aF)))) (bz (xC (.str "refused")))))
noncomputable def lG(C:Addr):FM:=bc 2 2 (sy C)
noncomputable def sA(C:Addr):XM PyData:=(aQ (aM (lG C) (aS 1 (au (xV 0) aF))))
noncomputable def xI(C:Addr):SM:=(aB (gE 3 (lq C (nk C) (af (xV 0) (af (xV 1) aA))))
  (aB (bQ (et (bo (iE "list" (xV 2)))) (gv "NoCall") bW)
  (dm (mM C 3 (rq 1 [3] 0 3 (ju (xV 2)) (aI 0) dX (sA C))))))
noncomputable def sB(C:Addr):FM:=bc 3 4 (xI C)
noncomputable def nq(C:Addr):SM:=(aB (bE (ao dN (xV 6) (aQ (aM dP (aS 0 (aS 1 (au (aQ (aM fu (aS 0 (aS 1 (au (cm (af (xC (.int 1)) (af (xC (.int 3)) (af (xC (.int 12)) aA)))) aF))))) aF)))))) (aI 6))
  (aB (bE (aQ (aM dP (aS 0 (aS 1 (au (aQ (aM fu (aS 0 (aS 1 (au (cm (af (xC (.int 1)) (af (xC (.int 2)) (af (xC (.int 4)) aA)))) aF))))) aF))))) (aI 8))
  (aB (bE (aQ (aM fu (aS 0 (aS 1 (au (cm (af (xC (.str "take")) (af (xC (.str "step")) (af (xC (.str "step")) (af (xC (.str "step")) (af (xC (.str "finish")) (af (xC (.str "finish")) (af (xC (.str "give")) aA)))))))) aF))))) (aI 9))
  (aB (bE (bb (af (xV 9) (af (xV 8) (af (xV 6) aA)))) (aI 10))
  (mx 5 (kU (bo (ao (aP false) (xV 9) (xC (.str "take")))) (ao jQ (xV 10) (bb (af (ao dN (xC (.int 1)) (aQ (aM dP (aS 0 (aS 1 (au (xC (.int 30)) aF)))))) aA))) (xV 10)))))))
noncomputable def xJ(C:Addr):SM:=(aB (Cp 5 6 0 (jX aA))
  (aB (gF (ia bZ (af (aQ (aM dP (aS 0 (aS 1 (au (ao dN (xV 4) (xC (.int 1))) aF))))) aA)) (aI 7) (nq C))
  (aB (oI 11 12 (aM (sB C) (au (xV 2) (au (xV 3) (au (ao iA (cm (af (bb (af (xC (.str "take")) (af (xC (.int 0)) (af (xC (.int 0)) (af (xC (.int 30)) aA))))) aA)) (xV 5)) aF)))))
  (dm (mM C 11 (xV 5))))))
noncomputable def pq(C:Addr):FM:=bc 5 13 (xJ C)
noncomputable def xK(C:Addr):SM:=(gE 1 (jX aA))
noncomputable def xL(C:Addr):SM:=(bE (aQ (aM sk (aS 0 (aS 1 (au (xC (.int 40)) aF))))) (aI 2))
noncomputable def xM(C:Addr):SM:=(bE (aQ (aM su (aS 0 (aS 1 (au (xC (.int 4)) (au (xC (.int 20)) aF)))))) (aI 3))
noncomputable def xN(C:Addr):SM:=(oI 4 5 (aM (pq C) (aS 0 (aS 1 (au (xV 2) (au (xV 3) (au (xC (.int 9)) aF)))))))
noncomputable def xO(C:Addr):SM:=(wh 6 7 (af (aQ (aM so (aS 0 (aS 1 aF)))) (af (aQ (aM sr (aS 0 (aS 1 aF)))) aA)))
noncomputable def xP(C:Addr):SM:=(bE (bb (af (xC (.str "once")) (af (xC (.int 5)) aA))) (aI 8))
noncomputable def xQ(C:Addr):SM:=(bE (aQ (aM fu (aS 0 (aS 1 (au (cm (af (xC .none) (af (hZ (xC (.int 1))) (af (dG fj (af (xV 3) aA)) (af (xC (.bool true)) (af (xC (.str "0")) (af (bb (af (xC (.int 0)) aA)) aA))))))) aF))))) (aI 9))
noncomputable def xR(C:Addr):SM:=(bE (cm (af (aQ (aM (iQ C) (aS 4 (au (xV 6) (au (xV 7) (au (xV 9) aF)))))) (af (aQ (aM (iQ C) (aS 4 (au (xV 2) (au (xV 7) (au (xV 9) aF)))))) aA))) (aI 10))
noncomputable def xS(C:Addr):SM:=(bQ (bo (ao (aP true) (ao iA (xV 10) (cm (af (aQ (aM (iQ C) (aS 4 (au (xV 2) (au (xV 8) (au (xV 9) aF)))))) aA))) (cm (af (bb (af (xC (.str "refused")) (af (xC (.int 0)) aA))) (af (bb (af (xC (.str "refused")) (af (xC (.int 1)) aA))) (af (bb (af (xC (.str "refused")) (af (xC (.int 5)) aA))) aA)))))) (bz (xC (.bool false))) bW)
noncomputable def xT(C:Addr):SM:=(gE 11 (lq C (nk C) (af (xV 2) (af (xV 3) aA))))
noncomputable def sC(C:Addr):SM:=(bQ (iD (bo (ao (aP true) (aQ (aM (lB C) (aS 11 aF))) (ao oi (cm (af (bb (af (xC (.int 0)) (af (xC (.int 0)) (af (xC (.int 0)) (af (xC (.int 0)) aA))))) aA)) (dG fj (af (xV 3) aA))))) (iD (bo (ao (aP true) (aQ (aM (rQ C) (aS 11 aF))) (cm aA))) (bo (ao (aP true) (aQ (ry (lB C) (lq C (nk C) (af (xV 2) (af (bb aA) aA))))) (cm aA))))) (bz (xC (.bool false))) bW)
noncomputable def sD(C:Addr):SM:=(bz (eE (ao (aP false) (aQ (aM (rO C) (aS 11 aF))) (cm aA)) (ao (aP false) (aQ (aM (rP C) (aS 11 aF))) (cm aA))))
noncomputable def xW(C:Addr):SM:=(aB (xK C)
  (aB (xL C)
  (aB (xM C)
  (aB (xN C)
  (aB (xO C)
  (aB (xP C)
  (aB (xQ C)
  (aB (xR C)
  (aB (xS C)
  (aB (xT C)
  (aB (sC C)
  (sD C))))))))))))
noncomputable def CN(C:Addr):FM:=bc 1 12 (xW C)
end K3
namespace K3
open PySem PySem.Spec L2 L2.L3 PyProof.Rows
noncomputable def top(i:Nat):Stmt:=PySem.Challenge.pw_duehall_k33_reports_refused.main.body.getD i (.Pass ⟨0,0,0,0⟩)
noncomputable abbrev sE:Stmt:=top 28
noncomputable abbrev sF:Stmt:=top 29
noncomputable abbrev sG:Stmt:=top 30
noncomputable abbrev sH:Stmt:=top 31
noncomputable abbrev sI:Stmt:=top 32
noncomputable abbrev sJ:Stmt:=top 33
noncomputable abbrev sK:Stmt:=top 34
noncomputable abbrev sL:Stmt:=top 35
noncomputable abbrev sM:Stmt:=top 36
noncomputable abbrev sN:Stmt:=top 37
noncomputable abbrev sO:Stmt:=top 38
noncomputable abbrev sP:Stmt:=top 39
noncomputable abbrev sQ:Stmt:=top 40
noncomputable abbrev sR:Stmt:=top 41
noncomputable abbrev sS:Stmt:=top 42
noncomputable abbrev sT:Stmt:=top 43
noncomputable abbrev sU:Stmt:=top 44
noncomputable abbrev sV:Stmt:=top 45
noncomputable abbrev sW:Stmt:=top 46
noncomputable abbrev sX:Stmt:=top 49
noncomputable abbrev sY:Stmt:=top 50
noncomputable abbrev sZ:Stmt:=top 51
noncomputable abbrev tf:Stmt:=top 52
noncomputable abbrev tj:Stmt:=top 54
noncomputable abbrev tm:Stmt:=top 55
noncomputable abbrev tp:Stmt:=top 56
noncomputable abbrev tq:Stmt:=top 59
noncomputable abbrev tt:Stmt:=top 60
noncomputable abbrev tu:Stmt:=top 61
noncomputable abbrev tw:Stmt:=top 62
noncomputable abbrev tx:Stmt:=top 63
noncomputable abbrev tz:Stmt:=top 64
noncomputable abbrev tD:Stmt:=top 69
noncomputable abbrev tE:Stmt:=fQ (top 70) 0
noncomputable abbrev tF:Stmt:=fQ (top 70) 1
noncomputable abbrev tG:Stmt:=fQ (top 70) 2
noncomputable abbrev tH:Stmt:=fQ (top 70) 3
noncomputable abbrev tI:Stmt:=fQ (top 70) 4
noncomputable abbrev tJ:Stmt:=fQ (top 70) 5
noncomputable abbrev tK:Stmt:=fQ (top 70) 6
noncomputable abbrev tL:Stmt:=fQ (top 70) 7
noncomputable abbrev tM:Stmt:=fQ (top 70) 8
noncomputable abbrev tN:Stmt:=fQ (top 70) 9
noncomputable abbrev tO:Stmt:=fQ (top 70) 10
noncomputable abbrev tP:Stmt:=fQ (top 70) 11
noncomputable abbrev tQ:Stmt:=fQ (top 70) 12
noncomputable abbrev tR:Stmt:=fQ (top 70) 15
noncomputable abbrev tS:Stmt:=top 73
noncomputable abbrev tT:Stmt:=top 74
noncomputable abbrev tU:Stmt:=top 75
noncomputable abbrev tV:Stmt:=top 76
noncomputable abbrev tW:Stmt:=top 78
noncomputable abbrev tY:Stmt:=top 79
noncomputable abbrev tZ:Stmt:=top 80
noncomputable abbrev ua:Stmt:=top 81
noncomputable abbrev ub:Stmt:=top 82
noncomputable abbrev uc:Stmt:=top 84
noncomputable abbrev ud:Stmt:=top 86
noncomputable abbrev ue:Stmt:=top 87
noncomputable abbrev uf:Stmt:=top 88
noncomputable abbrev ug:Stmt:=top 89
noncomputable abbrev uh:Stmt:=top 90
noncomputable abbrev ui:Stmt:=top 91
noncomputable abbrev ko:Stmt:=top 92
theorem ND:aa ["thing","least","most"] ["thing","least","most"] (aZ sE):=bu
theorem NE:aa ["thing","length"] ["thing","length"] (aZ sF):=bu
theorem NF:aa ["thing"] ["thing"] (aZ sG):=bu
theorem NG:aa ["thing"] ["thing"] (aZ sH):=bu
theorem NH:aa ["thing"] ["thing"] (aZ sI):=bu
theorem NJ:aa ["thing"] ["thing"] (aZ sJ):=bu
theorem uj:aa ["thing","earliest","shift"] ["thing"] (aZ sK):=bu
theorem NK:aa ["thing"] ["thing"] (aZ sL):=bu
theorem NL:aa ["thing","word","length"] ["thing","word","length"] (aZ sM):=bu
theorem NM:aa ["thing"] ["thing"] (aZ sN):=bu
theorem NN:aa ["thing"] ["thing"] (aZ sO):=bu
theorem NO:aa ["thing"] ["thing"] (aZ sP):=bu
theorem NP:aa ["thing"] ["thing"] (aZ sQ):=bu
theorem NQ:aa ["thing"] ["thing"] (aZ sR):=bu
theorem NR:aa ["thing"] ["thing"] (aZ sS):=bu
theorem NS:aa ["thing"] ["thing"] (aZ sT):=bu
theorem NT:aa ["thing"] ["thing"] (aZ sU):=bu
theorem NU:aa ["thing"] ["thing"] (aZ sV):=bu
theorem NW:aa ["thing"] ["thing"] (aZ sW):=bu
theorem uk:aa ["zone","moment","ahead","shift"] ["zone","moment"] (aZ sX):=bu
theorem um:aa ["zone","starts","ends","aheads"] ["zone"] (aZ sY):=bu
theorem NX:aa ["moment","end"] ["moment","end"] (aZ sZ):=bu
theorem CO:aa ["zone","hours","reached"] ["zone","hours"] (aZ tf):=bu
theorem NY:aa ["zone","hour"] ["zone","hour"] (aZ tj):=bu
theorem CP:aa ["zone","hour","count","day"] ["zone","hour","count"] (aZ tm):=bu
theorem Oa:aa ["zone","plan","count"] ["zone","plan","count"] (aZ tp):=bu
theorem CQ:aa ["rows","deed","words"] ["rows","deed"] (aZ tq):=bu
theorem CS:aa ["hall","rows"] ["hall"] (aZ tt):=bu
theorem Ob:aa ["hall","zone","plan","deed"] ["hall","zone","plan","deed"] (aZ tu):=bu
theorem lH:aa ["hall","often","moment","runner","word","deed","count"] ["hall"] (aZ tw):=bu
theorem lI:aa ["hall","many","moment","runner","word","deed","count"] ["hall"] (aZ tx):=bu
theorem kq:aa ["hall","found","begins","moment","runner","word","deed","count"] ["hall"] (aZ tz):=bu
theorem CT:aa ["zone","deed","count","now","later"] ["zone","deed","count","now"] (aZ tD):=bu
theorem Oc:aa ["self","zone","deeds"] ["self","zone","deeds"] (aZ tE):=bu
theorem Od:aa ["self","moment"] ["self","moment"] (aZ tF):=bu
theorem Oe:aa ["self","runner","moment"] ["self","runner","moment"] (aZ tG):=bu
theorem Of:aa ["self","runner","moment"] ["self","runner","moment"] (aZ tH):=bu
theorem Og:aa ["self","runner","moment","term"] ["self","runner","moment","term"] (aZ tI):=bu
theorem Oh:aa ["self","runner","moment"] ["self","runner","moment"] (aZ tJ):=bu
theorem uo:aa ["self","row","word","deed","count"] ["self","row"] (aZ tK):=bu
theorem Oi:aa ["self"] ["self"] (aZ tL):=bu
theorem pz:aa ["self","found","deed","count","moment"] ["self"] (aZ tM):=bu
theorem Oj:aa ["self","runner","moment"] ["self","runner","moment"] (aZ tN):=bu
theorem xX:aa ["self","runner","moment","deed","word"] ["self","runner","moment"] (aZ tO):=bu
theorem pA:aa ["self","runner","moment","found","deed","count","word"] ["self","runner","moment"] (aZ tP):=bu
theorem Ol:aa ["self","runner","moment"] ["self","runner","moment"] (aZ tQ):=bu
theorem Om:aa ["self"] ["self"] (aZ tR):=bu
theorem Oo:aa ["thing"] ["thing"] (aZ tS):=bu
theorem Op:aa ["hall","call"] ["hall","call"] (aZ tT):=bu
theorem Oq:aa ["hall","call"] ["hall","call"] (aZ tU):=bu
theorem CU:aa ["zone","deeds","calls","hall"] ["zone","deeds","calls"] (aZ tV):=bu
theorem Ot:aa ["_law_script","_law_k"] ["_law_script","_law_k"] (aZ tW):=bu
theorem CV:aa ["_law_script","_law_k","_law_many","_law_drawn"] ["_law_script","_law_k","_law_many"] (aZ tY):=bu
theorem Ou:aa ["_law_script","_law_town","_law_many"] ["_law_script","_law_town","_law_many"] (aZ tZ):=bu
theorem Ov:aa ["_law_script","_law_town","_law_some"] ["_law_script","_law_town","_law_some"] (aZ ua):=bu
theorem nr:aa ["_law_script","_law_town","_law_wide","_law_made","_law_at","_law_k"] ["_law_script","_law_town","_law_wide"] (aZ ub):=bu
theorem xY:aa ["_law_script","_law_town","_law_wide","_law_kind","_law_step"] ["_law_script","_law_town","_law_wide"] (aZ uc):=bu
theorem lJ:aa ["_law_script","_law_town","_law_most","_law_wide","_law_made","_law_k","_law_hours","_law_late","_law_again"] ["_law_script","_law_town","_law_most","_law_wide"] (aZ ud):=bu
theorem kr:aa ["_law_script","_law_town","_law_zone_here","_law_deeds_here","_law_most","_law_calls","_law_moment","_law_k","_law_runner","_law_word","_law_call","_law_hall","_law_told"] ["_law_script","_law_town","_law_zone_here","_law_deeds_here","_law_most"] (aZ ue):=bu
theorem xZ:aa ["_law_script","_law_town","_law_some"] ["_law_script","_law_town"] (aZ uf):=bu
theorem CW:aa ["_law_script","_law_town","_law_some"] ["_law_script","_law_town"] (aZ ug):=bu
theorem CY:aa ["_law_e","_law_own"] ["_law_e"] (aZ uh):=bu
theorem CZ:aa ["_law_hall","_law_zone_here","_law_plan_here","_law_deed","_law_e"] ["_law_hall","_law_zone_here","_law_plan_here","_law_deed"] (aZ ui):=bu
theorem iS:aa ["_law_script","_law_town","_law_zone_here","_law_deeds_here","_law_hall","_law_calls","_law_bad","_law_none","_law_plan_here","_law_number","_law_told","_law_new"] ["_law_script"] (aZ ko):=bu
structure Tx (P:Program) (w:World) (K:Frag) (mg:Str->Option Value):Prop where
 d00:∃g fd,FD K mg "is_whole" sE ["thing","least","most"] g fd
 d01:∃g fd,FD K mg "is_tuple_of" sF ["thing","length"] g fd
 d02:∃g fd,FD K mg "is_ahead" sG ["thing"] g fd
 d03:∃g fd,FD K mg "is_moment" sH ["thing"] g fd
 d04:∃g fd,FD K mg "is_runner" sI ["thing"] g fd
 d05:∃g fd,FD K mg "is_term" sJ ["thing"] g fd
 d06:∃g fd,FD K mg "are_shifts" sK ["thing"] g fd
 d07:∃g fd,FD K mg "is_zone" sL ["thing"] g fd
 d08:∃g fd,FD K mg "has_word" sM ["thing","word","length"] g fd
 d09:∃g fd,FD K mg "is_plan" sN ["thing"] g fd
 d0a:∃g fd,FD K mg "is_late" sO ["thing"] g fd
 d0b:∃g fd,FD K mg "is_deed" sP ["thing"] g fd
 d0c:∃g fd,FD K mg "are_deeds" sQ ["thing"] g fd
 d0d:∃g fd,FD K mg "check_zone" sR ["thing"] g fd
 d0e:∃g fd,FD K mg "check_plan" sS ["thing"] g fd
 d0f:∃g fd,FD K mg "check_moment" sT ["thing"] g fd
 d0g:∃g fd,FD K mg "check_deeds" sU ["thing"] g fd
 d0h:∃g fd,FD K mg "check_runner" sV ["thing"] g fd
 d0i:∃g fd,FD K mg "check_term" sW ["thing"] g fd
 d0j:∃g fd,FD K mg "shown" sX ["zone","moment"] g fd
 d0k:∃g fd,FD K mg "stretches" sY ["zone"] g fd
 d0l:∃g fd,FD K mg "is_ahead_of" sZ ["moment","end"] g fd
 d0m:∃g fd,FD K mg "first_showing" tf ["zone","hours"] g fd
 d0n:∃g fd,FD K mg "first_day" tj ["zone","hour"] g fd
 d0o:∃g fd,FD K mg "daily_time" tm ["zone","hour","count"] g fd
 d0p:∃g fd,FD K mg "time_of" tp ["zone","plan","count"] g fd
 d0q:∃g fd,FD K mg "tally" tq ["rows","deed"] g fd
 d0r:∃g fd,FD K mg "tallies" tt ["hall"] g fd
 d0s:∃g fd,FD K mg "lateness" tu ["hall","zone","plan","deed"] g fd
 d0t:∃g fd,FD K mg "begun_again" tw ["hall"] g fd
 d0u:∃g fd,FD K mg "by_runner" tx ["hall"] g fd
 d0v:∃g fd,FD K mg "long_done" tz ["hall"] g fd
 d0w:∃g fd,FD K mg "is_left_out" tD ["zone","deed","count","now"] g fd
 d0x:∃g fd,FD K mg "check_call" tS ["thing"] g fd
 d0y:∃g fd,FD K mg "ask" tT ["hall","call"] g fd
 d0z:∃g fd,FD K mg "do" tU ["hall","call"] g fd
 d10:∃g fd,FD K mg "run" tV ["zone","deeds","calls"] g fd
 d11:∃g fd,FD K mg "_law_cell_at" tW ["_law_script","_law_k"] g fd
 d12:∃g fd,FD K mg "_law_mixed" tY ["_law_script","_law_k","_law_many"] g fd
 d13:∃g fd,FD K mg "_law_draw" tZ ["_law_script","_law_town","_law_many"] g fd
 d14:∃g fd,FD K mg "_law_pick" ua ["_law_script","_law_town","_law_some"] g fd
 d15:∃g fd,FD K mg "_law_zone" ub ["_law_script","_law_town","_law_wide"] g fd
 d16:∃g fd,FD K mg "_law_plan" uc ["_law_script","_law_town","_law_wide"] g fd
 d17:∃g fd,FD K mg "_law_deeds" ud ["_law_script","_law_town","_law_most","_law_wide"] g fd
 d18:∃g fd,FD K mg "_law_called" ue ["_law_script","_law_town","_law_zone_here","_law_deeds_here","_law_most"] g fd
 d19:∃g fd,FD K mg "_law_odd_zone" uf ["_law_script","_law_town"] g fd
 d1a:∃g fd,FD K mg "_law_odd_plan" ug ["_law_script","_law_town"] g fd
 d1b:∃g fd,FD K mg "_law_which" uh ["_law_e"] g fd
 d1c:∃g fd,FD K mg "_law_ask" ui ["_law_hall","_law_zone_here","_law_plan_here","_law_deed"] g fd
 d1d:∃t,mg "LAST_MOMENT" = some (.int (9999) t)
 d1e:∃t,mg "LAST_HOUR" = some (.int (23) t)
 d1f:∃t,mg "LEAST_AHEAD" = some (.int (-12) t)
 d1g:∃t,mg "MOST_AHEAD" = some (.int (14) t)
 d1h:∃t,mg "MOST_SHIFTS" = some (.int (6) t)
 d1i:∃t,mg "MOST_STEP" = some (.int (999) t)
 d1j:∃t,mg "MOST_DEEDS" = some (.int (6) t)
 d1k:∃t,mg "MOST_WITHIN" = some (.int (999) t)
 d1l:∃t,mg "LAST_RUNNER" = some (.int (3) t)
 d1m:∃t,mg "MOST_TERM" = some (.int (99) t)
 d1n:∃t,mg "DAY_HOURS" = some (.int (24) t)
 d1o:∃g,mg "WORDS" = some (.ref g)/\oF K g ["begun","done","left","unsure"]
 d1p:∃t,mg "PLAN" = some (.int (0) t)
 d1q:∃t,mg "LATE" = some (.int (1) t)
 d1r:∃t,mg "AGAIN" = some (.int (2) t)
 d1s:∃d,mg "LENGTHS" = some (.ref d)/\Cq P w K d [("take",4),("give",3),("step",3),("finish",3)]
 d1t:mg "ValueError" = none
 d1u:mg "all" = none
 d1v:mg "any" = none
 d1w:mg "bool" = none
 d1x:mg "int" = none
 d1y:mg "isinstance" = none
 d1z:mg "len" = none
 d20:mg "list" = none
 d21:mg "max" = none
 d22:mg "min" = none
 d23:mg "range" = none
 d24:mg "sorted" = none
 d25:mg "str" = none
 d26:mg "tuple" = none
 d27:mg "zip" = none
 xt0:∃D,XT K mg dO D
structure cR (K:Frag) (mg:Str->Option Value) (C:Addr):Prop where
 cl:dg K C
 mg:mg "Hall" = some (.ref C)
 mks:PySem.W.makesIn K C=true
 kpC:keepIn K (.ref C)=true
 d28:cO K C "begun"
 d29:cO K C "deeds"
 d2a:cO K C "holder"
 d2b:cO K C "holds"
 d2c:cO K C "last"
 d2d:cO K C "rows"
 d2e:cO K C "settled"
 d2f:cO K C "until"
 d2g:cO K C "words"
 d2h:cO K C "zone"
 d2i:∃g fd,MD K C "__init__" "Hall.__init__" tE ["self","zone","deeds"] g fd
 d2j:∃g fd,MD K C "is_held" "Hall.is_held" tF ["self","moment"] g fd
 d2k:∃g fd,MD K C "check_call" "Hall.check_call" tG ["self","runner","moment"] g fd
 d2l:∃g fd,MD K C "check_holder" "Hall.check_holder" tH ["self","runner","moment"] g fd
 d2m:∃g fd,MD K C "take" "Hall.take" tI ["self","runner","moment","term"] g fd
 d2n:∃g fd,MD K C "give" "Hall.give" tJ ["self","runner","moment"] g fd
 d2o:∃g fd,MD K C "add_row" "Hall.add_row" tK ["self","row"] g fd
 d2p:∃g fd,MD K C "is_busy" "Hall.is_busy" tL ["self"] g fd
 d2q:∃g fd,MD K C "first_unsettled" "Hall.first_unsettled" tM ["self"] g fd
 d2r:∃g fd,MD K C "step" "Hall.step" tN ["self","runner","moment"] g fd
 d2s:∃g fd,MD K C "step_behind_a_fall" "Hall.step_behind_a_fall" tO ["self","runner","moment"] g fd
 d2t:∃g fd,MD K C "step_ahead" "Hall.step_ahead" tP ["self","runner","moment"] g fd
 d2u:∃g fd,MD K C "finish" "Hall.finish" tQ ["self","runner","moment"] g fd
 d2v:∃g fd,MD K C "log" "Hall.log" tR ["self"] g fd
theorem cR.make{K:Frag}{a:Str->Option Value}{C g:Addr}(h:cR K a C)(M:gX K C "__init__" g):Mk K C g:=⟨h.mks,M.at_,M.fn,h.kpC⟩
theorem Ow:bootBuiltins "int" = some (.type "int"):=by decide +kernel
theorem Db:bootBuiltins "bool" = some (.type "bool"):=by decide +kernel
theorem Dc:bootBuiltins "str" = some (.type "str"):=by decide +kernel
theorem uq:bootBuiltins "tuple" = some (.type "tuple"):=by decide +kernel
theorem Ox:bootBuiltins "list" = some (.type "list"):=by decide +kernel
theorem Dd:bootBuiltins "max" = some (.builtin "max"):=by decide +kernel
theorem Sb:bootBuiltins "divmod" = some (.builtin "divmod"):=by decide +kernel
theorem Oy:bootBuiltins "all" = some (.builtin "all"):=by decide +kernel
theorem Oz:bootBuiltins "any" = some (.builtin "any"):=by decide +kernel
theorem Sc:bootBuiltins "sum" = some (.builtin "sum"):=by decide +kernel
theorem Sd:bootBuiltins "min" = some (.builtin "min"):=by decide +kernel
theorem OA:bootBuiltins "sorted" = some (.builtin "sorted"):=by decide +kernel
theorem OB{k:Nat}{A:Around}(r:cy k A):A.units+64<cLine:=by have:=r.un;omega
theorem fL{X:Cx}{F:Fx}(a:GF X.mg F):dS X F dH:=⟨a,fun _ _ _ _ _ _ _ _ _ _ z=>z.elim⟩
end K3
namespace K3
open PySem PySem.Spec L2 L2.L3 PyProof.Rows
local macro_rules | `(tactic| walk_at "z")=>`(tactic| first|rfl|exact .inl rfl|exact .inr rfl|assumption|exact fun _=>rfl)
section
variable(P:Program)(w:World){K:Frag}{mg:Str->Option Value}(base:Heap)
theorem kt{g:Addr}{fd:FuncData}(T:Tx P w K mg)(D:FD K mg "is_whole" sE ["thing","least","most"] g fd):ay P w K mg base (aU P w) 1 g fd ["thing","least","most"] (aW K mg gc):=by
 refine bv D.fn ND (by decide) ?_;intro b A a s H E F c d e;unfold oN;refine aG ?_;refine bD ?_
 ·exact(eR (jr (jj rfl T.d1y (fv 0) (im rfl T.d1x Ow rfl))) (eR (Lg (jr (jj rfl T.d1y (fv 0) (im rfl T.d1w Db rfl)))) (fY (Me (fv 1) (fv 0) (fv 2)))))
theorem ur{g:Addr}{fd:FuncData}(T:Tx P w K mg)(D:FD K mg "is_tuple_of" sF ["thing","length"] g fd):ay P w K mg base (aU P w) 1 g fd ["thing","length"] (aW K mg kg):=by
 refine bv D.fn NE (by decide) ?_;intro b A a s H E F d c e;unfold rB;refine aG ?_;refine bD ?_
 ·exact(eR (jr (jj rfl T.d1y (fv 0) (im rfl T.d26 uq rfl))) (fY (kb c.units (fH jn (fV gZ jl rfl T.d1z PySem.boot_len (ag (fv 0) aD))) (fv 1))))
theorem OC{g:Addr}{fd:FuncData}(T:Tx P w K mg)(D:FD K mg "shown" sX ["zone","moment"] g fd):ay P w K mg base (aU P w) 1 g fd ["zone","moment"] (aW K mg rD):=by
 refine bv D.fn uk (by decide) ?_;intro b A a s H E F c d e;unfold wT;refine aE ?_ ?_
 ·refine bP (i:=2) ?_ ?_ ?_ ?_ ?_ ?_<;>try walk_at "z"
  ·exact uk.nd
  ·exact(bd (fv 0) (ae aq))
 refine aE ?_ ?_
 ·refine jt ?_ ?_ ?_ ?_ ?_ ?_<;>try walk_at "z"
  ·exact PassesOwn.leaving
  ·exact(mw (bd (fv 0) (ae aq)))
  ·exact(ck 3 uk.nd)
  ·unfold rC;refine aG ?_;refine bX ?_ ?_ ?_
   ·exact(Mb (bd (fv 3) (ae aq)) (fv 1))
   ·refine aG ?_;refine bP (i:=2) ?_ ?_ ?_ ?_ ?_ ?_<;>try walk_at "z"
    ·exact uk.nd
    ·exact(bd (fv 3) (ae aq))
   ·exact ca
 refine aG ?_;refine bD ?_
 ·exact(eG (fv 1) (fv 2))
theorem OD{g:Addr}{fd:FuncData}(T:Tx P w K mg)(D:FD K mg "stretches" sY ["zone"] g fd):ay P w K mg base (aU P w) 1 g fd ["zone"] (aW K mg rE):=by
 refine bv D.fn um (by decide) ?_;intro c A a s H E F e f b;unfold wW;refine aE ?_ ?_
 ·refine bP (i:=1) ?_ ?_ ?_ ?_ ?_ ?_<;>try walk_at "z"
  ·exact um.nd
  ·exact(li (cH (ag (ae aq) aD)) (jW b.1 (aj.of (own:=["shift"]) (capN:=[]) (caps:=[])) rfl rfl (mw (bd (fv 0) (ae aq))) (fun _ _ _ _ _ _ d=>⟨(ck 0 (show((["shift"]:List Str)++([]:List Str)).Nodup from by decide +kernel)),jV,(bd (fv 0) (ae aq))⟩)))
 refine aE ?_ ?_
 ·refine bP (i:=2) ?_ ?_ ?_ ?_ ?_ ?_<;>try walk_at "z"
  ·exact um.nd
  ·exact(li (LB (Kn (k:=1) (fv 1))) (cH (ag (ae em) aD)))
 refine aE ?_ ?_
 ·refine bP (i:=3) ?_ ?_ ?_ ?_ ?_ ?_<;>try walk_at "z"
  ·exact um.nd
  ·exact(li (cH (ag (bd (fv 0) (ae aq)) aD)) (jW b.1 (aj.of (own:=["shift"]) (capN:=[]) (caps:=[])) rfl rfl (mw (bd (fv 0) (ae aq))) (fun _ _ _ _ _ _ d=>⟨(ck 0 (show((["shift"]:List Str)++([]:List Str)).Nodup from by decide +kernel)),jV,(bd (fv 0) (ae aq))⟩)))
 refine aG ?_;refine bD ?_
 ·exact(LA (Km rfl rfl T.d20 rfl T.d27 (ag (fv 1) (ag (fv 2) (ag (fv 3) aD)))))
theorem OE{g:Addr}{fd:FuncData}(T:Tx P w K mg)(D:FD K mg "is_ahead_of" sZ ["moment","end"] g fd):ay P w K mg base (aU P w) 1 g fd ["moment","end"] (aW K mg rF):=by
 refine bv D.fn NX (by decide) ?_;intro b A a s H E F c d e;unfold wX;refine aG ?_;refine bD ?_
 ·exact(Bb (Mc (fv 1) (ae em)) (fY (BL (fv 0) (fv 1))))
theorem OF{g:Addr}{fd:FuncData}(T:Tx P w K mg)(D:FD K mg "tally" tq ["rows","deed"] g fd):ay P w K mg base (aU P w) 1 g fd ["rows","deed"] (aW K mg wY):=by
 obtain⟨b,a⟩:=T.d1o;refine bv D.fn CQ (by decide) ?_;intro e A c s H E F j f d;unfold CH;refine aE ?_ ?_
 ·refine bP (i:=2) ?_ ?_ ?_ ?_ ?_ ?_<;>try walk_at "z"
  ·exact CQ.nd
  ·exact(jW d.1 (aj.of (own:=["row"]) (capN:=["deed"]) (caps:=[1])) rfl rfl (jU (fv 0)) (fun _ _ _ _ _ _ h=>⟨(ck 0 (show((["row"]:List Str)++(["deed"]:List Str)).Nodup from by decide +kernel)),(qO (fJ f.units (bd (fv 0) (ae aq)) (fv 1))),(bd (fv 0) (ae aq))⟩))
 refine aG ?_;refine bD ?_
 ·exact(fH Lj (Jb Hi Kk rfl T.d26 uq (ag (jW d.1 (aj.of (own:=["word"]) (capN:=["words"]) (caps:=[2])) rfl rfl (MS rfl a.1 a.2) (fun _ _ _ _ _ _ h=>⟨(ck 0 (show((["word"]:List Str)++(["words"]:List Str)).Nodup from by decide +kernel)),jV,(wt (g:=mB) PySem.F.slot_list_count PySem.F.type_list_count BA BF (pv 1) (fv 0))⟩)) aD)))
theorem OG{g:Addr}{fd:FuncData}(T:Tx P w K mg)(D:FD K mg "_law_cell_at" tW ["_law_script","_law_k"] g fd):ay P w K mg base (aU P w) 1 g fd ["_law_script","_law_k"] (aW K mg mR):=by
 refine bv D.fn Ot (by decide) ?_;intro b A a s H E F d c e;unfold oO;refine aE ?_ ?_
 ·refine bX ?_ ?_ ?_
  ·exact(BM (fv 1) (Bg (AI rfl T.d1z (pv 0))))
  ·refine aG ?_;refine bD ?_
   ·exact(Bh (AK (pv 0) (fv 1) (by intro _ _;rfl)))
  ·exact ca
 refine aE ?_ ?_
 ·refine bX ?_ ?_ ?_
  ·exact(Ll (Kr c.units (pv 0)))
  ·refine aG ?_;refine bD ?_
   ·exact(ae aq)
  ·exact ca
 refine aG ?_;refine bD ?_
 ·exact(eG (oz (Bh (AK (pv 0) (oA (fv 1) (Bg (AI rfl T.d1z (pv 0)))) (by intro _ _;rfl))) (ae aq)) (fv 1))
theorem OH{g:Addr}{fd:FuncData}(T:Tx P w K mg)(D:FD K mg "_law_which" uh ["_law_e"] g fd):eS P w K mg base (aU P w) 1 g fd ["_law_e"] (aW K mg oP):=by
 obtain⟨c,a⟩:=T.xt0;refine LN D.fn CY (by decide) ?_;intro d A b s H E F f e h;unfold CI;refine aE ?_ ?_
 ·refine jq (i:=1) ?_ ?_ ?_ ?_ ?_ ?_<;>try walk_at "z"
  ·exact CY.nd
  ·exact(oo (ag (gb a rfl T.d1y (pv 0) rfl (by decide +kernel)) (ag (gb a rfl T.d1y (pv 0) rfl (by decide +kernel)) (ag (gb a rfl T.d1y (pv 0) rfl (by decide +kernel)) (ag (gb a rfl T.d1y (pv 0) rfl (by decide +kernel)) aD)))))
 refine aE ?_ ?_
 ·refine ww ?_ ?_ ?_ ?_ ?_ ?_ ?_ ?_<;>try walk_at "z"
  ·exact(pv 1)
  ·exact(cH (ag (gb a rfl T.d1y (pv 0) rfl (by decide +kernel)) (ag (gb a rfl T.d1y (pv 0) rfl (by decide +kernel)) (ag (gb a rfl T.d1y (pv 0) rfl (by decide +kernel)) (ag (gb a rfl T.d1y (pv 0) rfl (by decide +kernel)) aD)))))
 refine aE ?_ ?_
 ·refine ww ?_ ?_ ?_ ?_ ?_ ?_ ?_ ?_<;>try walk_at "z"
  ·exact(pv 1)
  ·exact(cH (ag (gb a rfl T.d1y (pv 0) rfl (by decide +kernel)) (ag (gb a rfl T.d1y (pv 0) rfl (by decide +kernel)) (ag (gb a rfl T.d1y (pv 0) rfl (by decide +kernel)) (ag (gb a rfl T.d1y (pv 0) rfl (by decide +kernel)) aD)))))
 refine aE ?_ ?_
 ·refine ww ?_ ?_ ?_ ?_ ?_ ?_ ?_ ?_<;>try walk_at "z"
  ·exact(pv 1)
  ·exact(cH (ag (gb a rfl T.d1y (pv 0) rfl (by decide +kernel)) (ag (gb a rfl T.d1y (pv 0) rfl (by decide +kernel)) aD)))
 refine aE ?_ ?_
 ·refine bX ?_ ?_ ?_
  ·exact(jR (kT (lm (OB e) (wt (g:=mB) PySem.F.slot_list_count PySem.F.type_list_count BA BF (pv 1) (ae fF)) (ae aq)) (mr (eF (dj (di (LW a rfl T.d1y (pv 0) rfl T.d1t)))))))
  ·refine aG ?_;refine bD ?_
   ·exact(bn (ag (ae bB) (ag (iB (ae aq)) aD)))
  ·exact ca
 refine aG ?_;refine bD ?_
 ·exact(bn (ag (ae bB) (ag (wt (g:=qX) PySem.F.slot_list_index PySem.F.type_list_index LS LU (pv 1) (ae fF)) aD)))
theorem De{C:Addr}{g:Addr}{fd:FuncData}(T:Tx P w K mg)(a:cR K mg C)(D:MD K C "is_held" "Hall.is_held" tF ["self","moment"] g fd):ay P w K mg base (aU P w) 1 g fd ["self","moment"] (aW K mg (oQ C)):=by
 refine bv D.fn Od (by decide) ?_;intro c A b s H E F d e f;unfold wZ;refine aG ?_;refine bD ?_
 ·exact(eR (wz (dq a.cl a.d2a (pv 0)) (ae em)) (fY (BL (fv 1) (dq a.cl a.d2f (pv 0)))))
theorem ya{C:Addr}{g:Addr}{fd:FuncData}(T:Tx P w K mg)(a:cR K mg C)(D:MD K C "add_row" "Hall.add_row" tK ["self","row"] g fd):ay P w K mg base (aU P w) 1 g fd ["self","row"] (aW K mg (gd C)):=by
 refine bv D.fn uo (by decide) ?_;intro d A b s H E F e c f;unfold mS;refine aE ?_ ?_
 ·refine bP (i:=2) ?_ ?_ ?_ ?_ ?_ ?_<;>try walk_at "z"
  ·exact uo.nd
  ·exact(bd (fv 1) (ae aq))
 refine aE ?_ ?_
 ·refine bP (i:=3) ?_ ?_ ?_ ?_ ?_ ?_<;>try walk_at "z"
  ·exact uo.nd
  ·exact(bd (fv 1) (ae aq))
 refine aE ?_ ?_
 ·refine bP (i:=4) ?_ ?_ ?_ ?_ ?_ ?_<;>try walk_at "z"
  ·exact uo.nd
  ·exact(bd (fv 1) (ae aq))
 refine aE ?_ ?_
 ·refine Mm ?_ ?_ ?_ ?_ ?_ ?_ ?_ ?_ ?_ ?_ ?_<;>try walk_at "z"
  ·exact a.cl
  ·exact a.d2d
  ·exact(pv 0)
  ·exact(pv 1)
 refine aE ?_ ?_
 ·refine Mo ?_ ?_ ?_ ?_ ?_ ?_ ?_ ?_ ?_ ?_ ?_<;>try walk_at "z"
  ·exact(qb c)
  ·exact a.cl
  ·exact a.d2g
  ·exact(pv 0)
  ·exact(pv 3)
  ·exact(pv 4)
  ·exact(fv 2)
 refine aE ?_ ?_
 ·refine bX ?_ ?_ ?_
  ·exact(fJ c.units (fv 2) (ae bB))
  ·refine aG ?_;refine fr ?_ ?_ ?_ ?_ ?_
   ·exact a.cl
   ·exact a.d28
   ·exact(pv 0)
   ·exact(bn (ag (fv 3) (ag (fv 4) (ag (dq a.cl a.d2b (pv 0)) aD))))
   ·rfl
  ·refine aE ?_ ?_
   ·refine fr ?_ ?_ ?_ ?_ ?_
    ·exact a.cl
    ·exact a.d28
    ·exact(pv 0)
    ·exact(ae em)
    ·rfl
   refine aG ?_;refine Mq ?_ ?_ ?_ ?_ ?_ ?_ ?_ ?_ ?_ ?_<;>try walk_at "z"
   ·exact a.cl
   ·exact a.d2e
   ·exact(pv 0)
   ·exact(pv 3)
   ·exact(eG (fv 4) (ae aq))
 refine aG ?_;refine bD ?_
 ·exact(bn (ag (fv 2) (ag (fv 3) (ag (fv 4) aD))))
theorem Df{C:Addr}{g:Addr}{fd:FuncData}(T:Tx P w K mg)(a:cR K mg C)(D:MD K C "is_busy" "Hall.is_busy" tL ["self"] g fd):ay P w K mg base (aU P w) 1 g fd ["self"] (aW K mg (mT C)):=by
 refine bv D.fn Oi (by decide) ?_;intro c A b s H E F e d f;unfold rG;refine aG ?_;refine bD ?_
 ·exact(eR (wz (dq a.cl a.d28 (pv 0)) (ae em)) (fY (kb d.units (bd (dq a.cl a.d28 (pv 0)) (ae aq)) (dq a.cl a.d2b (pv 0)))))
theorem pB{C:Addr}{g:Addr}{fd:FuncData}(T:Tx P w K mg)(b:cR K mg C)(D:MD K C "log" "Hall.log" tR ["self"] g fd):ay P w K mg base (aU P w) 1 g fd ["self"] (aW K mg (jy C)):=by
 refine bv D.fn Om (by decide) ?_;intro c A a s H E F d e f;unfold xa;refine aG ?_;refine bD ?_
 ·exact(Mu rfl T.d20 b.cl b.d2d (pv 0))
theorem Dg{g:Addr}{fd:FuncData}(T:Tx P w K mg)(D:FD K mg "is_ahead" sG ["thing"] g fd):ay P w K mg base (aU P w) 2 g fd ["thing"] (aW K mg oR):=by
 obtain⟨l,m,f⟩:=T.d00;have h:=kt P w base T f;obtain⟨c,a⟩:=T.d1f;obtain⟨d,b⟩:=T.d1g;refine bv D.fn NF (by decide) ?_;intro i A e s H E F n j k;unfold xb;refine aG ?_;refine dD ?_
 ·exact(aO k h f j (av (fv 0) (av (ae (ef rfl a)) (av (ae (ef rfl b)) aJ))))
theorem Dh{g:Addr}{fd:FuncData}(T:Tx P w K mg)(D:FD K mg "is_moment" sH ["thing"] g fd):ay P w K mg base (aU P w) 2 g fd ["thing"] (aW K mg mU):=by
 obtain⟨j,k,d⟩:=T.d00;have e:=kt P w base T d;obtain⟨b,a⟩:=T.d1d;refine bv D.fn NG (by decide) ?_;intro f A c s H E F l h i;unfold xc;refine aG ?_;refine dD ?_
 ·exact(aO i e d h (av (fv 0) (av (ae aq) (av (ae (ef rfl a)) aJ))))
theorem OI{g:Addr}{fd:FuncData}(T:Tx P w K mg)(D:FD K mg "is_runner" sI ["thing"] g fd):ay P w K mg base (aU P w) 2 g fd ["thing"] (aW K mg rH):=by
 obtain⟨j,k,d⟩:=T.d00;have e:=kt P w base T d;obtain⟨b,a⟩:=T.d1l;refine bv D.fn NH (by decide) ?_;intro f A c s H E F l h i;unfold xf;refine aG ?_;refine dD ?_
 ·exact(aO i e d h (av (fv 0) (av (ae aq) (av (ae (ef rfl a)) aJ))))
theorem OJ{g:Addr}{fd:FuncData}(T:Tx P w K mg)(D:FD K mg "is_term" sJ ["thing"] g fd):ay P w K mg base (aU P w) 2 g fd ["thing"] (aW K mg rJ):=by
 obtain⟨j,k,d⟩:=T.d00;have e:=kt P w base T d;obtain⟨b,a⟩:=T.d1m;refine bv D.fn NJ (by decide) ?_;intro f A c s H E F l h i;unfold xg;refine aG ?_;refine dD ?_
 ·exact(aO i e d h (av (fv 0) (av (ae aq) (av (ae (ef rfl a)) aJ))))
theorem yb{g:Addr}{fd:FuncData}(T:Tx P w K mg)(D:FD K mg "has_word" sM ["thing","word","length"] g fd):ay P w K mg base (aU P w) 2 g fd ["thing","word","length"] (aW K mg iN):=by
 obtain⟨h,i,b⟩:=T.d01;have d:=ur P w base T b;refine bv D.fn NL (by decide) ?_;intro e A a s H E F j c f;unfold oS;refine aG ?_;refine bD ?_
 ·exact(eR (aX (aO f d b c (av (fv 0) (av (fv 2) aJ)))) (eR (jr (jj rfl T.d1y (bd (fv 0) (ae aq)) (im rfl T.d25 Dc rfl))) (fY (kb c.units (bd (fv 0) (ae aq)) (fv 1)))))
theorem OK{g:Addr}{fd:FuncData}(T:Tx P w K mg)(D:FD K mg "first_showing" tf ["zone","hours"] g fd):ay P w K mg base (aU P w) 2 g fd ["zone","hours"] (aW K mg rK):=by
 obtain⟨l,m,b⟩:=T.d0k;have f:=OD P w base T b;obtain⟨g1,f1,c⟩:=T.d0l;have h:=OE P w base T c;refine bv D.fn CO (by decide) ?_;intro j A a s H E F o d e;unfold xj;refine aE ?_ ?_
 ·refine Ls (i:=2) (own:=["start","end","ahead"]) (capN:=["hours"]) (caps:=[1]) ?_ ?_ ?_ ?_ ?_ ?_ ?_ ?_ ?_ ?_ ?_ ?_<;>try walk_at "z"
  ·exact CO.nd
  ·exact e.1
  ·exact(aj.of (own:=["start","end","ahead"]) (capN:=["hours"]) (caps:=[1]))
  ·exact(jU (aX (aO e f b d (av (fv 0) aJ))))
  ·exact(fun _ _ _ _ _ _ k=>⟨(om (n:=3) rfl (eg (ck 0 (show((["start","end","ahead"]:List Str)++(["hours"]:List Str)).Nodup from by decide +kernel)) (eg (ck 1 (show((["start","end","ahead"]:List Str)++(["hours"]:List Str)).Nodup from by decide +kernel)) (eg (ck 2 (show((["start","end","ahead"]:List Str)++(["hours"]:List Str)).Nodup from by decide +kernel)) oj)))),(qO (dj (di (aX (aO (fL k) h c d (av (fH Bf (fV (zd rfl) AB rfl T.d21 Dd (ag (fv 0) (ag (mG (fv 3) (fv 2)) aD)))) (av (fv 1) aJ))))))),(fH Bf (fV (zd rfl) AB rfl T.d21 Dd (ag (fv 0) (ag (mG (fv 3) (fv 2)) aD))))⟩)
 refine aG ?_;refine bD ?_
 ·exact(bd (fv 2) (ae aq))
theorem OL{g:Addr}{fd:FuncData}(T:Tx P w K mg)(D:FD K mg "first_day" tj ["zone","hour"] g fd):ay P w K mg base (aU P w) 2 g fd ["zone","hour"] (aW K mg rL):=by
 obtain⟨j,k,d⟩:=T.d0j;have e:=OC P w base T d;obtain⟨b,a⟩:=T.d1n;refine bv D.fn NY (by decide) ?_;intro f A c s H E F l h i;unfold xk;refine aG ?_;refine bD ?_
 ·exact(iB (LX (mG (fv 1) (aX (aO i e d h (av (fv 0) (av (ae aq) aJ))))) (ae (ef rfl a))))
theorem OM{C:Addr}{g:Addr}{fd:FuncData}(T:Tx P w K mg)(a:cR K mg C)(D:FD K mg "tallies" tt ["hall"] g fd):ay P w K mg base (aU P w) 2 g fd ["hall"] (aW K mg (lB C)):=by
 obtain⟨m,n,c⟩:=a.d2v;have h:=pB P w base T a c;obtain⟨g1,f1,d⟩:=T.d0q;have j:=OF P w base T d;refine bv D.fn CS (by decide) ?_;intro k A b s H E F o e f;unfold rN;refine aE ?_ ?_
 ·refine bP (i:=1) ?_ ?_ ?_ ?_ ?_ ?_<;>try walk_at "z"
  ·exact CS.nd
  ·exact(aX (eU f a.cl h c e (pv 0)))
 refine aG ?_;refine bD ?_
 ·exact(jW f.1 (aj.of (own:=["deed"]) (capN:=["rows"]) (caps:=[1])) rfl rfl (on (nX rfl T.d23 (ag (fH jn (fV gZ jl rfl T.d1z PySem.boot_len (ag (dq a.cl a.d29 (pv 0)) aD))) aD))) (fun _ _ _ _ _ _ l=>⟨(ck 0 (show((["deed"]:List Str)++(["rows"]:List Str)).Nodup from by decide +kernel)),jV,(aX (aO (fL l) j d e (av (fv 1) (av (fv 0) aJ))))⟩))
theorem ON{C:Addr}{g:Addr}{fd:FuncData}(T:Tx P w K mg)(a:cR K mg C)(D:FD K mg "begun_again" tw ["hall"] g fd):ay P w K mg base (aU P w) 2 g fd ["hall"] (aW K mg (rO C)):=by
 obtain⟨j,k,d⟩:=a.d2v;have f:=pB P w base T a d;refine bv D.fn lH (by decide) ?_;intro h A c s H E F l b e;unfold xl;refine aE ?_ ?_
 ·refine jq (i:=1) ?_ ?_ ?_ ?_ ?_ ?_<;>try walk_at "z"
  ·exact lH.nd
  ·exact(we false)
 refine aE ?_ ?_
 ·refine jt ?_ ?_ ?_ ?_ ?_ ?_<;>try walk_at "z"
  ·exact PassesOwn.leaving
  ·exact(jU (aX (eU e a.cl f d b (pv 0))))
  ·exact(om (n:=5) rfl (eg (ck 2 lH.nd) (eg (ck 3 lH.nd) (eg (ck 4 lH.nd) (eg (ck 5 lH.nd) (eg (ck 6 lH.nd) oj))))))
  ·unfold CJ;refine aG ?_;exact wD
 refine aG ?_;refine bD ?_
 ·exact(ME e.1 (aj.of (own:=["pair"]) (capN:=["often"]) (caps:=[1])) rfl rfl (DI.S (jU (Nr rfl rfl T.d24 (pv 1)))) (fun _ _ _ _ _ _ m=>⟨(ck 0 (show((["pair"]:List Str)++(["often"]:List Str)).Nodup from by decide +kernel)),(qO (qZ (Cm (qb b) (pv 1) (fv 0)) (ae aq))),(bn (ag (bd (fv 0) (ae aq)) (ag (bd (fv 0) (ae aq)) (ag (Cm (qb b) (pv 1) (fv 0)) aD))))⟩))
theorem OO{C:Addr}{g:Addr}{fd:FuncData}(T:Tx P w K mg)(a:cR K mg C)(D:FD K mg "by_runner" tx ["hall"] g fd):ay P w K mg base (aU P w) 2 g fd ["hall"] (aW K mg (rP C)):=by
 obtain⟨j,k,c⟩:=a.d2v;have d:=pB P w base T a c;refine bv D.fn lI (by decide) ?_;intro e A b s H E F l f h;unfold xm;refine aE ?_ ?_
 ·refine jq (i:=1) ?_ ?_ ?_ ?_ ?_ ?_<;>try walk_at "z"
  ·exact lI.nd
  ·exact(we false)
 refine aE ?_ ?_
 ·refine jt ?_ ?_ ?_ ?_ ?_ ?_<;>try walk_at "z"
  ·exact PassesOwn.leaving
  ·exact(jU (aX (eU h a.cl d c f (pv 0))))
  ·exact(om (n:=5) rfl (eg (ck 2 lI.nd) (eg (ck 3 lI.nd) (eg (ck 4 lI.nd) (eg (ck 5 lI.nd) (eg (ck 6 lI.nd) oj))))))
  ·unfold CK;refine aG ?_;exact wD
 refine aG ?_;refine bD ?_
 ·exact(Nv 1 rfl rfl T.d24)
theorem OP{C:Addr}{g:Addr}{fd:FuncData}(T:Tx P w K mg)(a:cR K mg C)(D:FD K mg "long_done" tz ["hall"] g fd):ay P w K mg base (aU P w) 2 g fd ["hall"] (aW K mg (rQ C)):=by
 obtain⟨j,k,c⟩:=a.d2v;have d:=pB P w base T a c;refine bv D.fn kq (by decide) ?_;intro e A b s H E F l f h;unfold xn;refine aE ?_ ?_
 ·refine jq (i:=1) ?_ ?_ ?_ ?_ ?_ ?_<;>try walk_at "z"
  ·exact kq.nd
  ·exact(oo aD)
 refine aE ?_ ?_
 ·refine jq (i:=2) ?_ ?_ ?_ ?_ ?_ ?_<;>try walk_at "z"
  ·exact kq.nd
  ·exact(we false)
 refine aE ?_ ?_
 ·refine jt ?_ ?_ ?_ ?_ ?_ ?_<;>try walk_at "z"
  ·exact PassesOwn.leaving
  ·exact(jU (aX (eU h a.cl d c f (pv 0))))
  ·exact(om (n:=5) rfl (eg (ck 3 kq.nd) (eg (ck 4 kq.nd) (eg (ck 5 kq.nd) (eg (ck 6 kq.nd) (eg (ck 7 kq.nd) oj))))))
  ·unfold CL;refine aG ?_;exact wD
 refine aG ?_;refine bD ?_
 ·exact(fH Nq (fV (CA rfl) Np rfl T.d24 OA (ag (fv 1) aD)))
theorem OQ{g:Addr}{fd:FuncData}(T:Tx P w K mg)(D:FD K mg "_law_mixed" tY ["_law_script","_law_k","_law_many"] g fd):ay P w K mg base (aU P w) 2 g fd ["_law_script","_law_k","_law_many"] (aW K mg rR):=by
 obtain⟨h,j,b⟩:=T.d11;have c:=OG P w base T b;refine bv D.fn CV (by decide) ?_;intro d A a s H E F k e f;unfold xo;refine aE ?_ ?_
 ·refine bP (i:=3) ?_ ?_ ?_ ?_ ?_ ?_<;>try walk_at "z"
  ·exact CV.nd
  ·exact(oA (eG (eG (oz (aX (aO f c b e (bf (pv 0) (av (fv 1) aJ)))) (ae aq)) (oz (ae aq) (fv 1))) (ae aq)) (ae aq))
 refine aG ?_;refine bD ?_
 ·exact(oA (oA (oA (Mh (fv 3) (ae aq)) (ae aq)) (ae aq)) (fv 2))
theorem OR{C:Addr}{g:Addr}{fd:FuncData}(T:Tx P w K mg)(b:cR K mg C)(D:MD K C "step_behind_a_fall" "Hall.step_behind_a_fall" tO ["self","runner","moment"] g fd):ay P w K mg base (aU P w) 2 g fd ["self","runner","moment"] (aW K mg (oU C)):=by
 obtain⟨l,m,e⟩:=b.d2o;have f:=ya P w base T b e;obtain⟨c,a⟩:=T.d1r;refine bv D.fn xX (by decide) ?_;intro h A d s H E F n j k;unfold rS;refine aE ?_ ?_
 ·refine bP (i:=3) ?_ ?_ ?_ ?_ ?_ ?_<;>try walk_at "z"
  ·exact xX.nd
  ·exact(bd (dq b.cl b.d28 (pv 0)) (ae aq))
 refine aE ?_ ?_
 ·refine bP (i:=4) ?_ ?_ ?_ ?_ ?_ ?_<;>try walk_at "z"
  ·exact xX.nd
  ·exact(qJ (dj (di (bd (bd (dq b.cl b.d29 (pv 0)) (fv 3)) (ae (ef rfl a))))) (ae bB) (ae bB))
 refine aG ?_;refine dD ?_
 ·exact(ft k b.cl f e j (pv 0) (av (bn (ag (fv 2) (ag (fv 1) (ag (fv 4) (ag (fv 3) (ag (bd (dq b.cl b.d28 (pv 0)) (ae aq)) aD)))))) aJ))
theorem OS{g:Addr}{fd:FuncData}(T:Tx P w K mg)(D:FD K mg "are_shifts" sK ["thing"] g fd):ay P w K mg base (aU P w) 3 g fd ["thing"] (aW K mg oV):=by
 obtain⟨p,q,j⟩:=T.d00;have l:=kt P w base T j;obtain⟨g1,f1,k⟩:=T.d01;have m:=ur P w base T k;obtain⟨g2,f2,D2⟩:=T.d02;have n:=Dg P w base T D2;obtain⟨c,a⟩:=T.d1d;obtain⟨d,b⟩:=T.d1h;refine bv D.fn uj (by decide) ?_;intro o A h s H E F r e f;unfold rT;refine aE ?_ ?_
 ·refine bX ?_ ?_ ?_
  ·exact(jR (kT (eF (dj (di (jr (jj rfl T.d1y (fv 0) (im rfl T.d26 uq rfl)))))) (mr (qZ (fH jn (fV gZ jl rfl T.d1z PySem.boot_len (ag (fv 0) aD))) (ae (ef rfl b))))))
  ·refine aG ?_;refine bD ?_
   ·exact(ae fF)
  ·exact ca
 refine aE ?_ ?_
 ·refine bP (i:=1) ?_ ?_ ?_ ?_ ?_ ?_<;>try walk_at "z"
  ·exact uj.nd
  ·exact(ae aq)
 refine aE ?_ ?_
 ·refine jt ?_ ?_ ?_ ?_ ?_ ?_<;>try walk_at "z"
  ·exact PassesOwn.leaving
  ·exact(mw (fv 0))
  ·exact(ck 2 uj.nd)
  ·unfold mV;refine aE ?_ ?_
   ·refine bX ?_ ?_ ?_
    ·exact(jR (kT (eF (dj (di (aX (aO f m k e (av (fv 2) (av (ae aq) aJ))))))) (mr (eF (dj (di (aX (aO f n D2 e (av (bd (fv 2) (ae aq)) aJ)))))))))
    ·refine aG ?_;refine bD ?_
     ·exact(ae fF)
    ·exact ca
   refine aE ?_ ?_
   ·refine bX ?_ ?_ ?_
    ·exact(eF (dj (di (aX (aO f l j e (av (bd (fv 2) (ae aq)) (av (fv 1) (av (ae (ef rfl a)) aJ))))))))
    ·refine aG ?_;refine bD ?_
     ·exact(ae fF)
    ·exact ca
   refine aG ?_;refine bP (i:=1) ?_ ?_ ?_ ?_ ?_ ?_<;>try walk_at "z"
   ·exact uj.nd
   ·exact(eG (bd (fv 2) (ae aq)) (ae aq))
 refine aG ?_;refine bD ?_
 ·exact(ae fF)
theorem Di{g:Addr}{fd:FuncData}(T:Tx P w K mg)(D:FD K mg "is_plan" sN ["thing"] g fd):ay P w K mg base (aU P w) 3 g fd ["thing"] (aW K mg kh):=by
 obtain⟨o,p,h⟩:=T.d08;have i:=yb P w base T h;obtain⟨g1,f1,j⟩:=T.d03;have l:=Dh P w base T j;obtain⟨g2,f2,D2⟩:=T.d00;have m:=kt P w base T D2;obtain⟨c,a⟩:=T.d1e;obtain⟨d,b⟩:=T.d1i;refine bv D.fn NM (by decide) ?_;intro n A k s H E F q e f;unfold mW;refine aE ?_ ?_
 ·refine bX ?_ ?_ ?_
  ·exact(dj (di (aX (aO f i h e (av (fv 0) (av (ae bB) (av (ae aq) aJ)))))))
  ·refine aG ?_;refine dD ?_
   ·exact(aO f l j e (av (bd (fv 0) (ae aq)) aJ))
  ·exact ca
 refine aE ?_ ?_
 ·refine bX ?_ ?_ ?_
  ·exact(dj (di (aX (aO f i h e (av (fv 0) (av (ae bB) (av (ae aq) aJ)))))))
  ·refine aG ?_;refine bD ?_
   ·exact(eR (aX (aO f l j e (av (bd (fv 0) (ae aq)) aJ))) (fY (aX (aO f m D2 e (av (bd (fv 0) (ae aq)) (av (ae aq) (av (ae (ef rfl b)) aJ)))))))
  ·exact ca
 refine aG ?_;refine bD ?_
 ·exact(eR (aX (aO f i h e (av (fv 0) (av (ae bB) (av (ae aq) aJ))))) (fY (aX (aO f m D2 e (av (bd (fv 0) (ae aq)) (av (ae aq) (av (ae (ef rfl a)) aJ)))))))
theorem OT{g:Addr}{fd:FuncData}(T:Tx P w K mg)(D:FD K mg "is_late" sO ["thing"] g fd):ay P w K mg base (aU P w) 3 g fd ["thing"] (aW K mg mY):=by
 obtain⟨l,m,e⟩:=T.d08;have i:=yb P w base T e;obtain⟨g1,f1,f⟩:=T.d00;have j:=kt P w base T f;obtain⟨b,a⟩:=T.d1k;refine bv D.fn NN (by decide) ?_;intro k A d s H E F n c h;unfold oW;refine aE ?_ ?_
 ·refine bX ?_ ?_ ?_
  ·exact(dj (di (jr (jj rfl T.d1y (fv 0) (im rfl T.d25 Dc rfl)))))
  ·refine aG ?_;refine bD ?_
   ·exact(Bb (kb c.units (fv 0) (ae bB)) (fY (kb c.units (fv 0) (ae bB))))
  ·exact ca
 refine aG ?_;refine bD ?_
 ·exact(eR (aX (aO h i e c (av (fv 0) (av (ae bB) (av (ae aq) aJ))))) (fY (aX (aO h j f c (av (bd (fv 0) (ae aq)) (av (ae aq) (av (ae (ef rfl a)) aJ)))))))
theorem OU{g:Addr}{fd:FuncData}(T:Tx P w K mg)(D:FD K mg "check_moment" sT ["thing"] g fd):ay P w K mg base (aU P w) 3 g fd ["thing"] (aW K mg rV):=by
 obtain⟨m,n,e⟩:=T.d03;have i:=Dh P w base T e;obtain⟨j,k⟩:=T.xt0;obtain⟨b,a,_⟩:=k.at_ (c:="NoMoment") (by decide +kernel);refine bv D.fn NS (by decide) ?_;intro l A d s H E F o f h;unfold xp;refine aG ?_;refine bX ?_ ?_ ?_
 ·exact(eF (dj (di (aX (aO h i e f (av (fv 0) aJ))))))
 ·refine aG ?_;exact(gJ h f.hd rfl a)
 ·exact ca
theorem OV{g:Addr}{fd:FuncData}(T:Tx P w K mg)(D:FD K mg "check_runner" sV ["thing"] g fd):ay P w K mg base (aU P w) 3 g fd ["thing"] (aW K mg rW):=by
 obtain⟨m,n,e⟩:=T.d04;have i:=OI P w base T e;obtain⟨j,k⟩:=T.xt0;obtain⟨b,a,_⟩:=k.at_ (c:="NoRunner") (by decide +kernel);refine bv D.fn NU (by decide) ?_;intro l A d s H E F o f h;unfold xq;refine aG ?_;refine bX ?_ ?_ ?_
 ·exact(eF (dj (di (aX (aO h i e f (av (fv 0) aJ))))))
 ·refine aG ?_;exact(gJ h f.hd rfl a)
 ·exact ca
theorem OW{g:Addr}{fd:FuncData}(T:Tx P w K mg)(D:FD K mg "check_term" sW ["thing"] g fd):ay P w K mg base (aU P w) 3 g fd ["thing"] (aW K mg rX):=by
 obtain⟨m,n,e⟩:=T.d05;have i:=OJ P w base T e;obtain⟨j,k⟩:=T.xt0;obtain⟨b,a,_⟩:=k.at_ (c:="NoTerm") (by decide +kernel);refine bv D.fn NW (by decide) ?_;intro l A d s H E F o f h;unfold xr;refine aG ?_;refine bX ?_ ?_ ?_
 ·exact(eF (dj (di (aX (aO h i e f (av (fv 0) aJ))))))
 ·refine aG ?_;exact(gJ h f.hd rfl a)
 ·exact ca
theorem OX{g:Addr}{fd:FuncData}(T:Tx P w K mg)(D:FD K mg "daily_time" tm ["zone","hour","count"] g fd):ay P w K mg base (aU P w) 3 g fd ["zone","hour","count"] (aW K mg rY):=by
 obtain⟨m,n,d⟩:=T.d0m;have j:=OK P w base T d;obtain⟨g1,f1,e⟩:=T.d0n;have k:=OL P w base T e;obtain⟨b,a⟩:=T.d1n;refine bv D.fn CP (by decide) ?_;intro l A c s H E F o f h;unfold xu;refine aE ?_ ?_
 ·refine bP (i:=3) ?_ ?_ ?_ ?_ ?_ ?_<;>try walk_at "z"
  ·exact CP.nd
  ·exact(eG (aX (aO h k e f (av (fv 0) (av (fv 1) aJ)))) (fv 2))
 refine aG ?_;refine dD ?_
 ·exact(aO h j d f (av (fv 0) (av (eG (oz (fv 3) (ae (ef rfl a))) (fv 1)) aJ)))
theorem OY{g:Addr}{fd:FuncData}(T:Tx P w K mg)(D:FD K mg "check_call" tS ["thing"] g fd):ay P w K mg base (aU P w) 3 g fd ["thing"] (aW K mg gO):=by
 obtain⟨p,q,h⟩:=T.d08;have k:=yb P w base T h;obtain⟨d,a⟩:=T.d1s;obtain⟨l,m⟩:=T.xt0;obtain⟨e,b,_⟩:=m.at_ (c:="NoCall") (by decide +kernel);refine bv D.fn Oo (by decide) ?_;intro n A f s H E F r i j;unfold mZ;refine aG ?_;refine bX ?_ ?_ ?_
 ·exact(eF (dj (di (fH Nd (fV (Nb rfl) Nc rfl T.d1v Oz (ag (jW j.1 (aj.of (own:=["word"]) (capN:=["thing"]) (caps:=[0])) rfl rfl (MW (kd:=[("take",4),("give",3),("step",3),("finish",3)]) rfl a.1 a.2) (fun _ _ _ _ _ _ o=>⟨(ck 0 (show((["word"]:List Str)++(["thing"]:List Str)).Nodup from by decide +kernel)),jV,(aX (aO (fL o) k h i (av (fv 1) (av (fv 0) (av (MX (kd:=[("take",4),("give",3),("step",3),("finish",3)]) rfl a.1 a.2 (fv 0)) aJ)))))⟩)) aD))))))
 ·refine aG ?_;exact(gJ j i.hd rfl b)
 ·exact ca
theorem pC{g:Addr}{fd:FuncData}(T:Tx P w K mg)(D:FD K mg "_law_draw" tZ ["_law_script","_law_town","_law_many"] g fd):ay P w K mg base (aU P w) 3 g fd ["_law_script","_law_town","_law_many"] (aW K mg dP):=by
 obtain⟨h,i,b⟩:=T.d12;have c:=OQ P w base T b;refine bv D.fn Ou (by decide) ?_;intro d A a s H E F j e f;unfold xv;refine aE ?_ ?_
 ·refine vX ?_ ?_ ?_ ?_ ?_ ?_ ?_ ?_<;>try walk_at "z"
  ·exact(pv 1)
  ·exact(ae aq)
 refine aG ?_;refine dD ?_
 ·exact(aO f c b e (bf (pv 0) (av (Lx rfl T.d1z (pv 1)) (av (fv 2) aJ))))
theorem OZ{g:Addr}{fd:FuncData}(T:Tx P w K mg)(D:FD K mg "is_zone" sL ["thing"] g fd):ay P w K mg base (aU P w) 4 g fd ["thing"] (aW K mg oX):=by
 obtain⟨k,l,d⟩:=T.d01;have f:=ur P w base T d;obtain⟨g1,f1,e⟩:=T.d02;have h:=Dg P w base T e;obtain⟨g2,f2,D2⟩:=T.d06;have i:=OS P w base T D2;refine bv D.fn NK (by decide) ?_;intro j A c s H E F m a b;unfold se;refine aG ?_;refine bD ?_
 ·exact(eR (aX (aO b f d a (av (fv 0) (av (ae aq) aJ)))) (eR (aX (aO b h e a (av (bd (fv 0) (ae aq)) aJ))) (fY (aX (aO b i D2 a (av (bd (fv 0) (ae aq)) aJ))))))
theorem Pa{g:Addr}{fd:FuncData}(T:Tx P w K mg)(D:FD K mg "is_deed" sP ["thing"] g fd):ay P w K mg base (aU P w) 4 g fd ["thing"] (aW K mg sf):=by
 obtain⟨k,l,d⟩:=T.d01;have f:=ur P w base T d;obtain⟨g1,f1,e⟩:=T.d09;have h:=Di P w base T e;obtain⟨g2,f2,D2⟩:=T.d0a;have i:=OT P w base T D2;refine bv D.fn NO (by decide) ?_;intro j A c s H E F m a b;unfold xw;refine aG ?_;refine bD ?_
 ·exact(eR (aX (aO b f d a (av (fv 0) (av (ae aq) aJ)))) (eR (aX (aO b h e a (av (bd (fv 0) (ae aq)) aJ))) (eR (aX (aO b i D2 a (av (bd (fv 0) (ae aq)) aJ))) (fY (jr (jj rfl T.d1y (bd (fv 0) (ae aq)) (im rfl T.d1w Db rfl)))))))
theorem Pb{g:Addr}{fd:FuncData}(T:Tx P w K mg)(D:FD K mg "check_plan" sS ["thing"] g fd):ay P w K mg base (aU P w) 4 g fd ["thing"] (aW K mg ki):=by
 obtain⟨m,n,e⟩:=T.d09;have i:=Di P w base T e;obtain⟨j,k⟩:=T.xt0;obtain⟨b,a,_⟩:=k.at_ (c:="NoPlan") (by decide +kernel);refine bv D.fn NR (by decide) ?_;intro l A d s H E F o f h;unfold sg;refine aG ?_;refine bX ?_ ?_ ?_
 ·exact(eF (dj (di (aX (aO h i e f (av (fv 0) aJ))))))
 ·refine aG ?_;exact(gJ h f.hd rfl a)
 ·exact ca
theorem yc{g:Addr}{fd:FuncData}(T:Tx P w K mg)(D:FD K mg "time_of" tp ["zone","plan","count"] g fd):ay P w K mg base (aU P w) 4 g fd ["zone","plan","count"] (aW K mg gP):=by
 obtain⟨h,i,c⟩:=T.d0o;have d:=OX P w base T c;refine bv D.fn Oa (by decide) ?_;intro e A b s H E F j a f;unfold ng;refine aE ?_ ?_
 ·refine bX ?_ ?_ ?_
  ·exact(fJ a.units (bd (fv 1) (ae aq)) (ae bB))
  ·refine aG ?_;refine bD ?_
   ·exact(qJ (fJ a.units (fv 2) (ae aq)) (bd (fv 1) (ae aq)) (ae em))
  ·exact ca
 refine aE ?_ ?_
 ·refine bX ?_ ?_ ?_
  ·exact(fJ a.units (bd (fv 1) (ae aq)) (ae bB))
  ·refine aG ?_;refine bD ?_
   ·exact(eG (bd (fv 1) (ae aq)) (oz (fv 2) (bd (fv 1) (ae aq))))
  ·exact ca
 refine aG ?_;refine dD ?_
 ·exact(aO f d c a (av (fv 0) (av (bd (fv 1) (ae aq)) (av (fv 2) aJ))))
theorem lK{g:Addr}{fd:FuncData}(T:Tx P w K mg)(D:FD K mg "_law_pick" ua ["_law_script","_law_town","_law_some"] g fd):ay P w K mg base (aU P w) 4 g fd ["_law_script","_law_town","_law_some"] (aW K mg fu):=by
 obtain⟨h,i,b⟩:=T.d13;have c:=pC P w base T b;refine bv D.fn Ov (by decide) ?_;intro d A a s H E F j e f;unfold xx;refine aG ?_;refine bD ?_
 ·exact(bd (fv 2) (aX (aO f c b e (bf (pv 0) (bf (pv 1) (av (fH jn (fV gZ jl rfl T.d1z PySem.boot_len (ag (fv 2) aD))) aJ))))))
theorem Dj{C:Addr}{g:Addr}{fd:FuncData}(T:Tx P w K mg)(d:cR K mg C)(D:MD K C "check_call" "Hall.check_call" tG ["self","runner","moment"] g fd):ay P w K mg base (aU P w) 4 g fd ["self","runner","moment"] (aW K mg (iO C)):=by
 obtain⟨p,q,i⟩:=T.d0h;have k:=OV P w base T i;obtain⟨g1,f1,j⟩:=T.d0f;have l:=OU P w base T j;obtain⟨m,n⟩:=T.xt0;obtain⟨b,a,_⟩:=n.at_ (c:="NoMoment") (by decide +kernel);refine bv D.fn Oe (by decide) ?_;intro o A h s H E F r e f;unfold sh;refine aE ?_ ?_
 ·refine gr ?_ ?_
  ·exact(aO f k i e (av (fv 1) aJ))
  ·rfl
 refine aE ?_ ?_
 ·refine gr ?_ ?_
  ·exact(aO f l j e (av (fv 2) aJ))
  ·rfl
 refine aG ?_;refine bX ?_ ?_ ?_
 ·exact(jR (Be (wA (dq d.cl d.d2c (pv 0)) (ae em)) (Bc (BM (fv 2) (dq d.cl d.d2c (pv 0))))))
 ·refine aG ?_;exact(gJ f e.hd rfl a)
 ·exact ca
theorem Pc{g:Addr}{fd:FuncData}(T:Tx P w K mg)(D:FD K mg "are_deeds" sQ ["thing"] g fd):ay P w K mg base (aU P w) 5 g fd ["thing"] (aW K mg xz):=by
 obtain⟨k,l,d⟩:=T.d0b;have e:=Pa P w base T d;obtain⟨b,a⟩:=T.d1j;refine bv D.fn NP (by decide) ?_;intro f A c s H E F m h i;unfold xy;refine aE ?_ ?_
 ·refine bX ?_ ?_ ?_
  ·exact(jR (kT (eF (dj (di (jr (jj rfl T.d1y (fv 0) (im rfl T.d26 uq rfl)))))) (mr (qZ (fH jn (fV gZ jl rfl T.d1z PySem.boot_len (ag (fv 0) aD))) (ae (ef rfl a))))))
  ·refine aG ?_;refine bD ?_
   ·exact(ae fF)
  ·exact ca
 refine aG ?_;refine bD ?_
 ·exact(fH Lk (fV (Kj rfl) Kl rfl T.d1u Oy (ag (jW i.1 (aj.of (own:=["deed"]) (capN:=[]) (caps:=[])) rfl rfl (mw (fv 0)) (fun _ _ _ _ _ _ j=>⟨(ck 0 (show((["deed"]:List Str)++([]:List Str)).Nodup from by decide +kernel)),jV,(aX (aO (fL j) e d h (av (fv 0) aJ)))⟩)) aD)))
theorem Dk{g:Addr}{fd:FuncData}(T:Tx P w K mg)(D:FD K mg "check_zone" sR ["thing"] g fd):ay P w K mg base (aU P w) 5 g fd ["thing"] (aW K mg gx):=by
 obtain⟨m,n,e⟩:=T.d07;have i:=OZ P w base T e;obtain⟨j,k⟩:=T.xt0;obtain⟨b,a,_⟩:=k.at_ (c:="NoZone") (by decide +kernel);refine bv D.fn NQ (by decide) ?_;intro l A d s H E F o f h;unfold sj;refine aG ?_;refine bX ?_ ?_ ?_
 ·exact(eF (dj (di (aX (aO h i e f (av (fv 0) aJ))))))
 ·refine aG ?_;exact(gJ h f.hd rfl a)
 ·exact ca
theorem Pd{g:Addr}{fd:FuncData}(T:Tx P w K mg)(D:FD K mg "is_left_out" tD ["zone","deed","count","now"] g fd):ay P w K mg base (aU P w) 5 g fd ["zone","deed","count","now"] (aW K mg lC):=by
 obtain⟨m,n,f⟩:=T.d0p;have j:=yc P w base T f;obtain⟨c,b⟩:=T.d1p;obtain⟨d,a⟩:=T.d1q;refine bv D.fn CT (by decide) ?_;intro l A h s H E F o e k;unfold nh;refine aE ?_ ?_
 ·refine bX ?_ ?_ ?_
  ·exact(fJ e.units (bd (fv 1) (ae (ef rfl a))) (ae bB))
  ·refine aG ?_;refine bD ?_
   ·exact(ae fF)
  ·exact ca
 refine aE ?_ ?_
 ·refine bX ?_ ?_ ?_
  ·exact(fJ e.units (bd (fv 1) (ae (ef rfl a))) (ae bB))
  ·refine aE ?_ ?_
   ·refine bP (i:=4) ?_ ?_ ?_ ?_ ?_ ?_<;>try walk_at "z"
    ·exact CT.nd
    ·exact(aX (aO k j f e (av (fv 0) (av (bd (fv 1) (ae (ef rfl b))) (av (eG (fv 2) (ae aq)) aJ)))))
   refine aG ?_;refine bD ?_
   ·exact(eR (wz (fv 4) (ae em)) (fY (LZ (fv 4) (fv 3))))
  ·exact ca
 refine aG ?_;refine bD ?_
 ·exact(Ma (mG (fv 3) (aX (aO k j f e (av (fv 0) (av (bd (fv 1) (ae (ef rfl b))) (av (fv 2) aJ)))))) (bd (bd (fv 1) (ae (ef rfl a))) (ae aq)))
theorem Pe{g:Addr}{fd:FuncData}(T:Tx P w K mg)(D:FD K mg "_law_zone" ub ["_law_script","_law_town","_law_wide"] g fd):ay P w K mg base (aU P w) 5 g fd ["_law_script","_law_town","_law_wide"] (aW K mg sk):=by
 obtain⟨k,l,c⟩:=T.d13;have f:=pC P w base T c;obtain⟨g1,f1,d⟩:=T.d14;have h:=lK P w base T d;refine bv D.fn nr (by decide) ?_;intro j A e s H E F m a b;unfold xA;refine aE ?_ ?_
 ·refine Lq ?_ ?_ ?_ ?_ ?_<;>try walk_at "z"
  ·exact(bn (ag (bn aD) (ag (ae aq) aD)))
  ·exact(om (n:=2) rfl (eg (ck 3 nr.nd) (eg (ck 4 nr.nd) oj)))
 refine aE ?_ ?_
 ·refine jt ?_ ?_ ?_ ?_ ?_ ?_<;>try walk_at "z"
  ·exact PassesOwn.leaving
  ·exact(on (nX rfl T.d23 (ag (aX (aO b f c a (bf (pv 0) (bf (pv 1) (av (ae aq) aJ))))) aD)))
  ·exact(ck 5 nr.nd)
  ·unfold oY;refine aE ?_ ?_
   ·refine bP (i:=4) ?_ ?_ ?_ ?_ ?_ ?_<;>try walk_at "z"
    ·exact nr.nd
    ·exact(eG (eG (fv 4) (ae aq)) (aX (aO b f c a (bf (pv 0) (bf (pv 1) (av (fv 2) aJ))))))
   refine aG ?_;refine bP (i:=3) ?_ ?_ ?_ ?_ ?_ ?_<;>try walk_at "z"
   ·exact nr.nd
   ·exact(wy (fv 3) (bn (ag (bn (ag (fv 4) (ag (aX (aO b h d a (bf (pv 0) (bf (pv 1) (av (cH (ag (ae aq) (ag (ae aq) (ag (ae aq) (ag (iB (ae aq)) (ag (ae aq) (ag (iB (ae aq)) (ag (ae aq) aD)))))))) aJ))))) aD))) aD)))
 refine aG ?_;refine bD ?_
 ·exact(bn (ag (aX (aO b h d a (bf (pv 0) (bf (pv 1) (av (cH (ag (ae aq) (ag (ae aq) (ag (ae aq) (ag (iB (ae aq)) (ag (ae aq) (ag (iB (ae aq)) aD))))))) aJ))))) (ag (fv 3) aD)))
theorem Pf{g:Addr}{fd:FuncData}(T:Tx P w K mg)(D:FD K mg "_law_plan" uc ["_law_script","_law_town","_law_wide"] g fd):ay P w K mg base (aU P w) 5 g fd ["_law_script","_law_town","_law_wide"] (aW K mg ni):=by
 obtain⟨k,l,b⟩:=T.d13;have d:=pC P w base T b;obtain⟨g1,f1,f⟩:=T.d14;have h:=lK P w base T f;refine bv D.fn xY (by decide) ?_;intro j A e s H E F m a c;unfold oZ;refine aE ?_ ?_
 ·refine bP (i:=3) ?_ ?_ ?_ ?_ ?_ ?_<;>try walk_at "z"
  ·exact xY.nd
  ·exact(aX (aO c d b a (bf (pv 0) (bf (pv 1) (av (ae aq) aJ)))))
 refine aE ?_ ?_
 ·refine bX ?_ ?_ ?_
  ·exact(fJ a.units (fv 3) (ae aq))
  ·refine aG ?_;refine bD ?_
   ·exact(bn (ag (ae bB) (ag (aX (aO c d b a (bf (pv 0) (bf (pv 1) (av (fv 2) aJ))))) aD)))
  ·exact ca
 refine aE ?_ ?_
 ·refine bX ?_ ?_ ?_
  ·exact(fJ a.units (fv 3) (ae aq))
  ·refine aE ?_ ?_
   ·refine bP (i:=4) ?_ ?_ ?_ ?_ ?_ ?_<;>try walk_at "z"
    ·exact xY.nd
    ·exact(eG (ae aq) (aX (aO c d b a (bf (pv 0) (bf (pv 1) (av (aX (aO c h f a (bf (pv 0) (bf (pv 1) (av (cH (ag (ae aq) (ag (ae aq) (ag (ae aq) aD)))) aJ))))) aJ))))))
   refine aG ?_;refine bD ?_
   ·exact(bn (ag (ae bB) (ag (aX (aO c d b a (bf (pv 0) (bf (pv 1) (av (fv 2) aJ))))) (ag (fv 4) aD))))
  ·exact ca
 refine aG ?_;refine bD ?_
 ·exact(bn (ag (ae bB) (ag (aX (aO c d b a (bf (pv 0) (bf (pv 1) (av (ae aq) aJ))))) aD)))
theorem Pg{g:Addr}{fd:FuncData}(T:Tx P w K mg)(D:FD K mg "_law_odd_zone" uf ["_law_script","_law_town"] g fd):ay P w K mg base (aU P w) 5 g fd ["_law_script","_law_town"] (aW K mg so):=by
 obtain⟨h,j,b⟩:=T.d14;have c:=lK P w base T b;refine bv D.fn xZ (by decide) ?_;intro d A a s H E F k e f;unfold xB;refine aE ?_ ?_
 ·refine bP (i:=2) ?_ ?_ ?_ ?_ ?_ ?_<;>try walk_at "z"
  ·exact xZ.nd
  ·exact(cH (ag (ae em) (ag (ae aq) (ag (bn aD) (ag (bn (ag (ae aq) aD)) (ag (bn (ag (ae aq) (ag (bn aD) aD))) (ag (bn (ag (iB (ae aq)) (ag (bn aD) aD))) (ag (bn (ag (ae aq) (ag (bn (ag (bn (ag (ae aq) (ag (ae aq) aD))) aD)) aD))) (ag (bn (ag (ae aq) (ag (bn (ag (bn (ag (ae aq) (ag (ae aq) aD))) aD)) aD))) (ag (bn (ag (ae aq) (ag (bn (ag (bn (ag (ae aq) (ag (ae aq) aD))) (ag (bn (ag (ae aq) (ag (ae aq) aD))) aD))) aD))) aD))))))))))
 refine aE ?_ ?_
 ·refine bP (i:=2) ?_ ?_ ?_ ?_ ?_ ?_<;>try walk_at "z"
  ·exact xZ.nd
  ·exact(li (fv 2) (cH (ag (bn (ag (ae aq) (ag (cH (ag (bn (ag (ae aq) (ag (ae aq) aD))) aD)) aD))) (ag (cH (ag (ae aq) (ag (bn aD) aD))) (ag (bn (ag (ae fF) (ag (bn aD) aD))) (ag (bn (ag (ae aq) (ag (bn (ag (bn (ag (ae aq) aD)) aD)) aD))) (ag (ae bB) (ag (bn (ag (ae aq) (ag (bn (ag (bn (ag (ae aq) (ag (ae aq) aD))) (ag (bn (ag (ae aq) (ag (ae aq) aD))) aD))) aD))) aD))))))))
 refine aG ?_;refine dD ?_
 ·exact(aO f c b e (bf (pv 0) (bf (pv 1) (av (fv 2) aJ))))
theorem Ph{g:Addr}{fd:FuncData}(T:Tx P w K mg)(D:FD K mg "_law_odd_plan" ug ["_law_script","_law_town"] g fd):ay P w K mg base (aU P w) 5 g fd ["_law_script","_law_town"] (aW K mg sr):=by
 obtain⟨h,j,b⟩:=T.d14;have c:=lK P w base T b;refine bv D.fn CW (by decide) ?_;intro d A a s H E F k e f;unfold xD;refine aE ?_ ?_
 ·refine bP (i:=2) ?_ ?_ ?_ ?_ ?_ ?_<;>try walk_at "z"
  ·exact CW.nd
  ·exact(cH (ag (ae em) (ag (ae aq) (ag (bn aD) (ag (bn (ag (ae bB) aD)) (ag (bn (ag (ae bB) (ag (iB (ae aq)) aD))) (ag (bn (ag (ae bB) (ag (ae aq) aD))) (ag (bn (ag (ae bB) (ag (ae aq) aD))) (ag (bn (ag (ae bB) (ag (ae aq) (ag (ae aq) aD)))) (ag (bn (ag (ae bB) (ag (ae aq) (ag (ae aq) aD)))) aD))))))))))
 refine aG ?_;refine dD ?_
 ·exact(aO f c b e (bf (pv 0) (bf (pv 1) (av (li (fv 2) (cH (ag (bn (ag (ae bB) (ag (ae aq) aD))) (ag (bn (ag (ae bB) (ag (iB (ae aq)) aD))) (ag (cH (ag (ae bB) (ag (ae aq) aD))) (ag (bn (ag (ae bB) (ag (ae aq) aD))) (ag (bn (ag (ae bB) (ag (ae fF) aD))) aD))))))) aJ))))
theorem yd{C:Addr}{g:Addr}{fd:FuncData}(T:Tx P w K mg)(d:cR K mg C)(D:MD K C "check_holder" "Hall.check_holder" tH ["self","runner","moment"] g fd):ay P w K mg base (aU P w) 5 g fd ["self","runner","moment"] (aW K mg (eK C)):=by
 obtain⟨p,q,i⟩:=d.d2k;have k:=Dj P w base T d i;obtain⟨g1,f1,j⟩:=d.d2j;have l:=De P w base T d j;obtain⟨m,n⟩:=T.xt0;obtain⟨b,a,_⟩:=n.at_ (c:="NotHolder") (by decide +kernel);refine bv D.fn Of (by decide) ?_;intro o A h s H E F r e f;unfold pb;refine aE ?_ ?_
 ·refine gr ?_ ?_
  ·exact(ft f d.cl k i e (pv 0) (av (fv 1) (av (fv 2) aJ)))
  ·rfl
 refine aG ?_;refine bX ?_ ?_ ?_
 ·exact(jR (kT (eF (dj (di (aX (ft f d.cl l j e (pv 0) (av (fv 2) aJ)))))) (mr (lm e.units (dq d.cl d.d2a (pv 0)) (fv 1)))))
 ·refine aG ?_;exact(gJ f e.hd rfl a)
 ·exact ca
theorem Pj{C:Addr}{g:Addr}{fd:FuncData}(T:Tx P w K mg)(a:cR K mg C)(D:MD K C "take" "Hall.take" tI ["self","runner","moment","term"] g fd):ay P w K mg base (aU P w) 5 g fd ["self","runner","moment","term"] (aW K mg (lD C)):=by
 obtain⟨l,m,e⟩:=a.d2k;have h:=Dj P w base T a e;obtain⟨g1,f1,f⟩:=T.d0i;have i:=OW P w base T f;obtain⟨g2,f2,D2⟩:=a.d2j;have j:=De P w base T a D2;refine bv D.fn Og (by decide) ?_;intro k A d s H E F n b c;unfold pc;refine aE ?_ ?_
 ·refine gr ?_ ?_
  ·exact(ft c a.cl h e b (pv 0) (av (fv 1) (av (fv 2) aJ)))
  ·rfl
 refine aE ?_ ?_
 ·refine gr ?_ ?_
  ·exact(aO c i f b (av (fv 3) aJ))
  ·rfl
 refine aE ?_ ?_
 ·refine fr ?_ ?_ ?_ ?_ ?_
  ·exact a.cl
  ·exact a.d2c
  ·exact(pv 0)
  ·exact(fv 2)
  ·rfl
 refine aE ?_ ?_
 ·refine bX ?_ ?_ ?_
  ·exact(eF (dj (di (aX (ft c a.cl j D2 b (pv 0) (av (fv 2) aJ))))))
  ·refine aG ?_;refine Mr ?_ ?_ ?_ ?_
   ·exact a.cl
   ·exact a.d2b
   ·exact(pv 0)
   ·exact pN
  ·refine aG ?_;refine bX ?_ ?_ ?_
   ·exact(lm b.units (dq a.cl a.d2a (pv 0)) (fv 1))
   ·refine aG ?_;refine bD ?_
    ·exact(ae fF)
   ·exact ca
 refine aE ?_ ?_
 ·refine fr ?_ ?_ ?_ ?_ ?_
  ·exact a.cl
  ·exact a.d2a
  ·exact(pv 0)
  ·exact(fv 1)
  ·rfl
 refine aE ?_ ?_
 ·refine fr ?_ ?_ ?_ ?_ ?_
  ·exact a.cl
  ·exact a.d2f
  ·exact(pv 0)
  ·exact(eG (fv 2) (fv 3))
  ·rfl
 refine aG ?_;refine bD ?_
 ·exact(ae fF)
theorem Pk{C:Addr}{g:Addr}{fd:FuncData}(T:Tx P w K mg)(b:cR K mg C)(D:MD K C "first_unsettled" "Hall.first_unsettled" tM ["self"] g fd):ay P w K mg base (aU P w) 5 g fd ["self"] (aW K mg (xE C)):=by
 obtain⟨l,m,e⟩:=T.d0p;have h:=yc P w base T e;obtain⟨c,a⟩:=T.d1p;refine bv D.fn pz (by decide) ?_;intro j A d s H E F n f k;unfold CM;refine aE ?_ ?_
 ·refine jq (i:=1) ?_ ?_ ?_ ?_ ?_ ?_<;>try walk_at "z"
  ·exact pz.nd
  ·exact(oo aD)
 refine aE ?_ ?_
 ·refine jt ?_ ?_ ?_ ?_ ?_ ?_<;>try walk_at "z"
  ·exact PassesOwn.leaving
  ·exact(on (nX rfl T.d23 (ag (fH jn (fV gZ jl rfl T.d1z PySem.boot_len (ag (dq b.cl b.d29 (pv 0)) aD))) aD)))
  ·exact(ck 2 pz.nd)
  ·unfold kj;refine aE ?_ ?_
   ·refine bP (i:=3) ?_ ?_ ?_ ?_ ?_ ?_<;>try walk_at "z"
    ·exact pz.nd
    ·exact(Mp b.cl b.d2e (pv 0) (pv 2))
   refine aE ?_ ?_
   ·refine bP (i:=4) ?_ ?_ ?_ ?_ ?_ ?_<;>try walk_at "z"
    ·exact pz.nd
    ·exact(aX (aO k h e f (av (dq b.cl b.d2h (pv 0)) (av (bd (bd (dq b.cl b.d29 (pv 0)) (fv 2)) (ae (ef rfl a))) (av (fv 3) aJ)))))
   refine aG ?_;refine bX ?_ ?_ ?_
   ·exact(wA (fv 4) (ae em))
   ·refine aG ?_;refine vX ?_ ?_ ?_ ?_ ?_ ?_ ?_ ?_<;>try walk_at "z"
    ·exact(pv 1)
    ·exact(bn (ag (fv 4) (ag (fv 2) (ag (fv 3) aD))))
   ·exact ca
 refine aG ?_;refine bD ?_
 ·exact(MN (qb f) rfl rfl T.d22 (pv 1))
theorem Pl{g:Addr}{fd:FuncData}(T:Tx P w K mg)(D:FD K mg "check_deeds" sU ["thing"] g fd):ay P w K mg base (aU P w) 6 g fd ["thing"] (aW K mg lE):=by
 obtain⟨m,n,e⟩:=T.d0c;have i:=Pc P w base T e;obtain⟨j,k⟩:=T.xt0;obtain⟨b,a,_⟩:=k.at_ (c:="NoDeeds") (by decide +kernel);refine bv D.fn NT (by decide) ?_;intro l A d s H E F o f h;unfold xF;refine aG ?_;refine bX ?_ ?_ ?_
 ·exact(eF (dj (di (aX (aO h i e f (av (fv 0) aJ))))))
 ·refine aG ?_;exact(gJ h f.hd rfl a)
 ·exact ca
theorem Pm{C:Addr}{g:Addr}{fd:FuncData}(T:Tx P w K mg)(f:cR K mg C)(D:FD K mg "lateness" tu ["hall","zone","plan","deed"] g fd):ay P w K mg base (aU P w) 6 g fd ["hall","zone","plan","deed"] (aW K mg (kl C)):=by
 obtain⟨x,y,i⟩:=T.d0d;have m:=Dk P w base T i;obtain⟨g1,f1,j⟩:=T.d0e;have n:=Pb P w base T j;obtain⟨g2,f2,D2⟩:=T.d00;have o:=kt P w base T D2;obtain⟨g3,z,k⟩:=f.d2v;have p:=pB P w base T f k;obtain⟨B,G,l⟩:=T.d0p;have q:=yc P w base T l;obtain⟨r,t⟩:=T.xt0;obtain⟨d,a,_⟩:=t.at_ (c:="NoDeed") (by decide +kernel);refine bv D.fn Ob (by decide) ?_;intro u A h s H E F I b e;unfold pd;refine aE ?_ ?_
 ·refine gr ?_ ?_
  ·exact(aO e m i b (av (fv 1) aJ))
  ·rfl
 refine aE ?_ ?_
 ·refine gr ?_ ?_
  ·exact(aO e n j b (av (fv 2) aJ))
  ·rfl
 refine aE ?_ ?_
 ·refine bX ?_ ?_ ?_
  ·exact(eF (dj (di (aX (aO e o D2 b (av (fv 3) (av (ae aq) (av (mG (fH jn (fV gZ jl rfl T.d1z PySem.boot_len (ag (dq f.cl f.d29 (pv 0)) aD))) (ae aq)) aJ))))))))
  ·refine aG ?_;exact(gJ e b.hd rfl a)
  ·exact ca
 refine aG ?_;refine bD ?_
 ·exact(jW e.1 (aj.of (own:=["row"]) (capN:=["zone","plan","deed"]) (caps:=[1,2,3])) rfl rfl (jU (aX (eU e f.cl p k b (pv 0)))) (fun _ _ _ _ _ _ v=>⟨(ck 0 (show((["row"]:List Str)++(["zone","plan","deed"]:List Str)).Nodup from by decide +kernel)),(qO (jR (Be (fJ b.units (bd (fv 0) (ae aq)) (ae bB)) (Bc (fJ b.units (bd (fv 0) (ae aq)) (fv 3)))))),(mG (bd (fv 0) (ae aq)) (aX (aO (fL v) q l b (av (fv 1) (av (fv 2) (av (bd (fv 0) (ae aq)) aJ))))))⟩))
theorem Pn{g:Addr}{fd:FuncData}(T:Tx P w K mg)(D:FD K mg "_law_deeds" ud ["_law_script","_law_town","_law_most","_law_wide"] g fd):ay P w K mg base (aU P w) 6 g fd ["_law_script","_law_town","_law_most","_law_wide"] (aW K mg su):=by
 obtain⟨l,m,c⟩:=T.d13;have d:=pC P w base T c;obtain⟨g1,f1,f⟩:=T.d14;have h:=lK P w base T f;obtain⟨g2,f2,D2⟩:=T.d16;have j:=Pf P w base T D2;refine bv D.fn lJ (by decide) ?_;intro k A e s H E F n a b;unfold xG;refine aE ?_ ?_
 ·refine bP (i:=4) ?_ ?_ ?_ ?_ ?_ ?_<;>try walk_at "z"
  ·exact lJ.nd
  ·exact(bn aD)
 refine aE ?_ ?_
 ·refine jt ?_ ?_ ?_ ?_ ?_ ?_<;>try walk_at "z"
  ·exact PassesOwn.leaving
  ·exact(on (nX rfl T.d23 (ag (aX (aO b d c a (bf (pv 0) (bf (pv 1) (av (eG (fv 2) (ae aq)) aJ))))) aD)))
  ·exact(ck 5 lJ.nd)
  ·unfold ph;refine aE ?_ ?_
   ·refine bP (i:=6) ?_ ?_ ?_ ?_ ?_ ?_<;>try walk_at "z"
    ·exact lJ.nd
    ·exact(aX (aO b d c a (bf (pv 0) (bf (pv 1) (av (ae aq) aJ)))))
   refine aE ?_ ?_
   ·refine bP (i:=7) ?_ ?_ ?_ ?_ ?_ ?_<;>try walk_at "z"
    ·exact lJ.nd
    ·exact(aX (aO b h f a (bf (pv 0) (bf (pv 1) (av (cH (ag (ae bB) (ag (ae bB) (ag (ae bB) (ag (bn (ag (ae bB) (ag (fv 6) aD))) aD))))) aJ)))))
   refine aE ?_ ?_
   ·refine bP (i:=8) ?_ ?_ ?_ ?_ ?_ ?_<;>try walk_at "z"
    ·exact lJ.nd
    ·exact(kb a.units (aX (aO b d c a (bf (pv 0) (bf (pv 1) (av (ae aq) aJ))))) (ae aq))
   refine aG ?_;refine bP (i:=4) ?_ ?_ ?_ ?_ ?_ ?_<;>try walk_at "z"
   ·exact lJ.nd
   ·exact(wy (fv 4) (bn (ag (bn (ag (aX (aO b j D2 a (bf (pv 0) (bf (pv 1) (av (fv 3) aJ))))) (ag (fv 7) (ag (fv 8) aD)))) aD)))
 refine aG ?_;refine bD ?_
 ·exact(fv 4)
theorem Po{C:Addr}{g:Addr}{fd:FuncData}(T:Tx P w K mg)(a:cR K mg C)(D:MD K C "give" "Hall.give" tJ ["self","runner","moment"] g fd):ay P w K mg base (aU P w) 6 g fd ["self","runner","moment"] (aW K mg (km C)):=by
 obtain⟨i,j,c⟩:=a.d2l;have d:=yd P w base T a c;refine bv D.fn Oh (by decide) ?_;intro e A b s H E F k f h;unfold sv;refine aE ?_ ?_
 ·refine gr ?_ ?_
  ·exact(ft h a.cl d c f (pv 0) (av (fv 1) (av (fv 2) aJ)))
  ·rfl
 refine aE ?_ ?_
 ·refine fr ?_ ?_ ?_ ?_ ?_
  ·exact a.cl
  ·exact a.d2c
  ·exact(pv 0)
  ·exact(fv 2)
  ·rfl
 refine aG ?_;refine fr ?_ ?_ ?_ ?_ ?_
 ·exact a.cl
 ·exact a.d2a
 ·exact(pv 0)
 ·exact(ae em)
 ·rfl
theorem Pp{C:Addr}{g:Addr}{fd:FuncData}(T:Tx P w K mg)(a:cR K mg C)(D:MD K C "step_ahead" "Hall.step_ahead" tP ["self","runner","moment"] g fd):ay P w K mg base (aU P w) 6 g fd ["self","runner","moment"] (aW K mg (lF C)):=by
 obtain⟨m,n,e⟩:=a.d2q;have h:=Pk P w base T a e;obtain⟨g1,f1,f⟩:=a.d2o;have j:=ya P w base T a f;obtain⟨g2,f2,D2⟩:=T.d0w;have k:=Pd P w base T D2;refine bv D.fn pA (by decide) ?_;intro l A d s H E F o b c;unfold nj;refine aE ?_ ?_
 ·refine bP (i:=3) ?_ ?_ ?_ ?_ ?_ ?_<;>try walk_at "z"
  ·exact pA.nd
  ·exact(aX (eU c a.cl h e b (pv 0)))
 refine aE ?_ ?_
 ·refine bX ?_ ?_ ?_
  ·exact(Md (fv 3) (ae em))
  ·refine aG ?_;refine bD ?_
   ·exact(bn (ag (ae bB) (ag (ae em) aD)))
  ·exact ca
 refine aE ?_ ?_
 ·refine bX ?_ ?_ ?_
  ·exact(qZ (bd (fv 3) (ae aq)) (fv 2))
  ·refine aG ?_;refine bD ?_
   ·exact(bn (ag (ae bB) (ag (bd (fv 3) (ae aq)) aD)))
  ·exact ca
 refine aE ?_ ?_
 ·refine bP (i:=4) ?_ ?_ ?_ ?_ ?_ ?_<;>try walk_at "z"
  ·exact pA.nd
  ·exact(bd (fv 3) (ae aq))
 refine aE ?_ ?_
 ·refine bP (i:=5) ?_ ?_ ?_ ?_ ?_ ?_<;>try walk_at "z"
  ·exact pA.nd
  ·exact(bd (fv 3) (ae aq))
 refine aE ?_ ?_
 ·refine bP (i:=6) ?_ ?_ ?_ ?_ ?_ ?_<;>try walk_at "z"
  ·exact pA.nd
  ·exact(qJ (dj (di (aX (aO c k D2 b (av (dq a.cl a.d2h (pv 0)) (av (bd (dq a.cl a.d29 (pv 0)) (fv 4)) (av (fv 5) (av (fv 2) aJ)))))))) (ae bB) (ae bB))
 refine aG ?_;refine dD ?_
 ·exact(ft c a.cl j f b (pv 0) (av (bn (ag (fv 2) (ag (fv 1) (ag (fv 6) (ag (fv 4) (ag (fv 5) aD)))))) aJ))
theorem Pq{C:Addr}{g:Addr}{fd:FuncData}(T:Tx P w K mg)(a:cR K mg C)(D:MD K C "finish" "Hall.finish" tQ ["self","runner","moment"] g fd):ay P w K mg base (aU P w) 6 g fd ["self","runner","moment"] (aW K mg (iP C)):=by
 obtain⟨q,r,i⟩:=a.d2l;have k:=yd P w base T a i;obtain⟨g1,f1,j⟩:=a.d2o;have l:=ya P w base T a j;obtain⟨g2,f2,D2⟩:=a.d2p;have m:=Df P w base T a D2;obtain⟨n,o⟩:=T.xt0;obtain⟨d,b,_⟩:=o.at_ (c:="Nothing") (by decide +kernel);refine bv D.fn Ol (by decide) ?_;intro p A h s H E F t e f;unfold pk;refine aE ?_ ?_
 ·refine gr ?_ ?_
  ·exact(ft f a.cl k i e (pv 0) (av (fv 1) (av (fv 2) aJ)))
  ·rfl
 refine aE ?_ ?_
 ·refine bX ?_ ?_ ?_
  ·exact(eF (dj (di (aX (eU f a.cl m D2 e (pv 0))))))
  ·refine aG ?_;exact(gJ f e.hd rfl b)
  ·exact ca
 refine aE ?_ ?_
 ·refine fr ?_ ?_ ?_ ?_ ?_
  ·exact a.cl
  ·exact a.d2c
  ·exact(pv 0)
  ·exact(fv 2)
  ·rfl
 refine aG ?_;refine dD ?_
 ·exact(ft f a.cl l j e (pv 0) (av (bn (ag (fv 2) (ag (fv 1) (ag (ae bB) (ag (bd (dq a.cl a.d28 (pv 0)) (ae aq)) (ag (bd (dq a.cl a.d28 (pv 0)) (ae aq)) aD)))))) aJ))
theorem Pr{C:Addr}{g:Addr}{fd:FuncData}(T:Tx P w K mg)(o:cR K mg C)(D:FD K mg "_law_ask" ui ["_law_hall","_law_zone_here","_law_plan_here","_law_deed"] g fd):ay P w K mg base (aU P w) 7 g fd ["_law_hall","_law_zone_here","_law_plan_here","_law_deed"] (aW K mg (iQ C)):=by
 obtain⟨x,y,m⟩:=T.d0s;have p:=Pm P w base T o m;obtain⟨g1,f1,a⟩:=T.d1b;have q:=OH P w base T a;obtain⟨c,z⟩:=T.xt0;refine bv D.fn CZ (by decide) ?_;intro r A l s H E F B n t;unfold pp;refine aG ?_;refine LH (D:=c) (i:=4) ?_ ?_ ?_ ?_ ?_ ?_ ?_ ?_ ?_ ?_<;>try walk_at "z"
 ·exact CZ.nd
 ·exact t.1
 ·intro u d e G f v;refine aG ?_;refine dD ?_
  ·exact(aO f p m n (bf (pv 0) (av (fv 1) (av (fv 2) (av (fv 3) aJ)))))
 ·intro u I d e k;refine aG ?_;refine dD ?_
  ·exact(Bj (LP (fL k) q (bq.h (n.mono (j:=1) (by decide)) _) rfl a.mgf a.fn.kp a.b (bf (pv 4) aJ)))
theorem Dl{C:Addr}{g:Addr}{fd:FuncData}(T:Tx P w K mg)(a:cR K mg C)(D:MD K C "__init__" "Hall.__init__" tE ["self","zone","deeds"] g fd):ay P w K mg base (aU P w) 7 g fd ["self","zone","deeds"] (aW K mg (nk C)):=by
 obtain⟨k,l,d⟩:=T.d0d;have h:=Dk P w base T d;obtain⟨g1,f1,e⟩:=T.d0g;have i:=Pl P w base T e;refine bv D.fn Oc (by decide) ?_;intro j A c s H E F m f b;unfold xH;refine aE ?_ ?_
 ·refine gr ?_ ?_
  ·exact(aO b h d f (av (fv 1) aJ))
  ·rfl
 refine aE ?_ ?_
 ·refine gr ?_ ?_
  ·exact(aO b i e f (av (fv 2) aJ))
  ·rfl
 refine aE ?_ ?_
 ·refine fr ?_ ?_ ?_ ?_ ?_
  ·exact a.cl
  ·exact a.d2h
  ·exact(pv 0)
  ·exact(fv 1)
  ·rfl
 refine aE ?_ ?_
 ·refine fr ?_ ?_ ?_ ?_ ?_
  ·exact a.cl
  ·exact a.d29
  ·exact(pv 0)
  ·exact(fv 2)
  ·rfl
 refine aE ?_ ?_
 ·refine fr ?_ ?_ ?_ ?_ ?_
  ·exact a.cl
  ·exact a.d2c
  ·exact(pv 0)
  ·exact(ae em)
  ·rfl
 refine aE ?_ ?_
 ·refine fr ?_ ?_ ?_ ?_ ?_
  ·exact a.cl
  ·exact a.d2a
  ·exact(pv 0)
  ·exact(ae em)
  ·rfl
 refine aE ?_ ?_
 ·refine fr ?_ ?_ ?_ ?_ ?_
  ·exact a.cl
  ·exact a.d2f
  ·exact(pv 0)
  ·exact(ae aq)
  ·rfl
 refine aE ?_ ?_
 ·refine fr ?_ ?_ ?_ ?_ ?_
  ·exact a.cl
  ·exact a.d2b
  ·exact(pv 0)
  ·exact(ae aq)
  ·rfl
 refine aE ?_ ?_
 ·refine fr ?_ ?_ ?_ ?_ ?_
  ·exact a.cl
  ·exact a.d28
  ·exact(pv 0)
  ·exact(ae em)
  ·rfl
 refine aE ?_ ?_
 ·refine Ms ?_ ?_ ?_ ?_
  ·exact a.cl
  ·exact a.d2d
  ·exact(pv 0)
  ·rfl
 refine aE ?_ ?_
 ·refine Mt ?_ ?_ ?_ ?_
  ·exact a.cl
  ·exact a.d2g
  ·exact(pv 0)
  ·rfl
 refine aG ?_;refine MI (own:=["deed"]) (capN:=[]) (caps:=[]) ?_ ?_ ?_ ?_ ?_ ?_ ?_ ?_ ?_ ?_ ?_<;>try walk_at "z"
 ·exact a.cl
 ·exact a.d2e
 ·exact(pv 0)
 ·exact b.1
 ·exact(aj.of (own:=["deed"]) (capN:=[]) (caps:=[]))
 ·exact(mw (fv 2))
 ·exact(fun _ _ _ _ _ _ n=>⟨(ck 0 (show((["deed"]:List Str)++([]:List Str)).Nodup from by decide +kernel)),jV,(ae aq)⟩)
theorem Ps{C:Addr}{g:Addr}{fd:FuncData}(T:Tx P w K mg)(a:cR K mg C)(D:MD K C "step" "Hall.step" tN ["self","runner","moment"] g fd):ay P w K mg base (aU P w) 7 g fd ["self","runner","moment"] (aW K mg (iR C)):=by
 obtain⟨n,o,e⟩:=a.d2l;have i:=yd P w base T a e;obtain⟨g1,f1,f⟩:=a.d2p;have j:=Df P w base T a f;obtain⟨g2,f2,D2⟩:=a.d2t;have k:=Pp P w base T a D2;obtain⟨g3,p,h⟩:=a.d2s;have l:=OR P w base T a h;refine bv D.fn Oj (by decide) ?_;intro m A d s H E F q b c;unfold nn;refine aE ?_ ?_
 ·refine gr ?_ ?_
  ·exact(ft c a.cl i e b (pv 0) (av (fv 1) (av (fv 2) aJ)))
  ·rfl
 refine aE ?_ ?_
 ·refine fr ?_ ?_ ?_ ?_ ?_
  ·exact a.cl
  ·exact a.d2c
  ·exact(pv 0)
  ·exact(fv 2)
  ·rfl
 refine aE ?_ ?_
 ·refine bX ?_ ?_ ?_
  ·exact(dj (di (aX (eU c a.cl j f b (pv 0)))))
  ·refine aG ?_;refine bD ?_
   ·exact(bn (ag (ae bB) (ag (bd (dq a.cl a.d28 (pv 0)) (ae aq)) (ag (bd (dq a.cl a.d28 (pv 0)) (ae aq)) aD))))
  ·exact ca
 refine aE ?_ ?_
 ·refine bX ?_ ?_ ?_
  ·exact(wA (dq a.cl a.d28 (pv 0)) (ae em))
  ·refine aG ?_;refine dD ?_
   ·exact(ft c a.cl l h b (pv 0) (av (fv 1) (av (fv 2) aJ)))
  ·exact ca
 refine aG ?_;refine dD ?_
 ·exact(ft c a.cl k D2 b (pv 0) (av (fv 1) (av (fv 2) aJ)))
theorem Pt{C:Addr}{g:Addr}{fd:FuncData}(T:Tx P w K mg)(a:cR K mg C)(D:FD K mg "ask" tT ["hall","call"] g fd):ay P w K mg base (aU P w) 8 g fd ["hall","call"] (aW K mg (eL C)):=by
 obtain⟨n,o,e⟩:=a.d2u;have i:=Pq P w base T a e;obtain⟨g1,f1,f⟩:=a.d2m;have j:=Pj P w base T a f;obtain⟨g2,f2,D2⟩:=a.d2n;have k:=Po P w base T a D2;obtain⟨g3,p,h⟩:=a.d2r;have l:=Ps P w base T a h;refine bv D.fn Op (by decide) ?_;intro m A d s H E F q b c;unfold jz;refine aE ?_ ?_
 ·refine bX ?_ ?_ ?_
  ·exact(fJ b.units (bd (fv 1) (ae aq)) (ae bB))
  ·refine aG ?_;refine dD ?_
   ·exact(ft c a.cl j f b (pv 0) (av (bd (fv 1) (ae aq)) (av (bd (fv 1) (ae aq)) (av (bd (fv 1) (ae aq)) aJ))))
  ·exact ca
 refine aE ?_ ?_
 ·refine bX ?_ ?_ ?_
  ·exact(fJ b.units (bd (fv 1) (ae aq)) (ae bB))
  ·refine aG ?_;refine dD ?_
   ·exact(ft c a.cl k D2 b (pv 0) (av (bd (fv 1) (ae aq)) (av (bd (fv 1) (ae aq)) aJ)))
  ·exact ca
 refine aE ?_ ?_
 ·refine bX ?_ ?_ ?_
  ·exact(fJ b.units (bd (fv 1) (ae aq)) (ae bB))
  ·refine aG ?_;refine dD ?_
   ·exact(ft c a.cl l h b (pv 0) (av (bd (fv 1) (ae aq)) (av (bd (fv 1) (ae aq)) aJ)))
  ·exact ca
 refine aG ?_;refine dD ?_
 ·exact(ft c a.cl i e b (pv 0) (av (bd (fv 1) (ae aq)) (av (bd (fv 1) (ae aq)) aJ)))
theorem Pu{C:Addr}{g:Addr}{fd:FuncData}(T:Tx P w K mg)(k:cR K mg C)(D:FD K mg "do" tU ["hall","call"] g fd):ay P w K mg base (aU P w) 9 g fd ["hall","call"] (aW K mg (lG C)):=by
 obtain⟨r,t,f⟩:=T.d0x;have l:=OY P w base T f;obtain⟨g1,f1,h⟩:=T.d0y;have m:=Pt P w base T k h;obtain⟨a,u⟩:=T.xt0;refine bv D.fn Oq (by decide) ?_;intro n A e s H E F v i j;unfold sy;refine aE ?_ ?_
 ·refine gr ?_ ?_
  ·exact(aO j l f i (av (fv 1) aJ))
  ·rfl
 refine aG ?_;refine LI (D:=a) ?_ ?_ ?_ ?_ ?_ ?_ ?_<;>try walk_at "z"
 ·exact j.1
 ·intro o b c x d p;refine aG ?_;refine dD ?_
  ·exact(aO d m h i (bf (pv 0) (av (fv 1) aJ)))
 ·intro o y b c q;refine aG ?_;refine bD ?_
  ·exact(ae bB)
theorem Pw{C:Addr}{g:Addr}{fd:FuncData}(T:Tx P w K mg)(e:cR K mg C)(D:FD K mg "run" tV ["zone","deeds","calls"] g fd):ay P w K mg base (aU P w) 10 g fd ["zone","deeds","calls"] (aW K mg (sB C)):=by
 obtain⟨u,v,f⟩:=e.d2i;have n:=Dl P w base T e f;obtain⟨g1,f1,m⟩:=T.d0z;have o:=Pu P w base T e m;obtain⟨p,q⟩:=T.xt0;obtain⟨d,a,_⟩:=q.at_ (c:="NoCall") (by decide +kernel);refine bv D.fn CU (by decide) ?_;intro r A l s H E F x h j;unfold xI;refine aE ?_ ?_
 ·refine jq (i:=3) ?_ ?_ ?_ ?_ ?_ ?_<;>try walk_at "z"
  ·exact CU.nd
  ·exact(wF j (e.make f.mt) n (h.mono (by decide)) rfl e.mg f.b (ag (fv 0) (ag (fv 1) aD)))
 refine aE ?_ ?_
 ·refine bX ?_ ?_ ?_
  ·exact(eF (dj (di (jr (jj rfl T.d1y (fv 2) (im rfl T.d20 Ox rfl))))))
  ·refine aG ?_;exact(gJ j h.hd rfl a)
  ·exact ca
 refine aG ?_;refine dD ?_
 ·exact(Cv (C:=C) (pv 3) (Nk (k:=0) (jm:=3) j.1 (aj.of (own:=["call"]) (capN:=["hall"]) (caps:=[3])) rfl rfl rfl (jU (fv 2)) (fun _ _ _ _ _ _ t=>⟨(ck 0 (show((["call"]:List Str)++(["hall"]:List Str)).Nodup from by decide +kernel)),jV,(aX (aO (fL t) o m h (bf (pv 1) (av (fv 0) aJ))))⟩)))
theorem Px{C:Addr}{g:Addr}{fd:FuncData}(T:Tx P w K mg)(k:cR K mg C)(D:FD K mg "_law_called" ue ["_law_script","_law_town","_law_zone_here","_law_deeds_here","_law_most"] g fd):ay P w K mg base (aU P w) 11 g fd ["_law_script","_law_town","_law_zone_here","_law_deeds_here","_law_most"] (aW K mg (pq C)):=by
 obtain⟨n,o,h⟩:=T.d10;have l:=Pw P w base T k h;obtain⟨g1,f1,c⟩:=T.d13;have d:=pC P w base T c;obtain⟨g2,f2,D2⟩:=T.d14;have e:=lK P w base T D2;refine bv D.fn kr (by decide) ?_;intro m A f s H E F p a b;unfold xJ;refine aE ?_ ?_
 ·exact(MY (i:=5) (j:=6) rfl kr.nd rfl rfl (by decide) rfl rfl (oo aD))
 refine aE ?_ ?_
 ·refine jt ?_ ?_ ?_ ?_ ?_ ?_<;>try walk_at "z"
  ·exact PassesOwn.leaving
  ·exact(on (nX rfl T.d23 (ag (aX (aO b d c a (bf (pv 0) (bf (pv 1) (av (eG (fv 4) (ae aq)) aJ))))) aD)))
  ·exact(ck 7 kr.nd)
  ·unfold nq;refine aE ?_ ?_
   ·refine bP (i:=6) ?_ ?_ ?_ ?_ ?_ ?_<;>try walk_at "z"
    ·exact kr.nd
    ·exact(eG (fv 6) (aX (aO b d c a (bf (pv 0) (bf (pv 1) (av (aX (aO b e D2 a (bf (pv 0) (bf (pv 1) (av (cH (ag (ae aq) (ag (ae aq) (ag (ae aq) aD)))) aJ))))) aJ))))))
   refine aE ?_ ?_
   ·refine bP (i:=8) ?_ ?_ ?_ ?_ ?_ ?_<;>try walk_at "z"
    ·exact kr.nd
    ·exact(aX (aO b d c a (bf (pv 0) (bf (pv 1) (av (aX (aO b e D2 a (bf (pv 0) (bf (pv 1) (av (cH (ag (ae aq) (ag (ae aq) (ag (ae aq) aD)))) aJ))))) aJ)))))
   refine aE ?_ ?_
   ·refine bP (i:=9) ?_ ?_ ?_ ?_ ?_ ?_<;>try walk_at "z"
    ·exact kr.nd
    ·exact(aX (aO b e D2 a (bf (pv 0) (bf (pv 1) (av (cH (ag (ae bB) (ag (ae bB) (ag (ae bB) (ag (ae bB) (ag (ae bB) (ag (ae bB) (ag (ae bB) aD)))))))) aJ)))))
   refine aE ?_ ?_
   ·refine bP (i:=10) ?_ ?_ ?_ ?_ ?_ ?_<;>try walk_at "z"
    ·exact kr.nd
    ·exact(bn (ag (fv 9) (ag (fv 8) (ag (fv 6) aD))))
   refine aG ?_;refine vX ?_ ?_ ?_ ?_ ?_ ?_ ?_ ?_<;>try walk_at "z"
   ·exact(pv 5)
   ·exact(qJ (fJ a.units (fv 9) (ae bB)) (wy (fv 10) (bn (ag (eG (ae aq) (aX (aO b d c a (bf (pv 0) (bf (pv 1) (av (ae aq) aJ)))))) aD))) (fv 10))
 refine aE ?_ ?_
 ·refine Cw (i:=11) (j:=12) rfl ?_ kr.nd rfl rfl (by first | exact Or.inl rfl | exact Or.inr rfl) (by first | exact Or.inl rfl | exact Or.inr rfl) (by first | exact .inl rfl | exact .inr rfl | assumption) (by first | exact .inl rfl | exact .inr rfl | assumption) rfl rfl rfl rfl rfl rfl rfl;exact(aO b l h a (av (fv 2) (av (fv 3) (av (li (cH (ag (bn (ag (ae bB) (ag (ae aq) (ag (ae aq) (ag (ae aq) aD))))) aD)) (fv 5)) aJ))))
 refine aG ?_;refine dD ?_
 ·exact(Cv (C:=C) (pv 11) (fv 5))
theorem Py{C:Addr}{g:Addr}{fd:FuncData}(T:Tx P w K mg)(d:cR K mg C)(D:FD K mg "law" ko ["_law_script"] g fd):ay P w K mg base (aU P w) 12 g fd ["_law_script"] (aW K mg (CN C)):=by
 obtain⟨X,Y,q⟩:=T.d15;have B:=Pe P w base T q;obtain⟨g1,f1,r⟩:=T.d17;have G:=Pn P w base T r;obtain⟨g2,f2,D2⟩:=T.d18;have I:=Px P w base T d D2;obtain⟨g3,Z,t⟩:=T.d14;have J:=lK P w base T t;obtain⟨g4,f4,e⟩:=d.d2i;have u:=Dl P w base T d e;obtain⟨g5,f5,v⟩:=T.d19;have L:=Pg P w base T v;obtain⟨g6,f6,x⟩:=T.d1a;have M:=Ph P w base T x;obtain⟨g7,f7,k⟩:=T.d1c;have l:=Pr P w base T d k;obtain⟨g8,f8,m⟩:=T.d0r;have y:=OM P w base T d m;obtain⟨g9,f9,z⟩:=T.d0v;have N:=OP P w base T d z;obtain⟨O,Q,f⟩:=T.d0t;have n:=ON P w base T d f;obtain⟨R,S,h⟩:=T.d0u;have o:=OO P w base T d h;refine bv D.fn iS (by decide) ?_;intro U A p s H E F E' a c;unfold xW;refine aE ?_ ?_
 ·unfold xK;refine jq (i:=1) ?_ ?_ ?_ ?_ ?_ ?_<;>try walk_at "z"
  ·exact iS.nd
  ·exact(oo aD)
 refine aE ?_ ?_
 ·unfold xL;refine bP (i:=2) ?_ ?_ ?_ ?_ ?_ ?_<;>try walk_at "z"
  ·exact iS.nd
  ·exact(aX (aO c B q a (bf (pv 0) (bf (pv 1) (av (ae aq) aJ)))))
 refine aE ?_ ?_
 ·unfold xM;refine bP (i:=3) ?_ ?_ ?_ ?_ ?_ ?_<;>try walk_at "z"
  ·exact iS.nd
  ·exact(aX (aO c G r a (bf (pv 0) (bf (pv 1) (av (ae aq) (av (ae aq) aJ))))))
 refine aE ?_ ?_
 ·unfold xN;refine Cw (i:=4) (j:=5) rfl ?_ iS.nd rfl rfl (by first | exact Or.inl rfl | exact Or.inr rfl) (by first | exact Or.inl rfl | exact Or.inr rfl) (by first | exact .inl rfl | exact .inr rfl | assumption) (by first | exact .inl rfl | exact .inr rfl | assumption) rfl rfl rfl rfl rfl rfl rfl;exact(aO c I D2 a (bf (pv 0) (bf (pv 1) (av (fv 2) (av (fv 3) (av (ae aq) aJ))))))
 refine aE ?_ ?_
 ·unfold xO;refine LC ?_
  ·exact(KW (i:=6) (j:=7) rfl iS.nd rfl rfl (by decide) rfl rfl (ag (aX (aO c L v a (bf (pv 0) (bf (pv 1) aJ)))) (ag (aX (aO c M x a (bf (pv 0) (bf (pv 1) aJ)))) aD)))
 refine aE ?_ ?_
 ·unfold xP;refine bP (i:=8) ?_ ?_ ?_ ?_ ?_ ?_<;>try walk_at "z"
  ·exact iS.nd
  ·exact(bn (ag (ae bB) (ag (ae aq) aD)))
 refine aE ?_ ?_
 ·unfold xQ;refine bP (i:=9) ?_ ?_ ?_ ?_ ?_ ?_<;>try walk_at "z"
  ·exact iS.nd
  ·exact(aX (aO c J t a (bf (pv 0) (bf (pv 1) (av (cH (ag (ae em) (ag (iB (ae aq)) (ag (fH jn (fV gZ jl rfl T.d1z PySem.boot_len (ag (fv 3) aD))) (ag (ae fF) (ag (ae bB) (ag (bn (ag (ae aq) aD)) aD))))))) aJ)))))
 refine aE ?_ ?_
 ·unfold xR;refine bP (i:=10) ?_ ?_ ?_ ?_ ?_ ?_<;>try walk_at "z"
  ·exact iS.nd
  ·exact(cH (ag (aX (aO c l k a (bf (pv 4) (av (fv 6) (av (fv 7) (av (fv 9) aJ)))))) (ag (aX (aO c l k a (bf (pv 4) (av (fv 2) (av (fv 7) (av (fv 9) aJ)))))) aD)))
 refine aE ?_ ?_
 ·unfold xS;refine bX ?_ ?_ ?_
  ·exact(lm a.units (li (fv 10) (cH (ag (aX (aO c l k a (bf (pv 4) (av (fv 2) (av (fv 8) (av (fv 9) aJ)))))) aD))) (cH (ag (bn (ag (ae bB) (ag (ae aq) aD))) (ag (bn (ag (ae bB) (ag (ae aq) aD))) (ag (bn (ag (ae bB) (ag (ae aq) aD))) aD)))))
  ·refine aG ?_;refine bD ?_
   ·exact(ae fF)
  ·exact ca
 refine aE ?_ ?_
 ·unfold xT;refine jq (i:=11) ?_ ?_ ?_ ?_ ?_ ?_<;>try walk_at "z"
  ·exact iS.nd
  ·exact(wF c (d.make e.mt) u (a.mono (by decide)) rfl d.mg e.b (ag (fv 2) (ag (fv 3) aD)))
 refine aE ?_ ?_
 ·unfold sC;refine bX ?_ ?_ ?_
  ·exact(jR (kT (lm a.units (aX (aO c y m a (bf (pv 11) aJ))) (LY (cH (ag (bn (ag (ae aq) (ag (ae aq) (ag (ae aq) (ag (ae aq) aD))))) aD)) (fH jn (fV gZ jl rfl T.d1z PySem.boot_len (ag (fv 3) aD))))) (kT (lm a.units (aX (aO c N z a (bf (pv 11) aJ))) (cH aD)) (mr (lm a.units (aX (Nm c y m a (wF c (d.make e.mt) u (a.mono (by decide)) rfl d.mg e.b (ag (fv 2) (ag (bn aD) aD))))) (cH aD))))))
  ·refine aG ?_;refine bD ?_
   ·exact(ae fF)
  ·exact ca
 refine aG ?_;unfold sD;refine bD ?_
 ·exact(eR (kb a.units (aX (aO c n f a (bf (pv 11) aJ))) (cH aD)) (fY (kb a.units (aX (aO c o h a (bf (pv 11) aJ))) (cH aD))))
end
end K3
namespace K3
open PySem L2 L2.L3 Due
noncomputable def cA(d:PyData)(lo a:Int):Bool:=match d with
 | .int i=>decide (lo<=i)&&decide (i<=a)
 | _=>false
noncomputable def dc:PyData->Bool
 | .dict _=>false
 | _=>true
@[simp] theorem Se:cq "int" "int" = some true:=by decide
@[simp] theorem Sf:cq "int" "bool" = some false:=by decide
@[simp] theorem Sg:cq "bool" "int" = some true:=by decide
@[simp] theorem Si:cq "bool" "bool" = some true:=by decide
@[simp] theorem Sj:cq "NoneType" "int" = some false:=by decide
@[simp] theorem Sk:cq "str" "int" = some false:=by decide
@[simp] theorem Sl:cq "list" "int" = some false:=by decide
@[simp] theorem Sm:cq "tuple" "int" = some false:=by decide
@[simp] theorem Sn:cq "int" "tuple" = some false:=by decide
@[simp] theorem So:cq "bool" "tuple" = some false:=by decide
@[simp] theorem Sq:cq "NoneType" "tuple" = some false:=by decide
@[simp] theorem Sr:cq "str" "tuple" = some false:=by decide
@[simp] theorem Ss:cq "list" "tuple" = some false:=by decide
@[simp] theorem Su:cq "tuple" "tuple" = some true:=by decide
theorem ye(i j:Int):PyData.eqv (.int i) (.int j)=(i==j):=by rw[PyData.eqv]
theorem nt(i:Int):SeqAt.shaped (.int i)=true:=by rfl
theorem ie{d:PyData}{lo hi:Int}(h:dc d=true):gc [.dat d,.dat (.int lo),.dat (.int hi)]=.rt (.dat (.bool (cA d lo hi))) []:=by
 cases d with
 | dict _=>cases h
 | int i=>
  by_cases h1:lo<=i
  ·simp[aP,gc,oN,cA,h1]
  ·simp[aP,gc,oN,cA,h1]
 | _=>simp[aP,gc,oN,cA]
noncomputable def fg(d:PyData)(n:Int):Bool:=match d with
 | .tuple ds=>decide ((ds.length:Int)=n)
 | _=>false
theorem lL{d:PyData}{n:Int}(h:dc d=true):kg [.dat d,.dat (.int n)]=.rt (.dat (.bool (fg d n))) []:=by
 cases d with
 | dict _=>cases h
 | tuple ds=>simp[aP,kg,rB,fg,nt,ye];rfl
 | _=>simp[aP,kg,rB,fg]
theorem yf{d:PyData}(h:dc d=true):oR [.dat d]=.rt (.dat (.bool (cA d (-12) 14))) []:=by simp[aP,oR,xb,ie h]
theorem uu{d:PyData}(h:dc d=true):mU [.dat d]=.rt (.dat (.bool (cA d 0 9999))) []:=by simp[aP,mU,xc,ie h]
theorem Dm{d:PyData}(h:dc d=true):rV [.dat d]=if cA d 0 9999=true then .rt (.dat .none) [] else .ex "NoMoment" []:=by simp only[rV,xp];cases a:cA d 0 9999<;>simp[aP,uu h,a]
noncomputable abbrev eW(p:Int×Int):PyData:=.tuple [.int p.1,.int p.2]
noncomputable abbrev cS(a:Int)(b:Sh):PyData:=.tuple [.int a,.tuple (b.map eW)]
@[simp] theorem Sv{x:PyData}{l:List PyData}:bI (x::l) 0=some x:=by unfold bI dA;rw[if_pos (by omega),if_pos (by simp<;>omega)];rfl
@[simp] theorem Dn{x y:PyData}{l:List PyData}:bI (x::y::l) 1=some y:=by unfold bI dA;rw[if_pos (by omega),if_pos (by simp<;>omega)];rfl
@[simp] theorem uv{x:PyData}{l:List PyData}:bI (l++[x]) (-1)=some x:=by unfold bI dA;rw[if_neg (by omega),if_pos (by simp;omega)];simp;rw[show(-1+((l.length:Int)+1)).toNat=l.length by omega];simp
theorem Do{c:Option ai}:∀{f:Sh}{lo:Int}{x:Option ai},mP lo f->(∀p∈f,p.1<=9999/\-12<=p.2/\p.2<=14)->∃e y,cQ (aI 2) mV (f.map eW) [c,some (.dat (.int (lo+1))),x]=.nx [c,e,y]
 | [],_,_,_,_=>⟨_,_,rfl⟩
 | (b,k)::r,lo,x,⟨h1,h2⟩,g=>by
  obtain⟨e,y,h⟩:=Do (lo:=b) (c:=c) (x:=some (.dat (eW (b,k)))) h2 fun p i=>g p (bY _ i);have a:=g (b,k) List.mem_cons_self;refine⟨e,y,?_⟩;rw[List.map_cons,cQ,<-h];have:mV [c,some (.dat (.int (lo+1))),some (.dat (eW (b,k)))]=.nx [c,some (.dat (.int (b+1))),some (.dat (eW (b,k)))]:=by simp[aP,mV,lL (d:=.tuple [.int b,.int k]) rfl,fg,yf (d:=.int k) rfl,ie (d:=.int b) rfl,cA,a.2.1,a.2.2,a.1,show lo+1<=b by omega]
  simp[aP,this]
theorem Pz{a:Sh}(f:a.length<=6)(b:mP 0 a)(d:∀p∈a,p.1<=9999/\-12<=p.2/\p.2<=14):oV [.dat (.tuple (a.map eW))]=.rt (.dat (.bool true)) []:=by obtain⟨e,y,h⟩:=Do (lo:=0) (c:=some (.dat (.tuple (a.map eW)))) (x:=none) b d;simp[aP,oV,rT,show ¬ (6:Int)<a.length by omega] at h ⊢;rw[h];simp
theorem PB{a:Int}{b:Sh}(z:lA a b):oX [.dat (cS a b)]=.rt (.dat (.bool true)) []:=by have h1:=z.ah.1;simp[aP,oX,se,lL (d:=cS a b) rfl,fg,yf (d:=.int a) rfl,cA,h1.1,h1.2,Pz z.len z.rise fun p c=>⟨z.top p c,z.ah.2 p c⟩]
theorem PC{a:Int}{b:Sh}(z:lA a b):gx [.dat (cS a b)]=.rt (.dat .none) []:=by simp[aP,gx,sj,PB z]
theorem Dp{m:Int}{z:Option ai}:∀{ss:Sh}{a:Int}{x:Option ai},∃y,cQ (aI 3) rC (ss.map eW) [z,some (.dat (.int m)),some (.dat (.int a)),x]=.nx [z,some (.dat (.int m)),some (.dat (.int (rA a ss m))),y]
 | [],_,_=>⟨_,rfl⟩
 | (b,c)::r,a,x=>by
  obtain⟨y,d⟩:=Dp (m:=m) (z:=z) (ss:=r) (a:=if b<=m then c else a) (x:=some (.dat (eW (b,c))));refine⟨y,?_⟩;rw[List.map_cons,cQ];unfold rA;rw[<-d]
  by_cases h:b<=m<;>simp[aP,rC,h]
theorem PD{a m:Int}{b:Sh}:rD [.dat (cS a b),.dat (.int m)]=.rt (.dat (.int (wQ a b m))) []:=by obtain⟨y,h⟩:=Dp (m:=m) (z:=some (.dat (cS a b))) (ss:=b) (a:=a) (x:=none);simp[aP,rD,wT] at h ⊢;rw[h];simp[aP,wQ]
theorem yg{e:XM PyData}{g:GM}{f:PyData->PyData}{P:ak->Prop}:∀{its ys:List PyData}{U:ak},P U->(∀d∈its,∀U,P U->∃a b,g d U=some a/\e a=.ok (f d) b/\P b)->ys.length+its.length<=sizeLine->cj g dX e its ys U=some (ys++its.map f)
 | [],ys,U,_,_,_=>by simp[aP,cj]
 | d::r,ys,U,c,h,i=>by obtain⟨a,b,h1,h2,h3⟩:=h d List.mem_cons_self U c;simp only[List.length_cons] at i;unfold cj;rw[h1];simp only[dX,h2];rw[if_pos (by omega),yg h3 (fun d hd=>h d (bY _ hd)) (by simp;omega)];simp
theorem yh{t:XM Bool}{e:XM PyData}{g:GM}{p:PyData->Bool}{f:PyData->PyData}{P:ak->Prop}:∀{its ys:List PyData}{U:ak},P U->(∀d∈its,∀U,P U->∃b a c,g d U=some b/\t b=.ok (p d) a/\P a/\(p d=true->e a=.ok (f d) c/\P c))->ys.length+its.length<=sizeLine->cj g t e its ys U=some (ys++(its.filter p).map f)
 | [],ys,U,_,_,_=>by simp[aP,cj]
 | d::r,ys,U,j,h,k=>by
  obtain⟨b,a,c,h1,h2,h3,l⟩:=h d List.mem_cons_self U j;simp only[List.length_cons] at k;unfold cj;rw[h1];simp only[h2];cases i:p d with
  | true=>obtain⟨m,n⟩:=l i;simp only[m];rw[if_pos (by omega),yh n (fun d hd=>h d (bY _ hd)) (by simp;omega)];simp[aP,i]
  | false=>simp only;rw[yh h3 (fun d hd=>h d (bY _ hd)) (by omega)];simp[aP,i]
@[simp] theorem Sw:(0:Nat)<=sizeLine:=by decide
@[simp] theorem Dq:(1:Nat)<=sizeLine:=by decide
@[simp] theorem Dr:(2:Nat)<=sizeLine:=by decide
@[simp] theorem Sx:(3:Nat)<=sizeLine:=by decide
@[simp] theorem Sy:(4:Nat)<=sizeLine:=by decide
@[simp] theorem Sz:(5:Nat)<=sizeLine:=by decide
@[simp] theorem SA:(6:Nat)<=sizeLine:=by decide
@[simp] theorem SD:(7:Nat)<=sizeLine:=by decide
@[simp] theorem SE:(8:Nat)<=sizeLine:=by decide
@[simp] theorem SF:(9:Nat)<=sizeLine:=by decide
@[simp] theorem PH:(10:Nat)<=sizeLine:=by decide
@[simp] theorem PJ:(11:Nat)<=sizeLine:=by decide
@[simp] theorem PL:(12:Nat)<=sizeLine:=by decide
@[simp] theorem PM:(13:Nat)<=sizeLine:=by decide
@[simp] theorem PN:(14:Nat)<=sizeLine:=by decide
noncomputable def fx:Option Int->PyData
 | none=>.none
 | some e=>.int e
noncomputable def jA(p:Int×Option Int×Int):PyData:=.tuple [.int p.1,fx p.2.1,.int p.2.2]
theorem Ds:∀(d:Sh) (s a:Int),og (.int s::d.map fun p=>.int p.1) ((d.map fun p=>PyData.int p.1)++[.none]) (.int a::d.map fun p=>.int p.2)=(cg s a d).map jA
 | [],s,a=>rfl
 | (b,c)::r,s,a=>by have e:=Ds r b c;simp only[List.map_cons,List.cons_append,cg];rw[<-e];rfl
theorem PP{a:Int}{b:Sh}(l:b.length<=6):rE [.dat (cS a b)]=.rt (.dat (.list ((cg 0 a b).map jA))) []:=by
 have sz:1000<sizeLine:=by decide
 have c:=yg (e:=wU) (g:=aI 0) (f:=fun d=>match d with | .tuple (x::_)=>x | _=>.none) (P:=fun U=>U.length=1) (its:=b.map eW) (ys:=[]) (U:=[none]) rfl (fun d hd U h=>by
  obtain⟨p,_,rfl⟩:=List.mem_map.mp hd
  match U,h with
  | [y],_=>exact⟨_,_,rfl,by simp[aP,wU];rfl,rfl⟩) (by simp;omega)
 have i:=yg (e:=wV) (g:=aI 0) (f:=fun d=>match d with | .tuple (_::x::_)=>x | _=>.none) (P:=fun U=>U.length=1) (its:=b.map eW) (ys:=[]) (U:=[none]) rfl (fun d hd U h=>by
  obtain⟨p,_,rfl⟩:=List.mem_map.mp hd
  match U,h with
  | [y],_=>exact⟨_,_,rfl,by simp[aP,wV];rfl,rfl⟩) (by simp;omega)
 simp only[List.nil_append,List.map_map] at c i;have j:List.map ((fun d=>match d with | .tuple (x::_)=>x | _=>PyData.none)∘eW) b=b.map fun p=>PyData.int p.1:=by apply List.map_congr_left;intro p _;rfl
 have k:List.map ((fun d=>match d with | .tuple (_::x::_)=>x | _=>PyData.none)∘eW) b=b.map fun p=>PyData.int p.2:=by apply List.map_congr_left;intro p _;rfl
 rw[j] at c;rw[k] at i;have z:=Ds b 0 a;simp[aP,rE,wW,c,i,show b.length<=sizeLine by omega,show b.length+1<=sizeLine by omega,show 1+b.length<=sizeLine by omega,z]
theorem PQ{m:Int}{e:Option Int}:rF [.dat (.int m),.dat (fx e)]=.rt (.dat (.bool (lz m e))) []:=by cases e<;>simp[aP,rF,wX,fx,lz]
theorem yi:∀(d:Sh) (s a:Int),(cg s a d).length=d.length+1
 | [],s,a=>rfl
 | (b,c)::r,s,a=>by simp[aP,cg,yi r b c]
theorem PR{a:List Int}{k:Int}(d:a.length<=63)(e:0<=k):∃v,mR [.scr a,.dat (.int k)]=.rt (.dat (.int v)) []:=by
 by_cases h:k<a.length
 ·have:∃v,bI a k=some v:=by unfold bI dA;rw[if_pos e,if_pos h];exact⟨a[k.toNat]'(by omega),by simp⟩
  obtain⟨v,c⟩:=this;exact⟨v,by simp[aP,mR,oO,d,h,c]⟩
 ·by_cases b:a=[]
  ·subst b;exact⟨0,by simp[aP,mR,oO] at h ⊢;simp[aP,show ¬ k<0 by omega]⟩
  ·have f:0<(a.length:Int):=by have:=List.length_pos_iff.mpr b;omega
   have:∃v,bI a (k % a.length)=some v:=by have h1:=Int.emod_nonneg k (show(a.length:Int)≠0 by omega);have h2:=Int.emod_lt_of_pos k f;unfold bI dA;rw[if_pos h1,if_pos h2];exact⟨a[(k % a.length).toNat]'(by omega),by simp⟩
   obtain⟨v,c⟩:=this;exact⟨v * 31+k,by simp[aP,mR,oO,d,h,b,c,oh,jP,List.length_pos_iff.mpr b]⟩
theorem PU{b:List Int}{k many:Int}(c:b.length<=63)(d:0<=k)(a:0<many):∃v,0<=v/\v<many/\rR [.scr b,.dat (.int k),.dat (.int many)]=.rt (.dat (.int v)) []:=by
 obtain⟨v,e⟩:=PR (k:=k) c d;generalize hd:(v * 1103515245+7919 * k+12345) % 2147483647=dr;have f:0<=dr:=by omega
 have g:dr<2147483647:=by omega
 refine⟨dr ^ 5 % 2147483647 % 999983 % many,Int.emod_nonneg _ (by omega),Int.emod_lt_of_pos _ a,?_⟩;simp[aP,rR,xo,e,jP,oh,qH,hd,a,show dr.natAbs<18446744073709551616 by omega]
theorem fM{ns:List Int}{many:Int}{t:List PyData}(a:ns.length<=63)(c:t.length<1000)(b:0<many):∃v,0<=v/\v<many/\dP [.scr ns,.own true (.l t),.dat (.int many)]=.rt (.dat (.int v)) [.l (t++[.int 0])]:=by
 have sz:1000<sizeLine:=by decide
 obtain⟨v,h1,h2,h3⟩:=PU (k:=((t++[PyData.int 0]).length:Int)) a (by omega) b;refine⟨v,h1,h2,?_⟩;simp at h3;simp[aP,dP,xv,show t.length<sizeLine by omega,h3]
theorem iU{ns:List Int}{ds t:List PyData}(a:ns.length<=63)(b:t.length<1000)(hd:ds≠[])(c:ds.length<=1000):∃d∈ds,fu [.scr ns,.own true (.l t),.dat (.list ds)]=.rt (.dat d) [.l (t++[.int 0])]:=by
 have e:=List.length_pos_iff.mpr hd;obtain⟨v,h1,h2,h3⟩:=fM (many:=ds.length) a b (by omega);have:bI ds v=some (ds[v.toNat]'(by omega)):=by unfold bI dA;rw[if_pos h1,if_pos h2];simp
 refine⟨ds[v.toNat]'(by omega),List.getElem_mem _,?_⟩;simp[aP,fu,xx,h3,this]
theorem PV{ns:List Int}{t:List PyData}{ss:Sh}{m wd:Int}{k:Option ai}(b:ns.length<=63)(h:t.length<900)(j:ss.length<=100)(a:0<wd):∃d c,0<=d/\d<wd/\-12<=c/\c<=14/\
  oY [some (.scr ns),some (.own true (.l t)),some (.dat (.int wd)),some (.dat (.tuple (ss.map eW))),some (.dat (.int m)),k]=.nx [some (.scr ns),some (.own true (.l (t++[.int 0]++[.int 0]))),some (.dat (.int wd)),some (.dat (.tuple ((ss++[(m+1+d,c)]).map eW))),some (.dat (.int (m+1+d))),k]:=by
 have sz:1000<sizeLine:=by decide
 obtain⟨d,e,n,h2⟩:=fM (ns:=ns) (t:=t) (many:=wd) b (by omega) a;obtain⟨w,a,h1⟩:=iU (ns:=ns) (t:=t++[.int 0]) (ds:=[.int 0,.int 1,.int 2,.int (-1),.int 14,.int (-12),.int 3]) b (by simp;omega) (by simp) (by simp);have:∃i:Int,w=.int i/\-12<=i/\i<=14:=by simp only[List.mem_cons,List.not_mem_nil,or_false] at a;rcases a with rfl | rfl | rfl | rfl | rfl | rfl | rfl<;>exact⟨_,rfl,by omega,by omega⟩
 obtain⟨i,rfl,f,g⟩:=this;refine⟨d,i,e,by omega,f,g,?_⟩;simp only[List.append_assoc,List.cons_append,List.nil_append] at h1 h2;simp[aP,oY,h1,h2,show ss.length+1<=sizeLine by omega]
theorem Dt{ns:List Int}{wd:Int}(g:ns.length<=63)(h:0<wd):∀{its t:List PyData}{ss:Sh}{m:Int}{k:Option ai},t.length+2 * its.length<900->ss.length+its.length<=100->∃new t' b f,cQ (aI 5) oY its [some (.scr ns),some (.own true (.l t)),some (.dat (.int wd)),some (.dat (.tuple (ss.map eW))),some (.dat (.int m)),k]=.nx [some (.scr ns),some (.own true (.l t')),some (.dat (.int wd)),some (.dat (.tuple ((ss++new).map eW))),some (.dat (.int b)),f]/\
  mP m new/\(∀p∈new,p.1<=m+wd * its.length/\-12<=p.2/\p.2<=14)/\new.length=its.length/\t'.length=t.length+2 * its.length
 | [],t,ss,m,k,_,_=>⟨[],t,m,k,by simp[aP,cQ],trivial,fun p a=>(by cases a),rfl,rfl⟩
 | x::r,t,ss,m,k,h1,h2=>by
  simp only[List.length_cons] at h1 h2;obtain⟨d,c,s,u,i,j,e⟩:=PV (ns:=ns) (t:=t) (ss:=ss) (m:=m) (wd:=wd) (k:=some (.dat x)) g (by omega) (by omega) h;obtain⟨new,t',b,f,g1,g2,g3,n,o⟩:=Dt g h (its:=r) (t:=t++[.int 0]++[.int 0]) (ss:=ss++[(m+1+d,c)]) (m:=m+1+d) (k:=some (.dat x)) (by simp;omega) (by simp;omega);have q:wd * ((r.length+1:Nat):Int)=wd * r.length+wd:=by rw[Int.natCast_add,Int.mul_add];simp
  have v:0<=wd * (r.length:Int):=Int.mul_nonneg (by omega) (by omega);refine⟨(m+1+d,c)::new,t',b,f,?_,⟨by omega,g2⟩,fun p a=>?_,by simp[aP,n],by rw[o];simp;omega⟩
  ·rw[cQ];simp only[aI,List.set_cons_succ,List.set_cons_zero,e];rw[g1];simp
  ·rw[List.length_cons,q];rcases List.mem_cons.mp a with rfl | a
   ·exact⟨by simp;omega,i,j⟩
   ·have:=g3 p a;exact⟨by omega,this.2⟩
theorem PX{ns:List Int}{t:List PyData}{wd:Int}(d:ns.length<=63)(s:t.length<=100)(h:0<wd):∃a c t',sk [.scr ns,.own true (.l t),.dat (.int wd)]=.rt (.dat (cS a c)) [.l t']/\c.length<=4/\mP 0 c/\CD a c/\(∀p∈c,p.1<=4 * wd)/\t'.length<=t.length+12:=by
 have sz:1000<sizeLine:=by decide
 obtain⟨n,j,u,h1⟩:=fM (ns:=ns) (t:=t) (many:=5) d (by omega) (by omega);obtain⟨new,f,v,x,g1,g2,g3,o,g⟩:=Dt (ns:=ns) (wd:=wd) d h (its:=intsFrom 0 n.toNat) (t:=t++[.int 0]) (ss:=[]) (m:=0) (k:=none) (by simp[aP,qD];omega) (by simp[aP,qD];omega);rw[qD] at g3 o g;simp only[List.length_append,List.length_cons,List.length_nil] at g;obtain⟨w,b,h2⟩:=iU (ns:=ns) (t:=f) (ds:=[.int 0,.int 1,.int 2,.int (-1),.int 14,.int (-12)]) d (by omega) (by simp) (by simp);have:∃i:Int,w=.int i/\-12<=i/\i<=14:=by simp only[List.mem_cons,List.not_mem_nil,or_false] at b;rcases b with rfl | rfl | rfl | rfl | rfl | rfl<;>exact⟨_,rfl,by omega,by omega⟩
 obtain⟨i,rfl,q,r⟩:=this;simp only[List.map_nil,List.nil_append] at g1;have y:wd * ((n.toNat:Nat):Int)<=4 * wd:=by rw[Int.mul_comm 4];exact Int.mul_le_mul_of_nonneg_left (by omega) (by omega)
 refine⟨i,new,f++[.int 0],?_,by omega,g2,⟨⟨q,r⟩,fun p e=>(g3 p e).2⟩,fun p e=>by have:=(g3 p e).1;omega,by simp;omega⟩;simp[aP,sk,xA,h1,j,show n<4611686018427387904 by omega,show -4611686018427387904<=n by omega,g1,h2]
theorem PY{d:PyData}(h:SeqAt.shaped d=true):aP false d d=some (.bool true):=by simp[aP,h,AO h]
theorem yj{d:PyData}(h:SeqAt.shaped d=true):aP true d d=some (.bool false):=by simp[aP,h,AO h]
theorem PZ(i j:Int):aP true (.int i) (.int j)=some (.bool (!decide (i=j))):=by
 by_cases h:i=j
 ·subst h;simp[yj (nt i)]
 ·simp[aP,nt,ye,h]
theorem lM(i j:Int):aP false (.int i) (.int j)=some (.bool (decide (i=j))):=by
 by_cases h:i=j
 ·subst h;simp[PY (nt i)]
 ·simp[aP,nt,ye,h]
theorem Qa:oP [.exc "NoZone"]=.rt (.dat (.tuple [.str "refused",.int 0])) []:=by kernel_rfl
theorem Qb:oP [.exc "NoPlan"]=.rt (.dat (.tuple [.str "refused",.int 1])) []:=by kernel_rfl
theorem yk{m k:SM}{U a:ak}(h:m U=.nx a):aB m k U=k a:=by simp[h]
theorem Qc(i j:Str):PyData.eqv (.str i) (.str j)=(i==j):=by rw[PyData.eqv]
theorem yl{x:Str}(h:PyData.strOk x=true):SeqAt.shaped (.str x)=true:=by unfold SeqAt.shaped;simp[PyData.canLay0,PyData.depth,h]
theorem cb{x y:Str}(a:PyData.strOk x=true)(b:PyData.strOk y=true):aP false (.str x) (.str y)=some (.bool (x==y)):=by simp[aP,yl a,yl b,Qc]
theorem ig:PyData.strOk "once" = true:=by decide +kernel
theorem jB:PyData.strOk "every" = true:=by decide +kernel
theorem lN:PyData.strOk "daily" = true:=by decide +kernel
@[simp] theorem SG:(("every":Str)==("once":Str))=false:=by decide +kernel
@[simp] theorem SH:(("daily":Str)==("once":Str))=false:=by decide +kernel
@[simp] theorem SI:(("daily":Str)==("every":Str))=false:=by decide +kernel
@[simp] theorem SJ:cq "str" "str" = some true:=by decide
noncomputable abbrev jC:dY->PyData
 | .once m=>.tuple [.str "once",.int m]
 | .every f s=>.tuple [.str "every",.int f,.int s]
 | .daily h=>.tuple [.str "daily",.int h]
@[simp] theorem Du{x y w:PyData}{l:List PyData}:bI (x::y::w::l) 2=some w:=by unfold bI dA;rw[if_pos (by omega),if_pos (by simp<;>omega)];rfl
theorem ku{x w:Str}{rest:List PyData}{n:Int}(a:PyData.strOk x=true)(b:PyData.strOk w=true):iN [.dat (.tuple (.str x::rest)),.dat (.str w),.dat (.int n)]=.rt (.dat (.bool (decide (((rest.length+1:Nat):Int)=n)&&(x==w)))) []:=by
 by_cases h:(((rest.length+1:Nat):Int)=n)
 ·simp[iN,oS,lL (d:=.tuple (.str x::rest)) rfl,fg,cb a b];simp at h;simp[h]
 ·simp[iN,oS,lL (d:=.tuple (.str x::rest)) rfl,fg,cb a b];simp at h;simp[h]
theorem Dv{p:dY}(ok:ic p):kh [.dat (jC p)]=.rt (.dat (.bool true)) []:=by
 cases p with
 | once m=>simp[kh,mW,ku ig ig,uu (d:=.int m) rfl,cA,ok.1,ok.2]
 | every f s=>simp[kh,mW,ku jB ig,ku jB jB,uu (d:=.int f) rfl,ie (d:=.int s) rfl,cA,ok.1.1,ok.1.2,ok.2.1,ok.2.2]
 | daily h=>simp[kh,mW,ku lN ig,ku lN jB,ku lN lN,ie (d:=.int h) rfl,cA,ok.1,ok.2]
theorem Qd{p:dY}(ok:ic p):ki [.dat (jC p)]=.rt (.dat .none) []:=by simp[ki,sg,Dv ok]
noncomputable def uw(g:Int)(d:PyData):Bool:=match d with
 | .tuple [.int s,.none,.int a]=>lz (max s (g - a)) none
 | .tuple [.int s,.int e,.int a]=>lz (max s (g - a)) (some e)
 | _=>false
noncomputable def ux(g:Int)(d:PyData):PyData:=match d with
 | .tuple [.int s,_,.int a]=>.int (max s (g - a))
 | _=>.none
theorem Dw(g:Int)(p:Int×Option Int×Int):uw g (jA p)=lz (max p.1 (g - p.2.2)) p.2.1:=by obtain⟨s,e,a⟩:=p;cases e<;>rfl
theorem Dx(g:Int)(p:Int×Option Int×Int):ux g (jA p)=.int (max p.1 (g - p.2.2)):=by obtain⟨s,e,a⟩:=p;cases e<;>rfl
theorem Qe{a g:Int}{b:Sh}(h:b.length<=6):rK [.dat (cS a b),.dat (.int g)]=.rt (.dat (.int (oM g 0 a b))) []:=by
 have sz:1000<sizeLine:=by decide
 have c:=yh (t:=xh) (e:=xi) (g:=jT 3 (dk (aI 0) (dk (aI 1) (dk (aI 2) jS)))) (p:=uw g) (f:=ux g) (P:=fun U=>∃x y z,U=[x,y,z,some (.dat (.int g))]) (its:=(cg 0 a b).map jA) (ys:=[]) (U:=[none,none,none,some (.dat (.int g))]) ⟨_,_,_,rfl⟩ (fun d hd U i=>by
  obtain⟨p,_,rfl⟩:=List.mem_map.mp hd;obtain⟨x,y,z,rfl⟩:=i;refine⟨[some (.dat (.int p.1)),some (.dat (fx p.2.1)),some (.dat (.int p.2.2)),some (.dat (.int g))],[some (.dat (.int p.1)),some (.dat (fx p.2.1)),some (.dat (.int p.2.2)),some (.dat (.int g))],[some (.dat (.int p.1)),some (.dat (fx p.2.1)),some (.dat (.int p.2.2)),some (.dat (.int g))],by simp[jA],by simp[xh,PQ,Dw],⟨_,_,_,rfl⟩,fun _=>⟨by simp[xi,Dx],⟨_,_,_,rfl⟩⟩⟩) (by simp[yi];omega)
 have f1:(((cg 0 a b).map jA).filter (uw g)).map (ux g)=(mQ g (cg 0 a b)).map PyData.int:=by unfold mQ;have j:ux g∘jA=fun p=>.int (max p.1 (g - p.2.2)):=funext (Dx g);have k:uw g∘jA=fun p=>lz (max p.1 (g - p.2.2)) p.2.1:=funext (Dw g);rw[List.filter_map,List.map_map,List.map_map,j,k];rfl
 have l:(mQ g (cg 0 a b)).length<=7:=by unfold mQ;rw[List.length_map];exact Nat.le_trans (List.length_filter_le _ _) (by rw[yi];omega)
 obtain⟨t,e⟩:=CF g b 0 a;rw[f1,e] at c;rw[e,List.length_cons] at l;simp only[List.nil_append,List.map_cons] at c;simp[rK,xj,PP h,c,show t.length+1<=sizeLine by omega]
theorem Qf{a h:Int}{b:Sh}:rL [.dat (cS a b),.dat (.int h)]=.rt (.dat (.int (wR a b h))) []:=by simp[rL,xk,PD,wR,qG]
theorem Qg{a h:Int}{b:Sh}{c:Nat}(d:b.length<=6):rY [.dat (cS a b),.dat (.int h),.dat (.int c)]=.rt (.dat (.int (wS a b h c))) []:=by simp[rY,xu,Qf,Qe d,wS,jP]
theorem Qh{i j:Int}(a:-1000000<=j)(b:j<=1000000):jP i j=true:=by unfold jP;rw[decide_eq_true (show -(2 ^ 64)<j by omega),decide_eq_true (show j<2 ^ 64 by omega)];simp
theorem Qi{z:PyData}{f s c:Int}(a:1<=s)(b:s<=999):gP [.dat z,.dat (jC (.every f s)),.dat (.int c)]=.rt (.dat (.int (f+c * s))) []:=by simp[gP,ng,cb jB ig,cb jB jB,Qh (i:=c) (show -1000000<=s by omega) (show s<=1000000 by omega)]
theorem Qj{a:Int}{b:Sh}{p:dY}{c:Nat}(d:b.length<=6)(ok:ic p):gP [.dat (cS a b),.dat (jC p),.dat (.int c)]=.rt (.dat (fx (eV a b p c))) []:=by
 cases p with
 | once m=>
  by_cases e:c=0
  ·subst e;simp[gP,ng,cb ig ig,lM,eV,fx]
  ·simp[gP,ng,cb ig ig,lM,eV,fx,e]
 | every f s=>exact Qi ok.2.1 ok.2.2
 | daily h=>simp[gP,ng,cb lN ig,cb lN jB,eV,fx,Qg d]
def ym(o:gm):Prop:=∃x r,o=.rt (.dat (.bool true)) (x::r)
theorem ij{m k:SM}{U a:ak}(h:m U=.nx a)(q:ym (k a)):ym (aB m k U):=by rw[yk h];exact q
theorem Qk{m:SM}{n:Nat}{a:List Int}(h:ym (m (some (.scr a)::List.replicate n none))):bc 1 (n+1) m [.scr a]=.rt (.dat (.bool true)) []:=by obtain⟨x,r,e⟩:=h;simp[e]
theorem uy(i:Int)(r:Nat):L3.intsFrom i (r+1)=.int i::L3.intsFrom (i+1) r:=by
 unfold L3.intsFrom;rw[List.range_succ_eq_map,List.map_cons,List.map_map]
 congr 1
 ·simp
 ·apply List.map_congr_left;intro k _;simp;omega
theorem Ql{ns:List Int}{t:List PyData}{wd:Int}(a:ns.length<=63)(o:t.length<=900)(d:0<wd/\wd<=10000):∃p t',ic p/\(match p with | .once m=>m<wd | .every f s=>f<wd/\s<=200 | .daily _=>True)/\t'.length<=t.length+4/\ni [.scr ns,.own true (.l t),.dat (.int wd)]=.rt (.dat (jC p)) [.l t']:=by
 obtain⟨k,q,r,h1⟩:=fM (ns:=ns) (t:=t) (many:=3) a (by omega) (by omega)
 by_cases e:k=0
 ·obtain⟨m,c,g,h2⟩:=fM (ns:=ns) (t:=t++[.int 0]) (many:=wd) a (by simp;omega) d.1;exact⟨.once m,t++[.int 0]++[.int 0],⟨c,by omega⟩,g,by simp,by simp only[List.append_assoc,List.cons_append,List.nil_append] at h1 h2;simp[ni,oZ,h1,h2,lM,e]⟩
 ·by_cases h:k=1
  ·obtain⟨w,b,h2⟩:=iU (ns:=ns) (t:=t++[.int 0]) (ds:=[.int 3,.int 30,.int 200]) a (by simp;omega) (by simp) (by simp);have:∃i:Int,w=.int i/\0<i/\i<=200:=by simp only[List.mem_cons,List.not_mem_nil,or_false] at b;rcases b with rfl | rfl | rfl<;>exact⟨_,rfl,by omega,by omega⟩
   obtain⟨i,rfl,n,u⟩:=this;obtain⟨s,v,x,h3⟩:=fM (ns:=ns) (t:=t++[.int 0]++[.int 0]) (many:=i) a (by simp;omega) n;obtain⟨f,f1,f2,j⟩:=fM (ns:=ns) (t:=t++[.int 0]++[.int 0]++[.int 0]) (many:=wd) a (by simp;omega) d.1;refine⟨.every f (1+s),t++[.int 0]++[.int 0]++[.int 0]++[.int 0],⟨⟨f1,by omega⟩,by omega,by omega⟩,⟨f2,by omega⟩,by simp,?_⟩;simp only[List.append_assoc,List.cons_append,List.nil_append] at h1 h2 h3 j;simp[ni,oZ,h1,h2,h3,j,lM,e,h]
  ·obtain⟨m,c,g,h2⟩:=fM (ns:=ns) (t:=t++[.int 0]) (many:=24) a (by simp;omega) (by omega);refine⟨.daily m,t++[.int 0]++[.int 0],⟨c,by omega⟩,trivial,by simp,?_⟩;simp only[List.append_assoc,List.cons_append,List.nil_append] at h1 h2;simp[ni,oZ,h1,h2,lM,e,h]
theorem Qm:PyData.strOk "Once" = true:=by decide +kernel
@[simp] theorem SK:(("Once":Str)==("once":Str))=false:=by decide +kernel
@[simp] theorem SL:(("Once":Str)==("daily":Str))=false:=by decide +kernel
@[simp] theorem SN:(("every":Str)==("daily":Str))=false:=by decide +kernel
@[simp] theorem SO:dc .none=true:=by simp only[dc]
@[simp] theorem SQ(i:Int):dc (.int i)=true:=by simp only[dc]
@[simp] theorem SR(b:Bool):dc (.bool b)=true:=by simp only[dc]
@[simp] theorem SS(x:Str):dc (.str x)=true:=by simp only[dc]
@[simp] theorem SU(l:List PyData):dc (.tuple l)=true:=by simp only[dc]
@[simp] theorem SV(l:List PyData):dc (.list l)=true:=by simp only[dc]
noncomputable def lO:List PyData:=[.none,.int 5,.tuple [],.tuple [.int 0],.tuple [.int 15,.tuple []],.tuple [.int (-13),.tuple []],.tuple [.int 0,.tuple [.tuple [.int 0,.int 1]]],.tuple [.int 0,.tuple [.tuple [.int 5,.int 15]]],.tuple [.int 0,.tuple [.tuple [.int 5,.int 1],.tuple [.int 5,.int 2]]],.tuple [.int 0,.list [.tuple [.int 5,.int 1]]],.list [.int 0,.tuple []],.tuple [.bool true,.tuple []],.tuple [.int 0,.tuple [.tuple [.int 5]]],.str "+0",.tuple [.int 0,.tuple [.tuple [.int 9,.int 1],.tuple [.int 5,.int 2]]]]
noncomputable def lP:List PyData:=[.none,.int 5,.tuple [],.tuple [.str "once"],.tuple [.str "once",.int (-1)],.tuple [.str "once",.int 10000],.tuple [.str "every",.int 5],.tuple [.str "every",.int 5,.int 0],.tuple [.str "every",.int 5,.int 1000],.tuple [.str "daily",.int 24],.tuple [.str "daily",.int (-1)],.list [.str "once",.int 5],.tuple [.str "Once",.int 5],.tuple [.str "daily",.bool true]]
theorem Qn:∀d∈lO,dc d=true/\gx [.dat d]=.ex "NoZone" []:=by
 intro d hd;unfold lO at hd;simp only[List.mem_cons,List.not_mem_nil,or_false] at hd;rcases hd with rfl | rfl | rfl | rfl | rfl | rfl | rfl | rfl | rfl | rfl | rfl | rfl | rfl | rfl | rfl
 all_goals refine⟨rfl,?_⟩
 all_goals simp[fg,cA,gx,sj,oX,se,lL,yf,ie,oV,rT,cQ,mV]
theorem Qo:∀d∈lP,dc d=true/\ki [.dat d]=.ex "NoPlan" []:=by
 intro d hd;unfold lP at hd;simp only[List.mem_cons,List.not_mem_nil,or_false] at hd;rcases hd with rfl | rfl | rfl | rfl | rfl | rfl | rfl | rfl | rfl | rfl | rfl | rfl | rfl | rfl
 all_goals refine⟨rfl,?_⟩
 all_goals simp[fg,cA,ki,sg,kh,mW,iN,oS,lL,uu,ie,cb,ig,jB,lN,Qm]
theorem Qp{ns:List Int}{t:List PyData}(a:ns.length<=63)(b:t.length<900):∃d∈lO,so [.scr ns,.own true (.l t)]=.rt (.dat d) [.l (t++[.int 0])]:=by obtain⟨d,hd,h⟩:=iU (ns:=ns) (t:=t) (ds:=lO) a (by omega) (by simp[lO]) (by simp[lO]);unfold lO at h;exact⟨d,hd,by simp[so,xB,h,show(15:Nat)<=sizeLine from by decide]⟩
theorem Qq{ns:List Int}{t:List PyData}(a:ns.length<=63)(b:t.length<900):∃d∈lP,sr [.scr ns,.own true (.l t)]=.rt (.dat d) [.l (t++[.int 0])]:=by obtain⟨d,hd,h⟩:=iU (ns:=ns) (t:=t) (ds:=lP) a (by omega) (by simp[lP]) (by simp[lP]);unfold lP at h;exact⟨d,hd,by simp[sr,xD,h,show(15:Nat)<=sizeLine from by decide]⟩
noncomputable abbrev jD(k:Int):PyData:=.tuple [.str "refused",.int k]
theorem Qr:oP [.exc "NoDeed"]=.rt (.dat (.tuple [.str "refused",.int 5])) []:=by kernel_rfl
inductive ik where
 | all | last | within (n:Int)
structure bU where
 plan:dY
 late:ik
 again:Bool
noncomputable abbrev pD:ik->PyData
 | .all=>.str "all"
 | .last=>.str "last"
 | .within n=>.tuple [.str "within",.int n]
noncomputable abbrev dI(d:bU):PyData:=.tuple [jC d.plan,pD d.late,.bool d.again]
@[irreducible] noncomputable def cY(a:List bU):PyData:=.tuple (a.map dI)
noncomputable def gf:Option Int->PyData
 | none=>.none
 | some i=>.int i
noncomputable def gy:Option (Nat×Nat×Int)->PyData
 | none=>.none
 | some (d,c,h)=>.tuple [.int d,.int c,.int h]
inductive Wd where
 | begun | done | left | unsure
deriving DecidableEq
noncomputable abbrev jE:Wd->Str
 | .begun=>"begun"
 | .done=>"done"
 | .left=>"left"
 | .unsure=>"unsure"
structure kv where
 mo:Int
 ru:Int
 wd:Wd
 dd:Nat
 ct:Nat
noncomputable abbrev iV(r:kv):PyData:=.tuple [.int r.mo,.int r.ru,.str (jE r.wd),.int r.dd,.int r.ct]
noncomputable abbrev cp(n:Nat):PyData:=.int n
noncomputable def eh(a:List ((Nat×Nat)×Wd)):List (PyData×PyData):=a.map fun p=>(.tuple [cp p.1.1,cp p.1.2],.str (jE p.2))
structure Hl where
 a:Int
 ss:Sh
 ds:List bU
 last:Option Int
 holder:Option Int
 til:Int
 holds:Int
 begun:Option (Nat×Nat×Int)
 rows:List kv
 words:List ((Nat×Nat)×Wd)
 settled:List Nat
@[irreducible] noncomputable def al(S:Hl):List (Str×Fl):=[("zone",.d (cS S.a S.ss)),("deeds",.d (cY S.ds)),("last",.d (gf S.last)),("holder",.d (gf S.holder)),("until",.d (.int S.til)),("holds",.d (.int S.holds)),("begun",.d (gy S.begun)),("rows",.l (S.rows.map iV)),("words",.m true (eh S.words)),("settled",.l (S.settled.map cp))]
noncomputable abbrev hB(C:Addr)(S:Hl):Bx:=.o C (al S)
@[simp] theorem SW(S:Hl):List.lookup ("zone":Str) (al S)=some (.d (cS S.a S.ss)):=by unfold al;kernel_rfl
@[simp] theorem SX(S:Hl):List.lookup ("deeds":Str) (al S)=some (.d (cY S.ds)):=by unfold al;kernel_rfl
@[simp] theorem SY(S:Hl):List.lookup ("last":Str) (al S)=some (.d (gf S.last)):=by unfold al;kernel_rfl
@[simp] theorem SZ(S:Hl):List.lookup ("holder":Str) (al S)=some (.d (gf S.holder)):=by unfold al;kernel_rfl
@[simp] theorem Ta(S:Hl):List.lookup ("until":Str) (al S)=some (.d (.int S.til)):=by unfold al;kernel_rfl
@[simp] theorem Tb(S:Hl):List.lookup ("holds":Str) (al S)=some (.d (.int S.holds)):=by unfold al;kernel_rfl
@[simp] theorem Tc(S:Hl):List.lookup ("begun":Str) (al S)=some (.d (gy S.begun)):=by unfold al;kernel_rfl
@[simp] theorem Td(S:Hl):List.lookup ("rows":Str) (al S)=some (.l (S.rows.map iV)):=by unfold al;kernel_rfl
@[simp] theorem Te(S:Hl):List.lookup ("words":Str) (al S)=some (.m true (eh S.words)):=by unfold al;kernel_rfl
@[simp] theorem Tf(S:Hl):List.lookup ("settled":Str) (al S)=some (.l (S.settled.map cp)):=by unfold al;kernel_rfl
@[simp] theorem Tg(S:Hl):List.lookup ("is_held":Str) (al S)=none:=by unfold al;kernel_rfl
@[simp] theorem Th(S:Hl):List.lookup ("check_call":Str) (al S)=none:=by unfold al;kernel_rfl
@[simp] theorem Ti(S:Hl):List.lookup ("check_holder":Str) (al S)=none:=by unfold al;kernel_rfl
@[simp] theorem Tj(S:Hl):List.lookup ("take":Str) (al S)=none:=by unfold al;kernel_rfl
@[simp] theorem Tk(S:Hl):List.lookup ("give":Str) (al S)=none:=by unfold al;kernel_rfl
@[simp] theorem Tl(S:Hl):List.lookup ("add_row":Str) (al S)=none:=by unfold al;kernel_rfl
@[simp] theorem Tn(S:Hl):List.lookup ("is_busy":Str) (al S)=none:=by unfold al;kernel_rfl
@[simp] theorem To(S:Hl):List.lookup ("first_unsettled":Str) (al S)=none:=by unfold al;kernel_rfl
@[simp] theorem Tp(S:Hl):List.lookup ("step":Str) (al S)=none:=by unfold al;kernel_rfl
@[simp] theorem Tq(S:Hl):List.lookup ("step_behind_a_fall":Str) (al S)=none:=by unfold al;kernel_rfl
@[simp] theorem Tr(S:Hl):List.lookup ("step_ahead":Str) (al S)=none:=by unfold al;kernel_rfl
@[simp] theorem Ts(S:Hl):List.lookup ("finish":Str) (al S)=none:=by unfold al;kernel_rfl
@[simp] theorem Tt(S:Hl):List.lookup ("state":Str) (al S)=none:=by unfold al;kernel_rfl
@[simp] theorem Tu(S:Hl):List.lookup ("held":Str) (al S)=none:=by unfold al;kernel_rfl
@[simp] theorem Tv(S:Hl):List.lookup ("log":Str) (al S)=none:=by unfold al;kernel_rfl
@[simp] theorem Tw(S:Hl):List.lookup ("waiting":Str) (al S)=none:=by unfold al;kernel_rfl
@[simp] theorem Tz(S:Hl):List.lookup ("saved":Str) (al S)=none:=by unfold al;kernel_rfl
@[simp] theorem TB(S:Hl):(al S).length=10:=by unfold al;kernel_rfl
theorem Dy(S:Hl)(x:Option Int):bJ ("last":Str) (.d (gf x)) (al S)=al { S with last:=x }:=by unfold al;kernel_rfl
theorem Dz(S:Hl)(x:Option Int):bJ ("holder":Str) (.d (gf x)) (al S)=al { S with holder:=x }:=by unfold al;kernel_rfl
theorem Qs(S:Hl)(x:Int):bJ ("until":Str) (.d (.int x)) (al S)=al { S with til:=x }:=by unfold al;kernel_rfl
theorem Qt(S:Hl)(x:Int):bJ ("holds":Str) (.d (.int x)) (al S)=al { S with holds:=x }:=by unfold al;kernel_rfl
theorem DC(S:Hl)(x:Option (Nat×Nat×Int)):bJ ("begun":Str) (.d (gy x)) (al S)=al { S with begun:=x }:=by unfold al;kernel_rfl
theorem Qu(S:Hl)(x:List kv):bJ ("rows":Str) (.l (x.map iV)) (al S)=al { S with rows:=x }:=by unfold al;kernel_rfl
theorem uz(S:Hl)(x:List ((Nat×Nat)×Wd)):bJ ("words":Str) (.m true (eh x)) (al S)=al { S with words:=x }:=by unfold al;kernel_rfl
theorem yn(S:Hl)(x:List Nat):bJ ("settled":Str) (.l (x.map cp)) (al S)=al { S with settled:=x }:=by unfold al;kernel_rfl
@[simp] theorem TC(S:Hl):bJ ("last":Str) (.d .none) (al S)=al { S with last:=none }:=Dy S none
@[simp] theorem TD(S:Hl)(i:Int):bJ ("last":Str) (.d (.int i)) (al S)=al { S with last:=some i }:=Dy S (some i)
@[simp] theorem TF(S:Hl):bJ ("holder":Str) (.d .none) (al S)=al { S with holder:=none }:=Dz S none
@[simp] theorem TH(S:Hl)(i:Int):bJ ("holder":Str) (.d (.int i)) (al S)=al { S with holder:=some i }:=Dz S (some i)
@[simp] theorem TJ(S:Hl)(i:Int):bJ ("until":Str) (.d (.int i)) (al S)=al { S with til:=i }:=Qs S i
@[simp] theorem TK(S:Hl)(i:Int):bJ ("holds":Str) (.d (.int i)) (al S)=al { S with holds:=i }:=Qt S i
@[simp] theorem TL(S:Hl):bJ ("begun":Str) (.d .none) (al S)=al { S with begun:=none }:=DC S none
@[simp] theorem TM(S:Hl)(d c:Nat)(h:Int):bJ ("begun":Str) (.d (.tuple [.int d,.int c,.int h])) (al S)=al { S with begun:=some (d,c,h) }:=DC S (some (d,c,h))
section
variable{C:Addr}{io:Bool}{S:Hl}{U:ak}
@[simp] theorem TN{fs:List (Str×Fl)}:bT C (some (.own io (.o C fs))::U) 0=some (io,fs):=by simp[bT]
@[simp] theorem TQ{x y:Option ai}{fs:List (Str×Fl)}:bT C (x::y::some (.own io (.o C fs))::U) 2=some (io,fs):=by simp[bT]
@[simp] theorem TR{f:Str}{d:PyData}{fs:List (Str×Fl)}(h:fs.lookup f=some (.d d)):cu C 0 f (some (.own io (.o C fs))::U)=.ok d (some (.own io (.o C fs))::U):=by simp[cu,h]
@[simp] theorem TU:isNone .none=true:=by simp only[isNone]
@[simp] theorem TV(i:Int):isNone (.int i)=false:=by simp only[isNone]
@[simp] theorem TW(b:Bool):isNone (.bool b)=false:=by simp only[isNone]
@[simp] theorem TX(x:Str):isNone (.str x)=false:=by simp only[isNone]
@[simp] theorem TY(l:List PyData):isNone (.tuple l)=false:=by simp only[isNone]
@[simp] theorem TZ(l:List PyData):isNone (.list l)=false:=by simp only[isNone]
@[simp] theorem Ua(x:Option Int):isNone (gf x)=x.isNone:=by cases x<;>simp[gf]
@[simp] theorem Ub(x:Option (Nat×Nat×Int)):isNone (gy x)=x.isNone:=by rcases x with _ | ⟨_,_,_⟩<;>simp[gy]
end
theorem Qv{d:PyData}(h:dc d=true):rH [.dat d]=.rt (.dat (.bool (cA d 0 3))) []:=by simp[aP,rH,xf,ie h]
theorem Qw{d:PyData}(h:dc d=true):rJ [.dat d]=.rt (.dat (.bool (cA d 1 99))) []:=by simp[aP,rJ,xg,ie h]
theorem DH{d:PyData}(h:dc d=true):rW [.dat d]=if cA d 0 3=true then .rt (.dat .none) [] else .ex "NoRunner" []:=by simp only[rW,xq];cases a:cA d 0 3<;>simp[aP,Qv h,a]
theorem yo{d:PyData}(h:dc d=true):rX [.dat d]=if cA d 1 99=true then .rt (.dat .none) [] else .ex "NoTerm" []:=by simp only[rX,xr];cases a:cA d 1 99<;>simp[aP,Qw h,a]
noncomputable def gQ(S:Hl)(m:Int):Bool:=S.holder.isSome&&decide (m<S.til)
noncomputable def uA(S:Hl)(m:Int):Bool:=match S.last with
 | some l=>decide (m<l)
 | none=>false
section
variable{C:Addr}{S:Hl}{r m:Int}{d:PyData}
theorem nu:oQ C [.own true (hB C S),.dat (.int m)]=.rt (.dat (.bool (gQ S m))) [hB C S]:=by unfold gQ;cases h:S.holder<;>simp[oQ,wZ,h,gf]
theorem Qx{r:PyData}(b:dc r=true)(c:cA r 0 3=true)(e:cA (.int m) 0 9999=true)(a:uA S m=false):iO C [.own true (hB C S),.dat r,.dat (.int m)]=.rt (.dat .none) [hB C S]:=by
 unfold uA at a;cases h:S.last with
 | none=>simp[iO,sh,DH b,c,Dm (d:=.int m) rfl,e,h,gf]
 | some l=>rw[h] at a;simp at a;simp[iO,sh,DH b,c,Dm (d:=.int m) rfl,e,h,gf,show ¬ m<l by omega]
theorem uB(x:Option Int)(r:Int):aP true (gf x) (.int r)=some (.bool (!decide (x=some r))):=by
 cases x with
 | none=>simp[gf,aP,nt,show SeqAt.shaped .none=true from rfl,PyData.eqv]
 | some i=>simp[gf,PZ]
theorem Qy(h:iO C [.own true (hB C S),.dat (.int r),.dat (.int m)]=.rt (.dat .none) [hB C S])(a:(gQ S m&&decide (S.holder=some r))=false):eK C [.own true (hB C S),.dat (.int r),.dat (.int m)]=.ex "NotHolder" [hB C S]:=by
 cases b:gQ S m with
 | false=>simp[eK,pb,bM,cz,h,nu,b]
 | true=>rw[b] at a;simp at a;simp[eK,pb,bM,cz,h,nu,b,uB,a]
theorem Qz(h:iO C [.own true (hB C S),.dat (.int r),.dat (.int m)]=.rt (.dat .none) [hB C S])(a:gQ S m=true)(b:S.holder=some r):eK C [.own true (hB C S),.dat (.int r),.dat (.int m)]=.rt (.dat .none) [hB C S]:=by simp[eK,pb,bM,cz,h,nu,a,uB,b]
noncomputable def uC(S:Hl)(r m t:Int):Hl×Bool:=if gQ S m=false then({ S with last:=some m,holds:=S.holds+1,holder:=some r,til:=m+t },true) else if S.holder=some r then({ S with last:=some m,holder:=some r,til:=m+t },true) else({ S with last:=some m },false)
theorem QA{t:Int}(h:iO C [.own true (hB C S),.dat (.int r),.dat (.int m)]=.rt (.dat .none) [hB C S])(b:cA (.int t) 1 99=true):lD C [.own true (hB C S),.dat (.int r),.dat (.int m),.dat (.int t)]=.rt (.dat (.bool (uC S r m t).2)) [hB C (uC S r m t).1]:=by
 unfold uC;have f:gQ { S with last:=some m } m=gQ S m:=rfl;cases a:gQ S m with
 | false=>simp[lD,pc,bM,cz,h,yo (d:=.int t) rfl,b,cI,fq,fo,nu,f,a,rb]
 | true=>
  by_cases c:S.holder=some r
  ·have e:m<S.til:=by unfold gQ at a;simp[c] at a;exact a
   simp[lD,pc,bM,cz,h,yo (d:=.int t) rfl,b,cI,fq,fo,nu,gQ,e,uB,c]
  ·simp[lD,pc,bM,cz,h,yo (d:=.int t) rfl,b,cI,fq,fo,nu,f,a,uB,c]
theorem QB{c:Str}{m:PyData}(h:eK C [.own true (hB C S),.dat d,.dat m]=.ex c [hB C S]):iR C [.own true (hB C S),.dat d,.dat m]=.ex c [hB C S]:=by simp[iR,nn,bM,cz,h]
theorem QD{c:Str}{m:PyData}(h:eK C [.own true (hB C S),.dat d,.dat m]=.ex c [hB C S]):iP C [.own true (hB C S),.dat d,.dat m]=.ex c [hB C S]:=by simp[iP,pk,bM,cz,h]
theorem uD:jy C [.own true (hB C S)]=.rt (.dat (.list (S.rows.map iV))) [hB C S]:=by simp[jy,xa,rc]
end
@[irreducible] noncomputable def kw(z d:PyData):List (Str×Fl):=[]
@[irreducible] noncomputable def ky(z d:PyData):List (Str×Fl):=[("zone",.d z)]
@[irreducible] noncomputable def kz(z d:PyData):List (Str×Fl):=[("zone",.d z),("deeds",.d d)]
@[irreducible] noncomputable def kA(z d:PyData):List (Str×Fl):=[("zone",.d z),("deeds",.d d),("last",.d .none)]
@[irreducible] noncomputable def kB(z d:PyData):List (Str×Fl):=[("zone",.d z),("deeds",.d d),("last",.d .none),("holder",.d .none)]
@[irreducible] noncomputable def kC(z d:PyData):List (Str×Fl):=[("zone",.d z),("deeds",.d d),("last",.d .none),("holder",.d .none),("until",.d (.int 0))]
@[irreducible] noncomputable def kD(z d:PyData):List (Str×Fl):=[("zone",.d z),("deeds",.d d),("last",.d .none),("holder",.d .none),("until",.d (.int 0)),("holds",.d (.int 0))]
@[irreducible] noncomputable def kE(z d:PyData):List (Str×Fl):=[("zone",.d z),("deeds",.d d),("last",.d .none),("holder",.d .none),("until",.d (.int 0)),("holds",.d (.int 0)),("begun",.d .none)]
@[irreducible] noncomputable def kF(z d:PyData):List (Str×Fl):=[("zone",.d z),("deeds",.d d),("last",.d .none),("holder",.d .none),("until",.d (.int 0)),("holds",.d (.int 0)),("begun",.d .none),("rows",.l [])]
@[irreducible] noncomputable def kG(z d:PyData):List (Str×Fl):=[("zone",.d z),("deeds",.d d),("last",.d .none),("holder",.d .none),("until",.d (.int 0)),("holds",.d (.int 0)),("begun",.d .none),("rows",.l []),("words",.m true [])]
@[simp] theorem Uc(z d:PyData):List.lookup ("zone":Str) (kw z d)=none:=by unfold kw;kernel_rfl
@[simp] theorem Ud(z d:PyData):(kw z d).length=0:=by unfold kw;kernel_rfl
@[simp] theorem Ue(z d:PyData):bJ ("zone":Str) (.d z) (kw z d)=ky z d:=by unfold kw ky;kernel_rfl
@[simp] theorem Uf(z d:PyData):List.lookup ("deeds":Str) (ky z d)=none:=by unfold ky;kernel_rfl
@[simp] theorem Ug(z d:PyData):(ky z d).length=1:=by unfold ky;kernel_rfl
@[simp] theorem Uh(z d:PyData):bJ ("deeds":Str) (.d d) (ky z d)=kz z d:=by unfold ky kz;kernel_rfl
@[simp] theorem Ui(z d:PyData):List.lookup ("last":Str) (kz z d)=none:=by unfold kz;kernel_rfl
@[simp] theorem Uj(z d:PyData):(kz z d).length=2:=by unfold kz;kernel_rfl
@[simp] theorem gR(z d:PyData):bJ ("last":Str) (.d .none) (kz z d)=kA z d:=by unfold kz kA;kernel_rfl
@[simp] theorem Uk(z d:PyData):List.lookup ("holder":Str) (kA z d)=none:=by unfold kA;kernel_rfl
@[simp] theorem Ul(z d:PyData):(kA z d).length=3:=by unfold kA;kernel_rfl
@[simp] theorem Um(z d:PyData):bJ ("holder":Str) (.d .none) (kA z d)=kB z d:=by unfold kA kB;kernel_rfl
@[simp] theorem Uo(z d:PyData):List.lookup ("until":Str) (kB z d)=none:=by unfold kB;kernel_rfl
@[simp] theorem Up(z d:PyData):(kB z d).length=4:=by unfold kB;kernel_rfl
@[simp] theorem Uq(z d:PyData):bJ ("until":Str) (.d (.int 0)) (kB z d)=kC z d:=by unfold kB kC;kernel_rfl
@[simp] theorem Ur(z d:PyData):List.lookup ("holds":Str) (kC z d)=none:=by unfold kC;kernel_rfl
@[simp] theorem Us(z d:PyData):(kC z d).length=5:=by unfold kC;kernel_rfl
@[simp] theorem Ut(z d:PyData):bJ ("holds":Str) (.d (.int 0)) (kC z d)=kD z d:=by unfold kC kD;kernel_rfl
@[simp] theorem Uu(z d:PyData):List.lookup ("begun":Str) (kD z d)=none:=by unfold kD;kernel_rfl
@[simp] theorem Uv(z d:PyData):(kD z d).length=6:=by unfold kD;kernel_rfl
@[simp] theorem Uw(z d:PyData):bJ ("begun":Str) (.d .none) (kD z d)=kE z d:=by unfold kD kE;kernel_rfl
@[simp] theorem Ux(z d:PyData):List.lookup ("rows":Str) (kE z d)=none:=by unfold kE;kernel_rfl
@[simp] theorem Uy(z d:PyData):(kE z d).length=7:=by unfold kE;kernel_rfl
@[simp] theorem Uz(z d:PyData):bJ ("rows":Str) (.l []) (kE z d)=kF z d:=by unfold kE kF;kernel_rfl
@[simp] theorem UA(z d:PyData):List.lookup ("words":Str) (kF z d)=none:=by unfold kF;kernel_rfl
@[simp] theorem UB(z d:PyData):(kF z d).length=8:=by unfold kF;kernel_rfl
@[simp] theorem UC(z d:PyData):bJ ("words":Str) (.m true []) (kF z d)=kG z d:=by unfold kF kG;kernel_rfl
@[simp] theorem UD(z d:PyData):List.lookup ("settled":Str) (kG z d)=none:=by unfold kG;kernel_rfl
@[simp] theorem UE(z d:PyData):(kG z d).length=9:=by unfold kG;kernel_rfl
noncomputable def eX(a:Int)(c:Sh)(b:List bU):Hl:=⟨a,c,b,none,none,0,0,none,[],[],List.replicate b.length 0⟩
theorem QE(a:Int)(c:Sh)(b:List bU):bJ ("settled":Str) (.l ((List.replicate b.length (0:Nat)).map cp)) (kG (cS a c) (cY b))=al (eX a c b):=by unfold kG al eX;kernel_rfl
theorem DJ{C:Addr}:∀(l a:List PyData) (U:ak),(∃x,U=[x])->a.length+l.length<=sizeLine->cj (aI 0) dX (sx C) l a U=some (a++(List.replicate l.length (0:Nat)).map cp)
 | [],a,U,_,_=>by simp[cj]
 | d::l,a,U,⟨x,b⟩,c=>by
  subst b;simp only[List.length_cons] at c;have e:=DJ (C:=C) l (a++[.int 0]) [some (.dat d)] ⟨_,rfl⟩ (by simp;omega);have f:sx C [some (.dat d)]=.ok (.int 0) [some (.dat d)]:=by simp[sx]
  rw[cj];simp[dX,f,show a.length<sizeLine by omega,e,List.replicate_succ]
theorem yp{C:Addr}{a:Int}{c:Sh}{b:List bU}(e:gx [.dat (cS a c)]=.rt (.dat .none) [])(hd:lE [.dat (cY b)]=.rt (.dat .none) [])(i:b.length<=6):nk C [.own true (.o C []),.dat (cS a c),.dat (cY b)]=.rt (.dat .none) [hB C (eX a c b)]:=by
 have sz:1000<sizeLine:=by decide
 have f:([]:List (Str×Fl))=kw (cS a c) (cY b):=by unfold kw;rfl
 have g:=DJ (C:=C) (b.map dI) [] [none] ⟨_,rfl⟩ (by simp;omega);rw[List.nil_append,List.length_map] at g;have h:cY b=.tuple (b.map dI):=by unfold cY;rfl
 have d:=QE a c b;rw[f];simp[nk,xH,e,hd,cI,fq,fo,lv,wL,rh];rw[h] at *;simp[g,show b.length<=sizeLine by omega] at d ⊢;exact d
def lQ(p:dY):Prop:=ic p
theorem yq{a:Int}{ss:Sh}{p:dY}{c:Nat}(b:ss.length<=6)(ok:lQ p):gP [.dat (cS a ss),.dat (jC p),.dat (.int c)]=.rt (.dat (fx (eV a ss p c))) []:=Qj b ok
theorem kH:PyData.strOk "all" = true:=by decide +kernel
theorem iW:PyData.strOk "last" = true:=by decide +kernel
theorem yr:PyData.strOk "within" = true:=by decide +kernel
theorem pE:PyData.strOk "begun" = true:=by decide +kernel
theorem QF:PyData.strOk "done" = true:=by decide +kernel
theorem QG:PyData.strOk "left" = true:=by decide +kernel
theorem QH:PyData.strOk "unsure" = true:=by decide +kernel
theorem DK:(("all":Str)==("all":Str))=true:=by decide +kernel
theorem yt:(("last":Str)==("all":Str))=false:=by decide +kernel
theorem yu:(("last":Str)==("last":Str))=true:=by decide +kernel
theorem QI:(("begun":Str)==("begun":Str))=true:=by decide +kernel
theorem QJ:(("done":Str)==("begun":Str))=false:=by decide +kernel
theorem QK:(("left":Str)==("begun":Str))=false:=by decide +kernel
theorem QL:(("unsure":Str)==("begun":Str))=false:=by decide +kernel
theorem DL{l:List PyData}{x:Str}(h:SeqAt.shaped (.tuple l)=true)(a:PyData.strOk x=true):aP false (.tuple l) (.str x)=some (.bool false):=by simp[aP,h,yl a,PyData.eqv]
theorem DM(n:Int):SeqAt.shaped (.tuple [.str "within",.int n])=true:=by unfold SeqAt.shaped;simp[PyData.canLay0,PyData.canLayAll0,PyData.depth,PyData.depthAll,yr]
noncomputable def nv(a:Int)(e:Sh)(d:bU)(c:Nat)(b:Int):Bool:=match d.late with
 | .all=>false
 | .last=>(match eV a e d.plan (c+1) with | some v=>decide (v<=b) | none=>false)
 | .within n=>decide (b - CG a e d.plan c>n)
theorem QM{a now:Int}{ss:Sh}{d:bU}{c:Nat}(f:ss.length<=6)(ok:lQ d.plan)(g:∃v,eV a ss d.plan c=some v):lC [.dat (cS a ss),.dat (dI d),.dat (.int c),.dat (.int now)]=.rt (.dat (.bool (nv a ss d c now))) []:=by
 obtain⟨p,la,h⟩:=d;obtain⟨v,e⟩:=g;simp only at ok e;unfold nv;cases la with
 | all=>simp[lC,nh,cb kH kH,DK]
 | last=>
  have rt:=yq (a:=a) (ss:=ss) (p:=p) (c:=c+1) f ok;simp at rt;cases b:eV a ss p (c+1) with
  | none=>rw[b] at rt;simp[lC,nh,cb iW kH,cb iW iW,yt,yu,rt,fx,b]
  | some w=>rw[b] at rt;simp[lC,nh,cb iW kH,cb iW iW,yt,yu,rt,fx,b]
 | within n=>have rt:=yq (a:=a) (ss:=ss) (p:=p) (c:=c) f ok;rw[e] at rt;simp[lC,nh,DL (DM n) kH,DL (DM n) iW,rt,fx,CG,e]
noncomputable def gi:List ((Nat×Nat)×Wd)->(Nat×Nat)->Wd->List ((Nat×Nat)×Wd)
 | [],k,w=>[(k,w)]
 | (a,v)::r,k,w=>if a = k then(a,w)::r else(a,v)::gi r k w
theorem pF(d c:Nat):ib true (.tuple [cp d,cp c])=some [Sum.inl (d:Int),Sum.inl (c:Int)]:=rfl
theorem pG{d c a b:Nat}:(ib true (.tuple [cp a,cp b])=some [Sum.inl (d:Int),Sum.inl (c:Int)])↔(a,b)=(d,c):=by
 rw[pF];constructor
 ·intro h;simp only[Option.some.injEq,List.cons.injEq,Sum.inl.injEq,and_true] at h;have h1:=h.1;have h2:=h.2;have e:a = d:=by omega
  have f:b = c:=by omega
  rw[e,f]
 ·intro h;cases h;rfl
theorem DP(d c:Nat):∀e:List ((Nat×Nat)×Wd),gH true (eh e) [Sum.inl (d:Int),Sum.inl (c:Int)]=(e.lookup (d,c)).map fun w=>.str (jE w)
 | []=>rfl
 | ((a,b),w)::r=>by
  unfold eh;rw[List.map_cons,gH];have f:=DP d c r;unfold eh at f
  by_cases h:(a,b)=(d,c)
  ·rw[if_pos (pG.mpr h)];cases h;simp[List.lookup]
  ·rw[if_neg (fun z=>h (pG.mp z)),f];have:((d,c)==(a,b))=false:=by simpa using fun z:(d=a/\c=b)=>h (by rw[z.1,z.2])
   rw[List.lookup_cons,this]
theorem DQ(d c:Nat)(w:Wd):∀a:List ((Nat×Nat)×Wd),(a.map (·.1)).Nodup->(a.lookup (d,c)).isSome=true->kZ true [Sum.inl (d:Int),Sum.inl (c:Int)] (.str (jE w)) (eh a)=eh (gi a (d,c) w)
 | [],_,h=>by cases h
 | ((b,f),v)::r,nd,h=>by
  unfold eh;rw[List.map_cons,kZ];have tail:∀a:List ((Nat×Nat)×Wd),(d,c)∉a.map (·.1)->kZ true [Sum.inl (d:Int),Sum.inl (c:Int)] (.str (jE w)) (eh a)=eh a:=by
   intro a
   induction a with
   | nil=>intro _;rfl
   | cons p r i=>intro g;obtain⟨⟨k,l⟩,m⟩:=p;simp only[List.map_cons,List.mem_cons,not_or] at g;unfold eh;rw[List.map_cons,kZ,if_neg (fun z=>g.1 (pG.mp z).symm)];have:=i g.2;unfold eh at this;rw[this]
  by_cases e:(b,f)=(d,c)
  ·cases e;rw[if_pos (pG.mpr rfl),gi,if_pos rfl,List.map_cons];have:=tail r (by simpa using(List.nodup_cons.mp nd).1);unfold eh at this;rw[this]
  ·have j:(r.lookup (d,c)).isSome=true:=by
    have:((d,c)==(b,f))=false:=by simpa using fun z:(d=b/\c=f)=>e (by rw[z.1,z.2])
    rw[List.lookup_cons,this] at h;exact h
   rw[if_neg (fun z=>e (pG.mp z)),gi,if_neg e,List.map_cons];have:=DQ d c w r (List.nodup_cons.mp nd).2 j;unfold eh at this;rw[this]
theorem DR(k:Nat×Nat)(w:Wd):∀a:List ((Nat×Nat)×Wd),a.lookup k=none->gi a k w=a++[(k,w)]
 | [],_=>rfl
 | (b,v)::r,h=>by
  rw[List.lookup_cons] at h
  by_cases e:k=b
  ·subst e;simp at h
  ·have:(k==b)=false:=by simpa using e
   rw[this] at h;rw[gi,if_neg (fun z=>e z.symm),DR k w r h];rfl
theorem QN{ws:List ((Nat×Nat)×Wd)}{d c:Nat}{w:Wd}(a:(ws.map (·.1)).Nodup):jY true (eh ws) (.tuple [cp d,cp c]) [Sum.inl (d:Int),Sum.inl (c:Int)] (.str (jE w))=eh (gi ws (d,c) w):=by
 unfold jY;rw[DP];cases h:ws.lookup (d,c) with
 | none=>rw[DR _ _ _ h];simp[eh]
 | some v=>simp only[Option.map_some,Option.isSome_some,if_true];exact DQ d c w ws a (by rw[h];rfl)
theorem yv(k:Nat×Nat)(w:Wd):∀a:List ((Nat×Nat)×Wd),(gi a k w).map (·.1)=if k∈a.map (·.1) then a.map (·.1) else a.map (·.1)++[k]
 | []=>by simp[gi]
 | (b,v)::r=>by
  rw[gi]
  by_cases e:b = k
  ·subst e;simp
  ·rw[if_neg e,List.map_cons,yv k w r]
   by_cases h:k∈r.map (·.1)
   ·rw[if_pos h];rw[if_pos (by simp[h])];rfl
   ·rw[if_neg h,if_neg (by
     simp only[List.map_cons,List.mem_cons,not_or];exact⟨fun z=>e z.symm,h⟩)];rfl
theorem QO{k:Nat×Nat}{w:Wd}{c:List ((Nat×Nat)×Wd)}(e:(c.map (·.1)).Nodup):((gi c k w).map (·.1)).Nodup:=by
 rw[yv];split
 ·exact e
 ·rename_i h;exact List.nodup_append.mpr ⟨e,by simp,fun a f b d z=>by simp at d;subst d;subst z;exact h f⟩
theorem QP(k:Nat×Nat)(w:Wd)(a:List ((Nat×Nat)×Wd)):(gi a k w).length<=a.length+1:=by have:=congrArg List.length (yv k w a);rw[List.length_map] at this;rw[this];split<;>simp
noncomputable def gS(S:Hl)(r:kv):Hl:={ S with rows:=S.rows++[r],words:=gi S.words (r.dd,r.ct) r.wd,begun:=if r.wd=.begun then some (r.dd,r.ct,S.holds) else none,settled:=if r.wd=.begun then S.settled else S.settled.set r.dd (r.ct+1) }
theorem il{x y z v:PyData}{l:List PyData}:bI (x::y::z::v::l) 3=some v:=by unfold bI dA;rw[if_pos (by omega),if_pos (by simp<;>omega)];rfl
theorem jF{x y z v u:PyData}{l:List PyData}:bI (x::y::z::v::u::l) 4=some u:=by unfold bI dA;rw[if_pos (by omega),if_pos (by simp<;>omega)];rfl
theorem QQ(S:Hl)(r:kv):bJ ("rows":Str) (.l (S.rows.map iV++[iV r])) (al S)=al { S with rows:=S.rows++[r] }:=by rw[show S.rows.map iV++[iV r]=(S.rows++[r]).map iV by simp];exact Qu S _
theorem pH{C:Addr}{S:Hl}{r:kv}(i:S.rows.length<1000000)(j:S.words.length<1000000)(h:(S.words.map (·.1)).Nodup)(hd:r.dd<S.settled.length):gd C [.own true (hB C S),.dat (iV r)]=.rt (.dat (.tuple [.str (jE r.wd),cp r.dd,cp r.ct])) [hB C (gS S r)]:=by
 have sz:1000000<sizeLine:=by decide
 obtain⟨mo,ru,wd,a,g⟩:=r;have b:=QN (ws:=S.words) (d:=a) (c:=g) (w:=wd) h;have l1:(eh S.words).length<sizeLine:=by unfold eh;rw[List.length_map];omega
 have e:=QQ S ⟨mo,ru,wd,a,g⟩;simp only at hd;have f:dA S.settled.length (a:Int)=some a:=by unfold dA;rw[if_pos (by omega),if_pos (by omega)];simp
 have st:(S.settled.map cp).set a (.int ((g:Int)+1))=(S.settled.set a (g+1)).map cp:=by rw[List.map_set];simp[cp]
 unfold gS;cases wd
 ·simp[gd,mS,il,jF,lr,eI,mH,show S.rows.length<sizeLine by omega,e,mI,ls,pF,l1,b,uz,cI,fq,fo,show(3:Nat)<=sizeLine by omega,mJ,lu,f,st,cb pE pE,QI]
 ·simp[gd,mS,il,jF,lr,eI,mH,show S.rows.length<sizeLine by omega,e,mI,ls,pF,l1,b,uz,cI,fq,fo,show(3:Nat)<=sizeLine by omega,mJ,lu,f,st,cb QF pE,QJ];rw[<-List.map_set];exact yn _ _
 ·simp[gd,mS,il,jF,lr,eI,mH,show S.rows.length<sizeLine by omega,e,mI,ls,pF,l1,b,uz,cI,fq,fo,show(3:Nat)<=sizeLine by omega,mJ,lu,f,st,cb QG pE,QK];rw[<-List.map_set];exact yn _ _
 ·simp[gd,mS,il,jF,lr,eI,mH,show S.rows.length<sizeLine by omega,e,mI,ls,pF,l1,b,uz,cI,fq,fo,show(3:Nat)<=sizeLine by omega,mJ,lu,f,st,cb QH pE,QL];rw[<-List.map_set];exact yn _ _
structure bG (S:Hl):Prop where
 z:lA S.a S.ss
 dl:S.ds.length<=6
 pl:∀d∈S.ds,lQ d.plan
 sl:S.settled.length=S.ds.length
 nd:(S.words.map (·.1)).Nodup
 bg:∀d c h,S.begun=some (d,c,h)->d<S.ds.length
noncomputable def lR(S:Hl):Bool:=match S.begun with
 | some (_,_,h)=>decide (h=S.holds)
 | none=>false
theorem QR{n N:Nat}{m:SM}{a:List ai}{c:ai}{U:ak}{o:List Bx}(b:a.length=n)(d:m (a.map some++List.replicate (N - n) none)=.rt c U)(e:cE a U=some o):bc n N m a=.rt c o:=by unfold bc;rw[if_pos b,d];simp only[e]
theorem QS{j:Int}(a:-4611686018427387904<=j)(b:j<4611686018427387904):bZ [.int j]=some (L3.intsFrom 0 j.toNat):=by show(if _ then _ else _)=_;rw[if_pos (by rw[decide_eq_true (show -(2 ^ 62)<=j by omega),decide_eq_true (show j<2 ^ 62 by omega)];rfl)]
section
variable{C:Addr}{S:Hl}
theorem yw:mT C [.own true (hB C S)]=.rt (.dat (.bool (lR S))) [hB C S]:=by
 unfold lR;cases h:S.begun with
 | none=>simp[mT,rG,h,gy]
 | some p=>obtain⟨d,c,k⟩:=p;simp[mT,rG,h,gy,lM]
theorem DU{a:List bU}{k:Nat}(h:k<a.length):aY (cY a) (.int k)=some (dI a[k]):=by
 unfold cY;have:bI (a.map dI) (k:Int)=some (dI a[k]):=by unfold bI dA;rw[if_pos (by omega),if_pos (by simp;omega)];simp[h]
 simp[aY,this]
theorem QT{l:List Nat}{k:Nat}(h:k<l.length):bI (l.map cp) (k:Int)=some (cp l[k]):=by unfold bI dA;rw[if_pos (by omega),if_pos (by simp;omega)];simp[h]
noncomputable def cU(S:Hl)(k:Nat):Nat:=S.settled.getD k 0
noncomputable def pI(S:Hl)(k:Nat):Option (List Int):=match S.ds[k]? with
 | some d=>(eV S.a S.ss d.plan (cU S k)).map fun v=>[v,(k:Int),(cU S k:Int)]
 | none=>none
noncomputable def fy(S:Hl):List (List Int):=(List.range S.ds.length).filterMap (pI S)
noncomputable abbrev cN(r:List Int):PyData:=.tuple (r.map PyData.int)
theorem yx(ok:bG S):∀(n k:Nat) (b:List (List Int)) (m f g:Option ai),k+n=S.ds.length->b.length<=k->∃h i j,cQ (aI 2) (kj C) (L3.intsFrom (k:Int) n) [some (.own true (hB C S)),some (.own false (.l (b.map cN))),m,f,g]=.nx [some (.own true (hB C S)),some (.own false (.l ((b++(List.range' k n).filterMap (pI S)).map cN))),h,i,j]
 | 0,k,b,m,f,g,_,_=>⟨m,f,g,by simp[L3.intsFrom,cQ]⟩
 | n+1,k,b,m,f,g,w,x=>by
  have sz:1000<sizeLine:=by decide
  have d:k<S.ds.length:=by omega
  have q:k<S.settled.length:=by rw[ok.sl];exact d
  have dl:=ok.dl;have s:lQ (S.ds[k]).plan:=ok.pl _ (List.getElem_mem d);have t:cU S k=S.settled[k]:=by unfold cU;rw[List.getD_eq_getElem?_getD,List.getElem?_eq_getElem q];rfl
  have rt:=yq (a:=S.a) (ss:=S.ss) (p:=(S.ds[k]).plan) (c:=S.settled[k]) ok.z.len s;have as:=QT (l:=S.settled) q;have u:pI S k=(eV S.a S.ss (S.ds[k]).plan S.settled[k]).map fun v=>[v,(k:Int),((S.settled[k]:Nat):Int)]:=by unfold pI;rw[List.getElem?_eq_getElem d,<-t]
  rw[uy,cQ,List.range'_succ,List.filterMap_cons,u];cases r:eV S.a S.ss (S.ds[k]).plan S.settled[k] with
  | none=>
   rw[r] at rt;have e:kj C [some (.own true (hB C S)),some (.own false (.l (b.map cN))),some (.dat (.int k)),f,g]=.nx [some (.own true (hB C S)),some (.own false (.l (b.map cN))),some (.dat (.int k)),some (.dat (cp S.settled[k])),some (.dat .none)]:=by simp[-aY,kj,oD,eI,as,DU d];simp[rt,fx]
   obtain⟨h,i,j,o⟩:=yx ok n (k+1) b (some (.dat (.int k))) (some (.dat (cp S.settled[k]))) (some (.dat .none)) (by omega) (by omega);refine⟨h,i,j,?_⟩;simp only[Option.map_none];rw[<-o];simp[e]
  | some v=>
   rw[r] at rt;have e:kj C [some (.own true (hB C S)),some (.own false (.l (b.map cN))),some (.dat (.int k)),f,g]=.nx [some (.own true (hB C S)),some (.own false (.l ((b++[[v,(k:Int),((S.settled[k]:Nat):Int)]]).map cN))),some (.dat (.int k)),some (.dat (cp S.settled[k])),some (.dat (.int v))]:=by simp[-aY,kj,oD,eI,as,DU d];simp[rt,fx,show b.length<sizeLine by omega,show(3:Nat)<=sizeLine by omega]
   obtain⟨h,i,j,o⟩:=yx ok n (k+1) (b++[[v,(k:Int),((S.settled[k]:Nat):Int)]]) (some (.dat (.int k))) (some (.dat (cp S.settled[k]))) (some (.dat (.int v))) (by omega) (by simp;omega);refine⟨h,i,j,?_⟩;simp only[Option.map_some];rw[List.append_assoc,List.singleton_append] at o;rw[<-o];simp[e]
theorem DY:∀a:List Int,lx (a.map PyData.int)=some a
 | []=>rfl
 | n::a=>by rw[List.map_cons,lx,DY a];rfl
theorem DZ:∀a:List (List Int),kc (a.map cN)=some a
 | []=>rfl
 | r::a=>by rw[List.map_cons,kc,DY,DZ a]
noncomputable def ny:List (List Int)->PyData
 | []=>.none
 | r::a=>cN (fK a r)
theorem QU:(dG fj (af (cu C 0 "deeds") aA)) [some (.own true (hB C S)),some (.own false (.l [])),none,none,none]=.ok (.int S.ds.length) [some (.own true (hB C S)),some (.own false (.l [])),none,none,none]:=by simp[cY]
theorem QV{U:ak}{a:List (List Int)}(h:U[1]? = some (some (.own false (.l (a.map cN))))):ke 1 U=.ok (ny a) U:=by unfold ke jv;rw[h];simp only[DZ];cases a<;>rfl
theorem QW{n:Int}(h:0<=n)(i:n<=1000){m:XM PyData}{g:GM}{b:SM}{U a:ak}(c:m U=.ok (.int n) U)(d:cQ g b (L3.intsFrom 0 n.toNat) U=.nx a):gF (ia bZ (af m aA)) g b U=.nx a:=by
 have e:(af m aA) U=.ok [.int n] U:=by show fX.bind (m U) _=_;rw[c];rfl
 have f:ia bZ (af m aA) U=.ok (L3.intsFrom 0 n.toNat) U:=by show fX.bind ((af m aA) U) _=_;rw[e];show L3.lift (bZ [.int n]) U=_;rw[QS (by omega) (by omega)];rfl
 show dM (ia bZ (af m aA) U) _=_;rw[f];exact d
theorem QX(ok:bG S):xE C [.own true (hB C S)]=.rt (.dat (ny (fy S))) [hB C S]:=by
 have dl:=ok.dl;obtain⟨a,b,c,g⟩:=yx (C:=C) ok S.ds.length 0 [] none none none (by omega) (by simp);rw[List.nil_append,<-List.range_eq_range'] at g;change cQ _ _ (L3.intsFrom 0 S.ds.length) [_,some (.own false (.l [])),_,_,_]=gm.nx [_,some (.own false (.l ((fy S).map cN))),_,_,_] at g;have d:=QW (m:=dG fj (af (cu C 0 "deeds") aA)) (by omega) (by omega) (QU (C:=C) (S:=S)) (by rw[Int.toNat_natCast];exact g);have e:gE 1 (jX aA) [some (.own true (hB C S)),none,none,none,none]=.nx [some (.own true (hB C S)),some (.own false (.l [])),none,none,none]:=by simp
 have f:bz (ke 1) [some (.own true (hB C S)),some (.own false (.l ((fy S).map cN))),a,b,c]=.rt (.dat (ny (fy S))) [some (.own true (hB C S)),some (.own false (.l ((fy S).map cN))),a,b,c]:=by show dM (ke 1 _) _=_;rw[QV rfl];rfl
 have h:(aB (gE 1 (jX aA)) (aB (gF (ia bZ (af (dG fj (af (cu C 0 "deeds") aA)) aA)) (aI 2) (kj C)) (bz (ke 1)))) [some (.own true (hB C S)),none,none,none,none]=.rt (.dat (ny (fy S))) [some (.own true (hB C S)),some (.own false (.l ((fy S).map cN))),a,b,c]:=by rw[yk e,yk d,f]
 exact QR (n:=1) (N:=5) rfl h rfl
end
theorem yy:∀(a:List (List Int)) (r:List Int),fK a r=r\/fK a r∈a
 | [],r=>.inl rfl
 | x::a,r=>by
  rw[fK];rcases yy a (if HT.lexLt x r=true then x else r) with h | h
  ·rw[h];split
   ·exact .inr List.mem_cons_self
   ·exact .inl rfl
  ·exact .inr (bY _ h)
theorem lS(a:List bU):cY a=.tuple (a.map dI):=by unfold cY;rfl
theorem uE{a:List bU}{k:Nat}(h:k<a.length):bI (a.map dI) (k:Int)=some (dI a[k]):=by unfold bI dA;rw[if_pos (by omega),if_pos (by simp;omega)];simp[h]
section
variable{C:Addr}{S:Hl}{r m:Int}
theorem Ea{x:List Int}(h:x∈fy S):∃k v,∃c:k<S.ds.length,eV S.a S.ss (S.ds[k]).plan (cU S k)=some v/\x=[v,(k:Int),(cU S k:Int)]:=by unfold fy at h;obtain⟨k,c,e⟩:=List.mem_filterMap.mp h;have b:=List.mem_range.mp c;unfold pI at e;rw[List.getElem?_eq_getElem b] at e;obtain⟨v,d,f⟩:=Option.map_eq_some_iff.mp e;exact⟨k,v,b,d,f.symm⟩
noncomputable def lT(S:Hl):Option (Int×Nat):=match fy S with
 | []=>none
 | x::a=>(match fK a x with
  | [v,k,_]=>some (v,k.toNat)
  | _=>none)
theorem QY(h:lT S=none):fy S=[]:=by
 unfold lT at h;cases a:fy S with
 | nil=>rfl
 | cons x b=>
  rw[a] at h;have c:fK b x∈fy S:=by
   rw[a];rcases yy b x with e | e
   ·rw[e];exact List.mem_cons_self
   ·exact bY _ e
  obtain⟨k,v,d,_,e⟩:=Ea c;simp only[e] at h;cases h
theorem Eb{v:Int}{k:Nat}(h:lT S=some (v,k)):∃d:k<S.ds.length,eV S.a S.ss (S.ds[k]).plan (cU S k)=some v/\∃x b,fy S=x::b/\fK b x=[v,(k:Int),(cU S k:Int)]:=by
 unfold lT at h;cases c:fy S with
 | nil=>rw[c] at h;cases h
 | cons x b=>
  rw[c] at h;have f:fK b x∈fy S:=by
   rw[c];rcases yy b x with e | e
   ·rw[e];exact List.mem_cons_self
   ·exact bY _ e
  obtain⟨i,j,d,g,e⟩:=Ea f;simp only[e,Option.some.injEq,Prod.mk.injEq,Int.toNat_natCast] at h;obtain⟨rfl,rfl⟩:=h;exact⟨d,g,x,b,rfl,e⟩
noncomputable def lU(S:Hl)(r m:Int):Hl×PyData:=match lT S with
 | none=>(S,.tuple [.str "idle",.none])
 | some (v,k)=>if m<v then(S,.tuple [.str "idle",.int v]) else
  (match S.ds[k]? with
  | some d=>(gS S ⟨m,r,if nv S.a S.ss d (cU S k) m=true then .left else .begun,k,cU S k⟩,.tuple [.str (jE (if nv S.a S.ss d (cU S k) m=true then .left else .begun)),cp k,cp (cU S k)])
  | none=>(S,.none))
theorem QZ(ok:bG S)(j:S.rows.length<1000000)(l:S.words.length<1000000):lF C [.own true (hB C S),.dat (.int r),.dat (.int m)]=.rt (.dat (lU S r m).2) [hB C (lU S r m).1]:=by
 have sz:1000000<sizeLine:=by decide
 have b:=QX (C:=C) ok;unfold lU;cases n:lT S with
 | none=>rw[QY n] at b;simp[lF,nj,dt,b,ny,show(2:Nat)<=sizeLine by omega]
 | some p=>
  obtain⟨v,k⟩:=p;obtain⟨g,q,x,t,s,e⟩:=Eb n;rw[s,ny,e] at b;simp only[cN,List.map_cons,List.map_nil] at b
  by_cases h:m<v
  ·simp[lF,nj,dt,b,h,show(2:Nat)<=sizeLine by omega]
  ·have lo:=QM (a:=S.a) (ss:=S.ss) (d:=S.ds[k]) (c:=cU S k) (now:=m) ok.z.len (ok.pl _ (List.getElem_mem g)) ⟨v,q⟩;simp only[List.getElem?_eq_getElem g];rw[if_neg h];cases o:nv S.a S.ss S.ds[k] (cU S k) m with
   | true=>rw[o] at lo;have i:=pH (C:=C) (S:=S) (r:=⟨m,r,.left,k,cU S k⟩) j l ok.nd (by rw[ok.sl];exact g);have f:gd C [.own true (hB C S),.dat (.tuple [.int m,.int r,.str "left",.int k,.int (cU S k)])]=.rt (.dat (.tuple [.str "left",.int k,.int (cU S k)])) [hB C (gS S ⟨m,r,.left,k,cU S k⟩)]:=i;simp[lF,nj,dt,bM,cz,b,lS,uE g,lo,h,f,show(5:Nat)<=sizeLine by omega]
   | false=>rw[o] at lo;have i:=pH (C:=C) (S:=S) (r:=⟨m,r,.begun,k,cU S k⟩) j l ok.nd (by rw[ok.sl];exact g);have f:gd C [.own true (hB C S),.dat (.tuple [.int m,.int r,.str "begun",.int k,.int (cU S k)])]=.rt (.dat (.tuple [.str "begun",.int k,.int (cU S k)])) [hB C (gS S ⟨m,r,.begun,k,cU S k⟩)]:=i;simp[lF,nj,dt,bM,cz,b,lS,uE g,lo,h,f,show(5:Nat)<=sizeLine by omega]
noncomputable def lV(S:Hl)(r m:Int)(d c:Nat):Hl×PyData:=match S.ds[d]? with
 | some x=>(gS S ⟨m,r,if x.again=true then .begun else .unsure,d,c⟩,.tuple [.str (jE (if x.again=true then .begun else .unsure)),cp d,cp c])
 | none=>(S,.none)
theorem Ra{d c:Nat}{h:Int}(ok:bG S)(f:S.rows.length<1000000)(g:S.words.length<1000000)(b:S.begun=some (d,c,h)):oU C [.own true (hB C S),.dat (.int r),.dat (.int m)]=.rt (.dat (lV S r m d c).2) [hB C (lV S r m d c).1]:=by
 have sz:1000000<sizeLine:=by decide
 have hd:=ok.bg d c h b;unfold lV;simp only[List.getElem?_eq_getElem hd];cases i:(S.ds[d]).again with
 | true=>have e:=pH (C:=C) (S:=S) (r:=⟨m,r,.begun,d,c⟩) f g ok.nd (by rw[ok.sl];exact hd);have a:gd C [.own true (hB C S),.dat (.tuple [.int m,.int r,.str "begun",.int d,.int c])]=.rt (.dat (.tuple [.str "begun",.int d,.int c])) [hB C (gS S ⟨m,r,.begun,d,c⟩)]:=e;simp[oU,rS,bM,cz,b,gy,lS,uE hd,i,a,show(5:Nat)<=sizeLine by omega]
 | false=>have e:=pH (C:=C) (S:=S) (r:=⟨m,r,.unsure,d,c⟩) f g ok.nd (by rw[ok.sl];exact hd);have a:gd C [.own true (hB C S),.dat (.tuple [.int m,.int r,.str "unsure",.int d,.int c])]=.rt (.dat (.tuple [.str "unsure",.int d,.int c])) [hB C (gS S ⟨m,r,.unsure,d,c⟩)]:=e;simp[oU,rS,bM,cz,b,gy,lS,uE hd,i,a,show(5:Nat)<=sizeLine by omega]
theorem bG.last(ok:bG S)(x:Option Int):bG { S with last:=x }:=⟨ok.z,ok.dl,ok.pl,ok.sl,ok.nd,ok.bg⟩
noncomputable def nz(S:Hl)(r m:Int):Hl×PyData:=match S.begun with
 | some (d,c,h)=>if h=S.holds then({ S with last:=some m },.tuple [.str "busy",cp d,cp c]) else lV { S with last:=some m } r m d c
 | none=>lU { S with last:=some m } r m
theorem Rb(ok:bG S)(g:S.rows.length<1000000)(i:S.words.length<1000000)(f:eK C [.own true (hB C S),.dat (.int r),.dat (.int m)]=.rt (.dat .none) [hB C S]):iR C [.own true (hB C S),.dat (.int r),.dat (.int m)]=.rt (.dat (nz S r m).2) [hB C (nz S r m).1]:=by
 have sz:1000000<sizeLine:=by decide
 have a:=yw (C:=C) (S:={ S with last:=some m });unfold lR at a;unfold nz;cases b:S.begun with
 | none=>have j:=QZ (C:=C) (S:={ S with last:=some m }) (r:=r) (m:=m) (ok.last _) g i;simp only[b] at a j ⊢;simp[iR,nn,bM,dt,cz,f,cI,fq,fo,a,b,gy,j]
 | some p=>
  obtain⟨d,c,h⟩:=p;have k:=Ra (C:=C) (S:={ S with last:=some m }) (r:=r) (m:=m) (ok.last _) g i b;simp only[b] at a k ⊢
  by_cases e:h=S.holds
  ·rw[if_pos e];rw[decide_eq_true e] at a;simp[iR,nn,bM,dt,cz,f,cI,fq,fo,a,b,gy,show(3:Nat)<=sizeLine by omega]
  ·rw[if_neg e];rw[decide_eq_false e] at a;simp[iR,nn,bM,dt,cz,f,cI,fq,fo,a,b,gy,k]
theorem Rc(b:eK C [.own true (hB C S),.dat (.int r),.dat (.int m)]=.rt (.dat .none) [hB C S])(c:lR S=false):iP C [.own true (hB C S),.dat (.int r),.dat (.int m)]=.ex "Nothing" [hB C S]:=by have a:=yw (C:=C) (S:=S);rw[c] at a;simp[iP,pk,bM,dt,cz,b,a]
theorem Re{d c:Nat}(ok:bG S)(f:S.rows.length<1000000)(g:S.words.length<1000000)(h:eK C [.own true (hB C S),.dat (.int r),.dat (.int m)]=.rt (.dat .none) [hB C S])(b:S.begun=some (d,c,S.holds)):iP C [.own true (hB C S),.dat (.int r),.dat (.int m)]=.rt (.dat (.tuple [.str "done",cp d,cp c])) [hB C (gS { S with last:=some m } ⟨m,r,.done,d,c⟩)]:=by
 have sz:1000000<sizeLine:=by decide
 have e:=yw (C:=C) (S:=S);unfold lR at e;rw[b] at e;simp only[decide_true] at e;have hd:=ok.bg d c _ b;have i:=pH (C:=C) (S:={ S with last:=some m }) (r:=⟨m,r,.done,d,c⟩) f g ok.nd (by show d<S.settled.length;rw[ok.sl];exact hd);have a:gd C [.own true (hB C { S with last:=some m }),.dat (.tuple [.int m,.int r,.str "done",.int d,.int c])]=.rt (.dat (.tuple [.str "done",.int d,.int c])) [hB C (gS { S with last:=some m } ⟨m,r,.done,d,c⟩)]:=i;simp only[b] at a;simp[iP,pk,bM,dt,cz,h,e,cI,fq,fo,b,gy,a,show(5:Nat)<=sizeLine by omega]
end
@[simp] theorem UF:cq "tuple" "str" = some false:=by decide
@[simp] theorem UG:cq "tuple" "bool" = some false:=by decide
@[simp] theorem UH:cq "tuple" "list" = some false:=by decide
@[simp] theorem UI:cq "list" "str" = some false:=by decide
@[simp] theorem UJ:cq "list" "bool" = some false:=by decide
@[simp] theorem UK:cq "list" "list" = some true:=by decide
@[simp] theorem UL:cq "NoneType" "str" = some false:=by decide
@[simp] theorem UM:cq "NoneType" "bool" = some false:=by decide
@[simp] theorem UN:cq "NoneType" "list" = some false:=by decide
@[simp] theorem UO:cq "int" "str" = some false:=by decide
@[simp] theorem UP:cq "int" "list" = some false:=by decide
@[simp] theorem UQ:cq "bool" "str" = some false:=by decide
@[simp] theorem UR:cq "bool" "list" = some false:=by decide
@[simp] theorem US:cq "str" "bool" = some false:=by decide
@[simp] theorem UT:cq "str" "list" = some false:=by decide
noncomputable def kI:ik->Prop
 | .within n=>0<=n/\n<=999
 | _=>True
theorem Rf{x:ik}(ok:kI x):mY [.dat (pD x)]=.rt (.dat (.bool true)) []:=by
 cases x with
 | all=>simp[mY,oW,cb kH kH,DK]
 | last=>simp[mY,oW,cb iW kH,cb iW iW,yt,yu]
 | within n=>
  have a:(("within":Str)==("within":Str))=true:=by decide +kernel
  simp[mY,oW,ku yr yr,a,ie (d:=.int n) rfl,cA,ok.1,ok.2]
theorem Rg{d:bU}(a:ic d.plan)(b:kI d.late):sf [.dat (dI d)]=.rt (.dat (.bool true)) []:=by have h1:=Dv a;have h2:=Rf b;simp[sf,xw,lL,fg,h1,h2]
theorem Ec:∀(b:List bU) (a:List PyData) (U:ak),(∃x,U=[x])->(∀d∈b,ic d.plan/\kI d.late)->a.length+b.length<=sizeLine->cj (aI 0) dX si (b.map dI) a U=some (a++(b.map fun _=>PyData.bool true))
 | [],a,U,_,_,_=>by simp[cj]
 | d::b,a,U,⟨x,c⟩,h,e=>by
  subst c;simp only[List.length_cons] at e;have hd:=h d List.mem_cons_self;have f:=Ec b (a++[.bool true]) [some (.dat (dI d))] ⟨_,rfl⟩ (fun x c=>h x (bY _ c)) (by simp;omega);have g:si [some (.dat (dI d))]=.ok (.bool true) [some (.dat (dI d))]:=by simp[si,Rg hd.1 hd.2]
  rw[List.map_cons,cj];simp[dX,g,show a.length<sizeLine by omega,f]
theorem Ed:∀n:Nat,bools? (List.replicate n (PyData.bool true))=some (List.replicate n true)
 | 0=>rfl
 | n+1=>by rw[List.replicate_succ,bools?,Ed n];rfl
theorem Ee{ds:List bU}(b:ds.length<=6)(h:∀d∈ds,ic d.plan/\kI d.late):lE [.dat (cY ds)]=.rt (.dat .none) []:=by
 have sz:1000<sizeLine:=by decide
 have g:=Ec ds [] [none] ⟨_,rfl⟩ h (by simp;omega);rw[List.nil_append,List.map_const'] at g;have a:ms [.list (List.replicate ds.length (PyData.bool true))]=some (.bool true):=by simp[ms,Ed]
 unfold cY;simp[-ms,lE,xF,xz,xy,g,a,show ¬ (6:Int)<ds.length by omega,show ds.length<=sizeLine by omega]
inductive Ro where
 | take (r m t:Int) | give (r m:Int)
theorem gz:PyData.strOk "take" = true:=by decide +kernel
theorem gA:PyData.strOk "give" = true:=by decide +kernel
theorem yz:(("take":Str)==("take":Str))=true:=by decide +kernel
theorem uF:(("give":Str)==("take":Str))=false:=by decide +kernel
theorem yA:(("give":Str)==("give":Str))=true:=by decide +kernel
noncomputable abbrev Ho:=Int×Int×Int
structure Wk where
 G:List Ho
 who:Option Int
 til:Int
section
variable{C:Addr}{S S':Hl}{w:Wk}{d q r m t c:PyData}
theorem uG{x w:Str}{rest:List PyData}{n:Int}(a:PyData.strOk x=true)(b:PyData.strOk w=true)(e:wN [("take",4),("give",3),("step",3),("finish",3)] (.str w)=some (.int n)):rZ [some (.dat (.str w)),some (.dat (.tuple (.str x::rest)))]=.ok (.bool (decide (((rest.length+1:Nat):Int)=n)&&(x==w))) [some (.dat (.str w)),some (.dat (.tuple (.str x::rest)))]:=by have h:=ku (x:=x) (w:=w) (rest:=rest) (n:=n) a b;simp[rZ,e,h]
end
section
variable{C:Addr}{S S':Hl}{w:Wk}{d q r m t c:PyData}
theorem fN:PyData.strOk "step" = true:=by decide +kernel
theorem iX:PyData.strOk "finish" = true:=by decide +kernel
theorem Rh:(("take":Str)==("give":Str))=false:=by decide +kernel
theorem Ri:(("take":Str)==("step":Str))=false:=by decide +kernel
theorem Rj:(("take":Str)==("finish":Str))=false:=by decide +kernel
theorem Rk:(("give":Str)==("step":Str))=false:=by decide +kernel
theorem Rl:(("give":Str)==("finish":Str))=false:=by decide +kernel
theorem nA:(("step":Str)==("take":Str))=false:=by decide +kernel
theorem yB:(("step":Str)==("give":Str))=false:=by decide +kernel
theorem yC:(("step":Str)==("step":Str))=true:=by decide +kernel
theorem Rm:(("step":Str)==("finish":Str))=false:=by decide +kernel
theorem uH{x:Str}{rest:List PyData}(a:PyData.strOk x=true):cj (aI 0) dX rZ (gM ["take","give","step","finish"]) [] [none,some (.dat (.tuple (.str x::rest)))]=some [.bool (decide (((rest.length+1:Nat):Int)=4)&&(x=="take")),.bool (decide (((rest.length+1:Nat):Int)=3)&&(x=="give")),.bool (decide (((rest.length+1:Nat):Int)=3)&&(x=="step")),.bool (decide (((rest.length+1:Nat):Int)=3)&&(x=="finish"))]:=by
 have sz:1000<sizeLine:=by decide
 have b:=uG (x:=x) (w:="take") (rest:=rest) (n:=4) a gz (by kernel_rfl);have f:=uG (x:=x) (w:="give") (rest:=rest) (n:=3) a gA (by kernel_rfl);have g:=uG (x:=x) (w:="step") (rest:=rest) (n:=3) a fN (by kernel_rfl);have h:=uG (x:=x) (w:="finish") (rest:=rest) (n:=3) a iX (by kernel_rfl);have e:gM ["take","give","step","finish"]=[.str "take",.str "give",.str "step",.str "finish"]:=rfl;rw[e];simp only[cj,aI,dX,List.set_cons_zero,b,f,g,h,List.nil_append,List.cons_append,List.length_nil,List.length_cons];rw[if_pos (by omega),if_pos (by omega),if_pos (by omega),if_pos (by omega)]
theorem Rn{a b c:PyData}:gO [.dat (.tuple [.str "take",a,b,c])]=.rt (.dat .none) []:=by have g:=uH (x:="take") (rest:=[a,b,c]) gz;simp only[yz,Rh,Ri,Rj,List.length_cons,List.length_nil] at g;simp[gO,mZ,g,ly,bools?]
theorem Ef{a b:PyData}:gO [.dat (.tuple [.str "give",a,b])]=.rt (.dat .none) []:=by have g:=uH (x:="give") (rest:=[a,b]) gA;simp only[uF,yA,Rk,Rl,List.length_cons,List.length_nil] at g;simp[gO,mZ,g,ly,bools?]
theorem Eg{a b:PyData}:gO [.dat (.tuple [.str "step",a,b])]=.rt (.dat .none) []:=by have g:=uH (x:="step") (rest:=[a,b]) fN;simp only[nA,yB,yC,Rm,List.length_cons,List.length_nil] at g;simp[gO,mZ,g,ly,bools?]
theorem Rp(h:lD C [.own true (hB C S),.dat r,.dat m,.dat t]=.rt (.dat d) [hB C S']):eL C [.own true (hB C S),.dat (.tuple [.str "take",r,m,t])]=.rt (.dat d) [hB C S']:=by simp[eL,jz,cb gz gz,yz,bM,cz,h,il]
theorem Rq(h:km C [.own true (hB C S),.dat r,.dat m]=.rt (.dat d) [hB C S']):eL C [.own true (hB C S),.dat (.tuple [.str "give",r,m])]=.rt (.dat d) [hB C S']:=by simp[eL,jz,cb gA gz,uF,cb gA gA,yA,bM,cz,h]
theorem Rr{x:Str}(h:km C [.own true (hB C S),.dat r,.dat m]=.ex x [hB C S]):eL C [.own true (hB C S),.dat (.tuple [.str "give",r,m])]=.ex x [hB C S]:=by simp[eL,jz,cb gA gz,uF,cb gA gA,yA,bM,cz,h]
theorem Rs(h:iR C [.own true (hB C S),.dat r,.dat m]=.rt (.dat d) [hB C S']):eL C [.own true (hB C S),.dat (.tuple [.str "step",r,m])]=.rt (.dat d) [hB C S']:=by simp[eL,jz,cb fN gz,nA,cb fN gA,yB,cb fN fN,yC,bM,cz,h]
theorem Rt{x:Str}(h:iR C [.own true (hB C S),.dat r,.dat m]=.ex x [hB C S]):eL C [.own true (hB C S),.dat (.tuple [.str "step",r,m])]=.ex x [hB C S]:=by simp[eL,jz,cb fN gz,nA,cb fN gA,yB,cb fN fN,yC,bM,cz,h]
theorem uI(a:gO [.dat c]=.rt (.dat .none) [])(h:eL C [.own true (hB C S),.dat c]=.rt (.dat d) [hB C S']):lG C [.own true (hB C S),.dat c]=.rt (.dat d) [hB C S']:=by simp[lG,sy,a,ou,h]
theorem uJ{x:Str}(a:gO [.dat c]=.rt (.dat .none) [])(h:eL C [.own true (hB C S),.dat c]=.ex x [hB C S])(b:x∈dO):lG C [.own true (hB C S),.dat c]=.rt (.dat (.str "refused")) [hB C S]:=by simp[lG,sy,a,ou,h,b]
end
theorem yD:("NotHolder":Str)∈dO:=by decide +kernel
theorem Rv{C:Addr}{S:Hl}{r m:Int}(h:eK C [.own true (hB C S),.dat (.int r),.dat (.int m)]=.rt (.dat .none) [hB C S]):km C [.own true (hB C S),.dat (.int r),.dat (.int m)]=.rt (.dat .none) [hB C { S with last:=some m,holder:=none }]:=by simp[km,sv,bM,cz,h,cI,fq,fo]
theorem Rw{C:Addr}{S:Hl}{r m:Int}{c:Str}(h:eK C [.own true (hB C S),.dat (.int r),.dat (.int m)]=.ex c [hB C S]):km C [.own true (hB C S),.dat (.int r),.dat (.int m)]=.ex c [hB C S]:=by simp[km,sv,bM,cz,h]
inductive Ca where
 | take (r m t:Int) | give (r m:Int) | step (r m:Int) | finish (r m:Int)
noncomputable def Ca.mo:Ca->Int
 | .take _ m _=>m
 | .give _ m=>m
 | .step _ m=>m
 | .finish _ m=>m
noncomputable def Ca.ru:Ca->Int
 | .take r _ _=>r
 | .give r _=>r
 | .step r _=>r
 | .finish r _=>r
noncomputable def cT:Ca->PyData
 | .take r m t=>.tuple [.str "take",.int r,.int m,.int t]
 | .give r m=>.tuple [.str "give",.int r,.int m]
 | .step r m=>.tuple [.str "step",.int r,.int m]
 | .finish r m=>.tuple [.str "finish",.int r,.int m]
structure gB (c:Ca) (now:Int):Prop where
 r:0<=c.ru/\c.ru<=3
 m:now<=c.mo/\c.mo<=now+12
 t:∀r m t,c=.take r m t->1<=t/\t<=99
structure Ru (S:Hl) (m:Int) (n:Nat):Prop where
 ok:bG S
 rl:S.rows.length<=n
 wl:S.words.length<=n
 la:∀l,S.last=some l->l<=m
 dr:∀x∈S.rows,∃h:x.dd<S.ds.length,∃v,eV S.a S.ss (S.ds[x.dd]).plan x.ct=some v/\v<=x.mo/\x.mo<=m
 bg:∀d c k,S.begun=some (d,c,k)->∃h:d<S.ds.length,∃v,eV S.a S.ss (S.ds[d]).plan c=some v/\v<=m
theorem bG.addQ{S:Hl}(ok:bG S){r:kv}(h:r.dd<S.ds.length):bG (gS S r):=by
 refine⟨ok.z,ok.dl,ok.pl,?_,QO ok.nd,?_⟩
 ·show(if r.wd=.begun then S.settled else S.settled.set r.dd (r.ct+1)).length=S.ds.length;split
  ·exact ok.sl
  ·rw[List.length_set];exact ok.sl
 ·intro d c k e;have a:(if r.wd=.begun then some (r.dd,r.ct,S.holds) else none)=some (d,c,k):=e;split at a
  ·cases a;exact h
  ·cases a
theorem Ru.add{S:Hl}{m:Int}{n:Nat}(p:Ru S m n){r:kv}(h:r.dd<S.ds.length){v:Int}(g:eV S.a S.ss (S.ds[r.dd]).plan r.ct=some v)(i:v<=r.mo)(j:r.mo<=m):Ru (gS S r) m (n+1):=by
 refine⟨p.ok.addQ h,?_,?_,p.la,?_,?_⟩
 ·have:=p.rl;show(S.rows++[r]).length<=n+1;simp;omega
 ·have:=p.wl;have:=QP (r.dd,r.ct) r.wd S.words;show(gi S.words (r.dd,r.ct) r.wd).length<=n+1;omega
 ·intro x b;rcases List.mem_append.mp b with b | b
  ·exact p.dr x b
  ·rw[List.mem_singleton.mp b];exact⟨h,v,g,i,j⟩
 ·intro d c k e;have f:(if r.wd=.begun then some (r.dd,r.ct,S.holds) else none)=some (d,c,k):=e;split at f
  ·cases f;exact⟨h,v,g,by omega⟩
  ·cases f
theorem Ru.mono{S:Hl}{m f:Int}{n g:Nat}(p:Ru S m n)(h:m<=f)(i:n<=g):Ru S f g:=
 ⟨p.ok,Nat.le_trans p.rl i,Nat.le_trans p.wl i,fun l e=>Int.le_trans (p.la l e) h,fun x j=>let⟨q,v,a,b,o⟩:=p.dr x j;⟨q,v,a,b,Int.le_trans o h⟩,fun d c k e=>let⟨q,v,a,b⟩:=p.bg d c k e;⟨q,v,a,Int.le_trans b h⟩⟩
theorem Ru.last{S:Hl}{m a:Int}{n:Nat}(p:Ru S m n)(h:m<=a):Ru { S with last:=some a } a n:=
 let q:=p.mono h (bF _);⟨q.ok.last _,q.rl,q.wl,fun l e=>by cases e;omega,q.dr,q.bg⟩
theorem Ru.hold{S:Hl}{m a k u:Int}{n:Nat}{w:Option Int}(p:Ru S m n)(h:m<=a):Ru { S with last:=some a,holder:=w,til:=u,holds:=k } a n:=
 let q:=p.mono h (bF _);⟨⟨q.ok.z,q.ok.dl,q.ok.pl,q.ok.sl,q.ok.nd,q.ok.bg⟩,q.rl,q.wl,fun l e=>by cases e;omega,q.dr,q.bg⟩
theorem Rx{a:Int}{f:Sh}{b:List bU}(z:lA a f)(g:b.length<=6)(hd:∀d∈b,lQ d.plan):Ru (eX a f b) 0 0:=
 ⟨⟨z,g,hd,by simp[eX],by simp[eX],fun d c h e=>(by cases e)⟩,by simp[eX],by simp[eX],fun l e=>(by cases e),by simp[eX],fun d c k e=>(by cases e)⟩
theorem Ry{S:Hl}{r m f:Int}{n:Nat}(p:Ru S m n)(h:m<=f):Ru (nz S r f).1 f (n+1):=by
 have q:=p.last h;obtain⟨b,i⟩:∃b:Hl,b = { S with last:=some f }:=⟨_,rfl⟩
 rw[<-i] at q;have o:b.begun=S.begun:=by rw[i]
 have s:b.holds=S.holds:=by rw[i]
 have e:nz S r f = match S.begun with
   | some (d,c,k)=>if k=S.holds then(b,.tuple [.str "busy",cp d,cp c]) else lV b r f d c
   | none=>lU b r f:=by rw[i];rfl
 rw[e,<-o,<-s];cases t:b.begun with
 | some x=>
  obtain⟨d,c,k⟩:=x;simp only
  by_cases g:k=b.holds
  ·rw[if_pos g];exact q.mono (Int.le_refl _) (by omega)
  ·rw[if_neg g];obtain⟨hd,v,j,l⟩:=q.bg d c k t;unfold lV;rw[List.getElem?_eq_getElem hd];simp only;exact q.add (r:=⟨f,r,if b.ds[d].again=true then .begun else .unsure,d,c⟩) hd j l (Int.le_refl _)
 | none=>
  simp only;unfold lU;cases u:lT b with
  | none=>exact q.mono (Int.le_refl _) (by omega)
  | some x=>
   obtain⟨v,k⟩:=x;simp only
   by_cases j:f<v
   ·rw[if_pos j];exact q.mono (Int.le_refl _) (by omega)
   ·rw[if_neg j];obtain⟨g,w,_⟩:=Eb u;rw[List.getElem?_eq_getElem g];simp only;exact q.add (r:=⟨f,r,if nv b.a b.ss b.ds[k] (cU b k) f = true then .left else .begun,k,cU b k⟩) g w (by show v<=f;omega) (Int.le_refl _)
section
variable{C:Addr}{S S':Hl}{w:Wk}{d q r m t c:PyData}
theorem pJ:(("finish":Str)==("take":Str))=false:=by decide +kernel
theorem yE:(("finish":Str)==("give":Str))=false:=by decide +kernel
theorem yF:(("finish":Str)==("step":Str))=false:=by decide +kernel
theorem Rz:(("finish":Str)==("finish":Str))=true:=by decide +kernel
theorem yG{a b:PyData}:gO [.dat (.tuple [.str "finish",a,b])]=.rt (.dat .none) []:=by have g:=uH (x:="finish") (rest:=[a,b]) iX;simp only[pJ,yE,yF,Rz,List.length_cons,List.length_nil] at g;simp[gO,mZ,g,ly,bools?]
theorem RA(h:iP C [.own true (hB C S),.dat r,.dat m]=.rt (.dat d) [hB C S']):eL C [.own true (hB C S),.dat (.tuple [.str "finish",r,m])]=.rt (.dat d) [hB C S']:=by simp[eL,jz,cb iX gz,pJ,cb iX gA,yE,cb iX fN,yF,bM,cz,h]
theorem Eh{x:Str}(h:iP C [.own true (hB C S),.dat r,.dat m]=.ex x [hB C S]):eL C [.own true (hB C S),.dat (.tuple [.str "finish",r,m])]=.ex x [hB C S]:=by simp[eL,jz,cb iX gz,pJ,cb iX gA,yE,cb iX fN,yF,bM,cz,h]
end
theorem RB:("Nothing":Str)∈dO:=by decide +kernel
theorem RC{C:Addr}{S:Hl}{m:Int}{n:Nat}{c:Ca}(p:Ru S m n)(D:n<900)(f:gB c m)(E:0<=m/\m<=9000):∃d i,lG C [.own true (hB C S),.dat (cT c)]=.rt (.dat d) [hB C i]/\Ru i c.mo (n+1)/\i.a=S.a/\i.ss=S.ss/\i.ds=S.ds:=by
 have l1:=p.rl;have l2:=p.wl;have G:0<=c.mo/\c.mo<=9999:=by have:=f.m;omega
 have j:iO C [.own true (hB C S),.dat (.int c.ru),.dat (.int c.mo)]=.rt (.dat .none) [hB C S]:=Qx rfl (by have:=f.r;simp[cA];omega) (by simp[cA];omega) (by
  cases o:S.last with
  | none=>unfold uA;rw[o]
  | some l=>
   have:=p.la l o;have:=f.m;unfold uA;rw[o];exact decide_eq_false (by omega))
 have hd:∀r b,c.ru=r->c.mo=b->(eK C [.own true (hB C S),.dat (.int r),.dat (.int b)]=.rt (.dat .none) [hB C S])\/(eK C [.own true (hB C S),.dat (.int r),.dat (.int b)]=.ex "NotHolder" [hB C S]):=fun r b w y=>by
  rw[w,y] at j;cases g:(gQ S b&&decide (S.holder=some r)) with
  | true=>rw[Bool.and_eq_true] at g;exact .inl (Qz j g.1 (of_decide_eq_true g.2))
  | false=>exact .inr (Qy j g)
 have same:Ru S c.mo (n+1):=p.mono f.m.1 (by omega);cases c with
 | take r b t=>
  have H:=f.t r b t rfl;refine⟨_,_,uI Rn (Rp (QA j (by simp[cA];omega))),?_⟩;unfold uC;split
  ·exact⟨(p.hold f.m.1).mono (Int.le_refl _) (by omega),rfl,rfl,rfl⟩
  ·split
   ·exact⟨(p.hold (k:=S.holds) f.m.1).mono (Int.le_refl _) (by omega),rfl,rfl,rfl⟩
   ·exact⟨(p.last f.m.1).mono (Int.le_refl _) (by omega),rfl,rfl,rfl⟩
 | give r b=>
  rcases hd r b rfl rfl with h | h
  ·exact⟨_,_,uI Ef (Rq (Rv h)),(p.hold (k:=S.holds) (u:=S.til) f.m.1).mono (Int.le_refl _) (by omega),rfl,rfl,rfl⟩
  ·exact⟨_,_,uJ Ef (Rr (Rw h)) yD,same,rfl,rfl,rfl⟩
 | step r b=>
  rcases hd r b rfl rfl with h | h
  ·refine⟨_,_,uI Eg (Rs (Rb p.ok (by omega) (by omega) h)),Ry p f.m.1,?_⟩;unfold nz;split
   ·split
    ·exact⟨rfl,rfl,rfl⟩
    ·unfold lV;split<;>exact⟨rfl,rfl,rfl⟩
   ·unfold lU;split
    ·exact⟨rfl,rfl,rfl⟩
    ·split
     ·exact⟨rfl,rfl,rfl⟩
     ·split<;>exact⟨rfl,rfl,rfl⟩
  ·exact⟨_,_,uJ Eg (Rt (QB h)) yD,same,rfl,rfl,rfl⟩
 | finish r b=>
  rcases hd r b rfl rfl with h | h
  ·cases g:lR S with
   | false=>exact⟨_,_,uJ yG (Eh (Rc h g)) RB,same,rfl,rfl,rfl⟩
   | true=>
    obtain⟨d,c,e⟩:∃d c,S.begun=some (d,c,S.holds):=by
     unfold lR at g;cases s:S.begun with
     | none=>rw[s] at g;cases g
     | some x=>obtain⟨d,c,k⟩:=x;rw[s] at g;exact⟨d,c,by rw[of_decide_eq_true g]⟩
    obtain⟨B,v,z,A⟩:=p.bg d c _ e;have q:=f.m.1;simp only[Ca.mo] at q;exact⟨_,_,uI yG (RA (Re p.ok (by omega) (by omega) h e)),(p.last f.m.1).add (r:=⟨b,r,.done,d,c⟩) B z (by show v<=b;omega) (Int.le_refl _),rfl,rfl,rfl⟩
  ·exact⟨_,_,uJ yG (Eh (QD h)) yD,same,rfl,rfl,rfl⟩
noncomputable def lW:Int->List Ca->Prop
 | _,[]=>True
 | l,c::a=>gB c l/\lW c.mo a
theorem Ei{C:Addr}:∀(b:List Ca) (l:Int) (S:Hl) (n:Nat) (f:List PyData) (x:Option ai),lW l b->0<=l->l+12 * b.length<=9000->n+b.length<900->f.length+b.length<1000->Ru S l n->∃g i h y,jx (aI 0) dX (sA C) (b.map cT) f [x,some (.own true (hB C S))]=some (f++h,[y,some (.own true (hB C g))])/\h.length=b.length/\Ru g i (n+b.length)/\l<=i/\i<=l+12 * b.length/\g.a=S.a/\g.ss=S.ss/\g.ds=S.ds
 | [],l,S,n,f,x,_,_,_,_,_,p=>⟨S,l,[],x,by simp[jx],rfl,p,by omega,by simp,rfl,rfl,rfl⟩
 | c::b,l,S,n,f,x,⟨ok,up⟩,o,h1,h2,h3,p=>by
  have sz:1000<sizeLine:=by decide
  simp only[List.length_cons] at h1 h2 h3;obtain⟨d,j,k,q,r,s,t⟩:=RC (C:=C) p (by omega) ok ⟨o,by omega⟩;have G:=ok.m;obtain⟨u,v,h,y,w,z,A,H,I,B,D,E⟩:=Ei (C:=C) b c.mo j (n+1) (f++[d]) (some (.dat (cT c))) up (by omega) (by omega) (by omega) (by simp;omega) q;refine⟨u,v,d::h,y,?_,by simp[z],by rw[show n+(c::b).length=n+1+b.length by simp;omega];exact A,by omega,by simp only[List.length_cons];omega,by rw[B,r],by rw[D,s],by rw[E,t]⟩;have e:sA C [some (.dat (cT c)),some (.own true (hB C S))]=.ok d [some (.dat (cT c)),some (.own true (hB C j))]:=by generalize cT c=J at k;simp[sA,k]
  rw[List.map_cons,jx];simp only[aI,List.set_cons_zero,dX,e];rw[if_pos (by omega),w];simp
theorem RD{C:Addr}{a:Int}{c:Sh}{b:List bU}{cs:List Ca}(z:lA a c)(g:b.length<=6)(hd:∀d∈b,lQ d.plan)(h:gx [.dat (cS a c)]=.rt (.dat .none) [])(j:lE [.dat (cY b)]=.rt (.dat .none) [])(up:lW 0 cs)(o:cs.length<250) :
  ∃S f m,sB C [.dat (cS a c),.dat (cY b),.dat (.list (cs.map cT))]=.rt (.own false (.pr C (al S) (.list f))) []/\Ru S m cs.length/\m<=12 * cs.length/\S.a=a/\S.ss=c/\S.ds=b:=by
 have sz:1000<sizeLine:=by decide
 have i:=yp (C:=C) h j g;obtain⟨S,m,f,y,e,q,p,r,s,k,l,n⟩:=Ei (C:=C) cs 0 (eX a c b) 0 [] none up (by omega) (by omega) (by omega) (by simp;omega) (Rx z g hd);rw[Nat.zero_add] at p;refine⟨S,f,m,?_,p,by omega,k,l,n⟩;rw[List.nil_append] at e;generalize cS a c=t at *;generalize cY b=dd at *;generalize cs.map cT=u at *;simp[sB,xI,lq,lp,i,mM,oG,bT,rq,ro,e,show f.length<=sizeLine by omega]
theorem RE{ns:List Int}{t:List PyData}{ds:List bU}{wd:Int}{x2 x5 x6 x7 x8:Option ai}(b:ns.length<=63)(w:t.length<=700)(g:0<wd/\wd<=10000)(y:ds.length<100) :
  ∃d t' h i j,ic d.plan/\kI d.late/\t'.length<=t.length+7/\ph [some (.scr ns),some (.own true (.l t)),x2,some (.dat (.int wd)),some (.dat (.tuple (ds.map dI))),x5,x6,x7,x8]=.nx [some (.scr ns),some (.own true (.l t')),x2,some (.dat (.int wd)),some (.dat (.tuple ((ds++[d]).map dI))),x5,h,i,j]:=by
 have sz:1000<sizeLine:=by decide
 obtain⟨u,z,A,h1⟩:=fM (ns:=ns) (t:=t) (many:=9) b (by omega) (by omega);obtain⟨v,a,h3⟩:=iU (ns:=ns) (t:=t++[.int 0]) (ds:=[.str "all",.str "all",.str "last",.tuple [.str "within",.int u]]) b (by simp;omega) (by simp) (by simp);have:∃x:ik,v=pD x/\kI x:=by
  simp only[List.mem_cons,List.not_mem_nil,or_false] at a;rcases a with rfl | rfl | rfl | rfl
  ·exact⟨.all,rfl,trivial⟩
  ·exact⟨.all,rfl,trivial⟩
  ·exact⟨.last,rfl,trivial⟩
  ·exact⟨.within u,rfl,by omega,by omega⟩
 obtain⟨x,rfl,m⟩:=this;obtain⟨k,B,C,c⟩:=fM (ns:=ns) (t:=t++[.int 0]++[.int 0]) (many:=2) b (by simp;omega) (by omega);obtain⟨p,n,o,_,q,f⟩:=Ql (ns:=ns) (t:=t++[.int 0]++[.int 0]++[.int 0]) (wd:=wd) b (by simp;omega) g;simp only[List.length_append,List.length_cons,List.length_nil] at q;simp only[List.append_assoc,List.cons_append,List.nil_append] at h3 f c;refine⟨⟨p,x,decide (k=0)⟩,n,some (.dat (.int u)),some (.dat (pD x)),some (.dat (.bool (decide (k=0)))),o,m,by omega,?_⟩;generalize r:jC p=P at *;generalize s:pD x=L at *;have e:dI ⟨p,x,decide (k=0)⟩=.tuple [P,L,.bool (decide (k=0))]:=by unfold dI;rw[r,s]
 rw[List.map_append,List.map_singleton,e];simp[ph,h1,h3,f,c,lM,show ds.length+1<=sizeLine by omega]
theorem Ej{ns:List Int}{wd:Int}{x2:Option ai}(h:ns.length<=63)(j:0<wd/\wd<=10000):∀(n:Nat) (i:Int) {t:List PyData}{es:List bU}{x5 x6 x7 x8:Option ai},t.length+7 * n<=700->es.length+n<100->∃(a:List bU) (t':List PyData) (k b c f:Option ai),(∀d∈a,ic d.plan/\kI d.late)/\a.length=n/\t'.length<=t.length+7 * n/\
   cQ (aI 5) ph (L3.intsFrom i n) [some (.scr ns),some (.own true (.l t)),x2,some (.dat (.int wd)),some (.dat (.tuple (es.map dI))),x5,x6,x7,x8]=.nx [some (.scr ns),some (.own true (.l t')),x2,some (.dat (.int wd)),some (.dat (.tuple ((es++a).map dI))),k,b,c,f]
 | 0,i,t,es,x5,x6,x7,x8,_,_=>⟨[],t,x5,x6,x7,x8,by simp,rfl,by omega,by simp[L3.intsFrom,cQ]⟩
 | n+1,i,t,es,x5,x6,x7,x8,z,A=>by
  obtain⟨d,m,b,c,f,o,p,l1,e⟩:=RE (ns:=ns) (t:=t) (ds:=es) (wd:=wd) (x2:=x2) (x5:=some (.dat (.int i))) (x6:=x6) (x7:=x7) (x8:=x8) h (by omega) j (by omega);obtain⟨a,q,r,s,u,v,h2,w,l2,y⟩:=Ej (x2:=x2) h j n (i+1) (t:=m) (es:=es++[d]) (x5:=some (.dat (.int i))) (x6:=b) (x7:=c) (x8:=f) (by omega) (by simp;omega);refine⟨d::a,q,r,s,u,v,fun x g=>?_,by simp[w],by omega,?_⟩
  ·rcases List.mem_cons.mp g with rfl | g
   ·exact⟨o,p⟩
   ·exact h2 x g
  ·rw[show es++d::a=es++[d]++a by simp,<-y,uy,cQ];simp only[aI,List.length_cons,List.set_cons_succ,List.set_cons_zero,e]
theorem RF{ns:List Int}{t:List PyData}{most wd:Int}(b:ns.length<=63)(h:t.length<=600)(i:0<=most/\most<=6)(c:0<wd/\wd<=10000):∃(a:List bU) (t':List PyData),(∀d∈a,ic d.plan/\kI d.late)/\(a.length:Int)<=most/\t'.length<=t.length+50/\su [.scr ns,.own true (.l t),.dat (.int most),.dat (.int wd)]=.rt (.dat (cY a)) [.l t']:=by
 have sz:1000<sizeLine:=by decide
 obtain⟨k,j,m,h2⟩:=fM (ns:=ns) (t:=t) (many:=most+1) b (by omega) (by omega);obtain⟨a,f,n,o,p,q,hd,nd,l2,e⟩:=Ej (ns:=ns) (wd:=wd) (x2:=some (.dat (.int most))) b c k.toNat 0 (t:=t++[.int 0]) (es:=[]) (x5:=none) (x6:=none) (x7:=none) (x8:=none) (by simp;omega) (by simp;omega);have g:bZ [.int k]=some (L3.intsFrom 0 k.toNat):=by simp only[bZ];rw[if_pos (by simp;omega)]
 simp only[List.length_append,List.length_cons,List.length_nil] at l2 nd;refine⟨a,f,hd,by omega,by omega,?_⟩;rw[List.map_nil,List.nil_append] at e;unfold cY;simp[-bZ,su,xG,h2,g,e]
theorem RG{C:Addr}{ns:List Int}{t:List PyData}{cs:List Ca}{m:Int}{x2 x3 x4 x7 x8 x9 x10 x11 x12:Option ai}(n:ns.length<=63)(ht:t.length<=900)(hm:0<=m)(hx:cs.length<100) :
  ∃c t' p s g,gB c m/\t'.length<=t.length+6/\nq C [some (.scr ns),some (.own true (.l t)),x2,x3,x4,some (.own false (.l (cs.map cT))),some (.dat (.int m)),x7,x8,x9,x10,x11,x12]=.nx [some (.scr ns),some (.own true (.l t')),x2,x3,x4,some (.own false (.l ((cs++[c]).map cT))),some (.dat (.int c.mo)),x7,p,s,g,x11,x12]:=by
 have sz:1000<sizeLine:=by decide
 obtain⟨a,y,h1⟩:=iU (ns:=ns) (t:=t) (ds:=[.int 1,.int 3,.int 12]) n (by omega) (by simp) (by simp);have:∃i:Int,a=.int i/\0<i/\i<=12:=by simp only[List.mem_cons,List.not_mem_nil,or_false] at y;rcases y with rfl | rfl | rfl<;>exact⟨_,rfl,by omega,by omega⟩
 obtain⟨i,rfl,E,i2⟩:=this;obtain⟨u,u1,u2,h2⟩:=fM (ns:=ns) (t:=t++[.int 0]) (many:=i) n (by simp;omega) E;obtain⟨b,z,h3⟩:=iU (ns:=ns) (t:=t++[.int 0]++[.int 0]) (ds:=[.int 1,.int 2,.int 4]) n (by simp;omega) (by simp) (by simp);have:∃j:Int,b=.int j/\0<j/\j<=4:=by simp only[List.mem_cons,List.not_mem_nil,or_false] at z;rcases z with rfl | rfl | rfl<;>exact⟨_,rfl,by omega,by omega⟩
 obtain⟨j,rfl,G,j2⟩:=this;obtain⟨r,h,r2,A⟩:=fM (ns:=ns) (t:=t++[.int 0]++[.int 0]++[.int 0]) (many:=j) n (by simp;omega) G;obtain⟨w,B,x⟩:=iU (ns:=ns) (t:=t++[.int 0]++[.int 0]++[.int 0]++[.int 0]) (ds:=[.str "take",.str "step",.str "step",.str "step",.str "finish",.str "finish",.str "give"]) n (by simp;omega) (by simp) (by simp);obtain⟨v,v1,v2,D⟩:=fM (ns:=ns) (t:=t++[.int 0]++[.int 0]++[.int 0]++[.int 0]++[.int 0]) (many:=30) n (by simp;omega) (by omega);simp only[List.append_assoc,List.cons_append,List.nil_append] at h1 h2 h3 A x D;have H:(cs.map cT).length<sizeLine:=by rw[List.length_map];omega
 have I:(7:Nat)<=sizeLine:=by omega
 have fin:∀(d:Str) (c:Ca) (t':List PyData) (q:PyData),w=.str d->cT c=q->c.mo=m+u->gB c m->t'.length<=t.length+6->(kU (bo (ao (aP false) (xV 9) (xC (.str "take")))) (ao jQ (xV 10) (bb (af (ao dN (xC (.int 1)) (aQ (aM dP (aS 0 (aS 1 (au (xC (.int 30)) aF)))))) aA))) (xV 10)) [some (.scr ns),some (.own true (.l (t++[.int 0,.int 0,.int 0,.int 0,.int 0]))),x2,x3,x4,some (.own false (.l (cs.map cT))),some (.dat (.int (m+u))),x7,some (.dat (.int r)),some (.dat (.str d)),some (.dat (.tuple [.str d,.int r,.int (m+u)])),x11,x12]=.ok q [some (.scr ns),some (.own true (.l t')),x2,x3,x4,some (.own false (.l (cs.map cT))),some (.dat (.int (m+u))),x7,some (.dat (.int r)),some (.dat (.str d)),some (.dat (.tuple [.str d,.int r,.int (m+u)])),x11,x12]->
   ∃c t' p s g,gB c m/\t'.length<=t.length+6/\nq C [some (.scr ns),some (.own true (.l t)),x2,x3,x4,some (.own false (.l (cs.map cT))),some (.dat (.int m)),x7,x8,x9,x10,x11,x12]=.nx [some (.scr ns),some (.own true (.l t')),x2,x3,x4,some (.own false (.l ((cs++[c]).map cT))),some (.dat (.int c.mo)),x7,p,s,g,x11,x12]:=fun d c t' q J M N O Q R=>by
  refine⟨c,t',some (.dat (.int r)),some (.dat (.str d)),some (.dat (.tuple [.str d,.int r,.int (m+u)])),O,Q,?_⟩;rw[J] at x;rw[List.map_append,List.map_singleton,M,N];generalize cs.map cT=L at *;unfold nq;have S:∀k:SM,aB (bE (ao dN (xV 6) (aQ (aM dP (aS 0 (aS 1 (au (aQ (aM fu (aS 0 (aS 1 (au (cm (af (xC (.int 1)) (af (xC (.int 3)) (af (xC (.int 12)) aA)))) aF))))) aF)))))) (aI 6)) k [some (.scr ns),some (.own true (.l t)),x2,x3,x4,some (.own false (.l L)),some (.dat (.int m)),x7,x8,x9,x10,x11,x12]=k [some (.scr ns),some (.own true (.l (t++[.int 0,.int 0]))),x2,x3,x4,some (.own false (.l L)),some (.dat (.int (m+u))),x7,x8,x9,x10,x11,x12]:=fun k=>by simp[h1,h2]
  have T:∀k:SM,aB (bE (aQ (aM dP (aS 0 (aS 1 (au (aQ (aM fu (aS 0 (aS 1 (au (cm (af (xC (.int 1)) (af (xC (.int 2)) (af (xC (.int 4)) aA)))) aF))))) aF))))) (aI 8)) k [some (.scr ns),some (.own true (.l (t++[.int 0,.int 0]))),x2,x3,x4,some (.own false (.l L)),some (.dat (.int (m+u))),x7,x8,x9,x10,x11,x12]=k [some (.scr ns),some (.own true (.l (t++[.int 0,.int 0,.int 0,.int 0]))),x2,x3,x4,some (.own false (.l L)),some (.dat (.int (m+u))),x7,some (.dat (.int r)),x9,x10,x11,x12]:=fun k=>by simp[h3,A]
  have U:∀k:SM,aB (bE (aQ (aM fu (aS 0 (aS 1 (au (cm (af (xC (.str "take")) (af (xC (.str "step")) (af (xC (.str "step")) (af (xC (.str "step")) (af (xC (.str "finish")) (af (xC (.str "finish")) (af (xC (.str "give")) aA)))))))) aF))))) (aI 9)) k [some (.scr ns),some (.own true (.l (t++[.int 0,.int 0,.int 0,.int 0]))),x2,x3,x4,some (.own false (.l L)),some (.dat (.int (m+u))),x7,some (.dat (.int r)),x9,x10,x11,x12]=k [some (.scr ns),some (.own true (.l (t++[.int 0,.int 0,.int 0,.int 0,.int 0]))),x2,x3,x4,some (.own false (.l L)),some (.dat (.int (m+u))),x7,some (.dat (.int r)),some (.dat (.str d)),x10,x11,x12]:=fun k=>by simp[x,I]
  have X:∀k:SM,aB (bE (bb (af (xV 9) (af (xV 8) (af (xV 6) aA)))) (aI 10)) k [some (.scr ns),some (.own true (.l (t++[.int 0,.int 0,.int 0,.int 0,.int 0]))),x2,x3,x4,some (.own false (.l L)),some (.dat (.int (m+u))),x7,some (.dat (.int r)),some (.dat (.str d)),x10,x11,x12]=k [some (.scr ns),some (.own true (.l (t++[.int 0,.int 0,.int 0,.int 0,.int 0]))),x2,x3,x4,some (.own false (.l L)),some (.dat (.int (m+u))),x7,some (.dat (.int r)),some (.dat (.str d)),some (.dat (.tuple [.str d,.int r,.int (m+u)])),x11,x12]:=fun k=>by simp[show(3:Nat)<=sizeLine by omega]
  rw[S,T,U,X];simp only[mx,List.getElem?_cons_succ,List.getElem?_cons_zero,R,dM,qP,H,if_true,List.set_cons_succ,List.set_cons_zero]
 have o:∀d:Str,PyData.strOk d=true->(d==("take":Str))=false->(kU (bo (ao (aP false) (xV 9) (xC (.str "take")))) (ao jQ (xV 10) (bb (af (ao dN (xC (.int 1)) (aQ (aM dP (aS 0 (aS 1 (au (xC (.int 30)) aF)))))) aA))) (xV 10)) [some (.scr ns),some (.own true (.l (t++[.int 0,.int 0,.int 0,.int 0,.int 0]))),x2,x3,x4,some (.own false (.l (cs.map cT))),some (.dat (.int (m+u))),x7,some (.dat (.int r)),some (.dat (.str d)),some (.dat (.tuple [.str d,.int r,.int (m+u)])),x11,x12]=.ok (.tuple [.str d,.int r,.int (m+u)]) [some (.scr ns),some (.own true (.l (t++[.int 0,.int 0,.int 0,.int 0,.int 0]))),x2,x3,x4,some (.own false (.l (cs.map cT))),some (.dat (.int (m+u))),x7,some (.dat (.int r)),some (.dat (.str d)),some (.dat (.tuple [.str d,.int r,.int (m+u)])),x11,x12]:=fun d Y Z=>by generalize cs.map cT=L;simp[cb Y gz,Z]
 simp only[List.mem_cons,List.not_mem_nil,or_false] at B;have f:(t++[PyData.int 0,.int 0,.int 0,.int 0,.int 0]).length<=t.length+6:=by simp
 rcases B with rfl | rfl | rfl | rfl | rfl | rfl | rfl
 ·refine fin "take" (.take r (m+u) (1+v)) (t++[.int 0,.int 0,.int 0,.int 0,.int 0,.int 0]) _ rfl rfl rfl ⟨⟨h,by show r<=3;omega⟩,⟨by show m<=m+u;omega,by show m+u<=m+12;omega⟩,fun a b c e=>by cases e;omega⟩ (by simp) ?_;generalize cs.map cT=L;simp[cb gz gz,yz,D,cT,show(4:Nat)<=sizeLine by omega]
 ·exact fin "step" (.step r (m+u)) _ _ rfl rfl rfl ⟨⟨h,by show r<=3;omega⟩,⟨by show m<=m+u;omega,by show m+u<=m+12;omega⟩,fun a b c e=>by cases e⟩ f (o "step" fN nA)
 ·exact fin "step" (.step r (m+u)) _ _ rfl rfl rfl ⟨⟨h,by show r<=3;omega⟩,⟨by show m<=m+u;omega,by show m+u<=m+12;omega⟩,fun a b c e=>by cases e⟩ f (o "step" fN nA)
 ·exact fin "step" (.step r (m+u)) _ _ rfl rfl rfl ⟨⟨h,by show r<=3;omega⟩,⟨by show m<=m+u;omega,by show m+u<=m+12;omega⟩,fun a b c e=>by cases e⟩ f (o "step" fN nA)
 ·exact fin "finish" (.finish r (m+u)) _ _ rfl rfl rfl ⟨⟨h,by show r<=3;omega⟩,⟨by show m<=m+u;omega,by show m+u<=m+12;omega⟩,fun a b c e=>by cases e⟩ f (o "finish" iX pJ)
 ·exact fin "finish" (.finish r (m+u)) _ _ rfl rfl rfl ⟨⟨h,by show r<=3;omega⟩,⟨by show m<=m+u;omega,by show m+u<=m+12;omega⟩,fun a b c e=>by cases e⟩ f (o "finish" iX pJ)
 ·exact fin "give" (.give r (m+u)) _ _ rfl rfl rfl ⟨⟨h,by show r<=3;omega⟩,⟨by show m<=m+u;omega,by show m+u<=m+12;omega⟩,fun a b c e=>by cases e⟩ f (o "give" gA uF)
theorem Ek:∀(a:List Ca) (l:Int) (c:Ca),lW l a->gB c (match a.getLast? with | some x=>x.mo | none=>l)->lW l (a++[c])
 | [],l,c,_,h=>⟨h,trivial⟩
 | x::a,l,c,⟨h1,h2⟩,h=>⟨h1,Ek a x.mo c h2 (by
  cases a with
  | nil=>exact h
  | cons y d=>
   rw[List.getLast?_cons_cons] at h;cases b:(y::d).getLast? with
   | none=>simp at b
   | some z=>rw[b] at h;exact h)⟩
theorem El{C:Addr}{ns:List Int}{x2 x3 x4 x11 x12:Option ai}(j:ns.length<=63):∀(n:Nat) (i:Int) {t:List PyData}{cs:List Ca}{m:Int}{x7 x8 x9 x10:Option ai},t.length+6 * n<=900->cs.length+n<100->0<=m->lW 0 cs->m=(match cs.getLast? with | some x=>x.mo | none=>0)->
  ∃(b:List Ca) (t':List PyData) (d:Int) (k f g a:Option ai),lW 0 b/\b.length=cs.length+n/\t'.length<=t.length+6 * n/\cQ (aI 7) (nq C) (L3.intsFrom i n) [some (.scr ns),some (.own true (.l t)),x2,x3,x4,some (.own false (.l (cs.map cT))),some (.dat (.int m)),x7,x8,x9,x10,x11,x12]=.nx [some (.scr ns),some (.own true (.l t')),x2,x3,x4,some (.own false (.l (b.map cT))),some (.dat (.int d)),k,f,g,a,x11,x12]
 | 0,i,t,cs,m,x7,x8,x9,x10,_,_,_,up,_=>⟨cs,t,m,x7,x8,x9,x10,up,rfl,by omega,by simp[L3.intsFrom,cQ]⟩
 | n+1,i,t,cs,m,x7,x8,x9,x10,B,D,o,up,p=>by obtain⟨c,q,f,g,a,ok,l1,e⟩:=RG (C:=C) (ns:=ns) (t:=t) (cs:=cs) (m:=m) (x2:=x2) (x3:=x3) (x4:=x4) (x7:=some (.dat (.int i))) (x8:=x8) (x9:=x9) (x10:=x10) (x11:=x11) (x12:=x12) j (by omega) o (by omega);have r:=ok.m;obtain⟨b,s,d,u,v,w,h,y,z,l2,A⟩:=El (C:=C) (x2:=x2) (x3:=x3) (x4:=x4) (x11:=x11) (x12:=x12) j n (i+1) (t:=q) (cs:=cs++[c]) (m:=c.mo) (x7:=some (.dat (.int i))) (x8:=f) (x9:=g) (x10:=a) (by omega) (by simp;omega) (by omega) (Ek cs 0 c up (by rw[<-p];exact ok)) (by simp);refine⟨b,s,d,u,v,w,h,y,by simp at z;omega,by omega,?_⟩;rw[uy,cQ,<-A];simp only[aI,List.length_cons,List.set_cons_succ,List.set_cons_zero,e]
theorem RH{C:Addr}{ns:List Int}{t:List PyData}{a:Int}{c:Sh}{b:List bU}{most:Nat}(i:ns.length<=63)(B:t.length<=500)(D:most<=40)(z:lA a c)(n:b.length<=6)(hd:∀d∈b,lQ d.plan)(o:gx [.dat (cS a c)]=.rt (.dat .none) [])(q:lE [.dat (cY b)]=.rt (.dat .none) []) :
  ∃S j m t',pq C [.scr ns,.own true (.l t),.dat (cS a c),.dat (cY b),.dat (.int most)]=.rt (.own false (.pr C (al S) (.list j))) [.l t']/\Ru S m (most+1)/\m<=12 * (most+1)/\S.a=a/\S.ss=c/\S.ds=b/\t'.length<=t.length+300/\j.length<=most:=by
 have sz:1000<sizeLine:=by decide
 obtain⟨k,E,G,h2⟩:=fM (ns:=ns) (t:=t) (many:=most+1) i (by omega) (by omega);obtain⟨f,s,H,I,J,M,u,up,nd,l2,e⟩:=El (C:=C) (ns:=ns) (x2:=some (.dat (cS a c))) (x3:=some (.dat (cY b))) (x4:=some (.dat (.int most))) (x11:=none) (x12:=none) i k.toNat 0 (t:=t++[.int 0]) (cs:=[]) (m:=0) (x7:=none) (x8:=none) (x9:=none) (x10:=none) (by simp;omega) (by simp;omega) (by omega) trivial rfl;have v:bZ [.int k]=some (L3.intsFrom 0 k.toNat):=by simp only[bZ];rw[if_pos (by simp;omega)]
 simp only[List.length_append,List.length_cons,List.length_nil] at l2 nd;obtain⟨S,N,m,g,p,h,w,x,y⟩:=RD (C:=C) (cs:=.take 0 0 30::f) z n hd o q ⟨⟨⟨Int.le_refl _,by show(0:Int)<=3;omega⟩,⟨Int.le_refl _,by show(0:Int)<=0+12;omega⟩,fun r m t e=>by cases e;omega⟩,up⟩ (by simp;omega);simp only[List.length_cons] at p h;refine⟨S,f.map cT,m,s,?_,p.mono (Int.le_refl _) (by omega),by omega,w,x,y,by omega,by rw[List.length_map];omega⟩;have A:1+(f.map cT).length<=sizeLine:=by rw[List.length_map];omega
 rw[List.map_nil] at e;rw[List.map_cons] at g;generalize cS a c=O at *;generalize cY b=dd at *;generalize f.map cT=L at *;simp only[cT] at g;simp[-bZ,pq,xJ,h2,v,e,oI,oH,mM,oG,bT,g,A,show(4:Nat)<=sizeLine by omega,show(1:Nat)<=sizeLine by omega]
theorem Em{g:PyData->PyData->Option PyData}{a b:XM PyData}{U c d:ak}{x y z:PyData}(e:a U=.ok x c)(f:b c=.ok y d)(h:g x y=some z):ao g a b U=.ok z d:=by simp[e,f,h]
theorem yH{P:Nat->Prop}(h:P 0/\P 1/\P 2/\P 3/\P 4)(n:Nat)(f:n<=4):P n:=by
 have:n=0\/n=1\/n=2\/n=3\/n=4:=by omega
 obtain⟨a,b,c,d,e⟩:=h;rcases this with rfl | rfl | rfl | rfl | rfl<;>assumption
noncomputable abbrev du:PyData:=.tuple [.int 0,.int 0,.int 0,.int 0]
theorem RI:∀(n:Nat) (h:n<=4),bZ [.int n]=some (L3.intsFrom 0 n):=yH ⟨by kernel_rfl,by kernel_rfl,by kernel_rfl,by kernel_rfl,by kernel_rfl⟩
theorem RJ:∀(n:Nat) (h:n<=4),oi (.list [du]) (.int n)=some (.list (List.replicate n du)):=yH ⟨by kernel_rfl,by kernel_rfl,by kernel_rfl,by kernel_rfl,by kernel_rfl⟩
theorem RK:∀(n:Nat) (h:n<=4),SeqAt.shaped (.list (List.replicate n du))=true:=yH ⟨by kernel_rfl,by kernel_rfl,by kernel_rfl,by kernel_rfl,by kernel_rfl⟩
theorem lX(k:Int):wY [.dat (.list []),.dat (.int k)]=.rt (.dat du) []:=by kernel_rfl
theorem En{C:Addr}:∀(n:Nat) (i:Int) (a:List PyData) (x:Option ai),a.length+n<=sizeLine->cj (aI 0) dX (rM C) (L3.intsFrom i n) a [x,some (.dat (.list []))]=some (a++List.replicate n du)
 | 0,i,a,x,_=>by simp[L3.intsFrom,cj]
 | n+1,i,a,x,h=>by
  have b:=En (C:=C) n (i+1) (a++[du]) (some (.dat (.int i))) (by simp;omega);have e:rM C [some (.dat (.int i)),some (.dat (.list []))]=.ok du [some (.dat (.int i)),some (.dat (.list []))]:=by have:=lX i;simp[rM,this]
  rw[uy,cj];simp only[aI,List.set_cons_zero,dX,e];rw[if_pos (by omega),b,List.replicate_succ];simp
theorem RL{C:Addr}{S:Hl}{n:Nat}{io:Bool}{r:ak}(h:S.ds.length=n):dG fj (af (cu C 0 "deeds") aA) (some (.own io (hB C S))::r)=.ok (.int n) (some (.own io (hB C S))::r):=by subst h;have de:=lS S.ds;simp[de]
theorem RM{f:List PyData->Option (List PyData)}{a:XM PyData}{U:ak}{x:PyData}{l:List PyData}(b:a U=.ok x U)(c:f [x]=some l):ia f (af a aA) U=.ok l U:=by simp[b,c]
theorem RN{a:XM (List PyData)}{g:GM}{t:XM Bool}{e:XM PyData}{c:ai}{d:PyData}{V L:List PyData}(b:a [some c,some (.dat d)]=.ok V [some c,some (.dat d)])(f:cj g t e V [] [none,some (.dat d)]=some L)(h:L.length<=sizeLine):gu 1 [1] a g t e [some c,some (.dat d)]=.ok (.list L) [some c,some (.dat d)]:=by have:iF 1 [1] [some c,some (.dat d)]=[none,some (.dat d)]:=rfl;simp[b,this,f,h]
theorem Eo{C:Addr}{S:Hl}{n:Nat}(e:S.rows=[])(f:S.ds.length=n)(h:n<=4):lB C [.own true (hB C S)]=.rt (.dat (.list (List.replicate n du))) [hB C S]:=by
 have sz:1000<sizeLine:=by decide
 have a:=uD (C:=C) (S:=S);rw[e] at a;have g:=En (C:=C) n 0 [] none (by simp;omega);rw[List.nil_append] at g;have i:=RL (C:=C) (S:=S) (n:=n) (io:=true) (r:=[some (.dat (.list []))]) f;have j:(List.replicate n du).length<=sizeLine:=by simp;omega
 have k:=RN (c:=.own true (hB C S)) (d:=.list []) (RM i (RI n h)) g j;generalize List.replicate n du=L at *;have l:bE (aQ (dt C 0 "log" (jy C))) (aI 1) [some (.own true (hB C S)),none]=.nx [some (.own true (hB C S)),some (.dat (.list []))]:=by simp[dt,cz,bT,a]
 have m:rN C [some (.own true (hB C S)),none]=.rt (.dat (.list L)) [some (.own true (hB C S)),some (.dat (.list []))]:=by unfold rN;simp only[aB,l,bz,k,dM]
 generalize hB C S=b at *;simp[lB,m]
theorem RO{C:Addr}{S:Hl}(b:S.rows=[]):rO C [.own true (hB C S)]=.rt (.dat (.list [])) [hB C S]:=by have a:=uD (C:=C) (S:=S);rw[b,List.map_nil] at a;simp[rO,xl,dt,cz,a,cQ,mO,lb,bT,gL,cj]
theorem RP{C:Addr}{S:Hl}(b:S.rows=[]):rP C [.own true (hB C S)]=.rt (.dat (.list [])) [hB C S]:=by have a:=uD (C:=C) (S:=S);rw[b,List.map_nil] at a;simp[rP,xm,dt,cz,a,cQ,mO,lb,bT,gL]
theorem RQ{C:Addr}{S:Hl}(b:S.rows=[]):rQ C [.own true (hB C S)]=.rt (.dat (.list [])) [hB C S]:=by have a:=uD (C:=C) (S:=S);rw[b,List.map_nil] at a;simp[rQ,xn,dt,cz,a,cQ,oK,lb,bT]
theorem RS{C:Addr}{S:Hl}{z p d:PyData}(h:gx [.dat z]=.ex "NoZone" []):iQ C [.own true (hB C S),.dat z,.dat p,.dat d]=.rt (.dat (jD 0)) [hB C S]:=by
 have e:kl C [.own true (hB C S),.dat z,.dat p,.dat d]=.ex "NoZone" [hB C S]:=by simp[kl,pd,h]
 simp[iQ,pp,my,e,Qa]
theorem RT{C:Addr}{S:Hl}{z p d:PyData}(a:gx [.dat z]=.rt (.dat .none) [])(b:ki [.dat p]=.ex "NoPlan" []):iQ C [.own true (hB C S),.dat z,.dat p,.dat d]=.rt (.dat (jD 1)) [hB C S]:=by
 have e:kl C [.own true (hB C S),.dat z,.dat p,.dat d]=.ex "NoPlan" [hB C S]:=by simp[kl,pd,a,b]
 simp[iQ,pp,my,e,Qb]
theorem RU{C:Addr}{S:Hl}{z p d:PyData}(c:gx [.dat z]=.rt (.dat .none) [])(f:ki [.dat p]=.rt (.dat .none) [])(g:dc d=true)(b:cA d 0 ((S.ds.length:Int) - 1)=false):iQ C [.own true (hB C S),.dat z,.dat p,.dat d]=.rt (.dat (jD 5)) [hB C S]:=by
 have a:=ie (d:=d) (lo:=0) (hi:=(S.ds.length:Int) - 1) g;rw[b] at a;have de:=lS S.ds;have e:kl C [.own true (hB C S),.dat z,.dat p,.dat d]=.ex "NoDeed" [hB C S]:=by simp[kl,pd,c,f,de,a]
 simp[iQ,pp,my,e,Qr]
theorem RV:aP true (.list [jD 0,jD 1,jD 5]) (.list [jD 0,jD 1,jD 5])=some (.bool false):=yj (by kernel_rfl)
theorem yI(neg:Bool):aP neg (.list []) (.list [])=some (.bool (!neg)):=by cases neg<;>kernel_rfl
theorem pK:jC (.once 5)=.tuple [.str "once",.int 5]:=rfl
theorem RW{C:Addr}{S:Hl}{L:List PyData}{b c d e f g i j k l a:Option ai}(h:lB C [.own true (hB C S)]=.rt (.dat (.list L)) [hB C S]):aQ (aM (lB C) (aS 11 aF)) [b,c,d,e,f,g,i,j,k,l,a,some (.own false (hB C S))]=.ok (.list L) [b,c,d,e,f,g,i,j,k,l,a,some (.own false (hB C S))]:=by simp[h]
theorem RX{a:List PyData}{n:Nat}{b c d:Option ai}{r:ak}(h:a.length=n):dG fj (af (xV 3) aA) (b::c::d::some (.dat (.tuple a))::r)=.ok (.int n) (b::c::d::some (.dat (.tuple a))::r):=by subst h;simp
theorem pL{U:ak}:cm (af (bb (af (xC (.int 0)) (af (xC (.int 0)) (af (xC (.int 0)) (af (xC (.int 0)) aA))))) aA) U=.ok (.list [du]) U:=by
 have sz:1000<sizeLine:=by decide
 simp[show(1:Nat)<=sizeLine by omega,show(4:Nat)<=sizeLine by omega]
theorem RY{A B D:XM Bool}{U:ak}(a:A U=.ok false U)(b:B U=.ok false U)(c:D U=.ok false U){s:SM}:bQ (iD A (iD B D)) s bW U=.nx U:=by simp[a,b,c]
theorem yJ{A:XM PyData}{U:ak}(h:A U=.ok (.bool false) U):bo A U=.ok false U:=by simp[h]
theorem RZ{C:Addr}{e:List Int}(u:e.length<=63):CN C [.scr e]=.rt (.dat (.bool true)) []:=by
 have sz:1000<sizeLine:=by decide
 obtain⟨a,ss,t1,h2,s4,rise,ah,top,l1⟩:=PX (ns:=e) (t:=[]) (wd:=40) u (by simp) (by omega);simp only[List.length_nil] at l1;have z:lA a ss:=⟨by omega,rise,ah,fun p B=>by have:=top p B;omega⟩
 obtain⟨b,J,hd,l4,l2,h3⟩:=RF (ns:=e) (t:=t1) (most:=4) (wd:=20) u (by omega) ⟨by omega,by omega⟩ ⟨by omega,by omega⟩;have v:=PC z;have L:=Ee (ds:=b) (by omega) hd;have D:=Ee (ds:=[]) (by simp) (by simp);obtain⟨S,cd,m,y,h4,R,hm,b1,b2,b3,l3,a0⟩:=RH (C:=C) (ns:=e) (t:=J) (most:=9) u (by omega) (by omega) z (by omega) (fun d h=>(hd d h).1) v L;have w:pq C [.scr e,.own true (.l J),.dat (cS a ss),.dat (cY b),.dat (.int 9)]=.rt (.own false (.pr C (al S) (.list cd))) [.l y]:=h4;obtain⟨bad,hb,h5⟩:=Qp (ns:=e) (t:=y) u (by omega);obtain⟨M,B,N⟩:=Qq (ns:=e) (t:=y++[.int 0]) u (by simp;omega);simp only[List.append_assoc,List.cons_append,List.nil_append] at N;obtain⟨q,O,Q⟩:=iU (ns:=e) (t:=y++[.int 0,.int 0]) (ds:=[.none,.int (-1),.int b.length,.bool true,.str "0",.tuple [.int 0]]) u (by simp;omega) (by simp) (by simp);have x:dc q=true/\cA q 0 ((S.ds.length:Int) - 1)=false:=by
  rw[b3];simp only[List.mem_cons,List.not_mem_nil,or_false] at O;rcases O with rfl | rfl | rfl | rfl | rfl | rfl
  ·exact⟨rfl,rfl⟩
  ·exact⟨rfl,by simp[cA]⟩
  ·exact⟨rfl,by simp[cA];omega⟩
  ·exact⟨rfl,rfl⟩
  ·exact⟨rfl,rfl⟩
  ·exact⟨rfl,rfl⟩
 have a1:=RS (C:=C) (S:=S) (p:=M) (d:=q) (Qn bad hb).2;have a2:=RT (C:=C) (S:=S) (d:=q) v (Qo M B).2;have T:=RU (C:=C) (S:=S) v (Qd (p:=.once 5) ⟨by omega,by omega⟩) x.1 x.2;rw[pK] at T;have U:=yp (C:=C) v L (by omega);have X:=yp (C:=C) v D (by simp);have q1:=Eo (C:=C) (S:=eX a ss b) (n:=b.length) rfl rfl (by omega);have Y:=Eo (C:=C) (S:=eX a ss []) (n:=0) rfl rfl (by omega);have q2:=RO (C:=C) (S:=eX a ss b) rfl;have q3:=RP (C:=C) (S:=eX a ss b) rfl;have q4:=RQ (C:=C) (S:=eX a ss b) rfl;have rp:=RJ b.length (by omega);have sn:=yj (RK b.length (by omega));have de:=lS b;have d0:cY []=.tuple []:=by unfold cY;rfl
 have ld:(b.map dI).length=b.length:=by simp
 rw[d0] at X;generalize List.replicate b.length du=LT at *;simp only[List.replicate] at Y;generalize cS a ss=Z at *;rw[de] at h3 w U;generalize b.map dI=DD at *;rw[<-ld] at Q;generalize a4:eX a ss b=A at *;generalize a5:eX a ss []=N0 at *;generalize a6:b.length=n at *;refine Qk (n:=11) ?_;unfold xW;simp only[List.replicate];refine ij (by simp[xK]<;>rfl) ?_;refine ij (by simp[xL,h2]<;>rfl) ?_;refine ij (by simp[xM,h3]<;>rfl) ?_;refine ij (by simp[xN,oI,oH,w]<;>rfl) ?_;refine ij (by simp[xO,wh,qU,h5,N]<;>rfl) ?_;refine ij (by simp[xP,show(2:Nat)<=sizeLine by omega]<;>rfl) ?_;refine ij (by simp[xQ,Q,show(6:Nat)<=sizeLine by omega,show(1:Nat)<=sizeLine by omega]<;>rfl) ?_;refine ij (by simp[xR,a1,a2,show(2:Nat)<=sizeLine by omega]<;>rfl) ?_;refine ij (by simp[xS,T,RV,show(3:Nat)<=sizeLine by omega,show(2:Nat)<=sizeLine by omega,show(1:Nat)<=sizeLine by omega]<;>rfl) ?_;refine ij (by simp[xT,lq,lp,U]<;>rfl) ?_;have E:∀f g i j k o r s c,sC C [f,g,some (.dat Z),some (.dat (.tuple DD)),i,j,k,o,r,s,c,some (.own false (hB C A))]=.nx [f,g,some (.dat Z),some (.dat (.tuple DD)),i,j,k,o,r,s,c,some (.own false (hB C A))]:=fun f g i j k o r s c=>by
  unfold sC;refine RY (yJ (Em (RW q1) (Em pL (RX (n:=n) ld) rp) sn)) (yJ ?_) (yJ ?_)
  ·simp[q4,yI]
  ·simp[ry,rs,oE,lq,lp,X,Y,yI]
 refine ij (E _ _ _ _ _ _ _ _ _) ?_;have G:∀f g H I i j k o r s c,sD C [f,g,H,I,i,j,k,o,r,s,c,some (.own false (hB C A))]=.rt (.dat (.bool true)) [f,g,H,I,i,j,k,o,r,s,c,some (.own false (hB C A))]:=fun f g H I i j k o r s c=>by simp[sD,q2,q3,yI]
 exact⟨_,_,G _ _ _ _ _ _ _ _ _ _ _⟩
end K3
namespace K3
open PySem PySem.Spec L2 L2.L3 PyProof.Rows
theorem Sa{K:Frag}{j:Str->Option Value}{f:FM}{e:List V}{H:Hp}{Q:VK}{E:XK}(k:GH j H)(l:∀c:List Int,c.length<=63->f [.scr c]=.rt (.dat (.bool true)) [])(h:∃a c,e=[.ref a]/\ir K H a c/\∀d,Q (.bl true) d):aW K j f e H Q E:=by obtain⟨a,c,rfl,g,q⟩:=h;refine⟨k,[.scr c],[[]],[],.oth (fun _ z=>by cases z) (fun _ _ z=>by cases z) ⟨a,rfl,g⟩ .nil,List.nodup_nil,fun b m=>by simp at m,?_⟩;rw[l c g.1];intro v d o i n _ _;rw[show v=.bl true from DV.bl_inv n];exact q d
noncomputable def yK(K:Frag):Sp:=fun b H Q _=>∃a d,b=[.ref a]/\ir K H a d/\∀c,Q (.bl true) c
abbrev LK(K:Frag)(f:Addr)(a:Value)(b:Option Addr)(n q:Str)(s:Stmt)(k d p:Value)(e:Option Addr)(c t:Value)(l:Array (Option Value)):Prop:=K.lookup f=some ⟨a,b,.func (fnOf n q (jf s) (hF s) (aZ s) .none k d p e c t),l⟩
abbrev NI(K:Frag)(n:Str)(f:Addr):Prop:=nsIn K mainGlobals n=some (some (.ref f))
abbrev NV(K:Frag)(n:Str)(i:Int)(t:Tok):Prop:=nsIn K mainGlobals n=some (some (.int i t))
abbrev NZ(K:Frag)(n:Str):Prop:=nsIn K mainGlobals n=some none
abbrev KI(K:Frag)(f:Addr):Prop:=keepIn K (.ref f)=true
local macro_rules | `(tactic| walk_at "b")=>`(tactic| first|(exact(fun _ _ _ _ _ _ us hl=>match us,hl with | [_],_=>rfl))|(exact(fun _ _ _ _ _ _ us hl=>match us,hl with | [_,_],_=>rfl))|(exact(fun _ _ _ _ _ _ us hl=>match us,hl with | [_,_,_],_=>rfl))|(exact(fun _ _ _ _ _ _ us hl=>match us,hl with | [_,_,_,_],_=>rfl))|(exact(fun _ _ _ _ _ _ us hl=>match us,hl with | [_,_,_,_,_],_=>rfl)))
theorem all_mk{l:PySem.W.OpenLaw}{w:World}{K:Frag}{h:Heap}{mg:Str->Option Value}{fa:Addr}(X:K.In h)(G:h.Ns mainGlobals mg)(d4:mg "law" = some (.ref fa))
  {b:Addr}
  {J:Addr}{b0 a3:Option Addr}{b1:Array (Option Value)}{b2 a4 a5 a6 L a7:Value}
  {d5 d6 d7 d8 d9 e0 e1 e2 e3 e4 b3 b4 b5 b6:Tok}
  {o:Addr}{A:Option Addr}{B:Array (Option Value)}{D:Nat}{p q r t:Tok}
  {a:Addr}{u:Nat}{d f g i j k m n:Tok}
  {D_:Addr}
  (Z:NI K "Hall" b)
  (l0:DF K "is_whole" sE)
  (l1:DF K "is_tuple_of" sF)
  (l2:DF K "is_ahead" sG)
  (l3:DF K "is_moment" sH)
  (l4:DF K "is_runner" sI)
  (l5:DF K "is_term" sJ)
  (l6:DF K "are_shifts" sK)
  (l7:DF K "is_zone" sL)
  (l8:DF K "has_word" sM)
  (l9:DF K "is_plan" sN)
  (e5:DF K "is_late" sO)
  (e6:DF K "is_deed" sP)
  (e7:DF K "are_deeds" sQ)
  (e8:DF K "check_zone" sR)
  (e9:DF K "check_plan" sS)
  (f0:DF K "check_moment" sT)
  (f1:DF K "check_deeds" sU)
  (f2:DF K "check_runner" sV)
  (f3:DF K "check_term" sW)
  (f4:DF K "shown" sX)
  (f5:DF K "stretches" sY)
  (f6:DF K "is_ahead_of" sZ)
  (f7:DF K "first_showing" tf)
  (f8:DF K "first_day" tj)
  (f9:DF K "daily_time" tm)
  (g0:DF K "time_of" tp)
  (g1:DF K "tally" tq)
  (g2:DF K "tallies" tt)
  (g3:DF K "lateness" tu)
  (g4:DF K "begun_again" tw)
  (g5:DF K "by_runner" tx)
  (g6:DF K "long_done" tz)
  (g7:DF K "is_left_out" tD)
  (g8:MF K b "__init__" "Hall.__init__" tE)
  (g9:MF K b "is_held" "Hall.is_held" tF)
  (h0:MF K b "check_call" "Hall.check_call" tG)
  (h1:MF K b "check_holder" "Hall.check_holder" tH)
  (h2:MF K b "take" "Hall.take" tI)
  (h3:MF K b "give" "Hall.give" tJ)
  (h4:MF K b "add_row" "Hall.add_row" tK)
  (h5:MF K b "is_busy" "Hall.is_busy" tL)
  (h6:MF K b "first_unsettled" "Hall.first_unsettled" tM)
  (h7:MF K b "step" "Hall.step" tN)
  (h8:MF K b "step_behind_a_fall" "Hall.step_behind_a_fall" tO)
  (h9:MF K b "step_ahead" "Hall.step_ahead" tP)
  (i0:MF K b "finish" "Hall.finish" tQ)
  (i1:MF K b "log" "Hall.log" tR)
  (i2:DF K "check_call" tS)
  (i3:DF K "ask" tT)
  (i4:DF K "do" tU)
  (i5:DF K "run" tV)
  (i6:DF K "_law_cell_at" tW)
  (i7:DF K "_law_mixed" tY)
  (i8:DF K "_law_draw" tZ)
  (i9:DF K "_law_pick" ua)
  (j0:DF K "_law_zone" ub)
  (j1:DF K "_law_plan" uc)
  (j2:DF K "_law_deeds" ud)
  (j3:DF K "_law_called" ue)
  (j4:DF K "_law_odd_zone" uf)
  (j5:DF K "_law_odd_plan" ug)
  (j6:DF K "_law_which" uh)
  (j7:DF K "_law_ask" ui)
  (b7:NI K "law" J)
  (j8:LK K J b2 b0 "law" "law" ko a4 a5 a6 a3 L a7 b1)
  (j9:codeIn K L "law" = true)
  (k0:KI K J)
  (k1:NV K "LAST_MOMENT" (9999) d5)
  (k2:NV K "LAST_HOUR" (23) d6)
  (k3:NV K "LEAST_AHEAD" (-12) d7)
  (k4:NV K "MOST_AHEAD" (14) d8)
  (k5:NV K "MOST_SHIFTS" (6) d9)
  (k6:NV K "MOST_STEP" (999) e0)
  (k7:NV K "MOST_DEEDS" (6) e1)
  (k8:NV K "MOST_WITHIN" (999) e2)
  (k9:NV K "LAST_RUNNER" (3) e3)
  (b8:NV K "MOST_TERM" (99) e4)
  (m0:NV K "DAY_HOURS" (24) b3)
  (b9:NI K "WORDS" o)
  (M:K.lookup o=some ⟨.type "tuple",A,.seq #[.str "begun" p,.str "done" q,.str "left" r,.str "unsure" t] D,B⟩)
  (c0:NV K "PLAN" (0) b4)
  (c1:NV K "LATE" (1) b5)
  (c2:NV K "AGAIN" (2) b6)
  (c3:NI K "LENGTHS" a)
  (x:K.lookup a=some ⟨.type "dict",none,.dict #[⟨hashStr w "take",.str "take" d,.int 4 f⟩,⟨hashStr w "give",.str "give" g,.int 3 i⟩,⟨hashStr w "step",.str "step" j,.int 3 k⟩,⟨hashStr w "finish",.str "finish" m,.int 3 n⟩] u,#[]⟩)
  (m1:NZ K "ANY_ZONE")
  (m2:NZ K "NO_DEEDS")
  (m3:NZ K "ValueError")
  (c4:NZ K "all")
  (c5:NZ K "any")
  (m4:NZ K "bool")
  (c6:NZ K "int")
  (m5:NZ K "isinstance")
  (c7:NZ K "len")
  (m6:NZ K "list")
  (m7:NZ K "max")
  (c8:NZ K "min")
  (m8:NZ K "range")
  (m9:NZ K "sorted")
  (c9:NZ K "str")
  (n0:NZ K "tuple")
  (d0:NZ K "zip")
  (n1:plainGet K b Str.empty=true)
  (n2:PySem.W.hasDictIn K b=true)
  (n3:PySem.W.plainOver K b=true)
  (n4:findIn K (.ref b) "__setattr__" = some (some (.builtin "object.__setattr__")))
  (d1:PySem.W.makesIn K b=true)
  (d2:KI K b)
  (N:findIn K (.ref b) "begun" = some none)
  (O:findIn K (.ref b) "deeds" = some none)
  (I:findIn K (.ref b) "holder" = some none)
  (R:findIn K (.ref b) "holds" = some none)
  (a0:findIn K (.ref b) "last" = some none)
  (a1:findIn K (.ref b) "rows" = some none)
  (y:findIn K (.ref b) "settled" = some none)
  (S:findIn K (.ref b) "until" = some none)
  (U:findIn K (.ref b) "words" = some none)
  (a2:findIn K (.ref b) "zone" = some none)
  (Y:NI K "DueError" D_)
  (z:(a==sysModules)=false)
  (a8:excIn K D_ oq "ValueError.__new__" = true)
  (a9:Bu K D_ dO=true) :
  ∃fd:FuncData,(∀(s:Shared) (v:Value),BindsTo s fd ⟨[v],[]⟩ [("_law_script",v)])/\∀base:Heap,K.In base->base.Ns mainGlobals mg->ay l.prog w K mg base (aU l.prog w) 12 fa fd ["_law_script"] (yK K):=by
 have e:=d4.symm.trans (mg_of X G b7);cases e;have d3:=nK (st:=ko) j8 j9 k0;have n5:FD K mg "law" ko ["_law_script"] _ _:=⟨d3,mg_of X G b7,d3.binds fun _ _ _ _ _ _=>cX fun _=>rfl⟩
 have HC:cR K mg b:={
  cl:=⟨n1,n2,n3,n4⟩
  mg:=mg_of X G Z
  mks:=d1
  kpC:=d2
  d28:=N
  d29:=O
  d2a:=I
  d2b:=R
  d2c:=a0
  d2d:=a1
  d2e:=y
  d2f:=S
  d2g:=U
  d2h:=a2
  d2i:=g8.md fun _ _ _ _ _ _=>eJ fun _ _ _=>rfl
  d2j:=g9.md fun _ _ _ _ _ _=>gw fun _ _=>rfl
  d2k:=h0.md fun _ _ _ _ _ _=>eJ fun _ _ _=>rfl
  d2l:=h1.md fun _ _ _ _ _ _=>eJ fun _ _ _=>rfl
  d2m:=h2.md fun _ _ _ _ _ _=>oJ fun _ _ _ _=>rfl
  d2n:=h3.md fun _ _ _ _ _ _=>eJ fun _ _ _=>rfl
  d2o:=h4.md fun _ _ _ _ _ _=>gw fun _ _=>rfl
  d2p:=h5.md fun _ _ _ _ _ _=>cX fun _=>rfl
  d2q:=h6.md fun _ _ _ _ _ _=>cX fun _=>rfl
  d2r:=h7.md fun _ _ _ _ _ _=>eJ fun _ _ _=>rfl
  d2s:=h8.md fun _ _ _ _ _ _=>eJ fun _ _ _=>rfl
  d2t:=h9.md fun _ _ _ _ _ _=>eJ fun _ _ _=>rfl
  d2u:=i0.md fun _ _ _ _ _ _=>eJ fun _ _ _=>rfl
  d2v:=i1.md fun _ _ _ _ _ _=>cX fun _=>rfl
 }
 have T:Tx l.prog w K mg:={
  d00:=l0.fd X G fun _ _ _ _ _ _=>eJ fun _ _ _=>rfl
  d01:=l1.fd X G fun _ _ _ _ _ _=>gw fun _ _=>rfl
  d02:=l2.fd X G fun _ _ _ _ _ _=>cX fun _=>rfl
  d03:=l3.fd X G fun _ _ _ _ _ _=>cX fun _=>rfl
  d04:=l4.fd X G fun _ _ _ _ _ _=>cX fun _=>rfl
  d05:=l5.fd X G fun _ _ _ _ _ _=>cX fun _=>rfl
  d06:=l6.fd X G fun _ _ _ _ _ _=>cX fun _=>rfl
  d07:=l7.fd X G fun _ _ _ _ _ _=>cX fun _=>rfl
  d08:=l8.fd X G fun _ _ _ _ _ _=>eJ fun _ _ _=>rfl
  d09:=l9.fd X G fun _ _ _ _ _ _=>cX fun _=>rfl
  d0a:=e5.fd X G fun _ _ _ _ _ _=>cX fun _=>rfl
  d0b:=e6.fd X G fun _ _ _ _ _ _=>cX fun _=>rfl
  d0c:=e7.fd X G fun _ _ _ _ _ _=>cX fun _=>rfl
  d0d:=e8.fd X G fun _ _ _ _ _ _=>cX fun _=>rfl
  d0e:=e9.fd X G fun _ _ _ _ _ _=>cX fun _=>rfl
  d0f:=f0.fd X G fun _ _ _ _ _ _=>cX fun _=>rfl
  d0g:=f1.fd X G fun _ _ _ _ _ _=>cX fun _=>rfl
  d0h:=f2.fd X G fun _ _ _ _ _ _=>cX fun _=>rfl
  d0i:=f3.fd X G fun _ _ _ _ _ _=>cX fun _=>rfl
  d0j:=f4.fd X G fun _ _ _ _ _ _=>gw fun _ _=>rfl
  d0k:=f5.fd X G fun _ _ _ _ _ _=>cX fun _=>rfl
  d0l:=f6.fd X G fun _ _ _ _ _ _=>gw fun _ _=>rfl
  d0m:=f7.fd X G fun _ _ _ _ _ _=>gw fun _ _=>rfl
  d0n:=f8.fd X G fun _ _ _ _ _ _=>gw fun _ _=>rfl
  d0o:=f9.fd X G fun _ _ _ _ _ _=>eJ fun _ _ _=>rfl
  d0p:=g0.fd X G fun _ _ _ _ _ _=>eJ fun _ _ _=>rfl
  d0q:=g1.fd X G fun _ _ _ _ _ _=>gw fun _ _=>rfl
  d0r:=g2.fd X G fun _ _ _ _ _ _=>cX fun _=>rfl
  d0s:=g3.fd X G fun _ _ _ _ _ _=>oJ fun _ _ _ _=>rfl
  d0t:=g4.fd X G fun _ _ _ _ _ _=>cX fun _=>rfl
  d0u:=g5.fd X G fun _ _ _ _ _ _=>cX fun _=>rfl
  d0v:=g6.fd X G fun _ _ _ _ _ _=>cX fun _=>rfl
  d0w:=g7.fd X G fun _ _ _ _ _ _=>oJ fun _ _ _ _=>rfl
  d0x:=i2.fd X G fun _ _ _ _ _ _=>cX fun _=>rfl
  d0y:=i3.fd X G fun _ _ _ _ _ _=>gw fun _ _=>rfl
  d0z:=i4.fd X G fun _ _ _ _ _ _=>gw fun _ _=>rfl
  d10:=i5.fd X G fun _ _ _ _ _ _=>eJ fun _ _ _=>rfl
  d11:=i6.fd X G fun _ _ _ _ _ _=>gw fun _ _=>rfl
  d12:=i7.fd X G fun _ _ _ _ _ _=>eJ fun _ _ _=>rfl
  d13:=i8.fd X G fun _ _ _ _ _ _=>eJ fun _ _ _=>rfl
  d14:=i9.fd X G fun _ _ _ _ _ _=>eJ fun _ _ _=>rfl
  d15:=j0.fd X G fun _ _ _ _ _ _=>eJ fun _ _ _=>rfl
  d16:=j1.fd X G fun _ _ _ _ _ _=>eJ fun _ _ _=>rfl
  d17:=j2.fd X G fun _ _ _ _ _ _=>oJ fun _ _ _ _=>rfl
  d18:=j3.fd X G fun _ _ _ _ _ _=>Nn fun _ _ _ _ _=>rfl
  d19:=j4.fd X G fun _ _ _ _ _ _=>gw fun _ _=>rfl
  d1a:=j5.fd X G fun _ _ _ _ _ _=>gw fun _ _=>rfl
  d1b:=j6.fd X G fun _ _ _ _ _ _=>cX fun _=>rfl
  d1c:=j7.fd X G fun _ _ _ _ _ _=>oJ fun _ _ _ _=>rfl
  d1d:=⟨_,mg_of X G k1⟩
  d1e:=⟨_,mg_of X G k2⟩
  d1f:=⟨_,mg_of X G k3⟩
  d1g:=⟨_,mg_of X G k4⟩
  d1h:=⟨_,mg_of X G k5⟩
  d1i:=⟨_,mg_of X G k6⟩
  d1j:=⟨_,mg_of X G k7⟩
  d1k:=⟨_,mg_of X G k8⟩
  d1l:=⟨_,mg_of X G k9⟩
  d1m:=⟨_,mg_of X G b8⟩
  d1n:=⟨_,mg_of X G m0⟩
  d1o:=⟨_,mg_of X G b9,_,_,_,M,rfl,rfl,(show(4:Nat)<=sizeLine from by decide),.cons ⟨_,rfl⟩ (.cons ⟨_,rfl⟩ (.cons ⟨_,rfl⟩ (.cons ⟨_,rfl⟩ (.nil))))⟩
  d1p:=⟨_,mg_of X G c0⟩
  d1q:=⟨_,mg_of X G c1⟩
  d1r:=⟨_,mg_of X G c2⟩
  d1s:=⟨_,mg_of X G c3,Na [⟨"take",4,d,f⟩,⟨"give",3,g,i⟩,⟨"step",3,j,k⟩,⟨"finish",3,m,n⟩] x (show(["take","give","step","finish"]:List Str).Nodup from by decide +kernel) z⟩
  d1t:=mg_none_of X G m3
  d1u:=mg_none_of X G c4
  d1v:=mg_none_of X G c5
  d1w:=mg_none_of X G m4
  d1x:=mg_none_of X G c6
  d1y:=mg_none_of X G m5
  d1z:=mg_none_of X G c7
  d20:=mg_none_of X G m6
  d21:=mg_none_of X G m7
  d22:=mg_none_of X G c8
  d23:=mg_none_of X G m8
  d24:=mg_none_of X G m9
  d25:=mg_none_of X G c9
  d26:=mg_none_of X G n0
  d27:=mg_none_of X G d0
  xt0:=⟨D_,⟨⟨mg_of X G Y,Y,a8⟩,a9,fun c C e=>mg_of X G e⟩⟩
 }
 exact⟨fnOf "law" "law" (jf ko) (hF ko) (aZ ko) .none a4 a5 a6 a3 L a7,fun s v=>.of_eq rfl,fun base _ _=>(Py _ _ _ T HC n5).imp fun vs H Q E h=>Sa (MZ (mg_none_of X G m1) (mg_none_of X G m2) H) (fun ns hn=>RZ hn) h⟩
theorem law_walk{l:PySem.W.OpenLaw}{q:Program}{b:List Str}{j:(Str->Option Value)->Heap->Prop}{g:World->Heap->Prop}{d:DefRec}{K:Params->Frag}(m:l.most=some 63)(e:d.params.defaults=[])
  (p:∀(w:World) (h:Heap),g w h->(K w.params).In h)
  (F:∀(w:World) (c:Str->Option Value) (i:Addr) (h:Heap),(K w.params).In h->h.Ns mainGlobals c->c d.name=some (.ref i)->
   ∃fd:FuncData,(∀(s:Shared) (u:Value),BindsTo s fd ⟨[u],[]⟩ [("_law_script",u)])/\∀base:Heap,(K w.params).In base->base.Ns mainGlobals c->ay l.prog w (K w.params) c base (aU l.prog w) 12 i fd ["_law_script"] (yK (K w.params))) :
  PySem.W.WalkO q b j g l.row.toRowW d [] (fun f r=>PySem.call f r):=by
 refine L2.walk_of (n:=63) (k:=12) (x:="_law_script") (CX:=fun w=>aU l.prog w) (sp:=fun w=>yK (K w.params)) m (by decide) e ⟨rfl,by decide,by decide⟩ p F (fun w H a A t v y=>?hsp) fun _ _ _ _ _ ⟨_,_,_,_,_,_,_,_,_,z⟩=>z;refine⟨a,A,rfl,⟨t,?_⟩,fun _=>rfl⟩;rcases y with(h1 | h1) | h1
 ·rcases v a with h2 | ⟨o,B,h2⟩
  ·rw[h2] at h1;cases h1
  ·rw[h2] at h1;cases h1
 ·exact .inl h1
 ·exact .inr h1
end K3
namespace PySem.W.Fast
def tw10285662608480230048:=()
def tw102975678025912864:=()
def tw10308412924021809028:=()
def tw10406103943069997130:=()
def tw10438021568540596776:=()
def tw10440066263744417466:=()
def tw1046660189310229579:=()
def tw10518161644688218387:=()
def tw10572700636954051658:=()
def tw10584116351205117542:=()
def tw10635570079271849135:=()
def tw10663670967670936715:=()
def tw10802758608468709053:=()
def tw10844290780661416357:=()
def tw10913926002454265848:=()
def tw10944267060398624634:=()
def tw11046032892445441783:=()
def tw11116106612715672:=()
def tw11151720524862782607:=()
def tw11284310075391565504:=()
def tw11289574818973763265:=()
def tw1131766242370823627:=()
def tw1134341605364646088:=()
def tw11377016172276618990:=()
def tw11386856831077524193:=()
def tw1163947145620820084:=()
def tw11643761959662574679:=()
def tw11660811461430569732:=()
def tw11661646008771281897:=()
def tw11713765290468788280:=()
def tw1173170236787248071:=()
def tw11863170784845419879:=()
def tw11908017476096393590:=()
def tw11974574967745784235:=()
def tw1197819952567465518:=()
def tw12003937927092449047:=()
def tw12286080035841925921:=()
def tw12352086952211397545:=()
def tw12517009970551652240:=()
def tw12539470003996291957:=()
def tw12594831420064982258:=()
def tw12687744396584234668:=()
def tw12750970832657755731:=()
def tw12883679864261345015:=()
def tw129885444614730843:=()
def tw13024705125100013749:=()
def tw13090080637779206490:=()
def tw13176787948092944731:=()
def tw13183765295150611888:=()
def tw13185397928094028598:=()
def tw13274978929025002177:=()
def tw13275818988676305126:=()
def tw13336914078968756569:=()
def tw13425779978364042614:=()
def tw1353419088449150751:=()
def tw13560639562292428578:=()
def tw13694825500019914268:=()
def tw13782753204246446343:=()
def tw13856564084633328803:=()
def tw13976780677765639159:=()
def tw14004014360336412842:=()
def tw14017181522710697005:=()
def tw14112264123594932629:=()
def tw14630888443597681557:=()
def tw14632716409957680091:=()
def tw14784788963679370372:=()
def tw14915498834719486062:=()
def tw15099135585782099740:=()
def tw15112524281792373256:=()
def tw15206938941567065232:=()
def tw15273043364673594300:=()
def tw15316966671328358197:=()
def tw15346022127221087115:=()
def tw15388846762864385820:=()
def tw15460026695486585031:=()
def tw15501311017967084267:=()
def tw15680420718380793198:=()
def tw15687156073640540954:=()
def tw15716279202461158561:=()
def tw15823955796382793602:=()
def tw15976817434593977494:=()
def tw16020273025399091085:=()
def tw16146449042328473742:=()
def tw16187079223722721668:=()
def tw16246629216316109370:=()
def tw16369295266114400996:=()
def tw16494977229722109597:=()
def tw16538504435842591743:=()
def tw16674163950595061146:=()
def tw1683392493734355917:=()
def tw16890242534064171345:=()
def tw16997963087375088279:=()
def tw17007282695887849493:=()
def tw17034596342939189990:=()
def tw17045134289095158021:=()
def tw17084450753769273494:=()
def tw17086810786303515484:=()
def tw17143164175625477636:=()
def tw17220484212812753225:=()
def tw17468524519983920990:=()
def tw17581530256449171990:=()
def tw17585658100118831973:=()
def tw17642986102047178087:=()
def tw1772201809099527243:=()
def tw17817625139659868780:=()
def tw17846586918747774186:=()
def tw17856016166709275761:=()
def tw17903759413634808811:=()
def tw17924735793408360536:=()
def tw18076735498599534934:=()
def tw18365269908732043383:=()
def tw1858104441876895269:=()
def tw1970244913565610393:=()
def tw1986457207523563536:=()
def tw2021939612039033606:=()
def tw2134681588962463097:=()
def tw2142713344917817271:=()
def tw2154054068463258739:=()
def tw2286779615130173277:=()
def tw2378176450913794850:=()
def tw2380251160228921768:=()
def tw2500162310594391591:=()
def tw280224112275727222:=()
def tw2831424824457131437:=()
def tw298227082008310541:=()
def tw3042737197810554939:=()
def tw3095336675386888944:=()
def tw3102718815504844698:=()
def tw3258177604105833914:=()
def tw3317219501622763449:=()
def tw3392159379367089281:=()
def tw3713366462906785915:=()
def tw3780108336905315547:=()
def tw3890884130274796074:=()
def tw4070151900978274093:=()
def tw4086176388613151736:=()
def tw4120310611323636351:=()
def tw4190323725174722295:=()
def tw4193631323849087040:=()
def tw4214999112297477423:=()
def tw4397772570355915421:=()
def tw4485604140881846650:=()
def tw4504502168759612933:=()
def tw4527481906670739065:=()
def tw454985394690535562:=()
def tw4570904703164915651:=()
def tw4585056835050385296:=()
def tw4658196600021163906:=()
def tw4814242571377374555:=()
def tw4874535935366511485:=()
def tw4941655527986592793:=()
def tw495969910054521585:=()
def tw4968121460221760054:=()
def tw500424469642832651:=()
def tw503966991763485751:=()
def tw5047914347234781044:=()
def tw5068595034267083700:=()
def tw5087506021119944439:=()
def tw5144828295654820785:=()
def tw5243033489136281914:=()
def tw534021692210122250:=()
def tw5342498720556081963:=()
def tw5343369134485252246:=()
def tw5396541356556513812:=()
def tw543750216035906582:=()
def tw5640948434348611634:=()
def tw5667057275408672596:=()
def tw5783212197302373915:=()
def tw5856092531445429595:=()
def tw5856811988205755149:=()
def tw5904067009186523874:=()
def tw5908826725542208443:=()
def tw5916918424407177652:=()
def tw5948593598256688548:=()
def tw6072129178519655:=()
def tw621457418878055846:=()
def tw6221039125364035355:=()
def tw6228816327960044785:=()
def tw6308261012512744518:=()
def tw6334528989788326019:=()
def tw6351461433460200530:=()
def tw650529318432180789:=()
def tw6572776000786390248:=()
def tw6641832034049735079:=()
def tw6681805318670764823:=()
def tw6682370451737263814:=()
def tw669152025980932449:=()
def tw6700072026673545498:=()
def tw6889399393571202125:=()
def tw7023883903034119187:=()
def tw7048818989504892215:=()
def tw706511965316957999:=()
def tw7150208664429965238:=()
def tw7328612225473948544:=()
def tw7362451650278628041:=()
def tw7461757451409637277:=()
def tw747084159456632658:=()
def tw7478688329488504147:=()
def tw7604800819534966597:=()
def tw7607256753722691138:=()
def tw7633482102659005697:=()
def tw7673033456652706707:=()
def tw7728001022447186057:=()
def tw7737684434443201565:=()
def tw7784628019834064395:=()
def tw781727362223755147:=()
def tw8066281323223470866:=()
def tw8093037117668606221:=()
def tw8117602014949007550:=()
def tw8246937626986499872:=()
def tw8255244684879984194:=()
def tw8260885534742138930:=()
def tw8301936248402309122:=()
def tw8389136104557626678:=()
def tw8486143048847130777:=()
def tw8522251133188134509:=()
def tw8535695943975670332:=()
def tw8574280945204629086:=()
def tw8583685241755952599:=()
def tw8585470375004553597:=()
def tw8653940638689920018:=()
def tw8687456551909755504:=()
def tw8738652414433705401:=()
def tw8773137369414960275:=()
def tw8781124328172161962:=()
def tw8850371405648177961:=()
def tw9061077771443324488:=()
def tw9144679889107888281:=()
def tw9150095652075106720:=()
def tw9217201397216797131:=()
def tw9379434302804565066:=()
def tw9585639596622139156:=()
def tw9600180783216297483:=()
def tw9671329696607127746:=()
def tw9761455410181106369:=()
def tw9772641924126307519:=()
def tw9776097215234285228:=()
def tw9846039622519697163:=()
def tw9899672191632369550:=()
def tw9932695412145770327:=()
end PySem.W.Fast
open PySem PySem.W PyProof.Rows
set_option maxRecDepth 100000 in
set_option maxHeartbeats 0 in
theorem PySem.Challenge.cw_duehall_k33_reports_refused_holds : PySem.Challenge.rw_duehall_k33_reports_refused.Holds := by
  w_on;o_law;k_head;(case hw => w_witness2)
  k_fill
  refine K3.law_walk (l := PySem.Challenge.rw_duehall_k33_reports_refused) rfl rfl (fun w h Y => PySem.W.kIn_of Y) ?F
  case F =>
    intro w mg fa h KX G hmg
    refine' K3.all_mk KX G hmg ?a_Hall ?l0 ?l1 ?l2 ?l3 ?l4 ?l5 ?l6 ?l7 ?l8 ?l9 ?l10 ?l11 ?l12 ?l13 ?l14 ?l15 ?l16 ?l17 ?l18 ?l19 ?l20 ?l21 ?l22 ?l23 ?l24 ?l25 ?l26 ?l27 ?l28 ?l29 ?l30 ?l31 ?l32 ?l33 ?l34 ?l35 ?l36 ?l37 ?l38 ?l39 ?l40 ?l41 ?l42 ?l43 ?l44 ?l45 ?l46 ?l47 ?l48 ?l49 ?l50 ?l51 ?l52 ?l53 ?l54 ?l55 ?l56 ?l57 ?l58 ?l59 ?l60 ?l61 ?l62 ?a63 ?l63 ?c63 ?k63 ?v3_ ?v9_ ?v2_ ?v6_ ?v1_ ?v8_ ?v5_ ?v0_ ?v4_ ?v10_ ?v7_ ?v12_ ?w_WORDS ?v14_ ?v15_ ?v13_ ?v11_ ?w_LENGTHS ?z3_ ?z2_ ?z0_ ?z16_ ?z11_ ?z8_ ?z13_ ?z1_ ?z12_ ?z7_ ?z9_ ?z10_ ?z6_ ?z4_ ?z15_ ?z5_ ?z14_ ?pg_ ?hd_ ?po_ ?sa_ ?mks_ ?kpC_ ?n_begun ?n_deeds ?n_holder ?n_holds ?n_last ?n_rows ?n_settled ?n_until ?n_words ?n_zone ?a_Due ?y_LENGTHS ?x_Due ?x_tab
    (case a_Hall => (first | unfold K3.LK | unfold K3.NI | unfold K3.NV | unfold K3.NZ | unfold K3.KI | skip);k_is)
    (case l0|l1|l2|l3|l4|l5|l6|l7|l8|l9|l10|l11|l12|l13|l14|l15|l16|l17|l18|l19|l20|l21|l22|l23|l24|l25|l26|l27|l28|l29|l30|l31|l32|l47|l48|l49|l50|l51|l52|l53|l54|l55|l56|l57|l58|l59|l60|l61|l62 => exact⟨_,_,_,_,_,_,_,_,_,_,by k_is,by k_is,by k_is,by k_is⟩)
    (case l33|l34|l35|l36|l37|l38|l39|l40|l41|l42|l43|l44|l45|l46 => exact⟨_,_,_,_,_,_,_,_,_,_,by k_is,by k_is,by k_is,by k_is,by k_is⟩)
    (case a63|l63|c63|k63|v3_|v9_|v2_|v6_|v1_|v8_|v5_|v0_|v4_|v10_|v7_|v12_|w_WORDS|v14_|v15_|v13_|v11_|w_LENGTHS|z3_|z2_|z0_|z16_|z11_|z8_|z13_|z1_|z12_|z7_|z9_|z10_|z6_|z4_|z15_|z5_|z14_|pg_|hd_|po_|sa_|mks_|kpC_|n_begun|n_deeds|n_holder|n_holds|n_last|n_rows|n_settled|n_until|n_words|n_zone|a_Due => (first | unfold K3.LK | unfold K3.NI | unfold K3.NV | unfold K3.NZ | unfold K3.KI | skip);k_is)
    (case y_LENGTHS|x_Due|x_tab => first | kernel_rfl | rfl)
