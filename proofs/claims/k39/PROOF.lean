import PyProof.Rows.All
import Wide.All
import OpenK.AllK
import Wide.FinOn
import Lean
import PyProof.EqAt
import PyProof.EqKinds
import PyProof.TupleCall
import PySem.Challenge.RW_duehall_k39_whole_windows_of_one
set_option Elab.async false
set_option linter.all false
set_option maxRecDepth 100000
theorem aa:type_of% @PySem.wpAny_bind:=@PySem.wpAny_bind
theorem av:type_of% @PySem.wpAny_pure:=@PySem.wpAny_pure
theorem aS:type_of% @PySem.Heap.get?_push_of_some:=@PySem.Heap.get?_push_of_some
theorem ba:type_of% @PySem.Heap.lt_size:=@PySem.Heap.lt_size
theorem aZ:type_of% @Nat.le_refl:=@Nat.le_refl
theorem aD:type_of% @PyProof.Rows.wpS_bind:=@PyProof.Rows.wpS_bind
theorem aV:type_of% @PyProof.Rows.wpS_pure:=@PyProof.Rows.wpS_pure
theorem bI:type_of% @bind_congr:=@bind_congr
theorem bB:type_of% @List.mem_append_right:=@List.mem_append_right
theorem bO:type_of% @List.mem_append_left:=@List.mem_append_left
theorem bq:type_of% @List.mem_cons_of_mem:=@List.mem_cons_of_mem
open PySem.W (Frag findIn kitOne kia_one fnOf codeIn nsIn excIn mg_of mg_none_of)
namespace L2
open PySem PySem.Spec PyProof.Rows
noncomputable abbrev aM:=Sum Int Str
noncomputable def kf:aM->Value->Bool
 | .inl k,v=>Value.isInt k v
 | .inr x,v=>Value.isStrOf x v
noncomputable def Dd(w:World):aM->Int
 | .inl k=>hashInt k
 | .inr x=>hashStr w x
theorem hV:∀{k:aM}{v:Value},kf k v=true->(∃i t,k=Sum.inl i/\v=Value.int i t)\/(∃x t,k=Sum.inr x/\v=Value.str x t)
 | .inl i,v,h=>by obtain⟨t,e⟩:=Value.isInt_shape (k:=i) (v:=v) h;exact .inl ⟨i,t,rfl,e⟩
 | .inr x,v,h=>by obtain⟨t,e⟩:=Value.isStrOf_shape (x:=x) (v:=v) h;exact .inr ⟨x,t,rfl,e⟩
theorem De(i:Int)(t:Tok):kf (.inl i) (.int i t)=true:=by simp[kf,Value.isInt]
theorem Df(x:Str)(t:Tok):kf (.inr x) (.str x t)=true:=by simp[kf,Value.isStrOf]
theorem Dg(a b:Int):decide ((Sum.inl a:aM)=Sum.inl b)=(a==b):=by
 by_cases e:a=b
 ·subst e;simp
 ·have h:¬ (Sum.inl a:aM)=Sum.inl b:=fun q=>e (Sum.inl.inj q);rw[decide_eq_false h];exact(beq_eq_false_iff_ne.mpr e).symm
theorem Dh(a b:Str):decide ((Sum.inr a:aM)=Sum.inr b)=decide (a=b):=by
 by_cases e:a=b
 ·subst e;simp
 ·have h:¬ (Sum.inr a:aM)=Sum.inr b:=fun q=>e (Sum.inr.inj q);rw[decide_eq_false h,decide_eq_false e]
theorem Di(a:Int)(b:Str):decide ((Sum.inl a:aM)=Sum.inr b)=false:=decide_eq_false (fun q=>nomatch q)
theorem Dj(a:Str)(b:Int):decide ((Sum.inr a:aM)=Sum.inl b)=false:=decide_eq_false (fun q=>nomatch q)
noncomputable def eJ(prog:Program)(w:World):PySem.KeyKind prog w aM where
 is:=kf
 hash:=Dd w
 inj:=fun v a b ha hb=>by
  rcases hV ha with⟨i,t,rfl,rfl⟩ | ⟨x,t,rfl,rfl⟩
  ·rcases hV hb with⟨j,u,rfl,e⟩ | ⟨y,u,rfl,e⟩
   ·injection e with e1 _;rw[e1]
   ·exact nomatch e
  ·rcases hV hb with⟨j,u,rfl,e⟩ | ⟨y,u,rfl,e⟩
   ·exact nomatch e
   ·injection e with e1 _;rw[e1]
 byValue:=fun k v h=>by rcases hV h with⟨i,t,rfl,rfl⟩ | ⟨x,t,rfl,rfl⟩<;>rfl
 pyHash:=fun hv h=>by
  rcases hV hv with⟨i,t,rfl,rfl⟩ | ⟨x,t,rfl,rfl⟩
  ·exact wpAny_pyHash_int h
  ·exact wpAny_pyHash_str h
 eqBool:=fun hu hv h=>by
  rcases hV hu with⟨i,t,rfl,rfl⟩ | ⟨x,t,rfl,rfl⟩
  ·rcases hV hv with⟨j,u,rfl,rfl⟩ | ⟨y,u,rfl,rfl⟩
   ·rw[Dg] at h;exact wpAny_eqBool_int h
   ·rw[Di] at h;exact SeqAt.EqAt.int_str i t y u _ _ _ _ h
  ·rcases hV hv with⟨j,u,rfl,rfl⟩ | ⟨y,u,rfl,rfl⟩
   ·rw[Dj] at h;exact SeqAt.EqAt.str_int x t j u _ _ _ _ h
   ·rw[Dh] at h;exact wpAny_eqBool_str h
 «strs»:=fun k x t v h=>by
  rcases hV h with⟨i,u,rfl,e⟩ | ⟨y,u,rfl,e⟩
  ·exact nomatch e
  ·injection e with e1 _
   subst e1;cases v<;>rfl
theorem Dk(a:Program)(w:World)(i:Int)(t:Tok):(eJ a w).is (.inl i) (.int i t)=true:=De i t
theorem Dl(a:Program)(w:World)(x:Str)(t:Tok):(eJ a w).is (.inr x) (.str x t)=true:=Df x t
inductive V where
 | non | bl (b:Bool) | int (i:Int) | str (x:Str) | byt (b:Array UInt8) | flt (b:UInt64) | ref (a:Addr) | ty (n:String)
 deriving DecidableEq
noncomputable def bd:V->Value->Prop
 | .non,u=>u=Value.none
 | .bl b,u=>u=Value.bool b
 | .int i,u=>∃t,u=Value.int i t
 | .str x,u=>∃t,u=Value.str x t
 | .byt b,u=>∃t,u=Value.bytes b t
 | .flt b,u=>∃t,u=Value.float b t
 | .ref a,u=>u=Value.ref a
 | .ty n,u=>u=Value.type n
noncomputable abbrev bi:List V->List Value->Prop:=Paired bd
theorem bi.length{a:List V}{b:List Value}(r:bi a b):a.length=b.length:=Paired.length r
theorem bi.get:∀{a:List V}{b:List Value}{i:Nat}{x:V},bi a b->a[i]? = some x->∃u,b[i]? = some u/\bd x u
 | _,_,_,_,.nil,e=>by simp at e
 | _,_,0,_,.cons r _,e=>by simp at e;subst e;exact⟨_,rfl,r⟩
 | _,_,i+1,x,.cons _ t,e=>by obtain⟨u,h1,h2⟩:=bi.get (i:=i) (x:=x) t (by simpa using e);exact⟨u,by simpa using h1,h2⟩
theorem bi.append:∀{a b:List V}{c d:List Value},bi a c->bi b d->bi (a++b) (c++d)
 | _,_,_,_,.nil,s=>s
 | _,_,_,_,.cons r t,s=>.cons r (bi.append t s)
theorem bi.take:∀{a:List V}{b:List Value}(n:Nat),bi a b->bi (a.take n) (b.take n)
 | _,_,0,_=>.nil
 | _,_,_+1,.nil=>.nil
 | _,_,n+1,.cons r t=>.cons r (bi.take n t)
theorem bi.drop:∀{a:List V}{b:List Value}(n:Nat),bi a b->bi (a.drop n) (b.drop n)
 | _,_,0,r=>r
 | _,_,_+1,.nil=>.nil
 | _,_,n+1,.cons _ t=>bi.drop n t
noncomputable def hZ:Option V->Option Value->Prop
 | some v,some u=>bd v u
 | none,none=>True
 | _,_=>False
noncomputable def KV{κ:Type}:List (κ×V)->List (κ×Value)->Prop:=Paired fun(p:κ×V) (q:κ×Value)=>p.1=q.1/\bd p.2 q.2
noncomputable def kV:aM->V
 | .inl i=>.int i
 | .inr x=>.str x
inductive HO where
 | lst (xs:List V)
 | tup (xs:List V)
 | dK (kvs:List (aM×V)) | dT (kvs:List (List aM×V))
 | set (S:Int->Bool) (n:Nat)
 | ins (C dx:Addr) (fs:List (Str×V))
 | own (x:Addr)
 | xd (fs:List (Str×V))
 | met (f x:Addr)
 | rng (lo hi:Int)
 | frz (o:Obj) (u:HO)
 | tbl (ps:Array Value)
 | ext (φ:Heap->Prop)
noncomputable abbrev Hp:=Addr->Option HO
noncomputable def bp(H:Hp)(a:Addr)(o:HO):Hp:=fun b=>if b=a then some o else H b
theorem dB{H:Hp}{a:Addr}{o:HO}:bp H a o a=some o:=by unfold bp;rw[if_pos rfl]
theorem ck{H:Hp}{a b:Addr}{o:HO}(h:b≠a):bp H a o b=H b:=by unfold bp;rw[if_neg h]
theorem Dm{H:Hp}{a b:Addr}{o u:HO}(h:H a=some o)(c:H b=some u)(d:o≠u):a≠b:=by intro e;subst e;rw[h] at c;exact d (Option.some.inj c)
theorem gd{H:Hp}{a b:Addr}{o:HO}(h:H a=some o)(c:H b=none):a≠b:=by intro e;subst e;rw[h] at c;cases c
section
variable(P:Program)(w:World)
noncomputable def cz(H:Hp)(h:Heap)(a:Addr):HO->Prop
 | .lst d=>d.length<=sizeLine/\∃(b:List Value) (n:Nat),bi d b/\h.get? a=some { cls:=.type "list",data:=.seq b.toArray n }
 | .tup d=>d.length<=sizeLine/\∃b:List Value,bi d b/\IsTup h a b.toArray
 | .dK c=>c.length<=sizeLine/\(a==sysModules)=false/\∃vs,KV c vs/\h.DictOf (eJ P w) a vs
 | .dT c=>c.length<=sizeLine/\(a==sysModules)=false/\∃d:List (List aM×Addr×Value),
   Paired (fun(p:List aM×V) (q:List aM×Addr×Value)=>p.1=q.1/\H q.2.1=some (.tup (p.1.map kV))/\bd p.2 q.2.2) c d/\
   ∃o i l,h.get? a=some o/\o.ExactDict/\o.data=.dict i l/\i.toList=d.map (entryOfKey (tupleKind (eJ P w)))/\(d.map (·.1)).Nodup
 | .set S n=>h.SetOf (intKind P w) a S n
 | .ins C g fs=>H g=some (.own a)/\fs.length<=1000/\g≠a/\h.get? a=some (PySem.W.instObj C g)/\
   ∃e,h.Ns1 g e/\(∀f,hZ (fs.lookup f) (e f))/\PySem.Within e (fs.map (·.1))
 | .own _=>∃o,h.get? a=some o
 | .xd fs=>∃e,h.Ns1 a e/\∀f,hZ (fs.lookup f) (e f)
 | .rng lo m=>∃t u v,h.get? a=some { cls:=.type "range",data:=.fields #[.int lo t,.int m u,.int 1 v] }
 | .frz o u=>h.get? a=some o/\cz H h a u
 | .tbl r=>h.get? a=some { cls:=.none,data:=.fields r }
 | .met f x=>h.get? a=some (PySem.W.methodObj (.ref f) (.ref x))
 | .ext φ=>φ h/\(∃o,h.get? a=some o)/\∀j k:Heap,φ j->(∀o,j.get? a=some o->k.get? a=some o)->φ k
def cg(H:Hp)(h:Heap):Prop:=∀a o,H a=some o->cz P w H h a o
end
section
variable{P:Program}{w:World}{H Y:Hp}{h Z:Heap}{a:Addr}{o:HO}
theorem cz.lt(x:cz P w H h a o):a<h.objs.size:=by
 cases o with
 | lst c=>obtain⟨_,_,_,_,e⟩:=x;exact ba e
 | tup c=>obtain⟨_,_,_,p⟩:=x;exact p.lt
 | dK b=>obtain⟨_,_,_,_,o,_,_,e,_⟩:=x;exact ba e
 | dT b=>obtain⟨_,_,_,_,o,_,_,e,_⟩:=x;exact ba e
 | set S n=>obtain⟨o,_,_,_,e,_⟩:=x;exact ba e
 | ins C d fs=>obtain⟨_,_,_,e,_⟩:=x;exact ba e
 | own y=>obtain⟨_,e⟩:=x;exact ba e
 | xd fs=>obtain⟨_,⟨_,_,_,e,_⟩,_⟩:=x;exact ba e
 | rng lo g=>obtain⟨_,_,_,e⟩:=x;exact ba e
 | frz ob u=>obtain⟨e,_⟩:=x;exact ba e
 | tbl i=>exact ba (show h.get? a=some _ from x)
 | met f y=>exact ba (show h.get? a=some _ from x)
 | ext φ=>obtain⟨_,⟨_,e⟩,_⟩:=x;exact ba e
theorem Paired.mapP{α β:Type}{F G:α->β->Prop}:∀{c:List α}{d:List β},Paired F c d->(∀a b,F a b->G a b)->Paired G c d
 | _,_,.nil,_=>.nil
 | _,_,.cons r t,f=>.cons (f _ _ r) (Paired.mapP t f)
theorem cz.stay(x:cz P w H h a o)(k:∀b u,(b=a\/H b=some (.own a))->h.get? b=some u->Z.get? b=some u)
  (E:∀b,H b=some (.own a)->Y b=some (.own a)) (G:∀b m,H b=some (.tup m)->Y b=some (.tup m)):cz P w Y Z a o:=by
 induction o with
 | lst m=>obtain⟨z,l,n,r,e⟩:=x;exact⟨z,l,n,r,k _ _ (.inl rfl) e⟩
 | tup m=>obtain⟨z,l,r,g,e,c⟩:=x;exact⟨z,l,r,g,k _ _ (.inl rfl) e,c⟩
 | dK s=>obtain⟨z,y,vs,r,g,i,j,e,c⟩:=x;exact⟨z,y,vs,r,g,i,j,k _ _ (.inl rfl) e,c⟩
 | dT s=>obtain⟨z,y,m,r,g,i,j,e,c⟩:=x;exact⟨z,y,m,Paired.mapP r fun p q z=>⟨z.1,G _ _ z.2.1,z.2.2⟩,g,i,j,k _ _ (.inl rfl) e,c⟩
 | set S n=>obtain⟨g,i,j,t,e,c⟩:=x;exact⟨g,i,j,t,k _ _ (.inl rfl) e,c⟩
 | ins C L fs=>obtain⟨d,z,ne,e,A,⟨B,i,j,I,c⟩,r⟩:=x;exact⟨E _ d,z,ne,k _ _ (.inl rfl) e,A,⟨B,i,j,k _ _ (.inr d) I,c⟩,r⟩
 | own y=>obtain⟨g,e⟩:=x;exact⟨g,k _ _ (.inl rfl) e⟩
 | xd fs=>obtain⟨A,⟨B,i,j,e,c⟩,r⟩:=x;exact⟨A,⟨B,i,j,k _ _ (.inl rfl) e,c⟩,r⟩
 | rng lo M=>obtain⟨t,u,v,e⟩:=x;exact⟨t,u,v,k _ _ (.inl rfl) e⟩
 | frz g u J=>obtain⟨e,q⟩:=x;exact⟨k _ _ (.inl rfl) e,J q⟩
 | tbl D=>have e:h.get? a=some { cls:=.none,data:=.fields D }:=x;show Z.get? a=some { cls:=.none,data:=.fields D };exact k a _ (.inl rfl) e
 | met f y=>have e:h.get? a=some (PySem.W.methodObj (.ref f) (.ref y)):=x;show Z.get? a=some (PySem.W.methodObj (.ref f) (.ref y));exact k a _ (.inl rfl) e
 | ext φ=>obtain⟨p,⟨o,e⟩,st⟩:=x;exact⟨st _ _ p fun o q=>k _ _ (.inl rfl) q,⟨o,k _ _ (.inl rfl) e⟩,st⟩
theorem cg.lt(x:cg P w H h)(e:H a=some o):a<h.objs.size:=(x a o e).lt
theorem cg.fresh(x:cg P w H h)(e:h.objs.size<=a):H a=none:=by
 cases q:H a with
 | none=>rfl
 | some u=>exact absurd (Nat.lt_of_lt_of_le (x.lt q) e) (Nat.lt_irrefl _)
theorem cg.kept(x:cg P w H h)(k:∀b u,h.get? b=some u->Z.get? b=some u):cg P w H Z:=fun a o e=>(x a o e).stay (fun b u _ q=>k b u q) (fun _ q=>q) fun _ _ q=>q
theorem cg.laid(x:cg P w H h)(k:∀b u,h.get? b=some u->Z.get? b=some u)(f:h.objs.size<=a)(new:cz P w (bp H a o) Z a o):cg P w (bp H a o) Z:=fun b u e=>by
 have d:=x.fresh f
 by_cases hb:b=a
 ·subst hb;rw[dB] at e;cases e;exact new
 ·rw[ck hb] at e;exact(x b u e).stay (fun c v _ q=>k c v q) (fun c q=>by rw[ck (gd q d)];exact q) fun c g q=>by rw[ck (gd q d)];exact q
end
def Rd(H:Hp)(a:Addr)(u:HO):Prop:=H a=some u\/∃o,H a=some (.frz o u)
theorem Rd.of{H:Hp}{a:Addr}{u:HO}(h:H a=some u):Rd H a u:=.inl h
theorem Rd.ok{P:Program}{w:World}{H:Hp}{h:Heap}{a:Addr}{u:HO}(r:Rd H a u)(x:cg P w H h):cz P w H h a u:=by
 rcases r with r | ⟨o,r⟩
 ·exact x a u r
 ·obtain⟨_,q⟩:=x a _ r;exact q
noncomputable def mQ:Option HO->Prop
 | some (.lst _)=>True
 | some (.dK _)=>True
 | some (.dT _)=>True
 | some (.set _ _)=>True
 | some (.ins _ _ _)=>True
 | some (.ext _)=>True
 | _=>False
section
variable{P:Program}{w:World}{H:Hp}{h X:Heap}{x e:Addr}{U:HO}
theorem cg.write(ok:cg P w H h)(g:mQ (H x))(m:e=x\/H e=some (.own x))(k:∀b u,b≠e->h.get? b=some u->X.get? b=some u)(l:∃u,X.get? e=some u)
  (new:cz P w (bp H x U) X x U):cg P w (bp H x U) X:=fun b u q=>by
 have d:∀c y,H c=some (.own y)->c≠x:=fun c y r z=>by subst z;rw[r] at g;exact g
 have f:∀c i,H c=some (.tup i)->c≠x:=fun c i r z=>by subst z;rw[r] at g;exact g
 by_cases hb:b=x
 ·subst hb;rw[dB] at q;cases q;exact new
 ·rw[ck hb] at q
  by_cases a:b=e
  ·have n:H b=some (.own x):=by
    rcases m with z | z
    ·exact absurd (a.trans z) hb
    ·rw[a];exact z
   rw[q] at n;cases n;obtain⟨v,o⟩:=l;exact⟨v,by rw[a];exact o⟩
  ·refine(ok b u q).stay (fun c v j r=>k c v ?_ r) (fun c r=>by rw[ck (d c b r)];exact r) fun c i r=>by rw[ck (f c i r)];exact r
   rcases j with rfl | j
   ·exact a
   ·rintro rfl;rcases m with z | z
    ·exact d c b j z
    ·rw[j] at z;cases z;exact hb rfl
end
structure Un (fs ex:List Addr) (H H':Hp) (h h':Heap):Prop where
 keep:∀b o,h.get? b=some o->H b=none->b∉fs->b∉ex->h'.get? b=some o
 slot:∀b o,h.get? b=some o->H b=none->b∈fs->b∉ex->∃sl,h'.get? b=some { o with slots:=sl }
 free:∀b o,h.get? b=some o->H b=none->b∉ex->H' b=none
 there:∀b o,h.get? b=some o->b∉ex->∃o',h'.get? b=some o'
 tups:∀b xs,H b=some (.tup xs)->H' b=some (.tup xs)
 frzs:∀b o u,H b=some (.frz o u)->H' b=some (.frz o u)
 tbls:∀b ps,H b=some (.tbl ps)->∃dm,H' b=some (.tbl (ps++dm))
section
variable{fs S ex R:List Addr}{H Q O:Hp}{h h1 h2 T:Heap}{a x e:Addr}{o:HO}
theorem Un.any(u:Un fs ex H Q h h1){b:Addr}{c:Obj}(q:h.get? b=some c)(n:H b=none)(d:b∉ex):∃f,h1.get? b=some { c with slots:=f }:=by
 by_cases hb:b∈fs
 ·exact u.slot b c q n hb d
 ·exact⟨c.slots,u.keep b c q n hb d⟩
theorem Un.kept(k:∀b u,h.get? b=some u->T.get? b=some u):Un fs ex H H h T:=
 ⟨fun b c q _ _ _=>k b c q,fun b c q _ _ _=>⟨c.slots,k b c q⟩,fun _ _ _ n _=>n,fun b c q _=>⟨c,k b c q⟩,fun _ _ q=>q,fun _ _ _ q=>q,fun _ d q=>⟨#[],by rw[q];simp⟩⟩
theorem Un.refl:Un fs ex H H h h:=Un.kept fun _ _ q=>q
theorem Un.laid(k:∀b u,h.get? b=some u->T.get? b=some u)(hp:h.objs.size<=a)(hn:H a=none):Un fs ex H (bp H a o) h T where
 keep:=fun b u q _ _ _=>k b u q
 slot:=fun b u q _ _ _=>⟨u.slots,k b u q⟩
 free:=fun b u q n _=>by rw[ck (Nat.ne_of_lt (Nat.lt_of_lt_of_le (ba q) hp))];exact n
 there:=fun b u q _=>⟨u,k b u q⟩
 tups:=fun b xs q=>by rw[ck (gd q hn)];exact q
 frzs:=fun b u xs q=>by rw[ck (gd q hn)];exact q
 tbls:=fun b ps q=>⟨#[],by rw[ck (gd q hn),q];simp⟩
theorem Un.write(d:mQ (H x))(j:e=x\/H e=some (.own x))(k:∀b u,b≠e->h.get? b=some u->T.get? b=some u)(f:∃u,T.get? e=some u):Un fs ex H (bp H x o) h T:=by
 have i:∀b,H b=none->b≠x:=fun b n z=>by subst z;rw[n] at d;exact d
 have hb:∀b,H b=none->b≠e:=fun b n z=>by
  subst z;rcases j with r | r
  ·exact i b n r
  ·rw[n] at r;cases r
 have g:∀b u,H b=some u->¬ mQ (some u)->b≠x:=fun b u q l z=>by subst z;rw[q] at d;exact l d
 refine⟨fun b u q n _ _=>k b u (hb b n) q,fun b u q n _ _=>⟨u.slots,k b u (hb b n) q⟩,fun b u q n _=>by rw[ck (i b n)];exact n,fun b u q _=>?_,
  fun b m q=>by rw[ck (g b _ q fun z=>z)];exact q,fun b u m q=>by rw[ck (g b _ q fun z=>z)];exact q,fun b p q=>⟨#[],by rw[ck (g b _ q fun z=>z),q];simp⟩⟩
 by_cases c:b=e
 ·subst c;exact f
 ·exact⟨u,k b u c q⟩
end
noncomputable def pp(h:Heap)(H:Hp):List Addr:=(List.range h.objs.size).filter fun a=>(H a).isSome
noncomputable def ic(h:Heap)(H:Hp):Heap:=PySem.W.hideAll h (pp h H)
theorem Dn(h:Heap)(H:Hp):(ic h H).objs.size=h.objs.size:=PySem.W.hideAll_size _ _
theorem Do{h:Heap}{H:Hp}{b:Addr}{o:Obj}(e:h.get? b=some o)(n:H b=none):(ic h H).get? b=some o:=
 PySem.W.hideAll_get _ e fun a=>by have q:(H b).isSome=true:=(List.mem_filter.mp a).2;rw[n] at q;simp at q
theorem Dp{h:Heap}{H:Hp}{b:Addr}{o:Obj}(e:(ic h H).get? b=some o):h.get? b=some o/\H b=none:=by
 have a:h.get? b=some o:=PySem.W.of_hideAll (pp h H) e;refine⟨a,?_⟩;cases q:H b with
 | none=>rfl
 | some x=>have c:b∈pp h H:=List.mem_filter.mpr ⟨List.mem_range.mpr (ba a),by simp[q]⟩;have z:(ic h H).get? b=none:=PySem.W.hideAll_none (pp h H) c;rw[z] at e;cases e
structure Mod (K:Frag) (mg:Str->Option Value) (base:Heap):Prop where
 kin:K.In base
 glob:base.Ns mainGlobals mg
 blt:∃mb,base.Ns builtinsNs mb/\∀x:Str,x≠"__name__"->mb x=bootBuiltins x
 nolimit:base.NoLimit
structure Cx where
 prog:Program
 w:World
 K:Frag
 mg:Str->Option Value
 base:Heap
 A:Around
 N:List Str
 s₀:Shared
 H₀:Hp
 env:Env
 outer:List Env
 stack:List Env
 ex:List Addr
 fn:Str->Bool
 calm:Bool
 pn:List (Addr×Obj)
 xe:Value->Shared->Prop
noncomputable def bP(l:List Env):List Addr:=l.filterMap (·.frame)
noncomputable abbrev Cx.fs(X:Cx):List Addr:=bP X.outer
def mR(a:Scope)(x:Str):Prop:=a.names.lookup x=some .local\/a.names.lookup x=some .cell\/a.names.lookup x=some .free
def Loc(a:Scope)(x:Str):Prop:=a.names.lookup x=some .local\/a.names.lookup x=some .cell
def Dq(a:Env)(h:Heap)(m:Str->Option Value)(x:Str)(u:Value):Prop:=
 (a.kindOf x=some .local/\m x=some u)\/((a.kindOf x=some .cell\/a.kindOf x=some .free)/\∃c,a.cells.lookup x=some c/\h.IsCell c (some u))
structure Cx.Ok (X:Cx):Prop where
 mod:Mod X.K X.mg X.base
 kind:X.env.scope.kind=.function
 glob:X.env.globals=mainGlobals
 blt:X.env.builtins=builtinsNs
 above:X.s₀.heap.objs.size<=X.env.locals
 inj:∀x y c,X.env.cells.lookup x=some c->X.env.cells.lookup y=some c->x=y
 has:∀x,(X.env.kindOf x=some .cell\/X.env.kindOf x=some .free)->∃c,X.env.cells.lookup x=some c
 cab:∀x c,X.fn x=true->X.env.cells.lookup x=some c->X.s₀.heap.objs.size<=c
 hd:X.calm=true->X.A.handled=none
 frames:X.A.frames=some X.stack
 stk:X.stack=X.outer\/(X.stack=X.env::X.outer/\X.env.frame=some X.env.locals)
 exf:∀b∈X.ex,b≠X.env.locals/\∀x c,X.env.cells.lookup x=some c->c≠b
 bs:∀b o,X.base.get? b=some o->X.s₀.heap.get? b=some o/\X.H₀ b=none
 bsz:X.base.objs.size<=X.s₀.heap.objs.size
 noex:∀b o,X.base.get? b=some o->b∉X.ex
 exfs:∀b∈X.ex,b∉X.fs
 funs:X.s₀.heap.FunFrames X.base X.outer
 frf:∀b∈X.fs,X.H₀ b=none
structure Inv (X:Cx) (pins:List (Addr×Obj)) (Y:List (Option V)) (H:Hp) (s:Shared):Prop where
 ok:X.Ok
 os:s.os=X.s₀.os
 bare:AllBare s.gens
 base:Un X.fs X.ex X.H₀ H X.s₀.heap s.heap
 loc:∃m,s.heap.Ns X.env.locals m/\∀(i:Nat) (x:Str) (v:V),X.N[i]? = some x->Y[i]? = some (some v)->mR X.env.scope x->∃u,bd v u/\Dq X.env s.heap m x u
 cell:∀x c,X.env.cells.lookup x=some c->∃v,s.heap.IsCell c v
 free:H X.env.locals=none
 freeC:∀x c,X.env.cells.lookup x=some c->H c=none
 pin:∀p∈X.pn++pins,s.heap.get? p.1=some p.2/\H p.1=none/\p.1≠X.env.locals/\p.1∉X.fs/\∀v,p.2.data≠.cell v
 hok:cg X.prog X.w H s.heap
 len:Y.length=X.N.length
section
variable{X:Cx}{J:List (Addr×Obj)}{Y:List (Option V)}{H G:Hp}{s:Shared}{h':Heap}
theorem Cx.Ok.nofr(ok:X.Ok){b:Addr}{o:Obj}(e:X.base.get? b=some o):b∉X.fs:=fun a=>by have:=(ok.funs.mem a).1;rw[e] at this;cases this
theorem Inv.bs(I:Inv X J Y H s):∀b o,X.base.get? b=some o->s.heap.get? b=some o/\H b=none:=fun b o e=>⟨I.base.keep b o (I.ok.bs b o e).1 (I.ok.bs b o e).2 (I.ok.nofr e) (I.ok.noex b o e),I.base.free b o (I.ok.bs b o e).1 (I.ok.bs b o e).2 (I.ok.noex b o e)⟩
theorem Inv.bk(I:Inv X J Y H s):∀b o,X.base.get? b=some o->s.heap.get? b=some o:=fun b o e=>(I.bs b o e).1
theorem Inv.mod(I:Inv X J Y H s):Mod X.K X.mg X.base:=I.ok.mod
theorem Inv.kIn(I:Inv X J Y H s):X.K.In s.heap:=I.ok.mod.kin.keeps I.bk
theorem Inv.lt(I:Inv X J Y H s):X.env.locals<s.heap.objs.size:=let⟨_,a,_⟩:=I.loc;a.lt
theorem Inv.sz(I:Inv X J Y H s):X.s₀.heap.objs.size<=s.heap.objs.size:=Nat.le_trans I.ok.above (Nat.le_of_lt I.lt)
theorem Inv.nofs(I:Inv X J Y H s){a:Addr}(h:s.heap.objs.size<=a):a∉X.fs:=fun c=>by obtain⟨_,o,b,_⟩:=I.ok.funs.mem c;exact absurd (Nat.lt_of_lt_of_le (ba b) (Nat.le_trans I.sz h)) (Nat.lt_irrefl _)
theorem Inv.cne(I:Inv X J Y H s):∀x c,X.env.cells.lookup x=some c->c≠X.env.locals:=fun x c e z=>by obtain⟨v,o,d,hd⟩:=I.cell x c e;obtain⟨m,⟨f,g,h,a,b,_⟩,_⟩:=I.loc;rw[z,a] at d;cases d;rw[b] at hd;cases hd
theorem Inv.funs(I:Inv X J Y H s):s.heap.FunFrames X.base X.outer:=by
 have all:∀(l:List Env),(∀b∈bP l,b∈X.fs)->X.s₀.heap.FunFrames X.base l->s.heap.FunFrames X.base l:=by
  intro l
  induction l with
  | nil=>intro _ _;trivial
  | cons env r g=>intro f h;obtain⟨i,⟨L,o,a,j,k,hd⟩,m⟩:=h;have c:L∈X.fs:=f L (by unfold bP;rw[List.filterMap_cons,a];exact List.mem_cons_self);obtain⟨n,e⟩:=I.base.slot L o k (I.ok.frf L c) c fun z=>I.ok.exfs L z c;exact⟨i,⟨L,_,a,j,e,hd⟩,g (fun b d=>f b (by unfold bP;rw[List.filterMap_cons,a];exact bq _ d)) m⟩
 exact all X.outer (fun _ d=>d) I.ok.funs
theorem Inv.stack(I:Inv X J Y H s):s.heap.FunFrames X.base X.stack:=by
 rcases I.ok.stk with e | ⟨e,a⟩
 ·rw[e];exact I.funs
 ·rw[e];obtain⟨m,b,_⟩:=I.loc;refine .cons (by rw[I.ok.kind];decide) a b ?_ I.funs;exact Heap.get?_none_of_le (Nat.le_trans I.ok.bsz I.ok.above)
theorem Inv.stkSub(I:Inv X J Y H s):∀b∈bP X.stack,b∈X.env.locals::X.fs:=fun b a=>by
 rcases I.ok.stk with e | ⟨e,c⟩
 ·rw[e] at a;exact bq _ a
 ·rw[e] at a;unfold bP at a;rw[List.filterMap_cons,c] at a;exact a
theorem Inv.stkFree(I:Inv X J Y H s):∀b∈bP X.stack,H b=none:=fun b a=>by
 rcases List.mem_cons.mp (I.stkSub b a) with e | a
 ·rw[e];exact I.free
 ·obtain⟨_,o,c,_⟩:=I.ok.funs.mem a;exact I.base.free b o c (I.ok.frf b a) fun z=>I.ok.exfs b z a
theorem Inv.step{g':Array GenState}{t':Nat}{d':Drawn}{ch:List Addr}(I:Inv X J Y H s)
  (f:∀b∈ch,(b∈X.ex\/X.s₀.heap.objs.size<=b)/\b≠X.env.locals/\(∀x c,X.env.cells.lookup x=some c->c≠b)/\∀p∈X.pn++J,p.1≠b)
  (keep:∀b o,b≠X.env.locals->b∉X.fs->b∉ch->s.heap.get? b=some o->H b=none->h'.get? b=some o)
  (slot:∀b o,b≠X.env.locals->b∈X.fs->b∉ch->s.heap.get? b=some o->H b=none->∃Q,h'.get? b=some { o with slots:=Q }) (free:∀b o,b∉ch->s.heap.get? b=some o->H b=none->G b=none)
  (there:∀b o,b∉ch->s.heap.get? b=some o->∃C,h'.get? b=some C)
  (L:∀b y,H b=some (.tup y)->G b=some (.tup y)) (M:∀b o u,H b=some (.frz o u)->G b=some (.frz o u)) (N:∀b O,H b=some (.tbl O)->∃dm,G b=some (.tbl (O++dm)))
  (ns:∀m,s.heap.Ns X.env.locals m->h'.Ns X.env.locals m) (S:cg X.prog X.w G h') (hg:AllBare g') :
  Inv X J Y G { s with heap:=h',gens:=g',drawn:=d',toks:=t' }:=by
 have D:∀b o,X.s₀.heap.get? b=some o->b≠X.env.locals:=fun b o e=>Nat.ne_of_lt (Nat.lt_of_lt_of_le (ba e) I.ok.above);have j:∀b o,X.s₀.heap.get? b=some o->b∉X.ex->b∉ch:=fun b o e a A=>by
  rcases(f b A).1 with z | z
  ·exact a z
  ·exact absurd (Nat.lt_of_lt_of_le (ba e) z) (Nat.lt_irrefl _)
 have g:∀x c,X.env.cells.lookup x=some c->∀v,s.heap.IsCell c v->h'.IsCell c v:=fun x c e v ⟨o,B,hd⟩=>by
  have h:c∉ch:=fun z=>(f c z).2.2.1 x c e rfl
  by_cases T:c∈X.fs
  ·obtain⟨Q,q⟩:=slot c o (I.cne x c e) T h B (I.freeC x c e);exact⟨_,q,hd⟩
  ·exact⟨o,keep c o (I.cne x c e) T h B (I.freeC x c e),hd⟩
 refine⟨I.ok,I.os,hg,⟨fun b o e n A a=>?_,fun b o e n A a=>?_,fun b o e n a=>?_,fun b o e a=>?_,fun b y e=>L b y (I.base.tups b y e),fun b o y e=>M b o y (I.base.frzs b o y e),fun b O e=>?_⟩,?_,fun x c e=>?_,?_,fun x c e=>?_,fun p U=>?_,S,I.len⟩
 ·exact keep b o (D b o e) A (j b o e a) (I.base.keep b o e n A a) (I.base.free b o e n a)
 ·obtain⟨Q,t⟩:=I.base.slot b o e n A a;obtain⟨R,E⟩:=slot b _ (D b o e) A (j b o e a) t (I.base.free b o e n a);exact⟨R,E⟩
 ·obtain⟨C,t⟩:=I.base.there b o e a;exact free b C (j b o e a) t (I.base.free b o e n a)
 ·obtain⟨C,t⟩:=I.base.there b o e a;exact there b C (j b o e a) t
 ·obtain⟨m1,t⟩:=I.base.tbls b O e;obtain⟨m2,E⟩:=N b _ t;exact⟨m1++m2,by rw[E,Array.append_assoc]⟩
 ·obtain⟨m,hn,hl⟩:=I.loc;refine⟨m,ns m hn,fun i x v t E e3=>?_⟩;obtain⟨u,r,l⟩:=hl i x v t E e3;refine⟨u,r,?_⟩;rcases l with l | ⟨k,c,e,z⟩
  ·exact .inl l
  ·exact .inr ⟨k,c,e,g x c e _ z⟩
 ·obtain⟨v,z⟩:=I.cell x c e;exact⟨v,g x c e v z⟩
 ·obtain⟨m,⟨o,_,_,B,_⟩,_⟩:=I.loc;exact free _ o (fun z=>(f _ z).2.1 rfl) B I.free
 ·obtain⟨v,o,B,hd⟩:=I.cell x c e;exact free c o (fun z=>(f c z).2.2.1 x c e rfl) B (I.freeC x c e)
 ·obtain⟨e,n,ne,Z,d⟩:=I.pin p U;have h:p.1∉ch:=fun z=>(f p.1 z).2.2.2 p U rfl;exact⟨keep p.1 p.2 ne Z h e n,free p.1 p.2 h e n,ne,Z,d⟩
theorem Inv.un{t':Nat}(I:Inv X J Y H s)(u:Un X.fs [] H G s.heap h')(f:cg X.prog X.w G h'):Inv X J Y G { s with heap:=h',toks:=t' }:=by
 obtain⟨m,⟨o,l,p,h,r⟩,_⟩:=id I.loc;obtain⟨q,i⟩:=u.any h I.free (by simp);exact I.step (g':=s.gens) (d':=s.drawn) (ch:=[]) (fun _ z=>nomatch z) (fun b o _ g _ e n=>u.keep b o e n g (by simp)) (fun b o _ g _ e n=>u.slot b o e n g (by simp)) (fun b o _ e n=>u.free b o e n (by simp)) (fun b o _ e=>u.there b o e (by simp)) u.tups u.frzs u.tbls (fun t j=>by
  obtain⟨v,c,d,a,k⟩:=j;rw[h] at a;cases a;exact⟨_,c,d,i,k⟩) f I.bare
theorem Inv.call{g':Array GenState}{t':Nat}{d':Drawn}{ch:List Addr}(I:Inv X J Y H s)(u:Un (bP X.stack) ch H G s.heap h')(j:cg X.prog X.w G h')(l:AllBare g')
  (d:∀b∈ch,(b∈X.ex\/X.s₀.heap.objs.size<=b)/\b≠X.env.locals/\(∀x c,X.env.cells.lookup x=some c->c≠b)/\∀p∈X.pn++J,p.1≠b) :
  Inv X J Y G { s with heap:=h',gens:=g',drawn:=d',toks:=t' }:=by
 obtain⟨m,⟨o,y,A,k,r⟩,_⟩:=id I.loc;obtain⟨B,g⟩:=u.any k I.free fun z=>(d _ z).2.1 rfl;exact I.step (ch:=ch) d (fun b o g v a e n=>u.keep b o e n (fun z=>(List.mem_cons.mp (I.stkSub b z)).elim g v) a) (fun b o _ _ a e n=>u.any e n a) (fun b o a e n=>u.free b o e n a) (fun b o a e=>u.there b o e a) u.tups u.frzs u.tbls (fun C q=>by
  obtain⟨D,h,i,f,t⟩:=q;rw[k] at f;cases f;exact⟨_,h,i,g,t⟩) j l
theorem Inv.turned{t':Nat}{it:Addr}(I:Inv X J Y H s)(k:∀b o,b≠it->s.heap.get? b=some o->h'.get? b=some o)(g:H it=none)(f:it≠X.env.locals)
  (t:it∈X.ex\/X.s₀.heap.objs.size<=it) (w:∀x c,X.env.cells.lookup x=some c->c≠it) (y:∀p∈X.pn++J,p.1≠it):Inv X J Y H { s with heap:=h',toks:=t' }:=by
 have d:∀b u,H b=some u->b≠it:=fun b u e z=>by rw[z,g] at e;cases e
 refine I.step (g':=s.gens) (d':=s.drawn) (ch:=[it]) (fun b A=>?_) (fun b o _ _ a e _=>k b o (fun z=>a (by simp[z])) e) (fun b o _ _ a e _=>⟨o.slots,k b o (fun z=>a (by simp[z])) e⟩) (fun _ _ _ _ n=>n)
  (fun b o a e=>⟨o,k b o (fun z=>a (by simp[z])) e⟩) (fun _ _ e=>e) (fun _ _ _ e=>e) (fun b B e=>⟨#[],by rw[e];simp⟩) (fun m h=>?_) (fun b u e=>?_) I.bare
 ·have e:b=it:=by simpa using A
  subst e;exact⟨t,f,w,y⟩
 ·obtain⟨o,i,j,l,r⟩:=h;exact⟨o,i,j,k _ o (Ne.symm f) l,r⟩
 ·refine(I.hok b u e).stay (fun c v a q=>k c v ?_ q) (fun _ q=>q) fun _ _ q=>q;rcases a with z | z
  ·rw[z];exact d b u e
  ·exact d c _ z
theorem Inv.tok(I:Inv X J Y H s)(t:Nat):Inv X J Y H { s with toks:=t }:=I.un (h':=s.heap) (t':=t) Un.refl I.hok
theorem Inv.kept{t':Nat}(I:Inv X J Y H s)(k:∀b u,s.heap.get? b=some u->h'.get? b=some u):Inv X J Y H { s with heap:=h',toks:=t' }:=I.un (Un.kept k) (I.hok.kept k)
theorem Inv.laid{a:Addr}{o:HO}{t':Nat}(I:Inv X J Y H s)(k:∀b u,s.heap.get? b=some u->h'.get? b=some u)(c:s.heap.objs.size<=a)(new:cz X.prog X.w (bp H a o) h' a o) :
  Inv X J Y (bp H a o) { s with heap:=h',toks:=t' }:=I.un (Un.laid k c (I.hok.fresh c)) (I.hok.laid k c new)
theorem Inv.write{x e:Addr}{o:HO}{t':Nat}(I:Inv X J Y H s)(c:mQ (H x))(d:e=x\/H e=some (.own x))(k:∀b u,b≠e->s.heap.get? b=some u->h'.get? b=some u)(a:∃u,h'.get? e=some u)
  (new:cz X.prog X.w (bp H x o) h' x o):Inv X J Y (bp H x o) { s with heap:=h',toks:=t' }:=I.un (Un.write c d k a) (I.hok.write c d k a new)
theorem Inv.pins_of{pins':List (Addr×Obj)}(I:Inv X J Y H s)(h:∀p∈pins',s.heap.get? p.1=some p.2/\H p.1=none/\p.1≠X.env.locals/\p.1∉X.fs/\∀v,p.2.data≠.cell v):Inv X pins' Y H s:=
 ⟨I.ok,I.os,I.bare,I.base,I.loc,I.cell,I.free,I.freeC,fun p a=>(List.mem_append.mp a).elim (fun z=>I.pin p (bO _ z)) (h p),I.hok,I.len⟩
theorem xb{N:List Str}(c:N.Nodup){i j:Nat}{x:Str}(a:N[i]? = some x)(b:N[j]? = some x):i=j:=by obtain⟨f,d⟩:=List.getElem?_eq_some_iff.mp a;obtain⟨g,e⟩:=List.getElem?_eq_some_iff.mp b;exact(List.getElem_inj c).mp (d.trans e.symm)
theorem xc{M:Model}{A:Around}{E:Value->Shared->Prop}{i:Nat}{x:Str}{v:V}{u:Value}{Q:Unit->Shared->Prop}(I:Inv X J Y H s)(hN:X.N.Nodup)(T:X.N[i]? = some x)(B:Loc X.env.scope x)(r:bd v u)
  (h:∀s',Inv X J (Y.set i (some v)) H s'->(∃a,Heap.SameBut a s.heap s'.heap/\(a=X.env.locals\/X.env.cells.lookup x=some a))->Q () s') (hf:X.fn x=true\/X.env.scope.names.lookup x=some .local:=by first | exact .inl rfl | exact .inr rfl | assumption):wpAny M A (storeName X.env x u) Q E s:=by
 obtain⟨m,hn,hl⟩:=id I.loc;have U:(X.env.scope.kind==.class||(X.env.scope.kind==.module&&X.env.locals != X.env.globals))=false:=by rw[I.ok.kind];rfl
 have Z:i<Y.length:=by rw[I.len];exact(List.getElem?_eq_some_iff.mp T).1
 have cne:=I.cne;have g:∀{a:Addr}{h':Heap},(∃o,s.heap.get? a=some o/\H a=none)->Heap.SameBut a s.heap h'->cg X.prog X.w H h':=fun {a h'} ha f b ob e=>by
  obtain⟨_,_,C⟩:=ha;refine(I.hok b ob e).stay (fun c w' t q=>(f.2 c ?_).trans q) (fun _ q=>q) fun _ _ q=>q;rintro rfl;rcases t with rfl | t
  ·rw[C] at e;cases e
  ·rw[C] at t;cases t
 rcases B with L | L
 ·refine wpAny_storeName_local L hn (fun h' a4 f=>?_) U;obtain⟨oL,_,_,a5,_⟩:=id hn;refine h _ ⟨I.ok,I.os,I.bare,⟨fun b o e n S B=>?_,fun b o e n S B=>?_,I.base.free,fun b o e B=>?_,I.base.tups,I.base.frzs,I.base.tbls⟩,⟨_,a4,fun j y v' l D e3=>?_⟩,fun y c e=>?_,I.free,I.freeC,fun p hp=>?_,g ⟨oL,a5,I.free⟩ f,by simpa using I.len⟩ ⟨_,f,.inl rfl⟩
  ·exact(f.2 b (Nat.ne_of_lt (Nat.lt_of_lt_of_le (ba e) I.ok.above))).trans (I.base.keep b o e n S B)
  ·obtain⟨sl,l⟩:=I.base.slot b o e n S B;exact⟨sl,(f.2 b (Nat.ne_of_lt (Nat.lt_of_lt_of_le (ba e) I.ok.above))).trans l⟩
  ·obtain⟨o',l⟩:=I.base.there b o e B;exact⟨o',(f.2 b (Nat.ne_of_lt (Nat.lt_of_lt_of_le (ba e) I.ok.above))).trans l⟩
  ·by_cases O:j=i
   ·subst O;rw[T] at l;cases l;rw[List.getElem?_set_self Z] at D;cases D;exact⟨u,r,.inl ⟨L,by simp⟩⟩
   ·rw[List.getElem?_set_ne (Ne.symm O)] at D;obtain⟨u',r',q⟩:=hl j y v' l D e3;refine⟨u',r',?_⟩;rcases q with⟨k,e⟩ | ⟨k,c,e,z⟩
    ·refine .inl ⟨k,?_⟩;have:y≠x:=fun e=>O (xb hN l (e▸T));simp[this,e]
    ·exact .inr ⟨k,c,e,z.sameBut f (cne y c e)⟩
  ·obtain⟨w',z⟩:=I.cell y c e;exact⟨w',z.sameBut f (cne y c e)⟩
  ·obtain⟨e,n,ne,nf,d⟩:=I.pin p hp;exact⟨(f.2 p.1 ne).trans e,n,ne,nf,d⟩
 ·have R:X.fn x=true:=by
   rcases hf with z | z
   ·exact z
   ·rw[z] at L;cases L
  obtain⟨c,t⟩:=I.ok.has x (.inl L);obtain⟨w',z⟩:=I.cell x c t;refine wpAny_storeName_cell I.ok.kind L t z (fun h' a0 f=>?_);obtain⟨oc,a1,a2⟩:=id z;refine h { s with heap:=h' } ⟨I.ok,I.os,I.bare,⟨fun b o e n S B=>?_,fun b o e n S B=>?_,I.base.free,fun b o e B=>?_,I.base.tups,I.base.frzs,I.base.tbls⟩,⟨m,hn.sameBut f (Ne.symm (cne x c t)),fun j y v' l D e3=>?_⟩,fun y c' e=>?_,I.free,I.freeC,fun p hp=>?_,g ⟨oc,a1,I.freeC x c t⟩ f,by simpa using I.len⟩ ⟨c,f,.inr t⟩
  ·exact(f.2 b (Nat.ne_of_lt (Nat.lt_of_lt_of_le (ba e) (I.ok.cab x c R t)))).trans (I.base.keep b o e n S B)
  ·obtain⟨sl,l⟩:=I.base.slot b o e n S B;exact⟨sl,(f.2 b (Nat.ne_of_lt (Nat.lt_of_lt_of_le (ba e) (I.ok.cab x c R t)))).trans l⟩
  ·obtain⟨o',l⟩:=I.base.there b o e B;exact⟨o',(f.2 b (Nat.ne_of_lt (Nat.lt_of_lt_of_le (ba e) (I.ok.cab x c R t)))).trans l⟩
  ·by_cases O:j=i
   ·subst O;rw[T] at l;cases l;rw[List.getElem?_set_self Z] at D;cases D;exact⟨u,r,.inr ⟨.inl L,c,t,a0⟩⟩
   ·rw[List.getElem?_set_ne (Ne.symm O)] at D;obtain⟨u',r',q⟩:=hl j y v' l D e3;refine⟨u',r',?_⟩;rcases q with q | ⟨k,c',e,z'⟩
    ·exact .inl q
    ·refine .inr ⟨k,c',e,z'.sameBut f ?_⟩;rintro rfl;exact O (xb hN l (I.ok.inj _ _ _ e t▸T))
  ·by_cases a3:c' = c
   ·subst a3;exact⟨_,a0⟩
   ·obtain⟨w2,z2⟩:=I.cell y c' e;exact⟨w2,z2.sameBut f a3⟩
  ·obtain⟨e,n,ne,nf,d⟩:=I.pin p hp;refine⟨(f.2 p.1 ?_).trans e,n,ne,nf,d⟩;intro q;rw[q,a1] at e;have q':oc=p.2:=Option.some.inj e;exact d w' (by rw[<-q'];exact a2)
theorem sv{M:Model}{A:Around}{E:Value->Shared->Prop}{i:Nat}{x:Str}{v:V}{u:Value}{Q:Unit->Shared->Prop}(I:Inv X J Y H s)(b:X.N.Nodup)(c:X.N[i]? = some x)(d:Loc X.env.scope x)(r:bd v u)
  (h:∀a,Inv X J (Y.set i (some v)) H a->Q () a) (e:X.fn x=true\/X.env.scope.names.lookup x=some .local:=by first | exact .inl rfl | exact .inr rfl | assumption):wpAny M A (storeName X.env x u) Q E s:=
 xc I b c d r (fun a f _=>h a f) e
theorem Inv.call'{a:Shared}{ch:List Addr}(I:Inv X J Y H s)(g:a.os=s.os)(u:Un (bP X.stack) ch H G s.heap a.heap)(f:cg X.prog X.w G a.heap)(h:AllBare a.gens)
  (d:∀b∈ch,(b∈X.ex\/X.s₀.heap.objs.size<=b)/\b≠X.env.locals/\(∀x c,X.env.cells.lookup x=some c->c≠b)/\∀p∈X.pn++J,p.1≠b):Inv X J Y G a:=by
 obtain⟨h',i,j,t',k⟩:=a;have e:k = s.os:=g;subst e;exact I.call (g':=i) (t':=t') (d':=j) u f h d
end
abbrev XK:=Value->Option Addr->Hp->Prop
noncomputable abbrev St:=List (Option V)
abbrev VK:=V->Hp->Prop
abbrev TE:=St->Hp->VK->Prop
abbrev TT:=St->Hp->(Bool->Hp->Prop)->Prop
abbrev TA:=St->Hp->(List V->Hp->Prop)->Prop
structure fz where
 nx:St->Hp->Prop
 rt:VK
 bk:St->Hp->Prop:=fun _ _=>False
 ct:St->Hp->Prop:=fun _ _=>False
abbrev TS:=fz->St->Hp->Prop
def EP(X:Cx)(a:List (Addr×Obj))(Y:St)(Q:VK)(u:Value)(c:Shared):Prop:=∃v b,Inv X a Y b c/\bd v u/\Q v b
def TP(X:Cx)(a:List (Addr×Obj))(Y:St)(Q:Bool->Hp->Prop)(b:Bool)(d:Shared):Prop:=∃c,Inv X a Y c d/\Q b c
def AP(X:Cx)(a:List (Addr×Obj))(Y:St)(Q:List V->Hp->Prop)(c:List Value)(d:Shared):Prop:=∃vs b,Inv X a Y b d/\bi vs c/\Q vs b
def SP(X:Cx)(a:List (Addr×Obj))(D:fz)(f:Flow)(d:Shared):Prop:=
 match f with
 | .next=>∃c b,Inv X a c b d/\D.nx c b
 | .brk=>∃c b,Inv X a c b d/\D.bk c b
 | .cont=>∃c b,Inv X a c b d/\D.ct c b
 | .ret u=>∃v c b,Inv X a c b d/\bd v u/\D.rt v b
def PE(X:Cx)(e:Expr)(t:TE):Prop:=
 ∀(a:List (Addr×Obj)) (s:Shared) (Y:St) (H:Hp) (Q:VK),Inv X a Y H s->t Y H Q->wpAny (model X.prog X.w) X.A (eval e X.env) (EP X a Y Q) X.xe s
def PT(X:Cx)(e:Expr)(t:TT):Prop:=
 ∀(a:List (Addr×Obj)) (s:Shared) (Y:St) (H:Hp) (Q:Bool->Hp->Prop),Inv X a Y H s->t Y H Q->wpAny (model X.prog X.w) X.A (isTrue e X.env (eval e X.env)) (TP X a Y Q) X.xe s
def PW(X:Cx)(e:Expr)(t:TT):Prop:=
 ∀(whole:Sem Value) (a:List (Addr×Obj)) (s:Shared) (Y:St) (H:Hp) (Q:Bool->Hp->Prop),Inv X a Y H s->t Y H Q->wpAny (model X.prog X.w) X.A (isTrue e X.env whole) (TP X a Y Q) X.xe s
theorem PW.pt{X:Cx}{e:Expr}{t:TT}(h:PW X e t):PT X e t:=h _
def PA(X:Cx)(b:List Expr)(t:TA):Prop:=
 ∀(pos:Pos) (a:List (Addr×Obj)) (s:Shared) (Y:St) (H:Hp) (Q:List V->Hp->Prop),Inv X a Y H s->t Y H Q->wpAny (model X.prog X.w) X.A (spliced (backTo pos (starEach b X.env))) (AP X a Y Q) X.xe s
def PS(X:Cx)(st:Stmt)(t:TS):Prop:=
 ∀(a:List (Addr×Obj)) (s:Shared) (Y:St) (H:Hp) (D:fz),Inv X a Y H s->t D Y H->wpAny (model X.prog X.w) X.A (exec st X.env) (SP X a D) X.xe s
def PSs(X:Cx)(st:List Stmt)(t:TS):Prop:=
 ∀(a:List (Addr×Obj)) (s:Shared) (Y:St) (H:Hp) (D:fz),Inv X a Y H s->t D Y H->wpAny (model X.prog X.w) X.A (execs st X.env) (SP X a D) X.xe s
theorem aP{α:Type}{t:Sem α}{Q b:α->Shared->Prop}{M:Model}{A:Around}{E:Value->Shared->Prop}{s:Shared}(h:wpAny M A t Q E s)(c:∀a s,Q a s->b a s):wpAny M A t b E s:=wpAny_mono h c fun _ _ x=>x
section
variable{X:Cx}
noncomputable def dN(i:Nat):TE:=fun Y H Q=>∃v,Y[i]? = some (some v)/\Q v H
noncomputable def tC(v:V):TE:=fun _ H Q=>Q v H
theorem Dr{i:Nat}{x:Str}{pos:Pos}(j:X.N[i]? = some x)(k:mR X.env.scope x)(hd:(x==("__debug__":Str))=false:=by decide)(f:(x==("__classdict__":Str))=false:=by decide):PE X (.Name x pos) (dN i):=by
 intro d s Y H Q I h;obtain⟨v,e,h⟩:=h;obtain⟨m,n,o⟩:=I.loc;obtain⟨u,r,l⟩:=o i x v j e k;have fin:EP X d Y Q u s:=⟨v,H,I,r,h⟩
 rcases l with⟨b,p⟩ | ⟨b,c,g,a⟩
 ·exact wpAny_Name (wpAny_loadName_local I.ok.kind b n p fin) hd
 ·rcases b with b | b
  ·exact wpAny_Name (wpAny_loadName_cell I.ok.kind b g a fin) hd
  ·exact wpAny_Name (wpAny_loadName_free I.ok.kind b g a fin f) hd
theorem xf{i j pos}:PE X (.Constant (.int i) j pos) (tC (.int i)):=fun _ _ _ H _ I h=>wpAny_Constant_int ⟨.int i,H,I.tok _,⟨_,rfl⟩,h⟩
theorem Ds{b j pos}:PE X (.Constant (.bool b) j pos) (tC (.bl b)):=fun _ _ _ H _ I h=>Constant_bool ⟨.bl b,H,I,rfl,h⟩
theorem xg{j pos}:PE X (.Constant .none j pos) (tC .non):=fun _ _ _ H _ I h=>Constant_none ⟨.non,H,I,rfl,h⟩
theorem xh{x j pos}:PE X (.Constant (.str x) j pos) (tC (.str x)):=fun _ _ _ H _ I h=>Calls.Constant_str ⟨.str x,H,I.tok _,⟨_,rfl⟩,h⟩
def Gl(X:Cx)(x:Str):Prop:=X.env.kindOf x=some .globalImplicit
theorem sx{E:Value->Shared->Prop}{a:List (Addr×Obj)}{s:Shared}{Y:St}{H:Hp}{x:Str}{u:Value}{pos:Pos}{Q:Value->Shared->Prop}(I:Inv X a Y H s)(b:Gl X x)(c:X.mg x=some u)(h:Q u s)
  (hd:(x==("__debug__":Str))=false:=by decide):wpAny (model X.prog X.w) X.A (eval (.Name x pos) X.env) Q E s:=
 Calls.Name_function_global I.ok.kind b (Calls.loadGlobal_global (by rw[I.ok.glob];exact I.mod.glob.keeps I.bk) c h) hd
theorem ie{E:Value->Shared->Prop}{a:List (Addr×Obj)}{s:Shared}{Y:St}{H:Hp}{x:Str}{u:Value}{pos:Pos}{Q:Value->Shared->Prop}(I:Inv X a Y H s)(b:Gl X x)(c:X.mg x=none)(d:bootBuiltins x=some u)(h:Q u s)
  (e:x≠"__name__":=by decide) (hd:(x==("__debug__":Str))=false:=by decide):wpAny (model X.prog X.w) X.A (eval (.Name x pos) X.env) Q E s:=by
 obtain⟨f,h1,h2⟩:=I.mod.blt;exact Calls.Name_function_global I.ok.kind b (Calls.loadGlobal_builtin (by rw[I.ok.glob];exact I.mod.glob.keeps I.bk) c (by rw[I.ok.blt];exact h1.keeps I.bk) ((h2 x e).trans d) h) hd
theorem Dt{x:Str}{v:V}{u:Value}{pos:Pos}(a:Gl X x)(b:X.mg x=some u)(r:bd v u)(hd:(x==("__debug__":Str))=false:=by decide):PE X (.Name x pos) (tC v):=
 fun _ _ _ H _ I h=>sx I a b ⟨v,H,I,r,h⟩ hd
theorem iO{x:Str}{v:V}{u:Value}{pos:Pos}(a:Gl X x)(b:X.mg x=none)(c:bootBuiltins x=some u)(r:bd v u)(d:x≠"__name__":=by decide)(hd:(x==("__debug__":Str))=false:=by decide):PE X (.Name x pos) (tC v):=
 fun _ _ _ H _ I h=>ie I a b c ⟨v,H,I,r,h⟩ d hd
variable{a b:Expr}{M L:TE}{pos:Pos}
noncomputable def tB(t:TE):TT:=fun Y H Q=>t Y H fun x d=>∃c,x=.bl c/\Q c d
theorem Du{e:Expr}{t:TE}(h:PE X e t)(f:∀whole,isTrue e X.env whole=(do let v <-whole;standAt e.pos;holding [v] (truthy v)):=by intro _;rfl):PT X e (tB t):=by intro c s Y H Q I g;refine isTrue_plain (aP (h c s Y H _ I g) fun v m ⟨x,i,j,k,l⟩=>?_) (f _);obtain⟨d,rfl,q⟩:=l;cases k;exact wpAny_truthy_bool ⟨i,j,q⟩
variable{D C:TT}{rest:List Expr}
noncomputable def Dv(t u:TT):TT:=fun Y H Q=>t Y H fun c d=>if c=true then u Y d Q else Q false d
noncomputable def Dw(t u:TT):TT:=fun Y H Q=>t Y H fun c d=>if c=true then Q true d else u Y d Q
noncomputable def Dx(t:TT):TT:=fun Y H Q=>t Y H fun c d=>Q (!c) d
theorem Dy(f:PT X a D):PW X (.BoolOp .And [a] pos) D:=by
 intro g d s Y H Q I h;refine isTrue_and (aP (f d s Y H Q I h) fun c i e=>?_);cases c with
 | true=>exact isTrue_and_nil e
 | false=>exact e
theorem Dz(f:PT X a D):PW X (.BoolOp .Or [a] pos) D:=by
 intro g d s Y H Q I h;refine isTrue_or (aP (f d s Y H Q I h) fun c i e=>?_);cases c with
 | false=>exact isTrue_or_nil e
 | true=>exact e
theorem DC(i:PT X a D)(l:PW X (.BoolOp .And (b::rest) pos) C):PW X (.BoolOp .And (a::b::rest) pos) (Dv D C):=by
 intro j d s Y H Q I h;refine isTrue_and (aP (i d s Y H _ I h) fun c k ⟨e,f,g⟩=>?_);cases c with
 | true=>exact l j d k Y e Q f g
 | false=>exact⟨e,f,g⟩
theorem DF(i:PT X a D)(l:PW X (.BoolOp .Or (b::rest) pos) C):PW X (.BoolOp .Or (a::b::rest) pos) (Dw D C):=by
 intro j d s Y H Q I h;refine isTrue_or (aP (i d s Y H _ I h) fun c k ⟨e,f,g⟩=>?_);cases c with
 | true=>exact⟨e,f,g⟩
 | false=>exact l j d k Y e Q f g
theorem DH(e:PT X a D):PT X (.UnaryOp .Not a pos) (Dx D):=by intro d s Y H Q I h;exact isTrue_not (e d s Y H (fun c f=>Q (!c) f) I h)
noncomputable def DJ(M L:TE):TE:=fun Y H Q=>M Y H fun x d=>∃c,x=.bl c/\if c=true then L Y d Q else Q (.bl false) d
noncomputable def DK(M L:TE):TE:=fun Y H Q=>M Y H fun x d=>∃c,x=.bl c/\if c=true then Q (.bl true) d else L Y d Q
noncomputable def DL(M:TE):TE:=fun Y H Q=>M Y H fun x d=>∃c,x=.bl c/\Q (.bl (!c)) d
theorem DM{op}{t:TE}(h:PE X a t):PE X (.BoolOp op [a] pos) t:=fun c s Y H Q I d=>BoolOp_one (h c s Y H Q I d)
theorem DP(i:PE X a M)(l:PE X (.BoolOp .And (b::rest) pos) L):PE X (.BoolOp .And (a::b::rest) pos) (DJ M L):=by
 intro d s Y H Q I h;refine BoolOp_and (aP (i d s Y H _ I h) fun v j ⟨x,f,g,k,e⟩=>?_);obtain⟨c,rfl,e⟩:=e;cases k;refine wpAny_truthy_bool ?_;cases c with
 | true=>exact l d j Y f Q g e
 | false=>exact⟨.bl false,f,g,rfl,e⟩
theorem DQ(i:PE X a M)(l:PE X (.BoolOp .Or (b::rest) pos) L):PE X (.BoolOp .Or (a::b::rest) pos) (DK M L):=by
 intro d s Y H Q I h;refine BoolOp_or (aP (i d s Y H _ I h) fun v j ⟨x,f,g,k,e⟩=>?_);obtain⟨c,rfl,e⟩:=e;cases k;refine wpAny_truthy_bool ?_;cases c with
 | false=>exact l d j Y f Q g e
 | true=>exact⟨.bl true,f,g,rfl,e⟩
theorem DR(f:PE X a M):PE X (.UnaryOp .Not a pos) (DL M):=by intro d s Y H Q I h;refine UnaryOp_ (aP (f d s Y H _ I h) fun v k ⟨x,g,i,j,e⟩=>?_);obtain⟨c,rfl,e⟩:=e;cases j;exact not_of (wpAny_truthy_bool ⟨.bl (!c),g,i,rfl,e⟩)
noncomputable def DU(t:TT)(M L:TE):TE:=fun Y H Q=>t Y H fun c d=>if c=true then M Y d Q else L Y d Q
theorem DY{c:Expr}(k:PT X c D)(l:PE X a M)(m:PE X b L):PE X (.IfExp c a b pos) (DU D M L):=by
 intro e s Y H Q I h;refine wpAny_IfExp (aP (k e s Y H _ I h) fun d f ⟨g,i,j⟩=>?_);cases d with
 | true=>exact l e f Y g Q i j
 | false=>exact m e f Y g Q i j
end
def cU(K:Frag)(H:Hp)(a:Addr)(c:List V):Prop:=
 Rd H a (.lst c)\/
  ∃(o:Obj) (b:Array Value) (n:Nat),K.lookup a=some o/\o.cls=.type "list"/\o.dict=none/\o.data=.seq b n/\b.size<=sizeLine/\bi c b.toList
def dD(K:Frag)(H:Hp)(a:Addr)(c:List V):Prop:=
 Rd H a (.tup c)\/
  ∃(o:Obj) (b:Array Value) (n:Nat),K.lookup a=some o/\o.cls=.type "tuple"/\o.data=.seq b n/\b.size<=sizeLine/\bi c b.toList
noncomputable def DZ:Value->Option V
 | .none=>some .non
 | .bool b=>some (.bl b)
 | .int i _=>some (.int i)
 | .str x _=>some (.str x)
 | .bytes b _=>some (.byt b)
 | .float b _=>some (.flt b)
 | .ref a=>some (.ref a)
 | .type n=>some (.ty n)
 | _=>none
theorem bd.abs{x:V}{u:Value}(r:bd x u):DZ u=some x:=by
 cases x with
 | non=>cases r;rfl
 | bl _=>cases r;rfl
 | int _=>obtain⟨t,rfl⟩:=r;rfl
 | str _=>obtain⟨t,rfl⟩:=r;rfl
 | byt _=>obtain⟨t,rfl⟩:=r;rfl
 | flt _=>obtain⟨t,rfl⟩:=r;rfl
 | ref _=>cases r;rfl
 | ty _=>cases r;rfl
theorem bd.inj{x y:V}{u:Value}(r:bd x u)(q:bd y u):x=y:=Option.some.inj (r.abs.symm.trans q.abs)
theorem bi.inj:∀{a b:List V}{c:List Value},bi a c->bi b c->a=b
 | _,_,_,.nil,.nil=>rfl
 | _,_,_,.cons r t,.cons d t'=>by rw[r.inj d,bi.inj t t']
section
variable{X:Cx}{N:List (Addr×Obj)}{Y:St}{H:Hp}{s:Shared}{a:Addr}{E B:List V}
theorem cU.of{K:Frag}(h:H a=some (.lst E)):cU K H a E:=.inl (.inl h)
theorem Inv.list(I:Inv X N Y H s)(h:cU X.K H a E):∃b:List Value,bi E b/\PlainL s.heap a b.toArray/\E.length<=sizeLine:=by
 rcases h with h | ⟨o,b,n,c,d,hd,f,g,r⟩
 ·obtain⟨z,b,n,r,e⟩:=h.ok I.hok;exact⟨b,r,⟨_,n,e,rfl,rfl,rfl⟩,z⟩
 ·refine⟨b.toList,r,⟨o,n,I.kIn a o c,d,hd,by simpa using f⟩,?_⟩;have e:=r.length;simp only[Array.length_toList] at e;omega
theorem Inv.tuple(I:Inv X N Y H s)(h:dD X.K H a E):∃b:List Value,bi E b/\IsTup s.heap a b.toArray/\E.length<=sizeLine:=by
 rcases h with h | ⟨o,b,n,c,d,f,g,r⟩
 ·obtain⟨z,b,r,p⟩:=h.ok I.hok;exact⟨b,r,p,z⟩
 ·refine⟨b.toList,r,⟨o,I.kIn a o c,d,n,by simpa using f⟩,?_⟩;have e:=r.length;simp only[Array.length_toList] at e;omega
theorem Inv.list_inj(I:Inv X N Y H s)(h:cU X.K H a E)(i:cU X.K H a B):E=B:=by
 obtain⟨c,r,⟨o,n,e,_,_,d⟩,_⟩:=I.list h;obtain⟨b,j,⟨l,m,f,_,_,g⟩,_⟩:=I.list i;rw[e] at f;cases f;rw[d] at g;injection g with k _
 have:c=b:=by simpa using congrArg Array.toList k
 subst this;exact r.inj j
theorem Inv.tuple_inj(I:Inv X N Y H s)(h:dD X.K H a E)(i:dD X.K H a B):E=B:=by
 obtain⟨c,r,⟨o,e,_,n,d⟩,_⟩:=I.tuple h;obtain⟨b,j,⟨l,f,_,m,g⟩,_⟩:=I.tuple i;rw[e] at f;cases f;rw[d] at g;injection g with k _
 have:c=b:=by simpa using congrArg Array.toList k
 subst this;exact r.inj j
end
section
variable{X:Cx}{st:Stmt}{rest:List Stmt}{t u:TS}{e:Expr}{A:TE}{pos:Pos}
noncomputable def Ea:TS:=fun D Y H=>D.nx Y H
noncomputable def Eb(t u:TS):TS:=fun D Y H=>t { D with nx:=u D } Y H
theorem Ec:PSs X [] Ea:=fun _ _ Y H _ I h=>wpAny_execs_nil ⟨Y,H,I,h⟩
theorem Ed(i:PS X st t)(j:PSs X rest u):PSs X (st::rest) (Eb t u):=by
 intro a s Y H D I h;refine wpAny_execs_cons (aP (i a s Y H { D with nx:=u D } I h) fun f b q=>?_);cases f with
 | next=>obtain⟨c,d,g,q⟩:=q;exact j a b c d D g q
 | ret v=>exact q
 | brk=>exact q
 | cont=>exact q
theorem Ee(b:PS X st t):PSs X [st] t:=by
 intro a s Y H D I h;refine wpAny_execs_cons (aP (b a s Y H D I h) fun f c q=>?_);cases f with
 | next=>exact wpAny_execs_nil q
 | ret v=>exact q
 | brk=>exact q
 | cont=>exact q
theorem Inv.quiet{a:List (Addr×Obj)}{Y:St}{H:Hp}{s:Shared}(I:Inv X a Y H s):interactive X.env=false:=by simp[interactive,I.ok.kind]
noncomputable def Ef(A:TE):TS:=fun D Y H=>A Y H fun _ a=>D.nx Y a
theorem xi(b:PE X e A)(c:swapsWith e none pos.line X.env=pure false:=by rfl):PS X (.Expr e pos) (Ef A):=by intro a s Y H D I h;exact wpAny_Expr_any (aP (b a s Y H _ I h) fun v i ⟨x,d,f,j,g⟩=>⟨Y,d,f,g⟩) I.quiet c
noncomputable def Eg(A:TE):TS:=fun D Y H=>A Y H D.rt
theorem sy(b:PE X e A):PS X (.Return (some e) pos) (Eg A):=by intro a s Y H D I h;exact wpAny_Return_some (aP (b a s Y H _ I h) fun v i ⟨x,c,d,f,g⟩=>⟨x,Y,c,d,f,g⟩)
noncomputable def Eh(c:TT)(t u:TS):TS:=fun D Y H=>c Y H fun b a=>if b=true then t D Y a else u D Y a
theorem Ei{c:Expr}{a b:List Stmt}{g:TT}(m:PT X c g)(n:PSs X a t)(o:PSs X b u):PS X (.If c a b pos) (Eh g t u):=by
 intro f s Y H D I h;refine wpAny_If (aP (m f s Y H _ I h) fun d i ⟨j,k,l⟩=>?_);cases d with
 | true=>exact n f i Y j D k l
 | false=>exact o f i Y j D k l
end
abbrev TG:=V->St->Hp->(St->Hp->Prop)->Prop
abbrev ig:=List V->St->Hp->(St->Hp->Prop)->Prop
def PG(X:Cx)(target:Expr)(t:TG):Prop:=
 ∀(a:List (Addr×Obj)) (s:Shared) (Y:St) (H:Hp) (v:V) (u:Value) (Q:St->Hp->Prop),Inv X a Y H s->bd v u->t v Y H Q->
  wpAny (model X.prog X.w) X.A (assign target X.env u) (fun _ d=>∃b c,Inv X a b c d/\Q b c) X.xe s
def PGs(X:Cx)(e:List Expr)(t:ig):Prop:=
 ∀(a:List (Addr×Obj)) (s:Shared) (Y:St) (H:Hp) (vs:List V) (b:List Value) (Q:St->Hp->Prop),Inv X a Y H s->bi vs b->t vs Y H Q->
  wpAny (model X.prog X.w) X.A (assignInOrder ((assignEach e X.env).map (·.2)) b) (fun _ f=>∃c d,Inv X a c d f/\Q c d) X.xe s
abbrev pq:=V->V->Hp->VK->Prop
def sA(X:Cx)(op:Operator)(t:pq):Prop:=
 ∀(a:List (Addr×Obj)) (s:Shared) (Y:St) (H:Hp) (x y:V) (v u:Value) (Q:VK),Inv X a Y H s->bd x v->bd y u->t x y H Q->
  wpAny (model X.prog X.w) X.A (inplaceOp op v u) (EP X a Y Q) X.xe s
section
variable{X:Cx}{pos:Pos}
noncomputable def px(i:Nat):TG:=fun v Y H Q=>Q (Y.set i (some v)) H
theorem Ej{i:Nat}{x:Str}(b:X.N.Nodup)(c:X.N[i]? = some x)(d:Loc X.env.scope x)(e:X.fn x=true\/X.env.scope.names.lookup x=some .local:=by first | exact .inl rfl | exact .inr rfl | assumption):PG X (.Name x pos) (px i):=by intro a s Y H v u Q I r h;exact wpAny_assign_Name (sv I b c d r (fun g f=>⟨_,H,f,h⟩) e)
noncomputable def Ek:ig:=fun vs Y H Q=>vs=[]/\Q Y H
noncomputable def El(t:TG)(u:ig):ig:=fun vs Y H Q=>∃v r,vs=v::r/\t v Y H fun a b=>u r a b Q
theorem Em:PGs X [] Ek:=by intro a s Y H vs b Q I r h;obtain⟨e,h⟩:=h;subst e;cases r;exact assignInOrder_nil ⟨Y,H,I,h⟩
theorem En{e:Expr}{b:List Expr}{t:TG}{u:ig}(m:PG X e t)(n:PGs X b u)
  (c:(assignEach (e::b) X.env).map (·.2)=assign e X.env::(assignEach b X.env).map (·.2):=by rfl):PGs X (e::b) (El t u):=by
 intro a s Y H vs o Q I r h;obtain⟨v,p,d,h⟩:=h;subst d;cases r with
 | cons r f=>rw[c];refine assignInOrder_cons (aP (m a s Y H _ _ _ I r h) fun _ g ⟨i,j,k,l⟩=>?_);exact n a g i j _ _ Q k f l
noncomputable def Eo(K:Frag)(n:Nat)(t:ig):TG:=fun v Y H Q=>∃a b,v=.ref a/\dD K H a b/\b.length=n/\t b Y H Q
theorem Ep{d:List Expr}{k:Nat}{t:ig}{n:Nat}(j:X.calm=true)(h:PGs X d t)
  (l:(assignEach d X.env).length=n:=by rfl) (f:(assignEach d X.env).findIdx? (·.1)=none:=by rfl):PG X (.Tuple d k pos) (Eo X.K n t):=by
 intro c s Y H v u Q I r g;obtain⟨a,m,p,q,w,g⟩:=g;subst p;cases r;obtain⟨x,i,y,C⟩:=I.tuple q;refine assign_Tuple_tuple (I.ok.hd j) y (by simp[l,<-w,i.length]) f fun z A=>?_;have B:Inv X c Y H { s with heap:=z }:=I.kept (t':=s.toks) fun b o e=>A b o (Nat.ne_of_lt (ba e)) e;exact h c _ Y H m _ Q B (by simpa using i) g
noncomputable def sB(a:TE)(g:TG):TS:=fun D Y H=>a Y H fun x b=>g x Y b D.nx
theorem Er{b e:Expr}{c:TE}{g:TG}(d:PE X e c)(f:PG X b g)(i:swapsWithSole [b] e pos.line X.env=pure false:=by rfl)(j:swappedStores [b] e X.env=pure none:=by rfl)
  (p:(assignEach [b] X.env).map (·.2)=[assign b X.env]:=by rfl):PS X (.Assign [b] e pos) (sB c g):=by
 intro a s Y H D I h;refine wpAny_Assign_stores (aP (d a s Y H _ I h) fun v k ⟨x,l,m,n,o⟩=>?_) i j;rw[p];exact aP (f a k Y l x v _ m n o) fun _ r q=>q
theorem xj{i:Nat}{x:Str}{e:Expr}{c:TE}{a:Pos}(d:X.N.Nodup)(f:X.N[i]? = some x)(g:Loc X.env.scope x)(j:PE X e c)(k:swapsWith e (some (.Name x a)) pos.line X.env=pure false:=by rfl)(l:X.fn x=true\/X.env.scope.names.lookup x=some .local:=by first | exact .inl rfl | exact .inr rfl | assumption) :
  PS X (.Assign [.Name x a] e pos) (sB c (px i)):=by
 intro b s Y H D I h;refine wpAny_Assign_Name (aP (j b s Y H _ I h) fun v r ⟨y,m,n,o,p⟩=>?_) k;exact sv n d f g o (fun t q=>⟨_,m,q,p⟩) l
noncomputable def Es(i:Nat)(a:TE)(d:pq):TS:=fun D Y H=>∃x,Y[i]? = some (some x)/\a Y H fun y b=>d x y b fun z c=>D.nx (Y.set i (some z)) c
theorem Et{i:Nat}{x:Str}{e:Expr}{n:TE}{op:Operator}{p:pq}{f:Pos}(q:X.N.Nodup)(o:X.N[i]? = some x)(g:Loc X.env.scope x)(t:PE X e n)(B:sA X op p)(C:X.fn x=true\/X.env.scope.names.lookup x=some .local:=by first | exact .inl rfl | exact .inr rfl | assumption) :
  PS X (.AugAssign (.Name x f) op e pos) (Es i n p):=by
 intro a s Y H D I h;obtain⟨v,E,h⟩:=h;obtain⟨m,G,J⟩:=I.loc;have j:mR X.env.scope x:=by rcases g with k | k;exact .inl k;exact .inr (.inl k)
 obtain⟨u,r,l⟩:=J i x v o E j;refine wpAny_AugAssign_Name ?_;have go:wpAny (model X.prog X.w) X.A (eval e X.env) (fun w L=>wpAny (model X.prog X.w) X.A (inplaceOp op u w) (fun r M=>wpAny (model X.prog X.w) X.A (storeName X.env x r) (fun _=>SP X a D .next) X.xe M) X.xe L) X.xe s:=by refine aP (t a s Y H _ I h) fun w O ⟨y,Q,R,S,T⟩=>?_;refine aP (B a O Y Q v y u w _ R r S T) fun z s2 ⟨zv,U,Z,r2,q2⟩=>?_;exact sv Z q o g r2 (fun s3 I3=>⟨_,U,I3,q2⟩) C
 rcases l with⟨b,hm⟩ | ⟨b,c,hc,d⟩
 ·exact wpAny_loadName_local I.ok.kind b G hm go
 ·rcases b with b | b
  ·exact wpAny_loadName_cell I.ok.kind b hc d go
  ·rcases g with k | k
   ·have:X.env.scope.names.lookup x=some .free:=b;rw[k] at this;cases this
   ·have:X.env.scope.names.lookup x=some .free:=b;rw[k] at this;cases this
noncomputable def xk(f:Int->Int->Int):pq:=fun x y H Q=>∃i j,x=.int i/\y=.int j/\Q (.int (f i j)) H
theorem xl:sA X .Add (xk fun i j=>i+j):=by intro a s Y H x y v u Q I b c h;obtain⟨i,j,d,e,q⟩:=h;subst d;subst e;obtain⟨t,rfl⟩:=b;obtain⟨t',rfl⟩:=c;exact iadd_int ⟨.int _,H,I.tok _,⟨_,rfl⟩,q⟩
end
section
variable{X:Cx}{pos:Pos}
noncomputable def Eu(c:TT)(g:TS):TS:=fun D Y H=>∃W:Nat->St->Hp->Prop,(∃m,W m Y H)/\∀m Y H,W m Y H->
 c Y H fun b a=>if b=true then ∃N:St->Hp->Prop,(∀d e,N d e->∃f,f<m/\W f d e)/\g { D with nx:=N,ct:=N,bk:=D.nx } Y a else D.nx Y a
theorem Ev{c:Expr}{body:List Stmt}{r:TT}{t:TS}(u:PassesOwn (model X.prog X.w) X.A X.env X.xe)(G:PT X c r)(T:PSs X body t):PS X (.While c body [] pos) (Eu r t):=by
 intro a s Y H D I h;obtain⟨W,⟨J,L⟩,d⟩:=h;refine wpAny_While (codeAny_whileLoop (fun n M=>∃x y,Inv X a x y M/\W n x y) ?_ J ⟨Y,H,I,L⟩);rintro n O ⟨i,z,Q,R⟩;refine wpAny_passesOwn u (aP (G a O i z _ Q (d n i z R)) fun b S ⟨B,C,j⟩=>?_);cases b with
 | true=>
  obtain⟨N,E,j⟩:=j;rw[if_pos rfl];refine wpAny_passesOwn u (aP (T a S i B _ C j) fun f U k=>?_);cases f with
  | next=>obtain⟨e,g,l,m⟩:=k;obtain⟨o,p,q⟩:=E e g m;exact⟨o,p,e,g,l,q⟩
  | cont=>obtain⟨e,g,l,m⟩:=k;obtain⟨o,p,q⟩:=E e g m;exact⟨o,p,e,g,l,q⟩
  | brk=>exact k
  | ret v=>exact k
 | false=>rw[if_neg Bool.false_ne_true];exact wpAny_execs_nil ⟨i,B,C,j⟩
end
structure It where
 go:Nat->Hp->Prop
 yld:Nat->Hp->V->Hp->Prop
 stop:Nat->Hp->Prop
def fK(X:Cx)(a:List (Addr×Obj))(H:Hp)(b:Addr):Prop:=
 H b=none/\b≠X.env.locals/\b∉X.fs/\(b∈X.ex\/X.s₀.heap.objs.size<=b)/\(∀x c,X.env.cells.lookup x=some c->c≠b)/\∀p∈X.pn++a,p.1≠b
theorem Inv.fpOk{X:Cx}{a:List (Addr×Obj)}{Y:St}{H f:Hp}{s:Shared}{b:Addr}(I:Inv X a Y H s)(d:s.heap.objs.size<=b)(g:f b=none):fK X a f b:=by
 refine⟨g,Nat.ne_of_gt (Nat.lt_of_lt_of_le I.lt d),I.nofs d,.inr (Nat.le_trans I.sz d),fun x c e z=>?_,fun p h z=>?_⟩
 ·obtain⟨v,q⟩:=I.cell x c e;exact absurd (Nat.lt_of_lt_of_le q.lt (by rw[z];exact d)) (Nat.lt_irrefl _)
 ·exact absurd (Nat.lt_of_lt_of_le (ba (I.pin p h).1) (by rw[z];exact d)) (Nat.lt_irrefl _)
structure gf (P:Program) (w:World) (K:Frag) (tg:Expr) (J:It) (fp:List Addr) (it:Addr) (tn:Nat->Heap->Prop):Prop where
 mem:it∈fp
 obj:∀i h,tn i h->∀b∈fp,∃o,h.get? b=some o/\∀v,o.data≠.cell v
 keep:∀i h h',tn i h->(∀b∈fp,∀o,h.get? b=some o->h'.get? b=some o)->tn i h'
 item:∀(X:Cx),X.prog=P->X.w=w->X.K=K->X.calm=true->∀(i:Nat) (pins:List (Addr×Obj)) (s:Shared) (Y:St) (H:Hp) (E:Value->Shared->Prop),Inv X pins Y H s->(∀b∈fp,fK X pins H b)->tn i s.heap->J.go i H->
  wpAny (model P w) X.A (pyNext (.ref it)) (fun r s1=>∃u,r=some u/\
   wpAny (model P w) X.A (letOwnedTupleGo tg (.ref it) u) (fun _ s2=>∃x H',Inv X pins Y H' s2/\bd x u/\J.yld i H x H'/\tn (i+1) s2.heap/\∀b∈fp,H' b=none) E s1) E s
 done:∀(X:Cx),X.prog=P->X.w=w->X.K=K->X.calm=true->∀(i:Nat) (pins:List (Addr×Obj)) (s:Shared) (Y:St) (H:Hp) (E:Value->Shared->Prop),Inv X pins Y H s->(∀b∈fp,fK X pins H b)->tn i s.heap->J.stop i H->
  wpAny (model P w) X.A (pyNext (.ref it)) (fun r s1=>r=none/\Inv X pins Y H s1) E s
 self:∀(A:Around) (i:Nat) (s:Shared) (Q:Value->Shared->Prop) (E:Value->Shared->Prop),tn i s.heap->Q (.ref it) s->wpAny (model P w) A (pyIter (.ref it)) Q E s
abbrev TI:=St->Hp->(It->Hp->Prop)->Prop
def xm(X:Cx)(a:List (Addr×Obj))(Y:St)(h:Expr)(R:It->Hp->Prop)(c:Value)(e:Shared):Prop:=
 ∃(it:Addr) (f:List Addr) (g:Nat->Heap->Prop) (J:It) (d:Hp),c=.ref it/\Inv X a Y d e/\gf X.prog X.w X.K h J f it g/\g 0 e.heap/\(∀b∈f,fK X a d b)/\R J d
def PI(X:Cx)(b iter:Expr)(c:TI):Prop:=
 ∀(a:List (Addr×Obj)) (s:Shared) (Y:St) (H:Hp) (R:It->Hp->Prop),Inv X a Y H s->c Y H R->
  wpAny (model X.prog X.w) X.A (eval iter X.env) (fun v d=>wpAny (model X.prog X.w) X.A (pyIter v) (xm X a Y b R) X.xe d) X.xe s
theorem sC{M:Model}{A:Around}{E:Value->Shared->Prop}{s:Shared}{b:Expr}{it:Addr}{u:Value}{o:Obj}{n:String}{vs:Array Value}{Q:Unit->Shared->Prop}(c:s.heap.get? it=some o)(d:o.cls=.type n)(hd:o.data=.fields vs)
    (e:["enumerate","zip","dict_itemiterator","dict_reverseitemiterator","odict_iterator","itertools.zip_longest","itertools.pairwise"].contains n=false) (a:Q () s):wpAny M A (letOwnedTupleGo b (.ref it) u) Q E s:=by
  unfold letOwnedTupleGo;cases b<;>first
    | exact av a
    | (cases u<;>first
        | exact av a
        | (refine aa (wpAny_load c ?_)
           rw[d,hd];show wpAny M A (if (["enumerate","zip","dict_itemiterator","dict_reverseitemiterator","odict_iterator","itertools.zip_longest","itertools.pairwise"].contains n&&vs[0]?==some (rawInt _))=true then _ else _) Q E s;rw[if_neg (by intro h;rw[e,Bool.false_and] at h;cases h)];exact av a))
noncomputable def sD(K:Frag)(a:Addr):It:=
 ⟨fun i H=>∃b x,cU K H a b/\b[i]? = some x,fun i H x c=>c = H/\∀b,cU K H a b->b[i]? = some x,fun i H=>∃b,cU K H a b/\b.length<=i⟩
noncomputable def sE(K:Frag)(a:Addr):It:=
 ⟨fun i H=>∃b x,dD K H a b/\b[i]? = some x,fun i H x c=>c = H/\∀b,dD K H a b->b[i]? = some x,fun i H=>∃b,dD K H a b/\b.length<=i⟩
noncomputable def mS(lo:Int)(n:Nat):It:=⟨fun i _=>i<n,fun i H x a=>a = H/\x=.int (lo+i),fun i _=>n<=i⟩
theorem Ew{P:Program}{w:World}{K:Frag}{tg:Expr}(a it:Addr):gf P w K tg (sD K a) [it] it (fun i h=>h.IsListIter it a i) where
 mem:=by simp
 obj:=fun i h st b hb=>by
  have e:b=it:=by simpa using hb
  subst e;obtain⟨o,e,c,d⟩:=st;exact⟨o,e,fun v z=>by rw[d] at z;cases z⟩
 keep:=fun i h h' st k=>st.at fun o e=>k it (by simp) o e
 item:=by intro X hP hw hK hc i pins s Y H E I hf st hg;subst hP hw hK;obtain⟨xs,x,hq,hx⟩:=hg;obtain⟨its,rv,p,hz⟩:=I.list hq;obtain⟨u,hu,ru⟩:=rv.get hx;obtain⟨f0,f1,f2,f3,f4,f5⟩:=hf it (by simp);refine wpAny_pyNext_list_item st p.isList (x:=u) (by simpa using hu) fun h' st' sb=>?_;have I1:Inv X pins Y H { s with heap:=h' }:=I.turned (t':=s.toks) (fun b o hb e=>(sb.2 b hb).trans e) f0 f1 f3 f4 f5;obtain⟨o,e,c,d⟩:=id st';exact⟨u,rfl,sC (s:={ s with heap:=h' }) e c d (by decide) ⟨x,H,I1,ru,⟨rfl,fun ys hy=>by rw[I.list_inj hy hq];exact hx⟩,st',fun b hb=>(hf b hb).1⟩⟩
 done:=by intro X hP hw hK hc i pins s Y H E I hf st hg;subst hP hw hK;obtain⟨xs,hq,hx⟩:=hg;obtain⟨its,rv,p,hz⟩:=I.list hq;obtain⟨f0,f1,f2,f3,f4,f5⟩:=hf it (by simp);have hl:=rv.length;exact wpAny_pyNext_list_end (I.ok.hd hc) st p.isList (by simp;omega) fun h' eb=>⟨rfl,I.turned (t':=s.toks) (fun b o hb e=>eb b o hb e) f0 f1 f3 f4 f5⟩
 self:=fun _ _ _ _ _ st h=>wpAny_pyIter_listiter st h
theorem Ex{P:Program}{w:World}{K:Frag}{tg:Expr}(a it:Addr):gf P w K tg (sE K a) [it] it (fun i h=>h.IsTupleIter it a i) where
 mem:=by simp
 obj:=fun i h st b hb=>by
  have e:b=it:=by simpa using hb
  subst e;obtain⟨o,e,c,d⟩:=st;exact⟨o,e,fun v z=>by rw[d] at z;cases z⟩
 keep:=fun i h h' st k=>st.at fun o e=>k it (by simp) o e
 item:=by intro X hP hw hK hc i pins s Y H E I hf st hg;subst hP hw hK;obtain⟨xs,x,hq,hx⟩:=hg;obtain⟨its,rv,p,hz⟩:=I.tuple hq;obtain⟨u,hu,ru⟩:=rv.get hx;obtain⟨f0,f1,f2,f3,f4,f5⟩:=hf it (by simp);refine wpAny_pyNext_tuple_item st (show s.heap.IsTuple a its.toArray from p) (x:=u) (by simpa using hu) fun h' st' sb=>?_;have I1:Inv X pins Y H { s with heap:=h' }:=I.turned (t':=s.toks) (fun b o hb e=>(sb.2 b hb).trans e) f0 f1 f3 f4 f5;obtain⟨o,e,c,d⟩:=id st';exact⟨u,rfl,sC (s:={ s with heap:=h' }) e c d (by decide) ⟨x,H,I1,ru,⟨rfl,fun ys hy=>by rw[I.tuple_inj hy hq];exact hx⟩,st',fun b hb=>(hf b hb).1⟩⟩
 done:=by intro X hP hw hK hc i pins s Y H E I hf st hg;subst hP hw hK;obtain⟨xs,hq,hx⟩:=hg;obtain⟨its,rv,p,hz⟩:=I.tuple hq;obtain⟨f0,f1,f2,f3,f4,f5⟩:=hf it (by simp);have hl:=rv.length;exact wpAny_pyNext_tuple_end (I.ok.hd hc) st (show s.heap.IsTuple a its.toArray from p) (by simp;omega) fun h' eb=>⟨rfl,I.turned (t':=s.toks) (fun b o hb e=>eb b o hb e) f0 f1 f3 f4 f5⟩
 self:=fun _ _ _ _ _ st h=>wpAny_pyIter_tupleiter st h
theorem Ey{P:Program}{w:World}{K:Frag}{tg:Expr}(it:Addr)(lo:Int)(n:Nat):gf P w K tg (mS lo n) [it] it (fun i h=>IsRangeIter h it (lo+(i:Nat) * 1) ((n:Int) - (i:Nat)) 1) where
 mem:=by simp
 obj:=fun i h st b hb=>by
  have e:b=it:=by simpa using hb
  subst e;exact⟨_,st,fun v z=>by
   have z':Data.fields _=Data.cell v:=z;cases z'⟩
 keep:=fun i h h' st k=>k it (by simp) _ st
 item:=by intro X hP hw hK hc i pins s Y H E I hf st hg;subst hP hw hK;obtain⟨f0,f1,f2,f3,f4,f5⟩:=hf it (by simp);have W:=Walks.range (prog:=X.prog) (w:=X.w) (I.ok.hd hc) it lo 1 n;refine W.item i s _ _ hg st fun v h' tk hv st' kk=>?_;obtain⟨t,rfl⟩:=hv;have I1:Inv X pins Y H { s with heap:=h',toks:=tk }:=I.turned (fun b o hb e=>kk b o (by simpa using hb) e) f0 f1 f3 f4 f5;refine⟨_,rfl,sC (s:={ s with heap:=h',toks:=tk }) (n:="range_iterator") st' rfl rfl (by decide) ⟨.int (lo+i),H,I1,⟨t,?_⟩,⟨rfl,rfl⟩,st',fun b hb=>(hf b hb).1⟩⟩;rw[Int.mul_one]
 done:=by intro X hP hw hK hc i pins s Y H E I hf st hg;subst hP hw hK;obtain⟨f0,f1,f2,f3,f4,f5⟩:=hf it (by simp);exact wpAny_pyNext_range_end (I.ok.hd hc) st (by have:n<=i:=hg;omega) fun h' eb=>⟨rfl,I.turned (t':=s.toks) (fun b o hb e=>eb b o hb e) f0 f1 f3 f4 f5⟩
 self:=fun _ _ _ _ _ st h=>wpAny_pyIter_rangeiter st h
section
variable{X:Cx}{y:Expr}
noncomputable def Ez(K:Frag)(c:TE):TI:=fun Y H R=>c Y H fun x b=>∃a,x=.ref a/\(∃d,cU K b a d)/\R (sD K a) b
noncomputable def EA(K:Frag)(c:TE):TI:=fun Y H R=>c Y H fun x b=>∃a,x=.ref a/\(∃d,dD K b a d)/\R (sE K a) b
theorem EB{l:Expr}{g:TE}(i:PE X l g):PI X y l (Ez X.K g):=by
 intro c s Y H R I h;refine aP (i c s Y H _ I h) fun v d ⟨x,j,f,k,m⟩=>?_;obtain⟨a,e,⟨u,n⟩,q⟩:=m;subst e;cases k;obtain⟨r,w,p,z⟩:=f.list n;refine wpAny_pyIter_list p.isList ?_;refine⟨d.heap.objs.size,[d.heap.objs.size],_,_,j,rfl,f.kept (t':=d.toks) fun b o e=>aS _ e,Ew a _,⟨_,Heap.get?_push_size _ rfl,rfl,rfl⟩,fun b t=>?_,q⟩;have e:b=d.heap.objs.size:=by simpa using t
 subst e;exact f.fpOk (aZ _) (f.hok.fresh (aZ _))
theorem ED{l:Expr}{i:TE}(j:PE X l i):PI X y l (EA X.K i):=by
 intro c s Y H R I h;refine aP (j c s Y H _ I h) fun v d ⟨x,k,f,m,n⟩=>?_;obtain⟨a,e,⟨u,r⟩,q⟩:=n;subst e;cases m;obtain⟨g,w,p,z⟩:=f.tuple r;refine wpAny_pyIter_tuple (show d.heap.IsTuple a g.toArray from p) ?_;refine⟨d.heap.objs.size,[d.heap.objs.size],_,_,k,rfl,f.kept (t':=d.toks) fun b o e=>aS _ e,Ex a _,⟨_,Heap.get?_push_size _ rfl,rfl,rfl⟩,fun b t=>?_,q⟩;have e:b=d.heap.objs.size:=by simpa using t
 subst e;exact f.fpOk (aZ _) (f.hok.fresh (aZ _))
theorem xn{c:List (Addr×Obj)}{Y:St}{H:Hp}{s:Shared}{R:It->Hp->Prop}{E:Value->Shared->Prop}{lo a:Int}{t u v:Tok}{d:Nat}(I:Inv X c Y H s)(j:-(2 ^ 62)<=lo)(k:lo<2 ^ 62)(l:-(2 ^ 62)<=a)(g:a<2 ^ 62)
  (q:R (mS lo (a - lo).toNat) H):wpAny (model X.prog X.w) X.A (pyIter (.ref s.heap.objs.size)) (xm X c Y y R) E { s with heap:=s.heap.push { cls:=.type "range",data:=.fields #[.int lo t,.int a u,.int 1 v] },toks:=d }:=by
 refine wpAny_pyIter_range (IsRange.new ..) (small_one j k l g) ?_;have f:Inv X c Y H { s with heap:=s.heap.push { cls:=.type "range",data:=.fields #[.int lo t,.int a u,.int 1 v] },toks:=d }:=I.kept fun b o e=>aS _ e;refine⟨(s.heap.push { cls:=.type "range",data:=.fields #[.int lo t,.int a u,.int 1 v] }).objs.size,[(s.heap.push { cls:=.type "range",data:=.fields #[.int lo t,.int a u,.int 1 v] }).objs.size],_,_,H,rfl,
  f.kept (t':=d) fun b o e=>aS _ e,Ey _ lo (a - lo).toNat,?_,fun b m=>?_,q⟩
 ·have h:lo+((0:Nat):Int) * 1=lo:=by simp
  have i:(((a - lo).toNat:Nat):Int) - ((0:Nat):Int)=Builtin.Range.rangeSize lo a 1:=by rw[rangeSize_one];split<;>omega
  show IsRangeIter _ _ (lo+((0:Nat):Int) * 1) ((((a - lo).toNat:Nat):Int) - ((0:Nat):Int)) 1;rw[h,i];exact Heap.get?_push_size _ rfl
 ·have e:b=(s.heap.push { cls:=.type "range",data:=.fields #[.int lo t,.int a u,.int 1 v] }).objs.size:=by simpa using m
  subst e;exact f.fpOk (aZ _) (f.hok.fresh (aZ _))
noncomputable def EE(a:TA):TI:=fun Y H R=>a Y H fun vs b=>∃j:Int,vs=[.int j]/\-(2 ^ 62)<=j/\j<2 ^ 62/\R (mS 0 j.toNat) b
noncomputable def EF(a:TA):TI:=fun Y H R=>a Y H fun vs b=>∃i j:Int,vs=[.int i,.int j]/\(-(2 ^ 62)<=i/\i<2 ^ 62/\-(2 ^ 62)<=j/\j<2 ^ 62)/\R (mS i (j - i).toNat) b
theorem EG{a:Expr}{d:TA}{p pos:Pos}(f:Gl X "range")(g:X.mg "range" = none)(i:PA X [a] d)(k:starEach [a] X.env=[(false,eval a X.env)]:=by rfl):PI X y (.Call (.Name "range" p) [a] [] pos) (EE d):=by
 intro b s Y H R I h;refine Call_ (ie I f g boot_range (PyProof.Rows.callWith_type1 (aP (i pos b s Y H _ I h) fun u v ⟨vs,w,l,m,c⟩=>?_) k rfl));obtain⟨j,e,c,n,q⟩:=c;subst e;cases m with
 | cons r o=>cases o;obtain⟨t,rfl⟩:=r;exact call_range_1 (xn l (by omega) (by omega) c n (by simpa using q))
theorem EH{a b:Expr}{k:TA}{p pos:Pos}(l:Gl X "range")(m:X.mg "range" = none)(n:PA X [a,b] k)(o:starEach [a,b] X.env=[(false,eval a X.env),(false,eval b X.env)]:=by rfl)(c:starEach [b] X.env=[(false,eval b X.env)]:=by rfl) :
  PI X y (.Call (.Name "range" p) [a,b] [] pos) (EF k):=by
 intro d s Y H R I h;refine Call_ (ie I l m boot_range (PyProof.Rows.callWith_type1 (aP (n pos d s Y H _ I h) fun B C ⟨vs,D,u,v,f⟩=>?_) (by rw[o,c]) (by rw[c];rfl)));obtain⟨i,j,e,⟨f,w,x,z⟩,q⟩:=f;subst e;cases v with
 | cons r g=>
  cases g with
  | cons A g=>cases g;obtain⟨t,rfl⟩:=r;obtain⟨t',rfl⟩:=A;exact call_range_2 (xn u f w x z q)
noncomputable def EI(d:TI)(g:TG)(e:TS):TS:=fun D Y H=>d Y H fun J f=>∃W:Nat->Nat->St->Hp->Prop,(∃m,W 0 m Y f)/\∀i m Y H,W i m Y H->
 (J.stop i H/\D.nx Y H)\/(J.go i H/\∃N:St->Hp->Prop,(∀b a,N b a->∃c,c<m/\W (i+1) c b a)/\∀x a,J.yld i H x a->g x Y a fun h j=>e { D with nx:=N,ct:=N,bk:=D.nx } h j)
noncomputable def mT(a:List Addr)(h:Heap):List (Addr×Obj):=a.filterMap fun b=>(h.get? b).map fun o=>(b,o)
theorem pz{a:List Addr}{h:Heap}{b:Addr}{o:Obj}(c:b∈a)(e:h.get? b=some o):(b,o)∈mT a h:=List.mem_filterMap.mpr ⟨b,c,by rw[e];rfl⟩
theorem EJ{a:List Addr}{h:Heap}{p:Addr×Obj}(c:p∈mT a h):p.1∈a/\h.get? p.1=some p.2:=by
 obtain⟨b,hb,e⟩:=List.mem_filterMap.mp c;cases q:h.get? b with
 | none=>rw[q] at e;cases e
 | some o=>rw[q] at e;have d:(b,o)=p:=Option.some.inj e;subst d;exact⟨hb,q⟩
theorem Inv.pinned{a:List (Addr×Obj)}{Y:St}{H:Hp}{s:Shared}{c:List Addr}(I:Inv X a Y H s)(h:∀b∈c,fK X a H b)(i:∀b∈c,∃o,s.heap.get? b=some o/\∀v,o.data≠.cell v):Inv X (a++mT c s.heap) Y H s:=
 I.pins_of fun p j=>(List.mem_append.mp j).elim (fun z=>I.pin p (bB _ z)) fun z=>by obtain⟨g,e⟩:=EJ z;obtain⟨k,f1,f2,_⟩:=h p.1 g;obtain⟨o,f,d⟩:=i p.1 g;rw[e] at f;cases f;exact⟨e,k,f1,f2,d⟩
theorem Inv.unpinned{a b:List (Addr×Obj)}{Y:St}{H:Hp}{s:Shared}(I:Inv X (a++b) Y H s):Inv X a Y H s:=I.pins_of fun p c=>I.pin p (bB _ (bO _ c))
theorem EK{iter:Expr}{body:List Stmt}{wi:TI}{g:TG}{tb:TS}{pos:Pos}(B:PassesOwn (model X.prog X.w) X.A X.env X.xe)(hc:X.calm=true)(hi:PI X y iter wi)(hg:PG X y g)(p:PSs X body tb)
  (hs:∀x,foldedSetIterable iter X.env x=pure x:=by intro _;rfl):PS X (.For y iter body [] pos) (EI wi g tb):=by
 intro a s Y H D I h;refine wpAny_For (aP (hi a s Y H _ I h) fun v s1 h1=>aP h1 fun a1 s2 h2=>?_) hs;obtain⟨it,C,tn,J,H2,e,I2,T,S,f2,W,⟨m0,w0⟩,E⟩:=h2;subst e;have c:∀{q:Hp},(∀b∈C,q b=none)->∀b∈C,fK X a q b:=fun hn b p=>⟨hn b p,(f2 b p).2⟩
 refine codeAny_forLoop_any (fun n s'=>∃i G q,Inv X a G q s'/\tn i s'.heap/\(∀b∈C,q b=none)/\W i n G q) ?_ m0 ⟨0,Y,H2,I2,S,fun b p=>(f2 b p).1,w0⟩;rintro n s3 ⟨i,L,R,I3,M,O,w3⟩;rcases E i n L R w3 with⟨stop,qn⟩ | ⟨go,N,hN,step⟩
 ·refine wpAny_passesOwn B (aP (T.done X rfl rfl rfl hc i a s3 L R X.xe I3 (c O) M stop) fun r s4 ⟨U,I4⟩=>?_);subst U;exact wpAny_execs_nil ⟨L,R,I4,qn⟩
 ·refine wpAny_passesOwn B (aP (T.item X rfl rfl rfl hc i a s3 L R X.xe I3 (c O) M go) fun r s4 ⟨u,U,h4⟩=>?_);subst U;refine wpAny_passesOwn B (aP h4 fun _ s5 ⟨x,H5,I5,r5,y5,z,Z⟩=>?_);have a0:=I5.pinned (c Z) (T.obj _ _ z);refine wpAny_passesOwn B (aP (hg _ s5 L H5 x u _ a0 r5 (step x H5 y5)) fun _ s6 ⟨Y6,H6,I6,q6⟩=>?_);refine wpAny_passesOwn B (aP (p _ s6 Y6 H6 _ I6 q6) fun f s7 t=>?_);have again:∀{j:St}{k:Hp},Inv X (a++mT C s5.heap) j k s7->N j k->∃m,m<n/\∃i G q,Inv X a G q s7/\tn i s7.heap/\(∀b∈C,q b=none)/\W i m G q:=fun {j k} l Q=>by obtain⟨m',hm,w7⟩:=hN j k Q;refine⟨m',hm,i+1,j,k,l.unpinned,T.keep _ _ _ z fun b p o e=>(l.pin (b,o) (bB _ (bB _ (pz p e)))).1,fun b p=>?_,w7⟩;obtain⟨o,e,d⟩:=T.obj _ _ z b p;exact(l.pin (b,o) (bB _ (bB _ (pz p e)))).2.1
  cases f with
  | next=>obtain⟨j,k,l,Q⟩:=t;exact again l Q
  | cont=>obtain⟨j,k,l,Q⟩:=t;exact again l Q
  | brk=>obtain⟨j,k,l,t⟩:=t;exact⟨j,k,l.unpinned,t⟩
  | ret v=>obtain⟨x7,j,k,l,r7,t⟩:=t;exact⟨x7,j,k,l.unpinned,r7,t⟩
end
abbrev R2:=V->V->Hp->VK->Prop
def cA(X:Cx)(f:Value->Value->Sem Value)(r:R2):Prop:=
 ∀(a:List (Addr×Obj)) (s:Shared) (Y:St) (H:Hp) (x y:V) (v u:Value) (Q:VK),Inv X a Y H s->bd x v->bd y u->r x y H Q->
  wpAny (model X.prog X.w) X.A (f v u) (EP X a Y Q) X.xe s
def sF(X:Cx)(f:Value->Sem Value)(r:V->Hp->VK->Prop):Prop:=
 ∀(a:List (Addr×Obj)) (s:Shared) (Y:St) (H:Hp) (x:V) (v:Value) (Q:VK),Inv X a Y H s->bd x v->r x H Q->
  wpAny (model X.prog X.w) X.A (f v) (EP X a Y Q) X.xe s
def eU(X:Cx)(f:Value)(r:List V->Hp->VK->Prop):Prop:=
 ∀(a:List (Addr×Obj)) (s:Shared) (Y:St) (H:Hp) (b:List V) (c:List Value) (Q:VK),Inv X a Y H s->bi b c->r b H Q->
  wpAny (model X.prog X.w) X.A (call f c) (EP X a Y Q) X.xe s
noncomputable def mU(r:R2)(a b:TE):TE:=fun Y H Q=>a Y H fun x c=>b Y c fun y d=>r x y d Q
noncomputable def EL(r:V->Hp->VK->Prop)(a:TE):TE:=fun Y H Q=>a Y H fun x b=>r x b Q
noncomputable def rI(C:Int->Int->Prop)(g:Int->Int->V):R2:=fun x y H Q=>∃i j,x=.int i/\y=.int j/\C i j/\Q (g i j) H
noncomputable def gg(g:Int->Int->V):R2:=fun x y H Q=>∃i j,x=.int i/\y=.int j/\Q (g i j) H
noncomputable def rU(g:Int->V):V->Hp->VK->Prop:=fun x H Q=>∃i,x=.int i/\Q (g i) H
section
variable{X:Cx}{a b c:Expr}{z p n:TE}{pos:Pos}
theorem sG(j:PE X a z)(E:PE X b p){d:List (Addr×Obj)}{s:Shared}{Y:St}{H:Hp}{R:V->V->Hp->Prop}(I:Inv X d Y H s)
  (h:z Y H fun x i=>p Y i fun y e=>R x y e) {Q:Value->Shared->Prop}{f:Value->Value->Sem Value}
  (k:∀v u g x y e,Inv X d Y e g->bd x v->bd y u->R x y e->wpAny (model X.prog X.w) X.A (f v u) Q X.xe g) :
  wpAny (model X.prog X.w) X.A (eval a X.env) (fun v l=>wpAny (model X.prog X.w) X.A (eval b X.env) (fun u m=>wpAny (model X.prog X.w) X.A (f v u) Q X.xe m) X.xe l) X.xe s:=by
 refine aP (j d s Y H _ I h) fun v o ⟨x,i,q,r,t⟩=>?_;refine aP (E d o Y i _ q t) fun u g ⟨y,e,B,C,D⟩=>?_;exact k v u g x y e B r C D
theorem EM{op:Operator}{r:R2}(e:cA X (binaryOp op) r)(f:PE X a z)(m:PE X b p):PE X (.BinOp a op b pos) (mU r z p):=by intro d s Y H Q I h;exact wpAny_BinOp (sG f m I h fun v u g x y i j k l q=>e d g Y i x y v u Q j k l q)
theorem EN{op:UnaryOp}{r:V->Hp->VK->Prop}(e:sF X (unaryOp op) r)(f:PE X a z):PE X (.UnaryOp op a pos) (EL r z):=by intro d s Y H Q I h;exact UnaryOp_ (aP (f d s Y H _ I h) fun v g ⟨x,i,j,k,l⟩=>e d g Y i x v Q j k l)
theorem pA{f:Value->Value->Sem Value}{C:Int->Int->Prop}{g:Int->Int->Int}
  (rule:∀(i j:Int) (t u:Tok) (s:Shared) (Q:Value->Shared->Prop) (E:Value->Shared->Prop),C i j->Q (.int (g i j) s.toks) { s with toks:=s.toks+1 }->wpAny (model X.prog X.w) X.A (f (.int i t) (.int j u)) Q E s) :
  cA X f (rI C fun i j=>.int (g i j)):=by
 intro d s Y H x y v u Q I e k h;obtain⟨i,j,rfl,rfl,l,q⟩:=h;obtain⟨t,rfl⟩:=e;obtain⟨t',rfl⟩:=k;exact rule i j t t' s _ _ l ⟨.int (g i j),H,I.tok _,⟨_,rfl⟩,q⟩
theorem xo{f:Value->Value->Sem Value}{g:Int->Int->Int}
  (rule:∀(i j:Int) (t u:Tok) (s:Shared) (Q:Value->Shared->Prop) (E:Value->Shared->Prop),Q (.int (g i j) s.toks) { s with toks:=s.toks+1 }->wpAny (model X.prog X.w) X.A (f (.int i t) (.int j u)) Q E s) :
  cA X f (gg fun i j=>.int (g i j)):=by
 intro d s Y H x y v u Q I e k h;obtain⟨i,j,rfl,rfl,q⟩:=h;obtain⟨t,rfl⟩:=e;obtain⟨t',rfl⟩:=k;exact rule i j t t' s _ _ ⟨.int (g i j),H,I.tok _,⟨_,rfl⟩,q⟩
theorem sH{f:Value->Value->Sem Value}{g:Int->Int->Bool}
  (rule:∀(i j:Int) (t u:Tok) (s:Shared) (Q:Value->Shared->Prop) (E:Value->Shared->Prop),Q (.bool (g i j)) s->wpAny (model X.prog X.w) X.A (f (.int i t) (.int j u)) Q E s) :
  cA X f (gg fun i j=>.bl (g i j)):=by
 intro d s Y H x y v u Q I e k h;obtain⟨i,j,rfl,rfl,q⟩:=h;obtain⟨t,rfl⟩:=e;obtain⟨t',rfl⟩:=k;exact rule i j t t' s _ _ ⟨.bl (g i j),H,I,rfl,q⟩
def sI(i j:Int):Prop:=0<j/\j<1073741824
def sJ(i j:Int):Prop:=0<=j/\j<=1000000/\i.natAbs<2 ^ 64
def mV(i j:Int):Prop:=(-(2 ^ 64)<i/\i<2 ^ 64)\/(-(2 ^ 64)<j/\j<2 ^ 64)
theorem mV.ok{i j:Int}(h:mV i j):IntMulOk i j:=by
 rcases h with⟨h1,h2⟩ | ⟨h1,h2⟩
 ·exact .of_left (intBits_le_64 h1 h2)
 ·exact .of_right (intBits_le_64 h1 h2)
theorem EO:cA X (binaryOp .Add) (gg fun i j=>.int (i+j)):=xo fun _ _ _ _ _ _ _ q=>add_int q
theorem EQ:cA X (binaryOp .Sub) (gg fun i j=>.int (i - j)):=xo fun _ _ _ _ _ _ _ q=>sub_int q
theorem ER:cA X (binaryOp .Mult) (rI mV fun i j=>.int (i * j)):=pA fun _ _ _ _ _ _ _ d q=>mul_int q d.ok
theorem ES:cA X (binaryOp .FloorDiv) (rI sI fun i j=>.int (i / j)):=pA fun i j _ _ _ _ _ d q=>by have h1:(0:Int)<j:=d.1;have h2:j<1073741824:=d.2;exact floordiv_int (by omega) (by rw[Int.fdiv_eq_ediv_of_nonneg i (by omega)];exact q) (.inl (PyProof.noPylong_small (by omega)))
theorem ET:cA X (binaryOp .Mod) (rI (fun _ j=>0<j) fun i j=>.int (i % j)):=pA fun i j _ _ _ _ _ d q=>by have h1:(0:Int)<j:=d;exact mod_int' (by omega) (by rw[Int.fmod_eq_emod_of_nonneg i (by omega)];exact q)
theorem EU:cA X (binaryOp .Pow) (rI sJ fun i j=>.int (i ^ j.toNat)):=pA fun _ _ _ _ _ _ _ d q=>pow_int_small d.1 d.2.1 d.2.2 q
theorem EV{f:Value->Sem Value}{g:Int->Int}
  (rule:∀(i:Int) (t:Tok) (s:Shared) (Q:Value->Shared->Prop) (E:Value->Shared->Prop),Q (.int (g i) s.toks) { s with toks:=s.toks+1 }->wpAny (model X.prog X.w) X.A (f (.int i t)) Q E s) :
  sF X f (rU fun i=>.int (g i)):=by
 intro d s Y H x v Q I e h;obtain⟨i,rfl,q⟩:=h;obtain⟨t,rfl⟩:=e;exact rule i t s _ _ ⟨.int (g i),H,I.tok _,⟨_,rfl⟩,q⟩
theorem EW:sF X (unaryOp .USub) (rU fun i=>.int (-i)):=EV fun _ _ _ _ _ q=>neg_int q
end
section
variable{X:Cx}{a b c:Expr}{m l g:TE}{pos:Pos}
theorem xp{d:List (Addr×Obj)}{Y:St}{H:Hp}{s:Shared}{Q:VK}{k f:Bool}(I:Inv X d Y H s)(q:Q (.bl k) H)(e:k=f):EP X d Y Q (.bool f) s:=by subst e;exact⟨.bl k,H,I,rfl,q⟩
theorem xq:cA X (compareOp .Lt) (gg fun i j=>.bl (decide (i<j))):=sH fun _ _ _ _ _ _ _ q=>lt_int q
theorem pB:cA X (compareOp .LtE) (gg fun i j=>.bl (decide (i<=j))):=sH fun _ _ _ _ _ _ _ q=>le_int q
theorem xr:cA X (compareOp .Gt) (gg fun i j=>.bl (decide (j<i))):=sH fun _ _ _ _ _ _ _ q=>gt_int q
theorem xt:cA X (compareOp .Is) (fun x y H Q=>y=.non/\Q (.bl (decide (x=.non))) H):=by
 intro d s Y H x y v u Q I e f h;obtain⟨rfl,q⟩:=h;cases f;refine is_none_gen (xp I q ?_);cases x<;>first
  | (cases e;rfl)
  | (obtain⟨t,rfl⟩:=e;rfl)
theorem EY:cA X (compareOp .IsNot) (fun x y H Q=>y=.non/\Q (.bl (!decide (x=.non))) H):=by
 intro d s Y H x y v u Q I e f h;obtain⟨rfl,q⟩:=h;cases f;refine isnot_none_gen (xp I q ?_);cases x<;>first
  | (cases e;rfl)
  | (obtain⟨t,rfl⟩:=e;rfl)
theorem bC(b:Expr){op:CmpOp}(h:op≠.In:=by decide)(f:op≠.NotIn:=by decide):behindInMarks op b=false:=by
 have d:(op==CmpOp.In)=false:=by cases op<;>first | rfl | exact absurd rfl h
 have e:(op==CmpOp.NotIn)=false:=by cases op<;>first | rfl | exact absurd rfl f
 cases b<;>simp[behindInMarks,d,e]
theorem EZ{op:CmpOp}{r:R2}(e:cA X (compareOp op) r)(f:PE X a m)(t:PE X b l)(i:behindInMarks op b=false):PE X (.Compare a [op] [b] pos) (mU r m l):=by intro d s Y H Q I h;exact wpAny_Compare1 (sG f t I h fun v u j x y k n o p q=>e d j Y k x y v u Q n o p q) i
noncomputable def Fa(t:TE):TT:=fun Y H Q=>t Y H fun x d=>∃k,x=.bl k/\Q k d
theorem xu{op:CmpOp}{r:R2}(f:cA X (compareOp op) r)(i:PE X a m)(M:PE X b l)(j:behindInMarks op b=false):PT X (.Compare a [op] [b] pos) (Fa (mU r m l)):=by
 intro d s Y H Q I h;refine wpAny_isTrue_Compare1 (aP (i d s Y H _ I h) fun v n ⟨x,o,p,q,t⟩=>aP (M d n Y o _ p t) fun u w ⟨y,A,B,C,D⟩=>
  aP (f d w Y A x y v u _ B q C D) fun c N ⟨z,E,G,J,k,e,L⟩=>?_) j
 subst e;cases J;exact wpAny_truthy_bool ⟨E,G,L⟩
noncomputable def Fb(r e:R2)(m l g:TE):TE:=fun Y H Q=>m Y H fun x f=>l Y f fun y h=>r x y h fun z d=>∃k,z=.bl k/\
 (if k=true then g Y d fun i j=>e y i j Q else Q (.bl false) d)
theorem Fc{op i:CmpOp}{r n:R2}(w:cA X (compareOp op) r)(j:cA X (compareOp i) n)(A:PE X a m)(hb:PE X b l)(B:PE X c g)
  (C:lastMarks [op,i] [b,c]=false:=by with_unfolding_all rfl):PE X (.Compare a [op,i] [b,c] pos) (Fb r n m l g):=by
 intro f s Y H Q I h;refine Compare_chain (aP (A f s Y H _ I h) fun v D ⟨x,E,G,J,L⟩=>chain_link (aP (hb f D Y E _ G L) fun u M ⟨y,N,O,o,R⟩=>
  aP (w f M Y N x y v u _ O J o R) fun d S ⟨z,p,q,T,k,e,t⟩=>?_)) C
 subst e;cases T;refine wpAny_truthy_bool ?_;cases k with
 | false=>exact ite_ff ⟨.bl false,p,q,rfl,t⟩
 | true=>exact ite_tt (chain_last (aP (B f S Y p _ q t) fun U Z ⟨z',H4,I4,r4,q4⟩=>j f Z Y H4 y z' u U Q I4 o r4 q4))
theorem eK:(sizeLine:Nat)<2 ^ 63:=by rw[sizeLine_eq];decide
theorem vals1{x:V}{d:List Value}(r:bi [x] d):∃u,d=[u]/\bd x u:=by
 cases r with
 | cons e f=>cases f;exact⟨_,rfl,e⟩
theorem vals2{x y:V}{d:List Value}(r:bi [x,y] d):∃u e,d=[u,e]/\bd x u/\bd y e:=by
 cases r with
 | cons f h=>
  cases h with
  | cons i j=>cases j;exact⟨_,_,rfl,f,i⟩
theorem sK(n:X.calm=true):eU X (.builtin "max") (fun e H Q=>∃i j,e=[.int i,.int j]/\Q (.int (if j>i then j else i)) H):=by
 intro f s Y H e o Q I r h;obtain⟨i,j,rfl,q⟩:=h;obtain⟨u,p,rfl,⟨t,rfl⟩,⟨t',rfl⟩⟩:=vals2 r;refine max_two_ints (I.ok.hd n) fun v w k=>⟨_,H,I.kept k,?_,q⟩
 by_cases d:j>i
 ·rw[if_pos d,if_pos d];exact⟨_,rfl⟩
 ·rw[if_neg d,if_neg d];exact⟨_,rfl⟩
end
structure jq (h:Heap) (x dx C:Addr) (mA:Str->Option Value):Prop where
 obj:h.get? x=some (PySem.W.instObj C dx)
 ns:h.Ns1 dx mA
 ne:dx≠x
theorem Fd{h:Heap}{c:Addr}{d:Str->Option Value}(n:h.Ns1 c d):∃f,h.get? c=some f/\∀name,PySem.W.lookIn name f=some (d name):=by
 obtain⟨o,g,p,i,hd,j,_,k⟩:=n;refine⟨o,i,fun name=>?_⟩;have e:=k name;unfold nsFind findBy at e;rw[<-Array.find?_toList] at e;unfold PySem.W.lookIn;rw[hd];dsimp only;split
 ·rename_i y q;rw[q] at e;exact congrArg some e
 ·rename_i q;rw[q] at e;have a:g.toList.any (·.refKey)=false:=by rw[List.any_eq_false];intro y l;obtain⟨z,t,b⟩:=j y (Array.mem_toList_iff.mp l);simp[DictEntry.refKey,b]
  have m:¬ g.toList.any (·.refKey)=true:=by rw[a];exact Bool.false_ne_true
  rw[if_neg m];exact congrArg some e
theorem jq.look{h:Heap}{x b C:Addr}{c:Str->Option Value}(I:jq h x b C c):∃a,PySem.W.InstAt h x (PySem.W.instObj C b) C (some a)/\∀name,PySem.W.lookIn name a=some (c name):=
 let⟨a,d,e⟩:=Fd I.ns
 ⟨a,⟨I.obj,rfl,rfl,d⟩,e⟩
section
variable{P:Program}{w:World}{H k:Hp}{h j:Heap}{a C I:Addr}{fs v:List (Str×V)}
theorem Fe(c:cg P w H h)(e:H a=some (.ins C I fs)):∃b,jq h a I C b/\(∀f,hZ (fs.lookup f) (b f))/\PySem.Within b (fs.map (·.1))/\fs.length<=1000/\H I=some (.own a):=by
 obtain⟨d,z,ne,ob,b,n,r,q⟩:=(show cz P w H h a (.ins C I fs) from c a _ e)
 exact⟨b,⟨ob,n,ne⟩,r,q,z,d⟩
end
structure sL (K:Frag) (C:Addr):Prop where
 pg:PySem.W.plainGet K C Str.empty=true
 hd:PySem.W.hasDictIn K C=true
 po:PySem.W.plainOver K C=true
 sa:findIn K (.ref C) "__setattr__" = some (some (.builtin "object.__setattr__"))
theorem sL.get{K:Frag}{C:Addr}(c:sL K C)(f:Str):PySem.W.plainGet K C f=true:=c.pg
section
variable{X:Cx}{r:List (Addr×Obj)}{Y:St}{H:Hp}{s:Shared}{A:Around}{E:Value->Shared->Prop}{Q:Value->Shared->Prop}{c:Value}{b:Bool}
inductive cV (K:Frag) (H:Hp):V->Value->Prop where
 | non:cV K H .non (.type "NoneType")
 | bl (x:Bool):cV K H (.bl x) (.type "bool")
 | int (i:Int):cV K H (.int i) (.type "int")
 | str (x:Str):cV K H (.str x) (.type "str")
 | flt (x:UInt64):cV K H (.flt x) (.type "float")
 | lst {a:Addr}{xs:List V}(e:H a=some (.lst xs)):cV K H (.ref a) (.type "list")
 | frz {a:Addr}{o:Obj}{xs:List V}(e:H a=some (.frz o (.lst xs))):cV K H (.ref a) (.type "list")
 | tup {a:Addr}{xs:List V}(e:H a=some (.tup xs)):cV K H (.ref a) (.type "tuple")
 | dK {a:Addr}{kvs:List (aM×V)}(e:H a=some (.dK kvs)):cV K H (.ref a) (.type "dict")
 | dT {a:Addr}{kvs:List (List aM×V)}(e:H a=some (.dT kvs)):cV K H (.ref a) (.type "dict")
 | ins {a C dx:Addr}{fs:List (Str×V)}(e:H a=some (.ins C dx fs)) (cl:sL K C) (ha:findIn K (.ref C) "__class__" = some (some (.builtin "object.__class__")))
   (hn:PySem.W.specialIn K (.builtin "object.__class__") "__get__" = some (some (.builtin "getset_descriptor.__get__"))) (htk:PySem.W.takesIn K (.builtin "object.__class__")=some true)
   (hm:PySem.W.mroIn K C (.type "object")=some true):cV K H (.ref a) (.ref C)
theorem mW{x:V}{u t:Value}(I:Inv X r Y H s)(d:bd x u)(L:cV X.K H x t)(e:kitOne X.K t c=some b)(h:∀l,Q (.bool b) { s with toks:=l }) :
  wpAny (model X.prog X.w) A (call (.builtin "isinstance") [u,c]) Q E s:=by
 cases L with
 | non=>cases(show u=Value.none from d);exact kia_one PySem.W.kitx_none I.kIn True.intro e (fun z=>nomatch z) h
 | bl y=>cases(show u=Value.bool y from d);exact kia_one PySem.W.kitx_bool I.kIn True.intro e (fun z=>nomatch z) h
 | int i=>obtain⟨t,q⟩:=(show ∃t,u=Value.int i t from d);cases q;exact kia_one PySem.W.kitx_int I.kIn True.intro e (fun z=>nomatch z) h
 | str y=>obtain⟨t,q⟩:=(show ∃t,u=Value.str y t from d);cases q;exact kia_one PySem.W.kitx_str I.kIn True.intro e (fun z=>nomatch z) h
 | flt y=>obtain⟨t,q⟩:=(show ∃t,u=Value.float y t from d);cases q;exact kia_one PySem.W.kitx_float I.kIn True.intro e (fun z=>nomatch z) h
 | @lst a j f=>
  cases(show u=Value.ref a from d);obtain⟨_,_,n,_,h1⟩:=(show cz X.prog X.w H s.heap a (.lst j) from I.hok a _ f)
  exact kia_one PySem.W.kitx_list I.kIn ⟨_,h1,rfl⟩ e (fun z=>nomatch z) h
 | @frz a ob j f=>
  cases(show u=Value.ref a from d);obtain⟨_,_,_,n,_,h1⟩:=(show cz X.prog X.w H s.heap a (.frz ob (.lst j)) from I.hok a _ f)
  exact kia_one PySem.W.kitx_list I.kIn ⟨_,h1,rfl⟩ e (fun z=>nomatch z) h
 | @tup a j f=>
  cases(show u=Value.ref a from d);obtain⟨_,_,_,p⟩:=(show cz X.prog X.w H s.heap a (.tup j) from I.hok a _ f)
  obtain⟨o,h1,h2,_⟩:=p;exact kia_one PySem.W.kitx_tuple I.kIn ⟨o,h1,h2⟩ e (fun z=>nomatch z) h
 | @dK a g f=>
  cases(show u=Value.ref a from d);obtain⟨_,_,vs,_,p⟩:=(show cz X.prog X.w H s.heap a (.dK g) from I.hok a _ f)
  obtain⟨o,m,v,h1,h2,_⟩:=p;exact kia_one PySem.W.kitx_dict I.kIn ⟨o,h1,h2.1⟩ e (fun z=>nomatch z) h
 | @dT a g f=>
  cases(show u=Value.ref a from d);obtain⟨_,_,j,_,o,m,v,h1,h2,_⟩:=(show cz X.prog X.w H s.heap a (.dT g) from I.hok a _ f)
  exact kia_one PySem.W.kitx_dict I.kIn ⟨o,h1,h2.1⟩ e (fun z=>nomatch z) h
 | @ins a C M fs f cl B D k G=>cases(show u=Value.ref a from d);obtain⟨N,O,_⟩:=Fe I.hok f;obtain⟨R,J,_⟩:=O.look;exact kia_one (PySem.W.kitx_own (cl.get _) cl.hd B D k G) I.kIn J e (fun z=>nomatch z) h
end
structure bW (k:Nat) (A:Around):Prop where
 hd:A.handled=none
 dp:A.depth+3 * k+5<recursionLimit
 un:A.units+16 * k+200<cLine
theorem bW.mono{j k:Nat}{A:Around}(r:bW k A)(h:j<=k):bW j A:=⟨r.hd,by have:=r.dp;omega,by have:=r.un;omega⟩
theorem bW.deeper{k:Nat}{A:Around}(r:bW (k+1) A)(a:Env):bW k (A.deeper a):=
 ⟨r.hd,by have:=r.dp;show A.depth+1+3 * k+5<_;omega,by have:=r.un;show A.units+3+16 * k+200<_;omega⟩
theorem bW.depth{k:Nat}{A:Around}(r:bW k A):A.depth<recursionLimit:=by have:=r.dp;omega
theorem bW.units{k:Nat}{A:Around}(r:bW k A):A.units+64<cLine:=by have:=r.un;omega
noncomputable def xv:TA:=fun _ H Q=>Q [] H
noncomputable def xw(a:TE)(e:TA):TA:=fun Y H Q=>a Y H fun x b=>e Y b fun c d=>Q (x::c) d
section
variable{X:Cx}{e:Expr}{i:List Expr}{f:TE}{t:TA}{pos:Pos}
theorem fL:PA X [] xv:=fun _ _ _ _ H Q I h=>Calls.spliced_nil ⟨[],H,I,.nil,h⟩
theorem fA(b:PE X e f)(c:PA X i t)(d:starEach (e::i) X.env=(false,eval e X.env)::starEach i X.env:=by rfl):PA X (e::i) (xw f t):=by intro pos a s Y H Q I h;rw[d];show wpAny _ _ (spliced ((false,eval e X.env)::backTo pos (starEach i X.env))) _ _ s;refine Calls.spliced_cons (aP (b a s Y H _ I h) fun u g ⟨x,j,k,l,m⟩=>?_);exact aP (c pos a g Y j _ k m) fun v w ⟨n,o,p,q,r⟩=>⟨x::n,o,p,.cons l q,r⟩
noncomputable def Ff(t:TA):TE:=fun Y H Q=>t Y H fun a b=>a.length<=sizeLine/\∀p,b p=none->Q (.ref p) (bp b p (.tup a))
noncomputable def Fg(t:TA):TE:=fun Y H Q=>t Y H fun a b=>a.length<=sizeLine/\∀p,b p=none->Q (.ref p) (bp b p (.lst a))
theorem Fh{j}(h:PA X i t):PE X (.Tuple i j pos) (Ff t):=by intro a s Y H Q I k;refine wpAny_Tuple_spliced (aP (h pos a s Y H _ I k) fun l c ⟨m,d,g,r,z,q⟩=>⟨by rw[<-r.length];exact z,?_⟩);have n:d c.heap.objs.size=none:=g.hok.fresh (aZ _);refine⟨.ref c.heap.objs.size,bp d c.heap.objs.size (.tup m),g.laid (t':=c.toks) (fun b u e=>aS _ e) (aZ _) ?_,rfl,q _ n⟩;exact⟨z,l,r,⟨_,Heap.get?_push_size _ rfl,rfl,_,rfl⟩⟩
theorem sM(h:PA X i t):PE X (.List i pos) (Fg t):=by intro a s Y H Q I j;refine wpAny_List_spliced (aP (h pos a s Y H _ I j) fun k c ⟨l,d,g,r,z,q⟩=>⟨by rw[<-r.length];exact z,?_⟩);have m:d c.heap.objs.size=none:=g.hok.fresh (aZ _);refine⟨.ref c.heap.objs.size,bp d c.heap.objs.size (.lst l),g.laid (t':=c.toks) (fun b u e=>aS _ e) (aZ _) ?_,rfl,q _ m⟩;exact⟨z,k,0,r,Heap.get?_push_size _ rfl⟩
end
abbrev Sp:=List V->Hp->VK->XK->Prop
abbrev gE:=List Env->Hp->Shared->XK->Value->Shared->Prop
structure ij (P:Program) (w:World) (K:Frag) (mg:Str->Option Value) (base:Heap) (A:Around) (outer:List Env) (s:Shared) (H:Hp):Prop where
 frames:A.frames=some outer
 mod:Mod K mg base
 bs:∀b o,base.get? b=some o->s.heap.get? b=some o/\H b=none
 bsz:base.objs.size<=s.heap.objs.size
 funs:s.heap.FunFrames base outer
 frf:∀b∈bP outer,H b=none
 hok:cg P w H s.heap
 bare:AllBare s.gens
def CE(a:List Env)(P:Program)(w:World)(H:Hp)(s:Shared)(Q:VK)(u:Value)(b:Shared):Prop:=
 ∃v c,b.os=s.os/\AllBare b.gens/\Un (bP a) [] H c s.heap b.heap/\cg P w c b.heap/\bd v u/\Q v c
def CR(c:gE)(a:List Env)(P:Program)(w:World)(H:Hp)(s:Shared)(Q:VK)(E:XK)(r:Result)(b:Shared):Prop:=
 match r with
 | .ok (.ret u)=>CE a P w H s Q u b
 | .ok _=>False
 | .error e=>c a H s E e b
structure aA (P:Program) (w:World) (K:Frag) (mg:Str->Option Value) (base:Heap) (CX:gE) (k:Nat) (f:Addr) (fd:FuncData) (ps:List Str) (sp:Sp):Prop where
 len:∀vs H Q E,sp vs H Q E->vs.length=ps.length
 run:∀(A:Around) (outer:List Env) (s:Shared) (H:Hp) (args:Args) (us:List Value) (vs:List V) (Q:VK) (E:XK),bW k A->ij P w K mg base A outer s H->BindsTo s fd args (ps.zip us)->bi vs us->sp vs H Q E->
  codeAny (model P w) A (.call (.ref f) args) (CR CX outer P w H s Q E) s
theorem aA.imp{P:Program}{w:World}{K:Frag}{mg:Str->Option Value}{base:Heap}{c:gE}{k:Nat}{f:Addr}{fd:FuncData}{d:List Str}{e b:Sp}(F:aA P w K mg base c k f fd d e)
  (h:∀vs H Q E,b vs H Q E->e vs H Q E):aA P w K mg base c k f fd d b:=
 ⟨fun vs H Q E q=>F.len vs H Q E (h _ _ _ _ q),fun A a s H args g vs Q E i j n l m=>F.run A a s H args g vs Q E i j n l (h _ _ _ _ m)⟩
section
variable{X:Cx}{pins:List (Addr×Obj)}{Y:St}{H:Hp}{s s':Shared}
theorem Inv.env0(I:Inv X pins Y H s):ij X.prog X.w X.K X.mg X.base X.A X.stack s H:=
 ⟨I.ok.frames,I.ok.mod,I.bs,Nat.le_trans I.ok.bsz I.sz,I.stack,I.stkFree,I.hok,I.bare⟩
theorem Inv.after{Q:VK}{u:Value}(I:Inv X pins Y H s)(h:CE X.stack X.prog X.w H s Q u s'):EP X pins Y Q u s':=by obtain⟨v,c,os,bare,un,hok,r,q⟩:=h;obtain⟨e,g,d,t,a⟩:=s';obtain rfl:a = s.os:=os;exact⟨v,c,I.call (h':=e) (g':=g) (d':=d) (t':=t) (ch:=[]) un hok bare (fun b z=>absurd z (by simp)),r,q⟩
end
def kg(K:Frag)(fd:FuncData)(b:List Str)(c:List Value):Prop:=
 ∀(s:Shared) (a:List Value),K.In s.heap->(a++c).length=b.length->BindsTo s fd ⟨a,[]⟩ (b.zip (a++c))
theorem kg.all{K:Frag}{fd:FuncData}{b:List Str}(h:∀a:List Value,a.length=b.length->bindArgs fd ⟨a,[]⟩=pure (b.zip a)):kg K fd b []:=fun s a _ c=>by rw[List.append_nil] at c ⊢;exact .of_eq (h a c)
def PK(X:Cx)(b:List Keyword)(t:TA):Prop:=
 ∀(pos:Pos) (a:List (Addr×Obj)) (s:Shared) (Y:St) (H:Hp) (Q:List V->Hp->Prop),Inv X a Y H s->t Y H Q->wpAny (model X.prog X.w) X.A (evalAll ((backToKw pos (keywordEach b X.env)).map (·.2))) (AP X a Y Q) X.xe s
section
variable{X:Cx}{CX:gE}{k:Nat}{f C:Addr}{fd:FuncData}{ps ks:List Str}{sp:Sp}{E:XK}{x m:Str}{p pos apos kpos:Pos}{e o:Expr}{es:List Expr}{q:List Keyword}{d ta:TE}{t tk:TA}{nm:Option Str}
theorem Fi:PK X [] xv:=fun _ _ _ _ H Q I h=>wpAny_evalAll_nil ⟨[],H,I,.nil,h⟩
theorem Fj(b:PE X e d)(c:PK X q t):PK X (⟨nm,e,kpos⟩::q) (xw d t):=by intro pos a s Y H Q I h;show wpAny _ _ (evalAll ((do let v <-eval e X.env;standAt pos;pure v)::(backToKw pos (keywordEach q X.env)).map (·.2))) _ _ s;refine wpAny_evalAll_cons (aa (aP (b a s Y H _ I h) fun u g ⟨x,i,j,l,n⟩=>aa (wpAny_standAt (av ?_))));exact aP (c pos a g Y i _ j n) fun B D ⟨r,w,y,z,A⟩=>⟨x::r,w,y,.cons l z,A⟩
end
structure ae (N P:List Str) (sc:Scope):Prop where
 kind:sc.kind=.function
 co:sc.isCoroutine=false
 gen:sc.isGenerator=false
 nd:N.Nodup
 pre:N.take P.length=P
 par:∀x∈P,sc.names.lookup x=some .local\/sc.names.lookup x=some .cell
 nofree:∀y∈sc.names,y.2≠.free
theorem xx{kindOf:Str->Option NameKind}{x:Str}:∀{binds:List (Str×Value)}{m:Str->Option Value},(∀v,(x,v)∉binds)->bindL kindOf binds m x=m x
 | [],_,_=>rfl
 | (n,v)::r,m,h=>by
  unfold bindL;rw[xx fun w a=>h w (bq _ a)];split
  ·have:x≠n:=by rintro rfl;exact h v List.mem_cons_self
   simp[this]
  ·rfl
theorem xy{kindOf:Str->Option NameKind}{x:Str}:∀{binds:List (Str×Value)}{m:Str->Option Value},(∀v,(x,v)∉binds)->bindC kindOf binds m x=m x
 | [],_,_=>rfl
 | (n,v)::r,m,h=>by
  unfold bindC;rw[xy fun w a=>h w (bq _ a)];split
  ·rfl
  ·have:x≠n:=by rintro rfl;exact h v List.mem_cons_self
   simp[this]
theorem xz{kindOf:Str->Option NameKind}{x:Str}{v:Value}:∀{P:List Str}{vs:List Value}{i:Nat}{m:Str->Option Value},P.Nodup->P[i]? = some x->vs[i]? = some v->kindOf x=some .local->
  bindL kindOf (P.zip vs) m x=some v
 | [],_,_,_,_,h,_,_=>by simp at h
 | _::_,[],_,_,_,_,h,_=>by simp at h
 | p::P,w::vs,0,m,nd,h1,h2,a=>by simp at h1 h2;subst h1;subst h2;show bindL kindOf ((p,w)::P.zip vs) m p=_;unfold bindL;rw[xx fun v b=>(List.nodup_cons.mp nd).1 (List.of_mem_zip b).1,if_pos a];simp
 | p::P,w::vs,i+1,m,nd,h1,h2,a=>by show bindL kindOf ((p,w)::P.zip vs) m x=_;unfold bindL;exact xz (i:=i) (List.nodup_cons.mp nd).2 (by simpa using h1) (by simpa using h2) a
theorem xA{kindOf:Str->Option NameKind}{x:Str}{v:Value}:∀{P:List Str}{vs:List Value}{i:Nat}{m:Str->Option Value},P.Nodup->P[i]? = some x->vs[i]? = some v->kindOf x≠some .local->
  bindC kindOf (P.zip vs) m x=some v
 | [],_,_,_,_,h,_,_=>by simp at h
 | _::_,[],_,_,_,_,h,_=>by simp at h
 | p::P,w::vs,0,m,nd,h1,h2,a=>by simp at h1 h2;subst h1;subst h2;show bindC kindOf ((p,w)::P.zip vs) m p=_;unfold bindC;rw[xy fun v b=>(List.nodup_cons.mp nd).1 (List.of_mem_zip b).1,if_neg a];simp
 | p::P,w::vs,i+1,m,nd,h1,h2,a=>by show bindC kindOf ((p,w)::P.zip vs) m x=_;unfold bindC;exact xA (i:=i) (List.nodup_cons.mp nd).2 (by simpa using h1) (by simpa using h2) a
noncomputable def start(N:List Str)(vs:List V):St:=vs.map some++List.replicate (N.length - vs.length) none
noncomputable def iP(CX:gE)(P:Program)(w:World)(K:Frag)(mg:Str->Option Value)(base:Heap)(N:List Str)(qual:Str)(scope:Scope)(f:Addr)(cd:Value)(A:Around)(outer:List Env)(s:Shared)(H:Hp)(E:XK):Cx where
 prog:=P
 w:=w
 K:=K
 mg:=mg
 base:=base
 A:=A.deeper (envOfC qual scope s.heap.objs.size f cd)
 N:=N
 s₀:=s
 H₀:=H
 env:=envOfC qual scope s.heap.objs.size f cd
 outer:=outer
 stack:=envOfC qual scope s.heap.objs.size f cd::outer
 ex:=[]
 calm:=true
 fn:=fun _=>true
 pn:=[]
 xe:=fun e s'=>wpAny (model P w) (A.deeper (envOfC qual scope s.heap.objs.size f cd)) (leaving (envOfC qual scope s.heap.objs.size f cd) e) (fun _ s''=>CX outer H s E e s'') (fun e' s''=>CX outer H s E e' s'') s'
theorem xB{a:Scope}{n:Nat}{x:Str}(h:a.names.lookup x=some .cell):∃c,(cellsFrom n a.names []).lookup x=some c:=by have q:=PySem.W.cellsFrom_some a.names n [] (.inl h);exact Option.isSome_iff_exists.mp q
theorem Fk{M:gE}{P:Program}{w:World}{K:Frag}{mg:Str->Option Value}{base:Heap}{N o:List Str}{j:Str}{d:Scope}{f:Addr}{G:Value}{A:Around}{g:List Env}{s O:Shared}{H:Hp}{E:XK}{L:List Value}{vs:List V}
  (S:ae N o d) (hd:A.handled=none) (m:ij P w K mg base A g s H) (Y:vs.length=o.length) (r:bi vs L)
  (x:InCallC s s.heap.objs.size (bindL (envOfC j d s.heap.objs.size f G).kindOf (o.zip L) fun _=>none) (cellsFrom (s.heap.objs.size+1) d.names []) (bindC (envOfC j d s.heap.objs.size f G).kindOf (o.zip L) fun _=>none) O) :
  Inv (iP M P w K mg base N j d f G A g s H E) [] (start N vs) H O:=by
 have T:o.length<=N.length:=by have:=congrArg List.length S.pre;rw[List.length_take] at this;omega
 obtain⟨J,Z,rfl,Q⟩:=x.done;have t:∀b:Addr,b∉(iP M P w K mg base N j d f G A g s H E).ex:=fun b z=>absurd (show b∈([]:List Addr) from z) (by simp);refine⟨⟨m.mod,S.kind,rfl,rfl,aZ _,fun y z c J l=>?_,fun y B=>?_,fun y c _ h=>?_,fun _=>hd,Around.frames_deeper m.frames,.inr ⟨rfl,rfl⟩,fun b z=>absurd z (t b),m.bs,m.bsz,fun b _ _=>t b,fun b z=>absurd z (t b),m.funs,m.frf⟩,
  rfl,m.bare,Un.kept Q,⟨_,x.toInCall.ns,fun i y v J l h3=>?_⟩,fun y c h=>⟨_,x.cell y c h⟩,m.hok.fresh (aZ _),fun y c h=>?_,fun p C=>absurd (show p∈([]:List (Addr×Obj)) from C) (by simp),m.hok.kept Q,?_⟩
 ·exact name_of_addr x.apart (PySem.mem_of_lookup J) (PySem.mem_of_lookup l)
 ·have B:d.names.lookup y=some .cell\/d.names.lookup y=some .free:=B;rcases B with B | B
  ·exact xB B
  ·exact absurd rfl (S.nofree _ (PySem.mem_of_lookup B))
 ·exact Nat.le_of_lt (x.above y c (PySem.mem_of_lookup h))
 ·have I:i<vs.length:=by
   unfold start at l
   by_cases I:i<vs.length
   ·exact I
   ·rw[List.getElem?_append_right (by simpa using I)] at l;rw[List.getElem?_replicate] at l;split at l<;>cases l
  have U:vs[i]? = some v:=by
   unfold start at l;rw[List.getElem?_append_left (by simpa using I),List.getElem?_map] at l;cases e:vs[i]? with
   | none=>rw[e] at l;cases l
   | some a=>rw[e] at l;cases l;rfl
  obtain⟨u,R,X⟩:=r.get U;have C:o[i]? = some y:=by rw[<-S.pre,List.getElem?_take_of_lt (by omega)];exact J
  have D:o.Nodup:=by rw[<-S.pre];exact S.nd.sublist (List.take_sublist _ _)
  refine⟨u,X,?_⟩;rcases S.par y (List.mem_of_getElem? C) with k | k
  ·exact .inl ⟨k,xz D C R k⟩
  ·obtain⟨c,e⟩:=xB (n:=s.heap.objs.size+1) k;refine .inr ⟨.inl k,c,e,?_⟩;have q:=x.cell y c e;rw[xA D C R (by show d.names.lookup y≠_;rw[k];decide)] at q;exact q
 ·exact m.hok.fresh (Nat.le_of_lt (x.above y c (PySem.mem_of_lookup h)))
 ·unfold start;show _=N.length;rw[List.length_append,List.length_map,List.length_replicate];omega
theorem Fm{C:gE}{P:Program}{w:World}{K:Frag}{mg:Str->Option Value}{base:Heap}{k:Nat}{f:Addr}{name d:Str}{h:Arguments}{body:List Stmt}{a:Scope}{dV kV p pm g ct oc:Value}{Y od:Option Addr}
  {L:Array (Option Value)}{N D:List Str}{M:Sp}(lk:K.lookup f=some ⟨oc,od,.func (fnOf name d h body a dV kV p pm Y g ct),L⟩) (O:codeIn K g d=true) (S:ae N D a)
  (len:∀vs H Q E,M vs H Q E->vs.length=D.length)
  (j:∀(A:Around) (c:List Env) (s:Shared) (H:Hp) (vs:List V) (Q:VK) (E:XK),bW k (A.deeper (envOfC d a s.heap.objs.size f g))->M vs H Q E->
   ∃t,PSs (iP C P w K mg base N d a f g A c s H E) body t/\t { nx:=fun _ i=>Q .non i,rt:=Q } (start N vs) H) :
  aA P w K mg base C (k+1) f (fnOf name d h body a dV kV p pm Y g ct) D M:=by
 refine⟨len,fun A c s H args us vs Q E R z hb r B=>?_⟩;have hl:=len _ _ _ _ B;have Z:K.In s.heap:=z.mod.kin.keeps fun b o e=>(z.bs b o e).1;have T:s.heap.NoLimit:=z.mod.nolimit.keeps fun b o e=>(z.bs b o e).1;have l:∀y∈D.zip us,a.names.lookup y.1=some .local\/(a.names.lookup y.1=some .cell/\((cellsFrom (s.heap.objs.size+1) a.names []).lookup y.1).isSome=true):=fun⟨n,v⟩ hy=>by
  rcases S.par n (List.of_mem_zip hy).1 with q | q
  ·exact .inl q
  ·exact .inr ⟨q,PySem.W.cellsFrom_some _ _ _ (.inl q)⟩
 refine codeAny_call_function R.depth (Z _ _ lk) rfl S.co S.gen rfl (PySem.W.codeRec_of Z O) (hb _ _ _ _ ?_);refine wpAny_newFunctionEnv_cells S.kind l fun a0 he s1 x=>?_;subst he;refine⟨T.keeps x.toInCall.keep,codeAny_func ?_⟩;obtain⟨t,ht,hq⟩:=j A c s H vs Q E (R.deeper _) B;have I:Inv (iP C P w K mg base N d a f g A c s H E) [] (start N vs) H s1:=Fk S R.hd z hl r x;refine wpAny_mono (ht [] s1 (start N vs) H _ I hq) (fun fl U m=>?_) fun e U m=>m;have fin:∀{G:St}{i:Hp}{v:V}{u:Value},Inv (iP C P w K mg base N d a f g A c s H E) [] G i U->bd v u->Q v i->CE c P w H s Q u U:=
  fun {G i v u} J X q=>⟨v,i,J.os,J.bare,J.base,J.hok,X,q⟩
 cases fl with
 | ret u=>obtain⟨v,G,i,J,X,q⟩:=m;exact fin J X q
 | next=>obtain⟨G,i,J,q⟩:=m;exact fin (v:=V.non) (u:=Value.none) J rfl q
 | brk=>obtain⟨_,_,_,q⟩:=m;exact False.elim q
 | cont=>obtain⟨_,_,_,q⟩:=m;exact False.elim q
section
variable{X:Cx}{x:Str}{p pos:Pos}{e:Expr}{es:List Expr}{t:TA}{id T:String}{r:List V->Hp->VK->Prop}
noncomputable def sN(r:List V->Hp->VK->Prop)(t:TA):TE:=fun Y H Q=>t Y H fun vs a=>r vs a Q
theorem kh(d:eU X (.builtin id) r)(f:Gl X x)(g:X.mg x=none)(i:bootBuiltins x=some (.builtin id))(j:PA X (e::es) t)(k:x≠"__name__":=by decide)(b:(x==("__debug__":Str))=false:=by decide)
  (l:starEach (e::es) X.env=(false,eval e X.env)::starEach es X.env:=by rfl) (c:(backTo pos (starEach es X.env)).any (·.1)=false:=by rfl):PE X (.Call (.Name x p) (e::es) [] pos) (sN r t):=by
 intro a s Y H Q I h;refine wpAny_Call_Name_kw (ie I f g i ?_ k b);exact PyProof.Rows.callWith_builtin1 (aP (j pos a s Y H _ I h) fun m n ⟨vs,o,q,u,v⟩=>d a n Y o vs m Q q u v) l c
theorem xD(d:eU X (.type T) r)(f:Gl X x)(g:X.mg x=none)(i:bootBuiltins x=some (.type T))(j:PA X (e::es) t)(k:x≠"__name__":=by decide)(b:(x==("__debug__":Str))=false:=by decide)
  (l:starEach (e::es) X.env=(false,eval e X.env)::starEach es X.env:=by rfl) (c:(backTo pos (starEach es X.env)).any (·.1)=false:=by rfl):PE X (.Call (.Name x p) (e::es) [] pos) (sN r t):=by
 intro a s Y H Q I h;refine wpAny_Call_Name_kw (ie I f g i ?_ k b);exact PyProof.Rows.callWith_type1 (aP (j pos a s Y H _ I h) fun m n ⟨vs,o,q,u,v⟩=>d a n Y o vs m Q q u v) l c
end
end L2
namespace HT
open PySem PyProof.Rows
noncomputable def lexLt:List Int->List Int->Bool
 | [],[]=>false
 | [],_::_=>true
 | _::_,[]=>false
 | x::a,y::b=>if x=y then lexLt a b else decide (x<y)
theorem lexLt_cons(x y:Int)(a b:List Int):lexLt (x::a) (y::b)=if x=y then lexLt a b else decide (x<y):=rfl
theorem lexLt_nil_nil:lexLt [] []=false:=rfl
theorem Fo(y:Int)(a:List Int):lexLt [] (y::a)=true:=rfl
theorem Fp(x:Int)(a:List Int):lexLt (x::a) []=false:=rfl
theorem Fq(A:Around)(s:Shared)(a:Int)(t:Tok)(c:Int)(u:Tok):∃e,SeqAt.EqAt A s (.int a t) (.int c u) e/\(e=true↔a=c):=
 ⟨(a==c),SeqAt.EqAt.int_int a t c u,by simp⟩
theorem Fs(A:Around)(s:Shared)(a:Int)(t:Tok)(c:Int)(u:Tok)(b:Program)(w:World)(E:Value->Shared->Prop)(Q:Value->Shared->Prop)(h:Q (.bool (decide (a<c))) s) :
  wpAny (model b w) A (richCompare .Lt (.int a t) (.int c u)) Q E s:=
 (PyProof.Rows.lt_int h:wpAny (model b w) A (compareOp .Lt (.int a t) (.int c u)) Q E s)
section
open PySem.SeqAt
open PySem.AutoSeq1 (wpAny_loadPart')
open PySem.MeetsSeq PySem.MeetsSeq2 PySem.MeetsSeq3
theorem Ft(l b:Addr)(items f:Array Value)(n Y:Nat)(Z M:Option Addr)(sl N:Array (Option Value))(L G:List Int)(T:IntsAre items.toList L)(U:IntsAre f.toList G) :
  Meets (Builtin.«tuple.__lt__» ⟨[.ref l,.ref b],[]⟩)
   (fun _ R s=>s.heap.get? l=some { cls:=.type "tuple",dict:=Z,data:=.seq items n,slots:=sl }/\s.heap.get? b=some { cls:=.type "tuple",dict:=M,data:=.seq f Y,slots:=N }/\
    R (.ok (.ret (.bool (lexLt L G)))) s):=
 .of_wp fun v w A R s h=>by
  obtain⟨H,g,d,I,os⟩:=s;obtain⟨hl,hb,h⟩:=h;have f2:=AutoSeq1.sub_tuple_tuple;have z1:items.size=L.length:=by rw[<-T.length];simp
  have z2:f.size=G.length:=by rw[<-U.length];simp
  wp_walk using wpAny_loadPart' hl,wpAny_loadPart' hb,wpAny_forIn_list _ (fun rest b O=>b.1=none/\O = ⟨H,g,d,I,os⟩/\∃(vs J:List Value) (j k:List Int),rest=vs.zip J/\
   IntsAre vs j/\IntsAre J k/\j.length+f.size=k.length+items.size/\R (.ok (.ret (.bool (lexLt j k)))) ⟨H,g,d,I,os⟩) _
  case turn=>
   rintro⟨y,x⟩ rest b O ⟨z,rfl,vs,J,j,k,m,B,o,i,p⟩;cases B with
   | nil=>rw[List.zip_nil_left] at m;cases m
   | cons a t D=>
    cases o with
    | nil=>rw[List.zip_nil_right] at m;cases m
    | cons c u E=>
     rw[List.zip_cons_cons] at m;injection m with Q C
     injection Q with hy hx
     subst hy hx;rw[lexLt_cons] at p;simp only[List.length_cons] at i;obtain⟨e,he,r⟩:=Fq A.in1 ⟨H,g,d,I,os⟩ a t c u;refine aa (he v w _ _ ?_);cases e with
     | true=>
      rw[if_pos (r.mp rfl)] at p
      wp_walk
      exact⟨rfl,rfl,_,_,_,_,C,D,E,by omega,p⟩
     | false=>
      rw[if_neg (fun q=>absurd (r.mpr q) Bool.false_ne_true)] at p;have S:=Fs A.in1 ⟨H,g,d,I,os⟩ a t c u v w
      wp_walk using S
      exact⟨_,rfl,by simpa using p⟩
  case fin=>
   rintro⟨b1,b2⟩ O ⟨z,rfl,vs,J,j,k,m,B,o,i,p⟩;simp only at z;subst z;have X:lexLt j k = decide (items.size<f.size):=by
    cases B with
    | nil=>
     cases o with
     | nil=>simp only[List.length_nil] at i;rw[lexLt_nil_nil];exact(decide_eq_false (by omega)).symm
     | cons c u hw=>simp only[List.length_nil,List.length_cons] at i;rw[Fo];exact(decide_eq_true (by omega)).symm
    | cons a t X=>
     cases o with
     | nil=>simp only[List.length_nil,List.length_cons] at i;rw[Fp];exact(decide_eq_false (by omega)).symm
     | cons c u hw=>rw[List.zip_cons_cons] at m;cases m
   rw[X] at p
   wp_walk
   exact⟨_,rfl,by simpa[Builtin.Tuple.tupleCompareSizes] using p⟩
  case h=>exact⟨rfl,rfl,items.toList,f.toList,L,G,rfl,T,U,by omega,h⟩
end
section
variable{prog:Program}{w:World}{A:Around}{E:Value->Shared->Prop}{s:Shared}
theorem lt_tupInts{l b:Addr}{items a:Array Value}{g c:List Int}{Q:Value->Shared->Prop}(p:IsTup s.heap l items)(z:IsTup s.heap b a)(q:IntsAre items.toList g)(r:IntsAre a.toList c)
  (t:A.units<cLine) (h:Q (.bool (lexLt g c)) s):wpAny (model prog w) A (compareOp .Lt (.ref l) (.ref b)) Q E s:=by
 obtain⟨⟨cls,u,data,v⟩,k,m,n,hd⟩:=id p;obtain⟨⟨o,i,data2,j⟩,d,e,y,f⟩:=id z;simp only at m hd e f;subst m hd e f;exact richCompare_meets_room (op:=.Lt) ⟨_,k,rfl⟩ ⟨_,d,rfl⟩ PySem.F.slot_tuple_lt PySem.F.entry_tuple_lt (PySem.F.args_tuple_lt_2 _ _) (Ft l b items a n y u i v j g c q r)
  ⟨k,d,show Value.bool (lexLt g c)≠Value.notImplemented/\Q (.bool (lexLt g c)) s from⟨(fun x=>nomatch x),h⟩⟩ t
theorem cat_tup{t b:Addr}{vs a:List Value}{Q:Value->Shared->Prop}(u:IsTup s.heap t vs.toArray)(v:IsTup s.heap b a.toArray)(l:vs≠[])
  (x:a=[]->Q (.ref t) s) (y:a≠[]->Q (.ref s.heap.objs.size) { s with heap:=s.heap.push { cls:=.type "tuple",data:=.seq (vs++a).toArray } })
  (k:vs.length+a.length<=sizeLine):wpAny (model prog w) A (binaryOp .Add (.ref t) (.ref b)) Q E s:=by
 obtain⟨⟨cls,m,data,o⟩,i,p,n,hd⟩:=id u;obtain⟨⟨q,d,data2,f⟩,c,g,r,h⟩:=id v;simp only at p hd g h;subst p hd g h;have e:vs.toArray++a.toArray=(vs++a).toArray:=by simp
 by_cases j:a=[]
 ·exact concat_meets ⟨_,i,rfl⟩ ⟨_,c,rfl⟩ noFill_tuple_add seq_tuple_add PySem.F.slot_tuple_add PySem.F.entry_tuple_add (PySem.F.args_tuple_add_2 _ _)
   (tuple_addW1 t b vs.toArray a.toArray n r m d o f (by simpa using l) (by simp[j])) ⟨i,c,x j⟩
 ·refine concat_meets ⟨_,i,rfl⟩ ⟨_,c,rfl⟩ noFill_tuple_add seq_tuple_add PySem.F.slot_tuple_add PySem.F.entry_tuple_add (PySem.F.args_tuple_add_2 _ _)
   (tuple_addW2 t b vs.toArray a.toArray n r m d o f (by simpa using l) (by simpa using j) (by rw[List.size_toArray,List.size_toArray];exact k)) ⟨i,c,?_⟩
  rw[e];exact y j
noncomputable def sIx(n d:Nat):Option Int->Nat
 | none=>d
 | some v=>if v<0 then(v+(n:Int)).toNat else min v.toNat n
theorem sIx_none(n d:Nat):sIx n d none=d:=rfl
theorem sIx_nat(n d k:Nat):sIx n d (some (k:Int))=min k n:=by show(if (k:Int)<0 then((k:Int)+(n:Int)).toNat else min (k:Int).toNat n)=min k n;rw[if_neg (by omega),Int.toNat_natCast]
end
end HT
namespace L2
open PySem PySem.Spec PyProof.Rows
abbrev TO:=St->Hp->(Option Int->Hp->Prop)->Prop
def PO(X:Cx)(e:Option Expr)(t:TO):Prop:=
 ∀(a:List (Addr×Obj)) (s:Shared) (Y:St) (H:Hp) (Q:Option Int->Hp->Prop),Inv X a Y H s->t Y H Q->
  wpAny (model X.prog X.w) X.A (evalPart e X.env) (fun u c=>∃o b,Inv X a Y b c/\IsPart u o/\Q o b) X.xe s
noncomputable def Fu:TO:=fun _ H Q=>Q none H
noncomputable def Fv(t:TE):TO:=fun Y H Q=>t Y H fun x a=>∃i,x=.int i/\Q (some i) a
section
variable{X:Cx}{e:Expr}{te:TE}{lo hi:Option Expr}{tl th:TO}{pos p2:Pos}
theorem Fw:PO X none Fu:=by intro a s Y H Q I h;rw[evalPart_none];exact av ⟨none,H,I,.none,h⟩
theorem Fy(h:PE X e te):PO X (some e) (Fv te):=by intro a s Y H Q I b;rw[evalPart_some];refine aP (h a s Y H _ I b) fun u j ⟨x,c,d,f,g⟩=>?_;obtain⟨i,rfl,q⟩:=g;obtain⟨t,rfl⟩:=f;exact⟨some i,c,d,.int i t,q⟩
def xE(X:Cx)(r:V->Option Int->Option Int->Hp->VK->Prop):Prop:=
 ∀(a:List (Addr×Obj)) (s:Shared) (Y:St) (H:Hp) (x:V) (v b c:Value) (lo hi:Option Int) (d:Addr) (Q:VK),Inv X a Y H s->bd x v->s.heap.IsSliceOf d b c .none->IsPart b lo->IsPart c hi->r x lo hi H Q->
  ∃T id,typeLookup (.type T) "__getitem__" = pure (some (.builtin id))/\s.TypeIs v T/\wpAny (model X.prog X.w) X.A (getItem v (.ref d)) (EP X a Y Q) X.xe s
noncomputable def Fz(r:V->Option Int->Option Int->Hp->VK->Prop)(te:TE)(tl th:TO):TE:=fun Y H Q=>te Y H fun x a=>tl Y a fun l b=>th Y b fun u c=>r x l u c Q
theorem FC{r:V->Option Int->Option Int->Hp->VK->Prop}(i:xE X r)(j:PE X e te)(k:PO X lo tl)(m:PO X hi th):PE X (.Subscript e (.Slice lo hi none p2) pos) (Fz r te tl th):=by intro a s Y H Q I h;refine Subscript_ (aP (j a s Y H _ I h) fun v n ⟨x,o,p,t,y⟩=>?_);refine wpAny_Slice (aP (k a n Y o _ p y) fun d z ⟨l,B,C,D,E⟩=>aP (m a z Y B _ C E) fun f c ⟨u,g,G,J,L⟩=>?_);rw[evalPart_none];refine av ?_;have M:Inv X a Y g { c with heap:=c.heap.push { cls:=.type "slice",data:=.fields #[d,f,.none] } }:=G.kept (t':=c.toks) fun b S q=>aS _ q;obtain⟨T,id,N,O,R⟩:=i a { c with heap:=c.heap.push { cls:=.type "slice",data:=.fields #[d,f,.none] } } Y g x v d f l u c.heap.objs.size Q M t (Heap.IsSliceOf.new ..) D J L;show wpAny (model X.prog X.w) X.A (subscriptTail e (.Slice lo hi none p2) v (.ref c.heap.objs.size)) (EP X a Y Q) X.xe { c with heap:=c.heap.push { cls:=.type "slice",data:=.fields #[d,f,.none] } };exact tail_any (ops:=[.ref c.heap.objs.size,v]) O N R (by with_unfolding_all rfl)
noncomputable def ki(a:List V)(lo hi:Option Int):List V:=(a.drop (HT.sIx a.length 0 lo)).take (HT.sIx a.length a.length hi - HT.sIx a.length 0 lo)
theorem FF(a:List V)(lo hi:Option Int):(ki a lo hi).length<=a.length:=by unfold ki;rw[List.length_take,List.length_drop];omega
noncomputable def FH(K:Frag):R2:=fun x y H Q=>∃a b d c,x=.ref a/\y=.ref b/\dD K H a d/\dD K H b c/\d≠[]/\d.length+c.length<=sizeLine/\
 (c=[]->Q (.ref a) H)/\(c≠[]->∀p,H p=none->Q (.ref p) (bp H p (.tup (d++c))))
theorem bi.nil_iff{a:List V}{b:List Value}(r:bi a b):b=[]↔a=[]:=by
 cases r with
 | nil=>simp
 | cons _ _=>simp
theorem FJ:cA X (binaryOp .Add) (FH X.K):=by intro f s Y H x y v u Q I j k h;obtain⟨a,b,l,m,rfl,rfl,n,hb,p,g,r,t⟩:=h;cases j;cases k;obtain⟨A,d,B,_⟩:=I.tuple n;obtain⟨i,c,p2,_⟩:=I.tuple hb;refine HT.cat_tup B p2 (fun z=>p (d.nil_iff.mp z)) (fun z=>⟨.ref a,H,I,rfl,r (c.nil_iff.mp z)⟩) (fun z=>?_) (by rw[<-d.length,<-c.length];exact g);refine⟨.ref s.heap.objs.size,_,I.laid (t':=s.toks) (o:=.tup (l++m)) (fun b C q=>aS _ q) (aZ _) ?_,rfl,t (fun w=>z (c.nil_iff.mpr w)) _ (I.hok.fresh (aZ _))⟩;exact⟨by rw[List.length_append];exact g,_,d.append c,IsTup.new _ _⟩
end
noncomputable def eL(n:Nat)(i:Int):Option Nat:=if 0<=i then(if i<n then some i.toNat else none) else if -(n:Int)<=i then some (i+n).toNat else none
noncomputable def cu{α:Type}(a:List α)(i:Int):Option α:=(eL a.length i).bind fun j=>a[j]?
theorem FK{n:Nat}{i:Int}{j:Nat}(h:eL n i=some j):seqIndex? i n=some j/\j<n/\-(n:Int)<=i/\i<n:=by
 unfold eL at h
 by_cases a:0<=i
 ·rw[if_pos a] at h
  by_cases h1:i<n
  ·rw[if_pos h1] at h;have e:i.toNat=j:=Option.some.inj h;exact⟨by rw[seqIndex_of a h1,e],by omega,by omega,h1⟩
  ·rw[if_neg h1] at h;cases h
 ·rw[if_neg a] at h
  by_cases h1:-(n:Int)<=i
  ·rw[if_pos h1] at h;have e:(i+n).toNat=j:=Option.some.inj h;exact⟨by rw[seqIndex_neg (by omega) h1,e],by omega,h1,by omega⟩
  ·rw[if_neg h1] at h;cases h
theorem xF{α:Type}{a:List α}{i:Int}{v:α}(h:cu a i=some v):∃j,seqIndex? i a.length=some j/\a[j]? = some v/\j<a.length/\-(a.length:Int)<=i/\i<a.length:=by
 unfold cu at h;cases e:eL a.length i with
 | none=>rw[e] at h;cases h
 | some j=>rw[e] at h;obtain⟨c,h2,h3,b⟩:=FK e;exact⟨j,c,h,h2,h3,b⟩
def pC(b:Expr):Prop:=∀o i,subscripted b false o i=operate [o,i] (getItem o i)
def ik(X:Cx)(r:R2):Prop:=
 ∀(value slice:Expr) (a:List (Addr×Obj)) (s:Shared) (Y:St) (H:Hp) (x y:V) (v u:Value) (Q:VK),Inv X a Y H s->bd x v->bd y u->r x y H Q->
  subscripted slice false v u=operate [v,u] (getItem v u)->wpAny (model X.prog X.w) X.A (subscriptTail value slice v u) (EP X a Y Q) X.xe s
def sO(X:Cx)(id:String)(r:V->List V->Hp->VK->Prop):Prop:=
 ∀(a:List (Addr×Obj)) (s:Shared) (Y:St) (H:Hp) (x:V) (b:List V) (v:Value) (c:List Value) (Q:VK),Inv X a Y H s->bd x v->bi b c->r x b H Q->
  wpAny (model X.prog X.w) X.A (call (.builtin id) (v::c)) (EP X a Y Q) X.xe s
section
variable{X:Cx}{a b:Expr}{ta tb:TE}{pos:Pos}
theorem ik.or{r d:R2}(h:ik X r)(i:ik X d):ik X (fun x y H Q=>r x y H Q\/d x y H Q):=by
 intro value slice c s Y H x y v u Q I e f q g;rcases q with q | q
 ·exact h value slice c s Y H x y v u Q I e f q g
 ·exact i value slice c s Y H x y v u Q I e f q g
theorem xG{r:R2}(d:ik X r)(e:PE X a ta)(m:PE X b tb)(f:pC b):PE X (.Subscript a b pos) (mU r ta tb):=by intro c s Y H Q I h;exact Subscript_ (sG e m I h fun v u g x y i j k l q=>d a b c g Y i x y v u Q j k l q (f _ _))
noncomputable def sP(K:Frag):R2:=fun x y H Q=>∃p c i v,x=.ref p/\y=.int i/\cU K H p c/\cu c i=some v/\Q v H
noncomputable def sQ(K:Frag):R2:=fun x y H Q=>∃p c i v,x=.ref p/\y=.int i/\dD K H p c/\cu c i=some v/\Q v H
theorem xH:ik X (sP X.K):=by
 intro value slice c s Y H x y v u Q I n o h k;obtain⟨p,J,i,z,rfl,rfl,A,B,q⟩:=h;cases n;obtain⟨t,rfl⟩:=o;obtain⟨d,r,e,L⟩:=I.list A;obtain⟨j,h1,h2,h3,C,D⟩:=xF B;obtain⟨w,l,f⟩:=r.get h2;have E:=r.length;have M:=eK;have fin:EP X c Y Q w s:=⟨z,H,I,f,q⟩
 by_cases m:0<=i
 ·have g:i.toNat=j:=by rw[seqIndex_of m D] at h1;exact Option.some.inj h1
  exact item_listR e.isList m (by omega) (by rw[g];simpa using l) fin k
 ·have g:(i+(d.toArray.size:Int)).toNat=j:=by rw[seqIndex_neg (by omega) C] at h1;rw[List.size_toArray,<-E];exact Option.some.inj h1
  exact subscriptTail_builtinR (x:=w) e.isList.typeIs slot_list_getitem.lookup
   (wpAny_getItem_list_neg (Q:=fun r G=>r=w/\EP X c Y Q r G) e.isList (by omega) (by rw[List.size_toArray]<;>omega) (by omega) (by rw[g];simpa using l) ⟨rfl,fin⟩) k
theorem FL:ik X (sQ X.K):=by
 intro value slice c s Y H x y v u Q I f g h k;obtain⟨p,C,i,z,rfl,rfl,l,m,q⟩:=h;cases f;obtain⟨t,rfl⟩:=g;obtain⟨n,r,e,D⟩:=I.tuple l;obtain⟨j,h1,h2,h3,E,G⟩:=xF m;obtain⟨w,o,d⟩:=r.get h2;have A:=r.length;have J:=eK;have fin:EP X c Y Q w s:=⟨z,H,I,d,q⟩
 exact subscriptTail_builtinR (x:=w) e.typeIs slot_tuple_getitem.lookup
  (getItem_tuple (j:=j) (Q:=fun r B=>r=w/\EP X c Y Q r B) e (by omega) (by omega) (by rw[List.size_toArray,<-A];exact h1) (by simpa using o) ⟨rfl,fin⟩) k
theorem FP(lo c:Option Int)(n:Nat):(sliceBounds lo c none n).1=((HT.sIx n 0 lo:Nat):Int)/\(sliceBounds lo c none n).2.1=((HT.sIx n n c:Nat):Int)/\(sliceBounds lo c none n).2.2=1:=by
 refine⟨?_,?_,rfl⟩
 ·cases lo with
  | none=>simp[sliceBounds,HT.sIx]
  | some i=>
   simp only[sliceBounds,HT.sIx,Option.getD_none,show(1:Int)>0 by decide,if_true]
   by_cases h:i<0
   ·simp only[h,if_true]<;>omega
   ·simp only[h,if_false]<;>omega
 ·cases c with
  | none=>simp[sliceBounds,HT.sIx]
  | some i=>
   simp only[sliceBounds,HT.sIx,Option.getD_none,show(1:Int)>0 by decide,if_true]
   by_cases h:i<0
   ·simp only[h,if_true]<;>omega
   ·simp only[h,if_false]<;>omega
theorem FQ(c:List Value)(lo d:Option Int):slicePick c.toArray lo d none=((c.drop (HT.sIx c.length 0 lo)).take (HT.sIx c.length c.length d - HT.sIx c.length 0 lo)).toArray:=by obtain⟨e,h2,h3⟩:=FP lo d c.toArray.size;unfold slicePick;rw[e,h2,h3];simp only[sliceRange_one,pick_run,List.size_toArray]<;>rfl
noncomputable def FT(K:Frag):V->Option Int->Option Int->Hp->VK->Prop:=fun x lo d H Q=>∃a c,x=.ref a/\cU K H a c/\∀p,H p=none->Q (.ref p) (bp H p (.lst (ki c lo d)))
theorem FU:xE X (FT X.K):=by intro f s Y H x v t u lo e w Q I i j k l h;obtain⟨a,c,rfl,m,q⟩:=h;cases i;obtain⟨n,r,g,p⟩:=I.list m;have d:=r.length;refine⟨"list",_,slot_list_getitem.lookup,g.isList.typeIs,?_⟩;refine wpAny_getItem_list_slice g.isList j k l .none (by simp) ?_ (by rw[List.size_toArray]<;>omega);rw[FQ,<-d];refine⟨.ref s.heap.objs.size,_,I.laid (t':=s.toks) (o:=.lst (ki c lo e)) (fun b y q=>aS _ q) (aZ _) ?_,rfl,q _ (I.hok.fresh (aZ _))⟩;exact⟨Nat.le_trans (FF c lo e) p,_,0,(r.drop (HT.sIx c.length 0 lo)).take (HT.sIx c.length c.length e - HT.sIx c.length 0 lo),Heap.get?_push_size _ rfl⟩
noncomputable def il:V->Bool
 | .non=>true
 | .bl _=>true
 | .int _=>true
 | .str _=>true
 | _=>false
noncomputable def jr:V->V->Bool
 | .non,.non=>true
 | .bl a,.bl b=>a==b
 | .bl a,.int b=>(if a then 1 else 0)==b
 | .int a,.bl b=>a==(if b then 1 else 0)
 | .int a,.int b=>a==b
 | .str a,.str b=>a==b
 | _,_=>false
theorem FV{A:Around}{s:Shared}{y x:V}{u v:Value}(d:bd y u)(c:bd x v)(f:il y=true)(e:il x=true):SeqAt.EqAt A s u v (jr y x):=by
 cases y with
 | non=>
  cases d;cases x with
  | non=>cases c;exact SeqAt.EqAt.same _
  | bl b=>cases c;exact SeqAt.EqAt.none_bool b
  | int b=>obtain⟨t,rfl⟩:=c;exact SeqAt.EqAt.none_int b t
  | str b=>obtain⟨t,rfl⟩:=c;exact SeqAt.EqAt.none_str b t
  | _=>exact absurd (show false=true from e) Bool.false_ne_true
 | bl a=>
  cases d;cases x with
  | non=>cases c;exact SeqAt.EqAt.bool_none a
  | bl b=>cases c;exact SeqAt.EqAt.bool_bool a b
  | int b=>obtain⟨t,rfl⟩:=c;exact SeqAt.EqAt.bool_int a b t
  | str b=>obtain⟨t,rfl⟩:=c;exact SeqAt.EqAt.bool_str a b t
  | _=>exact absurd (show false=true from e) Bool.false_ne_true
 | int a=>
  obtain⟨t',rfl⟩:=d;cases x with
  | non=>cases c;exact SeqAt.EqAt.int_none a t'
  | bl b=>cases c;exact SeqAt.EqAt.int_bool a t' b
  | int b=>obtain⟨t,rfl⟩:=c;exact SeqAt.EqAt.int_int a t' b t
  | str b=>obtain⟨t,rfl⟩:=c;exact SeqAt.EqAt.int_str a t' b t
  | _=>exact absurd (show false=true from e) Bool.false_ne_true
 | str a=>
  obtain⟨t',rfl⟩:=d;cases x with
  | non=>cases c;exact SeqAt.EqAt.str_none a t'
  | bl b=>cases c;exact SeqAt.EqAt.str_bool a t' b
  | int b=>obtain⟨t,rfl⟩:=c;exact SeqAt.EqAt.str_int a t' b t
  | str b=>obtain⟨t,rfl⟩:=c;exact SeqAt.EqAt.str_str a t' b t
  | _=>exact absurd (show false=true from e) Bool.false_ne_true
 | _=>exact absurd (show false=true from f) Bool.false_ne_true
theorem kj:eU X (.builtin "len") (fun j H Q=>∃p d,j=[.ref p]/\(cU X.K H p d\/dD X.K H p d)/\Q (.int d.length) H):=by
 intro k s Y H j n Q I r h;obtain⟨p,d,rfl,e,q⟩:=h;obtain⟨u,rfl,l⟩:=vals1 r;cases l;have o:=eK;rcases e with e | e
 ·obtain⟨f,g,i,m⟩:=I.list e;have c:=g.length;exact Calls.call_len_list i.isList (by simp only[List.size_toArray]<;>omega) ⟨.int d.length,H,I.tok _,⟨s.toks+1,by rw[List.size_toArray,c]⟩,q⟩
 ·obtain⟨f,g,i,m⟩:=I.tuple e;have c:=g.length;exact len_tuple i (by simp only[List.size_toArray]<;>omega) ⟨.int d.length,H,I.tok _,⟨s.toks+1,by rw[List.size_toArray,c]⟩,q⟩
def xI(K:Frag)(T:String)(x:V)(H:Hp):Prop:=match x with
 | .str _=>T="str"
 | .int _=>T="int"
 | .ref p=>(T="list"/\∃d,cU K H p d)\/(T="tuple"/\∃o,K.lookup p=some o/\o.cls=.type "tuple"/\o.dict=none)\/
   (T="dict"/\((∃c,H p=some (.dK c))\/∃c,H p=some (.dT c)))\/(T="set"/\∃S n,H p=some (.set S n))
 | _=>False
theorem FY{f:List (Addr×Obj)}{Y:St}{H:Hp}{s:Shared}{T:String}{x:V}{v:Value}(I:Inv X f Y H s)(r:bd x v)(g:xI X.K T x H) :
  s.TypeIs v T/\∀a,v=.ref a->∃l,s.heap.get? a=some l/\l.dict=none:=by
 cases x with
 | str z=>obtain⟨t,rfl⟩:=r;cases(show T="str" from g);exact⟨typeIs_str s z t,fun _ e=>nomatch e⟩
 | int i=>obtain⟨t,rfl⟩:=r;cases(show T="int" from g);exact⟨typeIs_int s i t,fun _ e=>nomatch e⟩
 | ref p=>
  cases r;rcases g with⟨rfl,w,m⟩ | ⟨rfl,o,d,q,hd⟩ | ⟨rfl,d⟩ | ⟨rfl,S,n,d⟩
  ·obtain⟨u,_,k,_⟩:=I.list m;refine⟨k.isList.typeIs,fun a e=>?_⟩;cases e;obtain⟨o,n,e,c,hd,_⟩:=k;exact⟨o,e,hd⟩
  ·refine⟨⟨o,I.kIn p o d,q⟩,fun a e=>?_⟩;cases e;exact⟨o,I.kIn _ o d,hd⟩
  ·have z:∃o,s.heap.get? p=some o/\o.ExactDict:=by
    rcases d with⟨h,d⟩ | ⟨h,d⟩
    ·obtain⟨_,_,_,_,o,_,_,e,ex,_⟩:=I.hok p _ d;exact⟨o,e,ex⟩
    ·obtain⟨_,_,_,_,o,_,_,e,ex,_⟩:=I.hok p _ d;exact⟨o,e,ex⟩
   obtain⟨o,e,ex⟩:=z;refine⟨⟨o,e,ex.1⟩,fun a j=>?_⟩;cases j;exact⟨o,e,ex.2.1⟩
  ·obtain⟨o,_,_,_,e,ex,_⟩:=I.hok p _ d;refine⟨⟨o,e,ex.1⟩,fun a j=>?_⟩;cases j;exact⟨o,e,ex.2.1⟩
 | _=>exact False.elim g
noncomputable def FZ(K:Frag)(T:String)(r:V->List V->Hp->VK->Prop)(f:TE)(t:TA):TE:=fun Y H Q=>f Y H fun x c=>xI K T x c/\t Y c fun d e=>r x d e Q
variable{o e:Expr}{es:List Expr}{to:TE}{t:TA}{name:Str}{apos cpos:Pos}{T id:String}{r:V->List V->Hp->VK->Prop}
theorem xJ(pa:PlainAttrs T)(slot:Slot T name id)(j:typeOf (.builtin id)=pure (.type "method_descriptor"))(n:sO X id r)(p:PE X o to)(q:PA X (e::es) t)
  (f:attributeBase o name X.env (eval o X.env)=eval o X.env:=by rfl)
  (i:((backTo cpos (starEach (e::es) X.env)).all (fun x=>!x.1)&&(backToKw cpos (keywordEach [] X.env)).all (fun x=>x.1.isSome)
   && decide ((e::es).length+([]:List Keyword).length+(if ([]:List Keyword).isEmpty then 0 else 1)<30))=true:=by rfl)
  (g:(apos.endLine==cpos.line)=true:=by rfl) (u:starEach (e::es) X.env=(false,eval e X.env)::starEach es X.env:=by rfl) (d:(backTo cpos (starEach es X.env)).any (·.1)=false:=by rfl) :
  PE X (.Call (.Attribute o name apos) (e::es) [] cpos) (FZ X.K T r to t):=by
 intro c s Y H Q I h;refine wpAny_Call_method_late f i g rfl (aP (p c s Y H _ I h) fun v w ⟨x,y,k,l,ty,z⟩=>?_);obtain⟨J,h2⟩:=FY k l ty;refine⟨T,id,pa,slot,j,J,h2,?_⟩;have m:=q cpos c w Y y _ k z;rw[u] at m ⊢;refine Calls.callWith_builtin (by show(false||(backTo cpos (starEach es X.env)).any (·.1))=false;rw[d]<;>rfl) (Calls.evalArgs_plain ?_);exact aP m fun A B ⟨vs,C,D,E,G⟩=>n c B Y C x vs v A Q D l E G
end
def Ga(X:Cx)(id:String)(r:V->List V->Hp->VK->Prop):Prop:=
 ∀(a:List (Addr×Obj)) (s:Shared) (Y:St) (H:Hp) (x:V) (b:List V) (v:Value) (c:List Value) (Q:VK),Inv X a Y H s->bd x v->bi b c->r x b H Q->
  wpAny (model X.prog X.w) X.A (call (.builtin id) (v::c)) (EP X a Y Q) X.xe s
theorem bi.one:∀{x:V}{a:List Value},bi [x] a->∃u,a=[u]/\bd x u
 | _,_,.cons r .nil=>⟨_,rfl,r⟩
section
variable{X:Cx}{pins:List (Addr×Obj)}{Y:St}{H:Hp}{s:Shared}{l b:Addr}{xs ys zs:List V}
theorem Inv.lset{a its':List Value}{n:Nat}{f:Array Value->Array Value}{t':Nat}(I:Inv X pins Y H s)(c:H l=some (.lst xs))
  (e:s.heap.get? l=some { cls:=.type "list",data:=.seq a.toArray n }) (d:f a.toArray=its'.toArray) (g:bi ys its') (h:ys.length<=sizeLine) :
  Inv X pins Y (bp H l (.lst ys)) { s with heap:=s.heap.update l (Obj.mapSeq f),toks:=t' }:=by
 have q:=PySem.IsL.update e f;rw[d] at q;refine I.write (x:=l) (e:=l) (by rw[c];exact trivial) (.inl rfl) (fun k u j i=>(Heap.get?_update_other s.heap (Obj.mapSeq f) (Ne.symm j)).trans i) ⟨_,q⟩ ?_;exact⟨h,its',_,g,q⟩
theorem Inv.lnew{a:List Value}{t':Nat}(I:Inv X pins Y H s)(c:bi ys a)(d:ys.length<=sizeLine) :
  Inv X pins Y (bp H s.heap.objs.size (.lst ys)) { s with heap:=s.heap.push { cls:=.type "list",data:=.seq a.toArray },toks:=t' }:=
 I.laid (fun _ _ q=>aS _ q) (aZ _) ⟨d,a,0,c,Heap.get?_push_size _ rfl⟩
theorem Inv.fresh(I:Inv X pins Y H s):H s.heap.objs.size=none:=I.hok.fresh (aZ _)
theorem Inv.lstM(I:Inv X pins Y H s)(c:H l=some (.lst xs)):xs.length<=sizeLine/\∃(a:List Value) (n:Nat),bi xs a/\xs.length=a.length/\s.heap.get? l=some { cls:=.type "list",data:=.seq a.toArray n }:=by obtain⟨z,a,n,r,e⟩:=I.hok l _ c;exact⟨z,a,n,r,r.length,e⟩
end
section
variable{X:Cx}
noncomputable def Gb:V->List V->Hp->VK->Prop:=fun x vs H Q=>∃l a y,x=.ref l/\vs=[y]/\H l=some (.lst a)/\a.length<sizeLine/\Q .non (bp H l (.lst (a++[y])))
theorem Gc:Ga X "list.append" Gb:=by intro b s Y H x vs v i Q I d f h;obtain⟨l,j,y,rfl,rfl,c,k,q⟩:=h;cases d;obtain⟨u,rfl,g⟩:=f.one;obtain⟨z,a,n,r,m,e⟩:=I.lstM c;refine call_meets F.slot_list_append ⟨_,e,rfl⟩ F.entry_list_append (F.args_list_append_2 _ _) (PySem.list_append l a.toArray n u (by rw[List.size_toArray];omega)) ⟨e,?_⟩;refine⟨.non,_,I.lset (its':=a++[u]) c e (by simp) (r.append (.cons g .nil)) ?_,rfl,q⟩;rw[List.length_append,List.length_singleton];omega
noncomputable def xK:R2:=fun x y H Q=>∃l b a c,x=.ref l/\y=.ref b/\H l=some (.lst a)/\H b=some (.lst c)/\a.length+c.length<=sizeLine/\∀p,H p=none->Q (.ref p) (bp H p (.lst (a++c)))
theorem Ge:cA X (binaryOp .Add) xK:=by
 intro d s Y H x y v u Q I f g h;obtain⟨l,b,t,w,rfl,rfl,i,j,A,q⟩:=h;cases f;cases g;obtain⟨z,c,n,r,B,e⟩:=I.lstM i;obtain⟨C,a,D,k,m,o⟩:=I.lstM j;refine PySem.P.add_list e o ?_ (by rw[List.size_toArray,List.size_toArray];omega);have p:c.toArray++a.toArray=(c++a).toArray:=by simp
 rw[p];exact⟨.ref _,_,I.lnew (t':=s.toks) (r.append k) (by rw[List.length_append];omega),rfl,q _ I.fresh⟩
end
end L2
namespace Att
open PySem PySem.W PySem.Calls PyProof.Rows
theorem Gf{P:Params}{h:Heap}:∀(c:List Int) (vs:List Value),WellAll P h vs (c.map WData.int)->IntsAre vs c:=by
 intro c
 induction c with
 | nil=>intro vs w;rw[List.map_nil] at w;cases w;exact .nil
 | cons n c d=>
  intro vs w;rw[List.map_cons] at w;cases w with
  | cons a b=>cases a;exact .cons _ _ (d _ b)
theorem Gg{l:OpenLaw}{n:Nat}(p:l.most=some n){P:Params}{h:Heap}{args:List WData}{c:List Value}
  (e:l.row.toRowW.claim.pre args=true) (k:WellAll P h c args) :
  ∃a vs b,c=[Value.ref a]/\args=[WData.list (b.map WData.int)]/\h.get? a=some { cls:=.type "list",data:=.seq vs.toArray }/\IntsAre vs b/\b.length<=n:=by
 have m:WShape.hasAll [] args [.list .int]=true:=(pre_splitW e).1;have o:l.pre.holds [] { args:=args }=true:=(pre_splitW e).2;obtain⟨d,r,rfl,h1,h2⟩:=hasAllW_cons m;obtain rfl:=hasAllW_nil h2;obtain⟨w,rfl,h3⟩:=hasW_list h1;obtain⟨b,rfl⟩:=items_int h3;have f:b.length<=n:=by
  unfold OpenLaw.pre at o;have i:(WTm.not (.lt (.lit (.int (n:Int))) (.len (.arg 0)))).holds [] { args:=[.list (b.map .int)] }=true:=by have i:=(holds_andW o).1;rw[p] at i;exact i
  have j:=condW_of i (w_not (w_lt w_lit (w_len_list (w_arg rfl))));rw[List.length_map] at j;refine Nat.le_of_not_lt fun q=>?_;have s:(n:Int)<((b.length:Nat):Int):=by omega
  first
   | (rw[decide_eq_true s] at j;exact absurd j (by decide))
   | (simp at j;omega)
 cases k with
 | cons t u=>
  cases u;cases t with
  | list v g=>exact⟨_,_,b,rfl,rfl,v,Gf b _ g,f⟩
theorem Gh(l:OpenLaw)(args:List WData):l.row.toRowW.claim.post args (.bool true) args=true:=
 postW_of (r:=l.row.toRowW) (X:=(true==true))
  (show WShape.has [] (.bool true) .bool=true by first | rfl | decide | simp[WShape.has,WShape.arms,WShape.armsAll])
  (show(WTm.eq .res (.lit (.bool true))).value [] { args:=args,res:=some (.bool true),after:=args }=some (.bool (true==true)) from w_eq_bool (w_res rfl) w_lit) rfl
theorem attach_call{l:OpenLaw}{n:Nat}{q:Program}{b:List Str}{A:(Str->Option Value)->Heap->Prop}{B:World->Heap->Prop}{d:DefRec}
  (H:l.most=some n) (t:d.params.defaults=[])
  (call:∀(w:World) (z c:Shared) (mg u:Str->Option Value) (h:Addr) (o:Obj) (pm m e:Value) (a:Addr) (vs:List Value) (s:List Int),
   Ground q b [] A w z mg u c.heap->B w c.heap->
   c.heap.get? h=some o->o.data=.func (docDef d.name d.params d.body d.scope pm m e)->c.heap.CodeRec m d.name->mg d.name=some (.ref h)->
   c.heap.get? a=some { cls:=.type "list",data:=.seq vs.toArray }->IntsAre vs s->s.length<=n->c.gens = #[]->
   codeAny (model l.prog w) callerA (.call (.ref h) ⟨[.ref a],[]⟩) (fun r p=>r=.ok (.ret (.bool true))/\OldK c.heap p.heap/\p.os=c.os/\AllBare p.gens) c) :
  WalkO q b A B l.row.toRowW d [] (fun f vs=>PySem.call f vs):=by
 intro w z c mg u G I h o pm m e dV kV J hd v C x L args D as i E M y N;obtain rfl:dV=.none:=Dflts.none C t;obtain rfl:kV=.none:=Dflts.noKw C;obtain⟨a,vs,s,rfl,rfl,j,g,k⟩:=Gg H i y;refine enter_call (codeAny_mono (call w z c mg u h o pm m e a vs s G I J (fd_plain hd) v x j g k L) fun r p O=>?_);obtain⟨rfl,h2,h3,Q⟩:=O;exact⟨.inl ⟨.bool true,.bool true,[],rfl,fun _=>rfl,.bool true,Gh l _,fun _=>⟨List.Pairwise.nil,fun _ T=>(nomatch T)⟩⟩,h2,h3,Q⟩
end Att
namespace L2
open PySem PySem.Spec PyProof.Rows
theorem xL:∀{vs:List Value}{a:List Int},IntsAre vs a->bi (a.map V.int) vs
 | _,_,.nil=>.nil
 | _,_,.cons n t h=>.cons ⟨t,rfl⟩ (xL h)
def sR(H:Hp):Prop:=∀b,H b=none\/∃o a,H b=some (.frz o (.lst a))
theorem Gi{P:Program}{w:World}{K:Frag}{mg J:Str->Option Value}{S:gE}{k:Nat}{L a:Addr}{fd:FuncData}{x:Str}{T:Sp}{c:Shared}{vs:List Value}{E:List Int}
  (U:K.In c.heap) (p:c.heap.Ns mainGlobals mg) (g:c.heap.Ns builtinsNs J) (M:∀x:Str,x≠"__name__"->J x=bootBuiltins x) (t:c.heap.NoLimit) (hg:c.gens = #[])
  (I:c.heap.get? a=some { cls:=.type "list",data:=.seq vs.toArray }) (X:IntsAre vs E) (Y:E.length<=sizeLine) (hr:bW k callerA)
  (F:∀base:Heap,K.In base->base.Ns mainGlobals mg->aA P w K mg base S k L fd [x] T) (l:∀(s:Shared) (u:Value),BindsTo s fd ⟨[u],[]⟩ [(x,u)])
  (hsp:∀H:Hp,sR H->cU K H a (E.map V.int)->T [.ref a] H (fun v _=>v=.bl true) fun _ _ _=>False)
  (N:∀H e i,S [] H c (fun _ _ _=>False) e i->False) :
  codeAny (model P w) callerA (.call (.ref L) ⟨[.ref a],[]⟩) (fun r i=>r=.ok (.ret (.bool true))/\OldK c.heap i.heap/\i.os=c.os/\AllBare i.gens) c:=by
 have Z:=xL X;have y:=X.length;have core:∀H:Hp,sR H->cU K H a (E.map V.int)->cg P w H c.heap->(∀b,H b≠none->b=a)->(H a≠none->K.lookup a=none)->
   codeAny (model P w) callerA (.call (.ref L) ⟨[.ref a],[]⟩) (fun r i=>r=.ok (.ret (.bool true))/\OldK c.heap i.heap/\i.os=c.os/\AllBare i.gens) c:=by
  intro H hO hS G hA hK;have f:∀{b:Addr}{o:Obj},c.heap.get? b=some o->H b=none->(ic c.heap H).get? b=some o:=fun e n=>Do e n;have O:∀{b:Addr}{o:Obj}{A:Array DictEntry}{B:Nat},c.heap.get? b=some o->o.data=.dict A B->H b=none:=fun {b o A B} e d=>by
   cases q:H b with
   | none=>rfl
   | some u=>have Q:b=a:=hA b (by rw[q];simp);subst Q;rw[I] at e;cases e;have d':Data.seq vs.toArray _=Data.dict A B:=d;cases d'
  have j:∀{b:Addr}{m:Str->Option Value},c.heap.Ns b m->(ic c.heap H).Ns b m:=fun {b m} ⟨o,A,B,e,d,r⟩=>⟨o,A,B,f e (O e d),d,r⟩
  have C:K.In (ic c.heap H):=fun b o e=>f (U b o e) (by
   cases q:H b with
   | none=>rfl
   | some u=>
    have Q:b=a:=hA b (by rw[q];simp);subst Q;rw[hK (by rw[q];simp)] at e;cases e)
  have hM:Mod K mg (ic c.heap H):=⟨C,j p,⟨J,j g,M⟩,let⟨mc,h1,h2⟩:=t;⟨mc,j h1,h2⟩⟩
  have e0:ij P w K mg (ic c.heap H) callerA [] c H:=⟨rfl,hM,fun b o e=>Dp e,Nat.le_of_eq (Dn _ _),trivial,fun b g=>absurd (show b∈([]:List Addr) from g) (by simp),G,.of_eq hg⟩
  refine codeAny_mono ((F _ C (j p)).run callerA [] c H ⟨[.ref a],[]⟩ [.ref a] [.ref a] _ _ hr e0 (l c (.ref a)) (.cons rfl .nil) (hsp H hO hS)) fun r i h=>?_;cases r with
  | error e=>exact(N H e i h).elim
  | ok fl=>
   cases fl with
   | next=>exact False.elim h
   | brk=>exact False.elim h
   | cont=>exact False.elim h
   | ret u=>
    obtain⟨v,H',os,bare,un,D,r',q⟩:=h;have q':v=.bl true:=q;subst q';obtain rfl:u=Value.bool true:=r';refine⟨rfl,OldK.of_keep fun b o e=>?_,os,bare⟩;cases q:H b with
    | none=>exact un.keep b o e q (by intro z;exact absurd (show b∈([]:List Addr) from z) (by simp)) (by simp)
    | some u=>
     rcases hO b with z | ⟨ob,xs,z⟩
     ·rw[q] at z;cases z
     ·have z2:=un.frzs b ob _ z;obtain⟨e1,_⟩:=G b _ z;obtain⟨e2,_⟩:=D b _ z2;rw[e] at e1;cases e1;exact e2
 cases R:K.lookup a with
 | some o=>have e:=U a o R;rw[I] at e;cases e;refine core (fun _=>none) (fun _=>.inl rfl) (.inr ⟨_,vs.toArray,_,R,rfl,rfl,rfl,by rw[List.size_toArray,y];exact Y,by simpa using Z⟩) (fun b u z=>by have z':(none:Option HO)=some u:=z;cases z') (fun b z=>absurd rfl z) fun z=>absurd rfl z
 | none=>
  refine core (fun b=>if b=a then some (.frz { cls:=.type "list",data:=.seq vs.toArray } (.lst (E.map V.int))) else none) (fun b=>?_) (.inl (.inr ⟨{ cls:=.type "list",data:=.seq vs.toArray },if_pos rfl⟩)) (fun b u z=>?_) (fun b z=>?_) fun _=>R
  ·by_cases g:b=a
   ·exact .inr ⟨_,_,if_pos g⟩
   ·exact .inl (if_neg g)
  ·by_cases g:b=a
   ·have z':=(if_pos g).symm.trans z;cases z';subst g;exact⟨I,by rw[List.length_map];exact Y,vs,_,Z,I⟩
   ·have z':=(if_neg g).symm.trans z;cases z'
  ·by_cases g:b=a
   ·exact g
   ·exact absurd (if_neg g) z
theorem walk_of{l:PySem.W.OpenLaw}{n k:Nat}{q:Program}{i:List Str}{E:(Str->Option Value)->Heap->Prop}{C:World->Heap->Prop}{d:DefRec}{K:Params->Frag}{CX:World->gE}{sp:World->Sp}{x:Str}
  (I:l.most=some n) (t:n<=sizeLine) (y:d.params.defaults=[]) (J:bW k callerA)
  (L:∀(w:World) (h:Heap),C w h->(K w.params).In h)
  (F:∀(w:World) (mg:Str->Option Value) (p:Addr) (h:Heap),(K w.params).In h->h.Ns mainGlobals mg->mg d.name=some (.ref p)->
   ∃fd:FuncData,(∀(s:Shared) (u:Value),BindsTo s fd ⟨[u],[]⟩ [(x,u)])/\
    ∀base:Heap,(K w.params).In base->base.Ns mainGlobals mg->aA l.prog w (K w.params) mg base (CX w) k p fd [x] (sp w))
  (hsp:∀(w:World) (H:Hp) (a:Addr) (r:List Int),r.length<=n->sR H->cU (K w.params) H a (r.map V.int)->sp w [.ref a] H (fun v _=>v=.bl true) fun _ _ _=>False)
  (z:∀(w:World) (H:Hp) (s:Shared) (e:Value) (A:Shared),CX w [] H s (fun _ _ _=>False) e A->False) :
  PySem.W.WalkO q i E C l.row.toRowW d [] (fun f vs=>PySem.call f vs):=by
 refine Att.attach_call I y fun w s₀ M mg Y p o pm Z N a vs r G O ho hd Q B m j c R=>?_;have D:=L w _ O;obtain⟨fd,hb,S⟩:=F w mg p _ D G.T.g B;exact Gi D G.T.g G.T.b G.T.builtins G.T.nolimit R m j (Nat.le_trans c t) J S hb (fun H U X=>hsp w H a r c U X) fun H e A=>z w H M e A
noncomputable def kl(s:Stmt):Arguments:=match s with
 | .FunctionDef _ a _ _ _ _ _ _ _ _=>a
 | _=>{ posonlyargs:=[],args:=[],vararg:=none,kwonlyargs:=[],kw_defaults:=[],kwarg:=none,defaults:=[] }
noncomputable def jt(s:Stmt):List Stmt:=match s with
 | .FunctionDef _ _ b _ _ _ _ _ _ _=>b
 | _=>[]
noncomputable def bE(s:Stmt):Scope:=match s with
 | .FunctionDef _ _ _ _ _ _ a _ _ _=>a
 | _=>{ kind:=.function,names:=[],isGenerator:=false,isCoroutine:=false }
structure mY (K:Frag) (x qual:Str) (st:Stmt) (f:Addr) (fd:FuncData):Prop where
 ex:∃(oc:Value) (od:Option Addr) (kV doc pm:Value) (an:Option Addr) (cdv ct:Value) (osl:Array (Option Value)),
  fd=fnOf x qual (kl st) (jt st) (bE st) .none kV doc pm an cdv ct/\K.lookup f=some ⟨oc,od,.func fd,osl⟩/\codeIn K cdv qual=true
 kp:PySem.W.keepIn K (.ref f)=true
section
variable{P:Program}{w:World}{K:Frag}{mg:Str->Option Value}{base:Heap}
theorem mY.binds{x a:Str}{st:Stmt}{f:Addr}{fd:FuncData}{d:List Str}(F:mY K x a st f fd)
  (h:∀(kV b pm:Value) (e:Option Addr) (c i:Value) (g:List Value),g.length=d.length->bindArgs (fnOf x a (kl st) (jt st) (bE st) .none kV b pm e c i) ⟨g,[]⟩=pure (d.zip g)):kg K fd d []:=by
 obtain⟨l,m,kV,b,pm,e,c,i,j,rfl,lk,k⟩:=F.ex;exact .all (h kV b pm e c i)
theorem bT{x a:Str}{st:Stmt}{f:Addr}{i:Value}{j g:Option Addr}{e:Array (Option Value)}{kV d pm b h:Value}(l:K.lookup f=some ⟨i,j,.func (fnOf x a (kl st) (jt st) (bE st) .none kV d pm g b h),e⟩)
  (c:codeIn K b a=true) (k:PySem.W.keepIn K (.ref f)=true):mY K x a st f (fnOf x a (kl st) (jt st) (bE st) .none kV d pm g b h):=⟨⟨i,j,kV,d,pm,g,b,h,e,rfl,l,c⟩,k⟩
end
theorem km{A:Around}{k:Nat}(a:bW k A):A.units+1<cLine:=Nat.lt_of_le_of_lt (Nat.add_le_add_left (by decide:1<=64) _) a.units
section
variable{X:Cx}
theorem pv(i:Nat){x:Str}{pos:Pos}(b:X.N[i]? = some x:=by rfl)(c:mR X.env.scope x:=by first | exact Or.inl rfl | exact Or.inr (Or.inl rfl) | exact Or.inr (Or.inr rfl))(hd:(x==("__debug__":Str))=false:=by decide)
  (a:(x==("__classdict__":Str))=false:=by decide):PE X (.Name x pos) (dN i):=Dr b c hd a
end
theorem dO{A B:Prop}(h:B):if false=true then A else B:=by rw[if_neg Bool.false_ne_true];exact h
theorem dP{A B:Prop}(h:A):if true=true then A else B:=by rw[if_pos rfl];exact h
def bX(H a:Hp):Prop:=∀b o,H b=some o->a b=some o
theorem bX.trans{H d e:Hp}(a:bX H d)(b:bX d e):bX H e:=fun c o h=>b c o (a c o h)
theorem bX.free{H a:Hp}(e:bX H a){l:Addr}(h:a l=Option.none):H l=Option.none:=by
 cases q:H l with
 | none=>rfl
 | some o=>rw[e l o q] at h;cases h
theorem bX.seq{K:Frag}{H b:Hp}{a:Addr}{c:List V}(e:bX H b)(h:cU K H a c):cU K b a c:=by
 rcases h with(h | ⟨o,h⟩) | h
 ·exact .inl (.inl (e _ _ h))
 ·exact .inl (.inr ⟨o,e _ _ h⟩)
 ·exact .inr h
end L2
set_option maxHeartbeats 4000000
namespace L2
open PySem PySem.Spec PyProof.Rows
section
variable{κ:Type}[DecidableEq κ]
noncomputable def eM(a:List (κ×V))(k:κ):Option V:=(a.find? fun b=>decide (b.1=k)).map (·.2)
noncomputable def em(a:List (κ×V))(k:κ)(v:V):List (κ×V):=
 if (a.any fun b=>decide (b.1=k))=true then a.map (fun b=>if b.1=k then(b.1,v) else b) else a++[(k,v)]
theorem pD{p:κ×V}{r:List (κ×V)}{k:κ}(e:p.1=k):eM (p::r) k=some p.2:=by simp[eM,List.find?_cons,e]
theorem pE{p:κ×V}{r:List (κ×V)}{k:κ}(e:¬ p.1=k):eM (p::r) k=eM r k:=by simp[eM,List.find?_cons,e]
theorem pF(k:κ):∀a:List (κ×V),(a.any fun b=>decide (b.1=k))=(eM a k).isSome
 | []=>rfl
 | p::r=>by
  rw[List.any_cons]
  by_cases e:p.1=k
  ·simp only[pD e,decide_eq_true e,Bool.true_or,Option.isSome_some]
  ·rw[pE e,decide_eq_false e,Bool.false_or];exact pF k r
theorem xM(a:List (κ×V))(k:κ)(v:V):(em a k v).length<=a.length+1:=by
 unfold em;split
 ·rw[List.length_map];omega
 ·rw[List.length_append,List.length_cons,List.length_nil];omega
theorem Gj{a:List (κ×V)}{k:κ}(v:V)(h:eM a k=none):em a k v=a++[(k,v)]:=by unfold em;rw[pF,h];exact if_neg (by decide)
theorem hZ.isSome_eq{o:Option V}{u:Option Value}(r:hZ o u):o.isSome=u.isSome:=by
 cases o with
 | none=>cases u with
  | none=>rfl
  | some _=>exact(show False from r).elim
 | some _=>cases u with
  | none=>exact(show False from r).elim
  | some _=>rfl
theorem hZ.getD{o:Option V}{u:Option Value}{d:V}{a:Value}(r:hZ o u)(rd:bd d a):bd (o.getD d) (u.getD a):=by
 cases o with
 | none=>cases u with
  | none=>exact rd
  | some _=>exact(show False from r).elim
 | some _=>cases u with
  | none=>exact(show False from r).elim
  | some _=>exact r
theorem KV.val{a:List (κ×V)}{vs:List (κ×Value)}(r:KV a vs)(k:κ):hZ (eM a k) (valueAt vs k):=by
 unfold KV at r
 induction r with
 | nil=>exact True.intro
 | @cons p q i c h t g=>
  obtain⟨f,h2⟩:=h
  by_cases e:p.1=k
  ·have d:q.1=k:=f.symm.trans e;have b:valueAt (q::c) k=some q.2:=by simp[valueAt,List.find?_cons,d]
   rw[pD e,b];exact h2
  ·have d:¬ q.1=k:=fun z=>e (f.trans z);have b:valueAt (q::c) k=valueAt c k:=by simp[valueAt,List.find?_cons,d]
   rw[pE e,b];exact g
theorem KV.any{a:List (κ×V)}{vs:List (κ×Value)}(r:KV a vs)(k:κ):(a.any fun b=>decide (b.1=k))=vs.any fun b=>decide (b.1=k):=by
 unfold KV at r
 induction r with
 | nil=>rfl
 | cons h t c=>rw[List.any_cons,List.any_cons,c,h.1]
theorem KV.repl{b:List (κ×V)}{vs:List (κ×Value)}(r:KV b vs)(k:κ){y:V}{u:Value}(d:bd y u) :
  KV (b.map fun a=>if a.1=k then(a.1,y) else a) (vs.map fun a=>if a.1=k then(a.1,u) else a):=by
 unfold KV at r ⊢
 induction r with
 | nil=>exact .nil
 | @cons p q g i h t f=>
  rw[List.map_cons,List.map_cons];refine .cons ?_ f;obtain⟨c,h2⟩:=h
  by_cases e:p.1=k
  ·rw[if_pos e,if_pos (c.symm.trans e)];exact⟨c,d⟩
  ·rw[if_neg e,if_neg (fun z=>e (c.trans z))];exact⟨c,h2⟩
theorem KV.put{a:List (κ×V)}{vs:List (κ×Value)}(r:KV a vs)(k:κ){y:V}{u:Value}(b:bd y u):KV (em a k y) (stored vs k u):=by
 unfold em stored;rw[r.any k]
 by_cases e:(vs.any fun c=>decide (c.1=k))=true
 ·rw[if_pos e,if_pos e];exact r.repl k b
 ·rw[if_neg e,if_neg e];exact Paired.snoc r ⟨rfl,b⟩
theorem KV.length{a:List (κ×V)}{vs:List (κ×Value)}(r:KV a vs):a.length=vs.length:=Paired.length r
end
theorem sT{P:Program}{w:World}{k:aM}{u:Value}(r:bd (kV k) u):(eJ P w).is k u=true:=by
 cases k with
 | inl i=>obtain⟨t,e⟩:=(show ∃t,u=Value.int i t from r);subst e;exact Dk P w i t
 | inr x=>obtain⟨t,e⟩:=(show ∃t,u=Value.str x t from r);subst e;exact Dl P w x t
theorem xN{P:Program}{w:World}:∀{a:List aM}{b:List Value},bi (a.map kV) b->ItemsAre (eJ P w) a b
 | [],_,r=>by rw[List.map_nil] at r;cases r;exact .nil
 | k::a,_,r=>by
  rw[List.map_cons] at r;cases r with
  | cons h t=>exact .cons (sT h) (xN t)
noncomputable abbrev KT(H:Hp):List (List aM×V)->List (List aM×Addr×Value)->Prop:=Paired fun p q=>p.1=q.1/\H q.2.1=some (.tup (p.1.map kV))/\bd p.2 q.2.2
theorem KT.val{H:Hp}{a:List (List aM×V)}{f:List (List aM×Addr×Value)}(r:KT H a f)(k:List aM):hZ (eM a k) ((atKey f k).map (·.2)):=by
 induction r with
 | nil=>exact True.intro
 | @cons p q j c h t i=>
  obtain⟨g,_,h2⟩:=h
  by_cases e:p.1=k
  ·have d:q.1=k:=g.symm.trans e;have b:atKey (q::c) k=some q.2:=by simp[atKey,List.find?_cons,d]
   rw[pD e,b];exact h2
  ·have d:¬ q.1=k:=fun z=>e (g.trans z);have b:atKey (q::c) k=atKey c k:=by simp[atKey,List.find?_cons,d]
   rw[pE e,b];exact i
theorem KT.repl{H:Hp}{a:List (List aM×V)}{d:List (List aM×Addr×Value)}(r:KT H a d)(k:List aM){y:V}{u:Value}(f:bd y u) :
  KT H (a.map fun c=>if c.1=k then(c.1,y) else c) (d.map (putAt k u)):=by
 induction r with
 | nil=>exact .nil
 | @cons p q i j h t g=>
  rw[List.map_cons,List.map_cons];refine .cons ?_ g;obtain⟨b,h2,h3⟩:=h;unfold putAt
  by_cases e:p.1=k
  ·rw[if_pos e,if_pos (b.symm.trans e)];exact⟨b,h2,f⟩
  ·rw[if_neg e,if_neg (fun z=>e (b.trans z))];exact⟨b,h2,h3⟩
theorem KT.put{H:Hp}{a:List (List aM×V)}{c:List (List aM×Addr×Value)}(r:KT H a c)(k:List aM){b:Addr}{y:V}{u:Value}(g:H b=some (.tup (k.map kV)))(d:bd y u) :
  KT H (em a k y) (storedH c k b u):=by
 have e:(a.any fun f=>decide (f.1=k))=(atKey c k).isSome:=by rw[pF,(r.val k).isSome_eq,Option.isSome_map]
 unfold em storedH;rw[e]
 by_cases q:(atKey c k).isSome=true
 ·rw[if_pos q,if_pos q];exact r.repl k d
 ·rw[if_neg q,if_neg q];exact Paired.snoc r ⟨rfl,g,d⟩
theorem KT.keeps{H c:Hp}{a:List (List aM×V)}{d:List (List aM×Addr×Value)}(r:KT H a d)(f:∀b e,H b=some (.tup e)->c b=some (.tup e)):KT c a d:=
 Paired.mapP r fun _ _ z=>⟨z.1,f _ _ z.2.1,z.2.2⟩
section
variable{P:Program}{w:World}{H:Hp}{h:Heap}{a:Addr}
theorem xO{u:HO}(ok:cg P w H h)(e:Rd H a u):cz P w H h a u:=e.ok ok
theorem sU{b:List (aM×V)}(ok:cg P w H h)(e:Rd H a (.dK b)):b.length<=sizeLine/\(a==sysModules)=false/\∃vs,KV b vs/\h.DictOf (eJ P w) a vs:=
 show cz P w H h a (.dK b) from xO ok e
theorem Gk{b:List (aM×V)}(ok:cg P w H h)(e:H a=some (.dK b)):b.length<=sizeLine/\(a==sysModules)=false/\∃vs,KV b vs/\h.DictOf (eJ P w) a vs:=sU ok (.inl e)
theorem sV{b:List aM}(ok:cg P w H h)(e:H a=some (.tup (b.map kV))):(tupleKind (eJ P w)).is h b a:=by
 obtain⟨_,c,r,o,h1,h2,n,h3⟩:=(show cz P w H h a (.tup (b.map kV)) from ok a _ e)
 exact⟨o,c.toArray,n,h1,h2,h3,by simpa using xN r⟩
theorem sW{b:List (List aM×V)}(ok:cg P w H h)(e:Rd H a (.dT b)):b.length<=sizeLine/\(a==sysModules)=false/\
  ∃d,KT H b d/\h.DictOfH (tupleKind (eJ P w)) a d:=by
 obtain⟨z,y,d,r,o,g,i,h1,h2,h3,j,k⟩:=(show cz P w H h a (.dT b) from xO ok e)
 refine⟨z,y,d,r,o,g,i,h1,h2,h3,j,fun x c=>?_,k⟩;have all:∀{l:List (List aM×V)}{m:List (List aM×Addr×Value)},KT H l m->∀x∈m,(tupleKind (eJ P w)).is h x.1 x.2.1:=by
  intro l m q
  induction q with
  | nil=>intro x c;exact nomatch c
  | @cons p q s u f t n=>
   intro x c;rcases List.mem_cons.mp c with e | c
   ·subst e;exact sV ok (by rw[<-f.1];exact f.2.1)
   ·exact n x c
 exact all r x c
theorem Gm{b:List (List aM×V)}(ok:cg P w H h)(e:H a=some (.dT b)):b.length<=sizeLine/\(a==sysModules)=false/\
  ∃c,KT H b c/\h.DictOfH (tupleKind (eJ P w)) a c:=sW ok (.inl e)
end
def ju(H:Hp)(a:Addr)(y:V)(r:Option V):Prop:=
 (∃c k,Rd H a (.dK c)/\y=kV k/\r=eM c k)\/∃c k b,Rd H a (.dT c)/\y=.ref b/\H b=some (.tup (k.map kV))/\r=eM c k
def jv(H:Hp)(a:Addr)(y v:V)(d:Hp):Prop:=
 (∃c k,H a=some (.dK c)/\y=kV k/\c.length<sizeLine/\d = bp H a (.dK (em c k v)))\/
 ∃c k b,H a=some (.dT c)/\y=.ref b/\H b=some (.tup (k.map kV))/\c.length<sizeLine/\d = bp H a (.dT (em c k v))
theorem ju.k{H:Hp}{a:Addr}{b:List (aM×V)}{k:aM}(e:H a=some (.dK b)):ju H a (kV k) (eM b k):=.inl ⟨b,k,.inl e,rfl,rfl⟩
theorem ju.t{H:Hp}{a b:Addr}{c:List (List aM×V)}{k:List aM}(e:H a=some (.dT c))(d:H b=some (.tup (k.map kV))):ju H a (.ref b) (eM c k):=.inr ⟨c,k,b,.inl e,rfl,d,rfl⟩
theorem jv.k{H:Hp}{a:Addr}{b:List (aM×V)}{k:aM}{v:V}(e:H a=some (.dK b))(c:b.length<sizeLine):jv H a (kV k) v (bp H a (.dK (em b k v))):=.inl ⟨b,k,e,rfl,c,rfl⟩
theorem jv.t{H:Hp}{a b:Addr}{c:List (List aM×V)}{k:List aM}{v:V}(e:H a=some (.dT c))(d:H b=some (.tup (k.map kV)))(f:c.length<sizeLine) :
  jv H a (.ref b) v (bp H a (.dT (em c k v))):=.inr ⟨c,k,b,e,rfl,d,f,rfl⟩
section
variable{X:Cx}{pins:List (Addr×Obj)}{Y:St}{H:Hp}{s:Shared}{a:Addr}{y v:V}{u r:Value}{o:Option V}{A:Around}{E:Value->Shared->Prop}
theorem Inv.big(I:Inv X pins Y H s):sysModules<s.heap.objs.size:=by have h:mainGlobals<s.heap.objs.size:=(I.mod.glob.keeps I.bk).lt;exact Nat.lt_trans (by decide) h
theorem xP{c:Heap}{t':Nat}{d:HO}(I:Inv X pins Y H s)(f:mQ (H a))(g:Heap.SameBut a s.heap c)(h:∃q,c.get? a=some q)(new:cz X.prog X.w (bp H a d) c a d) :
  Inv X pins Y (bp H a d) { s with heap:=c,toks:=t' }:=
 I.write (x:=a) (e:=a) f (.inl rfl) (fun b q i z=>(g.2 b i).trans z) h new
theorem Gn{P:Program}{w:World}{d:Hp}{c:Heap}{b:List (aM×V)}{vs:List (aM×Value)}(z:b.length<=sizeLine)(hd:(a==sysModules)=false)(rel:KV b vs)(e:c.DictOf (eJ P w) a vs) :
  cz P w d c a (.dK b):=⟨z,hd,vs,rel,e⟩
theorem Go{B:Hp}{Q:Unit->Shared->Prop}(N:A.units+1<cLine)(I:Inv X pins Y H s)(g:jv H a y v B)(C:bd y u)(D:bd v r)(h:∀G,Inv X pins Y B G->Q () G) :
  wpAny (model X.prog X.w) A (setItem (.ref a) u r) Q E s:=by
 rcases g with⟨d,k,e,j,l,m⟩ | ⟨d,k,b,e,j,J,l,m⟩
 ·subst j m;obtain⟨z,hd,vs,rel,n⟩:=Gk I.hok e;have p:vs.length<=sizeLine:=by rw[<-rel.length];exact z
  have t:(em d k v).length<=sizeLine:=by have:=xM d k v;omega
  refine wpAny_setItem_pairs (hsz:=p) (sT C) n fun L f x=>h _ ?_;have O:∃q,L.get? a=some q:=let⟨q,_,_,i,_⟩:=f;⟨q,i⟩;exact xP I (by rw[e];exact True.intro) x O (Gn t hd (rel.put k D) f)
 ·subst j m;cases(show u=Value.ref b from C);obtain⟨z,hd,R,rel,n⟩:=Gm I.hok e;have p:R.length<=sizeLine:=by rw[<-Paired.length rel];exact z
  have t:(em d k v).length<=sizeLine:=by have:=xM d k v;omega
  refine wpAny_setItem_heap (hsz:=p) (tupleKind_room_in1 N) (sV I.hok J) n fun L f x=>h _ ?_;obtain⟨q,S,T,i,h2,h3,U,_,Z⟩:=f;refine xP I (by rw[e];exact True.intro) x ⟨q,i⟩ ⟨t,hd,_,(rel.put k J D).keeps fun c ys M=>?_,q,S,T,i,h2,h3,U,Z⟩;rw[ck (Dm M e (fun z=>nomatch z))];exact M
end
noncomputable def Gp(c h d:TE):TS:=fun D Y H=>d Y H fun v e=>c Y e fun x f=>h Y f fun y g=>∃a b,x=.ref a/\jv g a y v b/\D.nx Y b
section
variable{X:Cx}{o i e value:Expr}{pos pos' tpos:Pos}{td ty tv:TE}
theorem Gq(c:X.A.units+1<cLine)(d:PE X o td)(f:PE X i ty)(j:PE X value tv)(k:swapsWith value (some (.Subscript o i pos')) pos.line X.env=pure false) :
  PS X (.Assign [.Subscript o i pos'] value pos) (Gp td ty tv):=by
 intro b s Y H D I h;refine wpAny_Assign_Subscript (aP (j b s Y H _ I h) fun r l ⟨v,m,n,p,q⟩=>aP (d b l Y m _ n q) fun u t ⟨x,w,z,B,C⟩=>aP (f b t Y w _ z C) fun N O ⟨y,Q,E,G,a,J,ex,g,L⟩=>?_) k;subst ex;obtain rfl:u=Value.ref a:=B;exact Go c E g G p fun R M=>⟨Y,J,M,L⟩
end
theorem Gr{P:Program}{w:World}{H:Hp}(h:Heap)(a:sysModules<h.objs.size):cz P w H (h.push { cls:=.type "dict",data:=.dict #[] }) h.objs.size (.dK []):=
 ⟨Nat.zero_le _,beq_eq_false_iff_ne.mpr (Ne.symm (Nat.ne_of_lt a)),[],.nil,Heap.DictOf.new h⟩
theorem Gs{P:Program}{w:World}{H:Hp}(h:Heap)(a:sysModules<h.objs.size):cz P w H (h.push { cls:=.type "dict",data:=.dict #[] }) h.objs.size (.dT []):=
 ⟨Nat.zero_le _,beq_eq_false_iff_ne.mpr (Ne.symm (Nat.ne_of_lt a)),[],.nil,_,#[],0,Heap.get?_push_size _ rfl,⟨rfl,rfl,rfl⟩,rfl,rfl,List.nodup_nil⟩
noncomputable def Gu:TE:=fun _ H Q=>∀p,H p=none->Q (.ref p) (bp H p (.dK []))
noncomputable def Gv:TE:=fun _ H Q=>∀p,H p=none->Q (.ref p) (bp H p (.dT []))
section
variable{X:Cx}{pos:Pos}
theorem Gw:PE X (.Dict [] [] pos) Gu:=fun b s Y H Q I h=>wpAny_Dict_empty ⟨.ref s.heap.objs.size,_,I.laid (a:=s.heap.objs.size) (o:=.dK []) (t':=s.toks) (fun _ _ q=>aS _ q) (aZ _) (Gr s.heap I.big),rfl,h _ (I.hok.fresh (aZ _))⟩
theorem Gx:PE X (.Dict [] [] pos) Gv:=fun b s Y H Q I h=>wpAny_Dict_empty ⟨.ref s.heap.objs.size,_,I.laid (a:=s.heap.objs.size) (o:=.dT []) (t':=s.toks) (fun _ _ q=>aS _ q) (aZ _) (Gs s.heap I.big),rfl,h _ (I.hok.fresh (aZ _))⟩
end
structure M2 (X:Cx) (o:Expr) (m:Str) (apos:Pos) (e f:Expr) (cpos:Pos):Prop where
 base:attributeBase o m X.env (eval o X.env)=eval o X.env
 few:((backTo cpos (starEach [e,f] X.env)).all (fun x=>!x.1)&&(backToKw cpos (keywordEach [] X.env)).all (fun x=>x.1.isSome)
  && decide (([e,f]:List Expr).length+([]:List Keyword).length+(if ([]:List Keyword).isEmpty then 0 else 1)<30))=true
 line:(apos.endLine==cpos.line)=true
 trees:backTo cpos (starEach [e,f] X.env)=[(false,eval e X.env),(false,eval f X.env)]
def sX(H:Hp)(a:Addr):Prop:=(∃b,Rd H a (.dK b))\/∃b,Rd H a (.dT b)
theorem Gy{X:Cx}{f:List (Addr×Obj)}{Y:St}{H:Hp}{s:Shared}{a:Addr}(I:Inv X f Y H s)(d:sX H a) :
  s.TypeIs (.ref a) "dict"/\(∀b,Value.ref a=.ref b->∃c,s.heap.get? b=some c/\c.dict=none)/\(a==sysModules)=false:=by
 rcases d with⟨h,e⟩ | ⟨h,e⟩
 ·obtain⟨_,hd,vs,_,g⟩:=sU I.hok e;refine⟨g.typeIs,fun b q=>?_,hd⟩;cases q;obtain⟨c,_,_,h1,h2,_⟩:=g;exact⟨c,h1,h2.2.1⟩
 ·obtain⟨_,hd,i,_,g⟩:=sW I.hok e;refine⟨g.typeIs,fun b q=>?_,hd⟩;cases q;obtain⟨c,_,_,h1,h2,_⟩:=g;exact⟨c,h1,h2.2.1⟩
section
variable{X:Cx}{pins:List (Addr×Obj)}{Y:St}{H:Hp}{s:Shared}{a:Addr}{y d:V}{u r:Value}{o:Option V}{A:Around}{E:Value->Shared->Prop}
theorem Gz{Q:Value->Shared->Prop}(p:A.units+1<cLine)(I:Inv X pins Y H s)(g:ju H a y o)(j:bd y u)(rd:bd d r)(h:∀m n,Inv X pins Y H n->bd (o.getD d) m->Q m n) :
  wpAny (model X.prog X.w) A (call (.builtin "dict.get") [.ref a,u,r]) Q E s:=by
 rcases g with⟨f,k,e,i,l⟩ | ⟨f,k,b,e,i,q,l⟩
 ·subst i;obtain⟨z,hd,vs,rel,c⟩:=sU I.hok e;refine call_meetsIn PySem.F.slot_dict_get c.typeIs PySem.F.entry_dict_get (PySem.F.args_dict_get_3 _ _ _) (meets_dict_get_default (eJ X.prog X.w) a (sT j) hd r) ⟨_,c.mapOf,h _ _ (I.tok _) ?_⟩;rw[l];exact(rel.val k).getD rd
 ·subst i;cases(show u=Value.ref b from j);obtain⟨z,hd,t,rel,c⟩:=sW I.hok e;refine call_meetsIn PySem.F.slot_dict_get c.typeIs PySem.F.entry_dict_get (PySem.F.args_dict_get_3 _ _ _) (meetsH_dict_get_default (tupleKind (eJ X.prog X.w)) a b hd r) ⟨tupleKind_room_in1 p,k,t,sV I.hok q,c,h _ _ (I.tok _) ?_⟩;rw[l];exact(rel.val k).getD rd
end
noncomputable def GA(d g e:TE):TE:=fun Y H Q=>d Y H fun x b=>∃a,x=.ref a/\sX b a/\g Y b fun y f=>e Y f fun z c=>∃o,ju c a y o/\Q (o.getD z) c
section
variable{X:Cx}{o e f:Expr}{apos cpos:Pos}{td ty tx:TE}
theorem xQ(j:X.A.units+1<cLine)(k:PE X o td)(l:PE X e ty)(n:PE X f tx)(m:M2 X o "get" apos e f cpos):PE X (.Call (.Attribute o "get" apos) [e,f] [] cpos) (GA td ty tx):=by
 intro b s Y H Q I h;refine wpAny_Call_method m.base m.few m.line PySem.F.plainAttrs_dict PySem.F.slot_dict_get PySem.F.type_dict_get (aP (k b s Y H _ I h) fun u p ⟨x,q,i,r,a,ex,d,t⟩=>?_);subst ex;obtain rfl:u=Value.ref a:=r;obtain⟨v,w,_⟩:=Gy i d;refine⟨v,w,?_⟩;rw[m.trees];refine Calls.callWith_builtin rfl (Calls.evalArgs_plain (Calls.spliced_cons (aP (l b p Y q _ i t) fun R B ⟨y,C,D,E,G⟩=>
  Calls.spliced_cons (aP (n b B Y C _ D G) fun fv S ⟨z,J,L,M,T,g,N⟩=>Calls.spliced_nil ?_))))
 exact Gz j L g E M fun U Z O c=>⟨_,J,O,c,N⟩
end
noncomputable def dg(b:Env):List (Str×NameKind)->List (Str×Addr)->List (Str×Addr)
 | [],a=>a
 | (n,k)::r,a=>if k==.free then dg b r ((n,(b.cells.lookup n).getD 0)::a) else dg b r a
theorem xR(d:Env):∀(b:List (Str×NameKind)) (e:List (Str×Addr)),(∀y∈b,y.2=.free->(d.cells.lookup y.1).isSome=true)->
  (forIn b e fun(x:Str×NameKind) (cs:List (Str×Addr))=>if (x.2==NameKind.free)=true then(do let c <-cellOf d x.1;pure (ForInStep.yield ((x.1,c)::cs))) else(pure (ForInStep.yield cs):Sem (ForInStep (List (Str×Addr)))))=pure (dg d b e)
 | [],e,_=>rfl
 | (n,k)::r,e,h=>by
  have g:=fun a=>xR d r a fun y j=>h y (bq _ j);rw[List.forIn_cons];unfold dg
  by_cases f:(k==NameKind.free)=true
  ·obtain⟨c,i⟩:=Option.isSome_iff_exists.mp (h (n,k) List.mem_cons_self (by simpa using f));simp only[f,if_true];have:cellOf d n=pure c:=by unfold cellOf;rw[i]
   rw[this,i];exact g _
  ·simp only[f];exact g _
theorem xS{a:Scope}{b:Env}(h:∀y∈a.names,y.2=.free->(b.cells.lookup y.1).isSome=true):closureFor a b=pure (dg b a.names []):=by have e:=xR b a.names [] h;unfold closureFor;exact congrArg (fun m=>m >>= pure) e
theorem sY{b:Env}{x:Str}:∀{a:List (Str×NameKind)}{f:List (Str×Addr)}{c:Addr},(∀y∈a,y.2=.free->(b.cells.lookup y.1).isSome=true)->
  (∀c,f.lookup x=some c->b.cells.lookup x=some c)->(dg b a f).lookup x=some c->b.cells.lookup x=some c
 | [],_,_,_,g,h=>g _ h
 | (n,k)::r,f,c,i,g,h=>by
  unfold dg at h
  by_cases j:(k==NameKind.free)=true
  ·rw[if_pos j] at h;refine sY (fun y l=>i y (bq _ l)) (fun o e=>?_) h;rw[List.lookup_cons] at e;cases m:x==n with
   | true=>
    rw[m] at e;have:x=n:=by simpa using m
    subst this;obtain⟨d,hd⟩:=Option.isSome_iff_exists.mp (i (x,k) List.mem_cons_self (by simpa using j));rw[hd] at e ⊢;exact e
   | false=>rw[m] at e;exact g _ e
  ·rw[if_neg j] at h;exact sY (fun y l=>i y (bq _ l)) g h
theorem pG{env:Env}{x:Str}:∀{a:List (Str×NameKind)}{acc:List (Str×Addr)},((x,NameKind.free)∈a\/(acc.lookup x).isSome=true)->((dg env a acc).lookup x).isSome=true
 | [],_,h=>by rcases h with h | h;cases h;exact h
 | (n,k)::r,acc,h=>by
  unfold dg
  by_cases b:(k==NameKind.free)=true
  ·rw[if_pos b];refine pG ?_;rw[List.lookup_cons];cases c:x==n with
   | true=>exact .inr rfl
   | false=>
    rcases h with h | h
    ·rcases List.mem_cons.mp h with e | h
     ·cases e;simp at c
     ·exact .inl h
    ·exact .inr h
  ·rw[if_neg b];refine pG ?_;rcases h with h | h
   ·rcases List.mem_cons.mp h with e | h
    ·cases e;simp at b
    ·exact .inl h
   ·exact .inr h
noncomputable abbrev eN(a:Env):Str×NameKind->Str×NameKind:=fun(n,k)=>if (k==NameKind.free&&a.scope.kind==.function&&a.kindOf n==some .cell) then(n,NameKind.cell) else(n,k)
theorem sZ{env:Env}:∀{a:List (Str×NameKind)}{x:Str}{k:NameKind},a.lookup x=some k->
  (a.map (eN env)).lookup x=some k\/(k=.free/\(a.map (eN env)).lookup x=some .cell)
 | [],_,_,h=>by simp at h
 | (n,k)::r,x,f,h=>by
  have g:=@sZ env r x f;rw[List.map_cons];have e:eN env (n,k)=(n,k)\/(k=.free/\eN env (n,k)=(n,.cell)):=by
   by_cases c:(k==NameKind.free&&env.scope.kind==.function&&env.kindOf n==some .cell)=true
   ·refine .inr ⟨?_,if_pos c⟩;cases k<;>first | rfl | (simp at c)
   ·exact .inl (if_neg c)
  cases b:x==n with
  | true=>
   simp only[List.lookup_cons,b] at h;cases h;rcases e with e | ⟨d,e⟩
   ·rw[e];exact .inl (by simp only[List.lookup_cons,b])
   ·rw[e];exact .inr ⟨d,by simp only[List.lookup_cons,b]⟩
  | false=>simp only[List.lookup_cons,b] at h;rcases e with e | ⟨d,e⟩<;>(rw[e];simp only[List.lookup_cons,b];exact g h)
theorem xT{env:Env}:∀{a:List (Str×NameKind)}{x:Str},a.lookup x=none->(a.map (eN env)).lookup x=none
 | [],_,_=>rfl
 | (n,k)::r,x,h=>by
  have d:=@xT env r x;rw[List.map_cons];have e:eN env (n,k)=(n,k)\/eN env (n,k)=(n,.cell):=by
   by_cases c:(k==NameKind.free&&env.scope.kind==.function&&env.kindOf n==some .cell)=true
   ·exact .inr (if_pos c)
   ·exact .inl (if_neg c)
  cases b:x==n with
  | true=>simp only[List.lookup_cons,b] at h;cases h
  | false=>simp only[List.lookup_cons,b] at h;rcases e with e | e<;>(rw[e];simp only[List.lookup_cons,b];exact d h)
section
variable{prog:Program}{w:World}{A:Around}{E:Value->Shared->Prop}{R:Result->Shared->Prop}{s:Shared}
theorem GB{e target iter:Expr}{f:List Expr}{d:Scope}{pos:Pos}{it g:Value}{a:Env}(I:Nat->Shared->Prop)
  (turn:∀n s,I n s->wpAny (model prog w) A (pyNext it) (fun r j=>match r with
   | none=>R (.ok .next) j
   | some v=>wpAny (model prog w) A (letOwnedTupleGo target it v) (fun _ i=>wpAny (model prog w) A (assign target a v) (fun _ o=>
     wpAny (model prog w) A (forIn f true fun c r=>if r=true then do let ok <-isTrue c a (eval c a);pure (ForInStep.yield ok) else pure (ForInStep.yield r)) (fun ok k=>
      if ok=true then wpAny (model prog w) A (eval e a) (fun x p=>
       wpAny (model prog w) A (call (.builtin "list.append") [g,x]) (fun _ q=>∃m,m<n/\I m q) (fun _ _=>False) p) (fun _ _=>False) k
      else ∃m,m<n/\I m k) (fun _ _=>False) o) (fun _ _=>False) i) (fun _ _=>False) j) (fun _ _=>False) s)
  (n:Nat) (h:I n s) :
  codeAny (model prog w) A (.compLoop (.ListComp e [⟨target,iter,f,0⟩] d pos) 0 it g a) R s:=by
 refine codeAny_loop rfl I (fun n s C=>?_) n h;show wpAny _ A ((compTurn (.ListComp e [⟨target,iter,f,0⟩] d pos) 0 it g a).onRaise (fun x=>do noteFrame x a;theTreesLotGoes x)) _ _ s;refine wpAny_noted (wpAny_noRaise ?_);rw[compTurn_list];refine aa (wpAny_standAt (aa (wpAny_mono (turn n s C) (fun r j t=>?_) fun _ _ b=>b)));cases r with
 | none=>exact av t
 | some v=>
  refine aa (wpAny_mono t (fun _ i l=>?_) fun _ _ b=>b);refine aa (wpAny_mono l (fun _ o y=>aa (wpAny_mono y (fun ok k u=>?_) fun _ _ b=>b)) fun _ _ b=>b);cases ok with
  | false=>exact av ⟨rfl,u⟩
  | true=>exact aa (aa (wpAny_mono u (fun x p z=>aa (wpAny_mono z (fun _ q B=>av (av ⟨rfl,B⟩)) fun _ _ b=>b)) fun _ _ b=>b))
end
theorem pH{x:Str}:∀(a:List (Str×NameKind)) (n:Nat) (b:List (Str×Addr)),((x,NameKind.cell)∉a)->(cellsFrom n a b).lookup x=b.lookup x
 | [],_,_,_=>rfl
 | (y,k)::r,n,b,h=>by
  unfold cellsFrom;have c:(x,NameKind.cell)∉r:=fun z=>h (bq _ z);split
  ·rename_i d;rw[pH r _ _ c,List.lookup_cons];have:(x==y)=false:=by
    cases e:x==y with
    | false=>rfl
    | true=>exact absurd (by rw[eq_of_beq e,<-eq_of_beq d];exact List.mem_cons_self) h
   rw[this]
  ·exact pH r _ _ c
theorem tf{x:Str}{c:Addr}:∀(a:List (Str×NameKind)) (h:Heap) (b:List (Str×Addr)),(cellsFrom h.objs.size a b).lookup x=some c->b.lookup x=some c\/(h.objs.size<=c/\(x,NameKind.cell)∈a/\(pushCells h a).IsCell c none)
 | [],_,_,e=>.inl e
 | (y,k)::r,h,b,e=>by
  unfold cellsFrom at e;unfold pushCells;split at e
  ·rename_i d;rw[if_pos d];have sz:(h.push { cls:=.type "cell",data:=.cell none }).objs.size=h.objs.size+1:=Heap.size_push ..;rw[<-sz] at e;rcases tf r _ _ e with z | ⟨f,g,i⟩
   ·rw[List.lookup_cons] at z;split at z
    ·rename_i j;cases z;refine .inr ⟨aZ _,?_,⟨_,pushCells_keeps r _ _ _ (Heap.get?_push_size _ rfl),rfl⟩⟩;rw[eq_of_beq j,<-eq_of_beq d];exact List.mem_cons_self
    ·exact .inl z
   ·exact .inr ⟨by rw[sz] at f;omega,bq _ g,i⟩
  ·rename_i d;rw[if_neg d];rcases tf r _ _ e with z | ⟨f,g,i⟩
   ·exact .inl z
   ·exact .inr ⟨f,bq _ g,i⟩
theorem tm{x:Str}{c:Addr}:∀(a:List (Str×NameKind)) (n:Nat) (b:List (Str×Addr)),(x,NameKind.cell)∈a->(cellsFrom n a b).lookup x=some c->n<=c
 | (y,k)::r,n,b,f,e=>by
  unfold cellsFrom at e
  by_cases d:(x,NameKind.cell)∈r
  ·split at e
   ·have:=tm r _ _ d e;omega
   ·exact tm r _ _ d e
  ·rcases List.mem_cons.mp f with z | z
   ·cases z;rw[if_pos (by rfl),pH r _ _ d,List.lookup_cons,beq_self_eq_true] at e;cases e;exact aZ _
   ·exact absurd z d
theorem tp{x:Str}:∀(a:List (Str×NameKind)) (n:Nat) (b:List (Str×Addr)),((x,NameKind.cell)∈a\/(b.lookup x).isSome=true)->((cellsFrom n a b).lookup x).isSome=true
 | [],_,_,h=>by rcases h with h | h;cases h;exact h
 | (y,k)::r,n,b,h=>by
  unfold cellsFrom;split
  ·rename_i c;refine tp r _ _ ?_;rcases h with h | h
   ·rcases List.mem_cons.mp h with z | z
    ·cases z;right;rw[List.lookup_cons,beq_self_eq_true];rfl
    ·exact .inl z
   ·right;rw[List.lookup_cons];split
    ·rfl
    ·exact h
  ·rename_i c;refine tp r _ _ ?_;rcases h with h | h
   ·rcases List.mem_cons.mp h with z | z
    ·cases z;exact absurd rfl c
    ·exact .inl z
   ·exact .inr h
theorem tq{x y:Str}{c:Addr}{lo:Nat}:∀(i:List (Str×NameKind)) (n:Nat) (d:List (Str×Addr)),(∀x y c,lo<=c->d.lookup x=some c->d.lookup y=some c->x=y)->(∀x c,d.lookup x=some c->c<n)->lo<=c->(cellsFrom n i d).lookup x=some c->(cellsFrom n i d).lookup y=some c->x=y
 | [],_,_,h,_,l,g,f=>h _ _ _ l g f
 | (z,k)::r,n,d,h,hb,l,g,f=>by
  unfold cellsFrom at g f;split at g
  ·rename_i j;rw[if_pos j] at f;refine tq r (n+1) ((z,n)::d) (fun x y c l g f=>?_) (fun x c e=>?_) l g f
   ·rw[List.lookup_cons] at g f;split at g<;>split at f
    ·rename_i a _ b;rw[eq_of_beq a,eq_of_beq b]
    ·cases g;exact absurd (hb _ _ f) (Nat.lt_irrefl _)
    ·cases f;exact absurd (hb _ _ g) (Nat.lt_irrefl _)
    ·exact h _ _ _ l g f
   ·rw[List.lookup_cons] at e;split at e
    ·cases e;exact Nat.lt_succ_self _
    ·exact Nat.lt_succ_of_lt (hb _ _ e)
  ·rename_i j;rw[if_neg j] at f;exact tq r n d h hb l g f
theorem GC{M:Model}{A:Around}{E:Value->Shared->Prop}{s:Shared}{scope:Scope}{globals:Addr}{cl:List (Str×Addr)}{qual:Str}{a:Env}{Q:Env->Shared->Prop}
  (h:Q { scope,locals:=s.heap.objs.size,globals,cells:=cellsFrom (s.heap.objs.size+1) scope.names cl,qual,func:=none,code:=a.code,frame:=a.frame,builtins:=a.builtins } { s with heap:=pushCells (s.heap.push { cls:=.type "dict",data:=.dict #[] }) scope.names }) :
  wpAny M A (newFunctionEnv scope globals cl [] qual none .none (some a)) Q E s:=by
 simp only[newFunctionEnv,Option.isSome_some,if_true];refine aa (wpAny_alloc ?_);refine aa (wpAny_layCells _ (fun name kind cells=>by cases b:kind==NameKind.cell<;>simp[b]) _ _ _ _ ?_);rw[show({ s with heap:=s.heap.push { cls:=.type "dict",data:=.dict #[] } }:Shared).heap.objs.size=s.heap.objs.size+1 from Heap.size_push ..];exact aa (av (av h))
noncomputable abbrev bY(X:Cx)(scope:Scope)(N':List Str)(C:Addr)(fp:List Addr)(s₂:Shared)(H₂:Hp)(pl:List (Addr×Obj)):Cx where
 prog:=X.prog
 w:=X.w
 K:=X.K
 mg:=X.mg
 base:=X.base
 A:=X.A
 N:=N'
 s₀:=s₂
 H₀:=H₂
 env:=compEnvC scope (cellsFrom (C+1) scope.names (dg X.env scope.names [])) C X.env
 outer:=X.stack
 stack:=X.stack
 ex:=fp
 fn:=fun y=>scope.names.lookup y==some .cell
 calm:=X.calm
 pn:=X.pn++pl
 xe:=fun _ _=>False
structure ai (X:Cx) (scope:Scope) (own capN:List Str) (caps:List Nat):Prop where
 kind:scope.kind=.function
 one:∀y∈scope.names,scope.names.lookup y.1=some y.2
 free:∀y∈scope.names,y.2=.free->X.env.kindOf y.1=some .cell\/X.env.kindOf y.1=some .free
 loc:∀y∈scope.names,y.2=.local->scope.names.lookup y.1=some .local
 caps:caps.map (fun j=>X.N[j]?)=capN.map some
 capf:∀x∈capN,scope.names.lookup x=some .free
noncomputable def eV(own:List Str)(a:List Nat)(Y:St):St:=own.map (fun _=>none)++a.map (fun j=>(Y[j]?).getD none)
section
variable{X:Cx}{scope:Scope}{own capN:List Str}{caps:List Nat}
theorem ai.cells(S:ai X scope own capN caps)(ok:X.Ok):∀y∈scope.names,y.2=.free->(X.env.cells.lookup y.1).isSome=true:=fun y a b=>by obtain⟨c,d⟩:=ok.has y.1 (S.free y a b);rw[d];rfl
theorem ai.cl(S:ai X scope own capN caps)(ok:X.Ok){x:Str}{c:Addr}(h:(dg X.env scope.names []).lookup x=some c):X.env.cells.lookup x=some c:=
 sY (S.cells ok) (fun _ e=>by simp at e) h
theorem GD{f:List (Addr×Obj)}{Y:St}{H₂:Hp}{B:Shared}{L:Heap}{C:Addr}{fp:List Addr}{tk:Nat}{m:Str->Option Value}(S:ai X scope own capN caps)(I:Inv X f Y H₂ B)
  (hf:∀b∈fp,fK X f H₂ b) (M:∀b∈fp,b<B.heap.objs.size) (t:B.heap.objs.size<=C) (O:∀b o,B.heap.get? b=some o->L.get? b=some o) (hn:L.Ns C m) (Q:∀x c,(cellsFrom (C+1) scope.names (dg X.env scope.names [])).lookup x=some c->(dg X.env scope.names []).lookup x=some c\/(C+1<=c/\L.IsCell c none)) :
  Inv (bY X scope (own++capN) C fp B H₂ f) [] (eV own caps Y) H₂ { B with heap:=L,toks:=tk }:=by
 have cl:=fun {x:Str}{c:Addr}=>S.cl (x:=x) (c:=c) I.ok;have lt:∀{x:Str}{c:Addr},X.env.cells.lookup x=some c->c<B.heap.objs.size:=fun e=>by obtain⟨v,q⟩:=I.cell _ _ e;exact q.lt
 have D:∀{x:Str}{c:Addr},X.env.cells.lookup x=some c->C+1<=c->False:=fun e z=>absurd (Nat.lt_of_lt_of_le (lt e) (Nat.le_trans t (Nat.le_of_succ_le z))) (Nat.lt_irrefl _);have a:∀{x:Str}{c:Addr},(cellsFrom (C+1) scope.names (dg X.env scope.names [])).lookup x=some c->X.env.cells.lookup x=some c\/(C+1<=c/\L.IsCell c none):=fun {x c} e=>(Q x c e).imp (fun z=>cl z) fun z=>z;have r:∀x,((relabel scope X.env).names.lookup x=some .cell\/(relabel scope X.env).names.lookup x=some .free)->scope.names.lookup x=some .free\/scope.names.lookup x=some .cell:=fun x H=>by
  cases e:scope.names.lookup x with
  | none=>have z:(relabel scope X.env).names.lookup x=none:=xT (env:=X.env) e;rw[z] at H;rcases H with q | q<;>cases q
  | some k=>
   rcases sZ (env:=X.env) e with z | ⟨z,_⟩
   ·have z':(relabel scope X.env).names.lookup x=some k:=z;rw[z'] at H;rcases H with q | q
    ·cases q;exact .inr rfl
    ·cases q;exact .inl rfl
   ·rw[z];exact .inl rfl
 have stk:∀b,b≠X.env.locals->b∉X.fs->b∉bP X.stack:=fun b J g z=>(List.mem_cons.mp (I.stkSub b z)).elim J g;refine⟨⟨I.ok.mod,S.kind,I.ok.glob,I.ok.blt,t,fun x y c J g=>?inj,fun x H=>?_,fun x c h e=>?cab,I.ok.hd,I.ok.frames,.inl rfl,fun b A=>⟨?_,fun x c h=>?exf⟩,
   I.bs,Nat.le_trans I.ok.bsz I.sz,fun b o e A=>?_,fun b A=>stk b (hf b A).2.1 (hf b A).2.2.1,I.stack,I.stkFree⟩,
  rfl,I.bare,Un.kept O,⟨m,hn,fun i x v J g h3=>?_⟩,fun x c h=>?_,I.hok.fresh t,fun x c h=>?frc,fun p hp=>?_,I.hok.kept O,?_⟩
 case inj=>
  rcases a J with R | ⟨R,_⟩<;>rcases a g with z2 | ⟨z2,_⟩
  ·exact I.ok.inj x y c R z2
  ·exact(D R z2).elim
  ·exact(D z2 R).elim
  ·exact tq (lo:=C+1) scope.names (C+1) (dg X.env scope.names []) (fun x y c l e _=>(D (cl e) l).elim) (fun x c e=>Nat.lt_succ_of_le (Nat.le_trans (Nat.le_of_lt (lt (cl e))) t)) R J g
 case cab=>have e1:=eq_of_beq (show(scope.names.lookup x==some NameKind.cell)=true from h);have:=tm scope.names (C+1) (dg X.env scope.names []) (PySem.mem_of_lookup e1) e;exact Nat.le_trans t (Nat.le_of_succ_le this)
 case exf=>
  rcases a h with z | ⟨z,_⟩
  ·exact(hf b A).2.2.2.2.1 x c z
  ·exact Ne.symm (Nat.ne_of_lt (Nat.lt_of_lt_of_le (M b A) (Nat.le_trans t (Nat.le_of_succ_le z))))
 case frc=>
  rcases a h with z | ⟨z,_⟩
  ·exact I.freeC x c z
  ·exact I.hok.fresh (Nat.le_trans t (Nat.le_of_succ_le z))
 ·refine Option.isSome_iff_exists.mp (tp scope.names (C+1) (dg X.env scope.names []) ?_);rcases r x H with q | q
  ·exact .inr (pG (env:=X.env) (.inl (PySem.mem_of_lookup q)))
  ·exact .inl (PySem.mem_of_lookup q)
 ·exact Nat.ne_of_lt (Nat.lt_of_lt_of_le (M b A) t)
 ·rcases(hf b A).2.2.2.1 with z | z
  ·exact I.ok.noex b o e z
  ·exact absurd (Nat.lt_of_lt_of_le (ba (I.ok.bs b o e).1) z) (Nat.lt_irrefl _)
 ·
  have hi:own.length<=i:=by
   refine Nat.le_of_not_lt fun a1=>?_;unfold eV at g;rw[List.getElem?_append_left (by simpa using a1),List.getElem?_map] at g;cases q:own[i]? with
   | none=>rw[q] at g;cases g
   | some y=>rw[q] at g;cases g
  have T:capN[i - own.length]? = some x:=by
   have:(own++capN)[i]? = some x:=J
   rwa [List.getElem?_append_right hi] at this
  have U:(caps.map (fun j=>(Y[j]?).getD none))[i - own.length]? = some (some v):=by
   unfold eV at g
   rwa [List.getElem?_append_right (by simpa using hi),List.length_map] at g
  rw[List.getElem?_map] at U;obtain⟨j,hj,s⟩:=Option.map_eq_some_iff.mp U;have hX:X.N[j]? = some x:=by have q:=congrArg (fun l=>l[i - own.length]?) S.caps;simp only[List.getElem?_map,hj,T,Option.map_some] at q;exact Option.some.inj q
  have hY:Y[j]? = some (some v):=by
   cases q:Y[j]? with
   | none=>rw[q] at s;cases s
   | some z=>rw[q] at s;simp at s;rw[s]
  have E:=S.capf x (List.mem_of_getElem? T);have w:(x,NameKind.free)∈scope.names:=PySem.mem_of_lookup E;have Z:=S.free _ w rfl;obtain⟨m',a3,hl⟩:=I.loc;obtain⟨u,ru,l⟩:=hl j x v hX hY (Z.elim (fun q=>.inr (.inl q)) fun q=>.inr (.inr q));refine⟨u,ru,.inr ⟨?_,?_⟩⟩
  ·rcases sZ (env:=X.env) E with z | ⟨_,z⟩
   ·exact .inr z
   ·exact .inl z
  ·rcases l with⟨l,_⟩ | ⟨_,c,hc,G⟩
   ·have l':X.env.kindOf x=some .local:=l;rcases Z with q | q<;>(rw[l'] at q;cases q)
   ·obtain⟨c',a0⟩:=Option.isSome_iff_exists.mp (pG (env:=X.env) (acc:=[]) (.inl w));have:=cl a0;rw[hc] at this;cases this;obtain⟨o,ho,hd⟩:=G;have nc:(x,NameKind.cell)∉scope.names:=fun z=>by have:=S.one _ z;rw[E] at this;cases this
    exact⟨c,(pH scope.names (C+1) (dg X.env scope.names []) nc).trans a0,o,O c o ho,hd⟩
 ·rcases a h with z | ⟨_,z⟩
  ·obtain⟨v,o,ho,hd⟩:=I.cell x c z;exact⟨v,o,O c o ho,hd⟩
  ·exact⟨_,z⟩
 ·have a2:p∈X.pn++f:=by simpa using hp
  obtain⟨e,n,ne,nf,d⟩:=I.pin p a2;exact⟨O _ _ e,n,Nat.ne_of_lt (Nat.lt_of_lt_of_le (ba e) t),stk p.1 ne nf,d⟩
 ·unfold eV;have hl:=congrArg List.length S.caps;simp only[List.length_map] at hl;show(own.map (fun _=>(none:Option V))++caps.map (fun j=>(Y[j]?).getD none)).length=(own++capN).length;rw[List.length_append,List.length_append,List.length_map,List.length_map,hl]
end
def kn(X:Cx)(b:List Expr)(t:TT):Prop:=
 ∀(a:List (Addr×Obj)) (s:Shared) (Y:St) (H:Hp) (Q:Bool->Hp->Prop),Inv X a Y H s->t Y H Q->
  wpAny (model X.prog X.w) X.A (forIn b true fun c r=>if r=true then do let ok <-isTrue c X.env (eval c X.env);pure (ForInStep.yield ok) else pure (ForInStep.yield r)) (TP X a Y Q) X.xe s
noncomputable def GG:TT:=fun _ H Q=>Q true H
theorem GI{X:Cx}:kn X [] GG:=fun _ _ _ H _ I h=>wpAny_tests_nil ⟨H,I,h⟩
theorem GJ{X:Cx}{c:Expr}{t:TT}(h:PT X c t):kn X [c] t:=fun a s Y H Q I q=>wpAny_tests_one (h a s Y H Q I q)
noncomputable def mZ(own:List Str)(d:List Nat)(k:TI)(g:TG)(l:TT)(n:TE):TE:=fun Y H Q=>k Y H fun J o=>∃W:Nat->Nat->List V->St->Hp->Prop,(∃m,W 0 m [] (eV own d Y) o)/\∀i m a f H,W i m a f H->
 (J.stop i H/\a.length<=sizeLine/\∀p,H p=none->Q (.ref p) (bp H p (.lst a)))\/
 (J.go i H/\∀x h,J.yld i H x h->g x f h fun e q=>l e q fun b j=>if b=true then n e j fun y r=>a.length<sizeLine/\∃c,c<m/\W (i+1) c (a++[y]) e r else ∃c,c<m/\W (i+1) c a e j)
section
variable{X:Cx}{scope:Scope}{own capN:List Str}{caps:List Nat}{tg iter elt:Expr}{ifs:List Expr}{wi:TI}{g:TG}{tc:TT}{te:TE}{pos:Pos}
theorem xW{f:List (Addr×Obj)}{Y:St}{H:Hp}{s:Shared}{Q:VK}{RR:Value->Addr->Result->Shared->Prop}(S:ai X scope own capN caps)(hc:X.calm=true)(hi:PI X tg iter wi)
  (b9:∀C E s₂ H₂ pl,PG (bY X scope (own++capN) C E s₂ H₂ pl) tg g/\kn (bY X scope (own++capN) C E s₂ H₂ pl) ifs tc/\PE (bY X scope (own++capN) C E s₂ H₂ pl) elt te)
  (I:Inv X f Y H s) (h:mZ own caps wi g tc te Y H Q)
  (c0:∀(D C:Addr) (s':Shared) (L:Hp) (m:Str->Option Value),Inv X f Y L s'->fK X f L C->s'.heap.Ns C m->Q (.ref D) L->RR (.ref D) C (.ok .next) s') :
  wpAny (model X.prog X.w) X.A (eval iter X.env) (fun x s₁=>wpAny (model X.prog X.w) X.A (pyIter x) (fun it s₂=>wpAny (model X.prog X.w) X.A (newList []) (fun b4 s₃=>
   wpAny (model X.prog X.w) X.A (newFunctionEnv scope X.env.globals (dg X.env scope.names []) [] X.env.qual none .none (some X.env)) (fun a8 s₄=>
    codeAny (model X.prog X.w) X.A (.compStart (.ListComp elt [⟨tg,iter,ifs,0⟩] scope pos) 0 it b4 { a8 with scope:=relabel scope X.env }) (RR b4 a8.locals) s₄) X.xe s₃) X.xe s₂) X.xe s₁) X.xe s:=by
 refine aP (hi f s Y H _ I h) fun v s1 h1=>aP h1 fun c7 B h2=>?_;obtain⟨it,E,tn,J,U,e,Z,T,b1,f2,W,⟨m0,w0⟩,b5⟩:=h2;subst e;have a0:∀b∈E,b<B.heap.objs.size:=fun b t=>by obtain⟨o,e,_⟩:=T.obj _ _ b1 b t;exact ba e
 refine wpAny_newObj_type (GC ?_);dsimp only;generalize a4:B.heap.push { cls:=.type "list",dict:=none,data:=.seq ([]:List Value).toArray }=HH;have hC:HH.objs.size=B.heap.objs.size+1:=by rw[<-a4,Heap.size_push]
 have l:B.heap.objs.size<=HH.objs.size:=by rw[hC];exact Nat.le_succ _
 have a5:B.heap.objs.size≠HH.objs.size:=by rw[hC];exact Nat.ne_of_lt (Nat.lt_succ_self _)
 have below:∀b,b<B.heap.objs.size->b≠HH.objs.size:=fun b t=>by rw[hC];exact Nat.ne_of_lt (Nat.lt_succ_of_lt t)
 have b6:(HH.push { cls:=.type "dict",data:=.dict #[] }).objs.size=HH.objs.size+1:=Heap.size_push ..;have G:∀x c,(cellsFrom (HH.objs.size+1) scope.names (dg X.env scope.names [])).lookup x=some c->(dg X.env scope.names []).lookup x=some c\/(HH.objs.size+1<=c/\(pushCells (HH.push { cls:=.type "dict",data:=.dict #[] }) scope.names).IsCell c none):=fun x c e=>by rw[<-b6] at e ⊢;exact(tf scope.names _ _ e).imp (fun z=>z) fun⟨z1,_,z2⟩=>⟨z1,z2⟩
 have a1:(pushCells (HH.push { cls:=.type "dict",data:=.dict #[] }) scope.names).Ns HH.objs.size (fun _=>none):=(Heap.Ns.new HH (.type "dict")).keeps (pushCells_keeps _ _);have old:∀b o,B.heap.get? b=some o->(pushCells (HH.push { cls:=.type "dict",data:=.dict #[] }) scope.names).get? b=some o:=fun b o e=>pushCells_keeps _ _ b o (aS _ (a4▸aS _ e));have a2:(pushCells (HH.push { cls:=.type "dict",data:=.dict #[] }) scope.names).get? B.heap.objs.size=some { cls:=.type "list",dict:=none,data:=.seq ([]:List Value).toArray }:=pushCells_keeps _ _ _ _ (aS _ (a4▸Heap.get?_push_size _ rfl));generalize pushCells (HH.push { cls:=.type "dict",data:=.dict #[] }) scope.names=h₁ at G a1 old a2 ⊢;generalize c1:HH.objs.size=C at a1 a5 l below G ⊢;generalize j:B.heap.objs.size=D at a2 a5 ⊢;clear a4 hC c1 b6 HH;obtain⟨hg,ht,he⟩:=b9 C E B U f;have Ic:Inv (bY X scope (own++capN) C E B U f) [] (eV own caps Y) U { B with heap:=h₁,toks:=B.toks }:=GD S Z f2 a0 (by rw[j];rw[j] at l;exact l) old a1 G;have a6:∀x c,(cellsFrom (C+1) scope.names (dg X.env scope.names [])).lookup x=some c->c≠D:=fun x c e z=>by
  rcases G x c e with e | ⟨e,_⟩
  ·obtain⟨v,q⟩:=Z.cell x c (S.cl Z.ok e);exact absurd q.lt (by rw[z,j];exact Nat.lt_irrefl _)
  ·rw[j] at l;exact absurd (Nat.lt_of_le_of_lt l (Nat.lt_of_lt_of_le (Nat.lt_succ_self C) e)) (by rw[z];exact Nat.lt_irrefl _)
 have a7:D∉bP X.stack:=fun z=>by
  rcases List.mem_cons.mp (Z.stkSub D z) with q | q
  ·exact absurd Z.lt (by rw[<-q,j];exact Nat.lt_irrefl _)
  ·exact Z.nofs (by rw[j];exact aZ _) q
 have a3:∀p∈X.pn++f,p.1≠D:=fun p M z=>absurd (ba (Z.pin p M).1) (by rw[z,j];exact Nat.lt_irrefl _);have a9:∀{Y':St}{L:Hp}{s':Shared}{N:List Value}{k:Nat},Inv (bY X scope (own++capN) C E B U f) [] Y' L s'->s'.heap.get? D=some { cls:=.type "list",data:=.seq N.toArray k }->L D=none->
   Inv (bY X scope (own++capN) C E B U f) [(D,{ cls:=.type "list",data:=.seq N.toArray k })] Y' L s':=fun J e n=>J.pins_of fun p M=>by
  obtain rfl:=List.mem_singleton.mp M;exact⟨e,n,a5,a7,fun v z=>by cases z⟩
 have b2:∀{L:Hp}{o:Obj},(∀b∈E,L b=none)->∀b∈E,fK (bY X scope (own++capN) C E B U f) [(D,o)] L b:=fun hn b t=>by
  obtain⟨f0,f1,c2,f3,f4,f5⟩:=f2 b t;refine⟨hn b t,Nat.ne_of_lt (Nat.lt_of_lt_of_le (a0 b t) (by rw[j];rw[j] at l;exact l)),fun z=>(List.mem_cons.mp (Z.stkSub b z)).elim f1 c2,.inl t,fun x c e=>?cl,fun p M=>?_⟩
  case cl=>
   rcases G x c e with e | ⟨e,_⟩
   ·exact f4 x c (S.cl Z.ok e)
   ·exact Ne.symm (Nat.ne_of_lt (Nat.lt_of_lt_of_le (a0 b t) (Nat.le_trans (by rw[j];rw[j] at l;exact l) (Nat.le_of_succ_le e))))
  rcases List.mem_append.mp M with M | M
  ·exact f5 p M
  ·obtain rfl:=List.mem_singleton.mp M;intro z;have z':D=b:=z;exact absurd (a0 b t) (by rw[<-z',j];exact Nat.lt_irrefl _)
 have b0:codeAny (model X.prog X.w) X.A (.compLoop (.ListComp elt [⟨tg,iter,ifs,0⟩] scope pos) 0 (.ref it) (.ref D) (compEnvC scope (cellsFrom (C+1) scope.names (dg X.env scope.names [])) C X.env)) (RR (.ref D) C) { B with heap:=h₁,toks:=B.toks }:=by
  refine GB (fun n s'=>∃i ys N k Y' L,Inv (bY X scope (own++capN) C E B U f) [(D,{ cls:=.type "list",data:=.seq N.toArray k })] Y' L s'/\tn i s'.heap/\(∀b∈E,L b=none)/\bi ys N/\W i n ys Y' L) ?_ m0
   ⟨0,[],[],0,_,U,a9 Ic a2 (Z.hok.fresh (by rw[j];exact aZ _)),T.keep _ _ _ b1 fun b _ o e=>old b o e,fun b t=>(f2 b t).1,.nil,w0⟩
  rintro n s3 ⟨i,ys,N,k,Y3,H3,I3,b7,b8,r3,w3⟩;rcases b5 i n ys Y3 H3 w3 with⟨stop,hz,qn⟩ | ⟨go,step⟩
  ·refine aP (T.done (bY X scope (own++capN) C E B U f) rfl rfl rfl hc i _ s3 Y3 H3 _ I3 (b2 b8) b7 stop) fun r s4 ⟨hr,O⟩=>?_;subst hr;obtain⟨eD,nD,_⟩:=O.pin (D,_) (bB _ (List.mem_singleton.mpr rfl));have R:H3 D=none:=nD;have I5:Inv X f Y (bp H3 D (.lst ys)) s4:=by
    refine Z.call' (ch:=E) O.os ⟨O.base.keep,O.base.slot,fun b o e n hx=>?_,O.base.there,fun b xs e=>?_,fun b o u e=>?_,fun b ps e=>?_⟩ (fun b u e=>?_) O.bare fun b t=>⟨(f2 b t).2.2.2.1,(f2 b t).2.1,(f2 b t).2.2.2.2.1,(f2 b t).2.2.2.2.2⟩
    ·rw[ck (by intro z;exact absurd (ba e) (by rw[z,j];exact Nat.lt_irrefl _))];exact O.base.free b o e n hx
    ·have q:=O.base.tups b xs e;rw[ck (gd q R)];exact q
    ·have q:=O.base.frzs b o u e;rw[ck (gd q R)];exact q
    ·obtain⟨dm,q⟩:=O.base.tbls b ps e;exact⟨dm,by rw[ck (gd q R)];exact q⟩
    ·by_cases t:b=D
     ·subst t;rw[dB] at e;cases e;exact⟨hz,N,k,r3,eD⟩
     ·rw[ck t] at e;exact(O.hok b u e).stay (fun _ _ _ q=>q) (fun c q=>by rw[ck (gd q R)];exact q) fun c xs q=>by rw[ck (gd q R)];exact q
   obtain⟨m,hm,_⟩:=O.loc;exact c0 D C s4 _ m I5 (Z.fpOk (by rw[j];rw[j] at l;exact l) (by rw[ck (Ne.symm a5)];exact O.free)) hm (qn D R)
  ·refine aP (T.item (bY X scope (own++capN) C E B U f) rfl rfl rfl hc i _ s3 Y3 H3 _ I3 (b2 b8) b7 go) fun r s4 ⟨u,hr,h4⟩=>?_;subst hr;refine aP h4 fun _ s5 ⟨x,H5,I5,r5,y5,b3,c3⟩=>?_;have c4:=I5.pinned (b2 c3) (T.obj _ _ b3);refine aP (hg _ s5 Y3 H5 x u _ c4 r5 (step x H5 y5)) fun _ s6 ⟨Y6,H6,I6,q6⟩=>?_;refine aP (ht _ s6 Y6 H6 _ I6 q6) fun ok s7 ⟨H7,I7,q7⟩=>?_;have cY:∀{Y8:St}{H8:Hp}{s8:Shared},Inv (bY X scope (own++capN) C E B U f) ([(D,{ cls:=.type "list",data:=.seq N.toArray k })]++mT E s5.heap) Y8 H8 s8->tn (i+1) s8.heap/\(∀b∈E,H8 b=none):=fun {Y8 H8 s8} I8=>by refine⟨T.keep _ _ _ b3 fun b t o e=>(I8.pin (b,o) (bB _ (bB _ (pz t e)))).1,fun b t=>?_⟩;obtain⟨o,e,d⟩:=T.obj _ _ b3 b t;exact(I8.pin (b,o) (bB _ (bB _ (pz t e)))).2.1
   cases ok with
   | false=>obtain⟨m',hm,w7⟩:=q7;obtain⟨t7,n7⟩:=cY I7;exact⟨m',hm,i+1,ys,N,k,Y6,H7,I7.unpinned,t7,n7,r3,w7⟩
   | true=>
    refine aP (he _ s7 Y6 H7 _ I7 q7) fun u8 s8 ⟨y,H8,I8,r8,hz,m',hm,w8⟩=>?_;obtain⟨t8,n8⟩:=cY I8;have I9:=I8.unpinned;obtain⟨eD,nD,c5,c8,_⟩:=I9.pin (D,_) (bB _ (List.mem_singleton.mpr rfl));have hl:=r3.length;refine call_meets F.slot_list_append ⟨_,eD,rfl⟩ F.entry_list_append (F.args_list_append_2 _ _) (PySem.list_append D N.toArray k u8 (by rw[List.size_toArray];omega)) ⟨eD,?_⟩;have q:=PySem.IsL.update eD (fun a=>a.push u8);have e2:N.toArray.push u8=(N++[u8]).toArray:=by simp
    rw[e2] at q;have keep:∀b o,b≠D->s8.heap.get? b=some o->(s8.heap.update D (Obj.mapSeq fun a=>a.push u8)).get? b=some o:=fun b o t e=>(Heap.get?_update_other s8.heap _ (Ne.symm t)).trans e;have c6:Inv (bY X scope (own++capN) C E B U f) [] Y6 H8 { s8 with heap:=s8.heap.update D (Obj.mapSeq fun a=>a.push u8) }:=by refine(I9.pins_of (pins':=[]) fun p M=>absurd M (by simp)).turned (t':=s8.toks) (it:=D) keep nD c5 (.inr (by rw[j];exact aZ _)) a6 fun p M=>?_;exact a3 p (by simpa using M)
    exact⟨m',hm,i+1,ys++[y],N++[u8],_,Y6,H8,a9 c6 q nD,T.keep _ _ _ t8 fun b t o e=>keep b o (by intro z;exact absurd (a0 b t) (by rw[z,j];exact Nat.lt_irrefl _)) e,n8,r3.append (.cons r8 .nil),w8⟩
 exact codeAny_compStart_list b0 (wpAny_noRaise (T.self _ 0 _ _ _ (T.keep _ _ _ b1 fun b _ o e=>old b o e) b0))
theorem xX(S:ai X scope own capN caps)(n:X.calm=true)(p:PI X tg iter wi)
  (a:∀C c d i j,PG (bY X scope (own++capN) C c d i j) tg g/\kn (bY X scope (own++capN) C c d i j) ifs tc/\PE (bY X scope (own++capN) C c d i j) elt te)
  (r:∀x,foldedSetIterable iter X.env x=pure x:=by intro _;rfl):PE X (.ListComp elt [⟨tg,iter,ifs,0⟩] scope pos) (mZ own caps wi g tc te):=by
 intro l s Y H Q I h;rw[eval_ListComp];refine wpAny_comprehension_free (use:=none) rfl r (xS (S.cells I.ok)) S.kind S.loc ?_;refine xW S n p a I h fun D C t u m v f w q=>⟨m,w,fun z k=>?_⟩
 exact⟨.ref D,u,v.turned (t':=t.toks) (it:=C) (fun b o y e=>(k.2 b y).trans e) f.1 f.2.1 f.2.2.2.1 f.2.2.2.2.1 f.2.2.2.2.2,rfl,q⟩
theorem GK{i:Nat}{y:Str}{py c:Pos}(B:X.N.Nodup)(j:X.N[i]? = some y)(E:Loc X.env.scope y)(S:ai X scope own capN caps)(G:X.calm=true)(J:PI X tg iter wi)
  (k:∀C l n p r,PG (bY X scope (own++capN) C l n p r) tg g/\kn (bY X scope (own++capN) C l n p r) ifs tc/\PE (bY X scope (own++capN) C l n p r) elt te)
  (t:swapsWith (.ListComp elt [⟨tg,iter,ifs,0⟩] scope pos) (some (.Name y py)) c.line X.env=pure true:=by rfl)
  (L:∀x,foldedSetIterable iter X.env x=pure x:=by intro _;rfl) (M:X.fn y=true\/X.env.scope.names.lookup y=some .local:=by first | exact .inl rfl | exact .inr rfl | assumption) :
  PS X (.Assign [.Name y py] (.ListComp elt [⟨tg,iter,ifs,0⟩] scope pos) c) (sB (mZ own caps wi g tc te) (px i)):=by
 intro d s Y H D I h;rw[exec_Assign_Name_used _ _ _ _ t];refine aa (wpAny_standAt (aa ?_));show wpAny _ X.A (do let _ <-comprehension (.ListComp elt [⟨tg,iter,ifs,0⟩] scope pos) scope X.env _ (newList []) false (eval iter X.env) (some (assign (.Name y py) X.env))) _ _ s;refine aa (wpAny_mono (wpAny_comprehension_free (use:=some (assign (.Name y py) X.env)) (Q:=fun _ u=>SP X d D .next u) rfl L (xS (S.cells I.ok)) S.kind S.loc ?_) (fun _ u O=>av (av O)) fun _ _ e=>e);refine xW S G J k I h fun Da C u R m T f U q=>?_;show wpAny _ X.A (assign (.Name y py) X.env (.ref Da)) _ _ _;refine wpAny_assign_Name (xc T B j E (v:=.ref Da) rfl (fun Z I2 ⟨a,sb,ha⟩=>⟨m,?_,fun h' w=>?_⟩) M)
 ·refine U.sameBut sb ?_;rcases ha with z | z
  ·rw[z];exact f.2.1
  ·exact Ne.symm (f.2.2.2.2.1 y a z)
 ·exact⟨_,R,I2.turned (t':=Z.toks) (it:=C) (fun b o hb e=>(w.2 b hb).trans e) f.1 f.2.1 f.2.2.2.1 f.2.2.2.2.1 f.2.2.2.2.2,q⟩
end
end L2
namespace L2
open PySem
theorem GL{M:Model}{A:Around}{E:Value->Shared->Prop}{s:Shared}{a:Addr}{Q:Option Obj->Shared->Prop}(h:Q (s.heap.get? a) s):wpAny M A (loadIfAlive a) Q E s:=by intro Γ p b;unfold loadIfAlive;rw[Sem.wp_loadIfAlive];exact av h Γ p b
abbrev er(h:Heap)(z TI TO:Addr)(a f1:Value):Prop:=
 h.get? z=some { cls:=.type "zip",dict:=none,data:=.fields #[a,f1,.bool false,.ref TI,.ref TO],slots:=#[] }
abbrev di(h:Heap)(T:Addr)(a b c:Value):Prop:=h.get? T=some { cls:=.type "tuple",data:=.seq #[a,b,c] }
section
variable{prog:Program}{w:World}{A:Around}{E:Value->Shared->Prop}{s:Shared}
theorem tu{T:Addr}{a b c x:Value}{k:Nat}{Q:Unit->Shared->Prop}(e:di s.heap T a b c)
  (h:∀d,d.get? T=some { cls:=.type "tuple",data:=.seq ((#[a,b,c]:Array Value).setIfInBounds k x) }->Heap.SameBut T s.heap d->Q () { s with heap:=d }) :
  wpAny (model prog w) A (updateSeq T (·.setIfInBounds k x)) Q E s:=by
 refine wpAny_updateSeq e rfl (h _ ?_ (Heap.SameBut.update ..));rw[Heap.get?_update_self _ e rfl];simp[Obj.mapSeq]
theorem GN{z TI TO n r B l1 l2 l3:Addr}{k:Nat}{xs ys zs:Array Value}{x y v a b c:Value}{Q:Value->Shared->Prop}
  (nd:[z,TI,TO,n,r,B].Nodup) (hl:∀l∈[l1,l2,l3],∀j∈[z,TI,TO,n,r,B],l≠j)
  (hz:er s.heap z TI TO .none (.bool false)) (a6:di s.heap TI (.ref n) (.ref r) (.ref B)) (a7:di s.heap TO a b c)
  (h1:s.heap.IsListIter n l1 k) (h2:s.heap.IsListIter r l2 k) (h3:s.heap.IsListIter B l3 k) (a8:s.heap.IsList l1 xs) (a9:s.heap.IsList l2 ys) (b0:s.heap.IsList l3 zs)
  (hx:xs[k]? = some x) (hy:ys[k]? = some y) (hv:zs[k]? = some v)
  (hQ:∀H,er H z TI TO (rawInt s.heap.objs.size) (.bool false)->di H TO x y v->H.IsListIter n l1 (k+1)->H.IsListIter r l2 (k+1)->H.IsListIter B l3 (k+1)->di H s.heap.objs.size x y v->H.objs.size=s.heap.objs.size+1->
   (∀c o,c∉[z,TO,n,r,B]->s.heap.get? c=some o->H.get? c=some o)->Q (.ref s.heap.objs.size) { s with heap:=H }) :
  wpAny (model prog w) A (Builtin.«zip.__next__» ⟨[.ref z],[]⟩) (fun fin s'=>∃v,fin=.done (.ret v)/\Q v s') E s:=by
 simp only[List.nodup_cons,List.mem_cons,List.not_mem_nil,or_false,not_or,not_false_eq_true,and_true,List.nodup_nil] at nd;obtain⟨⟨c0,C,z1,z2,z3⟩,⟨b9,c6,c7,c8⟩,⟨I,J,L⟩,⟨a0,a1⟩,a2⟩:=nd;have n1:∀j∈[z,TI,TO,n,r,B],l1≠j:=hl l1 (by simp);have n2:∀j∈[z,TI,TO,n,r,B],l2≠j:=hl l2 (by simp);have n3:∀j∈[z,TI,TO,n,r,B],l3≠j:=hl l3 (by simp);show wpAny _ _ (field (.ref z) 2 >>= _) _ _ _;refine aa (wpAny_field hz rfl (x:=.bool false) rfl ?_);show wpAny _ _ (field (.ref z) 3 >>= _) _ _ _;refine aa (wpAny_field hz rfl (x:=.ref TI) rfl ?_);refine aa (wpAny_seqItems a6 rfl ?_);show wpAny _ _ (Builtin.SmallTypes.ownedTupleIsFree (.ref z) >>= _) _ _ _;refine aa ?_;unfold Builtin.SmallTypes.ownedTupleIsFree;refine aa (wpAny_field hz rfl (x:=.none) rfl (av ?_));simp only[if_true];refine aa (wpAny_rule ?_);refine aa (wpAny_field hz rfl (x:=.ref TO) rfl ?_);refine aa (wpAny_setField_rec hz (by simp) fun h₁ U d=>?_)
 replace U:er h₁ z TI TO .ellipsis (.bool false):=U
 refine aa ?_;simp only[List.zipIdx_cons,List.zipIdx_nil,List.forIn_cons,List.forIn_nil];refine aa (aa (wpAny_onRaise ?_));show wpAny _ _ (Builtin.SmallTypes.nextOf (.ref n) >>= _) _ _ _;refine aa (wpAny_nextOf_list_item (h1.extBut d.extBut (Ne.symm z1)) (a8.extBut d.extBut (n1 z (by simp))) hx fun h₂ b1 f=>av ?_);have N:di h₂ TO a b c:=f.extBut _ _ I (d.extBut _ _ (Ne.symm C) a7);refine aa (wpAny_seqItems N rfl ?_);refine aa (tu N fun h₃ D g=>?_)
 replace D:di h₃ TO x b c:=D
 refine aa (wpAny_letGo (av ?_));refine aa (aa (wpAny_onRaise ?_));show wpAny _ _ (Builtin.SmallTypes.nextOf (.ref r) >>= _) _ _ _;refine aa (wpAny_nextOf_list_item (((h2.extBut d.extBut (Ne.symm z2)).extBut f.extBut (Ne.symm a0)).extBut g.extBut (Ne.symm J))
  (((a9.extBut d.extBut (n2 z (by simp))).extBut f.extBut (n2 n (by simp))).extBut g.extBut (n2 TO (by simp))) hy fun h₄ b2 i=>av ?_)
 have O:di h₄ TO x b c:=i.extBut _ _ J D;refine aa (wpAny_seqItems O rfl ?_);refine aa (tu O fun h₅ G m=>?_)
 replace G:di h₅ TO x y c:=G
 refine aa (wpAny_letGo (av ?_));refine aa (aa (wpAny_onRaise ?_));show wpAny _ _ (Builtin.SmallTypes.nextOf (.ref B) >>= _) _ _ _;refine aa (wpAny_nextOf_list_item (((((h3.extBut d.extBut (Ne.symm z3)).extBut f.extBut (Ne.symm a1)).extBut g.extBut (Ne.symm L)).extBut i.extBut (Ne.symm a2)).extBut m.extBut (Ne.symm L))
  (((((b0.extBut d.extBut (n3 z (by simp))).extBut f.extBut (n3 n (by simp))).extBut g.extBut (n3 TO (by simp))).extBut i.extBut (n3 r (by simp))).extBut m.extBut (n3 TO (by simp))) hv fun h₆ b3 t=>av ?_)
 have R:di h₆ TO x y c:=t.extBut _ _ L G;refine aa (wpAny_seqItems R rfl ?_);refine aa (tu R fun h p u=>?_)
 replace p:di h TO x y v:=p
 refine aa (wpAny_letGo (av (av ?_)));refine aa (wpAny_seqItems p rfl ?_);refine aa (wpAny_newTuple ?_);have b4:∀c o,c∉[z,TO,n,r,B]->s.heap.get? c=some o->h.get? c=some o:=fun c o hc e=>by simp only[List.mem_cons,List.not_mem_nil,or_false,not_or] at hc;obtain⟨c1,c2,c3,c4,c5⟩:=hc;exact u.extBut _ _ c2 (t.extBut _ _ c5 (m.extBut _ _ c2 (i.extBut _ _ c4 (g.extBut _ _ c2 (f.extBut _ _ c3 (d.extBut _ _ c1 e))))))
 have a3:h.objs.size=s.heap.objs.size:=by rw[u.1,t.1,m.1,i.1,g.1,f.1,d.1]
 have a4:er h z TI TO .ellipsis (.bool false):=u.extBut _ _ C (t.extBut _ _ z3 (m.extBut _ _ C (i.extBut _ _ z2 (g.extBut _ _ C (f.extBut _ _ z1 U)))));have b5:h.IsListIter n l1 (k+1):=((((b1.extBut g.extBut (Ne.symm I)).extBut i.extBut a0).extBut m.extBut (Ne.symm I)).extBut t.extBut a1).extBut u.extBut (Ne.symm I);have b6:h.IsListIter r l2 (k+1):=((b2.extBut m.extBut (Ne.symm J)).extBut t.extBut a2).extBut u.extBut (Ne.symm J);have b7:h.IsListIter B l3 (k+1):=b3.extBut u.extBut (Ne.symm L);have S:z<h.objs.size:=ba a4;show wpAny _ _ (Builtin.SmallTypes.ownedTupleHandOut (.ref z) (.ref h.objs.size) >>= _) _ _ _;refine aa ?_;unfold Builtin.SmallTypes.ownedTupleHandOut;have b8:er (h.push { cls:=.type "tuple",data:=.seq #[x,y,v] }) z TI TO .ellipsis (.bool false):=aS _ a4;refine aa (wpAny_setField_rec b8 (by simp) fun h₉ X Y=>?_)
 replace X:er h₉ z TI TO (rawInt h.objs.size) (.bool false):=X
 refine wpAny_setField_rec X (by simp) fun hA M Z=>?_
 replace M:er hA z TI TO (rawInt h.objs.size) (.bool false):=M
 have up:∀c o,c≠z->h.get? c=some o->hA.get? c=some o:=fun c o c1 e=>Z.extBut _ _ c1 (Y.extBut _ _ c1 (aS _ e));have a5:di hA h.objs.size x y v:=Z.extBut _ _ (Nat.ne_of_gt S) (Y.extBut _ _ (Nat.ne_of_gt S) (Heap.get?_push_size _ rfl));have T:hA.objs.size=h.objs.size+1:=by rw[Z.1,Y.1,Heap.size_push]
 rw[a3] at M a5 T;refine av ⟨_,rfl,?_⟩;show Q (.ref h.objs.size) _;rw[a3];exact hQ hA M (up _ _ (Ne.symm C) p) (b5.at fun o e=>up _ o (Ne.symm z1) e) (b6.at fun o e=>up _ o (Ne.symm z2) e) (b7.at fun o e=>up _ o (Ne.symm z3) e) a5 T fun c o hc e=>up c o (fun q=>hc (by simp[q])) (b4 c o hc e)
theorem xY{z TI TO T:Addr}{f1:Value}{g:Obj}{Q:Bool->Shared->Prop}(b:f1=.bool false\/f1=.bool true)(a:er s.heap z TI TO (rawInt T) f1)(h:s.heap.get? T=some g)
  (f:∀c,er c z TI TO (rawInt T) (.bool true)->Heap.SameBut z s.heap c->Q false { s with heap:=c }):wpAny (model prog w) A (Builtin.SmallTypes.ownedTupleIsFree (.ref z)) Q E s:=by
 unfold Builtin.SmallTypes.ownedTupleIsFree;refine aa (wpAny_field a rfl (x:=rawInt T) rfl ?_);show wpAny _ _ (loadIfAlive (Int.toNat T) >>= _) _ _ _;refine aa (GL ?_);rw[Int.toNat_natCast,h];show wpAny _ _ (field (.ref z) 1 >>= _) _ _ _;refine aa (wpAny_field a rfl (x:=f1) rfl ?_);rcases b with rfl | rfl
 ·show wpAny _ _ (setField (.ref z) 1 (.bool true) >>= _) _ _ _;exact aa (wpAny_setField_rec a (by simp) fun i d e=>av (f i d e))
 ·exact av (f s.heap a (Heap.SameBut.refl ..))
theorem GO{z TI TO d g h p q r T:Addr}{k:Nat}{f1:Value}{oT:Obj}{Y Z zs:Array Value}{x y v:Value}{Q:Value->Shared->Prop}
  (nd:[z,TI,TO,d,g,h].Nodup) (G:∀l∈[p,q,r],∀j∈[z,TI,TO,d,g,h],l≠j) (H:f1=.bool false\/f1=.bool true)
  (I:er s.heap z TI TO (rawInt T) f1) (hT:s.heap.get? T=some oT) (J:di s.heap TI (.ref d) (.ref g) (.ref h))
  (h1:s.heap.IsListIter d p k) (h2:s.heap.IsListIter g q k) (h3:s.heap.IsListIter h r k) (L:s.heap.IsList p Y) (M:s.heap.IsList q Z) (N:s.heap.IsList r zs)
  (hx:Y[k]? = some x) (hy:Z[k]? = some y) (hv:zs[k]? = some v)
  (hQ:∀m,er m z TI TO (rawInt T) (.bool true)->m.IsListIter d p (k+1)->m.IsListIter g q (k+1)->m.IsListIter h r (k+1)->di m s.heap.objs.size x y v->m.objs.size=s.heap.objs.size+1->
   (∀c o,c∉[z,d,g,h]->s.heap.get? c=some o->m.get? c=some o)->Q (.ref s.heap.objs.size) { s with heap:=m }) :
  wpAny (model prog w) A (Builtin.«zip.__next__» ⟨[.ref z],[]⟩) (fun fin s'=>∃v,fin=.done (.ret v)/\Q v s') E s:=by
 simp only[List.nodup_cons,List.mem_cons,List.not_mem_nil,or_false,not_or,not_false_eq_true,and_true,List.nodup_nil] at nd;obtain⟨⟨a1,a2,z1,z2,z3⟩,⟨a0,a3,a4,a5⟩,⟨a6,a7,a8⟩,⟨t,u⟩,B⟩:=nd;have n1:∀j∈[z,TI,TO,d,g,h],p≠j:=G p (by simp);have n2:∀j∈[z,TI,TO,d,g,h],q≠j:=G q (by simp);have O:∀j∈[z,TI,TO,d,g,h],r≠j:=G r (by simp);show wpAny _ _ (field (.ref z) 2 >>= _) _ _ _;refine aa (wpAny_field I rfl (x:=.bool false) rfl ?_);show wpAny _ _ (field (.ref z) 3 >>= _) _ _ _;refine aa (wpAny_field I rfl (x:=.ref TI) rfl ?_);refine aa (wpAny_seqItems J rfl ?_);show wpAny _ _ (Builtin.SmallTypes.ownedTupleIsFree (.ref z) >>= _) _ _ _;refine aa (xY H I hT fun h₁ R a=>?_);simp only[Bool.false_eq_true,if_false];refine aa ?_;simp only[List.forIn_toArray,List.forIn_cons,List.forIn_nil];refine aa (aa (wpAny_holding ?_));show wpAny _ _ (Builtin.SmallTypes.nextOf (.ref d) >>= _) _ _ _;refine aa (wpAny_nextOf_list_item (h1.extBut a.extBut (Ne.symm z1)) (L.extBut a.extBut (n1 z (by simp))) hx fun h₂ S b=>av (av ?_));refine aa (aa (wpAny_holding ?_));show wpAny _ _ (Builtin.SmallTypes.nextOf (.ref g) >>= _) _ _ _;refine aa (wpAny_nextOf_list_item ((h2.extBut a.extBut (Ne.symm z2)).extBut b.extBut (Ne.symm t)) ((M.extBut a.extBut (n2 z (by simp))).extBut b.extBut (n2 d (by simp))) hy fun h₃ U f=>av (av ?_));refine aa (aa (wpAny_holding ?_));show wpAny _ _ (Builtin.SmallTypes.nextOf (.ref h) >>= _) _ _ _;refine aa (wpAny_nextOf_list_item (((h3.extBut a.extBut (Ne.symm z3)).extBut b.extBut (Ne.symm u)).extBut f.extBut (Ne.symm B)) (((N.extBut a.extBut (O z (by simp))).extBut b.extBut (O d (by simp))).extBut f.extBut (O g (by simp))) hv fun C X i=>av (av (av ?_)));show wpAny _ _ (newTuple [x,y,v] >>= _) _ _ _;refine aa (wpAny_newTuple ?_);refine av ⟨_,rfl,?_⟩;have n:C.objs.size=s.heap.objs.size:=by rw[i.1,f.1,b.1,a.1]
 show Q (.ref C.objs.size) { s with heap:=C.push { cls:=.type "tuple",data:=.seq #[x,y,v] } };have up:∀c o,c∉[z,d,g,h]->s.heap.get? c=some o->C.get? c=some o:=fun c o D e=>by simp only[List.mem_cons,List.not_mem_nil,or_false,not_or] at D;obtain⟨c1,c2,c3,c4⟩:=D;exact i.extBut _ _ c4 (f.extBut _ _ c3 (b.extBut _ _ c2 (a.extBut _ _ c1 e)))
 rw[n];refine hQ _ (aS _ (i.extBut _ _ z3 (f.extBut _ _ z2 (b.extBut _ _ z1 R)))) (((S.extBut f.extBut t).extBut i.extBut u).at fun o e=>aS _ e) ((U.extBut i.extBut B).at fun o e=>aS _ e)
  (X.at fun o e=>aS _ e) ?_ (by rw[Heap.size_push,n]) fun c o D e=>aS _ (up c o D e)
 rw[<-n];exact Heap.get?_push_size _ rfl
theorem GP{z TI TO a f g d l2 l3 T:Addr}{k:Nat}{f1:Value}{y:Obj}{t:Array Value}{Q:Fin->Shared->Prop}(B:A.handled=none)
  (v:[z,TI,TO,a,f,g].Nodup) (C:∀l∈[d,l2,l3],∀j∈[z,TI,TO,a,f,g],l≠j) (h:f1=.bool false\/f1=.bool true)
  (i:er s.heap z TI TO (rawInt T) f1) (D:s.heap.get? T=some y) (m:di s.heap TI (.ref a) (.ref f) (.ref g))
  (h1:s.heap.IsListIter a d k) (n:s.heap.IsList d t) (G:t[k]? = none)
  (H:∀p e,(∀c o,c∉[z,a]->s.heap.get? c=some o->p.get? c=some o)->(∃o,p.get? e=some o/\o.cls=.type "StopIteration")->E (.ref e) { s with heap:=p }) :
  wpAny (model prog w) A (Builtin.«zip.__next__» ⟨[.ref z],[]⟩) Q E s:=by
 simp only[List.nodup_cons,List.mem_cons,List.not_mem_nil,or_false,not_or,not_false_eq_true,and_true,List.nodup_nil] at v;obtain⟨⟨I,J,L,z2,z3⟩,⟨u,M,N,O⟩,⟨R,S,U⟩,⟨X,Y⟩,Z⟩:=v;have n1:∀j∈[z,TI,TO,a,f,g],d≠j:=C d (by simp);show wpAny _ _ (field (.ref z) 2 >>= _) _ _ _;refine aa (wpAny_field i rfl (x:=.bool false) rfl ?_);show wpAny _ _ (field (.ref z) 3 >>= _) _ _ _;refine aa (wpAny_field i rfl (x:=.ref TI) rfl ?_);refine aa (wpAny_seqItems m rfl ?_);show wpAny _ _ (Builtin.SmallTypes.ownedTupleIsFree (.ref z) >>= _) _ _ _;refine aa (xY h i D fun h₁ a0 b=>?_);simp only[Bool.false_eq_true,if_false];refine aa ?_;simp only[List.forIn_toArray,List.forIn_cons,List.forIn_nil];refine aa (aa (wpAny_holding ?_));show wpAny _ _ (Builtin.SmallTypes.nextOf (.ref a) >>= _) _ _ _;refine aa (wpAny_nextOf_list_end B (h1.extBut b.extBut (Ne.symm L)) (n.extBut b.extBut (n1 z (by simp))) G fun h₂ e q he=>?_);refine H h₂ e (fun c o r x=>?_) he;simp only[List.mem_cons,List.not_mem_nil,or_false,not_or] at r;exact q _ _ r.2 (b.extBut _ _ r.1 x)
end
structure Z3 (h:Heap) (z TI TO i1 i2 i3 l1 l2 l3:Addr) (xs ys zs:Array Value) (S:Addr) (i:Nat):Prop where
 zrec:∃(f0 f1:Value),er h z TI TO f0 f1/\(f1=.bool false\/f1=.bool true)/\((i=0/\f0=.none/\f1=.bool false)\/(0<i/\∃(T:Addr) (oT:Obj),f0=rawInt T/\h.get? T=some oT/\T∉[S,z,TO,i1,i2,i3]))
 ti:di h TI (.ref i1) (.ref i2) (.ref i3)
 to:∃a b c,di h TO a b c
 h1:h.IsListIter i1 l1 i
 h2:h.IsListIter i2 l2 i
 h3:h.IsListIter i3 l3 i
 l1:h.IsList l1 xs
 l2:h.IsList l2 ys
 l3:h.IsList l3 zs
def pI(h:Heap)(n:Addr)(b c d:Array Value)(a:List Value):Prop:=
 ∀(j:Nat) (v:Value),a[j]? = some v->∃(T:Addr) (x y u:Value),v=Value.ref T/\n<=T/\di h T x y u/\b[j]? = some x/\c[j]? = some y/\d[j]? = some u
section
variable{prog:Program}{w:World}{A:Around}{E:Value->Shared->Prop}{s:Shared}
theorem GQ{z TI TO f g h u B C S:Addr}{i:Nat}{R U X:Array Value}{x y v:Value}{Q:Option Value->Shared->Prop}
  (D:[z,TI,TO,f,g,h].Nodup) (Y:∀l∈[u,B,C],∀j∈[z,TI,TO,f,g,h],l≠j) (st:Z3 s.heap z TI TO f g h u B C R U X S i) (hS:S<s.heap.objs.size)
  (hx:R[i]? = some x) (hy:U[i]? = some y) (hv:X[i]? = some v)
  (hQ:∀k,Z3 k z TI TO f g h u B C R U X S (i+1)->di k s.heap.objs.size x y v->k.objs.size=s.heap.objs.size+1->(∀c o,c∉[z,TO,f,g,h]->s.heap.get? c=some o->k.get? c=some o)->Q (some (.ref s.heap.objs.size)) { s with heap:=k }) :
  wpAny (model prog w) A (pyNext (.ref z)) Q E s:=by
 obtain⟨⟨f0,f1,N,Z,hf⟩,ti,⟨a,b,c,to⟩,h1,h2,h3,m,n,p⟩:=st;have hT:s.TypeIs (.ref z) "zip":=⟨_,N,rfl⟩
 have lt:∀{c o},s.heap.get? c=some o->s.heap.objs.size≠c:=fun e=>Nat.ne_of_gt (ba e);have new:s.heap.objs.size∉[S,z,TO,f,g,h]:=by simp only[List.mem_cons,List.not_mem_nil,or_false,not_or];exact⟨Nat.ne_of_gt hS,lt N,lt to,(by obtain⟨_,e,_⟩:=h1;exact lt e),(by obtain⟨_,e,_⟩:=h2;exact lt e),(by obtain⟨_,e,_⟩:=h3;exact lt e)⟩
 have sub:∀l∈[u,B,C],l∉[z,TO,f,g,h]:=fun l hm z'=>by simp only[List.mem_cons,List.not_mem_nil,or_false] at z';rcases z' with q | q | q | q | q<;>exact Y l hm _ (by simp) q
 have G:TI∉[z,TO,f,g,h]:=by simp only[List.nodup_cons,List.mem_cons,List.not_mem_nil,or_false,not_or,not_false_eq_true,and_true,List.nodup_nil] at D;obtain⟨⟨H,I,z1,z2,z3⟩,⟨r,J,L,M⟩,_⟩:=D;simp only[List.mem_cons,List.not_mem_nil,or_false,not_or];exact⟨Ne.symm H,r,J,L,M⟩
 unfold pyNext;refine aa (wpAny_attempt (wpAny_callSpecial?_slot (name:=Str.ofString "__next__") hT F.slot_zip_next (wpAny_call_entry F.slot_zip_next hT F.entry_zip_next ?_ (F.args_zip_next_1 _))));rcases hf with⟨hi,rfl,rfl⟩ | ⟨hi,T,oT,rfl,eT,nT⟩
 ·refine GN D Y N ti to h1 h2 h3 m n p hx hy hv fun k a1 a2 a3 a4 a5 O a7 t=>av ?_;exact hQ k ⟨⟨_,_,a1,.inl rfl,.inr ⟨Nat.succ_pos _,_,_,rfl,O,new⟩⟩,t _ _ G ti,⟨_,_,_,a2⟩,a3,a4,a5,m.at fun o e=>t _ o (sub u (by simp)) e,n.at fun o e=>t _ o (sub B (by simp)) e,p.at fun o e=>t _ o (sub C (by simp)) e⟩ O a7 t
 ·refine GO D Y Z N eT ti h1 h2 h3 m n p hx hy hv fun k a1 a3 a4 a5 O a7 t=>av ?_;have d:∀c o,c∉[z,TO,f,g,h]->s.heap.get? c=some o->k.get? c=some o:=fun c o hc e=>t c o (fun q=>hc (by simp only[List.mem_cons,List.not_mem_nil,or_false] at q ⊢;rcases q with q | q | q | q<;>simp[q])) e;have a0:TO∉[z,f,g,h]:=by simp only[List.nodup_cons,List.mem_cons,List.not_mem_nil,or_false,not_or,not_false_eq_true,and_true,List.nodup_nil] at D;obtain⟨⟨H,I,z1,z2,z3⟩,⟨r,J,L,M⟩,⟨a9,b0,b1⟩,_⟩:=D;simp only[List.mem_cons,List.not_mem_nil,or_false,not_or];exact⟨Ne.symm I,a9,b0,b1⟩
  refine hQ k ⟨⟨_,_,a1,.inr rfl,.inr ⟨Nat.succ_pos _,_,_,rfl,d T oT (fun q=>nT (bq _ q)) eT,nT⟩⟩,d _ _ G ti,⟨a,b,c,t _ _ a0 to⟩,a3,a4,a5,m.at fun o e=>d _ o (sub u (by simp)) e,n.at fun o e=>d _ o (sub B (by simp)) e,p.at fun o e=>d _ o (sub C (by simp)) e⟩ O a7 d
theorem GS{z TI TO d f g r t u S:Addr}{i:Nat}{n v x:Array Value}{Q:Option Value->Shared->Prop}(y:A.handled=none)
  (U:[z,TI,TO,d,f,g].Nodup) (B:∀l∈[r,t,u],∀j∈[z,TI,TO,d,f,g],l≠j) (st:Z3 s.heap z TI TO d f g r t u n v x S i) (X:0<i) (C:n[i]? = none)
  (D:∀h,(∀c o,c∉[z,d]->s.heap.get? c=some o->h.get? c=some o)->Q none { s with heap:=h }) :
  wpAny (model prog w) A (pyNext (.ref z)) Q E s:=by
 obtain⟨⟨Y,f1,p,k,G⟩,ti,⟨a,b,c,to⟩,h1,h2,h3,m,H,I⟩:=st;have q:s.TypeIs (.ref z) "zip":=⟨_,p,rfl⟩
 rcases G with⟨J,_⟩ | ⟨_,T,Z,rfl,L,nT⟩
 ·omega
 ·unfold pyNext;refine aa (wpAny_attempt (wpAny_callSpecial?_slot (name:=Str.ofString "__next__") q F.slot_zip_next
   (wpAny_call_entry F.slot_zip_next q F.entry_zip_next (GP y U B k p L ti h1 m C fun h e M N=>?_) (F.args_zip_next_1 _))))
  obtain⟨o,O,R⟩:=N;refine aa (wpAny_isInstance (T:="StopIteration") (b:=true) ⟨o,O,R⟩ isSubtype_stop ?_);exact av (D _ M)
end
section
variable{prog:Program}{w:World}{A:Around}{R:Result->Shared->Prop}
theorem Z3.keep{h u:Heap}{z TI TO d f g r s t S:Addr}{v x y:Array Value}{i:Nat}(st:Z3 h z TI TO d f g r s t v x y S i)(B:S∉[z,TI,TO,d,f,g,r,s,t])(k:∀b o,b≠S->h.get? b=some o->u.get? b=some o) :
  Z3 u z TI TO d f g r s t v x y S i:=by
 simp only[List.mem_cons,List.not_mem_nil,or_false,not_or] at B;obtain⟨D,E,G,H,I,J,L,M,N⟩:=B;obtain⟨⟨O,f1,Q,j,l⟩,ti,⟨a,b,c,to⟩,h1,h2,h3,m,n,p⟩:=st;refine⟨⟨O,f1,k _ _ (Ne.symm D) Q,j,?_⟩,k _ _ (Ne.symm E) ti,⟨a,b,c,k _ _ (Ne.symm G) to⟩,h1.at fun o e=>k _ o (Ne.symm H) e,h2.at fun o e=>k _ o (Ne.symm I) e,h3.at fun o e=>k _ o (Ne.symm J) e,m.at fun o e=>k _ o (Ne.symm L) e,n.at fun o e=>k _ o (Ne.symm M) e,p.at fun o e=>k _ o (Ne.symm N) e⟩;rcases l with l | ⟨U,T,X,e,Y,C⟩
 ·exact .inl l
 ·exact .inr ⟨U,T,X,e,k _ _ (fun q=>C (by simp[q])) Y,C⟩
noncomputable abbrev xZ(a:Array Value)(v:Value)(c:Nat):Nat:=if (a.push v).size==a.size then c else c+1
theorem GU{z TI TO p D E l1 l2 l3 S n₀:Addr}{h L M:Array Value}(hh:A.handled=none)
  (nd:[z,TI,TO,p,D,E].Nodup) (hl:∀l∈[l1,l2,l3],∀j∈[z,TI,TO,p,D,E],l≠j) (hS:S∉[z,TI,TO,p,D,E,l1,l2,l3]) (J:∀j∈[S,z,TI,TO,p,D,E],j<n₀)
  (e2:L.size=h.size) (e3:M.size=h.size) (a6:0<h.size) (hn:h.size<=sizeLine) (res:Value) :
  ∀(k i:Nat) (s:Shared) (a:List Value) (c:Nat),h.size - i=k->i<=h.size->Z3 s.heap z TI TO p D E l1 l2 l3 h L M S i->n₀<=s.heap.objs.size->s.heap.get? S=some { cls:=.type "list",dict:=none,data:=.seq a.toArray c,slots:=#[] }->a.length=i->pI s.heap n₀ h L M a->
  (∀n d c',(∀b o,b∉[S,z,TO,p,D,E]->s.heap.get? b=some o->n.get? b=some o)->n.get? S=some { cls:=.type "list",dict:=none,data:=.seq d.toArray c',slots:=#[] }->d.length=h.size->pI n n₀ h L M d->R (.ok (.ret res)) { s with heap:=n })->
  codeAny (model prog w) A (.builtin "list.extend.loop" ⟨[.ref S,.ref z,res],[]⟩) R s:=by
 intro k
 induction k with
 | zero=>
  intro i s a c hk hi st r B f tr hR;have N:i=h.size:=by omega
  refine codeAny_builtin F.entry_extend_loop ?_;rw[Around.under_plainId F.plain_extend_loop _];show wpAny _ A.in1 (pyNext (.ref z) >>= _) _ _ s;have nS:S∉[z,p]:=fun q=>hS (by simp only[List.mem_cons,List.not_mem_nil,or_false] at q ⊢;rcases q with q | q<;>simp[q]);refine aa (GS hh nd hl st (by omega) (by rw[N];exact Array.getElem?_eq_none (aZ _)) fun n g=>?_);refine av (hR n a c (fun b o J e=>g b o (fun q=>J (by simp only[List.mem_cons,List.not_mem_nil,or_false] at q ⊢;rcases q with q | q<;>simp[q])) e) (g S _ nS B) (f.trans N) fun j v H=>?_);obtain⟨T,x,y,u,e,G,t,q⟩:=tr j v H;refine⟨T,x,y,u,e,G,g T _ (fun m=>?_) t,q⟩;simp only[List.mem_cons,List.not_mem_nil,or_false] at m;rcases m with m | m
  ·exact absurd (J z (by simp)) (by rw[<-m];exact Nat.not_lt.mpr G)
  ·exact absurd (J p (by simp)) (by rw[<-m];exact Nat.not_lt.mpr G)
 | succ k ih=>
  intro i s a c hk hi st r B f tr hR;have O:i<h.size:=by omega
  refine codeAny_builtin F.entry_extend_loop ?_;rw[Around.under_plainId F.plain_extend_loop _];show wpAny _ A.in1 (pyNext (.ref z) >>= _) _ _ s;refine aa (GQ nd hl st (ba B) (x:=h[i]) (y:=L[i]) (v:=M[i]) (Array.getElem?_eq_getElem O) (Array.getElem?_eq_getElem (by omega)) (Array.getElem?_eq_getElem (by omega)) fun n a0 a1 Q g=>?_);have nS:S∉[z,TO,p,D,E]:=fun q=>hS (by simp only[List.mem_cons,List.not_mem_nil,or_false] at q ⊢;rcases q with q | q | q | q | q<;>simp[q]);have U:=g S _ nS B;have ha:a.toArray.size=i:=by rw[List.size_toArray];exact f
  show wpAny _ A.in1 (updateSeq S (·.push (.ref s.heap.objs.size)) >>= _) _ _ _;refine aa ?_;have old:∀b o,b≠S->n.get? b=some o->(n.update S (Obj.mapSeq (·.push (.ref s.heap.objs.size)))).get? b=some o:=fun b o J e=>(Heap.get?_update_other _ _ (Ne.symm J)).trans e;have big:∀T,n₀<=T->T∉[S,z,TO,p,D,E]:=fun T G m=>by simp only[List.mem_cons,List.not_mem_nil,or_false] at m;rcases m with m | m | m | m | m | m<;>exact absurd (J T (by rw[m];simp)) (Nat.not_lt.mpr G)
  refine wpAny_updateSeq U rfl (av ⟨plainId_quiet F.plain_extend_loop _,ih (i+1) _ (a++[.ref s.heap.objs.size]) (xZ a.toArray (.ref s.heap.objs.size) c) (by omega) O (a0.keep hS old) ?_ ?_ (by rw[List.length_append,f];rfl) ?_ fun a2 d c' X Y a3 Z=>?_⟩)
   (by rw[ha];omega) (by show(a.toArray.push _).size<=sizeLine+1;rw[Array.size_push,ha];omega)
  ·show n₀<=(n.update S (Obj.mapSeq (·.push (.ref s.heap.objs.size)))).objs.size;rw[show(n.update S (Obj.mapSeq (·.push (Value.ref s.heap.objs.size)))).objs.size=n.objs.size from(Heap.SameBut.update ..).1,Q];exact Nat.le_succ_of_le r
  ·have q:=Heap.get?_update_self (Obj.mapSeq (·.push (Value.ref s.heap.objs.size))) U rfl;have e:a.toArray.push (Value.ref s.heap.objs.size)=(a++[Value.ref s.heap.objs.size]).toArray:=by simp
   have q':(n.update S (Obj.mapSeq (·.push (Value.ref s.heap.objs.size)))).get? S=some { cls:=.type "list",dict:=none,data:=.seq (a.toArray.push (Value.ref s.heap.objs.size)) (xZ a.toArray (Value.ref s.heap.objs.size) c),slots:=#[] }:=q;rw[e] at q';exact q'
  ·intro j v H
   by_cases a4:j<a.length
   ·rw[List.getElem?_append_left a4] at H;obtain⟨T,x,y,u,e,G,t,q⟩:=tr j v H;have nb:=big T G;exact⟨T,x,y,u,e,G,old T _ (fun C=>nb (by simp[C])) (g T _ (fun C=>nb (bq _ C)) t),q⟩
   ·have a5:j=a.length:=by have:=(List.getElem?_eq_some_iff.mp H).1;rw[List.length_append,List.length_singleton] at this;omega
    subst a5;rw[List.getElem?_append_right (aZ _),Nat.sub_self] at H;cases H;have nb:=big s.heap.objs.size r;refine⟨s.heap.objs.size,h[i],L[i],M[i],rfl,r,old _ _ (fun C=>nb (by simp[C])) a1,?_,?_,?_⟩<;>(rw[f];exact Array.getElem?_eq_getElem (by omega))
  ·refine hR a2 d c' (fun b o I e=>X b o I (old b o (fun C=>I (by simp[C])) (g b o (fun C=>I (bq _ C)) e))) Y a3 Z
end
namespace F3
theorem zip_no_len:typeLookup (.type "zip") "__len__" = pure none:=by rw[typeLookup_type,builtinLookup_eq_fast];kernel_rfl
theorem zip_no_hint:typeLookup (.type "zip") "__length_hint__" = pure none:=by rw[typeLookup_type,builtinLookup_eq_fast];kernel_rfl
theorem typeCall_zip_3(a b c:Value):checkTypeCall "zip" ⟨[a,b,c],[]⟩=pure ():=by kernel_rfl
theorem newCall_zip_3(a b c:Value):checkBuiltinCall "zip.__new__" ⟨[.type "zip",a,b,c],[]⟩=pure ():=by kernel_rfl
theorem args_object_init_4(a b c d:Value):argsOk "object.__init__" ⟨[a,b,c,d],[]⟩:=by unfold argsOk;rw[signature?_of (id:="object.__init__") (n:=['_','_','t','i','n','i','_','_']) (o:=['t','c','e','j','b','o']) (by kernel_rfl) F.owner_object];kernel_rfl
end F3
noncomputable abbrev zA(h:Heap)(a:Addr):Heap:=h.push { cls:=.type "list_iterator",data:=.fields #[.ref a,.int 0 0] }
noncomputable abbrev zB(h:Heap)(a b:Addr):Heap:=(zA h a).push { cls:=.type "list_iterator",data:=.fields #[.ref b,.int 0 0] }
noncomputable abbrev zC(h:Heap)(a b c:Addr):Heap:=(zB h a b).push { cls:=.type "list_iterator",data:=.fields #[.ref c,.int 0 0] }
noncomputable abbrev zD(h:Heap)(a b c:Addr):Heap:=(zC h a b c).push { cls:=.type "tuple",data:=.seq #[.ref h.objs.size,.ref (zA h a).objs.size,.ref (zB h a b).objs.size] }
noncomputable abbrev zE(h:Heap)(a b c:Addr):Heap:=(zD h a b c).push { cls:=.type "tuple",data:=.seq #[.none,.none,.none] }
noncomputable abbrev zF(h:Heap)(a b c:Addr):Heap:=(zE h a b c).push { cls:=.type "zip",data:=.fields #[.none,.bool false,.bool false,.ref (zC h a b c).objs.size,.ref (zD h a b c).objs.size] }
theorem GV(a b c:Addr)(o p q:Array Value) :
  Meets (Builtin.«zip.__new__» ⟨[.type "zip",.ref a,.ref b,.ref c],[]⟩) (fun _ R s=>s.heap.IsList a o/\s.heap.IsList b p/\s.heap.IsList c q/\
   R (.ok (.ret (.ref (zE s.heap a b c).objs.size))) { s with heap:=zF s.heap a b c }):=
 .of_wp fun t w A R s h=>by
  obtain⟨e,g,d,f,os⟩:=s;obtain⟨i,j,k,h⟩:=h;have r:=sub_zip;have l:Heap.IsList (Shared.heap ⟨e,g,d,f,os⟩) a o:=i;have m:Heap.IsList (Shared.heap ⟨e.push { cls:=.type "list_iterator",data:=.fields #[.ref a,.int 0 0] },g,d,f,os⟩) b p:=Heap.IsList.push j _;have n:Heap.IsList (Shared.heap ⟨(e.push { cls:=.type "list_iterator",data:=.fields #[.ref a,.int 0 0] }).push { cls:=.type "list_iterator",data:=.fields #[.ref b,.int 0 0] },g,d,f,os⟩) c q:=Heap.IsList.push (Heap.IsList.push k _) _
  wp_walk using wpAny_pyIter_list l,wpAny_pyIter_list m,wpAny_pyIter_list n
  exact⟨_,rfl,h⟩
section
variable{prog:Program}{w:World}{A:Around}{E:Value->Shared->Prop}{s:Shared}
theorem GW{a b d:Addr}{q r t:Array Value}{Q:Value->Shared->Prop}(f:s.heap.IsList a q)(g:s.heap.IsList b r)(i:s.heap.IsList d t)
  (h:∀e,er e (s.heap.objs.size+5) (s.heap.objs.size+3) (s.heap.objs.size+4) .none (.bool false)->di e (s.heap.objs.size+3) (.ref s.heap.objs.size) (.ref (s.heap.objs.size+1)) (.ref (s.heap.objs.size+2))->
   di e (s.heap.objs.size+4) .none .none .none->e.IsListIter s.heap.objs.size a 0->e.IsListIter (s.heap.objs.size+1) b 0->e.IsListIter (s.heap.objs.size+2) d 0->e.objs.size=s.heap.objs.size+6->
   (∀c o,s.heap.get? c=some o->e.get? c=some o)->Q (.ref (s.heap.objs.size+5)) { s with heap:=e }) :
  wpAny (model prog w) A (call (.type "zip") [.ref a,.ref b,.ref d]) Q E s:=by
 refine callType_new F.called_zip (by decide) (F3.typeCall_zip_3 _ _ _) (F3.newCall_zip_3 _ _ _) (fun obj=>F3.args_object_init_4 obj _ _ _) F.entry_zip_new
  (GV a b d q r t) ⟨f,g,i,?_⟩
 have j:(zA s.heap a).objs.size=s.heap.objs.size+1:=Heap.size_push ..;have k:(zB s.heap a b).objs.size=s.heap.objs.size+2:=by rw[Heap.size_push,j]
 have l:(zC s.heap a b d).objs.size=s.heap.objs.size+3:=by rw[Heap.size_push,k]
 have m:(zD s.heap a b d).objs.size=s.heap.objs.size+4:=by rw[Heap.size_push,l]
 have n:(zE s.heap a b d).objs.size=s.heap.objs.size+5:=by rw[Heap.size_push,m]
 have y:(zF s.heap a b d).objs.size=s.heap.objs.size+6:=by rw[Heap.size_push,n]
 have p:(zF s.heap a b d).get? (zE s.heap a b d).objs.size=some _:=Heap.get?_push_size _ rfl;have u:(zF s.heap a b d).get? (zD s.heap a b d).objs.size=some _:=aS _ (Heap.get?_push_size _ rfl);have v:(zF s.heap a b d).get? (zC s.heap a b d).objs.size=some _:=aS _ (aS _ (Heap.get?_push_size _ rfl));have g3:(zF s.heap a b d).get? (zB s.heap a b).objs.size=some _:=aS _ (aS _ (aS _ (Heap.get?_push_size _ rfl)));have g2:(zF s.heap a b d).get? (zA s.heap a).objs.size=some _:=aS _ (aS _ (aS _ (aS _ (Heap.get?_push_size _ rfl))));have g1:(zF s.heap a b d).get? s.heap.objs.size=some _:=aS _ (aS _ (aS _ (aS _ (aS _ (Heap.get?_push_size _ rfl)))));show _/\_;rw[l,m,n] at p;rw[j,k,l] at v;rw[m] at u;rw[k] at g3;rw[j] at g2;rw[n];exact⟨⟨_,p,rfl⟩,h _ p v u ⟨_,g1,rfl,rfl⟩ ⟨_,g2,rfl,rfl⟩ ⟨_,g3,rfl,rfl⟩ y fun c o x=>
  aS _ (aS _ (aS _ (aS _ (aS _ (aS _ x)))))⟩
theorem GX{z TI TO k n p L M N:Addr}{g S T:Array Value}{Q:Value->Shared->Prop}(hh:A.handled=none)
  (nd:[z,TI,TO,k,n,p].Nodup) (hl:∀l∈[L,M,N],∀j∈[z,TI,TO,k,n,p],l≠j) (x:∀j∈[z,TI,TO,k,n,p,L,M,N],j<s.heap.objs.size)
  (y:er s.heap z TI TO .none (.bool false)) (ti:di s.heap TI (.ref k) (.ref n) (.ref p)) (to:di s.heap TO .none .none .none)
  (h1:s.heap.IsListIter k L 0) (h2:s.heap.IsListIter n M 0) (h3:s.heap.IsListIter p N 0) (U:s.heap.IsList L g) (X:s.heap.IsList M S) (Y:s.heap.IsList N T)
  (e2:S.size=g.size) (e3:T.size=g.size) (B:0<g.size) (hn:g.size<=sizeLine)
  (hQ:∀f r c,(∀b o,b∉[z,TO,k,n,p]->s.heap.get? b=some o->f.get? b=some o)->f.get? s.heap.objs.size=some { cls:=.type "list",dict:=none,data:=.seq r.toArray c,slots:=#[] }->r.length=g.size->pI f (s.heap.objs.size+1) g S T r->
   Q (.ref s.heap.objs.size) { s with heap:=f }):wpAny (model prog w) A (call (.type "list") [.ref z]) Q E s:=by
 have C:s.heap.objs.size∉[z,TI,TO,k,n,p,L,M,N]:=fun hm=>Nat.lt_irrefl _ (x _ hm);have Z:s.heap.objs.size≠z:=fun e=>C (by simp[e]);refine callType_codes (Q₁:=fun obj s₁=>obj=.ref s.heap.objs.size/\s₁ = { s with heap:=s.heap.push { cls:=.type "list",data:=.seq #[] } }) F.called_list (F.typeCall_list_1 _) F.entry_list_init
  (code_list_new _ ⟨rfl,rfl⟩) fun obj s₁ h₁=>?_
 obtain⟨rfl,rfl⟩:=h₁;have O:(s.heap.push { cls:=.type "list",data:=.seq #[] }).get? s.heap.objs.size=some { cls:=.type "list",data:=.seq #[] }:=Heap.get?_push_size _ rfl;have t:∀f,er f z TI TO .none (.bool false)->Shared.TypeIs { s with heap:=f } (.ref z) "zip":=fun f q=>⟨_,q,rfl⟩
 refine⟨⟨_,O,rfl⟩,F.args_list_init_2 _ _,?_⟩;have pu:∀b o,s.heap.get? b=some o->(s.heap.push { cls:=.type "list",data:=.seq #[] }).get? b=some o:=fun b o e=>aS _ e;show wpAny _ A.in1.in1 (do let old <-Builtin.List.listItems (.ref s.heap.objs.size);Builtin.List.listUpdate (.ref s.heap.objs.size) (fun _=>#[]);letGo old.toList.reverse;Builtin.List.listExtendWith (.ref s.heap.objs.size) (.ref z) .none) _ _ _;refine aa ?_;unfold Builtin.List.listItems;refine aa (wpAny_seqItems O rfl (av ?_));show wpAny _ _ (updateSeq s.heap.objs.size (fun _=>#[]) >>= fun _=>letGo (#[]:Array Value).toList.reverse >>= fun _=>Builtin.List.listExtendWith (.ref s.heap.objs.size) (.ref z) .none) _ _ _;refine aa (wpAny_updateSeq O rfl ?_);have u:=Heap.get?_update_self (Obj.mapSeq (fun _=>(#[]:Array Value))) O rfl;refine aa (wpAny_letGo ?_);generalize D:(s.heap.push { cls:=.type "list",data:=.seq #[] }).update s.heap.objs.size (Obj.mapSeq (fun _=>(#[]:Array Value)))=i at u ⊢;have d:∀b o,s.heap.get? b=some o->i.get? b=some o:=fun b o e=>by rw[<-D];exact(Heap.get?_update_other _ _ (Nat.ne_of_gt (ba e))).trans (pu b o e)
 have BX:i.objs.size=s.heap.objs.size+1:=by rw[<-D,show((s.heap.push { cls:=.type "list",data:=.seq #[] }).update s.heap.objs.size (Obj.mapSeq (fun _=>(#[]:Array Value)))).objs.size=(s.heap.push { cls:=.type "list",data:=.seq #[] }).objs.size from(Heap.SameBut.update ..).1,Heap.size_push]
 unfold Builtin.List.listExtendWith;refine aa (wpAny_typeOf (t _ (d _ _ y)) ?_);have g1:Builtin.List.listSameRef (.ref s.heap.objs.size) (.ref z)=false:=by simp[Builtin.List.listSameRef,Z]
 have g2:(Value.type "zip"==Value.type "list")=false:=by decide
 have g3:(Value.type "zip"==Value.type "tuple")=false:=by decide
 simp only[g1,g2,g3,Bool.or_false,Bool.false_eq_true,if_false];refine aa (wpAny_pyIter_zip (s:={ s with heap:=i }) (d _ _ y) ?_);refine aa (wpAny_holding ?_);unfold Builtin.List.listLengthHint;refine aa (wpAny_specialOf (t _ (d _ _ y)) F3.zip_no_len ?_);show wpAny _ _ (specialOf (Value.ref z) (Str.ofString "__length_hint__") >>= _) _ _ _;refine aa (wpAny_specialOf (t _ (d _ _ y)) F3.zip_no_hint ?_);refine av ?_;show wpAny _ _ (rule "list.extend.makes-room" >>= fun _=>Builtin.List.listTouch (.ref s.heap.objs.size) >>= fun _=>
  again (.builtin "list.extend.loop" ⟨[.ref s.heap.objs.size,.ref z,.none],[]⟩)) _ _ _
 refine aa (wpAny_rule ?_);refine aa ?_;show wpAny _ _ (updateSeq s.heap.objs.size (·.push .none) >>= fun _=>updateSeq s.heap.objs.size (·.pop)) _ _ _;refine aa (wpAny_updateSeq u rfl ?_);have G:=Heap.get?_update_self (Obj.mapSeq (·.push Value.none)) u rfl;refine wpAny_updateSeq (hz:=by seq_fits) G rfl ?_;have H:=Heap.get?_update_self (Obj.mapSeq (·.pop)) G rfl;generalize I:(i.update s.heap.objs.size (Obj.mapSeq (·.push Value.none))).update s.heap.objs.size (Obj.mapSeq (·.pop))=H2 at H ⊢;have a:∀b o,s.heap.get? b=some o->H2.get? b=some o:=fun b o e=>by rw[<-I];exact(Heap.get?_update_other _ _ (Nat.ne_of_gt (ba e))).trans ((Heap.get?_update_other _ _ (Nat.ne_of_gt (ba e))).trans (d b o e))
 have BY:H2.objs.size=s.heap.objs.size+1:=by
  rw[<-I,show((i.update s.heap.objs.size (Obj.mapSeq (·.push Value.none))).update s.heap.objs.size (Obj.mapSeq (·.pop))).objs.size=(i.update s.heap.objs.size (Obj.mapSeq (·.push Value.none))).objs.size from(Heap.SameBut.update ..).1,
   show(i.update s.heap.objs.size (Obj.mapSeq (·.push Value.none))).objs.size=i.objs.size from(Heap.SameBut.update ..).1,BX]
 refine av ⟨plainId_quiet F.plain_extend_loop _,GU (A:=A.in1) (n₀:=s.heap.objs.size+1) (show A.in1.handled=none from hh) nd hl C (fun j R=>?_) e2 e3 B hn _ g.size 0 _ [] _ rfl (Nat.zero_le _)
  ⟨⟨_,_,a _ _ y,.inl rfl,.inl ⟨rfl,rfl,rfl⟩⟩,a _ _ ti,⟨_,_,_,a _ _ to⟩,h1.at fun o e=>a _ o e,h2.at fun o e=>a _ o e,h3.at fun o e=>a _ o e,U.at fun o e=>a _ o e,X.at fun o e=>a _ o e,Y.at fun o e=>a _ o e⟩
  (Nat.le_of_eq BY.symm) H rfl (fun j v h=>by simp at h) fun f J c' a0 a1 a2 a3=>?_⟩
 ·rcases List.mem_cons.mp R with rfl | R
  ·exact Nat.lt_succ_self _
  ·refine Nat.lt_succ_of_lt (x j ?_);simp only[List.mem_cons,List.not_mem_nil,or_false] at R ⊢;rcases R with q | q | q | q | q | q<;>simp[q]
 ·refine⟨rfl,hQ f J c' (fun b o hb e=>a0 b o (fun m=>?_) (a b o e)) a1 a2 a3⟩;rcases List.mem_cons.mp m with q | q
  ·exact absurd (ba e) (by rw[q];exact Nat.lt_irrefl _)
  ·exact hb q
end
end L2
namespace L2
open PySem PySem.Spec PyProof.Rows
noncomputable def cI:List PyData->Bool
 | []=>true
 | .tuple _::_=>true
 | _::a=>!a.isEmpty&&cI a
def ko(H:Hp)(a:Addr)(b:List V)(c:List PyData):Prop:=H a=some (.tup b)\/(∃o,H a=some (.frz o (.tup b)))/\cI c=true
theorem ko.mono{H b:Hp}{a:Addr}{c:List V}{d:List PyData}(s:bX H b)(h:ko H a c d):ko b a c d:=h.imp (fun e=>s _ _ e) fun⟨⟨o,e⟩,k⟩=>⟨⟨o,s _ _ e⟩,k⟩
theorem ko.rd{H:Hp}{a:Addr}{b:List V}{c:List PyData}(h:ko H a b c):Rd H a (.tup b):=h.imp id fun z=>z.1
mutual
inductive DV (H:Hp):V->PyData->Prop where
 | non:DV H .non .none
 | bl (b:Bool):DV H (.bl b) (.bool b)
 | int (i:Int):DV H (.int i) (.int i)
 | str (x:Str):DV H (.str x) (.str x)
 | lst {a:Addr}{xs:List V}{ds:List PyData}:H a=some (.lst xs)->aI H xs ds->DV H (.ref a) (.list ds)
 | tup {a:Addr}{xs:List V}{ds:List PyData}:ko H a xs ds->aI H xs ds->DV H (.ref a) (.tuple ds)
inductive aI (H:Hp):List V->List PyData->Prop where
 | nil:aI H [] []
 | cons {x:V}{xs:List V}{d:PyData}{ds:List PyData}:DV H x d->aI H xs ds->aI H (x::xs) (d::ds)
end
section
variable{H H':Hp}
mutual
theorem DV.mono(s:bX H H'):∀{v:V}{d:PyData},DV H v d->DV H' v d
 | _,_,.non=>.non
 | _,_,.bl b=>.bl b
 | _,_,.int i=>.int i
 | _,_,.str x=>.str x
 | _,_,.lst h r=>.lst (s _ _ h) (aI.mono s r)
 | _,_,.tup h r=>.tup (h.mono s) (aI.mono s r)
theorem aI.mono(s:bX H H'):∀{vs:List V}{ds:List PyData},aI H vs ds->aI H' vs ds
 | _,_,.nil=>.nil
 | _,_,.cons h r=>.cons (DV.mono s h) (aI.mono s r)
end
theorem aI.length:∀{vs:List V}{a:List PyData},aI H vs a->vs.length=a.length
 | _,_,.nil=>rfl
 | _,_,.cons _ r=>congrArg (·+1) r.length
theorem aI.append:∀{vs a:List V}{b c:List PyData},aI H vs b->aI H a c->aI H (vs++a) (b++c)
 | _,_,_,_,.nil,s=>s
 | _,_,_,_,.cons h r,s=>.cons h (r.append s)
theorem aI.get:∀{vs:List V}{a:List PyData}{i:Nat}{d:PyData},aI H vs a->a[i]? = some d->∃v,vs[i]? = some v/\DV H v d
 | _,_,_,_,.nil,e=>by simp at e
 | _,_,0,_,.cons h _,e=>by simp at e;subst e;exact⟨_,rfl,h⟩
 | _,_,i+1,d,.cons _ r,e=>by obtain⟨v,h1,h2⟩:=r.get (i:=i) (d:=d) (by simpa using e);exact⟨v,by simpa using h1,h2⟩
theorem aI.get':∀{vs:List V}{a:List PyData}{i:Nat}{v:V},aI H vs a->vs[i]? = some v->∃d,a[i]? = some d/\DV H v d
 | _,_,_,_,.nil,e=>by simp at e
 | _,_,0,_,.cons h _,e=>by simp at e;subst e;exact⟨_,rfl,h⟩
 | _,_,i+1,d,.cons _ r,e=>by obtain⟨v,h1,h2⟩:=r.get' (i:=i) (v:=d) (by simpa using e);exact⟨v,by simpa using h1,h2⟩
theorem aI.drop:∀{vs:List V}{a:List PyData}(n:Nat),aI H vs a->aI H (vs.drop n) (a.drop n)
 | _,_,0,r=>r
 | _,_,_+1,.nil=>.nil
 | _,_,n+1,.cons _ r=>r.drop n
theorem bZ{a:Addr}{o:HO}(h:H a=none):bX H (bp H a o):=fun b u e=>by rw[ck (gd e h)];exact e
theorem DV.tup_inv{v:V}{b:List PyData}(h:DV H v (.tuple b)):∃a c,v=.ref a/\Rd H a (.tup c)/\aI H c b:=by cases h with | tup h r=>exact⟨_,_,rfl,h.rd,r⟩
theorem DV.tup_invK{v:V}{b:List PyData}(h:DV H v (.tuple b))(d:cI b=false):∃a c,v=.ref a/\H a=some (.tup c)/\aI H c b:=by cases h with | tup h r=>exact⟨_,_,rfl,h.elim id (fun z=>by rw[d] at z;cases z.2),r⟩
theorem DV.lst_inv{v:V}{b:List PyData}(h:DV H v (.list b)):∃a c,v=.ref a/\H a=some (.lst c)/\aI H c b:=by cases h with | lst h r=>exact⟨_,_,rfl,h,r⟩
theorem DV.int_inv{v:V}{i:Int}(h:DV H v (.int i)):v=.int i:=by cases h;rfl
theorem DV.str_inv{v:V}{x:Str}(h:DV H v (.str x)):v=.str x:=by cases h;rfl
theorem DV.bl_inv{v:V}{b:Bool}(h:DV H v (.bool b)):v=.bl b:=by cases h;rfl
theorem DV.non_inv{v:V}(h:DV H v .none):v=.non:=by cases h;rfl
end
section
variable{X:Cx}{pins:List (Addr×Obj)}{Y:St}{H:Hp}{s:Shared}
mutual
theorem Inv.reads(I:Inv X pins Y H s):∀{v:V}{d:PyData}{u:Value},DV H v d->bd v u->∃as,Reads s.heap u d as
 | _,_,_,.non,r=>by cases r;exact⟨_,.none⟩
 | _,_,_,.bl b,r=>by cases r;exact⟨_,.bool b⟩
 | _,_,_,.int i,r=>by obtain⟨t,rfl⟩:=r;exact⟨_,.int i t⟩
 | _,_,_,.str x,r=>by obtain⟨t,rfl⟩:=r;exact⟨_,.str x t⟩
 | _,_,_,.lst h q,r=>by cases r;obtain⟨_,its,n,rv,e⟩:=I.hok _ _ h;obtain⟨as,z⟩:=I.readsAll q rv;exact⟨_,reads_list_at e rfl rfl (by simpa using z)⟩
 | _,_,_,.tup h q,r=>by cases r;obtain⟨_,its,rv,o,e,c,n,d⟩:=h.rd.ok I.hok;obtain⟨as,z⟩:=I.readsAll q rv;exact⟨_,reads_tuple_at e c d (by simpa using z)⟩
theorem Inv.readsAll(I:Inv X pins Y H s):∀{vs:List V}{ds:List PyData}{us:List Value},aI H vs ds->bi vs us->∃as,ReadsAll s.heap us ds as
 | _,_,_,.nil,.nil=>⟨_,.nil⟩
 | _,_,_,.cons h q,.cons r rr=>by obtain⟨as,z⟩:=I.reads h r;obtain⟨bs,z'⟩:=I.readsAll q rr;exact⟨_,.cons z z'⟩
end
end
section
variable{X:Cx}
noncomputable def tw(neg:Bool):R2:=fun x y H Q=>∃d e,DV H x d/\DV H y e/\SeqAt.shaped d=true/\SeqAt.shaped e=true/\Q (.bl (PyData.eqv d e != neg)) H
theorem ya(b:X.A.units+64<cLine):cA X (compareOp .Eq) (tw false):=by intro a s Y H x y v u Q I c f h;obtain⟨d,e,h1,h2,h3,g,q⟩:=h;obtain⟨as,i⟩:=I.reads h1 c;obtain⟨bs,j⟩:=I.reads h2 f;exact eq_dataH i j h3 g b ⟨_,H,I,by show Value.bool (PyData.eqv d e)=Value.bool (PyData.eqv d e != false);rw[Bool.bne_false],q⟩
theorem GY(b:X.A.units+64<cLine):cA X (compareOp .NotEq) (tw true):=by intro a s Y H x y v u Q I c f h;obtain⟨d,e,h1,h2,h3,g,q⟩:=h;obtain⟨as,i⟩:=I.reads h1 c;obtain⟨bs,j⟩:=I.reads h2 f;exact ne_dataH i j h3 g b ⟨_,H,I,by show Value.bool (!PyData.eqv d e)=Value.bool (PyData.eqv d e != true);rw[Bool.bne_true],q⟩
@[simp] noncomputable def tz:PyData->String
 | .none=>"NoneType"
 | .bool _=>"bool"
 | .int _=>"int"
 | .str _=>"str"
 | .list _=>"list"
 | .tuple _=>"tuple"
 | .dict _=>"dict"
noncomputable def GZ:List V->Hp->VK->Prop:=fun a H Q=>∃x d n b,a=[x,.ty n]/\DV H x d/\(∀K:Frag,kitOne K (.type (tz d)) (.type n)=some b)/\Q (.bl b) H
theorem Ha:eU X (.builtin "isinstance") GZ:=by
 intro g s Y H k m Q I r h;obtain⟨x,d,n,b,rfl,hd,e,q⟩:=h;obtain⟨u,w,rfl,f,l⟩:=vals2 r;cases l;have fin:∀j,EP X g Y Q (.bool b) { s with toks:=j }:=fun j=>⟨.bl b,H,I.tok j,rfl,q⟩
 cases hd with
 | non=>exact mW I f .non (e _) fin
 | bl c=>exact mW I f (.bl c) (e _) fin
 | int i=>exact mW I f (.int i) (e _) fin
 | str z=>exact mW I f (.str z) (e _) fin
 | lst h r=>exact mW I f (.lst h) (e _) fin
 | @tup a k t h r=>cases(show u=Value.ref a from f);obtain⟨_,_,_,p⟩:=h.rd.ok I.hok;obtain⟨o,h1,h2,_⟩:=p;exact kia_one PySem.W.kitx_tuple I.kIn ⟨o,h1,h2⟩ (e _) (fun z=>nomatch z) fin
end
section
variable{X:Cx}{pins:List (Addr×Obj)}{Y:St}{H:Hp}{s:Shared}{h':Heap}
theorem Inv.turnedNew{ch:List Addr}{a:Addr}{o:HO}{t':Nat}(I:Inv X pins Y H s)(f:∀b∈ch,fK X pins H b)(k:∀b d,b∉ch->s.heap.get? b=some d->h'.get? b=some d)(p:s.heap.objs.size<=a)
  (there:∀b∈ch,∀d,s.heap.get? b=some d->∃l,h'.get? b=some l) (new:cz X.prog X.w (bp H a o) h' a o):Inv X pins Y (bp H a o) { s with heap:=h',toks:=t' }:=by
 have i:=I.hok.fresh p;have j:∀b u,H b=some u->b∉ch:=fun b u e z=>by rw[(f b z).1] at e;cases e
 refine I.step (g':=s.gens) (d':=s.drawn) (ch:=ch) (fun b h=>⟨(f b h).2.2.2.1,(f b h).2.1,(f b h).2.2.2.2.1,(f b h).2.2.2.2.2⟩) (fun b d _ _ g e _=>k b d g e) (fun b d _ _ g e _=>⟨d.slots,k b d g e⟩)
  (fun b d _ e n=>by rw[ck (Nat.ne_of_lt (Nat.lt_of_lt_of_le (ba e) p))];exact n) (fun b d g e=>⟨d,k b d g e⟩) (fun b x e=>bZ i b _ e) (fun b d u e=>bZ i b _ e) (fun b D e=>⟨#[],by rw[bZ i b _ e];simp⟩) (fun m y=>?_) (fun b u e=>?_) I.bare
 ·obtain⟨t,A,B,C,r⟩:=y;exact⟨t,A,B,k _ t (fun z=>(f _ z).2.1 rfl) C,r⟩
 ·by_cases h:b=a
  ·subst h;rw[dB] at e;cases e;exact new
  ·rw[ck h] at e;refine(I.hok b u e).stay (fun c v g q=>k c v ?_ q) (fun c q=>bZ i c _ q) fun c x q=>bZ i c _ q;rcases g with z | z
   ·rw[z];exact j b u e
   ·exact j c _ z
end
end L2
namespace L2.L3
open PySem PySem.Spec PyProof.Rows
noncomputable def au(O:List Addr)(H:Hp):Hp:=fun b=>if b∈O then none else H b
section
variable{O O':List Addr}{H H' H1 H2:Hp}
theorem gG{b:Addr}{o:HO}(h:H b=some o)(n:b∉O):au O H b=some o:=by unfold au;rw[if_neg n];exact h
theorem da{b:Addr}{o:HO}(h:au O H b=some o):H b=some o/\b∉O:=by
 unfold au at h
 by_cases e:b∈O
 ·rw[if_pos e] at h;cases h
 ·rw[if_neg e] at h;exact⟨h,e⟩
theorem gi{a:Addr}{u:HO}(h:Rd (au O H) a u):Rd H a u/\a∉O:=by
 rcases h with h | ⟨o,h⟩
 ·obtain⟨e,n⟩:=da h;exact⟨.inl e,n⟩
 ·obtain⟨e,n⟩:=da h;exact⟨.inr ⟨o,e⟩,n⟩
theorem kq:bX (au O H) H:=fun b o h=>(da h).1
structure aU (O:List Addr) (H:Hp) (O':List Addr) (H':Hp):Prop where
 keep:∀b o,b∉O->H b=some o->H' b=some o
 new:∀a∈O',a∈O\/H a=none
theorem aU.refl:aU O H O H:=⟨fun _ _ _ h=>h,fun _ h=>.inl h⟩
theorem aU.trans{f g i:List Addr}{j:Hp}(a:aU f H1 g H2)(b:aU g H2 i j):aU f H1 i j:=by
 have k:∀c o,c∉f->H1 c=some o->c∉g:=fun c o d e z=>(a.new c z).elim d fun n=>by rw[n] at e;cases e
 refine⟨fun c o d e=>b.keep c o (k c o d e) (a.keep c o d e),fun c h=>?_⟩
 by_cases d:c∈f
 ·exact .inl d
 ·refine .inr ?_;cases e:H1 c with
  | none=>rfl
  | some o=>
   rcases b.new c h with z | z
   ·exact absurd z (k c o d e)
   ·rw[a.keep c o d e] at z;cases z
theorem aU.same(s:bX H H'):aU O H O H':=⟨fun b o _ e=>s b o e,fun _ h=>.inl h⟩
theorem aU.hid(s:aU O H O' H'):bX (au O H) (au O' H'):=fun b o e=>by
 obtain⟨a,n⟩:=da e;refine gG (s.keep b o n a) fun z=>?_;rcases s.new b z with q | q
 ·exact n q
 ·rw[q] at a;cases a
theorem ng(s:bX H H'):bX (au O H) (au O H'):=(aU.same s).hid
theorem Hb(s:∀a∈O',a∈O):bX (au O H) (au O' H):=fun b o e=>by obtain⟨c,n⟩:=da e;exact gG c fun z=>n (s b z)
end
inductive Fl where
 | d (x:PyData) | l (ds:List PyData) | m (tk:Bool) (kvs:List (PyData×PyData))
inductive Bx where
 | l (ds:List PyData) | m (tk:Bool) (kvs:List (PyData×PyData)) | o (C:Addr) (fs:List (Str×Fl)) | sd (fs:List (Str×Fl)) | ll (xs:List (List PyData)) | pr (C:Addr) (fs:List (Str×Fl)) (d:PyData)
inductive aj where
 | dat (d:PyData)
 | own (io:Bool) (b:Bx)
 | scr (ns:List Int)
 | exc (c:Str)
 | vw (b:Bx)
noncomputable abbrev ao:=List (Option aj)
structure Fx where
 H₀:Hp
 A₀:List Addr
 O₀:List Addr
 I₀:Nat->Addr
def gH(K:Frag)(H:Hp)(a:Addr)(c:List Int):Prop:=c.length<=63/\((∃o,H a=some (.frz o (.lst (c.map V.int))))\/
 ∃(o:Obj) (b:Array Value) (n:Nat),K.lookup a=some o/\o.cls=.type "list"/\o.dict=none/\o.data=.seq b n/\b.size<=sizeLine/\bi (c.map V.int) b.toList)
theorem gH.sq{K:Frag}{H:Hp}{a:Addr}{b:List Int}(h:gH K H a b):cU K H a (b.map V.int):=h.2.elim (fun⟨o,e⟩=>.inl (.inr ⟨o,e⟩)) .inr
theorem gH.mono{K:Frag}{H b:Hp}{a:Addr}{c:List Int}(h:gH K H a c)(k:∀o u,H a=some (.frz o u)->b a=some (.frz o u)):gH K b a c:=⟨h.1,h.2.imp (fun⟨o,e⟩=>⟨o,k _ _ e⟩) id⟩
def Hc(K:Frag)(a:Addr)(c:Str)(h:Heap):Prop:=∃C o,nsIn K mainGlobals c=some (some (.ref C))/\h.get? a=some o/\o.cls=.ref C
noncomputable def gj:aM->PyData
 | .inl i=>.int i
 | .inr x=>.str x
noncomputable def pJ(a:List aM):PyData:=.tuple (a.map gj)
noncomputable def fM(G H:Hp)(a:Addr):Bool->List (PyData×PyData)->Prop
 | false,b=>∃c:List (aM×V),H a=some (.dK c)/\Paired (fun(p:aM×V) (q:PyData×PyData)=>gj p.1=q.1/\DV G p.2 q.2) c b
 | true,b=>∃c:List (List aM×V),H a=some (.dT c)/\Paired (fun(p:List aM×V) (q:PyData×PyData)=>pJ p.1=q.1/\DV G p.2 q.2) c b
noncomputable def kr(G H:Hp)(v:V):Fl->List Addr->Prop
 | .d x,b=>b=[]/\DV G v x
 | .l f,b=>∃a e,v=.ref a/\b=[a]/\H a=some (.lst e)/\aI G e f
 | .m g c,b=>∃a,v=.ref a/\b=[a]/\fM G H a g c
inductive cj (G H:Hp):List (Str×V)->List (Str×Fl)->List (List Addr)->Prop where
 | nil:cj G H [] [] []
 | cons {n:Str}{v:V}{f:Fl}{fp:List Addr}{gs:List (Str×V)}{fs:List (Str×Fl)}{fps:List (List Addr)}:kr G H v f fp->cj G H gs fs fps->cj G H ((n,v)::gs) ((n,f)::fs) (fp::fps)
def pK(G H:Hp)(b:Addr)(a:List PyData):Prop:=∃vs,H b=some (.lst vs)/\aI G vs a
noncomputable def fB(G H:Hp)(a:Addr):Bx->List Addr->Prop
 | .l j,c=>c=[a]/\∃g,H a=some (.lst g)/\aI G g j
 | .m k i,c=>c=[a]/\fM G H a k i
 | .o C fs,c=>∃f e b,c=a::f::b.flatten/\H a=some (.ins C f e)/\H f=some (.own a)/\cj G H e fs b
 | .sd fs,c=>∃e b,c=a::b.flatten/\H a=some (.dK (e.map fun p=>(Sum.inr p.1,p.2)))/\cj G H e fs b
 | .ll g,c=>∃bs:List Addr,c=a::bs/\H a=some (.lst (bs.map V.ref))/\Paired (pK G H) bs g
 | .pr C fs d,c=>∃h v f e b,G a=some (.tup [.ref h,v])/\c=h::f::b.flatten/\H h=some (.ins C f e)/\H f=some (.own h)/\cj G H e fs b/\DV G v d
noncomputable def Mv:HO->Prop
 | .lst _=>True
 | .dK _=>True
 | .dT _=>True
 | .ins _ _ _=>True
 | .own _=>True
 | _=>False
noncomputable def dr(K:Frag)(H:Hp)(O:List Addr)(v:V):aj->List Addr->Prop
 | .dat d,_=>DV (au O H) v d
 | .own _ b,e=>∃a,v=.ref a/\fB (au O H) H a b e
 | .scr ns,_=>∃a,v=.ref a/\gH K H a ns
 | .exc c,_=>∃a φ,v=.ref a/\au O H a=some (.ext φ)/\∀h,φ h->Hc K a c h
 | .vw b,_=>∃a e,v=.ref a/\fB (au O H) (au O H) a b e
section
variable{G G' H H':Hp}{a:Addr}{v:V}{fp:List Addr}
theorem fM.keep{c:Bool}{b:List (PyData×PyData)}(h:fM G H a c b)(k:H' a=H a)(g:bX G G'):fM G' H' a c b:=by
 cases c with
 | false=>obtain⟨d,e,p⟩:=h;exact⟨d,k.trans e,Paired.mapP p fun _ _ z=>⟨z.1,DV.mono g z.2⟩⟩
 | true=>obtain⟨d,e,p⟩:=h;exact⟨d,k.trans e,Paired.mapP p fun _ _ z=>⟨z.1,DV.mono g z.2⟩⟩
theorem fM.live{c:Bool}{b:List (PyData×PyData)}(h:fM G H a c b):∃o,H a=some o/\Mv o:=by
 cases c with
 | false=>obtain⟨d,e,p⟩:=h;exact⟨_,e,trivial⟩
 | true=>obtain⟨d,e,p⟩:=h;exact⟨_,e,trivial⟩
theorem kr.keep{f:Fl}(h:kr G H v f fp)(k:∀c∈fp,H' c=H c)(g:bX G G'):kr G' H' v f fp:=by
 cases f with
 | d x=>exact⟨h.1,DV.mono g h.2⟩
 | l p=>obtain⟨a,j,e,b,i,n⟩:=h;exact⟨a,j,e,b,(k a (by simp[b])).trans i,aI.mono g n⟩
 | m q o=>obtain⟨a,e,b,i⟩:=h;exact⟨a,e,b,i.keep (k a (by simp[b])) g⟩
theorem kr.live{f:Fl}(h:kr G H v f fp):∀c∈fp,∃o,H c=some o/\Mv o:=by
 cases f with
 | d x=>obtain⟨rfl,_⟩:=h;intro c b;cases b
 | l j=>obtain⟨a,k,g,rfl,e,n⟩:=h;intro c b;obtain rfl:=List.mem_singleton.mp b;exact⟨_,e,trivial⟩
 | m p i=>obtain⟨a,g,rfl,e⟩:=h;intro c b;obtain rfl:=List.mem_singleton.mp b;exact e.live
theorem cj.keep{f:List (Str×V)}{fs:List (Str×Fl)}{d:List (List Addr)}(h:cj G H f fs d)(k:∀c∈d.flatten,H' c=H c)(g:bX G G'):cj G' H' f fs d:=by
 induction h with
 | nil=>exact .nil
 | cons a b i=>exact .cons (a.keep (fun c e=>k c (by simp[e])) g) (i fun c e=>k c (by rw[List.flatten_cons];exact bB _ e))
theorem cj.live{f:List (Str×V)}{fs:List (Str×Fl)}{e:List (List Addr)}(h:cj G H f fs e):∀c∈e.flatten,∃o,H c=some o/\Mv o:=by
 induction h with
 | nil=>intro c d;cases d
 | cons a b g=>
  intro c d;rw[List.flatten_cons] at d;rcases List.mem_append.mp d with d | d
  ·exact a.live c d
  ·exact g c d
theorem Lls.keep{bs:List Addr}{f:List (List PyData)}(h:Paired (pK G H) bs f)(k:∀c∈bs,H' c=H c)(g:bX G G'):Paired (pK G' H') bs f:=by
 induction h with
 | nil=>exact .nil
 | cons a b i=>obtain⟨vs,e,d⟩:=a;exact .cons ⟨vs,(k _ List.mem_cons_self).trans e,aI.mono g d⟩ (i fun c j=>k c (bq _ j))
theorem Lls.live{bs:List Addr}{g:List (List PyData)}(h:Paired (pK G H) bs g):∀c∈bs,∃o,H c=some o/\Mv o:=by
 induction h with
 | nil=>intro c f;cases f
 | cons a b i=>
  intro c f;obtain⟨vs,e,d⟩:=a;rcases List.mem_cons.mp f with rfl | f
  ·exact⟨_,e,trivial⟩
  ·exact i c f
theorem fB.keep{b:Bx}(h:fB G H a b fp)(k:∀c∈fp,H' c=H c)(g:bX G G'):fB G' H' a b fp:=by
 cases b with
 | l y=>obtain⟨rfl,s,e,d⟩:=h;exact⟨rfl,s,(k a (by simp)).trans e,aI.mono g d⟩
 | m z u=>obtain⟨rfl,d⟩:=h;exact⟨rfl,d.keep (k a (by simp)) g⟩
 | o C fs=>obtain⟨p,q,i,rfl,j,r,f⟩:=h;exact⟨p,q,i,rfl,(k a (by simp)).trans j,(k p (by simp)).trans r,f.keep (fun c n=>k c (by simp[n])) g⟩
 | sd fs=>obtain⟨q,i,rfl,j,f⟩:=h;exact⟨q,i,rfl,(k a (by simp)).trans j,f.keep (fun c n=>k c (by simp[n])) g⟩
 | ll s=>obtain⟨bs,rfl,j,f⟩:=h;exact⟨bs,rfl,(k a (by simp)).trans j,Lls.keep f (fun c n=>k c (by simp[n])) g⟩
 | pr C fs d=>obtain⟨t,v,p,q,i,w,rfl,j,r,f,x⟩:=h;exact⟨t,v,p,q,i,g _ _ w,rfl,(k t (by simp)).trans j,(k p (by simp)).trans r,f.keep (fun c n=>k c (by simp[n])) g,DV.mono g x⟩
theorem fB.live{b:Bx}(h:fB G H a b fp):∀c∈fp,∃o,H c=some o/\Mv o:=by
 cases b with
 | l s=>obtain⟨rfl,p,e,d⟩:=h;intro c g;obtain rfl:=List.mem_singleton.mp g;exact⟨_,e,trivial⟩
 | m t q=>obtain⟨rfl,d⟩:=h;intro c g;obtain rfl:=List.mem_singleton.mp g;exact d.live
 | o C fs=>
  obtain⟨r,n,j,rfl,i,k,f⟩:=h;intro c g;rcases List.mem_cons.mp g with rfl | g
  ·exact⟨_,i,trivial⟩
  ·rcases List.mem_cons.mp g with rfl | g
   ·exact⟨_,k,trivial⟩
   ·exact f.live c g
 | sd fs=>
  obtain⟨n,j,rfl,i,f⟩:=h;intro c g;rcases List.mem_cons.mp g with rfl | g
  ·exact⟨_,i,trivial⟩
  ·exact f.live c g
 | ll p=>
  obtain⟨bs,rfl,i,f⟩:=h;intro c g;rcases List.mem_cons.mp g with rfl | g
  ·exact⟨_,i,trivial⟩
  ·exact Lls.live f c g
 | pr C fs d=>
  obtain⟨u,v,r,n,j,w,rfl,i,k,f,x⟩:=h;intro c g;rcases List.mem_cons.mp g with rfl | g
  ·exact⟨_,i,trivial⟩
  ·rcases List.mem_cons.mp g with rfl | g
   ·exact⟨_,k,trivial⟩
   ·exact f.live c g
end
theorem dr.keep{K:Frag}{H g:Hp}{O l:List Addr}{v:V}{c:aj}{fp:List Addr}(h:dr K H O v c fp)(s:aU O H l g)(k:∀b∈fp,g b=H b)(z:∀b o u,H b=some (.frz o u)->g b=some (.frz o u)):dr K g l v c fp:=by
 cases c with
 | dat d=>exact DV.mono s.hid h
 | own io b=>obtain⟨a,e,q⟩:=h;exact⟨a,e,q.keep k s.hid⟩
 | scr ns=>obtain⟨a,f,q⟩:=h;exact⟨a,f,q.mono fun o u w=>z _ _ _ w⟩
 | exc c=>obtain⟨a,φ,f,i,q⟩:=h;exact⟨a,φ,f,s.hid _ _ i,q⟩
 | vw b=>obtain⟨a,j,f,q⟩:=h;exact⟨a,j,f,q.keep (fun c m=>by obtain⟨o,i,_⟩:=q.live c m;rw[i];exact s.hid _ _ i) s.hid⟩
structure cD (K:Frag) (F:Fx) (H:Hp) (Y:St) (U:ao) (W:List (List Addr)):Prop where
 at_:∀(i:Nat) (c:aj),U[i]? = some (some c)->∃v fp,Y[i]? = some (some v)/\W[i]? = some fp/\dr K H (W.flatten++F.O₀) v c fp
 nd:(W.flatten++F.O₀).Nodup
 kept:∀b o,b∉F.A₀->F.H₀ b=some o->H b=some o
 new:∀a∈W.flatten,a∈F.A₀\/F.H₀ a=none
 live:∀a∈W.flatten++F.O₀,∃o,H a=some o/\Mv o
 len:U.length=Y.length
 lw:W.length=U.length
 io:∀(i:Nat) (b:Bx),U[i]? = some (some (.own true b))->Y[i]? = some (some (.ref (F.I₀ i)))
def aC(K:Frag)(F:Fx)(H:Hp)(Y:St)(U:ao)(O:List Addr):Prop:=∃W,cD K F H Y U W/\O=W.flatten++F.O₀
theorem im{α:Type}{l:List α}{i j:Nat}{x y:α}(e:(l.set i x)[j]? = some y):(j=i/\y=x/\i<l.length)\/(j≠i/\l[j]? = some y):=by
 by_cases b:j=i
 ·subst b;have a:j<l.length:=by
   have:=(List.getElem?_eq_some_iff.mp e).1
   rwa [List.length_set] at this
  rw[List.getElem?_set_self a] at e;exact .inl ⟨rfl,(Option.some.inj e).symm,a⟩
 ·rw[List.getElem?_set_ne (Ne.symm b)] at e;exact .inr ⟨b,e⟩
theorem fN{α:Type}{W:List (List α)}{i:Nat}{c:List α}{a:α}(h:a∈(W.set i c).flatten):a∈c\/∃j l,j≠i/\W[j]? = some l/\a∈l:=by
 obtain⟨l,f,d⟩:=List.mem_flatten.mp h;obtain⟨j,g⟩:=List.getElem?_of_mem f;rcases im g with⟨_,rfl,_⟩ | ⟨b,e⟩
 ·exact .inl d
 ·exact .inr ⟨j,l,b,e,d⟩
theorem cK{α:Type}{W:List (List α)}{j:Nat}{l:List α}{a:α}(h:W[j]? = some l)(b:a∈l):a∈W.flatten:=List.mem_flatten.mpr ⟨l,List.mem_of_getElem? h,b⟩
theorem He{α:Type}{W:List (List α)}{i j:Nat}{b l:List α}{a:α}(c:j≠i)(h:W[j]? = some l)(d:a∈l):a∈(W.set i b).flatten:=cK (j:=j) (by rw[List.getElem?_set_ne (Ne.symm c)];exact h) d
theorem Hf{α:Type}{W:List (List α)}{i:Nat}{b:List α}{a:α}(c:i<W.length)(d:a∈b):a∈(W.set i b).flatten:=cK (j:=i) (List.getElem?_set_self c) d
theorem ni{α:Type}:∀{W:List (List α)}{i j:Nat}{l m:List α}{a:α},W.flatten.Nodup->W[i]? = some l->W[j]? = some m->i≠j->a∈l->a∉m
 | [],_,_,_,_,_,_,h,_,_,_=>by simp at h
 | w::W,0,0,_,_,_,_,_,_,d,_=>absurd rfl d
 | w::W,0,j+1,l,m,a,nd,h1,h2,_,b=>fun c=>by
  have e:w=l:=by simpa using h1
  subst e;rw[List.flatten_cons] at nd;exact(List.nodup_append.mp nd).2.2 a b a (cK (j:=j) (by simpa using h2) c) rfl
 | w::W,i+1,0,l,m,a,nd,h1,h2,_,b=>fun c=>by
  have e:w=m:=by simpa using h2
  subst e;rw[List.flatten_cons] at nd;exact(List.nodup_append.mp nd).2.2 a c a (cK (j:=i) (by simpa using h1) b) rfl
 | w::W,i+1,j+1,l,m,a,nd,h1,h2,d,b=>ni (W:=W) (i:=i) (j:=j) (by rw[List.flatten_cons] at nd;exact(List.nodup_append.mp nd).2.1) (by simpa using h1) (by simpa using h2) (by omega) b
theorem pL{α:Type}[DecidableEq α]:∀{W:List (List α)}{i:Nat}{fp O:List α},(W.flatten++O).Nodup->fp.Nodup->(∀a∈fp,(∀j l,j≠i->W[j]? = some l->a∉l)/\a∉O)->((W.set i fp).flatten++O).Nodup
 | [],i,fp,O,h,_,_=>by simpa using h
 | w::W,0,fp,O,h,f,hd=>by
  rw[List.set_cons_zero,List.flatten_cons,List.append_assoc];rw[List.flatten_cons,List.append_assoc] at h;refine List.nodup_append.mpr ⟨f,(List.nodup_append.mp h).2.1,fun a d b c e=>?_⟩;subst e;rcases List.mem_append.mp c with c | c
  ·obtain⟨l,g,k⟩:=List.mem_flatten.mp c;obtain⟨j,m⟩:=List.getElem?_of_mem g;exact(hd a d).1 (j+1) l (by omega) (by simpa using m) k
  ·exact(hd a d).2 c
 | w::W,i+1,fp,O,h,f,hd=>by
  rw[List.set_cons_succ,List.flatten_cons,List.append_assoc];rw[List.flatten_cons,List.append_assoc] at h;obtain⟨o,h2,h3⟩:=List.nodup_append.mp h;have n:=pL (W:=W) (i:=i) (fp:=fp) (O:=O) h2 f fun a d=>⟨fun j l m e=>(hd a d).1 (j+1) l (by omega) (by simpa using e),(hd a d).2⟩
  refine List.nodup_append.mpr ⟨o,n,fun a d b c e=>?_⟩;subst e;rcases List.mem_append.mp c with c | c
  ·rcases fN c with c | ⟨j,l,m,e,g⟩
   ·exact(hd a c).1 0 w (by omega) (by simp) d
   ·exact h3 a d a (bO _ (cK e g)) rfl
  ·exact h3 a d a (bB _ c) rfl
section
variable{K:Frag}{F:Fx}{H H':Hp}{Y:St}{U:ao}{O O':List Addr}{W:List (List Addr)}
theorem cD.nofrz(st:cD K F H Y U W){b:Addr}(h:b∈W.flatten++F.O₀){o:Obj}{u:HO}:H b≠some (.frz o u):=fun z=>by obtain⟨a,e,m⟩:=st.live b h;rw[z] at e;cases e;exact m
theorem cD.put(st:cD K F H Y U W){i:Nat}{v:V}{c:aj}{fp:List Addr}(p:i<U.length)
  (keep:∀j l b,j≠i->W[j]? = some l->b∈l->H' b=H b) (f:∀b∈F.O₀,H' b=H b) (frz:∀b o,b∉W.flatten++F.O₀->H b=some o->H' b=some o)
  (B:fp.Nodup) (ap:∀a∈fp,(∀j l,j≠i->W[j]? = some l->a∉l)/\a∉F.O₀) (new:∀a∈fp,a∈W.flatten\/H a=none) (r:∀a∈fp,∃o,H' a=some o/\Mv o)
  (y:aU (W.flatten++F.O₀) H ((W.set i fp).flatten++F.O₀) H'->dr K H' ((W.set i fp).flatten++F.O₀) v c fp) (s:∀b,c=.own true b->v=.ref (F.I₀ i)) :
  cD K F H' (Y.set i (some v)) (U.set i (some c)) (W.set i fp)/\aU (W.flatten++F.O₀) H ((W.set i fp).flatten++F.O₀) H':=by
 have bH:aU (W.flatten++F.O₀) H ((W.set i fp).flatten++F.O₀) H':=⟨frz,fun a h=>by
  rcases List.mem_append.mp h with h | h
  ·rcases fN h with h | ⟨j,l,_,e,m⟩
   ·exact(new a h).imp (bO _) id
   ·exact .inl (bO _ (cK e m))
  ·exact .inl (bB _ h)⟩
 have A:∀b o u,H b=some (.frz o u)->H' b=some (.frz o u):=fun b o u e=>frz b _ (fun z=>st.nofrz z e) e;have t:i<W.length:=by rw[st.lw];exact p
 refine⟨⟨fun j d e=>?_,pL st.nd B ap,fun b o n e=>?_,fun a h=>?_,fun a h=>?_,by rw[List.length_set,List.length_set,st.len],by rw[List.length_set,List.length_set,st.lw],fun j b e=>?_⟩,bH⟩
 ·rcases im e with⟨rfl,g,_⟩ | ⟨k,g⟩
  ·cases g;exact⟨v,fp,List.getElem?_set_self (by rw[<-st.len];exact p),List.getElem?_set_self t,y bH⟩
  ·obtain⟨w,l,h1,h2,h3⟩:=st.at_ j d g;exact⟨w,l,by rw[List.getElem?_set_ne (Ne.symm k)];exact h1,by rw[List.getElem?_set_ne (Ne.symm k)];exact h2,h3.keep bH (fun b C=>keep j l b k h2 C) A⟩
 ·have g:=st.kept b o n e
  by_cases x:b∈F.O₀
  ·rw[f b x];exact g
  ·refine frz b o (fun z=>?_) g;rcases List.mem_append.mp z with z | z
   ·rcases st.new b z with q | q
    ·exact n q
    ·rw[q] at e;cases e
   ·exact x z
 ·rcases fN h with h | ⟨j,l,_,e,m⟩
  ·rcases new a h with q | q
   ·exact st.new a q
   ·by_cases n:a∈F.A₀
    ·exact .inl n
    ·refine .inr ?_;cases e:F.H₀ a with
     | none=>rfl
     | some o=>rw[st.kept a o n e] at q;cases q
  ·exact st.new a (cK e m)
 ·rcases List.mem_append.mp h with h | h
  ·rcases fN h with h | ⟨j,l,k,e,m⟩
   ·exact r a h
   ·obtain⟨o,h1,h2⟩:=st.live a (bO _ (cK e m));exact⟨o,by rw[keep j l a k e m];exact h1,h2⟩
  ·obtain⟨o,h1,h2⟩:=st.live a (bB _ h);exact⟨o,by rw[f a h];exact h1,h2⟩
 ·rcases im e with⟨rfl,g,_⟩ | ⟨k,g⟩
  ·rw[List.getElem?_set_self (by rw[<-st.len];exact p),s b (Option.some.inj g).symm]
  ·rw[List.getElem?_set_ne (Ne.symm k)];exact st.io j b g
theorem cD.grow(st:cD K F H Y U W)(s:bX H H'):cD K F H' Y U W where
 at_:=fun i c e=>let⟨v,fp,h1,h2,h3⟩:=st.at_ i c e;⟨v,fp,h1,h2,h3.keep (.same s) (fun b hb=>by
  obtain⟨o,e1,_⟩:=st.live b (bO _ (cK h2 hb));rw[e1];exact s _ _ e1) fun b o u e=>s _ _ e⟩
 nd:=st.nd
 kept:=fun b o n e=>s b o (st.kept b o n e)
 new:=st.new
 live:=fun a h=>let⟨o,e,m⟩:=st.live a h;⟨o,s _ _ e,m⟩
 len:=st.len
 lw:=st.lw
 io:=st.io
theorem aC.grow(st:aC K F H Y U O)(s:bX H H'):aC K F H' Y U O:=let⟨W,h,e⟩:=st;⟨W,h.grow s,e⟩
theorem aC.nofree(st:aC K F H Y U O):∀p,H p=none->p∉O:=fun p a z=>by obtain⟨W,h,rfl⟩:=st;obtain⟨o,e,_⟩:=h.live p z;rw[a] at e;cases e
theorem aC.dat(st:aC K F H Y U O){i:Nat}{d:PyData}(e:U[i]? = some (some (.dat d))):∃v,Y[i]? = some (some v)/\DV (au O H) v d:=by obtain⟨W,h,rfl⟩:=st;obtain⟨v,a,h1,h2,h3⟩:=h.at_ i _ e;exact⟨v,h1,h3⟩
theorem aC.scr(st:aC K F H Y U O){i:Nat}{b:List Int}(e:U[i]? = some (some (.scr b))):∃a,Y[i]? = some (some (.ref a))/\gH K H a b:=by obtain⟨W,h,rfl⟩:=st;obtain⟨v,c,h1,h2,a,rfl,h3⟩:=h.at_ i _ e;exact⟨a,h1,h3⟩
theorem aC.set(st:aC K F H Y U O){i:Nat}{v:V}{d:PyData}(h:DV (au O H) v d):aC K F H (Y.set i (some v)) (U.set i (some (.dat d))) O:=by
 obtain⟨W,st,rfl⟩:=st;refine⟨W,⟨fun j c e=>?_,st.nd,st.kept,st.new,st.live,by rw[List.length_set,List.length_set,st.len],by rw[List.length_set,st.lw],fun j b e=>?_⟩,rfl⟩
 rotate_left
 ·rcases im e with⟨rfl,a,_⟩ | ⟨g,a⟩
  ·cases a
  ·rw[List.getElem?_set_ne (Ne.symm g)];exact st.io j b a
 rcases im e with⟨rfl,a,f⟩ | ⟨g,a⟩
 ·cases a;obtain⟨k,m⟩:∃k,W[j]? = some k:=⟨W[j]'(by rw[st.lw];exact f),List.getElem?_eq_getElem _⟩
  exact⟨v,k,List.getElem?_set_self (by rw[<-st.len];exact f),m,h⟩
 ·obtain⟨w,l,h1,h2,h3⟩:=st.at_ j c a;exact⟨w,l,by rw[List.getElem?_set_ne (Ne.symm g)];exact h1,h2,h3⟩
theorem aC.box(st:aC K F H Y U O){i:Nat}{io:Bool}{b:Bx}(e:U[i]? = some (some (.own io b))):∃a m,Y[i]? = some (some (.ref a))/\fB (au O H) H a b m/\(∀c∈m,c∈O)/\
  ∀(H':Hp) (t:Bx) (f:List Addr),(∀c o,c∉m->H c=some o->H' c=some o)->f.Nodup->(∀c∈f,c∈m\/H c=none)->(∀G,(∀O',aU O H O' H'->G=au O' H'->(∀c∈f,c∈O')->bX (au O H) G/\fB G H' a t f))->
   ∃O',aC K F H' Y (U.set i (some (.own io t))) O'/\aU O H O' H'/\(∀c∈O',c∈f\/c∈O):=by
 obtain⟨W,st,rfl⟩:=st;obtain⟨v,m,h1,h2,a,rfl,h3⟩:=st.at_ i _ e;have y:i<U.length:=(List.getElem?_eq_some_iff.mp e).1;have u:i<W.length:=by rw[st.lw];exact y
 refine⟨a,m,h1,h3,fun c d=>bO _ (cK h2 d),fun H' t f keep L w M=>?_⟩;have p:W.flatten.Nodup:=(List.nodup_append.mp st.nd).1;have A:∀c∈m,c∉F.O₀:=fun c d z=>(List.nodup_append.mp st.nd).2.2 c (cK h2 d) c z rfl;have C:∀j l c,j≠i->W[j]? = some l->c∈l->H' c=H c:=fun j l c n k d=>by obtain⟨o,g,_⟩:=st.live c (bO _ (cK k d));rw[g];exact keep c o (fun z=>ni p k h2 n d z) g
 have D:∀c∈F.O₀,H' c=H c:=fun c d=>by obtain⟨o,g,_⟩:=st.live c (bB _ d);rw[g];exact keep c o (fun z=>A c z d) g
 have ap:∀c∈f,(∀j l,j≠i->W[j]? = some l->c∉l)/\c∉F.O₀:=fun c d=>by
  rcases w c d with q | q
  ·exact⟨fun j l n k z=>ni p h2 k (Ne.symm n) q z,A c q⟩
  ·refine⟨fun j l _ k z=>?_,fun z=>?_⟩
   ·obtain⟨o,g,_⟩:=st.live c (bO _ (cK k z));rw[q] at g;cases g
   ·obtain⟨o,g,_⟩:=st.live c (bB _ z);rw[q] at g;cases g
 have frz:∀c o,c∉W.flatten++F.O₀->H c=some o->H' c=some o:=fun c o d E=>keep c o (fun z=>d (bO _ (cK h2 z))) E;have bH:aU (W.flatten++F.O₀) H ((W.set i f).flatten++F.O₀) H':=⟨frz,fun c h=>by
  rcases List.mem_append.mp h with h | h
  ·rcases fN h with h | ⟨j,l,_,k,x⟩
   ·exact(w c h).imp (fun z=>bO _ (cK h2 z)) id
   ·exact .inl (bO _ (cK k x))
  ·exact .inl (bB _ h)⟩
 have r:∀c∈f,c∈(W.set i f).flatten++F.O₀:=fun c d=>bO _ (Hf u d);have s:=(M _ _ bH rfl r).2;obtain⟨B,I⟩:=st.put (H':=H') (i:=i) (v:=.ref a) (c:=.own io t) (fp:=f) y C D frz L ap (fun c d=>(w c d).imp (fun z=>cK h2 z) id) (fun c d=>s.live c d) (fun _=>⟨a,rfl,s⟩) (fun N z=>by cases z;have:=st.io i b e;rw[h1] at this;exact(Option.some.inj (Option.some.inj this)));have J:Y.set i (some (.ref a))=Y:=by
  apply List.ext_getElem?;intro j
  by_cases n:j=i
  ·subst n;rw[List.getElem?_set_self (List.getElem?_eq_some_iff.mp h1).1,h1]
  ·rw[List.getElem?_set_ne (Ne.symm n)]
 rw[J] at B;refine⟨_,⟨_,B,rfl⟩,I,fun c d=>?_⟩;rcases List.mem_append.mp d with d | d
 ·rcases fN d with d | ⟨j,l,_,k,x⟩
  ·exact .inl d
  ·exact .inr (bO _ (cK k x))
 ·exact .inr (bB _ d)
theorem aC.freeze(st:aC K F H Y U O){i:Nat}{b:List PyData}(e:U[i]? = some (some (.own false (.l b)))) :
  ∃v O',Y[i]? = some (some v)/\aC K F H Y (U.set i (some (.dat (.list b)))) O'/\aU O H O' H/\DV (au O' H) v (.list b):=by
 obtain⟨W,st,rfl⟩:=st;obtain⟨v,u,h1,h2,a,rfl,rfl,w,h3,o⟩:=st.at_ i _ e;have p:i<U.length:=(List.getElem?_eq_some_iff.mp e).1;have f:W.flatten.Nodup:=(List.nodup_append.mp st.nd).1;have g:a∉(W.set i []).flatten++F.O₀:=fun z=>by
  rcases List.mem_append.mp z with z | z
  ·rcases fN z with z | ⟨j,l,d,q,r⟩
   ·cases z
   ·exact ni f h2 q (Ne.symm d) List.mem_cons_self r
  ·exact(List.nodup_append.mp st.nd).2.2 a (cK h2 List.mem_cons_self) a z rfl
 have k:aU (W.flatten++F.O₀) H ((W.set i []).flatten++F.O₀) H->DV (au ((W.set i []).flatten++F.O₀) H) (.ref a) (.list b):=fun s=>.lst (gG h3 g) (aI.mono s.hid o);obtain⟨m,n⟩:=st.put (H':=H) (i:=i) (v:=.ref a) (c:=.dat (.list b)) (fp:=[]) p (fun _ _ _ _ _ _=>rfl) (fun _ _=>rfl) (fun _ _ _ e=>e) List.nodup_nil (fun a h=>by cases h) (fun a h=>by cases h) (fun a h=>by cases h) (fun s=>k s) (fun _ z=>by cases z);have t:Y.set i (some (.ref a))=Y:=by
  apply List.ext_getElem?;intro j
  by_cases d:j=i
  ·subst d;rw[List.getElem?_set_self (List.getElem?_eq_some_iff.mp h1).1,h1]
  ·rw[List.getElem?_set_ne (Ne.symm d)]
 rw[t] at m;exact⟨_,_,h1,⟨_,m,rfl⟩,n,k n⟩
end
abbrev DT:=ao->(PyData->ao->Prop)->Prop
def Mn(t:DT):Prop:=∀U Q a,(∀d b,Q d b->a d b)->t U Q->t U a
noncomputable def gJ(K:Frag)(F:Fx)(t:DT):TE:=fun Y H Q=>∃U O,aC K F H Y U O/\t U fun d c=>∀v a b,aC K F a Y c b->aU O H b a->DV (au b a) v d->Q v a
structure DE (X:Cx) (F:Fx) (e:Expr) (t:DT):Prop where
 mn:Mn t
 pe:PE X e (gJ X.K F t)
theorem _root_.L2.PE.imp{X:Cx}{e:Expr}{t t':TE}(h:PE X e t)(k:∀Y H Q,t' Y H Q->t Y H Q):PE X e t':=fun a s Y H Q I q=>h a s Y H Q I (k Y H Q q)
theorem _root_.L2.PT.imp{X:Cx}{e:Expr}{t t':TT}(h:PT X e t)(k:∀Y H Q,t' Y H Q->t Y H Q):PT X e t':=fun a s Y H Q I q=>h a s Y H Q I (k Y H Q q)
theorem _root_.L2.PS.imp{X:Cx}{e:Stmt}{t t':TS}(h:PS X e t)(k:∀D Y H,t' D Y H->t D Y H):PS X e t':=fun a s Y H D I q=>h a s Y H D I (k D Y H q)
theorem _root_.L2.PSs.imp{X:Cx}{e:List Stmt}{t t':TS}(h:PSs X e t)(k:∀D Y H,t' D Y H->t D Y H):PSs X e t':=fun a s Y H D I q=>h a s Y H D I (k D Y H q)
section
variable{X:Cx}{F:Fx}{a b e:Expr}{ta tb:DT}{pos:Pos}
noncomputable def dC(d:PyData):DT:=fun U Q=>Q d U
noncomputable def dV(i:Nat):DT:=fun U Q=>(∃d,U[i]? = some (some (.dat d))/\Q d U)\/∃c,U[i]? = some (some (.own false (.l c)))/\Q (.list c) (U.set i (some (.dat (.list c))))
theorem Hg{d:PyData}:Mn (dC d):=fun _ _ _ h q=>h _ _ q
theorem nj{d:PyData}{v:V}(h:PE X e (tC v))(hd:∀H,DV H v d):DE X F e (dC d):=
 ⟨Hg,h.imp fun Y H Q ⟨U,O,st,q⟩=>q v H O st .refl (hd _)⟩
theorem aq{i j}:DE X F (.Constant (.int i) j pos) (dC (.int i)):=nj xf fun _=>.int i
theorem ip{i j}:DE X F (.Constant (.bool i) j pos) (dC (.bool i)):=nj Ds fun _=>.bl i
theorem iq{j}:DE X F (.Constant .none j pos) (dC .none):=nj xg fun _=>.non
theorem eW{x j}:DE X F (.Constant (.str x) j pos) (dC (.str x)):=nj xh fun _=>.str x
theorem yb(i:Nat){x:Str}(h:PE X (.Name x pos) (dN i)):DE X F (.Name x pos) (dV i):=
 ⟨fun _ _ _ k q=>q.imp (fun⟨d,e,q⟩=>⟨d,e,k _ _ q⟩) fun⟨d,e,q⟩=>⟨d,e,k _ _ q⟩,h.imp fun Y H Q ⟨U,O,st,q⟩=>by
  rcases q with⟨d,e,q⟩ | ⟨g,e,q⟩
  ·obtain⟨v,h1,h2⟩:=st.dat e;exact⟨v,h1,q v H O st .refl h2⟩
  ·obtain⟨v,c,h1,h2,h3,f⟩:=st.freeze e;exact⟨v,h1,q v H c h2 h3 f⟩⟩
abbrev D2:=PyData->PyData->(PyData->Prop)->Prop
noncomputable def cM(f:D2)(ta tb:DT):DT:=fun U Q=>ta U fun x c=>tb c fun y g=>f x y fun d=>Q d g
structure et (r:R2) (f:D2):Prop where
 mn:∀x y Q Q',(∀d,Q d->Q' d)->f x y Q->f x y Q'
 ok:∀(O:List Addr) (H:Hp) (u v:V) (x y:PyData) (Q:VK),(∀p,H p=none->p∉O)->DV (au O H) u x->DV (au O H) v y->f x y (fun d=>∀w H',bX H H'->DV (au O H') w d->Q w H')->r u v H Q
theorem pM{r:R2}{f:D2}{ta tb:DT}(o:et r f)(k:Mn ta)(D:Mn tb){K:Frag}:∀Y H Q,gJ K F (cM f ta tb) Y H Q->mU r (gJ K F ta) (gJ K F tb) Y H Q:=fun Y H Q ⟨U,O,st,q⟩=>by refine⟨U,O,st,k _ _ _ (fun x l m v1 E n g p s=>?_) q⟩;refine⟨l,n,g,D _ _ _ (fun y G t u v h c i z=>?_) m⟩;refine o.ok h v v1 u x y Q c.nofree (DV.mono i.hid s) z (o.mn _ _ _ _ (fun d A w B j C=>?_) t);exact A w B h (c.grow j) (p.trans (i.trans (.same j))) C
theorem nk{r:R2}{f:D2}(o:et r f)(c:Mn ta)(i:Mn tb):Mn (cM f ta tb):=fun _ _ _ k q=>c _ _ _ (fun _ _ d=>i _ _ _ (fun _ _ g=>o.mn _ _ _ _ (fun _ h=>k _ _ h) g) d) q
theorem iQ{op:Operator}{r:R2}{f:D2}(g:cA X (binaryOp op) r)(o:et r f)(c:DE X F a ta)(d:DE X F b tb):DE X F (.BinOp a op b pos) (cM f ta tb):=
 ⟨nk o c.mn d.mn,(EM g c.pe d.pe).imp (pM o c.mn d.mn)⟩
theorem pN{op:CmpOp}{r:R2}{f:D2}(g:cA X (compareOp op) r)(o:et r f)(c:DE X F a ta)(d:DE X F b tb)(h:behindInMarks op b=false):DE X F (.Compare a [op] [b] pos) (cM f ta tb):=
 ⟨nk o c.mn d.mn,(EZ g c.pe d.pe h).imp (pM o c.mn d.mn)⟩
theorem Hh{r:R2}{f:D2}(g:ik X r)(o:et r f)(c:DE X F a ta)(d:DE X F b tb)(h:pC b):DE X F (.Subscript a b pos) (cM f ta tb):=
 ⟨nk o c.mn d.mn,(xG g c.pe d.pe h).imp (pM o c.mn d.mn)⟩
noncomputable def fI(C:Int->Int->Prop)(g:Int->Int->PyData):D2:=fun x y Q=>∃i j,x=.int i/\y=.int j/\C i j/\Q (g i j)
theorem pO{C:Int->Int->Prop}{g:Int->Int->V}{g':Int->Int->PyData}(hg:∀i j H,DV H (g i j) (g' i j)):et (rI C g) (fI C g') where
 mn:=fun _ _ _ _ k ⟨i,j,e1,e2,c,q⟩=>⟨i,j,e1,e2,c,k _ q⟩
 ok:=fun O H u v x y Q hO h1 h2 ⟨i,j,e1,e2,c,q⟩=>by subst e1 e2;exact⟨i,j,h1.int_inv,h2.int_inv,c,q _ H (fun _ _ h=>h) (hg i j _)⟩
theorem jw{g:Int->Int->V}{g':Int->Int->PyData}(hg:∀i j H,DV H (g i j) (g' i j)):et (gg g) (fI (fun _ _=>True) g') where
 mn:=fun _ _ _ _ k ⟨i,j,e1,e2,c,q⟩=>⟨i,j,e1,e2,c,k _ q⟩
 ok:=fun O H u v x y Q hO h1 h2 ⟨i,j,e1,e2,_,q⟩=>by subst e1 e2;exact⟨i,j,h1.int_inv,h2.int_inv,q _ H (fun _ _ h=>h) (hg i j _)⟩
noncomputable def nq(neg:Bool):D2:=fun x y Q=>SeqAt.shaped x=true/\SeqAt.shaped y=true/\Q (.bool (PyData.eqv x y != neg))
theorem tD{neg:Bool}:et (tw neg) (nq neg) where
 mn:=fun _ _ _ _ k ⟨e1,e2,q⟩=>⟨e1,e2,k _ q⟩
 ok:=fun O H u v x y Q hO h1 h2 ⟨e1,e2,q⟩=>⟨x,y,DV.mono kq h1,DV.mono kq h2,e1,e2,q _ H (fun _ _ h=>h) (.bl _)⟩
@[simp] noncomputable def isNone:PyData->Bool
 | .none=>true
 | _=>false
noncomputable def pP:D2:=fun x y Q=>y=.none/\Q (.bool (isNone x))
noncomputable def tE:D2:=fun x y Q=>y=.none/\Q (.bool (!isNone x))
theorem yc{H:Hp}{v:V}{d:PyData}(h:DV H v d):decide (v=.non)=isNone d:=by cases h<;>first | rfl | (exact decide_eq_false (fun z=>by cases z))
theorem yd:et (fun x y H Q=>y=.non/\Q (.bl (decide (x=.non))) H) pP where
 mn:=fun _ _ _ _ k ⟨e,q⟩=>⟨e,k _ q⟩
 ok:=fun O H u v x y Q hO h1 h2 ⟨e,q⟩=>by subst e;exact⟨h2.non_inv,by rw[yc h1];exact q _ H (fun _ _ h=>h) (.bl _)⟩
theorem Hi:et (fun x y H Q=>y=.non/\Q (.bl (!decide (x=.non))) H) tE where
 mn:=fun _ _ _ _ k ⟨e,q⟩=>⟨e,k _ q⟩
 ok:=fun O H u v x y Q hO h1 h2 ⟨e,q⟩=>by subst e;exact⟨h2.non_inv,by rw[yc h1];exact q _ H (fun _ _ h=>h) (.bl _)⟩
noncomputable def ye:D2:=fun x y Q=>∃c i d,x=.tuple c/\y=.int i/\cu c i=some d/\Q d
noncomputable def yf:D2:=fun x y Q=>∃c i d,x=.list c/\y=.int i/\cu c i=some d/\Q d
theorem yg{H:Hp}{vs:List V}{c:List PyData}{i:Int}{d:PyData}(h:aI H vs c)(e:cu c i=some d):∃v,cu vs i=some v/\DV H v d:=by
 unfold cu at e ⊢;rw[h.length];cases q:eL c.length i with
 | none=>rw[q] at e;cases e
 | some j=>rw[q] at e;exact h.get e
theorem yh{K:Frag}:et (sQ K) ye where
 mn:=fun _ _ _ _ k ⟨ds,i,d,e1,e2,e3,q⟩=>⟨ds,i,d,e1,e2,e3,k _ q⟩
 ok:=fun O H u v x y Q hO h1 h2 ⟨ds,i,d,e1,e2,e3,q⟩=>by subst e1 e2;obtain⟨a,xs,rfl,ha,hd⟩:=h1.tup_inv;obtain⟨w,ew,hw⟩:=yg hd e3;exact⟨a,xs,i,w,rfl,h2.int_inv,.inl (gi ha).1,ew,q w H (fun _ _ h=>h) hw⟩
theorem yi{K:Frag}:et (sP K) yf where
 mn:=fun _ _ _ _ k ⟨ds,i,d,e1,e2,e3,q⟩=>⟨ds,i,d,e1,e2,e3,k _ q⟩
 ok:=fun O H u v x y Q hO h1 h2 ⟨ds,i,d,e1,e2,e3,q⟩=>by subst e1 e2;obtain⟨a,xs,rfl,ha,hd⟩:=h1.lst_inv;obtain⟨w,ew,hw⟩:=yg hd e3;exact⟨a,xs,i,w,rfl,h2.int_inv,.of (da ha).1,ew,q w H (fun _ _ h=>h) hw⟩
theorem jx{O:List Addr}{H:Hp}{p:Addr}{c:List V}{d:List PyData}(f:H p=none)(g:p∉O)(h:aI (au O H) c d):DV (au O (bp H p (.lst c))) (.ref p) (.list d):=
 .lst (gG dB g) (aI.mono (ng (bZ f)) h)
theorem tF{O:List Addr}{H:Hp}{p:Addr}{c:List V}{d:List PyData}(f:H p=none)(g:p∉O)(h:aI (au O H) c d):DV (au O (bp H p (.tup c))) (.ref p) (.tuple d):=
 .tup (.inl (gG dB g)) (aI.mono (ng (bZ f)) h)
noncomputable def tG:D2:=fun x y Q=>∃c d,x=.list c/\y=.list d/\c.length+d.length<=sizeLine/\Q (.list (c++d))
theorem Hj:et xK tG where
 mn:=fun _ _ _ _ k ⟨ds,es,e1,e2,e3,q⟩=>⟨ds,es,e1,e2,e3,k _ q⟩
 ok:=fun O H u v x y Q hO h1 h2 ⟨ds,es,e1,e2,e3,q⟩=>by subst e1 e2;obtain⟨a,xs,rfl,ha,hd⟩:=h1.lst_inv;obtain⟨b,ys,rfl,hb,he⟩:=h2.lst_inv;refine⟨a,b,xs,ys,rfl,rfl,(da ha).1,(da hb).1,by rw[hd.length,he.length];exact e3,fun p hp=>q _ _ (bZ hp) (jx hp (hO p hp) (hd.append he))⟩
noncomputable def tH:D2:=fun x y Q=>∃c d,x=.tuple c/\y=.tuple d/\c.length+d.length<=sizeLine/\Q (.tuple (c++d))
end
theorem ir{A B:Prop}(h:if true=true then A else B):A:=by rw[if_pos rfl] at h;exact h
theorem iu{A B:Prop}(h:if false=true then A else B):B:=by rw[if_neg Bool.false_ne_true] at h;exact h
abbrev cW:=ao->(List PyData->ao->Prop)->Prop
def pQ(t:cW):Prop:=∀U Q a,(∀d b,Q d b->a d b)->t U Q->t U a
noncomputable def yj(K:Frag)(F:Fx)(t:cW):TA:=fun Y H Q=>∃U O,aC K F H Y U O/\t U fun c d=>∀vs a b,aC K F a Y d b->aU O H b a->aI (au b a) vs c->Q vs a
structure DA (X:Cx) (F:Fx) (es:List Expr) (t:cW):Prop where
 mn:pQ t
 pa:PA X es (yj X.K F t)
theorem _root_.L2.PA.imp{X:Cx}{e:List Expr}{t t':TA}(h:PA X e t)(k:∀Y H Q,t' Y H Q->t Y H Q):PA X e t':=fun pos a s Y H Q I q=>h pos a s Y H Q I (k Y H Q q)
section
variable{X:Cx}{F:Fx}{a b e c:Expr}{es:List Expr}{ta tb tc:DT}{tA:cW}{pos:Pos}
noncomputable def Hk:cW:=fun U Q=>Q [] U
noncomputable def Hm(ta:DT)(i:cW):cW:=fun U Q=>ta U fun d f=>i f fun g h=>Q (d::g) h
theorem Hn:DA X F [] Hk:=⟨fun _ _ _ k q=>k _ _ q,fL.imp fun Y H Q ⟨U,O,st,q⟩=>q [] H O st .refl .nil⟩
theorem Ho(f:DE X F e ta)(g:DA X F es tA)(n:starEach (e::es) X.env=(false,eval e X.env)::starEach es X.env:=by rfl):DA X F (e::es) (Hm ta tA):=
 ⟨fun _ _ _ k q=>f.mn _ _ _ (fun _ _ h=>g.mn _ _ _ (fun _ _ i=>k _ _ i) h) q,(fA f.pe g.pa n).imp fun Y H Q ⟨U,O,st,q⟩=>
  ⟨U,O,st,f.mn _ _ _ (fun d o h v x p j r s=>⟨o,p,j,g.mn _ _ _ (fun y z i vs t u l m w=>i (v::vs) t u l (r.trans m) (.cons (DV.mono m.hid s) w)) h⟩) q⟩⟩
noncomputable def Hq(t:cW):DT:=fun U Q=>t U fun d f=>d.length<=sizeLine/\Q (.tuple d) f
noncomputable def Hr(t:cW):DT:=fun U Q=>t U fun d f=>d.length<=sizeLine/\Q (.list d) f
theorem Hs{j}(h:DA X F es tA):DE X F (.Tuple es j pos) (Hq tA):=
 ⟨fun _ _ _ k q=>h.mn _ _ _ (fun _ _ d=>⟨d.1,k _ _ d.2⟩) q,(Fh h.pa).imp fun Y H Q ⟨U,O,st,q⟩=>
  ⟨U,O,st,h.mn _ _ _ (fun n o d vs r l f m i=>⟨by rw[i.length];exact d.1,fun p g=>d.2 _ _ l (f.grow (bZ g)) (m.trans (.same (bZ g))) (tF g (f.nofree p g) i)⟩) q⟩⟩
theorem Ht(h:DA X F es tA):DE X F (.List es pos) (Hr tA):=
 ⟨fun _ _ _ k q=>h.mn _ _ _ (fun _ _ d=>⟨d.1,k _ _ d.2⟩) q,(sM h.pa).imp fun Y H Q ⟨U,O,st,q⟩=>
  ⟨U,O,st,h.mn _ _ _ (fun m n d vs o j f l i=>⟨by rw[i.length];exact d.1,fun p g=>d.2 _ _ j (f.grow (bZ g)) (l.trans (.same (bZ g))) (jx g (f.nofree p g) i)⟩) q⟩⟩
noncomputable def Hu(ta:DT):DT:=fun U Q=>ta U fun d f=>∃i,d=.int i/\Q (.int (-i)) f
theorem Hv(f:DE X F a ta):DE X F (.UnaryOp .USub a pos) (Hu ta):=
 ⟨fun _ _ _ k q=>f.mn _ _ _ (fun _ _ ⟨i,e,q⟩=>⟨i,e,k _ _ q⟩) q,(EN EW f.pe).imp fun Y H Q ⟨U,O,st,q⟩=>
  ⟨U,O,st,f.mn _ _ _ (fun d o ⟨i,e,h⟩ v j l g m n=>by subst e;exact⟨i,n.int_inv,h _ j l g m (.int _)⟩) q⟩⟩
noncomputable def Hw(ta:DT):DT:=fun U Q=>ta U fun d f=>∃b,d=.bool b/\Q (.bool (!b)) f
theorem Hx(f:DE X F a ta):DE X F (.UnaryOp .Not a pos) (Hw ta):=
 ⟨fun _ _ _ k q=>f.mn _ _ _ (fun _ _ ⟨i,e,q⟩=>⟨i,e,k _ _ q⟩) q,(DR f.pe).imp fun Y H Q ⟨U,O,st,q⟩=>
  ⟨U,O,st,f.mn _ _ _ (fun d o ⟨i,e,h⟩ v j l g m n=>by subst e;exact⟨i,n.bl_inv,h _ j l g m (.bl _)⟩) q⟩⟩
noncomputable def Hy(ta tb:DT):DT:=fun U Q=>ta U fun d f=>∃b,d=.bool b/\if b=true then tb f Q else Q (.bool false) f
noncomputable def Hz(ta tb:DT):DT:=fun U Q=>ta U fun d f=>∃b,d=.bool b/\if b=true then Q (.bool true) f else tb f Q
theorem HA{op}(h:DE X F a ta):DE X F (.BoolOp op [a] pos) ta:=⟨h.mn,DM h.pe⟩
theorem HB{rest:List Expr}(g:DE X F a ta)(j:DE X F (.BoolOp .And (b::rest) pos) tb):DE X F (.BoolOp .And (a::b::rest) pos) (Hy ta tb):=
 ⟨fun _ _ _ k q=>g.mn _ _ _ (fun _ _ ⟨i,e,q⟩=>⟨i,e,by cases i<;>first | exact k _ _ q | exact j.mn _ _ _ k q⟩) q,(DP g.pe j.pe).imp fun Y H Q ⟨U,O,st,q⟩=>
  ⟨U,O,st,g.mn _ _ _ (fun d o ⟨i,e,l⟩ v p m f n r=>by
   subst e;refine⟨i,r.bl_inv,?_⟩;cases i with
   | true=>exact dP ⟨o,m,f,j.mn _ _ _ (fun d z s w t u h x y=>s w t u h (n.trans x) y) (ir l)⟩
   | false=>exact dO (iu l _ p m f n (.bl _))) q⟩⟩
theorem HC{rest:List Expr}(g:DE X F a ta)(j:DE X F (.BoolOp .Or (b::rest) pos) tb):DE X F (.BoolOp .Or (a::b::rest) pos) (Hz ta tb):=
 ⟨fun _ _ _ k q=>g.mn _ _ _ (fun _ _ ⟨i,e,q⟩=>⟨i,e,by cases i<;>first | exact k _ _ q | exact j.mn _ _ _ k q⟩) q,(DQ g.pe j.pe).imp fun Y H Q ⟨U,O,st,q⟩=>
  ⟨U,O,st,g.mn _ _ _ (fun d o ⟨i,e,l⟩ v p m f n r=>by
   subst e;refine⟨i,r.bl_inv,?_⟩;cases i with
   | false=>exact dO ⟨o,m,f,j.mn _ _ _ (fun d z s w t u h x y=>s w t u h (n.trans x) y) (iu l)⟩
   | true=>exact dP (ir l _ p m f n (.bl _))) q⟩⟩
noncomputable def tI(p f:Int->Int->Bool)(ta tb tc:DT):DT:=fun U Q=>ta U fun x g=>tb g fun y d=>∃i j,x=.int i/\y=.int j/\if p i j=true then tc d (fun z h=>∃k,z=.int k/\Q (.bool (f j k)) h) else Q (.bool false) d
theorem HD{op f:CmpOp}{p G:Int->Int->Bool}(N:cA X (compareOp op) (gg fun i j=>.bl (p i j)))(m:cA X (compareOp f) (gg fun i j=>.bl (G i j)))(n:DE X F a ta)(E:DE X F b tb)(o:DE X F c tc)
  (R:lastMarks [op,f] [b,c]=false:=by with_unfolding_all rfl):DE X F (.Compare a [op,f] [b,c] pos) (tI p G ta tb tc):=
 ⟨fun _ _ _ k q=>n.mn _ _ _ (fun _ _ r=>E.mn _ _ _ (fun _ _ ⟨i,j,s,t,d⟩=>⟨i,j,s,t,by
   by_cases h:p i j=true
   ·rw[if_pos h] at d ⊢;exact o.mn _ _ _ (fun _ _ ⟨l,e,A⟩=>⟨l,e,k _ _ A⟩) d
   ·rw[if_neg h] at d ⊢;exact k _ _ d⟩) r) q,
  (Fc N m n.pe E.pe o.pe R).imp fun Y H Q ⟨U,O,st,q⟩=>
  ⟨U,O,st,n.mn _ _ _ (fun x S r v H1 T B I Z=>⟨S,T,B,E.mn _ _ _ (fun y U2 ⟨i,j,s,t,d⟩ w H2 J g C L=>by
   subst s t;refine⟨i,j,(DV.mono C.hid Z).int_inv,L.int_inv,p i j,rfl,?_⟩
   by_cases h:p i j=true
   ·rw[if_pos h] at d ⊢;exact⟨U2,J,g,o.mn _ _ _ (fun z U3 ⟨l,e,A⟩ u H3 O3 D M d3=>by subst e;exact⟨j,l,(DV.mono M.hid L).int_inv,d3.int_inv,A _ H3 O3 D (I.trans (C.trans M)) (.bl _)⟩) d⟩
   ·rw[if_neg h] at d ⊢;exact d _ H2 J g (I.trans C) (.bl _)) r⟩) q⟩⟩
end
abbrev cG:=ao->(Bool->ao->Prop)->Prop
def iR(t:cG):Prop:=∀U Q a,(∀d b,Q d b->a d b)->t U Q->t U a
noncomputable def kt(K:Frag)(F:Fx)(t:cG):TT:=fun Y H Q=>∃U O,aC K F H Y U O/\t U fun b d=>∀a c,aC K F a Y d c->aU O H c a->Q b a
structure DB (X:Cx) (F:Fx) (e:Expr) (t:cG):Prop where
 mn:iR t
 pt:PT X e (kt X.K F t)
section
variable{X:Cx}{F:Fx}{a b e c:Expr}{ta tb tc:DT}{tA tB:cG}{pos:Pos}
noncomputable def eX(ta:DT):cG:=fun U Q=>ta U fun d f=>∃b,d=.bool b/\Q b f
theorem yk(h:Mn ta):iR (eX ta):=fun _ _ _ k q=>h _ _ _ (fun _ _ ⟨b,e,d⟩=>⟨b,e,k _ _ d⟩) q
theorem yl{K:Frag}(h:Mn ta):∀Y H Q,kt K F (eX ta) Y H Q->gJ K F ta Y H fun x g=>∃k,x=.bl k/\Q k g:=fun Y H Q ⟨U,O,st,q⟩=>⟨U,O,st,h _ _ _ (fun d o ⟨b,e,i⟩ v j l f m n=>by subst e;exact⟨b,n.bl_inv,i j l f m⟩) q⟩
theorem eO(h:DE X F e ta)(d:∀whole,isTrue e X.env whole=(do let v <-whole;standAt e.pos;holding [v] (truthy v)):=by intro _;rfl):DB X F e (eX ta):=⟨yk h.mn,(Du h.pe d).imp (yl h.mn)⟩
theorem jy{op:CmpOp}{r:R2}{f:D2}(h:cA X (compareOp op) r)(o:et r f)(d:DE X F a ta)(g:DE X F b tb)(i:behindInMarks op b=false):DB X F (.Compare a [op] [b] pos) (eX (cM f ta tb)):=
 ⟨yk (nk o d.mn g.mn),(xu h d.pe g.pe i).imp fun Y H Q q=>pM o d.mn g.mn Y H _ (yl (nk o d.mn g.mn) Y H Q q)⟩
noncomputable def HE(t:cG):cG:=fun U Q=>t U fun b d=>Q (!b) d
theorem HF(h:DB X F a tA):DB X F (.UnaryOp .Not a pos) (HE tA):=⟨fun _ _ _ k q=>h.mn _ _ _ (fun _ _ q=>k _ _ q) q,(DH h.pt).imp fun Y H Q ⟨U,O,st,q⟩=>⟨U,O,st,h.mn _ _ _ (fun b l f g i d j=>f g i d j) q⟩⟩
structure DW (X:Cx) (F:Fx) (e:Expr) (t:cG):Prop where
 mn:iR t
 pw:PW X e (kt X.K F t)
theorem _root_.L2.PW.imp{X:Cx}{e:Expr}{t t':TT}(h:PW X e t)(k:∀Y H Q,t' Y H Q->t Y H Q):PW X e t':=fun f d s Y H Q I q=>h f d s Y H Q I (k Y H Q q)
theorem DW.db{t:cG}(h:DW X F e t):DB X F e t:=⟨h.mn,h.pw.pt⟩
noncomputable def HG(t u:cG):cG:=fun U Q=>t U fun b d=>if b=true then u d Q else Q false d
noncomputable def HI(t u:cG):cG:=fun U Q=>t U fun b d=>if b=true then Q true d else u d Q
theorem HJ(h:DB X F a tA):DW X F (.BoolOp .And [a] pos) tA:=⟨h.mn,Dy h.pt⟩
theorem HK(h:DB X F a tA):DW X F (.BoolOp .Or [a] pos) tA:=⟨h.mn,Dz h.pt⟩
theorem HL{rest:List Expr}(f:DB X F a tA)(h:DW X F (.BoolOp .And (b::rest) pos) tB):DW X F (.BoolOp .And (a::b::rest) pos) (HG tA tB):=
 ⟨fun _ _ _ k q=>f.mn _ _ _ (fun b _ q=>by cases b<;>first | exact k _ _ q | exact h.mn _ _ _ k q) q,(DC f.pt h.pw).imp fun Y H Q ⟨U,O,st,q⟩=>
  ⟨U,O,st,f.mn _ _ _ (fun b m i n j d l=>by
   cases b with
   | true=>exact dP ⟨m,j,d,h.mn _ _ _ (fun b t o p r g s=>o p r g (l.trans s)) (ir i)⟩
   | false=>exact dO (iu i n j d l)) q⟩⟩
theorem HM{rest:List Expr}(f:DB X F a tA)(h:DW X F (.BoolOp .Or (b::rest) pos) tB):DW X F (.BoolOp .Or (a::b::rest) pos) (HI tA tB):=
 ⟨fun _ _ _ k q=>f.mn _ _ _ (fun b _ q=>by cases b<;>first | exact k _ _ q | exact h.mn _ _ _ k q) q,(DF f.pt h.pw).imp fun Y H Q ⟨U,O,st,q⟩=>
  ⟨U,O,st,f.mn _ _ _ (fun b m i n j d l=>by
   cases b with
   | false=>exact dO ⟨m,j,d,h.mn _ _ _ (fun b t o p r g s=>o p r g (l.trans s)) (iu i)⟩
   | true=>exact dP (ir i n j d l)) q⟩⟩
noncomputable def HN(t:cG)(ta tb:DT):DT:=fun U Q=>t U fun b d=>if b=true then ta d Q else tb d Q
theorem HP(h:DB X F c tA)(i:DE X F a ta)(p:DE X F b tb):DE X F (.IfExp c a b pos) (HN tA ta tb):=
 ⟨fun _ _ _ k q=>h.mn _ _ _ (fun b _ q=>by cases b<;>first | exact i.mn _ _ _ k q | exact p.mn _ _ _ k q) q,(DY h.pt i.pe p.pe).imp fun Y H Q ⟨U,O,st,q⟩=>
  ⟨U,O,st,h.mn _ _ _ (fun b r s x t g u=>by
   cases b with
   | true=>exact dP ⟨r,t,g,i.mn _ _ _ (fun d w j v l m f n o=>j v l m f (u.trans n) o) (ir s)⟩
   | false=>exact dO ⟨r,t,g,p.mn _ _ _ (fun d w j v l m f n o=>j v l m f (u.trans n) o) (iu s)⟩) q⟩⟩
end
abbrev DN:=List PyData->(PyData->Prop)->Prop
structure gk (r:List V->Hp->VK->Prop) (f:DN):Prop where
 mn:∀xs Q Q',(∀d,Q d->Q' d)->f xs Q->f xs Q'
 ok:∀(O:List Addr) (H:Hp) (vs:List V) (xs:List PyData) (Q:VK),(∀p,H p=none->p∉O)->aI (au O H) vs xs->f xs (fun d=>∀w H',bX H H'->DV (au O H') w d->Q w H')->r vs H Q
noncomputable def ku(f:DN)(t:cW):DT:=fun U Q=>t U fun a b=>f a fun d=>Q d b
section
variable{X:Cx}{F:Fx}{e:Expr}{es:List Expr}{tA:cW}{pos p:Pos}{x:Str}{id T:String}{r:List V->Hp->VK->Prop}{f:DN}
theorem tJ{K:Frag}(o:gk r f)(h:pQ tA):∀Y H Q,gJ K F (ku f tA) Y H Q->sN r (yj K F tA) Y H Q:=fun Y H Q ⟨U,O,st,q⟩=>⟨U,O,st,h _ _ _ (fun g t i vs j b a k l=>o.ok b j vs g Q a.nofree l (o.mn _ _ _ (fun d m w n c s=>m w n b (a.grow c) (k.trans (.same c)) s) i)) q⟩
theorem tK(o:gk r f)(h:pQ tA):Mn (ku f tA):=fun _ _ _ k q=>h _ _ _ (fun _ _ a=>o.mn _ _ _ (fun _ b=>k _ _ b) a) q
theorem fO(d:eU X (.builtin id) r)(o:gk r f)(g:Gl X x)(h:X.mg x=none)(i:bootBuiltins x=some (.builtin id))(a:DA X F (e::es) tA)(j:x≠"__name__":=by decide)(b:(x==("__debug__":Str))=false:=by decide)
  (k:starEach (e::es) X.env=(false,eval e X.env)::starEach es X.env:=by rfl) (c:(backTo pos (starEach es X.env)).any (·.1)=false:=by rfl):DE X F (.Call (.Name x p) (e::es) [] pos) (ku f tA):=
 ⟨tK o a.mn,(kh d g h i a.pa j b k c).imp (tJ o a.mn)⟩
end
noncomputable def ym(n:String)(a:DT):DT:=fun U Q=>a U fun d c=>∃b,(∀K:Frag,kitOne K (.type (tz d)) (.type n)=some b)/\Q (.bool b) c
section
variable{X:Cx}{F:Fx}{e:Expr}{ta:DT}{pos p p2:Pos}{T:String}{x:Str}
theorem iS(i:Gl X "isinstance")(j:X.mg "isinstance" = none)(h:DE X F e ta)(l:PE X (.Name x p2) (tC (.ty T)))
  (g:starEach [e,.Name x p2] X.env=(false,eval e X.env)::starEach [.Name x p2] X.env:=by rfl) (a:starEach [.Name x p2] X.env=(false,eval (.Name x p2) X.env)::starEach [] X.env:=by rfl) (c:(backTo pos (starEach [.Name x p2] X.env)).any (·.1)=false:=by rfl) :
  DE X F (.Call (.Name "isinstance" p) [e,.Name x p2] [] pos) (ym T ta):=
 ⟨fun _ _ _ k q=>h.mn _ _ _ (fun _ _ ⟨b,e,q⟩=>⟨b,e,k _ _ q⟩) q,
  (kh Ha i j (show bootBuiltins "isinstance" = some (.builtin "isinstance") by decide +kernel) (fA h.pe (fA l fL a) g) (by decide) (by decide) g c).imp fun Y H Q ⟨U,O,st,q⟩=>
  ⟨U,O,st,h.mn _ _ _ (fun d t ⟨b,e,m⟩ v n o f r s=>⟨v,d,T,b,rfl,DV.mono kq s,e,m _ n o f r (.bl b)⟩) q⟩⟩
end
structure eY (g:Heap) (H:Hp) (h:Heap) (a:Addr) (C:Value) (fl:Option Value):Prop where
 gh:∀b o,g.get? b=some o->∃o',h.get? b=some o'
 lo:g.get? a=none
 un:H a=none
 ob:∃oe vs a0,h.get? a=some oe/\oe.cls=C/\oe.data=.fields vs/\vs[0]? = some a0/\
  ((fl=none/\vs[1]? = some .none)\/∃T oT ts f,fl=some f/\vs[1]? = some (.ref T)/\g.get? T=none/\H T=none/\T≠a/\h.get? T=some oT/\oT.data=.fields ts/\ts[3]? = some f)
structure Ch (g:Heap) (H:Hp) (fs:List Addr) (h h':Heap):Prop where
 keep:∀b o,h.get? b=some o->((∃o',g.get? b=some o')\/H b≠none)->b∉fs->h'.get? b=some o
 slot:∀b o,b∈fs->h.get? b=some o->∃sl,h'.get? b=some { o with slots:=sl }
 there:∀b o,h.get? b=some o->∃o',h'.get? b=some o'
theorem Ch.refl{g:Heap}{H:Hp}{fs:List Addr}{h:Heap}:Ch g H fs h h:=⟨fun _ _ e _ _=>e,fun b o _ e=>⟨o.slots,e⟩,fun b o e=>⟨o,e⟩⟩
theorem Ch.trans{g:Heap}{H:Hp}{fs:List Addr}{h h1 h2:Heap}(x:Ch g H fs h h1)(y:Ch g H fs h1 h2):Ch g H fs h h2 where
 keep:=fun b o e q n=>y.keep b o (x.keep b o e q n) q n
 slot:=fun b o m e=>let⟨_,e1⟩:=x.slot b o m e;let⟨sl,e2⟩:=y.slot b _ m e1;⟨sl,e2⟩
 there:=fun b o e=>let⟨o1,e1⟩:=x.there b o e;y.there b o1 e1
theorem cg.some_of{P:Program}{w:World}{H:Hp}{h:Heap}(k:cg P w H h){b:Addr}(e:h.get? b=none):H b=none:=by
 cases q:H b with
 | none=>rfl
 | some u=>
  exfalso;have x:=k b u q;have:∀(u:HO),cz P w H h b u->∃o,h.get? b=some o:=by
   intro u
   induction u with
   | lst d=>exact fun⟨_,_,_,_,e⟩=>⟨_,e⟩
   | tup d=>exact fun⟨_,_,_,o,e,_⟩=>⟨_,e⟩
   | dK a=>exact fun⟨_,_,_,_,o,_,_,e,_⟩=>⟨_,e⟩
   | dT a=>exact fun⟨_,_,_,_,o,_,_,e,_⟩=>⟨_,e⟩
   | set S n=>exact fun⟨o,_,_,_,e,_⟩=>⟨_,e⟩
   | ins C g fs=>exact fun⟨_,_,_,e,_⟩=>⟨_,e⟩
   | own y=>exact fun⟨_,e⟩=>⟨_,e⟩
   | xd fs=>exact fun⟨_,⟨_,_,_,e,_⟩,_⟩=>⟨_,e⟩
   | rng lo i=>exact fun⟨_,_,_,e⟩=>⟨_,e⟩
   | frz ob u _=>exact fun⟨e,_⟩=>⟨_,e⟩
   | tbl j=>exact fun e=>⟨_,e⟩
   | met f y=>exact fun e=>⟨_,e⟩
   | ext φ=>exact fun⟨_,⟨_,e⟩,_⟩=>⟨_,e⟩
  obtain⟨o,c⟩:=this u x;rw[e] at c;cases c
theorem yn{h base a:Heap}:∀{l:List Env},(∀b∈bP l,a.get? b=none)->h.FunFrames base l->h.FunFrames a l
 | [],_,_=>trivial
 | c::r,hb,⟨f,⟨L,o,d,_,g,hd⟩,i⟩=>by
  have e:bP (c::r)=L::bP r:=by unfold bP;rw[List.filterMap_cons,d]
  exact⟨f,⟨L,o,d,hb L (by rw[e];exact List.mem_cons_self),g,hd⟩,yn (fun b h=>hb b (by rw[e];exact bq _ h)) i⟩
section
variable{P:Program}{w:World}{M:Model}{A:Around}{E:Value->Shared->Prop}{s:Shared}{g base:Heap}{H:Hp}{env:Env}{outer:List Env}{L a:Addr}{C fv:Value}{fl:Option Value}
theorem yo{t:Obj}{vs:Array Value}{head Z:Value}{d:Bool}{Q:Unit->Shared->Prop}(u:A.frames=some (env::outer))(v:s.heap.FunFrames base (env::outer))(hf:env.frame=some L)(hk:∀b,s.heap.get? b=none->H b=none)
  (gh:∀b o,g.get? b=some o->∃i,s.heap.get? b=some i) (lo:g.get? a=none) (un:H a=none) (he:s.heap.get? a=some t) (hc:t.cls=C) (hd:t.data=.fields vs) (y:1<vs.size) (h0:vs[0]? = some Z)
  (h:∀f,Ch g H (bP (env::outer)) s.heap f->eY g H f a C (some (rawInt L))->Q () { s with heap:=f }) :
  wpAny M A (do let x <-frameOf env;let pl <-entryPlaceOf L d;let b <-EntryCells.newEntry head x .none (rawInt L) .none pl;setField (.ref a) 1 b) Q E s:=by
 refine wpAny_entryW (base:=PySem.W.hideAll s.heap (a::bP (env::outer))) u (yn (fun b m=>PySem.W.hideAll_none _ (bq _ m)) v) hf he (fun b o e=>PySem.W.of_hideAll _ e) (PySem.W.hideAll_none _ List.mem_cons_self) hd y h0 fun f ⟨k1,k2,k3,k4⟩=>?_;obtain⟨B,D,T,oT,N,O,⟨e2,G⟩,e3,e4,R,S,U,X,e9⟩:=k3;have k:∀b o,b∈bP (env::outer)->s.heap.get? b=some o->∃k,f.get? b=some { o with slots:=k }:=fun b o m e=>by obtain⟨_,i,c,I⟩:=v.mem m;rw[e] at c;cases c;exact k4 b o e I
 have kp:∀b o,s.heap.get? b=some o->b≠a->b∉bP (env::outer)->f.get? b=some o:=fun b o e p r=>k1 b o (PySem.W.hideAll_get _ e fun z=>(List.mem_cons.mp z).elim p r);have Y:g.get? T=none/\H T=none:=by
  cases q:s.heap.get? T with
  | some o=>
   exfalso
   by_cases j:T∈bP (env::outer)
   ·obtain⟨_,i,c,I⟩:=v.mem j;rw[q] at c;cases c;obtain⟨J,l⟩:=k T o j q;rw[U] at l;cases l;exact I N X
   ·rw[PySem.W.hideAll_get _ q (fun z=>(List.mem_cons.mp z).elim S j)] at R;cases R
  | none=>
   refine⟨?_,hk T q⟩;cases q2:g.get? T with
   | none=>rfl
   | some o=>obtain⟨i,c⟩:=gh T o q2;rw[q] at c;cases c
 have ch:Ch g H (bP (env::outer)) s.heap f:=⟨fun b o e q n=>kp b o e (fun z=>?_) n,fun b o m e=>k b o m e,fun b o e=>?_⟩
 ·refine h f ch ⟨fun b o e=>?_,lo,un,B,D,Z,O,e2.trans hc,e3,G,.inr ⟨T,oT,N,_,rfl,e4,Y.1,Y.2,S,U,X,e9⟩⟩;obtain⟨i,c⟩:=gh b o e;exact ch.there b i c
 ·subst z;rcases q with⟨i,q⟩ | q
  ·rw[lo] at q;cases q
  ·exact q un
 ·by_cases r:b∈bP (env::outer)
  ·obtain⟨J,c⟩:=k b o r e;exact⟨_,c⟩
  ·by_cases p:b=a
   ·subst p;exact⟨_,O⟩
   ·exact⟨o,kp b o e p r⟩
theorem HQ{h:Heap}{l:List Env}{T:Addr}{d:Obj}{e:Array Value}{f:Obj->Obj}(i:h.FunFrames base l)(j:h.get? T=some d)(hd:d.data=.fields e):(h.update T f).FunFrames base l:=
 i.of_keeps fun b o c k=>⟨o,by rw[Heap.get?_update_other _ _ (fun z=>k e (by subst z;rw[j] at c;cases c;exact hd))];exact c,rfl⟩
theorem yp{h:Heap}{fs:List Addr}{T:Addr}{c:Obj}{i:Array Value}{f:Array Value->Array Value}(j:h.get? T=some c)(hd:c.data=.fields i)(k:g.get? T=none)(l:H T=none)(d:T∉fs):Ch g H fs h (h.update T (Obj.mapFields f)):=by
 have self:(h.update T (Obj.mapFields f)).get? T=some (c.mapFields f):=Heap.get?_update_self _ j (Obj.isFreed_of_fields (Obj.data_mapFields hd f));refine⟨fun b o e q n=>?_,fun b o m e=>⟨o.slots,?_⟩,fun b o e=>?_⟩
 ·rw[Heap.get?_update_other _ _ (fun z=>?_)]
  ·exact e
  ·subst z;rcases q with⟨p,q⟩ | q
   ·rw[k] at q;cases q
   ·exact q l
 ·rw[Heap.get?_update_other _ _ (fun z=>d (by rw[z];exact m))];exact e
 ·by_cases z:b=T
  ·subst z;exact⟨_,self⟩
  ·exact⟨o,by rw[Heap.get?_update_other _ _ (Ne.symm z)];exact e⟩
theorem HS{Q:Unit->Shared->Prop}(k:A.frames=some (env::outer))(t:s.heap.FunFrames base (env::outer))(u:env.frame=some L)(J:∀b,s.heap.get? b=none->H b=none)(x:eY g H s.heap a C fl)
  (h:∀l,Ch g H (bP (env::outer)) s.heap l->eY g H l a C (some (rawInt L))->Q () { s with heap:=l }):wpAny M A (noteFrame (.ref a) env) Q E s:=by
 obtain⟨I,lo,un,N,vs,a0,m,v,hd,y,R⟩:=x;unfold noteFrame;simp only[u];rcases R with⟨_,h1⟩ | ⟨T,S,O,f,_,h1,n,p,r,j,c,h3⟩
 ·refine aa (wpAny_field m hd h1 ?_);rw[if_neg (by decide)];exact yo k t u J I lo un m v hd (Array.getElem?_eq_some_iff.mp h1).1 y h
 ·refine aa (wpAny_field m hd h1 ?_);rw[if_pos (show(Value.ref T != Value.none)=true from by simp)];refine aa (wpAny_field j c h3 ?_)
  by_cases d:(f==rawInt L)=true
  ·rw[if_pos d];have e:f=rawInt L:=by simpa using d
   subst e;exact av (h s.heap .refl ⟨I,lo,un,N,vs,a0,m,v,hd,y,.inr ⟨T,S,O,_,rfl,h1,n,p,r,j,c,h3⟩⟩)
  ·rw[if_neg d];refine aa (wpAny_setField j c (Array.getElem?_eq_some_iff.mp h3).1 ?_);have B:T∉bP (env::outer):=fun z=>by obtain⟨_,D,i,U⟩:=t.mem z;rw[j] at i;cases i;exact U O c
   have G:=yp (g:=g) (H:=H) (f:=(·.setIfInBounds 3 Value.none)) j c n p B;refine yo (s:={ s with heap:=s.heap.update T (Obj.mapFields (·.setIfInBounds 3 Value.none)) }) k (HQ t j c) u (fun b e=>?_) (fun b o e=>?_) lo un ?_ v hd (Array.getElem?_eq_some_iff.mp h1).1 y fun l ch X=>h l (G.trans ch) X
   ·refine J b ?_;cases q:s.heap.get? b with
    | none=>rfl
    | some o=>obtain⟨D,i⟩:=G.there b o q;rw[show({ s with heap:=s.heap.update T (Obj.mapFields (·.setIfInBounds 3 Value.none)) }:Shared).heap=s.heap.update T (Obj.mapFields (·.setIfInBounds 3 Value.none)) from rfl] at e;rw[e] at i;cases i
   ·obtain⟨D,i⟩:=I b o e;exact G.there b D i
   ·show(s.heap.update T _).get? a=some N;rw[Heap.get?_update_other _ _ r];exact m
theorem HU{Q:Unit->Shared->Prop}{fs:List Addr}(m:Option Addr)(n:∀b∈fs,∃o,s.heap.get? b=some o/\∀vs,o.data≠.fields vs)(x:eY g H s.heap a C (some fv))
  (h:∀p,Ch g H fs s.heap p->eY g H p a C (some (m.elim Value.none fun f=>rawInt f))->Q () { s with heap:=p }):wpAny M A (setFlight (.ref a) m) Q E s:=by
 obtain⟨O,lo,un,v,vs,a0,r,y,hd,B,D⟩:=x;rcases D with⟨z,_⟩ | ⟨T,R,G,f,_,h1,d,i,j,l,c,h3⟩
 ·cases z
 ·unfold setFlight;refine aa (wpAny_field r hd h1 ?_);rw[if_pos (show(Value.ref T != Value.none)=true from by simp)];have q:T∉fs:=fun z=>by obtain⟨o,t,I⟩:=n T z;rw[l] at t;cases t;exact I G c
  have k:=(Array.getElem?_eq_some_iff.mp h3).1;have u:=yp (g:=g) (H:=H) (f:=(·.setIfInBounds 3 (m.elim Value.none fun f=>rawInt f))) l c d i q;refine wpAny_setField l c k (h _ u ⟨fun b o e=>?_,lo,un,v,vs,a0,?_,y,hd,B,.inr ⟨T,_,_,_,rfl,h1,d,i,j,Heap.get?_update_self _ l (Obj.isFreed_of_fields (Obj.data_mapFields c _)),Obj.data_mapFields c _,?_⟩⟩)
  ·obtain⟨J,N⟩:=O b o e;exact u.there b J N
  ·rw[Heap.get?_update_other _ _ j];exact r
  ·simp[k]
theorem HV{h:Heap}{l:List Env}(c:h.FunFrames base l):∀b∈bP l,∃o,h.get? b=some o/\∀vs,o.data≠.fields vs:=fun b d=>let⟨_,o,e,n⟩:=c.mem d;⟨o,e,n⟩
theorem Ch.frames{fs:List Addr}{h d:Heap}{l:List Env}(c:Ch g H fs h d)(f:∀b∈bP l,b∈fs)(j:h.FunFrames base l):d.FunFrames base l:=by
 induction l with
 | nil=>trivial
 | cons env r k=>
  obtain⟨m,⟨L,o,i,n,p,hd⟩,q⟩:=j;have e:bP (env::r)=L::bP r:=by unfold bP;rw[List.filterMap_cons,i]
  obtain⟨v,t⟩:=c.slot L o (f L (by rw[e];exact List.mem_cons_self)) p;exact⟨m,⟨L,_,i,n,t,hd⟩,k (fun b u=>f b (by rw[e];exact bq _ u)) q⟩
theorem HW{Q:Unit->Shared->Prop}(c:A.frames=some (env::outer))(e:s.heap.FunFrames base (env::outer))(i:env.frame=some L)(j:∀b,s.heap.get? b=none->H b=none)(x:eY g H s.heap a C fl)
  (h:∀d,Ch g H (bP (env::outer)) s.heap d->eY g H d a C (some .none)->Q () { s with heap:=d }):wpAny M A (leaving env (.ref a)) Q E s:=by
 unfold leaving;refine aa (HS c e i j x fun n f k=>?_);refine HU (s:={ s with heap:=n }) (fs:=bP (env::outer)) none (HV (f.frames (fun _ h=>h) e)) k fun o l m=>h o (f.trans l) m
end
structure nr (X:Cx) (pins:List (Addr×Obj)) (g:Heap):Prop where
 s0:∀b o,X.s₀.heap.get? b=some o->b∉X.ex->∃o',g.get? b=some o'
 loc:∃o,g.get? X.env.locals=some o
 cell:∀x c,X.env.cells.lookup x=some c->∃o,g.get? c=some o
 pin:∀p∈X.pn++pins,∃o,g.get? p.1=some o
section
variable{X:Cx}{pins:List (Addr×Obj)}{Y:St}{H:Hp}{s:Shared}{g h':Heap}
theorem _root_.L2.Inv.cov(I:Inv X pins Y H s):nr X pins s.heap:=by
 refine⟨fun b o e n=>I.base.there b o e n,?_,fun x c e=>?_,fun p d=>⟨_,(I.pin p d).1⟩⟩
 ·obtain⟨m,⟨o,f,h,a,_⟩,_⟩:=I.loc;exact⟨o,a⟩
 ·obtain⟨v,o,a,_⟩:=I.cell x c e;exact⟨o,a⟩
theorem _root_.L2.Inv.stkIn(I:Inv X pins Y H s){b:Addr}(h:b∉bP X.stack):b∉X.fs:=by
 rcases I.ok.stk with e | ⟨e,a⟩
 ·rw[e] at h;exact h
 ·rw[e] at h;unfold bP at h;rw[List.filterMap_cons,a] at h;exact fun z=>h (bq _ z)
theorem _root_.L2.Inv.stkOut(I:Inv X pins Y H s){b:Addr}(h:b∉X.fs)(a:b≠X.env.locals):b∉bP X.stack:=fun z=>(List.mem_cons.mp (I.stkSub b z)).elim a h
theorem HX{h h':Heap}{a:Addr}{m:Str->Option Value}(k:∀o,h.get? a=some o->∃b,h'.get? a=some { o with slots:=b })(c:h.Ns a m):h'.Ns a m:=by obtain⟨o,d,e,f,hd,r⟩:=c;obtain⟨b,i⟩:=k o f;exact⟨_,d,e,i,hd,r⟩
theorem _root_.L2.Inv.ch(I:Inv X pins Y H s)(C:nr X pins g)(c:Ch g H (bP X.stack) s.heap h'):Inv X pins Y H { s with heap:=h' }:=by
 have M:∀b o,s.heap.get? b=some o->H b≠none->h'.get? b=some o:=fun b o e n=>c.keep b o e (.inr n) fun z=>n (I.stkFree b z);have G:∀x a,X.env.cells.lookup x=some a->∀o,s.heap.get? a=some o->∃A,h'.get? a=some A/\A.data=o.data:=fun x a e o h=>by
  by_cases t:a∈bP X.stack
  ·obtain⟨N,y⟩:=c.slot a o t h;exact⟨_,y,rfl⟩
  ·exact⟨o,c.keep a o h (.inl (C.cell x a e)) t,rfl⟩
 refine⟨I.ok,I.os,I.bare,⟨fun b o e n B w=>?_,fun b o e n B w=>?_,fun b o e n w=>I.base.free b o e n w,fun b o e w=>?_,I.base.tups,I.base.frzs,I.base.tbls⟩,?_,fun x a e=>?_,I.free,I.freeC,fun p J=>?_,fun b u e=>?_,I.len⟩
 ·have y:=I.base.keep b o e n B w;refine c.keep b o y (.inl (C.s0 b o e w)) (I.stkOut B fun z=>?_);have j:=I.ok.above;have f:b<X.s₀.heap.objs.size:=ba e;rw[z] at f;exact Nat.lt_irrefl _ (Nat.lt_of_lt_of_le f j)
 ·obtain⟨N,y⟩:=I.base.slot b o e n B w
  by_cases t:b∈bP X.stack
  ·obtain⟨E,O⟩:=c.slot b _ t y;exact⟨E,O⟩
  ·exact absurd B (I.stkIn t)
 ·obtain⟨Q,y⟩:=I.base.there b o e w;exact c.there b Q y
 ·obtain⟨m,R,S⟩:=I.loc;refine⟨m,HX (fun o h=>?_) R,fun i x v j f D=>?_⟩
  ·by_cases t:X.env.locals∈bP X.stack
   ·exact c.slot _ o t h
   ·exact⟨o.slots,c.keep _ o h (.inl C.loc) t⟩
  ·obtain⟨u,r,l⟩:=S i x v j f D;refine⟨u,r,?_⟩;rcases l with l | ⟨k,a,e,o,h,hd⟩
   ·exact .inl l
   ·obtain⟨A,j,f⟩:=G x a e o h;exact .inr ⟨k,a,e,A,j,f.trans hd⟩
 ·obtain⟨v,o,h,hd⟩:=I.cell x a e;obtain⟨A,j,f⟩:=G x a e o h;exact⟨v,A,j,f.trans hd⟩
 ·obtain⟨j,f,D,L,T⟩:=I.pin p J;exact⟨c.keep _ _ j (.inl (C.pin p J)) (I.stkOut L D),f,D,L,T⟩
 ·refine(I.hok b u e).stay (fun d v hd q=>M d v q ?_) (fun _ q=>q) fun _ _ q=>q;rcases hd with rfl | hd
  ·rw[e];exact fun z=>by cases z
  ·rw[hd];exact fun z=>by cases z
noncomputable def bD(P:Program)(w:World):gE:=fun b H s E e c=>∃a C d,e=.ref a/\c.os=s.os/\AllBare c.gens/\Un (bP b) [] H d s.heap c.heap/\cg P w d c.heap/\eY s.heap d c.heap a C (some .none)/\E C none d
structure HY (X:Cx) (pins:List (Addr×Obj)) (Y:St) (H:Hp) (s:Shared) (e:Value) (c:Str):Prop where
 inv:Inv X pins Y H s
 ex:∃a C g fl,e=.ref a/\nr X pins g/\eY g H s.heap a C fl/\X.mg c=some C
noncomputable def glob(x:Str):Option PyData:=if x="ANY_ZONE" then some (.tuple [.int 0,.tuple []]) else if x="NO_DEEDS" then some (.tuple []) else none
noncomputable def eZ:HO->Bool
 | .tup _=>true
 | .frz _ (.tup _)=>true
 | _=>false
theorem HZ{u:HO}(h:eZ u=true):¬ Mv u:=fun m=>by
 cases u with
 | tup _=>exact m
 | frz _ _=>exact m
 | _=>cases h
noncomputable def nt(H:Hp):Hp:=fun b=>match H b with
 | some u=>if eZ u=true then some u else none
 | none=>none
theorem Ia{H:Hp}{b:Addr}{o:HO}(h:nt H b=some o):eZ o=true/\H b=some o:=by
 unfold nt at h;split at h
 ·rename_i u e;split at h
  ·rename_i t;cases h;exact⟨t,e⟩
  ·cases h
 ·cases h
theorem Ib{H:Hp}{b:Addr}{u:HO}(t:eZ u=true)(h:H b=some u):nt H b=some u:=by unfold nt;rw[h];exact if_pos t
def GH(mg:Str->Option Value)(H:Hp):Prop:=∀x d u,glob x=some d->mg x=some u->∃v,bd v u/\DV (nt H) v d
def GF(mg:Str->Option Value)(F:Fx):Prop:=GH mg fun b=>if b∈F.A₀ then none else F.H₀ b
theorem GH.mono{mg:Str->Option Value}{H a:Hp}(g:GH mg H)(k:∀b u,eZ u=true->H b=some u->a b=some u):GH mg a:=fun x d u h i=>by obtain⟨v,r,c⟩:=g x d u h i;exact⟨v,r,DV.mono (fun b o e=>by obtain⟨t,f⟩:=Ia e;exact Ib t (k b o t f)) c⟩
theorem GF.at{mg:Str->Option Value}{K:Frag}{F:Fx}{H:Hp}{Y:St}{U:ao}{O:List Addr}(g:GF mg F)(st:aC K F H Y U O):GH mg H:=GH.mono g fun b c t e=>by
 obtain⟨W,st,rfl⟩:=st;split at e
 ·cases e
 ·rename_i a;exact st.kept b _ a e
theorem GH.frame{mg:Str->Option Value}{H:Hp}{A O:List Addr}{io:Nat->Addr}(g:GH mg H)(h:∀a∈A,∃o,H a=some o/\Mv o):GF mg ⟨H,A,O,io⟩:=GH.mono g fun b d t e=>by show(if b∈A then none else H b)=_;rw[if_neg,e];intro z;obtain⟨o,c,m⟩:=h b z;rw[e] at c;cases c;exact HZ t m
theorem GF.into{mg:Str->Option Value}{K:Frag}{F:Fx}{H:Hp}{Y:St}{U:ao}{O b:List Addr}{io:Nat->Addr}(g:GF mg F)(st:aC K F H Y U O):GF mg ⟨H,[],b,io⟩:=(g.at st).frame fun a h=>by cases h
def jz(X:Cx)(F:Fx)(E:Str->ao->Prop):Prop:=GF X.mg F/\∀(pins:List (Addr×Obj)) (Y:St) (H:Hp) (s:Shared) (e:Value) (c:Str) (U:ao) (O:List Addr),HY X pins Y H s e c->aC X.K F H Y U O->E c U->X.xe e s
theorem eY.weak{g c:Heap}{H:Hp}{h:Heap}{a:Addr}{C:Value}{j:Option Value}(x:eY g H h a C j)(k:∀b o,c.get? b=some o->∃d,g.get? b=some d):eY c H h a C j:=by
 have l:∀b,g.get? b=none->c.get? b=none:=fun b e=>by
  cases q:c.get? b with
  | none=>rfl
  | some o=>obtain⟨d,i⟩:=k b o q;rw[e] at i;cases i
 obtain⟨y,lo,un,m,vs,a0,n,p,hd,r,t⟩:=x;refine⟨fun b o e=>let⟨d,i⟩:=k b o e;y b d i,l a lo,un,m,vs,a0,n,p,hd,r,t.imp id ?_⟩;rintro⟨T,u,v,f,h1,h2,h3,w⟩;exact⟨T,u,v,f,h1,h2,l T h3,w⟩
theorem _root_.L2.Inv.flies{E:XK}{e:Value}{f:Shared}(I:Inv X pins Y H s)(h:bD X.prog X.w X.stack H s E e f):∃a C c,e=.ref a/\Inv X pins Y c f/\nr X pins s.heap/\eY s.heap c f.heap a C (some .none)/\E C none c:=by obtain⟨a,C,c,j,os,bare,un,hok,ex,q⟩:=h;obtain⟨k,g,d,t,i⟩:=f;obtain rfl:i = s.os:=os;exact⟨a,C,c,j,I.call (h':=k) (g':=g) (d':=d) (t':=t) (ch:=[]) un hok bare (fun b z=>absurd z (by simp)),I.cov,ex,q⟩
end
theorem Ie{P:Program}{w:World}{K:Frag}{mg:Str->Option Value}{base:Heap}{N:List Str}{i:Str}{d:Scope}{f:Addr}{j:Value}{A:Around}{h:List Env}{s:Shared}{H:Hp}{E:XK}{F:Fx}{m:Str->ao->Prop}
  (u:GF mg F) (v:∀c C n x p y,mg c=some C->aC K F p x n y->m c n->E C none p):jz (iP (bD P w) P w K mg base N i d f j A h s H E) F m:=by
 refine⟨u,?_⟩;intro r Y k B e c U O ⟨I,a,C,g,Q,D,t,ex,G⟩ st q;subst D;have L:(A.deeper (envOfC i d s.heap.objs.size f j)).frames=some (envOfC i d s.heap.objs.size f j::h):=I.ok.frames;have hb:∀b,B.heap.get? b=none->k b=none:=fun b z=>cg.some_of I.hok z;have stk:bP (envOfC i d s.heap.objs.size f j::h)=s.heap.objs.size::bP h:=rfl;refine HW (base:=base) L I.stack rfl hb ex fun R ch l=>?_;have J:=I.ch t ch;refine⟨a,C,k,rfl,J.os,J.bare,J.base,J.hok,l.weak fun b o M=>t.s0 b o M (by intro z;cases z),v c C U Y k O G st q⟩
noncomputable def Fx.plus(F:Fx)(a:List Addr):Fx:={ F with O₀:=a++F.O₀ }
theorem Fx.plus_plus{F:Fx}{l m:List Addr}:(F.plus l).plus m=F.plus (m++l):=by unfold Fx.plus;simp
section
variable{K:Frag}{F:Fx}{H H':Hp}{Y:St}{U:ao}{O O':List Addr}{W:List (List Addr)}{fp:List Addr}{v:V}{c:aj}
structure iw (K:Frag) (F:Fx) (H:Hp) (Y:St) (U:ao) (O:List Addr) (v:V) (c:aj) (fp:List Addr):Prop where
 st:aC K (F.plus fp) H Y U O
 at_:dr K H O v c fp
 new:∀a∈fp,a∈F.A₀\/F.H₀ a=none
theorem gK(h:∀a∈O',a∈O):aU O H O' H:=⟨fun _ _ _ e=>e,fun a z=>.inl (h a z)⟩
theorem cD.less{b:Fx}(st:cD K F H Y U W)(d:b.H₀=F.H₀)(f:b.A₀=F.A₀)(g:b.I₀=F.I₀)(m:b.O₀.Sublist F.O₀):cD K b H Y U W:=by have sub:(W.flatten++b.O₀).Sublist (W.flatten++F.O₀):=List.Sublist.append (List.Sublist.refl _) m;have mem:∀a∈W.flatten++b.O₀,a∈W.flatten++F.O₀:=fun a h=>sub.subset h;refine⟨fun i c e=>?_,st.nd.sublist sub,by rw[d,f];exact st.kept,by rw[d,f];exact st.new,fun a h=>st.live a (mem a h),st.len,st.lw,by rw[g];exact st.io⟩;obtain⟨v,fp,j,k,l⟩:=st.at_ i c e;exact⟨v,fp,j,k,l.keep (gK mem) (fun _ _=>rfl) (fun _ _ _ e=>e)⟩
theorem aC.unplus(st:aC K (F.plus fp) H Y U O):∃O',aC K F H Y U O'/\aU O H O' H/\(∀a∈fp,a∉O'):=by
 obtain⟨W,st,rfl⟩:=st;have b:cD K F H Y U W:=st.less rfl rfl rfl (List.sublist_append_right _ _);refine⟨_,⟨W,b,rfl⟩,gK fun a h=>?_,fun a d z=>?_⟩
 ·rcases List.mem_append.mp h with h | h
  ·exact bO _ h
  ·exact bB _ (bB _ h)
 ·have nd:(W.flatten++(fp++F.O₀)).Nodup:=st.nd;obtain⟨_,e,f⟩:=List.nodup_append.mp nd;rcases List.mem_append.mp z with z | z
  ·exact f a z a (bO _ d) rfl
  ·exact(List.nodup_append.mp e).2.2 a d a z rfl
theorem iw.drop(r:iw K F H Y U O v c fp):∃O',aC K F H Y U O'/\aU O H O' H:=let⟨O',h1,h2,_⟩:=r.st.unplus;⟨O',h1,h2⟩
@[simp] noncomputable def frz:aj->Option PyData
 | .dat d=>some d
 | .own _ (.l a)=>some (.list a)
 | _=>none
theorem iw.frz{d:PyData}(r:iw K F H Y U O v c fp)(e:frz c=some d):∃O',aC K F H Y U O'/\aU O H O' H/\DV (au O' H) v d:=by
 obtain⟨O',h1,h2,h3⟩:=r.st.unplus;refine⟨O',h1,h2,?_⟩;have f:=r.at_;cases c with
 | dat x=>cases e;exact DV.mono h2.hid f
 | scr ns=>cases e
 | exc c=>cases e
 | vw c=>cases e
 | own io b=>
  cases b with
  | l i=>cases e;obtain⟨a,rfl,rfl,j,g,h⟩:=f;exact .lst (gG g (h3 a (by simp))) (aI.mono h2.hid h)
  | m _ _=>cases e
  | o _ _=>cases e
  | sd _=>cases e
  | ll _=>cases e
  | pr _ _ _=>cases e
theorem Ig(st:aC K F H Y U O){d:PyData}(h:DV (au O H) v d):iw K F H Y U O v (.dat d) []:=⟨st,h,fun a h=>by cases h⟩
theorem aC.put1{io:Bool}(st:aC K (F.plus fp) H Y U O)(r:dr K H O v c fp)(new:∀a∈fp,a∈F.A₀\/F.H₀ a=none){i:Nat}(m:i<U.length)(n:∀b,c=.own true b->v=.ref (F.I₀ i)) :
  ∃O',aC K F H (Y.set i (some v)) (U.set i (some c)) O'/\aU O H O' H:=by
 obtain⟨W,st,rfl⟩:=st;have nd:(W.flatten++(fp++F.O₀)).Nodup:=st.nd;obtain⟨s,t,q⟩:=List.nodup_append.mp nd;obtain⟨u,x,y⟩:=List.nodup_append.mp t;have o:i<W.length:=by rw[st.lw];exact m
 have sub:∀a∈(W.set i fp).flatten++F.O₀,a∈W.flatten++(fp++F.O₀):=fun a h=>by
  rcases List.mem_append.mp h with h | h
  ·rcases fN h with h | ⟨j,l,_,e,p⟩
   ·exact bB _ (bO _ h)
   ·exact bO _ (cK e p)
  ·exact bB _ (bB _ h)
 have bH:=gK (H:=H) sub;refine⟨_,⟨W.set i fp,⟨fun j d e=>?_,pL (List.nodup_append.mpr ⟨s,x,fun a g b A=>q a g b (bB _ A)⟩) u fun a g=>⟨fun j l _ e z=>q a (cK e z) a (bO _ g) rfl,fun z=>y a g a z rfl⟩,st.kept,fun a h=>?_,fun a h=>st.live a (sub a h),by rw[List.length_set,List.length_set,st.len],by rw[List.length_set,List.length_set,st.lw],fun j b e=>?_⟩,rfl⟩,bH⟩
 ·rcases im e with⟨rfl,f,_⟩ | ⟨k,f⟩
  ·cases f;exact⟨v,fp,List.getElem?_set_self (by rw[<-st.len];exact m),List.getElem?_set_self o,r.keep bH (fun _ _=>rfl) (fun _ _ _ e=>e)⟩
  ·obtain⟨w,l,h1,h2,h3⟩:=st.at_ j d f;exact⟨w,l,by rw[List.getElem?_set_ne (Ne.symm k)];exact h1,by rw[List.getElem?_set_ne (Ne.symm k)];exact h2,h3.keep bH (fun _ _=>rfl) (fun _ _ _ e=>e)⟩
 ·rcases fN h with h | ⟨j,l,_,e,p⟩
  ·exact new a h
  ·exact st.new a (cK e p)
 ·rcases im e with⟨rfl,f,_⟩ | ⟨k,f⟩
  ·rw[List.getElem?_set_self (by rw[<-st.len];exact m),n b (Option.some.inj f).symm]
  ·rw[List.getElem?_set_ne (Ne.symm k)];exact st.io j b f
theorem aC.take(st:aC K F H Y U O){i:Nat}{io:Bool}{b:Bx}(e:U[i]? = some (some (.own io b))):∃a fp O',Y[i]? = some (some (.ref a))/\aC K (F.plus fp) H Y (U.set i none) O'/\fB (au O' H) H a b fp/\aU O H O' H/\aU O' H O H/\(∀a∈fp,a∈F.A₀\/F.H₀ a=none)/\(io=true->a=F.I₀ i):=by
 obtain⟨W,st,rfl⟩:=st;obtain⟨v,fp,h1,h2,a,rfl,h3⟩:=st.at_ i _ e;have E:i<U.length:=(List.getElem?_eq_some_iff.mp e).1;have G:i<W.length:=by rw[st.lw];exact E
 obtain⟨C,I,J⟩:=List.nodup_append.mp st.nd;have D:∀x∈(W.set i []).flatten++(fp++F.O₀),x∈W.flatten++F.O₀:=fun x h=>by
  rcases List.mem_append.mp h with h | h
  ·rcases fN h with h | ⟨j,l,_,g,m⟩
   ·cases h
   ·exact bO _ (cK g m)
  ·rcases List.mem_append.mp h with h | h
   ·exact bO _ (cK h2 h)
   ·exact bB _ h
 have L:∀x∈W.flatten++F.O₀,x∈(W.set i []).flatten++(fp++F.O₀):=fun x h=>by
  rcases List.mem_append.mp h with h | h
  ·obtain⟨l,m,f⟩:=List.mem_flatten.mp h;obtain⟨j,n⟩:=List.getElem?_of_mem m
   by_cases r:j=i
   ·subst r;rw[h2] at n;cases n;exact bB _ (bO _ f)
   ·exact bO _ (He r n f)
  ·exact bB _ (bB _ h)
 have s:fp.Nodup:=by
  have:∀{W:List (List Addr)}{i:Nat}{l:List Addr},W.flatten.Nodup->W[i]? = some l->l.Nodup:=fun {W i l} Q m=>Q.sublist (by
   have:=List.mem_of_getElem? m;exact List.sublist_flatten_of_mem this)
  exact this C h2
 have t:((W.set i []).flatten++(fp++F.O₀)).Nodup:=by
  have q:((W.set i []).flatten++([]++F.O₀)).Nodup:=pL (fp:=[]) (O:=F.O₀) st.nd List.nodup_nil (fun a h=>by cases h);obtain⟨u,_,A⟩:=List.nodup_append.mp q;refine List.nodup_append.mpr ⟨u,List.nodup_append.mpr ⟨s,I,fun x f y o z=>J x (cK h2 f) y o z⟩,fun x f y o z=>?_⟩;subst z;rcases List.mem_append.mp o with o | o
  ·rcases fN f with f | ⟨j,l,n,g,m⟩
   ·cases f
   ·exact ni C h2 g (Ne.symm n) o m
  ·exact A x f x o rfl
 have bH:=gK (H:=H) D;have k:=gK (H:=H) L;refine⟨a,fp,_,h1,⟨W.set i [],⟨fun j d g=>?_,t,st.kept,fun x h=>?_,fun x h=>st.live x (D x h),by rw[List.length_set,st.len],by rw[List.length_set,List.length_set,st.lw],fun j M g=>?_⟩,rfl⟩,h3.keep (fun _ _=>rfl) bH.hid,bH,k,fun x f=>st.new x (cK h2 f),fun B=>?_⟩
 ·rcases im g with⟨rfl,p,_⟩ | ⟨n,p⟩
  ·cases p
  ·obtain⟨w,l,u,N,A⟩:=st.at_ j d p;exact⟨w,l,u,by rw[List.getElem?_set_ne (Ne.symm n)];exact N,A.keep bH (fun _ _=>rfl) (fun _ _ _ e=>e)⟩
 ·rcases fN h with h | ⟨j,l,_,g,m⟩
  ·cases h
  ·exact st.new x (cK g m)
 ·rcases im g with⟨rfl,p,_⟩ | ⟨n,p⟩
  ·cases p
  ·exact st.io j M p
 ·subst B;have:=st.io i b e;rw[h1] at this;cases this;rfl
theorem aC.swap{L L':List Addr}(st:aC K (F.plus L) H Y U O)(keep:∀b o,b∉L->H b=some o->H' b=some o)(D:L'.Nodup)(new:∀a∈L',a∈L\/H a=none)(t:∀a∈L,a∈F.A₀\/F.H₀ a=none)(k:∀a∈L',∃o,H' a=some o/\Mv o) :
  ∃O',aC K (F.plus L') H' Y U O'/\aU O H O' H'/\(∀a∈L',a∈O')/\(∀a∈O',a∈L'\/a∈O/\a∉L)/\∀a∈O,a∉L->a∈O':=by
 obtain⟨W,st,rfl⟩:=st;have l:(W.flatten++(L++F.O₀)).Nodup:=st.nd;obtain⟨w,x,p⟩:=List.nodup_append.mp l;obtain⟨E,y,A⟩:=List.nodup_append.mp x;have m:∀a∈W.flatten,a∉L:=fun a h z=>p a h a (bO _ z) rfl;have ol:∀a∈F.O₀,a∉L:=fun a h z=>A a z a h rfl;have g:∀a∈W.flatten++F.O₀,∃o,H a=some o/\Mv o:=fun a h=>st.live a (by
  rcases List.mem_append.mp h with h | h
  ·exact bO _ h
  ·exact bB _ (bB _ h))
 have kp:∀a∈W.flatten++F.O₀,H' a=H a:=fun a h=>by obtain⟨o,e,_⟩:=g a h;rw[e];exact keep a o ((List.mem_append.mp h).elim (m a) (ol a)) e
 have ap:∀a∈L',a∉W.flatten++F.O₀:=fun a h z=>by
  rcases new a h with q | q
  ·rcases List.mem_append.mp z with z | z
   ·exact m a z q
   ·exact ol a z q
  ·obtain⟨o,e,_⟩:=g a z;rw[q] at e;cases e
 have bH:aU (W.flatten++(L++F.O₀)) H (W.flatten++(L'++F.O₀)) H':=⟨fun b o d e=>keep b o (fun z=>d (bB _ (bO _ z))) e,fun a h=>by
  rcases List.mem_append.mp h with h | h
  ·exact .inl (bO _ h)
  ·rcases List.mem_append.mp h with h | h
   ·exact(new a h).imp (fun z=>bB _ (bO _ z)) id
   ·exact .inl (bB _ (bB _ h))⟩
 have B:∀b o u,H b=some (.frz o u)->H' b=some (.frz o u):=fun b o u e=>keep b _ (fun z=>st.nofrz (bB _ (bO _ z)) e) e;refine⟨_,⟨W,⟨fun i c e=>?_,?_,fun b o d e=>?_,st.new,fun a h=>?_,st.len,st.lw,st.io⟩,rfl⟩,bH,fun a h=>bB _ (bO _ h),fun a h=>?_,fun a h C=>?_⟩
 ·obtain⟨v,fp,h1,h2,h3⟩:=st.at_ i c e;exact⟨v,fp,h1,h2,h3.keep bH (fun b d=>kp b (bO _ (cK h2 d))) B⟩
 ·refine List.nodup_append.mpr ⟨w,List.nodup_append.mpr ⟨D,y,fun a j b d z=>?_⟩,fun a j b d z=>?_⟩
  ·subst z;exact ap a j (bB _ d)
  ·subst z;rcases List.mem_append.mp d with d | d
   ·exact ap a d (bO _ j)
   ·exact p a j a (bB _ d) rfl
 ·have f:=st.kept b o d e
  by_cases r:b∈L
  ·rcases t b r with q | q
   ·exact absurd q d
   ·have s:F.H₀ b=some o:=e;rw[q] at s;cases s
  ·exact keep b o r f
 ·rcases List.mem_append.mp h with h | h
  ·obtain⟨o,f,n⟩:=g a (bO _ h);exact⟨o,by rw[kp a (bO _ h)];exact f,n⟩
  ·rcases List.mem_append.mp h with h | h
   ·exact k a h
   ·obtain⟨o,f,n⟩:=g a (bB _ h);exact⟨o,by rw[kp a (bB _ h)];exact f,n⟩
 ·rcases List.mem_append.mp h with h | h
  ·exact .inr ⟨bO _ h,m a h⟩
  ·rcases List.mem_append.mp h with h | h
   ·exact .inl h
   ·exact .inr ⟨bB _ (bB _ h),ol a h⟩
 ·rcases List.mem_append.mp h with h | h
  ·exact bO _ h
  ·rcases List.mem_append.mp h with h | h
   ·exact absurd h C
   ·exact bB _ (bB _ h)
end
abbrev fP:=ao->(aj->ao->Prop)->Prop
def yq(t:fP):Prop:=∀U Q a,(∀c b,Q c b->a c b)->t U Q->t U a
noncomputable def Ih(K:Frag)(F:Fx)(t:fP):TE:=fun Y H Q=>∃U O,aC K F H Y U O/\t U fun c d=>∀v a b e,iw K F a Y d b v c e->aU O H b a->Q v a
structure DO (X:Cx) (F:Fx) (e:Expr) (t:fP):Prop where
 mn:yq t
 pe:PE X e (Ih X.K F t)
section
variable{X:Cx}{F:Fx}{e:Expr}{te:DT}{to:fP}
noncomputable def Ii(t:fP):DT:=fun U Q=>t U fun c a=>∃d,frz c=some d/\Q d a
theorem DO.de(h:DO X F e to):DE X F e (Ii to):=
 ⟨fun _ _ _ k q=>h.mn _ _ _ (fun _ _ ⟨d,e,q⟩=>⟨d,e,k _ _ q⟩) q,h.pe.imp fun Y H Q ⟨U,O,st,q⟩=>⟨U,O,st,h.mn _ _ _ (fun c j ⟨d,e,q⟩ v b l m r s=>by
  obtain⟨f,a,g,i⟩:=r.frz e;exact q v b f a (s.trans g) i) q⟩⟩
end
abbrev dX:=PyData->ao->(ao->Prop)->Prop
noncomputable def tL(K:Frag)(F:Fx)(t:dX):TG:=fun v Y H Q=>∃U O d,aC K F H Y U O/\DV (au O H) v d/\t d U fun e=>∀b a c,aC K F a b e c->aU O H c a->Q b a
structure DG (X:Cx) (F:Fx) (tg:Expr) (t:dX):Prop where
 mn:∀d U Q Q',(∀U',Q U'->Q' U')->t d U Q->t d U Q'
 pg:PG X tg (tL X.K F t)
abbrev iU:=List PyData->ao->(ao->Prop)->Prop
noncomputable def Ij(K:Frag)(F:Fx)(t:iU):ig:=fun vs Y H Q=>∃U O b,aC K F H Y U O/\aI (au O H) vs b/\t b U fun e=>∀c a d,aC K F a c e d->aU O H d a->Q c a
structure nu (X:Cx) (F:Fx) (tg:List Expr) (t:iU):Prop where
 mn:∀d U Q Q',(∀U',Q U'->Q' U')->t d U Q->t d U Q'
 pg:PGs X tg (Ij X.K F t)
theorem _root_.L2.PG.imp{X:Cx}{e:Expr}{t t':TG}(h:PG X e t)(k:∀v Y H Q,t' v Y H Q->t v Y H Q):PG X e t':=fun a s Y H v u Q I r q=>h a s Y H v u Q I r (k v Y H Q q)
theorem _root_.L2.PGs.imp{X:Cx}{e:List Expr}{t t':ig}(h:PGs X e t)(k:∀v Y H Q,t' v Y H Q->t v Y H Q):PGs X e t':=fun a s Y H v u Q I r q=>h a s Y H v u Q I r (k v Y H Q q)
section
variable{X:Cx}{F:Fx}{e:Expr}{es:List Expr}{pos:Pos}{x:Str}{t:dX}{ts:iU}
noncomputable def gN(i:Nat):dX:=fun d U Q=>Q (U.set i (some (.dat d)))
theorem Ik{i:Nat}(h:PG X (.Name x pos) (px i)):DG X F (.Name x pos) (gN i):=⟨fun _ _ _ _ k q=>k _ q,h.imp fun v Y H Q ⟨U,O,d,st,hd,q⟩=>q _ H O (st.set hd) .refl⟩
noncomputable def Il:iU:=fun a U Q=>a=[]/\Q U
noncomputable def Im(t:dX)(u:iU):iU:=fun a U Q=>∃d r,a=d::r/\t d U fun b=>u r b Q
theorem Io:nu X F [] Il:=⟨fun _ _ _ _ k q=>⟨q.1,k _ q.2⟩,Em.imp fun vs Y H Q ⟨U,O,a,st,hd,e,q⟩=>by
 subst e;cases hd;exact⟨rfl,q _ H O st .refl⟩⟩
theorem Ip(f:DG X F e t)(g:nu X F es ts)(i:(assignEach (e::es) X.env).map (·.2)=assign e X.env::(assignEach es X.env).map (·.2):=by rfl):nu X F (e::es) (Im t ts):=
 ⟨fun _ _ _ _ k ⟨d,r,e,q⟩=>⟨d,r,e,f.mn _ _ _ _ (fun _ a=>g.mn _ _ _ _ k a) q⟩,(En f.pg g.pg i).imp fun vs Y H Q ⟨U,O,v,st,hd,d,r,e,q⟩=>by
  subst e;cases hd with
  | cons hd j=>
   exact⟨_,_,rfl,U,O,d,st,hd,f.mn _ _ _ _ (fun l a w y m b h=>⟨l,m,r,b,aI.mono h.hid j,g.mn _ _ _ _ (fun z n o p s c u=>n o p s c (h.trans u)) a⟩) q⟩⟩
noncomputable def Iq(n:Nat)(t:iU):dX:=fun d U Q=>∃a,d=.tuple a/\a.length=n/\t a U Q
theorem Ir{k n:Nat}(g:X.calm=true)(h:nu X F es ts)(i:(assignEach es X.env).length=n:=by rfl)(b:(assignEach es X.env).findIdx? (·.1)=none:=by rfl):DG X F (.Tuple es k pos) (Iq n ts):=
 ⟨fun _ _ _ _ k ⟨c,e,l,q⟩=>⟨c,e,l,h.mn _ _ _ _ k q⟩,(Ep g h.pg i b).imp fun v Y H Q ⟨U,O,d,st,hd,c,e,l,q⟩=>by
  subst e;obtain⟨a,j,rfl,m,f⟩:=hd.tup_inv;exact⟨a,j,rfl,.inl (gi m).1,by rw[f.length];exact l,U,O,c,st,f,q⟩⟩
end
structure dY where
 nx:ao->Prop
 rt:aj->ao->Prop
 bk:ao->Prop:=fun _=>False
 ct:ao->Prop:=fun _=>False
abbrev cX:=dY->ao->Prop
structure ix (K:Frag) (F:Fx) (O:List Addr) (H:Hp) (D:fz) (DD:dY):Prop where
 nx:∀Y' H' U' O',aC K F H' Y' U' O'->aU O H O' H'->DD.nx U'->D.nx Y' H'
 rt:∀v Y' H' c U' O' fp,iw K F H' Y' U' O' v c fp->aU O H O' H'->DD.rt c U'->D.rt v H'
 bk:∀Y' H' U' O',aC K F H' Y' U' O'->aU O H O' H'->DD.bk U'->D.bk Y' H'
 ct:∀Y' H' U' O',aC K F H' Y' U' O'->aU O H O' H'->DD.ct U'->D.ct Y' H'
theorem ix.later{K:Frag}{F:Fx}{O b:List Addr}{H d:Hp}{D:fz}{e:dY}(f:ix K F O H D e)(s:aU O H b d):ix K F b d D e:=
 ⟨fun Y H U O st a q=>f.nx Y H U O st (s.trans a) q,fun v Y H c U O g r a q=>f.rt v Y H c U O g r (s.trans a) q,fun Y H U O st a q=>f.bk Y H U O st (s.trans a) q,fun Y H U O st a q=>f.ct Y H U O st (s.trans a) q⟩
noncomputable def yr(K:Frag)(F:Fx)(t:cX):TS:=fun D Y H=>∃U O a,aC K F H Y U O/\t a U/\ix K F O H D a
def DS(X:Cx)(F:Fx)(s:Stmt)(t:cX):Prop:=PS X s (yr X.K F t)
def fC(X:Cx)(F:Fx)(s:List Stmt)(t:cX):Prop:=PSs X s (yr X.K F t)
section
variable{X:Cx}{F:Fx}{e:Expr}{es:List Expr}{st:Stmt}{rest:List Stmt}{t u:cX}{te:DT}{to:fP}{tA:cW}{tc:cG}{tg:dX}{pos:Pos}{x:Str}
noncomputable def Iu:cX:=fun D U=>D.nx U
noncomputable def Iw(t u:cX):cX:=fun D U=>t { D with nx:=fun a=>u D a } U
theorem Ix:fC X F [] Iu:=Ec.imp fun D Y H ⟨U,O,a,st,q,f⟩=>f.nx Y H U O st .refl q
theorem Iy(i:DS X F st t)(j:fC X F rest u):fC X F (st::rest) (Iw t u):=
 (Ed i j).imp fun D Y H ⟨U,O,b,s,q,f⟩=>⟨U,O,_,s,q,⟨fun k l c d a g h=>⟨c,d,b,a,h,f.later g⟩,f.rt,f.bk,f.ct⟩⟩
theorem Iz(h:DS X F st t):fC X F [st] t:=Ee h
noncomputable def pR(te:DT)(tg:dX):cX:=fun D U=>te U fun d a=>tg d a D.nx
theorem IA{a:Expr}(g:DE X F e te)(h:DG X F a tg)(i:swapsWithSole [a] e pos.line X.env=pure false:=by rfl)(j:swappedStores [a] e X.env=pure none:=by rfl)
  (A:(assignEach [a] X.env).map (·.2)=[assign a X.env]:=by rfl):DS X F (.Assign [a] e pos) (pR te tg):=
 (Er g.pe h.pg i j A).imp fun D Y H ⟨U,O,B,st,q,f⟩=>⟨U,O,st,g.mn _ _ _ (fun d k l v C m b n o=>⟨k,m,d,b,o,h.mn _ _ _ _ (fun p r s w y c z=>f.nx s w p y c (n.trans z) r) l⟩) q⟩
theorem IB{i:Nat}{a:Pos}(g:X.N.Nodup)(h:X.N[i]? = some x)(j:Loc X.env.scope x)(c:DE X F e te)(k:swapsWith e (some (.Name x a)) pos.line X.env=pure false:=by rfl)
  (l:X.fn x=true\/X.env.scope.names.lookup x=some .local:=by first | exact .inl rfl | exact .inr rfl | assumption):DS X F (.Assign [.Name x a] e pos) (pR te (gN i)):=
 (xj g h j c.pe k l).imp fun D Y H ⟨U,O,s,st,q,f⟩=>⟨U,O,st,c.mn _ _ _ (fun d w m v n o b p r=>f.nx _ n _ o (b.set r) p m) q⟩
noncomputable def IC(te:DT):cX:=fun D U=>te U fun d a=>D.rt (.dat d) a
theorem yt(b:DE X F e te):DS X F (.Return (some e) pos) (IC te):=
 (sy b.pe).imp fun D Y H ⟨U,O,l,st,q,f⟩=>⟨U,O,st,b.mn _ _ _ (fun d c g v h i a j k=>f.rt v Y h (.dat d) c i [] (Ig a k) j g) q⟩
noncomputable def ID(to:fP):cX:=fun D U=>to U fun c a=>D.rt c a
theorem IE(a:DO X F e to):DS X F (.Return (some e) pos) (ID to):=
 (sy a.pe).imp fun D Y H ⟨U,O,k,st,q,f⟩=>⟨U,O,st,a.mn _ _ _ (fun c b d v g h i r j=>f.rt v Y g c b h i r j d) q⟩
noncomputable def IF(i:Nat):cX:=fun D U=>∃b,U[i]? = some (some (.own false b))/\D.rt (.own false b) (U.set i none)
theorem IG{i:Nat}{c:Pos}(d:PE X (.Name x c) (dN i)):DS X F (.Return (some (.Name x c)) pos) (IF i):=
 (sy d).imp fun D Y H ⟨U,O,l,st,⟨b,e,q⟩,f⟩=>by obtain⟨a,g,h,h1,h2,h3,j,m,k,_⟩:=st.take e;exact⟨_,h1,f.rt _ Y H (.own false b) _ h g ⟨h2,⟨a,rfl,h3⟩,k⟩ j q⟩
noncomputable def IH(i:Nat)(to:fP):cX:=fun D U=>to U fun c a=>i<a.length/\(∀b,c≠.own true b)/\D.nx (a.set i (some c))
theorem II{i:Nat}{a:Pos}(h:X.N.Nodup)(j:X.N[i]? = some x)(k:Loc X.env.scope x)(g:DO X F e to)(l:swapsWith e (some (.Name x a)) pos.line X.env=pure false:=by rfl)
  (m:X.fn x=true\/X.env.scope.names.lookup x=some .local:=by first | exact .inl rfl | exact .inr rfl | assumption):DS X F (.Assign [.Name x a] e pos) (IH i to):=
 (xj h j k g.pe l m).imp fun D Y H ⟨U,O,B,st,q,f⟩=>⟨U,O,st,g.mn _ _ _ (fun c C ⟨n,o,p⟩ v s E G r w=>by
  obtain⟨y,d,A⟩:=aC.put1 (io:=true) r.st r.at_ r.new n (fun b z=>absurd z (o b));exact f.nx _ s _ y d (w.trans A) p) q⟩
noncomputable def IJ(to:fP):cX:=fun D U=>to U fun _ a=>D.nx a
theorem IK(b:DO X F e to)(d:swapsWith e none pos.line X.env=pure false:=by rfl):DS X F (.Expr e pos) (IJ to):=
 (xi b.pe d).imp fun D Y H ⟨U,O,j,st,q,f⟩=>⟨U,O,st,b.mn _ _ _ (fun c k g v l m n r h=>by
  obtain⟨o,a,i⟩:=r.drop;exact f.nx _ _ _ _ a (h.trans i) g) q⟩
noncomputable def IL(tc:cG)(t u:cX):cX:=fun D U=>tc U fun b a=>if b=true then t D a else u D a
theorem IM{c:Expr}{a b:List Stmt}(g:DB X F c tc)(m:fC X F a t)(n:fC X F b u):DS X F (.If c a b pos) (IL tc t u):=
 (Ei g.pt m n).imp fun D Y H ⟨U,O,h,st,q,f⟩=>⟨U,O,st,g.mn _ _ _ (fun b i j o k d l=>by
  cases b with
  | true=>exact dP ⟨i,k,h,d,ir j,f.later l⟩
  | false=>exact dO ⟨i,k,h,d,iu j,f.later l⟩) q⟩
noncomputable def yu(i:Nat)(te:DT)(g:Int->Int->Int):cX:=fun D U=>∃k,U[i]? = some (some (.dat (.int k)))/\te U fun d a=>∃l,d=.int l/\D.nx (a.set i (some (.dat (.int (g k l)))))
theorem yv{i:Nat}{op:Operator}{a:Pos}{g:Int->Int->Int}(m:X.N.Nodup)(n:X.N[i]? = some x)(o:Loc X.env.scope x)(j:DE X F e te)(p:sA X op (xk g))(r:X.fn x=true\/X.env.scope.names.lookup x=some .local:=by first | exact .inl rfl | exact .inr rfl | assumption) :
  DS X F (.AugAssign (.Name x a) op e pos) (yu i te g):=
 (Et m n o j.pe p r).imp fun D Y H ⟨U,O,C,st,⟨k,s,q⟩,f⟩=>by obtain⟨v,b,c⟩:=st.dat s;obtain rfl:=c.int_inv;exact⟨_,b,U,O,st,j.mn _ _ _ (fun d E ⟨l,y,z⟩ w G I h A B=>by subst y;exact⟨k,l,rfl,B.int_inv,f.nx _ _ _ _ (h.set (.int _)) A z⟩) q⟩
end
inductive tM where
 | rt (c:aj) (outs:List Bx) | ex (c:Str) (outs:List Bx) | bad
noncomputable abbrev FM:=List aj->tM
inductive aQ (K:Frag) (H:Hp) (O:List Addr):List V->List aj->List (List Addr)->Prop where
 | nil:aQ K H O [] [] []
 | dat {v:V}{d:PyData}{vs:List V}{cs:List aj}{fps:List (List Addr)}:DV (au O H) v d->aQ K H O vs cs fps->aQ K H O (v::vs) (.dat d::cs) ([]::fps)
 | oth {v:V}{c:aj}{vs:List V}{cs:List aj}{fps:List (List Addr)}:(∀d,c≠.dat d)->(∀io b,c≠.own io b)->dr K H O v c []->aQ K H O vs cs fps->aQ K H O (v::vs) (c::cs) ([]::fps)
 | own {a:Addr}{b:Bx}{fp:List Addr}{vs:List V}{cs:List aj}{fps:List (List Addr)}:fB (au O H) H a b fp->aQ K H O vs cs fps->aQ K H O (.ref a::vs) (.own true b::cs) (fp::fps)
inductive aY (H:Hp) (O:List Addr):List V->List aj->List Bx->List (List Addr)->Prop where
 | nil:aY H O [] [] [] []
 | skip {v:V}{c:aj}{vs:List V}{cs:List aj}{bs:List Bx}{fps:List (List Addr)}:(∀io b,c≠.own io b)->aY H O vs cs bs fps->aY H O (v::vs) (c::cs) bs fps
 | own {a:Addr}{io:Bool}{b b':Bx}{fp:List Addr}{vs:List V}{cs:List aj}{bs:List Bx}{fps:List (List Addr)}:fB (au O H) H a b' fp->aY H O vs cs bs fps->aY H O (.ref a::vs) (.own io b::cs) (b'::bs) (fp::fps)
structure jA (H H':Hp) (L L' O₀:List Addr):Prop where
 nd:(L'++O₀).Nodup
 live:∀a∈L',∃o,H' a=some o/\Mv o
 keep:∀b o,b∉L->H b=some o->H' b=some o
 new:∀a∈L',a∈L\/H a=none
noncomputable def bJ(K:Frag)(mg:Str->Option Value)(f:FM):Sp:=fun vs H Q E=>GH mg H/\∃(cs:List aj) (d:List (List Addr)) (h:List Addr),aQ K H (d.flatten++h) vs cs d/\(d.flatten++h).Nodup/\(∀a∈d.flatten++h,∃o,H a=some o/\Mv o)/\
 match f cs with
 | .rt c e=>∀v g i b,dr K g (b.flatten++i++h) v c i->aY g (b.flatten++i++h) vs cs e b->jA H g d.flatten (b.flatten++i) h->Q v g
 | .ex c e=>∀C g b,mg c=some C->aY g (b.flatten++h) vs cs e b->jA H g d.flatten b.flatten h->E C none g
 | .bad=>False
theorem aQ.len{K:Frag}{H:Hp}{O:List Addr}{vs:List V}{cs:List aj}{b:List (List Addr)}(h:aQ K H O vs cs b):vs.length=cs.length/\b.length=cs.length:=by
 induction h with
 | nil=>exact⟨rfl,rfl⟩
 | dat _ _ a=>exact⟨congrArg Nat.succ a.1,congrArg Nat.succ a.2⟩
 | oth _ _ _ _ a=>exact⟨congrArg Nat.succ a.1,congrArg Nat.succ a.2⟩
 | own _ _ a=>exact⟨congrArg Nat.succ a.1,congrArg Nat.succ a.2⟩
theorem aQ.get{K:Frag}{H:Hp}{O:List Addr}{vs:List V}{cs:List aj}{a:List (List Addr)}(h:aQ K H O vs cs a):∀(i:Nat) (c:aj),cs[i]? = some c->∃v d,vs[i]? = some v/\a[i]? = some d/\dr K H O v c d:=by
 induction h with
 | nil=>intro i c e;simp at e
 | dat h _ b=>
  intro i c e;cases i with
  | zero=>simp at e;subst e;exact⟨_,_,rfl,rfl,h⟩
  | succ i=>exact b i c (by simpa using e)
 | oth _ _ h _ b=>
  intro i c e;cases i with
  | zero=>simp at e;subst e;exact⟨_,_,rfl,rfl,h⟩
  | succ i=>exact b i c (by simpa using e)
 | own h _ b=>
  intro i c e;cases i with
  | zero=>simp at e;subst e;exact⟨_,_,rfl,rfl,⟨_,rfl,h⟩⟩
  | succ i=>exact b i c (by simpa using e)
theorem aQ.mono{K:Frag}{H:Hp}{O c:List Addr}{vs:List V}{cs:List aj}{a:List (List Addr)}(h:aQ K H O vs cs a)(s:aU O H c H):aQ K H c vs cs a:=by
 induction h with
 | nil=>exact .nil
 | dat h _ b=>exact .dat (DV.mono s.hid h) b
 | oth h1 h2 h _ b=>exact .oth h1 h2 (h.keep s (fun _ _=>rfl) (fun _ _ _ e=>e)) b
 | own h _ b=>exact .own (h.keep (fun _ _=>rfl) s.hid) b
theorem aY.mono{H:Hp}{O c:List Addr}{vs:List V}{cs:List aj}{bs:List Bx}{a:List (List Addr)}(h:aY H O vs cs bs a)(s:aU O H c H):aY H c vs cs bs a:=by
 induction h with
 | nil=>exact .nil
 | skip h1 _ b=>exact .skip h1 b
 | own h _ b=>exact .own (h.keep (fun _ _=>rfl) s.hid) b
inductive eP where
 | nx (U:ao) | rt (c:aj) (U:ao) | bk (U:ao) | ct (U:ao) | ex (c:Str) (U:ao) | bad
noncomputable abbrev SM:=ao->eP
noncomputable def wpS(E:Str->ao->Prop)(m:SM):cX:=fun D U=>match m U with
 | .nx a=>D.nx a
 | .rt c a=>D.rt c a
 | .bk a=>D.bk a
 | .ct a=>D.ct a
 | .ex c a=>E c a
 | .bad=>False
@[simp] noncomputable def dE:List aj->ao->Option (List Bx)
 | [],_=>some []
 | .own _ _::cs,some (.own true b)::U=>(dE cs U).map (b::·)
 | .own _ _::_,_=>none
 | _::cs,_::U=>dE cs U
 | _::_,[]=>none
@[simp] noncomputable def bL(n N:Nat)(m:SM):FM:=fun cs=>if cs.length=n then(match m (cs.map some++List.replicate (N - n) none) with
 | .nx U=>(match dE cs U with | some o=>.rt (.dat .none) o | none=>.bad)
 | .rt c U=>(match dE cs U with | some o=>.rt c o | none=>.bad)
 | .ex c U=>(match dE cs U with | some o=>.ex c o | none=>.bad)
 | _=>.bad) else .bad
section
variable{K:Frag}{F:Fx}{H:Hp}{Y:St}{U:ao}{W:List (List Addr)}
theorem tN{α:Type}{l:List α}{k:Nat}{x:α}{r:List α}(h:l.drop k=x::r):l[k]? = some x/\l.drop (k+1)=r:=by
 constructor
 ·rw[<-List.head?_drop,h];rfl
 ·rw[<-List.drop_drop,h];rfl
theorem tO(st:cD K F H Y U W):∀(cs:List aj) (vs:List V) (k:Nat) (g:List Bx),vs.length=cs.length->(∀(i:Nat) io b,cs[i]? = some (.own io b)->vs[i]? = some (.ref (F.I₀ (k+i))))->dE cs (U.drop k)=some g->
  ∃j,aY H (W.flatten++F.O₀) vs cs g j/\j.flatten.Sublist (W.drop k).flatten
 | [],[],k,g,_,_,e=>by cases e;exact⟨[],.nil,by simp⟩
 | [],_::_,_,_,l,_,_=>by cases l
 | _::_,[],_,_,l,_,_=>by cases l
 | c::cs,v::vs,k,g,l,hI,e=>by
  have m:vs.length=cs.length:=Nat.succ.inj l;have p:∀(i:Nat) io b,cs[i]? = some (.own io b)->vs[i]? = some (.ref (F.I₀ (k+1+i))):=fun i io b h=>by have:=hI (i+1) io b (by simpa using h);rw[show k+1+i=k+(i+1) by omega];simpa using this
  have t:(W.drop (k+1)).flatten.Sublist (W.drop k).flatten:=by
   cases y:W.drop k with
   | nil=>rw[show W.drop (k+1)=[] from by rw[<-List.drop_drop,y];rfl];exact List.Sublist.refl _
   | cons w r=>rw[(tN y).2,List.flatten_cons];exact List.sublist_append_right _ _
  cases hd:U.drop k with
  | nil=>
   rw[hd] at e;cases c with
   | own io b=>cases e
   | dat d=>cases e
   | scr n=>cases e
   | exc n=>cases e
   | vw n=>cases e
  | cons x r=>
   obtain⟨G,h2⟩:=tN hd;rw[hd] at e;have f:(∀io b,c≠.own io b)->dE cs r=some g->∃j,aY H (W.flatten++F.O₀) (v::vs) (c::cs) g j/\j.flatten.Sublist (W.drop k).flatten:=fun I J=>by obtain⟨j,o,s⟩:=tO st cs vs (k+1) g m p (by rw[h2];exact J);exact⟨j,.skip I o,s.trans t⟩
   cases c with
   | dat d=>exact f (fun _ _ z=>by cases z) e
   | scr n=>exact f (fun _ _ z=>by cases z) e
   | exc n=>exact f (fun _ _ z=>by cases z) e
   | vw n=>exact f (fun _ _ z=>by cases z) e
   | own io b=>
    cases x with
    | none=>cases e
    | some x=>
     cases x with
     | dat d=>cases e
     | scr n=>cases e
     | exc n=>cases e
     | vw n=>cases e
     | own A L=>
      cases A with
      | false=>cases e
      | true=>
       cases q:dE cs r with
       | none=>simp[dE,q] at e
       | some M=>
        simp[dE,q] at e;subst e;obtain⟨j,o,s⟩:=tO st cs vs (k+1) M m p (by rw[h2];exact q);obtain⟨u,N,O,B,a,rfl,Q⟩:=st.at_ k _ G;have D:=st.io k L G;rw[O] at D;have R:a=F.I₀ k:=by cases D;rfl
        have S:=hI 0 io b rfl;have C:v=.ref a:=by rw[R];simpa using S
        subst C;refine⟨N::j,.own Q o,?_⟩;cases y:W.drop k with
        | nil=>rw[<-List.head?_drop,y] at B;cases B
        | cons w X=>obtain⟨E,T⟩:=tN y;rw[B] at E;cases E;rw[List.flatten_cons,List.flatten_cons];rw[T] at s;exact List.Sublist.append (List.Sublist.refl _) s
end
theorem nv{α:Type}(n:Nat):(List.replicate n ([]:List α)).flatten=[]:=by induction n with | zero=>rfl | succ n a=>rw[List.replicate_succ,List.flatten_cons,a];rfl
noncomputable def iy(N n:Nat)(cs:List aj):ao:=cs.map some++List.replicate (N - n) none
section
variable{P:Program}{w:World}{K:Frag}{mg:Str->Option Value}{base:Heap}{x qual:Str}{st:Stmt}{f:Addr}{fd:FuncData}{N ps:List Str}{k:Nat}{m:SM}
noncomputable def kv(vs:List V)(i:Nat):Addr:=match vs[i]? with
 | some (.ref a)=>a
 | _=>0
theorem IP{H:Hp}{vs:List V}{cs:List aj}{g:List (List Addr)}{l:List Addr}(n:aQ K H (g.flatten++l) vs cs g)(q:(g.flatten++l).Nodup)(live:∀a∈g.flatten++l,∃o,H a=some o/\Mv o)(s:cs.length<=N.length) :
  cD K ⟨H,g.flatten,l,kv vs⟩ H (start N vs) (iy N.length cs.length cs) (g++List.replicate (N.length - cs.length) []):=by
 have j:(g++List.replicate (N.length - cs.length) ([]:List Addr)).flatten=g.flatten:=by rw[List.flatten_append,nv,List.append_nil]
 obtain⟨r,l2⟩:=n.len;have get:∀(i:Nat) c,(iy N.length cs.length cs)[i]? = some (some c)->cs[i]? = some c:=fun i c e=>by
  unfold iy at e
  by_cases h:i<cs.length
  ·rw[List.getElem?_append_left (by simpa using h),List.getElem?_map] at e;obtain⟨d,h1,h2⟩:=Option.map_eq_some_iff.mp e;cases h2;exact h1
  ·rw[List.getElem?_append_right (by simpa using Nat.le_of_not_lt h),List.getElem?_replicate] at e;split at e<;>cases e
 have put:∀(i:Nat) v,vs[i]? = some v->(start N vs)[i]? = some (some v):=fun i v e=>by unfold start;rw[List.getElem?_append_left (by simpa using(List.getElem?_eq_some_iff.mp e).1),List.getElem?_map,e];rfl
 refine⟨fun i c e=>?_,by rw[j];exact q,fun _ _ _ h=>h,fun a h=>.inl (by rw[j] at h;exact h),by rw[j];exact live,?_,?_,fun i b e=>?_⟩
 ·obtain⟨v,p,h1,h2,h3⟩:=n.get i c (get i c e);exact⟨v,p,put i v h1,by rw[List.getElem?_append_left (List.getElem?_eq_some_iff.mp h2).1];exact h2,by rw[j];exact h3⟩
 ·unfold iy start;rw[List.length_append,List.length_append,List.length_map,List.length_map,List.length_replicate,List.length_replicate,r]
 ·unfold iy;rw[List.length_append,List.length_append,List.length_map,List.length_replicate,List.length_replicate,l2]
 ·obtain⟨v,p,h1,h2,a,rfl,h3⟩:=n.get i _ (get i _ e);rw[put i _ h1];show _=some (some (V.ref (kv vs i)));unfold kv;rw[h1]
theorem aQ.ios{H:Hp}{O:List Addr}{vs:List V}{cs:List aj}{c:List (List Addr)}(h:aQ K H O vs cs c):∀(i:Nat) io b,cs[i]? = some (.own io b)->vs[i]? = some (.ref (kv vs (0+i))):=fun i io b e=>by obtain⟨v,d,h1,_,a,rfl,_⟩:=h.get i _ e;rw[Nat.zero_add];unfold kv;rw[h1]
theorem bU(Fn:mY K x qual st f fd)(S:ae N ps (bE st))(hN:ps.length<=N.length)
  (X:∀(y:Value) (A:Around) (t:List Env) (s:Shared) (H:Hp) (E:XK) (F:Fx) (T:Str->ao->Prop),bW k (A.deeper (envOfC qual (bE st) s.heap.objs.size f y))->jz (iP (bD P w) P w K mg base N qual (bE st) f y A t s H E) F T->
   fC (iP (bD P w) P w K mg base N qual (bE st) f y A t s H E) F (jt st) (wpS T m)):aA P w K mg base (bD P w) (k+1) f fd ps (bJ K mg (bL ps.length N.length m)):=by
 obtain⟨oc,od,kV,a1,pm,an,y,ct,a2,rfl,lk,Y⟩:=Fn.ex;have B:∀vs H Q E,bJ K mg (bL ps.length N.length m) vs H Q E->vs.length=ps.length:=fun vs H Q E ⟨_,cs,u,O₀,I,_,_,q⟩=>by
  rw[I.len.1];unfold bL at q
  by_cases h:cs.length=ps.length
  ·exact h
  ·rw[if_neg h] at q;exact q.elim
 refine Fm lk Y S B fun A t s H vs Q E hr J=>?_;have a3:=B vs H Q E J;obtain⟨gh,cs,u,O₀,I,nd,live,q⟩:=J;obtain⟨l1,l2⟩:=I.len;have L:cs.length=ps.length:=by omega
 let F:Fx:=⟨H,u.flatten,O₀,kv vs⟩
 have M:=IP (N:=N) I nd live (by omega);have fin:∀{O:St}{j:Hp}{l:ao}{G:List Addr}{fp:List Addr}{g:List Bx},aC K (F.plus fp) j O l G->(∀a∈fp,a∈F.A₀\/F.H₀ a=none)->dE cs l = some g->∃d,aY j (d.flatten++fp++O₀) vs cs g d/\jA H j u.flatten (d.flatten++fp) O₀/\aU G j (d.flatten++fp++O₀) j:=by
  rintro O j l G fp g ⟨W,n,rfl⟩ Z p;obtain⟨d,o,sb⟩:=tO n cs vs 0 g l1 (fun i io b e=>I.ios i io b e) p;have R:d.flatten.Sublist W.flatten:=sb;have sub:(d.flatten++fp++O₀).Sublist (W.flatten++(fp++O₀)):=by rw[List.append_assoc];exact List.Sublist.append R (List.Sublist.refl _)
  have bH:aU (W.flatten++(fp++O₀)) j (d.flatten++fp++O₀) j:=gK fun a h=>sub.subset h;refine⟨d,o.mono bH,⟨n.nd.sublist sub,fun a h=>n.live a (sub.subset (bO _ h)),fun b o hb e=>n.kept b o hb e,fun a h=>?_⟩,bH⟩;rcases List.mem_append.mp h with h | h
  ·exact n.new a (R.subset h)
  ·exact Z a h
 have a0:bL ps.length N.length m cs=(match m (iy N.length ps.length cs) with
  | .nx U=>(match dE cs U with | some o=>.rt (.dat .none) o | none=>.bad)
  | .rt c U=>(match dE cs U with | some o=>.rt c o | none=>.bad)
  | .ex c U=>(match dE cs U with | some o=>.ex c o | none=>.bad)
  | _=>.bad):=by unfold bL iy;rw[if_pos L]
 rw[a0] at q;rw[L] at M;let T:Str->ao->Prop:=fun c l=>∃g,dE cs l = some g/\∀C j d,mg c=some C->aY j (d.flatten++O₀) vs cs g d->jA H j u.flatten d.flatten O₀->E C none j;refine⟨_,X y A t s H E F T hr (Ie (gh.frame fun a h=>live a (bO _ h)) fun c C l O j G D n ⟨g,p,k⟩=>?_),?_⟩
 ·obtain⟨d,o,b,_⟩:=fin (fp:=[]) n (fun a h=>by cases h) p;rw[List.append_nil] at o b;exact k C j d D o b
 ·refine⟨iy N.length ps.length cs,_,⟨fun l=>∃g,dE cs l = some g/\∀j d,aY j (d.flatten++[]++O₀) vs cs g d->jA H j u.flatten (d.flatten++[]) O₀->Q .non j,fun c l=>∃g,dE cs l = some g/\∀v j fp d,dr K j (d.flatten++fp++O₀) v c fp->aY j (d.flatten++fp++O₀) vs cs g d->jA H j u.flatten (d.flatten++fp) O₀->Q v j,fun _=>False,fun _=>False⟩,⟨_,M,rfl⟩,?_,?_⟩
  ·unfold wpS;cases D:m (iy N.length ps.length cs) with
   | nx l=>
    rw[D] at q;cases p:dE cs l with
    | none=>simp[p] at q
    | some g=>simp only[p] at q;exact⟨g,p,fun j d o b=>q .non j [] d .non o b⟩
   | rt c l=>
    rw[D] at q;cases p:dE cs l with
    | none=>simp[p] at q
    | some g=>simp only[p] at q;exact⟨g,p,q⟩
   | ex c l=>
    rw[D] at q;cases p:dE cs l with
    | none=>simp[p] at q
    | some g=>simp only[p] at q;exact⟨g,p,q⟩
   | bk l=>rw[D] at q;exact q
   | ct l=>rw[D] at q;exact q
   | bad=>rw[D] at q;exact q
  ·refine⟨fun O j l G n s' ⟨g,p,k⟩=>?_,fun v O j c l G fp r s' ⟨g,p,k⟩=>?_,fun _ _ _ _ _ _ z=>z.elim,fun _ _ _ _ _ _ z=>z.elim⟩
   ·obtain⟨d,o,b,_⟩:=fin (fp:=[]) n (fun a h=>by cases h) p;exact k j d o b
   ·obtain⟨d,o,b,bH⟩:=fin r.st r.new p;exact k v j fp d (r.at_.keep bH (fun _ _=>rfl) (fun _ _ _ e=>e)) o b
end
inductive AX where
 | d (x:PyData) | s (j:Nat)
inductive dH (Y:St) (G:Hp):List V->List AX->Prop where
 | nil:dH Y G [] []
 | d {v:V}{x:PyData}{vs:List V}{as:List AX}:DV G v x->dH Y G vs as->dH Y G (v::vs) (.d x::as)
 | s {v:V}{j:Nat}{vs:List V}{as:List AX}:Y[j]? = some (some v)->dH Y G vs as->dH Y G (v::vs) (.s j::as)
abbrev fQ:=ao->(List AX->ao->Prop)->Prop
def yw(t:fQ):Prop:=∀U Q a,(∀d b,Q d b->a d b)->t U Q->t U a
noncomputable def IQ(K:Frag)(F:Fx)(t:fQ):TA:=fun Y H Q=>∃U O,aC K F H Y U O/\t U fun as c=>∀vs a b,aC K F a Y c b->aU O H b a->dH Y (au b a) vs as->Q vs a
structure DX (X:Cx) (F:Fx) (es:List Expr) (t:fQ):Prop where
 mn:yw t
 pa:PA X es (IQ X.K F t)
section
variable{X:Cx}{F:Fx}{e:Expr}{es:List Expr}{te:DT}{tX:fQ}{x:Str}{p:Pos}{j:Nat}
noncomputable def IR:fQ:=fun U Q=>Q [] U
noncomputable def IS(te:DT)(t:fQ):fQ:=fun U Q=>te U fun d a=>t a fun as b=>Q (.d d::as) b
noncomputable def IT(j:Nat)(t:fQ):fQ:=fun U Q=>(∃c,U[j]? = some (some c))/\t U fun as a=>Q (.s j::as) a
theorem IU:DX X F [] IR:=⟨fun _ _ _ k q=>k _ _ q,fL.imp fun Y H Q ⟨U,O,st,q⟩=>q [] H O st .refl .nil⟩
theorem IW(a:DE X F e te)(b:DX X F es tX)(l:starEach (e::es) X.env=(false,eval e X.env)::starEach es X.env:=by rfl):DX X F (e::es) (IS te tX):=
 ⟨fun _ _ _ k q=>a.mn _ _ _ (fun _ _ c=>b.mn _ _ _ (fun _ _ f=>k _ _ f) c) q,(fA a.pe b.pa l).imp fun Y H Q ⟨U,O,st,q⟩=>
  ⟨U,O,st,a.mn _ _ _ (fun d m c v w n g o r=>⟨m,n,g,b.mn _ _ _ (fun as y f vs s t h i u=>f (v::vs) s t h (o.trans i) (.d (DV.mono i.hid r) u)) c⟩) q⟩⟩
theorem IX(f:PE X (.Name x p) (dN j))(a:DX X F es tX)(g:starEach (.Name x p::es) X.env=(false,eval (.Name x p) X.env)::starEach es X.env:=by rfl):DX X F (.Name x p::es) (IT j tX):=
 ⟨fun _ _ _ k ⟨h,q⟩=>⟨h,a.mn _ _ _ (fun _ _ b=>k _ _ b) q⟩,(fA f a.pa g).imp fun Y H Q ⟨U,O,st,⟨c,i⟩,q⟩=>by
  obtain⟨W,h,rfl⟩:=id st;obtain⟨v,r,h1,h2,h3⟩:=h.at_ j c i;exact⟨v,h1,U,_,st,a.mn _ _ _ (fun as t b vs l m d n o=>b (v::vs) l m d n (.s h1 o)) q⟩⟩
end
@[simp] noncomputable def gl(U:ao):List AX->Option (List aj×List (Nat×Bool))
 | []=>some ([],[])
 | .d x::as=>(match gl U as with | some (cs,a)=>some (.dat x::cs,a) | none=>none)
 | .s j::as=>(match gl U as with
  | some (cs,a)=>(match U[j]? with
   | some (some (.own io b))=>if a.any (fun p=>p.1==j) then none else some (.own true b::cs,(j,io)::a)
   | some (some c)=>some (c::cs,a)
   | _=>none)
  | none=>none)
@[simp] noncomputable def fc:List (Nat×Bool)->ao->ao
 | [],U=>U
 | (j,_)::r,U=>(fc r U).set j none
@[simp] noncomputable def cY:List (Nat×Bool)->List Bx->ao->ao
 | (j,io)::r,b::bs,U=>cY r bs (U.set j (some (.own io b)))
 | _,_,U=>U
theorem yx{a:List (Nat×Bool)}{U:ao}:(fc a U).length=U.length:=by
 induction a with
 | nil=>rfl
 | cons p r b=>obtain⟨j,io⟩:=p;rw[fc,List.length_set,b]
theorem IY{a:List (Nat×Bool)}{U:ao}{i:Nat}(h:∀p∈a,p.1≠i):(fc a U)[i]? = U[i]?:=by
 induction a with
 | nil=>rfl
 | cons p r b=>obtain⟨j,io⟩:=p;rw[fc,List.getElem?_set_ne (h (j,io) List.mem_cons_self),b fun q c=>h q (bq _ c)]
inductive dZ (Y:St) (F:Fx) (n:Nat):List V->List aj->List (Nat×Bool)->Prop where
 | nil:dZ Y F n [] [] []
 | skip {v:V}{c:aj}{vs:List V}{cs:List aj}{js:List (Nat×Bool)}:(∀io b,c≠.own io b)->dZ Y F n vs cs js->dZ Y F n (v::vs) (c::cs) js
 | own {a:Addr}{io:Bool}{b:Bx}{j:Nat}{vs:List V}{cs:List aj}{js:List (Nat×Bool)}:Y[j]? = some (some (.ref a))->(io=true->a=F.I₀ j)->j<n->dZ Y F n vs cs js->dZ Y F n (.ref a::vs) (.own true b::cs) ((j,io)::js)
section
variable{K:Frag}{F:Fx}{H H':Hp}{Y:St}{U:ao}{O O':List Addr}
theorem tP(st:aC K F H Y U O):∀(as:List AX) (vs:List V) (cs:List aj) (r:List (Nat×Bool)),gl U as=some (cs,r)->dH Y (au O H) vs as->
  ∃f O',aC K (F.plus f.flatten) H Y (fc r U) O'/\aQ K H O' vs cs f/\aU O H O' H/\aU O' H O H/\(∀a∈f.flatten,a∈F.A₀\/F.H₀ a=none)/\dZ Y F U.length vs cs r
 | [],vs,cs,r,e,h=>by cases e;cases h;refine⟨[],O,st,.nil,.refl,.refl,?_,.nil⟩;intro a h;cases h
 | .d x::as,vs,cs,r,e,h=>by
  cases h with
  | d u D=>
   unfold gl at e;cases q:gl U as with
   | none=>rw[q] at e;cases e
   | some p=>obtain⟨k,g⟩:=p;rw[q] at e;simp only[Option.some.injEq,Prod.mk.injEq] at e;obtain⟨S,T⟩:=e;obtain⟨f,O',l,o,m,y,A,B⟩:=tP st as _ k g q D;subst S T;exact⟨[]::f,O',l,.dat (DV.mono m.hid u) o,m,y,A,.skip (fun _ _ z=>by cases z) B⟩
 | .s j::as,vs,cs,r,e,h=>by
  cases h with
  | @s v _ vs _ u D=>
   unfold gl at e;cases q:gl U as with
   | none=>rw[q] at e;cases e
   | some p=>
    obtain⟨k,g⟩:=p;rw[q] at e;obtain⟨f,O',l,o,m,y,A,B⟩:=tP st as _ k g q D;cases t:U[j]? with
    | none=>rw[t] at e;cases e
    | some X=>
     cases X with
     | none=>rw[t] at e;cases e
     | some c=>
      rw[t] at e;obtain⟨W,E,G⟩:=id st;obtain⟨C,Z,h1,h2,h3⟩:=E.at_ j c t;rw[u] at h1;have I:C = v:=by cases h1;rfl
      subst I;rw[<-G] at h3;have other:(∀io b,c≠.own io b)->∃f O',aC K (F.plus f.flatten) H Y (fc g U) O'/\aQ K H O' (C::vs) (c::k) f/\aU O H O' H/\aU O' H O H/\(∀a∈f.flatten,a∈F.A₀\/F.H₀ a=none)/\dZ Y F U.length (C::vs) (c::k) g:=fun M=>by
       refine⟨[]::f,O',l,?_,m,y,A,.skip M B⟩;cases c with
       | dat d=>exact .dat (DV.mono m.hid h3) o
       | own io b=>exact absurd rfl (M io b)
       | scr ns=>exact .oth (fun _ z=>by cases z) (fun _ _ z=>by cases z) (dr.keep (c:=.scr ns) (fp:=[]) h3 m (fun _ _=>rfl) (fun _ _ _ e=>e)) o
       | exc n=>exact .oth (fun _ z=>by cases z) (fun _ _ z=>by cases z) (dr.keep (c:=.exc n) (fp:=[]) h3 m (fun _ _=>rfl) (fun _ _ _ e=>e)) o
       | vw n=>exact .oth (fun _ z=>by cases z) (fun _ _ z=>by cases z) (dr.keep (c:=.vw n) (fp:=[]) h3 m (fun _ _=>rfl) (fun _ _ _ e=>e)) o
      cases c with
      | dat d=>simp only[Option.some.injEq,Prod.mk.injEq] at e;rw[<-e.1,<-e.2];exact other (fun _ _ z=>by cases z)
      | scr ns=>simp only[Option.some.injEq,Prod.mk.injEq] at e;rw[<-e.1,<-e.2];exact other (fun _ _ z=>by cases z)
      | exc n=>simp only[Option.some.injEq,Prod.mk.injEq] at e;rw[<-e.1,<-e.2];exact other (fun _ _ z=>by cases z)
      | vw n=>simp only[Option.some.injEq,Prod.mk.injEq] at e;rw[<-e.1,<-e.2];exact other (fun _ _ z=>by cases z)
      | own io b=>
       by_cases J:g.any (fun p=>p.1==j)=true
       ·simp only[if_pos J] at e;cases e
       ·simp only[if_neg J,Option.some.injEq,Prod.mk.injEq] at e;rw[<-e.1,<-e.2];have L:∀p∈g,p.1≠j:=fun p hp z=>J (List.any_eq_true.mpr ⟨p,hp,by simp[z]⟩);obtain⟨a,fp,O2,N,Q,t3,R,t5,t6,t7⟩:=l.take (i:=j) (io:=io) (b:=b) (by rw[IY L];exact t);rw[u] at N;have I:C = .ref a:=by cases N;rfl
        subst I;rw[Fx.plus_plus] at Q;refine⟨fp::f,O2,Q,.own t3 (o.mono R),m.trans R,t5.trans y,fun x w=>?_,.own u t7 (List.getElem?_eq_some_iff.mp t).1 B⟩;rcases List.mem_append.mp w with w | w
        ·exact t6 x w
        ·exact A x w
theorem yy{fp:List Addr}{n:Nat}{vs:List V}{cs:List aj}{m:List (Nat×Bool)}(s:dZ Y F n vs cs m):∀{d:List Bx}{e:List (List Addr)}{U:ao}{O:List Addr},U.length=n->aC K (F.plus (e.flatten++fp)) H Y U O->aY H O vs cs d e->(∀a∈e.flatten,a∈F.A₀\/F.H₀ a=none)->
  ∃O',aC K (F.plus fp) H Y (cY m d U) O'/\aU O H O' H:=by
 induction s with
 | nil=>intro d e U O h st f k;cases f;exact⟨O,st,.refl⟩
 | skip g _ o=>
  intro d e U O h st f k;cases f with
  | skip _ f=>exact o h st f k
  | own _ _=>exact absurd rfl (g _ _)
 | @own a io b j vs cs m h1 h2 h3 s o=>
  intro d e U O h st f k;cases f with
  | skip g _=>exact absurd rfl (g _ _)
  | @own _ _ _ w f1 _ _ bs y hb f=>
   have p:aC K ((F.plus (y.flatten++fp)).plus f1) H Y U O:=by rw[Fx.plus_plus,<-List.append_assoc];exact st
   obtain⟨D,l,t⟩:=aC.put1 (io:=true) (c:=.own io w) (v:=.ref a) (i:=j) p ⟨a,rfl,hb⟩ (fun x q=>k x (by rw[List.flatten_cons];exact bO _ q)) (by rw[h];exact h3) (fun b z=>by cases z;rw[h2 rfl];rfl);have A:Y.set j (some (.ref a))=Y:=by
    apply List.ext_getElem?;intro i
    by_cases u:i=j
    ·subst u;rw[List.getElem?_set_self (List.getElem?_eq_some_iff.mp h1).1,h1]
    ·rw[List.getElem?_set_ne (Ne.symm u)]
   rw[A] at l;obtain⟨B,r,C⟩:=o (by rw[List.length_set];exact h) l (f.mono t) (fun x q=>k x (by rw[List.flatten_cons];exact bB _ q));exact⟨B,r,t.trans C⟩
end
def iV(f:FM)(E:Str->ao->Prop)(Q:aj->ao->Prop)(as:List AX)(U:ao):Prop:=match gl U as with
 | some (cs,b)=>(match f cs with
  | .rt c a=>Q c (cY b a (fc b U))
  | .ex c a=>E c (cY b a (fc b U))
  | .bad=>False)
 | none=>False
noncomputable def yz(f:FM)(E:Str->ao->Prop)(t:fQ):fP:=fun U Q=>t U fun as a=>iV f E Q as a
section
variable{X:Cx}{F:Fx}{e:Expr}{es:List Expr}{tX:fQ}{E:Str->ao->Prop}{pos p:Pos}{x:Str}{f:FM}{k:Nat}{g:Addr}{fd:FuncData}{ps:List Str}
theorem IZ{Q b:aj->ao->Prop}{as:List AX}{U:ao}(h:∀c d,Q c d->b c d)(q:iV f E Q as U):iV f E b as U:=by
 unfold iV at q ⊢;split
 ·rename_i cs i e;rw[e] at q;simp only at q;split
  ·rename_i a;rw[a] at q;exact h _ _ q
  ·rename_i a;rw[a] at q;exact q
  ·rename_i a;rw[a] at q;exact q
 ·rename_i e;rw[e] at q;exact q
theorem Ja{m:List (Addr×Obj)}{Y:St}{H:Hp}{s:Shared}{Q:VK}{L:List Value}{vs:List V}{as:List AX}{U:ao}{O:List Addr}{QC:aj->ao->Prop}(hx:jz X F E)(G:aA X.prog X.w X.K X.mg X.base (bD X.prog X.w) k g fd ps (bJ X.K X.mg f))(hr:bW k X.A)(hb:kg X.K fd ps [])
  (I:Inv X m Y H s) (r:bi vs L) (st:aC X.K F H Y U O) (ax:dH Y (au O H) vs as) (q:iV f E QC as U) (hQ:∀c M,QC c M->∀v b T N,iw X.K F b Y M T v c N->aU O H T b->Q v b) :
  wpAny (model X.prog X.w) X.A (call (.ref g) L) (EP X m Y Q) X.xe s:=by
 unfold iV at q;cases hc:gl U as with
 | none=>rw[hc] at q;exact q.elim
 | some p=>
  obtain⟨cs,js⟩:=p;rw[hc] at q;simp only at q;obtain⟨i,O2,Z,ar,s1,a7,nw,ja⟩:=tP st as vs cs js hc ax;obtain⟨W,y,a0⟩:=id Z;have a3:(W.flatten++(i.flatten++F.O₀)).Nodup:=y.nd;have l:∀a,a∈O2↔a∈i.flatten++(W.flatten++F.O₀):=fun a=>by
   rw[a0];show a∈W.flatten++(i.flatten++F.O₀)↔_;simp only[List.mem_append];constructor
   ·rintro(h | h | h)<;>simp[h]
   ·rintro(h | h | h)<;>simp[h]
  have perm:(i.flatten++(W.flatten++F.O₀)).Perm (W.flatten++(i.flatten++F.O₀)):=by rw[<-List.append_assoc,<-List.append_assoc];exact List.Perm.append_right _ List.perm_append_comm
  have a1:(i.flatten++(W.flatten++F.O₀)).Nodup:=perm.nodup_iff.mpr a3;have a4:aU O2 H (i.flatten++(W.flatten++F.O₀)) H:=gK fun a h=>(l a).mpr h;have R:∀(b:Hp) (n:List Addr) (a:Addr),(a∈n++(W.flatten++F.O₀))->a∈n\/(a∈O2/\a∉i.flatten):=fun b n a h=>by
   rcases List.mem_append.mp h with h | h
   ·exact .inl h
   ·refine .inr ⟨(l a).mpr (bB _ h),fun z=>?_⟩;exact(List.nodup_append.mp a1).2.2 a z a h rfl
  have j:∀(b:Hp) (n:List Addr),jA H b i.flatten n (W.flatten++F.O₀)->∃B,aC X.K (F.plus n) b Y (fc js U) B/\aU O2 H B b/\∀a,a∈B↔a∈n++(W.flatten++F.O₀):=fun b n t=>by
   obtain⟨B,t1,t2,t3,t4,t5⟩:=Z.swap (H':=b) (L':=n) t.keep (List.nodup_append.mp t.nd).1 t.new nw t.live;refine⟨B,t1,t2,fun a=>⟨fun h=>?_,fun h=>?_⟩⟩
   ·rcases t4 a h with z | ⟨z1,z2⟩
    ·exact bO _ z
    ·rcases List.mem_append.mp ((l a).mp z1) with z | z
     ·exact absurd z z2
     ·exact bB _ z
   ·rcases R b n a h with z | ⟨z1,z2⟩
    ·exact t3 a z
    ·exact t5 a z1 z2
  have r2:bi (vs++[]) (L++[]):=by rw[List.append_nil,List.append_nil];exact r
  let EX:XK:=fun C _ b=>∃c M T,X.mg c=some C/\aC X.K F b Y M T/\E c M;have sp:bJ X.K X.mg f vs H Q EX:=by
   refine⟨hx.1.at st,cs,i,W.flatten++F.O₀,ar.mono a4,a1,fun a h=>?_,?_⟩
   ·exact y.live a (by have:=(l a).mpr h;rw[a0] at this;exact this)
   ·cases hf:f cs with
    | bad=>rw[hf] at q;exact q
    | rt c a2=>
     rw[hf] at q;simp only at q ⊢;intro v b N d a5 S t;obtain⟨B,t1,t2,t3⟩:=j b (d.flatten++N) t;have D:aU (d.flatten++N++(W.flatten++F.O₀)) b B b:=gK fun a h=>(t3 a).mp h;have J:∀a∈d.flatten++N,a∈F.A₀\/F.H₀ a=none:=fun a h=>by
      rcases t.new a h with z | z
      ·exact nw a z
      ·by_cases hA:a∈F.A₀
       ·exact .inl hA
       ·refine .inr ?_;cases e:F.H₀ a with
        | none=>rfl
        | some o=>have:=y.kept a o hA e;rw[z] at this;cases this
     have lj:(fc js U).length=U.length:=yx;obtain⟨O4,u1,u2⟩:=yy (fp:=N) ja lj t1 (S.mono D) fun a h=>J a (bO _ h);exact hQ c _ q v b O4 N ⟨u1,a5.keep (D.trans u2) (fun _ _=>rfl) (fun _ _ _ e=>e),fun a h=>J a (bB _ h)⟩ (s1.trans (t2.trans u2))
    | ex c a2=>
     rw[hf] at q;simp only at q ⊢;intro C b d hm S t;obtain⟨B,t1,t2,t3⟩:=j b d.flatten t;have D:aU (d.flatten++(W.flatten++F.O₀)) b B b:=gK fun a h=>(t3 a).mp h;have J:∀a∈d.flatten,a∈F.A₀\/F.H₀ a=none:=fun a h=>by
      rcases t.new a h with z | z
      ·exact nw a z
      ·by_cases hA:a∈F.A₀
       ·exact .inl hA
       ·refine .inr ?_;cases e:F.H₀ a with
        | none=>rfl
        | some o=>have:=y.kept a o hA e;rw[z] at this;cases this
     have lj:(fc js U).length=U.length:=yx;obtain⟨O4,u1,u2⟩:=yy (fp:=[]) ja lj (by rw[List.append_nil];exact t1) (S.mono D) J;exact⟨c,_,O4,hm,u1,q⟩
  have hl:(L++[]).length=ps.length:=by rw[List.append_nil,<-r.length];exact G.len _ _ _ _ sp
  refine wpAny_call (codeAny_mono (G.run X.A X.stack s H ⟨L,[]⟩ L vs Q EX hr I.env0 (by have:=hb s L I.kIn hl;rw[List.append_nil] at this;exact this) r sp) fun r s' hq=>?_);cases r with
  | error e=>obtain⟨a,C,b,e1,I',cv,ex,c,M,T,hm,a6,hE⟩:=I.flies hq;exact hx.2 m Y b s' e c M T ⟨I',a,C,s.heap,_,e1,cv,ex,hm⟩ a6 hE
  | ok fl=>
   cases fl with
   | ret u=>exact I.after hq
   | next=>exact False.elim hq
   | brk=>exact False.elim hq
   | cont=>exact False.elim hq
theorem Jb(L:jz X F E)(G:aA X.prog X.w X.K X.mg X.base (bD X.prog X.w) k g fd ps (bJ X.K X.mg f))(M:bW k X.A)(N:Gl X x)(R:X.mg x=some (.ref g))(S:PySem.W.keepIn X.K (.ref g)=true)(hb:kg X.K fd ps [])
  (o:DX X F (e::es) tX) (t:(x==("__debug__":Str))=false:=by decide) (T:starEach (e::es) X.env=(false,eval e X.env)::starEach es X.env:=by rfl) (u:(backTo pos (starEach es X.env)).any (·.1)=false:=by rfl) :
  DO X F (.Call (.Name x p) (e::es) [] pos) (yz f E tX):=by
 refine⟨fun U Q Q' k q=>o.mn _ _ _ (fun as b i=>IZ k i) q,fun j s Y H Q I ⟨U,O,st,q⟩=>?_⟩;refine wpAny_Call_Name_kw (sx I N R ?_ t);refine PySem.W.callWith_K (h₀:=X.base) I.ok.mod.kin S (aP (o.pa pos j s Y H (fun vs l=>∃as b d,aC X.K F l Y b d/\aU O H d l/\dH Y (au d l) vs as/\iV f E (fun c C=>∀v m n y,iw X.K F m Y C n v c y->aU O H n m->Q v m) as b) I ⟨U,O,st,o.mn _ _ _ (fun as b i vs l d a D z=>⟨as,b,d,a,D,z,i⟩) q⟩) fun us D ⟨vs,l,J,r,as,b,d,a,B,z,i⟩=>⟨J.kIn,?_⟩) T u;exact Ja L G M hb J r a z i fun c C h v m n y res Z=>h v m n y res (B.trans Z)
end
def jB(H:Hp)(O:List Addr):Prop:=∀a∈O,∃o,H a=some o/\Mv o
theorem jB.nofree{H:Hp}{O:List Addr}(h:jB H O):∀p,H p=none->p∉O:=fun p a z=>by obtain⟨o,e,_⟩:=h p z;rw[a] at e;cases e
theorem aC.live{K:Frag}{F:Fx}{H:Hp}{Y:St}{U:ao}{O:List Addr}(st:aC K F H Y U O):jB H O:=by obtain⟨W,h,rfl⟩:=st;exact h.live
abbrev dF:=ao->(List PyData->ao->Prop)->Prop
def Wk(O:List Addr)(H:Hp)(J:It)(c:List PyData):Prop:=∀e b,aU O H e b->jB b e->
 (∀i d,c[i]? = some d->J.go i b/\∀x a,J.yld i b x a->bX b a/\DV (au e a) x d)/\J.stop c.length b
noncomputable def yA(K:Frag)(F:Fx)(s:dF):TI:=fun Y H R=>∃U O,aC K F H Y U O/\s U fun b d=>∀J a c,aC K F a Y d c->aU O H c a->Wk c a J b->R J a
structure DI (X:Cx) (F:Fx) (tg iter:Expr) (s:dF):Prop where
 mn:∀U Q Q',(∀d U',Q d U'->Q' d U')->s U Q->s U Q'
 pi:PI X tg iter (yA X.K F s)
theorem _root_.L2.PI.imp{X:Cx}{b e:Expr}{t t':TI}(h:PI X b e t)(k:∀Y H Q,t' Y H Q->t Y H Q):PI X b e t':=fun a s Y H Q I q=>h a s Y H Q I (k Y H Q q)
section
variable{X:Cx}{F:Fx}{tg e a b:Expr}{te:DT}{tA:cW}{pos p:Pos}
noncomputable def iL(te:DT):dF:=fun U Q=>te U fun d f=>∃c,d=.list c/\Q c f
noncomputable def iT(te:DT):dF:=fun U Q=>te U fun d f=>∃c,d=.tuple c/\Q c f
theorem Jc{K:Frag}{O:List Addr}{H:Hp}{a:Addr}{c:List V}{g:List PyData}(k:au O H a=some (.lst c))(hd:aI (au O H) c g):Wk O H (sD K a) g:=fun t u s ok=>by obtain⟨r,l⟩:=da k;have h2:=s.keep a _ l r;have f:=aI.mono s.hid hd;refine⟨fun i d e=>?_,⟨c,.of h2,by rw[hd.length];exact aZ _⟩⟩;obtain⟨v,j,m⟩:=f.get e;refine⟨⟨c,v,.of h2,j⟩,fun x n ⟨o,q⟩=>?_⟩;subst o;have:=q c (.of h2);rw[j] at this;cases this;exact⟨fun _ _ h=>h,m⟩
theorem Jd{K:Frag}{O:List Addr}{H:Hp}{a:Addr}{c:List V}{g:List PyData}(l:Rd (au O H) a (.tup c))(hd:aI (au O H) c g):Wk O H (sE K a) g:=fun w m s ok=>by
 obtain⟨u,j⟩:=gi l;have h2:Rd m a (.tup c):=u.imp (fun e=>s.keep a _ j e) fun⟨o,e⟩=>⟨o,s.keep a _ j e⟩
 have f:=aI.mono s.hid hd;refine⟨fun i d e=>?_,⟨c,.inl h2,by rw[hd.length];exact aZ _⟩⟩;obtain⟨v,k,n⟩:=f.get e;refine⟨⟨c,v,.inl h2,k⟩,fun x q ⟨r,t⟩=>?_⟩;subst r;have:=t c (.inl h2);rw[k] at this;cases this;exact⟨fun _ _ h=>h,n⟩
theorem Je(h:DE X F e te):DI X F tg e (iL te):=
 ⟨fun _ _ _ k q=>h.mn _ _ _ (fun _ _ ⟨f,e,q⟩=>⟨f,e,k _ _ q⟩) q,(EB h.pe).imp fun Y H R ⟨U,O,st,q⟩=>
  ⟨U,O,st,h.mn _ _ _ (fun d r ⟨f,e,i⟩ v j l c m n=>by
   subst e;obtain⟨a,o,rfl,g,hd⟩:=n.lst_inv;exact⟨a,rfl,⟨o,.of (da g).1⟩,i _ j l c m (Jc g hd)⟩) q⟩⟩
theorem Jf(h:DE X F e te):DI X F tg e (iT te):=
 ⟨fun _ _ _ k q=>h.mn _ _ _ (fun _ _ ⟨f,e,q⟩=>⟨f,e,k _ _ q⟩) q,(ED h.pe).imp fun Y H R ⟨U,O,st,q⟩=>
  ⟨U,O,st,h.mn _ _ _ (fun d r ⟨f,e,i⟩ v j l c m n=>by
   subst e;obtain⟨a,o,rfl,g,hd⟩:=n.tup_inv;exact⟨a,rfl,⟨o,.inl (gi g).1⟩,i _ j l c m (Jd g hd)⟩) q⟩⟩
noncomputable def intsFrom(lo:Int)(n:Nat):List PyData:=(List.range n).map fun(i:Nat)=>PyData.int (lo+i)
theorem pS(lo:Int)(n:Nat):(intsFrom lo n).length=n:=by unfold intsFrom;rw[List.length_map,List.length_range]
theorem yB{O:List Addr}{H:Hp}{lo:Int}{n:Nat}:Wk O H (mS lo n) (intsFrom lo n):=fun q r s ok=>by refine⟨fun i d e=>?_,by show n<=(intsFrom lo n).length;rw[pS];exact aZ _⟩;unfold intsFrom at e;rw[List.getElem?_map] at e;obtain⟨j,g,k⟩:=Option.map_eq_some_iff.mp e;obtain⟨c,f⟩:=List.getElem?_eq_some_iff.mp g;rw[List.length_range] at c;rw[List.getElem_range] at f;subst f k;exact⟨c,fun x l ⟨m,o⟩=>by subst m o;exact⟨fun _ _ h=>h,.int _⟩⟩
noncomputable def yC(t:cW):dF:=fun U Q=>t U fun c d=>∃j:Int,c=[.int j]/\-(2 ^ 62)<=j/\j<2 ^ 62/\Q (intsFrom 0 j.toNat) d
theorem yD(g:Gl X "range")(h:X.mg "range" = none)(c:DA X F [a] tA)(i:starEach [a] X.env=[(false,eval a X.env)]:=by rfl):DI X F tg (.Call (.Name "range" p) [a] [] pos) (yC tA):=
 ⟨fun _ _ _ k q=>c.mn _ _ _ (fun _ _ ⟨j,e,h1,h2,q⟩=>⟨j,e,h1,h2,k _ _ q⟩) q,(EG g h c.pa i).imp fun Y H R ⟨U,O,st,q⟩=>
  ⟨U,O,st,c.mn _ _ _ (fun t u ⟨j,e,h1,h2,l⟩ vs m n f o s=>by
   subst e;cases s with
   | cons d r=>
    cases r;obtain rfl:=d.int_inv;exact⟨j,rfl,h1,h2,l _ m n f o yB⟩) q⟩⟩
noncomputable def numbered(c:List PyData):List PyData:=c.mapIdx fun i d=>PyData.tuple [.int i,d]
end
noncomputable def Jg(s:dF)(g:dX)(c:cX):cX:=fun D U=>s U fun a e=>∃b:Nat->ao->Prop,b 0 e/\(∀i d U,a[i]? = some d->b i U->g d U fun f=>c { D with nx:=b (i+1),ct:=b (i+1),bk:=D.nx } f)/\∀U,b a.length U->D.nx U
section
variable{X:Cx}{F:Fx}{tg iter:Expr}{body:List Stmt}{s:dF}{g:dX}{tb:cX}{pos:Pos}
theorem Jh(hp:PassesOwn (model X.prog X.w) X.A X.env X.xe)(hc:X.calm=true)(hi:DI X F tg iter s)(hg:DG X F tg g)(hb:fC X F body tb)(hs:∀x,foldedSetIterable iter X.env x=pure x:=by intro _;rfl):DS X F (.For tg iter body [] pos) (Jg s g tb):=
 (EK hp hc hi.pi hg.pg hb hs).imp fun D Y H ⟨U,O,DD,st,q,f⟩=>by
  refine⟨U,O,st,hi.mn _ _ _ (fun a U1 ⟨I,i0,step,fin⟩ J L y M N wk=>?_) q⟩;refine⟨fun i m Q z=>∃l u,aC X.K F z Q l u/\aU y L u z/\I i l/\i<=a.length/\m=a.length - i,⟨a.length,U1,y,M,.refl,i0,Nat.zero_le _,rfl⟩,?_⟩;rintro i m Q z ⟨l,u,n,R,iv,a2,rfl⟩;obtain⟨w1,w2⟩:=wk u z R n.live
  by_cases o:i<a.length
  ·obtain⟨go,yld⟩:=w1 i a[i] (List.getElem?_eq_getElem o);refine .inr ⟨go,fun Y2 B=>∃c p,aC X.K F B Y2 c p/\aU y L p B/\I (i+1) c,fun Y2 B ⟨c,p,S,s2,T⟩=>⟨a.length - (i+1),by omega,c,p,S,s2,T,o,rfl⟩,fun x B hy=>?_⟩;obtain⟨sm,dv⟩:=yld x B hy;refine⟨l,u,a[i],n.grow sm,dv,hg.mn _ _ _ _ (fun c q2 Y3 H3 Z a0 s3=>?_) (step i a[i] l (List.getElem?_eq_getElem o) iv)⟩;have r:aU y L Z H3:=R.trans ((aU.same sm).trans s3);have C:∀t h j k,aC X.K F h t j k->aU Z H3 k h->I (i+1) j->∃c p,aC X.K F h t c p/\aU y L p h/\I (i+1) c:=fun t h j k b E G=>⟨j,k,b,r.trans E,G⟩
   exact⟨c,Z,_,a0,q2,⟨C,fun v t h d j k a1 b E G=>f.rt v t h d j k a1 b (N.trans (r.trans E)) G,fun t h j k b E G=>f.nx t h j k b (N.trans (r.trans E)) G,C⟩⟩
  ·have e:i=a.length:=by omega
   subst e;exact .inl ⟨w2,f.nx Q z l u n (N.trans R) (fin l iv)⟩
end
noncomputable def Ji(c:cG)(f:cX):cX:=fun D U=>∃(d:ao->Prop) (μ:ao->Nat),d U/\∀U,d U->c U fun b e=>if b=true then f { D with nx:=fun a=>d a/\μ a<μ U,ct:=fun a=>d a/\μ a<μ U,bk:=D.nx } e else D.nx e
section
variable{X:Cx}{F:Fx}{c:Expr}{body:List Stmt}{tc:cG}{tb:cX}{pos:Pos}
theorem Jj(N:PassesOwn (model X.prog X.w) X.A X.env X.xe)(G:DB X F c tc)(hb:fC X F body tb):DS X F (.While c body [] pos) (Ji tc tb):=
 (Ev N G.pt hb).imp fun D Y H ⟨U,O,DD,st,⟨r,μ,Q,step⟩,f⟩=>by
  refine⟨fun m I x=>∃g s,aC X.K F x I g s/\aU O H s x/\r g/\m=μ g,⟨μ U,U,O,st,.refl,Q,rfl⟩,?_⟩;rintro m I x ⟨g,s,y,t,R,rfl⟩;refine⟨g,s,y,G.mn _ _ _ (fun b S J T L n u=>?_) (step g R)⟩;cases b with
  | false=>exact dO (f.nx _ _ _ _ n (t.trans u) (iu J))
  | true=>
   refine dP ⟨fun M z=>∃e k,aC X.K F z M e k/\aU O H k z/\r e/\μ e<μ g,fun M z ⟨e,k,B,Z,C,lt⟩=>⟨μ e,lt,e,k,B,Z,C,rfl⟩,?_⟩;have o:∀l h i j,aC X.K F h l i j->aU L T j h->(r i/\μ i<μ g)->∃e k,aC X.K F h l e k/\aU O H k h/\r e/\μ e<μ g:=fun l h i j a p q=>⟨i,j,a,t.trans (u.trans p),q⟩
   exact⟨S,L,_,n,ir J,⟨o,fun v l h d i j E a p q=>f.rt v l h d i j E a (t.trans (u.trans p)) q,fun l h i j a p q=>f.nx l h i j a (t.trans (u.trans p)) q,o⟩⟩
end
@[simp] noncomputable def yE:Option (Option aj)->Option aj
 | some (some (.dat d))=>some (.dat d)
 | some (some (.scr ns))=>some (.scr ns)
 | some (some (.vw b))=>some (.vw b)
 | _=>none
noncomputable def gL(own:List Str)(a:List Nat)(U:ao):ao:=own.map (fun _=>none)++a.map fun j=>yE U[j]?
noncomputable def ny(own:List Str)(f:List Nat)(s:dF)(g:dX)(l:cG)(m:DT):DT:=fun U Q=>s U fun c j=>∃e:Nat->List PyData->ao->Prop,e 0 [] (gL own f j)/\
 (∀i d a h,c[i]? = some d->e i a h->g d h fun n=>l n fun b k=>if b=true then m k fun y o=>a.length<sizeLine/\e (i+1) (a++[y]) o else e (i+1) a k)/\
 ∀a h,e c.length a h->a.length<=sizeLine/\Q (.list a) j
def nz(s:dF):Prop:=∀U Q a,(∀d b,Q d b->a d b)->s U Q->s U a
section
variable{K:Frag}{F:Fx}{own:List Str}{caps:List Nat}{s:dF}{g:dX}{tc:cG}{te:DT}
theorem tQ(c:nz s):Mn (ny own caps s g tc te):=fun _ _ _ k q=>c _ _ _ (fun _ _ ⟨d,e,h1,h2⟩=>⟨d,e,h1,fun a b h=>⟨(h2 a b h).1,k _ _ (h2 a b h).2⟩⟩) q
theorem yF{N:Fx->Prop}(Z:∀r Y w k O2,aC K F r Y w k->N ⟨r,[],O2,fun _=>0⟩)(hs:nz s)(hg:∀d U Q Q',(∀t,Q t->Q' t)->g d U Q->g d U Q')(ht:iR tc)(he:Mn te):∀Y H Q,gJ K F (ny own caps s g tc te) Y H Q->
  mZ own caps (yA K F s) (fun v Y H Q=>∃A,N A/\tL K A g v Y H Q) (fun Y H Q=>∃A,N A/\kt K A tc Y H Q) (fun Y H Q=>∃A,N A/\gJ K A te Y H Q) Y H Q:=fun Y H Q ⟨U,O,st,q⟩=>by
 refine⟨U,O,st,hs _ _ _ (fun f w ⟨Iv,i0,step,fin⟩ J r k l s1 wk=>?_) q⟩;refine⟨fun i m ys Y' G=>∃t D B,aC K ⟨r,[],k,fun _=>0⟩ G Y' t D/\Iv i B t/\aI (au D G) ys B/\i<=f.length/\m=f.length - i,⟨f.length,gL own caps w,k,[],?_,i0,.nil,Nat.zero_le _,rfl⟩,?_⟩
 ·have cell:∀(i:Nat) (c:aj),(gL own caps w)[i]? = some (some c)->(∀io b,c≠.own io b)/\∃v,(eV own caps Y)[i]? = some (some v)/\dr K r k v c []:=fun i c e=>by
   unfold gL at e;unfold eV
   by_cases R:i<own.length
   ·rw[List.getElem?_append_left (by simpa using R),List.getElem?_map] at e;cases h:own[i]? with
    | none=>rw[h] at e;cases e
    | some y=>rw[h] at e;cases e
   ·rw[List.getElem?_append_right (by simpa using Nat.le_of_not_lt R),List.length_map,List.getElem?_map] at e;rw[List.getElem?_append_right (by simpa using Nat.le_of_not_lt R),List.length_map,List.getElem?_map];obtain⟨j,h1,h2⟩:=Option.map_eq_some_iff.mp e;rw[h1];show _/\∃v,some ((Y[j]?).getD none)=some (some v)/\_;cases h3:w[j]? with
    | none=>rw[h3] at h2;cases h2
    | some o=>
     cases o with
     | none=>rw[h3] at h2;cases h2
     | some c'=>
      rw[h3] at h2;obtain⟨W,E,rfl⟩:=id l;obtain⟨v,fp,e1,_,I⟩:=E.at_ j c' h3;rw[e1];cases c' with
      | dat d=>cases h2;exact⟨(fun _ _ z=>by cases z),v,rfl,I⟩
      | scr ns=>cases h2;exact⟨(fun _ _ z=>by cases z),v,rfl,I⟩
      | own _ _=>cases h2
      | exc _=>cases h2
      | vw b=>cases h2;exact⟨(fun _ _ z=>by cases z),v,rfl,I⟩
  obtain⟨W,E,a0⟩:=id l;have ln:(gL own caps w).length=(eV own caps Y).length:=by unfold gL eV;simp
  have S:(List.replicate (gL own caps w).length ([]:List Addr)).flatten++k=k:=by rw[nv];rfl
  refine⟨List.replicate (gL own caps w).length [],⟨fun i c e=>?_,by show(_++k).Nodup;rw[S,a0];exact E.nd,fun _ _ _ h=>h,fun a h=>?_,by show jB r (_++k);rw[S];exact l.live,ln,by simp,fun i b e=>absurd rfl ((cell i _ e).1 true b)⟩,S.symm⟩
  ·obtain⟨_,v,e1,I⟩:=cell i c e;refine⟨v,[],e1,?_,by show dr K r (_++k) v c [];rw[S];exact I⟩;rw[List.getElem?_replicate,if_pos (List.getElem?_eq_some_iff.mp e).1]
  ·rw[nv] at h;cases h
 ·rintro i m ys Y' G ⟨t,D,B,n,iv,dv,R,rfl⟩;have sm:bX r G:=fun b o e=>by obtain⟨W',T,_⟩:=id n;exact T.kept b o (by simp) e
  have bH:aU k r D G:=⟨fun b o _ e=>sm b o e,fun a h=>by
   obtain⟨W',T,rfl⟩:=id n;rcases List.mem_append.mp h with h | h
   ·exact(T.new a h).elim (fun z=>absurd z (by simp)) .inr
   ·exact .inl h⟩
  have C:∀a∈k,a∈D:=fun a h=>by obtain⟨W',T,rfl⟩:=id n;exact bB _ h
  obtain⟨w1,w2⟩:=wk D G bH n.live
  by_cases u:i<f.length
  ·obtain⟨go,yld⟩:=w1 i f[i] (List.getElem?_eq_getElem u);refine .inr ⟨go,fun x H2 hy=>?_⟩;obtain⟨L,dx⟩:=yld x H2 hy;refine⟨⟨r,[],k,fun _=>0⟩,Z _ _ _ _ _ l,t,D,f[i],n.grow L,dx,hg _ _ _ _ (fun U2 q2 Y3 H3 O3 a1 s3=>?_) (step i f[i] B t (List.getElem?_eq_getElem u) iv)⟩;refine⟨⟨r,[],k,fun _=>0⟩,Z _ _ _ _ _ l,U2,O3,a1,ht _ _ _ (fun b U3 q3 H4 O4 M s4=>?_) q2⟩;have d4:aI (au O4 H4) ys B:=aI.mono s4.hid (aI.mono s3.hid (aI.mono (ng L) dv));cases b with
   | false=>exact dO ⟨f.length - (i+1),by omega,U3,O4,B,M,iu q3,d4,u,rfl⟩
   | true=>refine dP ⟨⟨r,[],k,fun _=>0⟩,Z _ _ _ _ _ l,U3,O4,M,he _ _ _ (fun y U4 q4 v H5 O5 a2 s5 dy=>?_) (ir q3)⟩;refine⟨by rw[d4.length];exact q4.1,f.length - (i+1),by omega,U4,O5,B++[y],a2,q4.2,(aI.mono s5.hid d4).append (.cons dy .nil),u,rfl⟩
  ·have e:i=f.length:=by omega
   subst e;obtain⟨hz,q⟩:=fin B t iv;refine .inl ⟨w2,by rw[dv.length];exact hz,fun p X=>?_⟩;have a3:=n.nofree p X;exact q _ _ k (l.grow fun b o e=>bZ X _ _ (sm b o e)) (s1.trans (.same fun b o e=>bZ X _ _ (sm b o e))) (jx X (fun z=>a3 (C p z)) (aI.mono (Hb C) dv))
end
def kw(X:Cx)(F:Fx)(a:List Expr)(t:cG):Prop:=iR t/\kn X a (kt X.K F t)
noncomputable def Jk:cG:=fun U Q=>Q true U
theorem Jl{X:Cx}{F:Fx}:kw X F [] Jk:=⟨fun _ _ _ k q=>k _ _ q,fun a s Y H Q I ⟨U,O,st,q⟩=>GI a s Y H Q I (q H O st .refl)⟩
theorem Jm{X:Cx}{F:Fx}{c:Expr}{t:cG}(h:DB X F c t):kw X F [c] t:=⟨h.mn,GJ h.pt⟩
section
variable{X:Cx}{F:Fx}{scope:Scope}{own capN:List Str}{caps:List Nat}{tg iter elt:Expr}{ifs:List Expr}{s:dF}{g:dX}{tc:cG}{te:DT}{pos:Pos}
theorem Jn(k:GF X.mg F)(S:ai X scope own capN caps)(l:X.calm=true)(j:DI X F tg iter s)
  (c:∀C d e f h b,GF X.mg b->DG (bY X scope (own++capN) C d e f h) b tg g/\kw (bY X scope (own++capN) C d e f h) b ifs tc/\DE (bY X scope (own++capN) C d e f h) b elt te)
  (m:∀x,foldedSetIterable iter X.env x=pure x:=by intro _;rfl):DE X F (.ListComp elt [⟨tg,iter,ifs,0⟩] scope pos) (ny own caps s g tc te):=by
 have t:Fx:=F;obtain⟨n,o,p⟩:=c 0 [] (PySem.start X.prog).1 (fun _=>none) [] F k;refine⟨tQ j.mn,(xX S l j.pi (fun C d e f h=>⟨fun a s Y H v u Q I r ⟨b,i,q⟩=>(c C d e f h b i).1.pg a s Y H v u Q I r q,fun a s Y H Q I ⟨b,i,q⟩=>(c C d e f h b i).2.1.2 a s Y H Q I q,fun a s Y H Q I ⟨b,i,q⟩=>(c C d e f h b i).2.2.pe a s Y H Q I q⟩) m).imp (yF (fun _ _ _ _ _ st=>k.into st) j.mn n.mn o.1 p.mn)⟩
theorem Jo{i:Nat}{y:Str}{py e:Pos}(z:X.N.Nodup)(n:X.N[i]? = some y)(A:Loc X.env.scope y)(w:GF X.mg F)(S:ai X scope own capN caps)(B:X.calm=true)(o:DI X F tg iter s)
  (c:∀C h j k l b,GF X.mg b->DG (bY X scope (own++capN) C h j k l) b tg g/\kw (bY X scope (own++capN) C h j k l) b ifs tc/\DE (bY X scope (own++capN) C h j k l) b elt te)
  (p:swapsWith (.ListComp elt [⟨tg,iter,ifs,0⟩] scope pos) (some (.Name y py)) e.line X.env=pure true:=by rfl)
  (E:∀x,foldedSetIterable iter X.env x=pure x:=by intro _;rfl) (G:X.fn y=true\/X.env.scope.names.lookup y=some .local:=by first | exact .inl rfl | exact .inr rfl | assumption) :
  DS X F (.Assign [.Name y py] (.ListComp elt [⟨tg,iter,ifs,0⟩] scope pos) e) (pR (ny own caps s g tc te) (gN i)):=by
 obtain⟨J,L,M⟩:=c 0 [] (PySem.start X.prog).1 (fun _=>none) [] F w;refine(GK z n A S B o.pi (fun C h j k l=>⟨fun a s Y H v u Q I r ⟨b,m,q⟩=>(c C h j k l b m).1.pg a s Y H v u Q I r q,fun a s Y H Q I ⟨b,m,q⟩=>(c C h j k l b m).2.1.2 a s Y H Q I q,fun a s Y H Q I ⟨b,m,q⟩=>(c C h j k l b m).2.2.pe a s Y H Q I q⟩) p E G).imp
  fun D Y H ⟨U,O,DD,st,q,f⟩=>yF (fun _ _ _ _ _ st=>w.into st) o.mn J.mn L.1 M.mn Y H _ ⟨U,O,st,tQ o.mn _ _ _ (fun d U1 R v T Z t s1 d1=>f.nx _ T _ Z (t.set d1) s1 R) q⟩
end
end L2.L3
namespace L2
open PySem PySem.Spec PyProof.Rows
section
variable{X:Cx}{pins:List (Addr×Obj)}{Y:St}{H:Hp}{s:Shared}
theorem Inv.track{a:Addr}{o:HO}(I:Inv X pins Y H s)(f:fK X pins H a)(new:cz X.prog X.w (bp H a o) s.heap a o):Inv X pins Y (bp H a o) s:=by
 have g:=f.1;refine I.step (h':=s.heap) (g':=s.gens) (d':=s.drawn) (t':=s.toks) (ch:=[a]) (fun b h=>by obtain rfl:=List.mem_singleton.mp h;exact⟨f.2.2.2.1,f.2.1,f.2.2.2.2.1,f.2.2.2.2.2⟩) (fun b d _ _ _ e _=>e) (fun b d _ _ _ e _=>⟨d.slots,e⟩)
  (fun b d i _ n=>by rw[ck (fun z=>i (by simp[z]))];exact n) (fun b d _ e=>⟨d,e⟩) (fun b j e=>bZ g b _ e) (fun b d u e=>bZ g b _ e) (fun b l e=>⟨#[],by rw[bZ g b _ e];simp⟩) (fun m k=>k) (fun b u e=>?_) I.bare
 by_cases h:b=a
 ·subst h;rw[dB] at e;cases e;exact new
 ·rw[ck h] at e;exact(I.hok b u e).stay (fun _ _ _ q=>q) (fun c q=>bZ g c _ q) fun c j q=>bZ g c _ q
end
theorem vals3{x y z:V}{a:List Value}(r:bi [x,y,z] a):∃u v w,a=[u,v,w]/\bd x u/\bd y v/\bd z w:=by
 cases r with
 | cons b r=>cases r with
  | cons c r=>cases r with
   | cons d r=>cases r;exact⟨_,_,_,rfl,b,c,d⟩
section
variable{X:Cx}{a b c:Expr}{t:TA}{pos p1 p2 pos2:Pos}
noncomputable def Jp(t:TA):TE:=fun Y H Q=>t Y H fun vs d=>∃k l m e g h,vs=[.ref k,.ref l,.ref m]/\d k=some (.lst e)/\d l=some (.lst g)/\d m=some (.lst h)/\g.length=e.length/\h.length=e.length/\0<e.length/\
 ∀p f (j:List Addr),bX d f->d p=none->f p=some (.lst (j.map V.ref))->j.length=e.length->(∀(i:Nat) (q:Addr),j[i]? = some q->∃x y z,e[i]? = some x/\g[i]? = some y/\h[i]? = some z/\d q=none/\f q=some (.tup [x,y,z]))->Q (.ref p) f
theorem yG:∀{acc:List Value},(∀(j:Nat) (w:Value),acc[j]? = some w->∃T,w=Value.ref T)->∃d:List Addr,acc=d.map Value.ref
 | [],_=>⟨[],rfl⟩
 | v::r,h=>by obtain⟨T,e⟩:=h 0 v rfl;obtain⟨d,f⟩:=yG (acc:=r) fun j w e=>h (j+1) w (by simpa using e);exact⟨T::d,by rw[f,e];rfl⟩
theorem Jq{h:Heap}{n:Addr}{f g i:Array Value}{d:List Value}(t:pI h n f g i d):∃k:List Addr,d=k.map Value.ref:=
 yG fun j w e=>by obtain⟨T,_,_,_,e,_⟩:=t j w e;exact⟨T,e⟩
theorem Jr(hc:X.calm=true)(c2:Gl X "list")(c3:X.mg "list" = none)(c4:Gl X "zip")(c5:X.mg "zip" = none)(ha:PA X [a,b,c] t)
  (he:starEach [.Call (.Name "zip" p2) [a,b,c] [] pos2] X.env=[(false,eval (.Call (.Name "zip" p2) [a,b,c] [] pos2) X.env)]:=by rfl)
  (hs:starEach [a,b,c] X.env=(false,eval a X.env)::starEach [b,c] X.env:=by rfl) (c6:(backTo pos2 (starEach [b,c] X.env)).any (·.1)=false:=by rfl) :
  PE X (.Call (.Name "list" p1) [.Call (.Name "zip" p2) [a,b,c] [] pos2] [] pos) (Jp t):=by
 intro g s Y H Q I h;refine wpAny_Call_Name_kw (ie I c2 c3 (show bootBuiltins "list" = some (.type "list") by decide +kernel) ?_ (by decide) (by decide));refine PyProof.Rows.callWith_type1 ?_ (by rw[he];rfl) rfl;rw[he];show wpAny _ _ (spliced [(false,eval (.Call (.Name "zip" p2) [a,b,c] [] pos2) X.env)]) _ _ s;refine Calls.spliced_cons ?_;refine wpAny_Call_Name_kw (ie I c4 c5 boot_zip ?_ (by decide) (by decide));refine PyProof.Rows.callWith_type1 (aP (ha pos2 g s Y H _ I h) fun us d ⟨vs,B,R,r1,q1⟩=>?_) hs c6;obtain⟨l1,l2,l3,A,S,U,rfl,h1,N,h3,e2,e3,e6,q⟩:=q1;obtain⟨u1,u2,u3,rfl,c7,c8,c9⟩:=vals3 r1;cases c7;cases c8;cases c9;obtain⟨z1,Z,n1,a0,g1⟩:=R.hok _ _ h1;obtain⟨z2,a6,n2,a7,g2⟩:=R.hok _ _ N;obtain⟨z3,a8,n3,a9,g3⟩:=R.hok _ _ h3;have L1:d.heap.IsList l1 Z.toArray:=⟨_,g1,rfl,_,rfl⟩
 have b0:d.heap.IsList l2 a6.toArray:=⟨_,g2,rfl,_,rfl⟩
 have b1:d.heap.IsList l3 a8.toArray:=⟨_,g3,rfl,_,rfl⟩
 have b2:=a0.length;have e7:=a7.length;have e8:=a9.length;refine GW L1 b0 b1 fun v hz d0 d1 qj d2 d3 d4 hk=>?_;refine Calls.spliced_nil ?_;have b3:l1<d.heap.objs.size:=ba g1;have b4:l2<d.heap.objs.size:=ba g2;have b5:l3<d.heap.objs.size:=ba g3;have nd:[d.heap.objs.size+5,d.heap.objs.size+3,d.heap.objs.size+4,d.heap.objs.size,d.heap.objs.size+1,d.heap.objs.size+2].Nodup:=by generalize d.heap.objs.size=n;simp only[List.nodup_cons,List.mem_cons,List.not_mem_nil,or_false,not_or,not_false_eq_true,and_true,List.nodup_nil];refine⟨⟨?_,?_,?_,?_,?_⟩,⟨?_,?_,?_,?_⟩,⟨?_,?_,?_⟩,⟨?_,?_⟩,?_⟩<;>exact(by intro e;exact absurd (show(_:Nat)=_ from e) (by omega))
 have ge:∀j∈[d.heap.objs.size+5,d.heap.objs.size+3,d.heap.objs.size+4,d.heap.objs.size,d.heap.objs.size+1,d.heap.objs.size+2],d.heap.objs.size<=j:=fun j w=>by
  simp only[List.mem_cons,List.not_mem_nil,or_false] at w;rcases w with rfl | rfl | rfl | rfl | rfl | rfl
  ·exact Nat.le_add_right _ _
  ·exact Nat.le_add_right _ _
  ·exact Nat.le_add_right _ _
  ·exact aZ _
  ·exact Nat.le_add_right _ _
  ·exact Nat.le_add_right _ _
 have I2:Inv X g Y B { d with heap:=v }:=R.kept (t':=d.toks) hk;refine GX (s:={ d with heap:=v }) (R.ok.hd hc) nd (fun l hl j w=>?_) (fun j w=>?_) hz d0 d1 qj d2 d3 (L1.at fun o e=>hk _ _ e) (b0.at fun o e=>hk _ _ e) (b1.at fun o e=>hk _ _ e)
  (by simp only[List.size_toArray];omega) (by simp only[List.size_toArray];omega) (by simp only[List.size_toArray];omega) (by simp only[List.size_toArray];omega) fun N e9 cc kK hS hl tr=>?_
 ·simp only[List.mem_cons,List.not_mem_nil,or_false] at hl;rcases hl with rfl | rfl | rfl
  ·exact Nat.ne_of_lt (Nat.lt_of_lt_of_le b3 (ge j w))
  ·exact Nat.ne_of_lt (Nat.lt_of_lt_of_le b4 (ge j w))
  ·exact Nat.ne_of_lt (Nat.lt_of_lt_of_le b5 (ge j w))
 ·show j<v.objs.size;rw[d4];simp only[List.mem_cons,List.not_mem_nil,or_false] at w;generalize d.heap.objs.size=n at *;rcases w with rfl | rfl | rfl | rfl | rfl | rfl | rfl | rfl | rfl
  ·exact Nat.lt_succ_self _
  ·exact Nat.add_lt_add_left (show(3:Nat)<6 by decide) _
  ·exact Nat.add_lt_add_left (show(4:Nat)<6 by decide) _
  ·exact Nat.lt_add_of_pos_right (by decide)
  ·exact Nat.add_lt_add_left (show(1:Nat)<6 by decide) _
  ·exact Nat.add_lt_add_left (show(2:Nat)<6 by decide) _
  ·exact Nat.lt_of_lt_of_le b3 (Nat.le_add_right _ _)
  ·exact Nat.lt_of_lt_of_le b4 (Nat.le_add_right _ _)
  ·exact Nat.lt_of_lt_of_le b5 (Nat.le_add_right _ _)
 ·
  have kp:∀b ob,d.heap.get? b=some ob->N.get? b=some ob:=fun b ob e=>kK b ob (fun z=>absurd (ge b (by
   simp only[List.mem_cons,List.not_mem_nil,or_false] at z ⊢;rcases z with z | z | z | z | z<;>simp[z])) (Nat.not_le.mpr (ba e))) (hk b ob e)
  have I3:Inv X g Y B { d with heap:=N }:=R.kept (t':=d.toks) kp;obtain⟨f,C⟩:=Jq tr;have big:∀b,v.objs.size<=b->fK X g B b:=fun b O=>I2.fpOk O (I2.hok.fresh O);have D:f.length=A.length:=by have:=congrArg List.length C;rw[List.length_map] at this;rw[<-this,hl,List.size_toArray];exact b2.symm
  have vq:∀f:List Addr,bi (f.map V.ref) (f.map Value.ref):=fun f=>by
   induction f with
   | nil=>exact .nil
   | cons q r ih=>exact .cons rfl ih
  have I4:Inv X g Y (bp B v.objs.size (.lst (f.map V.ref))) { d with heap:=N }:=I3.track (big _ (aZ _)) ⟨by rw[List.length_map,D];exact z1,_,_,vq f,by rw[<-C];exact hS⟩;have all:∀k,k<=f.length->∃u,bX B u/\Inv X g Y u { d with heap:=N }/\u v.objs.size=some (.lst (f.map V.ref))/\(∀b,v.objs.size<b->u b=none\/∃row,u b=some (.tup row))/\
    ∀(i:Nat) (q:Addr),i<k->f[i]? = some q->∃x y z,A[i]? = some x/\S[i]? = some y/\U[i]? = some z/\B q=none/\u q=some (.tup [x,y,z]):=fun k=>by
   induction k with
   | zero=>exact fun _=>⟨_,bZ (big _ (aZ _)).1,I4,dB,fun b O=>.inl (by rw[ck (Nat.ne_of_gt O)];exact(big b (Nat.le_of_lt O)).1),fun i q h=>absurd h (Nat.not_lt_zero _)⟩
   | succ k ih=>
    intro b6;obtain⟨u,sm,J,hp,E,m⟩:=ih (Nat.le_of_succ_le b6);have b7:k<f.length:=b6;have G:f[k]? = some f[k]:=List.getElem?_eq_getElem b7;obtain⟨T,x',y',u',eT,hT,b8,ex,ey,eu⟩:=tr k (.ref f[k]) (by rw[C,List.getElem?_map,G];rfl);cases eT;have p:v.objs.size<f[k]:=hT;have kx:k<A.length:=by rw[<-D];exact b7
    have vx:A[k]? = some A[k]:=List.getElem?_eq_getElem kx;have vy:S[k]? = some (S[k]'(by omega)):=List.getElem?_eq_getElem (by omega);have vz:U[k]? = some (U[k]'(by omega)):=List.getElem?_eq_getElem (by omega);obtain⟨w1,d5,d6⟩:=a0.get vx;obtain⟨w2,d7,d8⟩:=a7.get vy;obtain⟨w3,d9,e0⟩:=a9.get vz;have e1:x' = w1:=by simp only[List.getElem?_toArray] at ex;rw[d5] at ex;exact(Option.some.inj ex).symm
    have e4:y' = w2:=by simp only[List.getElem?_toArray] at ey;rw[d7] at ey;exact(Option.some.inj ey).symm
    have e5:u' = w3:=by simp only[List.getElem?_toArray] at eu;rw[d9] at eu;exact(Option.some.inj eu).symm
    subst e1 e4 e5;have rel:bi [A[k],S[k]'(by omega),U[k]'(by omega)] [x',y',u']:=.cons d6 (.cons d8 (.cons e0 .nil));have b9:B f[k]=none:=(big _ (Nat.le_of_lt p)).1;rcases E f[k] p with hn | ⟨row,hr⟩
    ·refine⟨bp u f[k] (.tup [A[k],S[k]'(by omega),U[k]'(by omega)]),fun b o e=>bZ hn _ _ (sm b o e),J.track ⟨hn,(big _ (Nat.le_of_lt p)).2⟩ ⟨by show 3<=sizeLine;decide,_,rel,⟨_,b8,rfl,_,rfl⟩⟩,
      by rw[ck (Nat.ne_of_lt p)];exact hp,fun b O=>?_,fun i q L M=>?_⟩
     ·by_cases e:b=f[k]
      ·subst e;exact .inr ⟨_,dB⟩
      ·rw[ck e];exact E b O
     ·rcases Nat.lt_succ_iff_lt_or_eq.mp L with L | rfl
      ·obtain⟨x,y,z,a1,a2,a3,a4,a5⟩:=m i q L M;exact⟨x,y,z,a1,a2,a3,a4,bZ hn _ _ a5⟩
      ·rw[G] at M;cases M;exact⟨_,_,_,vx,vy,vz,b9,dB⟩
    ·have same:row=[A[k],S[k]'(by omega),U[k]'(by omega)]:=by
      obtain⟨_,c0,rv,o,eo,co,n,dn⟩:=J.hok _ _ hr;have c1:N.get? f[k]=some o:=eo;rw[b8] at c1;cases c1;have d':(#[x',y',u']:Array Value)=c0.toArray:=by injection dn
      have:c0=[x',y',u']:=by have:=congrArg Array.toList d';simpa using this.symm
      subst this;exact rv.inj rel
     refine⟨u,sm,J,hp,E,fun i q L M=>?_⟩;rcases Nat.lt_succ_iff_lt_or_eq.mp L with L | rfl
     ·exact m i q L M
     ·rw[G] at M;cases M;exact⟨_,_,_,vx,vy,vz,b9,by rw[hr,same]⟩
  obtain⟨u,sm,J,hp,_,m⟩:=all f.length (aZ _);exact⟨.ref v.objs.size,u,J,rfl,q v.objs.size u f sm (big _ (aZ _)).1 hp D fun i qq e=>m i qq (List.getElem?_eq_some_iff.mp e).1 e⟩
theorem Js(E:X.calm=true):eU X (.builtin "all") (fun p H Q=>∃(l:Addr) (bs:List Bool),p=[.ref l]/\H l=some (.lst (bs.map V.bl))/\Q (.bl (bs.all id)) H):=by
 intro y s Y H p Z Q I r h;obtain⟨l,bs,rfl,G,q⟩:=h;obtain⟨u,rfl,J⟩:=vals1 r;cases J;obtain⟨z,d,n,B,e⟩:=I.hok _ _ G;have L:s.heap.IsList l d.toArray:=⟨_,e,rfl,_,rfl⟩
 have f:l<s.heap.objs.size:=ba e;have len:=B.length;rw[List.length_map] at len;refine call_all_walk (wpAny_pyIter_list L ?_);refine⟨s.heap.objs.size,_,_,_,_,_,fun i=>bs.getD i true,rfl,Walks.list (A:=X.A.in1) (show X.A.in1.handled=none from I.ok.hd E) s.heap.objs.size l (Nat.ne_of_lt f) d.toArray,⟨⟨_,Heap.get?_push_size _ rfl,rfl,rfl⟩,L.push _⟩,?_,fun h' tk M=>?_⟩
 ·intro i v N O E' R k;have g:d[i]? = some v:=by simpa using R
  have f:i<bs.length:=by rw[len];exact(List.getElem?_eq_some_iff.mp g).1
  obtain⟨w,C,m⟩:=B.get (i:=i) (x:=.bl bs[i]) (by rw[List.getElem?_map,List.getElem?_eq_getElem f];rfl);rw[g] at C;cases C;cases m;refine wpAny_truthy_bool ?_;have:bs.getD i true=bs[i]:=by simp[List.getD,f]
  have k:O (bs.getD i true) N:=k;rw[this] at k;exact k
 ·have S:(List.range d.toArray.size).all (fun i=>bs.getD i true)=bs.all id:=by
   rw[List.size_toArray,<-len];rw[Bool.eq_iff_iff,List.all_eq_true,List.all_eq_true];constructor
   ·intro h b U;obtain⟨i,g,rfl⟩:=List.getElem_of_mem U;have:=h i (List.mem_range.mpr g);simpa[List.getD,g] using this
   ·intro h i g;have j:=List.mem_range.mp g;have:=h bs[i] (List.getElem_mem j);simpa[List.getD,j] using this
  rw[S];exact⟨.bl (bs.all id),H,I.kept fun b o D=>M b o (fun T=>absurd (ba D) (by rw[List.mem_singleton.mp T];exact Nat.lt_irrefl _)) (aS _ D),rfl,q⟩
end
end L2
namespace L2.L3
open PySem PySem.Spec PyProof.Rows
noncomputable def yH:DN:=fun b Q=>∃a,(b=[.list a]\/b=[.tuple a])/\Q (.int a.length)
theorem pT{K:Frag}:gk (fun xs H Q=>∃p ys,xs=[.ref p]/\(cU K H p ys\/dD K H p ys)/\Q (.int ys.length) H) yH where
 mn:=fun _ _ _ k ⟨ds,e,q⟩=>⟨ds,e,k _ q⟩
 ok:=fun O H vs xs Q hO hd ⟨ds,e,q⟩=>by
  rcases e with rfl | rfl
  ·cases hd with
   | cons d r=>cases r;obtain⟨a,ys,rfl,ha,hy⟩:=d.lst_inv;exact⟨a,ys,rfl,.inl (.of (da ha).1),by rw[hy.length];exact q _ H (fun _ _ h=>h) (.int _)⟩
  ·cases hd with
   | cons d r=>cases r;obtain⟨a,ys,rfl,ha,hy⟩:=d.tup_inv;exact⟨a,ys,rfl,.inr (.inl (gi ha).1),by rw[hy.length];exact q _ H (fun _ _ h=>h) (.int _)⟩
theorem nA{H:Hp}{vs:List V}{a b:PyData}(h:aI H vs [a,b]):∃x y,vs=[x,y]/\DV H x a/\DV H y b:=by cases h with | cons d r=>cases r with | cons c r=>cases r;exact⟨_,_,rfl,d,c⟩
theorem gm{H:Hp}{vs:List V}{a:PyData}(h:aI H vs [a]):∃x,vs=[x]/\DV H x a:=by cases h with | cons d r=>cases r;exact⟨_,rfl,d⟩
theorem tR{H:Hp}{vs:List V}{a b c:PyData}(h:aI H vs [a,b,c]):∃x y z,vs=[x,y,z]/\DV H x a/\DV H y b/\DV H z c:=by cases h with | cons d r=>cases r with | cons f r=>cases r with | cons e r=>cases r;exact⟨_,_,_,rfl,d,f,e⟩
noncomputable def yI:DN:=fun a Q=>∃i j:Int,a=[.int i,.int j]/\Q (.int (max i j))
theorem tS:gk (fun xs H Q=>∃i j,xs=[.int i,.int j]/\Q (.int (if j>i then j else i)) H) yI where
 mn:=fun _ _ _ k ⟨i,j,e,q⟩=>⟨i,j,e,k _ q⟩
 ok:=fun O H vs xs Q hO hd ⟨i,j,e,q⟩=>by
  subst e;obtain⟨x,y,rfl,h1,h2⟩:=nA hd;have e:(if j>i then j else i)=max i j:=by split<;>omega
  exact⟨i,j,by rw[h1.int_inv,h2.int_inv],by rw[e];exact q _ H (fun _ _ h=>h) (.int _)⟩
noncomputable def yJ:DN:=fun a Q=>∃bs:List Bool,a=[.list (bs.map .bool)]/\Q (.bool (bs.all id))
theorem yK{H:Hp}:∀{bs:List Bool}{vs:List V},aI H vs (bs.map PyData.bool)->vs=bs.map V.bl
 | [],_,h=>by cases h;rfl
 | b::r,_,h=>by
  cases h with
  | cons d q=>rw[d.bl_inv,yK q];rfl
theorem Jt:gk (fun xs H Q=>∃(l:Addr) (bs:List Bool),xs=[.ref l]/\H l=some (.lst (bs.map V.bl))/\Q (.bl (bs.all id)) H) yJ where
 mn:=fun _ _ _ k ⟨bs,e,q⟩=>⟨bs,e,k _ q⟩
 ok:=fun O H vs xs Q hO hd ⟨bs,e,q⟩=>by subst e;obtain⟨x,rfl,h1⟩:=gm hd;obtain⟨a,ys,rfl,ha,hy⟩:=h1.lst_inv;exact⟨a,bs,rfl,by rw[(da ha).1,yK hy],q _ H (fun _ _ h=>h) (.bl _)⟩
noncomputable def nB(as bs cs:List PyData):List PyData:=(as.zip (bs.zip cs)).map fun q=>PyData.tuple [q.1,q.2.1,q.2.2]
noncomputable def yL(t:cW):DT:=fun U Q=>t U fun a b=>∃as bs cs,a=[.list as,.list bs,.list cs]/\bs.length=as.length/\cs.length=as.length/\0<as.length/\Q (.list (nB as bs cs)) b
theorem yM:∀{H:Hp}{vs:List V}{a:List PyData},vs.length=a.length->(∀(i:Nat) v d,vs[i]? = some v->a[i]? = some d->DV H v d)->aI H vs a
 | _,[],[],_,_=>.nil
 | _,[],_::_,e,_=>by cases e
 | _,_::_,[],e,_=>by cases e
 | H,v::vs,d::a,e,h=>.cons (h 0 v d rfl rfl) (yM (by simpa using e) fun i b c f g=>h (i+1) b c (by simpa using f) (by simpa using g))
section
variable{X:Cx}{F:Fx}{a b c e:Expr}{te:DT}{tA:cW}{pos p1 p2 pos2:Pos}
theorem Ju(Z:X.calm=true)(o:Gl X "list")(r:X.mg "list" = none)(s:Gl X "zip")(t:X.mg "zip" = none)(u:DA X F [a,b,c] tA)
  (he:starEach [.Call (.Name "zip" p2) [a,b,c] [] pos2] X.env=[(false,eval (.Call (.Name "zip" p2) [a,b,c] [] pos2) X.env)]:=by rfl)
  (hs:starEach [a,b,c] X.env=(false,eval a X.env)::starEach [b,c] X.env:=by rfl) (w:(backTo pos2 (starEach [b,c] X.env)).any (·.1)=false:=by rfl) :
  DE X F (.Call (.Name "list" p1) [.Call (.Name "zip" p2) [a,b,c] [] pos2] [] pos) (yL tA):=
 ⟨fun _ _ _ k q=>u.mn _ _ _ (fun _ _ ⟨x,y,z,e,h1,h2,h3,q⟩=>⟨x,y,z,e,h1,h2,h3,k _ _ q⟩) q,(Jr Z o r s t u.pa he hs w).imp fun Y H Q ⟨U,O,st,q⟩=>
  ⟨U,O,st,u.mn _ _ _ (fun ds U1 ⟨as,bs,cs,e,l1,l2,l3,q1⟩ vs H1 A g s1 B=>by
   subst e;obtain⟨x,y,z,rfl,h1,h2,h3⟩:=tR B;obtain⟨a1,xs,rfl,C,h⟩:=h1.lst_inv;obtain⟨a2,ys,rfl,D,M⟩:=h2.lst_inv;obtain⟨a3,zs,rfl,E,N⟩:=h3.lst_inv;refine⟨a1,a2,a3,xs,ys,zs,rfl,(da C).1,(da D).1,(da E).1,by rw[h.length,M.length];exact l1,by rw[h.length,N.length];exact l2,by rw[h.length];exact l3,fun p H2 qs G hp I hl j=>?_⟩;have R:∀b,H1 b=none->b∉A:=g.nofree;refine q1 _ H2 A (g.grow G) (s1.trans (.same G)) (.lst (gG I (R p hp)) (yM ?_ fun i v d S J=>?_))
   ·unfold nB;rw[List.length_map,List.length_map,List.length_zip,List.length_zip,hl,h.length];omega
   ·rw[List.getElem?_map] at S;obtain⟨T,e3,e4⟩:=Option.map_eq_some_iff.mp S;subst e4;obtain⟨x,y,z,g1,g2,g3,g4,g5⟩:=j i T e3;unfold nB at J;rw[List.getElem?_map] at J;obtain⟨⟨d0,B,d2⟩,e5,e6⟩:=Option.map_eq_some_iff.mp J;subst e6;obtain⟨e7,e8⟩:=List.getElem?_zip_eq_some.mp e5;obtain⟨e9,L⟩:=List.getElem?_zip_eq_some.mp e8;obtain⟨dx,k1,k2⟩:=h.get' g1;obtain⟨dy,k3,k4⟩:=M.get' g2;obtain⟨dz,k5,k6⟩:=N.get' g3;have l:as[i]? = some d0:=e7;have n:bs[i]? = some B:=e9;have f:cs[i]? = some d2:=L;rw[k1] at l;rw[k3] at n;rw[k5] at f;cases l;cases n;cases f;have m:=ng (O:=A) G;exact .tup (.inl (gG g5 (R T g4))) (.cons (DV.mono m k2) (.cons (DV.mono m k4) (.cons (DV.mono m k6) .nil)))) q⟩⟩
noncomputable def yN(te:DT)(k:Nat):DT:=fun U Q=>te U fun d g=>∃f,d=.list f/\Q (.list (f.drop k)) g
theorem Jv{k j:Nat}{x n:Pos}(l:DE X F e te):DE X F (.Subscript e (.Slice (some (.Constant (.int (k:Int)) j x)) none none n) pos) (yN te k):=
 ⟨fun _ _ _ k q=>l.mn _ _ _ (fun _ _ ⟨m,e,q⟩=>⟨m,e,k _ _ q⟩) q,(FC FU l.pe (Fy xf) Fw).imp fun Y H Q ⟨U,O,st,q⟩=>
  ⟨U,O,st,l.mn _ _ _ (fun d y ⟨m,e,o⟩ v z r f s t=>by
   subst e;obtain⟨a,g,rfl,u,w⟩:=t.lst_inv;refine⟨(k:Int),rfl,a,g,rfl,.of (da u).1,fun p i=>o _ _ r (f.grow (bZ i)) (s.trans (.same (bZ i))) (jx i (f.nofree p i) ?_)⟩;have:ki g (some (k:Int)) none=g.drop k:=by
    unfold ki;rw[HT.sIx_none,HT.sIx_nat]
    by_cases h:k<=g.length
    ·rw[Nat.min_eq_left h,List.take_of_length_le (by rw[List.length_drop];exact aZ _)]
    ·rw[Nat.min_eq_right (by omega),List.drop_of_length_le (aZ _),List.drop_of_length_le (by omega)];simp
   rw[this];exact w.drop k) q⟩⟩
end
section
variable{X:Cx}{F:Fx}{a b c e:Expr}{te:DT}{tA:cW}{pos p p1 p2 pos2:Pos}{x:Str}{i:Nat}
noncomputable def yO(i:Nat):DT:=fun U Q=>∃d,U[i]? = some (some (.scr d))/\(d.length<=63->Q (.int d.length) U)
theorem yP(l:Gl X "len")(m:X.mg "len" = none)(h:PE X (.Name x p1) (dN i))(g:starEach [.Name x p1] X.env=(false,eval (.Name x p1) X.env)::starEach [] X.env:=by rfl)(d:(backTo pos (starEach [] X.env)).any (·.1)=false:=by rfl) :
  DE X F (.Call (.Name "len" p) [.Name x p1] [] pos) (yO i):=
 ⟨fun _ _ _ k ⟨f,e,q⟩=>⟨f,e,fun h=>k _ _ (q h)⟩,(kh kj l m PySem.boot_len (fA h fL g) (by decide) (by decide) g d).imp fun Y H Q ⟨U,O,st,f,e,q⟩=>by
  obtain⟨o,n,j⟩:=st.scr e;refine⟨_,n,o,f.map V.int,rfl,.inl j.sq,?_⟩;rw[List.length_map];exact q j.1 _ H O st .refl (.int _)⟩
noncomputable def yQ(i:Nat)(te:DT):DT:=fun U Q=>∃f,U[i]? = some (some (.scr f))/\te U fun d g=>∃k n,d=.int k/\cu f k=some n/\Q (.int n) g
theorem Jw{α β:Type}{g:α->β}{l:List α}{k:Int}{n:α}(h:cu l k=some n):cu (l.map g) k=some (g n):=by
 unfold cu at h ⊢;rw[List.length_map];cases q:eL l.length k with
 | none=>rw[q] at h;cases h
 | some j=>rw[q] at h;show(l.map g)[j]? = some (g n);rw[List.getElem?_map];have h:l[j]? = some n:=h;rw[h];rfl
theorem yR(h:PE X (.Name x p1) (dN i))(g:DE X F e te)(j:pC e):DE X F (.Subscript (.Name x p1) e pos) (yQ i te):=
 ⟨fun _ _ _ k ⟨f,e,q⟩=>⟨f,e,g.mn _ _ _ (fun _ _ ⟨B,n,l,r,q⟩=>⟨B,n,l,r,k _ _ q⟩) q⟩,(xG xH h g.pe j).imp fun Y H Q ⟨U,O,st,f,e,q⟩=>by
  obtain⟨A,C,j⟩:=st.scr e;refine⟨_,C,U,O,st,g.mn _ _ _ (fun d I ⟨k,n,l,r,D⟩ w v E s y G=>?_) q⟩;subst l;have t:gH X.K v A f:=j.mono fun o u q=>y.keep _ _ (fun z=>by obtain⟨J,e,m⟩:=st.live _ z;rw[q] at e;cases e;exact m) q;exact⟨A,f.map V.int,k,.int n,rfl,G.int_inv,t.sq,Jw r,D _ v E s y (.int _)⟩⟩
noncomputable def Jx(K:Frag):R2:=fun x y H Q=>∃a b d,x=.ref a/\y=.ref b/\cU K H a (d.map V.int)/\H b=some (.lst [])/\Q (.bl (decide (d=[]))) H
theorem yS{h:Heap}:∀{d:List Int}{f:List Value},bi (d.map V.int) f->∃as,ReadsAll h f (d.map PyData.int) as
 | [],_,r=>by cases r;exact⟨_,.nil⟩
 | n::d,_,r=>by
  cases r with
  | cons g r=>obtain⟨t,rfl⟩:=g;obtain⟨as,q⟩:=yS r;exact⟨_,.cons (.int n t) q⟩
theorem Jy(l:X.A.units+64<cLine):cA X (compareOp .Eq) (Jx X.K):=by
 intro g s Y H x y v u Q I m t h;obtain⟨a,b,d,rfl,rfl,h1,h2,q⟩:=h;cases m;cases t;obtain⟨w,z,⟨o,n,e,B,_,C⟩,L⟩:=I.list h1;obtain⟨_,j,M,f,D⟩:=I.hok _ _ h2;cases f;obtain⟨as,E⟩:=yS (h:=s.heap) z;have G:PyData.eqv (.list (d.map .int)) (.list [])=decide (d=[]):=by cases d<;>rfl
 refine eq_dataH (reads_list_at e B C (by simpa using E)) (reads_list_at (xs:=[]) D rfl rfl .nil) ?_ (by decide) l (by rw[G];exact⟨.bl _,H,I,rfl,q⟩);unfold SeqAt.shaped;have J:PyData.canLay0 (.list (d.map .int))=true:=by
  have:∀d:List Int,PyData.canLayAll0 (d.map .int)=true:=fun d=>by
   induction d with
   | nil=>rfl
   | cons n r k=>rw[List.map_cons];simp only[PyData.canLayAll0,PyData.canLay0,k,Bool.and_self]
  simp only[PyData.canLay0,this]
 have dp:PyData.depth (.list (d.map .int))<=64:=by
  have:∀d:List Int,PyData.depthAll (d.map .int)<=1:=fun d=>by
   induction d with
   | nil=>simp[PyData.depthAll]
   | cons n r k=>rw[List.map_cons];simp only[PyData.depthAll,PyData.depth];omega
  have:=this d;simp only[PyData.depth];omega
 rw[J,Bool.true_and];exact decide_eq_true dp
noncomputable def yT(i:Nat):cG:=fun U Q=>∃d,U[i]? = some (some (.scr d))/\Q (decide (d=[])) U
theorem Jz{g:Pos}(j:X.A.units+64<cLine)(h:PE X (.Name x p1) (dN i)):DB X F (.Compare (.Name x p1) [.Eq] [.List [] g] pos) (yT i):=
 ⟨fun _ _ _ k ⟨f,e,q⟩=>⟨f,e,k _ _ q⟩,(xu (Jy j) h (sM fL) (bC _)).imp fun Y H Q ⟨U,O,st,f,e,q⟩=>by
  obtain⟨n,l,m⟩:=st.scr e;refine⟨_,l,Nat.zero_le _,fun p d=>⟨n,p,f,rfl,rfl,(bZ d).seq m.sq,dB,_,rfl,q _ O (st.grow (bZ d)) (.same (bZ d))⟩⟩⟩
end
structure FD (K:Frag) (mg:Str->Option Value) (x:Str) (st:Stmt) (ps:List Str) (g:Addr) (fd:FuncData):Prop where
 fn:mY K x x st g fd
 mgf:mg x=some (.ref g)
 b:kg K fd ps []
section
variable{X:Cx}{scope:Scope}{own capN:List Str}{caps:List Nat}
theorem ai.of(h1:scope.kind=.function:=by rfl)(h2:(scope.names.all fun y=>scope.names.lookup y.1==some y.2)=true:=by rfl)
  (h3:(scope.names.all fun y=>y.2 != .free||(X.env.kindOf y.1==some .cell||X.env.kindOf y.1==some .free))=true:=by rfl)
  (h4:(scope.names.all fun y=>y.2 != .local||scope.names.lookup y.1==some .local)=true:=by rfl) (h5:caps.map (fun j=>X.N[j]?)=capN.map some:=by rfl)
  (h6:(capN.all fun x=>scope.names.lookup x==some .free)=true:=by rfl):ai X scope own capN caps where
 kind:=h1
 one:=fun y hy=>eq_of_beq (List.all_eq_true.mp h2 y hy)
 free:=fun y hy e=>by
  have:=List.all_eq_true.mp h3 y hy;rw[e] at this;rw[Bool.or_eq_true] at this;rcases this with z | z
  ·exact absurd z (by decide)
  ·rw[Bool.or_eq_true] at z;exact z.imp (fun z=>eq_of_beq z) fun z=>eq_of_beq z
 loc:=fun y hy e=>by
  have:=List.all_eq_true.mp h4 y hy;rw[e] at this;rw[Bool.or_eq_true] at this;rcases this with z | z
  ·exact absurd z (by decide)
  ·exact eq_of_beq z
 caps:=h5
 capf:=fun x hx=>eq_of_beq (List.all_eq_true.mp h6 x hx)
end
section
variable{X:Cx}{F:Fx}{a b c e:Expr}{ta tb tc:DT}{pos:Pos}
noncomputable abbrev qI(g:Int->Int->Int):D2:=fI (fun _ _=>True) fun i j=>.int (g i j)
noncomputable abbrev qB(g:Int->Int->Bool):D2:=fI (fun _ _=>True) fun i j=>.bool (g i j)
theorem JA(d:DE X F a ta)(f:DE X F b tb):DE X F (.BinOp a .Add b pos) (cM (qI fun i j=>i+j) ta tb):=iQ EO (jw fun _ _ _=>.int _) d f
theorem JB(d:DE X F a ta)(f:DE X F b tb):DE X F (.BinOp a .Sub b pos) (cM (qI fun i j=>i - j) ta tb):=iQ EQ (jw fun _ _ _=>.int _) d f
theorem JC(d:DE X F a ta)(f:DE X F b tb):DE X F (.BinOp a .Mult b pos) (cM (fI mV fun i j=>.int (i * j)) ta tb):=iQ ER (pO fun _ _ _=>.int _) d f
theorem JD(d:DE X F a ta)(f:DE X F b tb):DE X F (.BinOp a .FloorDiv b pos) (cM (fI sI fun i j=>.int (i / j)) ta tb):=iQ ES (pO fun _ _ _=>.int _) d f
theorem JE(d:DE X F a ta)(f:DE X F b tb):DE X F (.BinOp a .Mod b pos) (cM (fI (fun _ j=>0<j) fun i j=>.int (i % j)) ta tb):=iQ ET (pO fun _ _ _=>.int _) d f
theorem JF(d:DE X F a ta)(f:DE X F b tb):DE X F (.BinOp a .Add b pos) (cM tG ta tb):=iQ Ge Hj d f
theorem JG(d:DE X F a ta)(f:DE X F b tb):DE X F (.Compare a [.Lt] [b] pos) (cM (qB fun i j=>decide (i<j)) ta tb):=pN xq (jw fun _ _ _=>.bl _) d f (bC _)
theorem JH(d:DE X F a ta)(f:DE X F b tb):DE X F (.Compare a [.Gt] [b] pos) (cM (qB fun i j=>decide (j<i)) ta tb):=pN xr (jw fun _ _ _=>.bl _) d f (bC _)
theorem JI(d:DE X F a ta)(f:DE X F b tb):DB X F (.Compare a [.Lt] [b] pos) (eX (cM (qB fun i j=>decide (i<j)) ta tb)):=jy xq (jw fun _ _ _=>.bl _) d f (bC _)
theorem JK(d:DE X F a ta)(f:DE X F b tb):DB X F (.Compare a [.LtE] [b] pos) (eX (cM (qB fun i j=>decide (i<=j)) ta tb)):=jy pB (jw fun _ _ _=>.bl _) d f (bC _)
theorem JL(d:DE X F a ta)(f:DE X F b tb):DB X F (.Compare a [.Gt] [b] pos) (eX (cM (qB fun i j=>decide (j<i)) ta tb)):=jy xr (jw fun _ _ _=>.bl _) d f (bC _)
theorem JM(d:X.A.units+64<cLine)(f:DE X F a ta)(g:DE X F b tb):DE X F (.Compare a [.Eq] [b] pos) (cM (nq false) ta tb):=pN (ya d) tD f g (bC _)
theorem JN(d:X.A.units+64<cLine)(f:DE X F a ta)(g:DE X F b tb):DB X F (.Compare a [.Eq] [b] pos) (eX (cM (nq false) ta tb)):=jy (ya d) tD f g (bC _)
theorem JO(d:X.A.units+64<cLine)(f:DE X F a ta)(g:DE X F b tb):DB X F (.Compare a [.NotEq] [b] pos) (eX (cM (nq true) ta tb)):=jy (GY d) tD f g (bC _)
theorem JP(d:DE X F a ta)(f:DE X F b tb):DE X F (.Compare a [.Is] [b] pos) (cM pP ta tb):=pN xt yd d f (bC _)
theorem JQ(d:DE X F a ta)(f:DE X F b tb):DB X F (.Compare a [.Is] [b] pos) (eX (cM pP ta tb)):=jy xt yd d f (bC _)
theorem JR(d:DE X F a ta)(f:DE X F b tb):DB X F (.Compare a [.IsNot] [b] pos) (eX (cM tE ta tb)):=jy EY Hi d f (bC _)
theorem JS(d:DE X F a ta)(h:DE X F b tb)(f:DE X F c tc)(g:lastMarks [.LtE,.LtE] [b,c]=false:=by with_unfolding_all rfl):DE X F (.Compare a [.LtE,.LtE] [b,c] pos) (tI (fun i j=>decide (i<=j)) (fun i j=>decide (i<=j)) ta tb tc):=HD pB pB d h f g
theorem fR{x:Str}{i:Int}{t:Tok}(d:Gl X x)(f:X.mg x=some (.int i t))(hd:(x==("__debug__":Str))=false:=by decide):DE X F (.Name x pos) (dC (.int i)):=nj (v:=.int i) (Dt d f ⟨t,rfl⟩ hd) fun _=>.int i
mutual
theorem yU:∀(d:PyData),d.canLay0=true->PyData.eqv d d=true
 | .none,_=>rfl
 | .bool b,_=>by simp[PyData.eqv]
 | .int i,_=>by simp[PyData.eqv]
 | .str s,_=>by simp[PyData.eqv]
 | .list xs,h=>by rw[PyData.eqv];exact tT xs (by simpa[PyData.canLay0] using h)
 | .tuple xs,h=>by rw[PyData.eqv];exact tT xs (by simpa[PyData.canLay0] using h)
 | .dict kvs,h=>by simp[PyData.canLay0] at h
theorem tT:∀(ds:List PyData),PyData.canLayAll0 ds=true->PyData.eqvAll ds ds=true
 | [],_=>rfl
 | x::xs,h=>by simp only[PyData.canLayAll0,Bool.and_eq_true] at h;rw[PyData.eqvAll,yU x h.1,tT xs h.2];rfl
end
theorem yV{d:PyData}(h:SeqAt.shaped d=true):PyData.eqv d d=true:=yU d (SeqAt.canLay_of_shaped h)
end
end L2.L3
namespace L2
open PySem PySem.Spec PyProof.Rows
section
variable{X:Cx}
noncomputable def yW(K:Frag):R2:=fun x y H Q=>∃a b c d,x=.ref a/\y=.ref b/\dD K H a c/\dD K H b d/\c.length+d.length<=sizeLine/\
 (c=[]->Q (.ref b) H)/\(c≠[]->d=[]->Q (.ref a) H)/\(c≠[]->d≠[]->∀p,H p=none->Q (.ref p) (bp H p (.tup (c++d))))
theorem JT:cA X (binaryOp .Add) (yW X.K):=by
 intro c s Y H x y v u Q I m o h;obtain⟨a,b,p,z,rfl,rfl,q,hb,A,B,C,D⟩:=h
 by_cases i:p=[]
 ·subst i;cases m;cases o;obtain⟨j,E,G,_⟩:=I.tuple q;obtain⟨d,R,J,_⟩:=I.tuple hb;have L:j=[]:=E.nil_iff.mpr rfl;subst L;obtain⟨⟨cls,M,data,N⟩,r,t,n,hd⟩:=id G;obtain⟨⟨w,k,data2,l⟩,e,f,O,g⟩:=id J;simp only at t hd f g;subst t hd f g;exact concat_meets ⟨_,r,rfl⟩ ⟨_,e,rfl⟩ noFill_tuple_add seq_tuple_add PySem.F.slot_tuple_add PySem.F.entry_tuple_add (PySem.F.args_tuple_add_2 _ _)
   (tuple_addW0 a b [].toArray d.toArray n O M k N l rfl) ⟨r,e,.ref b,H,I,rfl,B rfl⟩
 ·exact FJ c s Y H _ _ v u Q I m o ⟨a,b,p,z,rfl,rfl,q,hb,i,A,C i,D i⟩
end
end L2
namespace L2.L3
open PySem PySem.Spec PyProof.Rows
section
variable{X:Cx}{F:Fx}{a b:Expr}{ta tb:DT}{pos:Pos}
theorem JU{K:Frag}:et (yW K) tH where
 mn:=fun _ _ _ _ k ⟨ds,es,e1,e2,e3,q⟩=>⟨ds,es,e1,e2,e3,k _ q⟩
 ok:=fun O H u v x y Q hO h1 h2 ⟨ds,es,e1,e2,e3,q⟩=>by
  subst e1 e2;obtain⟨a,xs,rfl,ha,hd⟩:=id h1.tup_inv;obtain⟨b,ys,rfl,hb,he⟩:=id h2.tup_inv;refine⟨a,b,xs,ys,rfl,rfl,.inl (gi ha).1,.inl (gi hb).1,by rw[hd.length,he.length];exact e3,fun z=>?_,fun _ z=>?_,fun _ _ p hp=>q _ _ (bZ hp) (tF hp (hO p hp) (hd.append he))⟩
  ·subst z;cases hd;exact q _ H (fun _ _ h=>h) h2
  ·subst z;cases he;rw[List.append_nil] at q;exact q _ H (fun _ _ h=>h) h1
theorem JV(c:DE X F a ta)(d:DE X F b tb):DE X F (.BinOp a .Add b pos) (cM tH ta tb):=iQ JT JU c d
end
end L2.L3
namespace L2
open PySem PySem.Spec PyProof.Rows
section
variable{X:Cx}
theorem yX(a:List Int):∀n,n<=a.length->preSum (fun i=>a.getD i 0) n=(a.take n).sum
 | 0,_=>by rw[List.take_zero];rfl
 | n+1,h=>by rw[preSum,yX a n (by omega),List.take_add_one,List.sum_append,List.getElem?_eq_getElem (by omega)];simp[List.getD,List.getElem?_eq_getElem (show n<a.length by omega)]
theorem JW(D:X.calm=true):eU X (.builtin "sum") (fun m H Q=>∃(l:Addr) (c:List Int),m=[.ref l]/\H l=some (.lst (c.map V.int))/\Q (.int c.sum) H):=by
 intro p s Y H m R Q I r h;obtain⟨l,c,rfl,E,q⟩:=h;obtain⟨u,rfl,G⟩:=vals1 r;cases G;obtain⟨z,d,n,t,e⟩:=I.hok _ _ E;have L:s.heap.IsList l d.toArray:=⟨_,e,rfl,_,rfl⟩
 have a:l<s.heap.objs.size:=ba e;have len:=t.length;rw[List.length_map] at len;refine call_sum_walkG (wpAny_pyIter_list L ?_);refine⟨s.heap.objs.size,_,_,_,_,_,fun i=>c.getD i 0,rfl,Walks.list (A:=X.A.in1) (show X.A.in1.handled=none from I.ok.hd D) s.heap.objs.size l (Nat.ne_of_lt a) d.toArray,⟨⟨_,Heap.get?_push_size _ rfl,rfl,rfl⟩,L.push _⟩,?_,?_,fun S T t' J=>?_⟩
 ·intro b k;rcases List.mem_cons.mp k with rfl | k
  ·show _<(s.heap.push _).objs.size;rw[Heap.size_push];exact Nat.lt_succ_self _
  ·rw[List.mem_singleton.mp k];show _<(s.heap.push _).objs.size;rw[Heap.size_push];exact Nat.lt_succ_of_lt a
 ·intro i v M;have y:d[i]? = some v:=by simpa using M
  have a:i<c.length:=by rw[len];exact(List.getElem?_eq_some_iff.mp y).1
  obtain⟨w,B,f⟩:=t.get (i:=i) (x:=.int c[i]) (by rw[List.getElem?_map,List.getElem?_eq_getElem a];rfl);rw[y] at B;cases B;cases f;rename_i g j;refine⟨g,j.trans ?_⟩
  congr 1
  simp[List.getD,a]
 ·have N:preSum (fun i=>c.getD i 0) d.toArray.size=c.sum:=by rw[List.size_toArray,<-len,yX c _ (aZ _),List.take_length]
  rw[N];exact⟨.int c.sum,H,I.kept fun b o C=>J b o (fun O=>absurd (ba C) (by rw[List.mem_singleton.mp O];exact Nat.lt_irrefl _)) (aS _ C),⟨_,rfl⟩,q⟩
end
end L2
namespace L2.L3
open PySem PySem.Spec PyProof.Rows
section
variable{X:Cx}{F:Fx}{a b:Expr}{ta tb:DT}{pos:Pos}{q:PyData->Prop}
theorem JX(c:DE X F a ta)(d:DE X F b tb):DE X F (.BinOp a .Pow b pos) (cM (fI sJ fun i j=>.int (i ^ j.toNat)) ta tb):=iQ EU (pO fun _ _ _=>.int _) c d
noncomputable def yY:DN:=fun d Q=>∃c:List Int,d=[.list (c.map .int)]/\Q (.int c.sum)
theorem tU{H:Hp}:∀{c:List Int}{vs:List V},aI H vs (c.map PyData.int)->vs=c.map V.int
 | [],_,h=>by cases h;rfl
 | b::r,_,h=>by
  cases h with
  | cons d q=>rw[d.int_inv,tU q];rfl
theorem JY:gk (fun xs H Q=>∃(l:Addr) (ns:List Int),xs=[.ref l]/\H l=some (.lst (ns.map V.int))/\Q (.int ns.sum) H) yY where
 mn:=fun _ _ _ k ⟨bs,e,q⟩=>⟨bs,e,k _ q⟩
 ok:=fun O H vs xs Q hO hd ⟨ns,e,q⟩=>by subst e;obtain⟨x,rfl,h1⟩:=gm hd;obtain⟨a,ys,rfl,ha,hy⟩:=h1.lst_inv;exact⟨a,ns,rfl,by rw[(da ha).1,tU hy],q _ H (fun _ _ h=>h) (.int _)⟩
end
end L2.L3
namespace L2
open PySem PySem.Spec PyProof.Rows
section
variable{X:Cx}
noncomputable def yZ:List V->Hp->VK->Prop:=fun c H Q=>∃(l:Addr) (b:List Int),c=[.ref l]/\H l=some (.lst (b.map V.int))/\b≠[]/\∀M,M∈b->(∀a,a∈b->a<=M)->Q (.int M) H
theorem za(J:X.calm=true):eU X (.builtin "max") yZ:=by
 intro y s Y H xs us Q I r h;obtain⟨l,ns,rfl,M,f,q⟩:=h;obtain⟨u,rfl,N⟩:=vals1 r;cases N;obtain⟨z,d,n,B,e⟩:=I.hok _ _ M;have L:s.heap.IsList l d.toArray:=⟨_,e,rfl,_,rfl⟩
 have c:l<s.heap.objs.size:=ba e;have len:=B.length;rw[List.length_map] at len;have O:0<ns.length:=List.length_pos_iff.mpr f;have at_:∀(i:Nat) (v:Value),d.toArray[i]? = some v->∃t,v=.int (ns.getD i 0) t:=by
  intro i v R;have C:d[i]? = some v:=by simpa using R
  have c:i<ns.length:=by rw[len];exact(List.getElem?_eq_some_iff.mp C).1
  obtain⟨w,D,g⟩:=B.get (i:=i) (x:=.int ns[i]) (by rw[List.getElem?_map,List.getElem?_eq_getElem c];rfl);rw[C] at D;cases D;cases g;rename_i k m;refine⟨k,m.trans ?_⟩
  congr 1
  simp[List.getD,c]
 refine call_max_walk (wpAny_pyIter_list L ?_);refine⟨s.heap.objs.size,_,_,_,_,_,_,rfl,Walks.list (A:=X.A.in1) (show X.A.in1.handled=none from I.ok.hd J) s.heap.objs.size l (Nat.ne_of_lt c) d.toArray,⟨⟨_,Heap.get?_push_size _ rfl,rfl,rfl⟩,L.push _⟩,?_,?_,CmpOf.ints_gt (fun i=>ns.getD i 0) at_,fun v h' tk E S=>?_⟩
 ·intro b p;rcases List.mem_cons.mp p with rfl | p
  ·show _<(s.heap.push _).objs.size;rw[Heap.size_push];exact Nat.lt_succ_self _
  ·rw[List.mem_singleton.mp p];show _<(s.heap.push _).objs.size;rw[Heap.size_push];exact Nat.lt_succ_of_lt c
 ·rw[List.size_toArray,<-len];exact O
 ·rw[List.size_toArray,<-len] at E;obtain⟨t,rfl⟩:=at_ _ _ E;obtain⟨h1,h2⟩:=argBest_gt (fun i=>ns.getD i 0) (ns.length - 1);refine⟨.int _,H,I.kept fun b o G=>S b o (fun T=>absurd (ba G) (by rw[List.mem_singleton.mp T];exact Nat.lt_irrefl _)) (aS _ G),⟨_,rfl⟩,q _ ?_ fun a U=>?_⟩
  ·rw[PySem.getD_at (by omega)];exact List.getElem_mem _
  ·obtain⟨j,Z,rfl⟩:=List.getElem_of_mem U;have:=h2 j (by omega);simp only[PySem.getD_at Z] at this;exact this
end
end L2
namespace L2.L3
open PySem PySem.Spec PyProof.Rows
section
variable{q:PyData->Prop}
noncomputable def zb:DN:=fun c Q=>∃b:List Int,c=[.list (b.map .int)]/\b≠[]/\∀M,M∈b->(∀a,a∈b->a<=M)->Q (.int M)
theorem zc:gk yZ zb where
 mn:=fun _ _ _ k ⟨bs,e,h,q⟩=>⟨bs,e,h,fun M h1 h2=>k _ (q M h1 h2)⟩
 ok:=fun O H vs xs Q hO hd ⟨ns,e,h,q⟩=>by subst e;obtain⟨x,rfl,h1⟩:=gm hd;obtain⟨a,ys,rfl,ha,hy⟩:=h1.lst_inv;exact⟨a,ns,rfl,by rw[(da ha).1,tU hy],h,fun M h1 h2=>q M h1 h2 _ H (fun _ _ h=>h) (.int _)⟩
end
inductive fe (α:Type) where
 | ok (a:α) (U:ao) | ex (c:Str) (U:ao) | bad
@[simp] noncomputable def fe.bind{α β:Type}(o:fe α)(k:α->ao->fe β):fe β:=match o with
 | .ok a U=>k a U
 | .ex c U=>.ex c U
 | .bad=>.bad
@[simp] noncomputable def bn{α:Type}(o:Option α)(U:ao):fe α:=match o with
 | some a=>.ok a U
 | none=>.bad
noncomputable abbrev XM(α:Type):=ao->fe α
noncomputable def wp{α:Type}(E:Str->ao->Prop)(m:XM α):ao->(α->ao->Prop)->Prop:=fun U Q=>match m U with
 | .ok a b=>Q a b
 | .ex c b=>E c b
 | .bad=>False
section
variable{α β:Type}{E:Str->ao->Prop}
theorem az{m:XM α}:∀U (Q e:α->ao->Prop),(∀d b,Q d b->e d b)->wp E m U Q->wp E m U e:=fun U Q e k q=>by
 unfold wp at q ⊢;generalize m U=o at q ⊢;cases o with
 | ok a b=>exact k _ _ q
 | ex c b=>exact q
 | bad=>exact q
theorem bK{m:XM α}{k:α->XM β}{U:ao}{Q:β->ao->Prop}(h:wp E (fun U=>(m U).bind k) U Q):wp E m U fun a b=>wp E (k a) b Q:=by
 unfold wp at h ⊢;unfold fe.bind at h;simp only at h;generalize m U=o at h ⊢;cases o with
 | ok a b=>exact h
 | ex c b=>exact h
 | bad=>exact h
theorem cS{o:Option α}{U:ao}{Q:α->ao->Prop}(h:wp E (bn o) U Q):∃a,o=some a/\Q a U:=by
 unfold wp bn at h;cases o with
 | some a=>exact⟨a,rfl,h⟩
 | none=>exact h.elim
end
section
variable{X:Cx}{F:Fx}{E:Str->ao->Prop}{e a b c:Expr}{es:List Expr}{pos:Pos}
theorem DE.imp{t t':DT}(h:DE X F e t)(d:Mn t')(k:∀U Q,t' U Q->t U Q):DE X F e t':=⟨d,h.pe.imp fun Y H Q ⟨U,O,st,q⟩=>⟨U,O,st,k U _ q⟩⟩
theorem DO.imp{t t':fP}(h:DO X F e t)(d:yq t')(k:∀U Q,t' U Q->t U Q):DO X F e t':=⟨d,h.pe.imp fun Y H Q ⟨U,O,st,q⟩=>⟨U,O,st,k U _ q⟩⟩
theorem DA.imp{t t':cW}(h:DA X F es t)(d:pQ t')(k:∀U Q,t' U Q->t U Q):DA X F es t':=⟨d,h.pa.imp fun Y H Q ⟨U,O,st,q⟩=>⟨U,O,st,k U _ q⟩⟩
theorem DX.imp{t t':fQ}(h:DX X F es t)(d:yw t')(k:∀U Q,t' U Q->t U Q):DX X F es t':=⟨d,h.pa.imp fun Y H Q ⟨U,O,st,q⟩=>⟨U,O,st,k U _ q⟩⟩
theorem DB.imp{t t':cG}(h:DB X F e t)(d:iR t')(k:∀U Q,t' U Q->t U Q):DB X F e t':=⟨d,h.pt.imp fun Y H Q ⟨U,O,st,q⟩=>⟨U,O,st,k U _ q⟩⟩
theorem DW.imp{t t':cG}(h:DW X F e t)(d:iR t')(k:∀U Q,t' U Q->t U Q):DW X F e t':=⟨d,h.pw.imp fun Y H Q ⟨U,O,st,q⟩=>⟨U,O,st,k U _ q⟩⟩
theorem fC.imp{d:List Stmt}{t t':cX}(h:fC X F d t)(k:∀D U,t' D U->t D U):fC X F d t':=PSs.imp h fun D Y H ⟨U,O,g,st,q,f⟩=>⟨U,O,g,st,k g U q,f⟩
theorem DS.imp{s:Stmt}{t t':cX}(h:DS X F s t)(k:∀D U,t' D U->t D U):DS X F s t':=PS.imp h fun D Y H ⟨U,O,d,st,q,f⟩=>⟨U,O,d,st,k d U q,f⟩
abbrev FE(X:Cx)(F:Fx)(E:Str->ao->Prop)(e:Expr)(m:XM PyData):Prop:=DE X F e (wp E m)
abbrev FO(X:Cx)(F:Fx)(E:Str->ao->Prop)(e:Expr)(m:XM aj):Prop:=DO X F e (wp E m)
abbrev FB(X:Cx)(F:Fx)(E:Str->ao->Prop)(e:Expr)(m:XM Bool):Prop:=DB X F e (wp E m)
abbrev FW(X:Cx)(F:Fx)(E:Str->ao->Prop)(e:Expr)(m:XM Bool):Prop:=DW X F e (wp E m)
abbrev FA(X:Cx)(F:Fx)(E:Str->ao->Prop)(es:List Expr)(m:XM (List PyData)):Prop:=DA X F es (wp E m)
abbrev FX(X:Cx)(F:Fx)(E:Str->ao->Prop)(es:List Expr)(m:XM (List AX)):Prop:=DX X F es (wp E m)
abbrev FI(X:Cx)(F:Fx)(E:Str->ao->Prop)(d iter:Expr)(m:XM (List PyData)):Prop:=DI X F d iter (wp E m)
noncomputable abbrev GM:=PyData->ao->Option ao
noncomputable def ff(g:GM):dX:=fun d U Q=>match g d U with
 | some f=>Q f
 | none=>False
abbrev FG(X:Cx)(F:Fx)(d:Expr)(g:GM):Prop:=DG X F d (ff g)
abbrev FS(X:Cx)(F:Fx)(E:Str->ao->Prop)(s:Stmt)(m:SM):Prop:=DS X F s (wpS E m)
abbrev iW(X:Cx)(F:Fx)(E:Str->ao->Prop)(s:List Stmt)(m:SM):Prop:=fC X F s (wpS E m)
@[simp] noncomputable def xC(d:PyData):XM PyData:=fun U=>.ok d U
@[simp] noncomputable def xV(i:Nat):XM PyData:=fun U=>match U[i]? with
 | some (some (.dat d))=>.ok d U
 | some (some (.own false (.l f)))=>.ok (.list f) (U.set i (some (.dat (.list f))))
 | _=>.bad
theorem af{d:PyData}(h:DE X F e (dC d)):FE X F E e (xC d):=h.imp az fun _ _ q=>q
theorem JZ{i:Nat}(h:DE X F e (dV i)):FE X F E e (xV i):=h.imp az fun U Q q=>by
 unfold wp xV at q;unfold dV;cases h:U[i]? with
 | none=>rw[h] at q;exact q.elim
 | some o=>
  rw[h] at q;cases o with
  | none=>exact q.elim
  | some c=>
   cases c with
   | dat d=>exact .inl ⟨d,rfl,q⟩
   | scr n=>exact q.elim
   | exc n=>exact q.elim
   | vw n=>exact q.elim
   | own io f=>
    cases io with
    | true=>exact q.elim
    | false=>
     cases f with
     | l g=>exact .inr ⟨g,rfl,q⟩
     | m _ _=>exact q.elim
     | o _ _=>exact q.elim
     | sd _=>exact q.elim
     | ll _=>exact q.elim
     | pr _ _ _=>exact q.elim
@[simp] noncomputable def ag(g:PyData->PyData->Option PyData)(a b:XM PyData):XM PyData:=fun U=>(a U).bind fun x d=>(b d).bind fun y=>bn (g x y)
def F2(f:D2)(g:PyData->PyData->Option PyData):Prop:=∀x y d Q,g x y=some d->Q d->f x y Q
theorem fD{f:D2}{g:PyData->PyData->Option PyData}{i j:XM PyData}(k:F2 f g)(h:DE X F e (cM f (wp E i) (wp E j))):FE X F E e (ag g i j):=h.imp az fun U Q q=>by refine az _ _ _ (fun x p l=>?_) (bK q);refine az _ _ _ (fun y r m=>?_) (bK l);obtain⟨d,n,o⟩:=cS m;exact k x y d _ n o
@[simp] noncomputable def bt(m:XM PyData):XM Bool:=fun U=>(m U).bind fun d=>bn (match d with | .bool b=>some b | _=>none)
theorem zd{U:ao}{Q:Bool->ao->Prop}{m:XM PyData}(q:wp E (bt m) U Q):eX (wp E m) U Q:=az _ _ _ (fun d i g=>by
 obtain⟨b,f,h⟩:=cS g;cases d with
 | bool j=>cases f;exact⟨_,rfl,h⟩
 | _=>cases f) (bK q)
theorem jC{f:D2}{g:PyData->PyData->Option PyData}{i j:XM PyData}(k:F2 f g)(h:DB X F e (eX (cM f (wp E i) (wp E j)))):FB X F E e (bt (ag g i j)):=h.imp az fun U Q q=>by have l:=zd q;refine az _ _ _ (fun x r m=>?_) (bK l);refine az _ _ _ (fun y s n=>?_) (bK m);obtain⟨d,o,p⟩:=cS n;exact k x y d _ o p
theorem eQ{m:XM PyData}(h:DB X F e (eX (wp E m))):FB X F E e (bt m):=h.imp az fun U Q q=>zd q
@[simp] noncomputable def gI(g:Int->Int->PyData):PyData->PyData->Option PyData:=fun x y=>match x,y with
 | .int i,.int j=>some (g i j)
 | _,_=>none
@[simp] noncomputable def kz(C:Int->Int->Bool)(g:Int->Int->PyData):PyData->PyData->Option PyData:=fun x y=>match x,y with
 | .int i,.int j=>if C i j=true then some (g i j) else none
 | _,_=>none
theorem jD{g:Int->Int->PyData}:F2 (fI (fun _ _=>True) g) (gI g):=fun x y d Q e q=>by
 unfold gI at e;split at e
 ·cases e;exact⟨_,_,rfl,rfl,trivial,q⟩
 ·cases e
theorem pU{C:Int->Int->Bool}{P:Int->Int->Prop}{g:Int->Int->PyData}(h:∀i j,C i j=true->P i j):F2 (fI P g) (kz C g):=fun x y d Q e q=>by
 unfold kz at e;split at e
 ·split at e
  ·rename_i f;cases e;exact⟨_,_,rfl,rfl,h _ _ f,q⟩
  ·cases e
 ·cases e
noncomputable def iX(i j:Int):Bool:=(decide (-(2 ^ 64)<i)&&decide (i<2 ^ 64))||(decide (-(2 ^ 64)<j)&&decide (j<2 ^ 64))
noncomputable def kA(_ j:Int):Bool:=decide (0<j)&&decide (j<1073741824)
noncomputable def nC(_ j:Int):Bool:=decide (0<j)
noncomputable def pV(i j:Int):Bool:=decide (0<=j)&&decide (j<=1000000)&&decide (i.natAbs<2 ^ 64)
theorem Ka(i j:Int)(h:iX i j=true):mV i j:=by unfold iX at h;simp only[Bool.or_eq_true,Bool.and_eq_true,decide_eq_true_eq] at h;exact h
theorem Kb(i j:Int)(h:kA i j=true):sI i j:=by unfold kA at h;simp only[Bool.and_eq_true,decide_eq_true_eq] at h;exact h
theorem Kc(i j:Int)(h:nC i j=true):0<j:=by unfold nC at h;simpa using h
theorem Kd(i j:Int)(h:pV i j=true):sJ i j:=by unfold pV at h;simp only[Bool.and_eq_true,decide_eq_true_eq] at h;exact⟨h.1.1,h.1.2,h.2⟩
noncomputable def aT(neg:Bool):PyData->PyData->Option PyData:=fun x y=>if (SeqAt.shaped x&&SeqAt.shaped y)=true then some (.bool (PyData.eqv x y != neg)) else none
theorem tV{neg:Bool}:F2 (nq neg) (aT neg):=fun x y d Q e q=>by
 unfold aT at e;split at e
 ·rename_i h;cases e;exact⟨(Bool.and_eq_true_iff.mp h).1,(Bool.and_eq_true_iff.mp h).2,q⟩
 ·cases e
@[simp] noncomputable def iY:PyData->PyData->Option PyData:=fun x y=>match y with | .none=>some (.bool (isNone x)) | _=>none
@[simp] noncomputable def gM:PyData->PyData->Option PyData:=fun x y=>match y with | .none=>some (.bool (!isNone x)) | _=>none
theorem ze:F2 pP iY:=fun x y d Q e q=>by
 unfold iY at e;split at e
 ·cases e;exact⟨rfl,q⟩
 ·cases e
theorem Ke:F2 tE gM:=fun x y d Q e q=>by
 unfold gM at e;split at e
 ·cases e;exact⟨rfl,q⟩
 ·cases e
@[simp] noncomputable def iZ:PyData->PyData->Option PyData:=fun x y=>match x,y with
 | .list d,.list es=>if d.length+es.length<=sizeLine then some (.list (d++es)) else none
 | _,_=>none
@[simp] noncomputable def nE:PyData->PyData->Option PyData:=fun x y=>match x,y with
 | .tuple d,.tuple es=>if d.length+es.length<=sizeLine then some (.tuple (d++es)) else none
 | _,_=>none
theorem Kf:F2 tG iZ:=fun x y d Q e q=>by
 unfold iZ at e;split at e
 ·split at e
  ·rename_i h;cases e;exact⟨_,_,rfl,rfl,h,q⟩
  ·cases e
 ·cases e
theorem Kg:F2 tH nE:=fun x y d Q e q=>by
 unfold nE at e;split at e
 ·split at e
  ·rename_i h;cases e;exact⟨_,_,rfl,rfl,h,q⟩
  ·cases e
 ·cases e
@[simp] noncomputable def kB(a:XM PyData):XM PyData:=fun U=>(a U).bind fun d=>bn (match d with | .int i=>some (.int (-i)) | _=>none)
theorem nF{f:XM PyData}(h:FE X F E a f):FE X F E (.UnaryOp .USub a pos) (kB f):=(Hv h).imp az fun U Q q=>az _ _ _ (fun d l j=>by
 obtain⟨y,g,k⟩:=cS j;cases d with
 | int i=>cases g;exact⟨i,rfl,k⟩
 | _=>cases g) (bK q)
@[simp] noncomputable def zf(a:XM PyData):XM PyData:=fun U=>(a U).bind fun d=>bn (match d with | .bool b=>some (.bool (!b)) | _=>none)
theorem Kh{f:XM PyData}(h:FE X F E a f):FE X F E (.UnaryOp .Not a pos) (zf f):=(Hx h).imp az fun U Q q=>az _ _ _ (fun d k i=>by
 obtain⟨y,g,j⟩:=cS i;cases d with
 | bool b=>cases g;exact⟨b,rfl,j⟩
 | _=>cases g) (bK q)
@[simp] noncomputable def zg(b:XM PyData)(d:PyData):XM PyData:=fun f=>match d with
 | .bool true=>b f
 | .bool false=>.ok (.bool false) f
 | _=>.bad
@[simp] noncomputable def zh(b:XM PyData)(d:PyData):XM PyData:=fun f=>match d with
 | .bool true=>.ok (.bool true) f
 | .bool false=>b f
 | _=>.bad
@[simp] noncomputable def eR(a b:XM PyData):XM PyData:=fun U=>(a U).bind (zg b)
@[simp] noncomputable def nG(a b:XM PyData):XM PyData:=fun U=>(a U).bind (zh b)
theorem fg{rest:List Expr}{h f:XM PyData}(i:FE X F E a h)(j:FE X F E (.BoolOp .And (b::rest) pos) f):FE X F E (.BoolOp .And (a::b::rest) pos) (eR h f):=(HB i j).imp az fun U Q q=>az _ _ _ (fun d l g=>by
 cases d with
 | bool b=>cases b with
  | true=>exact⟨true,rfl,dP g⟩
  | false=>exact⟨false,rfl,dO g⟩
 | _=>exact g.elim) (bK (k:=zg f) q)
theorem pW{rest:List Expr}{h f:XM PyData}(i:FE X F E a h)(j:FE X F E (.BoolOp .Or (b::rest) pos) f):FE X F E (.BoolOp .Or (a::b::rest) pos) (nG h f):=(HC i j).imp az fun U Q q=>az _ _ _ (fun d l g=>by
 cases d with
 | bool b=>cases b with
  | true=>exact⟨true,rfl,dP g⟩
  | false=>exact⟨false,rfl,dO g⟩
 | _=>exact g.elim) (bK (k:=zh f) q)
theorem fE{op}{d:XM PyData}(h:FE X F E a d):FE X F E (.BoolOp op [a] pos) d:=HA h
@[simp] noncomputable def tW(p f:Int->Int->Bool)(a b c:XM PyData):XM PyData:=fun U=>(a U).bind fun x g=>(b g).bind fun y d=>match x,y with
 | .int i,.int j=>if p i j=true then(c d).bind (fun z=>bn (match z with | .int k=>some (.bool (f j k)) | _=>none)) else .ok (.bool false) d
 | _,_=>.bad
theorem Ki{p l:Int->Int->Bool}{o r n:XM PyData}(h:DE X F e (tI p l (wp E o) (wp E r) (wp E n))):FE X F E e (tW p l o r n):=h.imp az fun U Q q=>by
 refine az _ _ _ (fun x w t=>?_) (bK q);refine az _ _ _ (fun y A f=>?_) (bK t);unfold wp at f;cases x with
 | int i=>cases y with
  | int j=>
   refine⟨i,j,rfl,rfl,?_⟩
   by_cases g:p i j=true
   ·simp only[if_pos g] at f;rw[if_pos g];refine az _ _ _ (fun z B u=>?_) (bK (m:=n) (k:=fun z=>bn (match z with | .int k=>some (PyData.bool (l j k)) | _=>none)) f);obtain⟨d,s,v⟩:=cS u;cases z with
    | int k=>cases s;exact⟨k,rfl,v⟩
    | _=>cases s
   ·simp only[if_neg g] at f;rw[if_neg g];exact f
  | _=>exact f.elim
 | _=>exact f.elim
@[simp] noncomputable def gn(a:XM Bool):XM Bool:=fun U=>(a U).bind fun b d=>.ok (!b) d
theorem gO{f:XM Bool}(h:FB X F E a f):FB X F E (.UnaryOp .Not a pos) (gn f):=(HF h).imp az fun U Q q=>az _ _ _ (fun d g i=>i) (bK (k:=fun b g=>.ok (!b) g) q)
@[simp] noncomputable def tZ(a b:XM Bool):XM Bool:=fun U=>(a U).bind fun x d=>if x=true then b d else .ok false d
@[simp] noncomputable def kC(a b:XM Bool):XM Bool:=fun U=>(a U).bind fun x d=>if x=true then .ok true d else b d
theorem zi{d:XM Bool}(h:FB X F E a d):FW X F E (.BoolOp .And [a] pos) d:=HJ h
theorem nH{d:XM Bool}(h:FB X F E a d):FW X F E (.BoolOp .Or [a] pos) d:=HK h
theorem zj{rest:List Expr}{h f:XM Bool}(j:FB X F E a h)(l:FW X F E (.BoolOp .And (b::rest) pos) f):FW X F E (.BoolOp .And (a::b::rest) pos) (tZ h f):=(HL j l).imp az fun U Q q=>az _ _ _ (fun d g i=>by
 cases d with
 | true=>exact dP i
 | false=>exact dO i) (bK (k:=fun x g=>if x=true then f g else .ok false g) q)
theorem nI{rest:List Expr}{h f:XM Bool}(j:FB X F E a h)(l:FW X F E (.BoolOp .Or (b::rest) pos) f):FW X F E (.BoolOp .Or (a::b::rest) pos) (kC h f):=(HM j l).imp az fun U Q q=>az _ _ _ (fun d g i=>by
 cases d with
 | true=>exact dP i
 | false=>exact dO i) (bK (k:=fun x g=>if x=true then .ok true g else f g) q)
theorem jE{d:XM Bool}(h:FW X F E e d):FB X F E e d:=h.db
@[simp] noncomputable def pX{α:Type}(t:XM Bool)(a b:XM α):XM α:=fun U=>(t U).bind fun x d=>if x=true then a d else b d
theorem ua{mt:XM Bool}{f g:XM PyData}(j:FB X F E c mt)(l:FE X F E a f)(m:FE X F E b g):FE X F E (.IfExp c a b pos) (pX mt f g):=(HP j l m).imp az fun U Q q=>az _ _ _ (fun d h i=>by
 cases d with
 | true=>exact dP i
 | false=>exact dO i) (bK (k:=fun x h=>if x=true then f h else g h) q)
@[simp] noncomputable def bu:XM (List PyData):=fun U=>.ok [] U
@[simp] noncomputable def aG(a:XM PyData)(r:XM (List PyData)):XM (List PyData):=fun U=>(a U).bind fun d f=>(r f).bind fun g h=>.ok (d::g) h
theorem bA:FA X F E [] bu:=Hn.imp az fun _ _ q=>q
theorem Kj{i:XM PyData}{h:XM (List PyData)}(l:FE X F E e i)(m:FA X F E es h)(n:starEach (e::es) X.env=(false,eval e X.env)::starEach es X.env:=by rfl):FA X F E (e::es) (aG i h):=(Ho l m n).imp az fun U Q q=>az _ _ _ (fun d j o=>az _ _ _ (fun f g p=>p) (bK (k:=fun f g=>.ok (d::f) g) o)) (bK (k:=fun d j=>(h j).bind fun f g=>.ok (d::f) g) q)
@[simp] noncomputable def ea(a:XM (List PyData)):XM PyData:=fun U=>(a U).bind fun d=>bn (if d.length<=sizeLine then some (.tuple d) else none)
@[simp] noncomputable def fS(a:XM (List PyData)):XM PyData:=fun U=>(a U).bind fun d=>bn (if d.length<=sizeLine then some (.list d) else none)
theorem ez{i}{g:XM (List PyData)}(h:FA X F E es g):FE X F E (.Tuple es i pos) (ea g):=(Hs h).imp az fun U Q q=>az _ _ _ (fun l m j=>by
 obtain⟨d,f,k⟩:=cS j;split at f
 ·rename_i h;cases f;exact⟨h,k⟩
 ·cases f) (bK q)
theorem gp{g:XM (List PyData)}(h:FA X F E es g):FE X F E (.List es pos) (fS g):=(Ht h).imp az fun U Q q=>az _ _ _ (fun k l i=>by
 obtain⟨d,f,j⟩:=cS i;split at f
 ·rename_i h;cases f;exact⟨h,j⟩
 ·cases f) (bK q)
@[simp] noncomputable def ec(g:List PyData->Option PyData)(a:XM (List PyData)):XM PyData:=fun U=>(a U).bind fun d=>bn (g d)
def FN(f:DN)(g:List PyData->Option PyData):Prop:=∀h d Q,g h=some d->Q d->f h Q
theorem fi{f:DN}{g:List PyData->Option PyData}{i:XM (List PyData)}(j:FN f g)(h:DE X F e (ku f (wp E i))):FE X F E e (ec g i):=h.imp az fun U Q q=>az _ _ _ (fun k o l=>by
 obtain⟨d,m,n⟩:=cS l;exact j k d _ m n) (bK q)
end
section
variable{X:Cx}{F:Fx}{E:Str->ao->Prop}{e a b c:Expr}{es:List Expr}{st:Stmt}{rest:List Stmt}{pos:Pos}{x:Str}
@[simp] noncomputable def kD:List PyData->Option PyData:=fun f=>match f with
 | [.list d]=>some (.int d.length)
 | [.tuple d]=>some (.int d.length)
 | _=>none
theorem pY:FN yH kD:=fun f d Q e q=>by
 unfold kD at e;split at e
 ·cases e;exact⟨_,.inl rfl,q⟩
 ·cases e;exact⟨_,.inr rfl,q⟩
 ·cases e
@[simp] noncomputable def nJ:List PyData->Option PyData:=fun d=>match d with
 | [.int i,.int j]=>some (.int (max i j))
 | _=>none
theorem ub:FN yI nJ:=fun f d Q e q=>by
 unfold nJ at e;split at e
 ·cases e;exact⟨_,_,rfl,q⟩
 ·cases e
noncomputable def ints?:List PyData->Option (List Int)
 | []=>some []
 | .int i::r=>(ints? r).map (i::·)
 | _::_=>none
noncomputable def bools?:List PyData->Option (List Bool)
 | []=>some []
 | .bool i::r=>(bools? r).map (i::·)
 | _::_=>none
theorem uc:∀{g:List PyData}{f:List Int},ints? g=some f->g=f.map .int
 | [],_,e=>by cases e;rfl
 | d::r,f,e=>by
  cases d with
  | int i=>
   cases q:ints? r with
   | none=>simp[ints?,q] at e
   | some l=>simp[ints?,q] at e;subst e;rw[uc q];rfl
  | _=>cases e
theorem zk:∀{g:List PyData}{f:List Bool},bools? g=some f->g=f.map .bool
 | [],_,e=>by cases e;rfl
 | d::r,f,e=>by
  cases d with
  | bool i=>
   cases q:bools? r with
   | none=>simp[bools?,q] at e
   | some l=>simp[bools?,q] at e;subst e;rw[zk q];rfl
  | _=>cases e
theorem pZ(d:List Int):ints? (d.map .int)=some d:=by
 induction d with
 | nil=>rfl
 | cons i r f=>simp[ints?,f]
noncomputable def kE:List PyData->Option PyData:=fun d=>match d with
 | [.list f]=>(bools? f).map fun bs=>.bool (bs.all id)
 | _=>none
theorem Kk:FN yJ kE:=fun h d Q e q=>by
 unfold kE at e;split at e
 ·obtain⟨bs,f,g⟩:=Option.map_eq_some_iff.mp e;rw[zk f];subst g;exact⟨bs,rfl,q⟩
 ·cases e
noncomputable def nK:List PyData->Option PyData:=fun d=>match d with
 | [.list f]=>(ints? f).map fun g=>.int g.sum
 | _=>none
theorem Kl:FN yY nK:=fun h d Q e q=>by
 unfold nK at e;split at e
 ·obtain⟨bs,f,g⟩:=Option.map_eq_some_iff.mp e;rw[uc f];subst g;exact⟨bs,rfl,q⟩
 ·cases e
noncomputable def ud:List Int->Option Int
 | []=>none
 | i::r=>some (r.foldl max i)
theorem Km(r:List Int):∀i,i<=r.foldl max i/\(∀a∈r,a<=r.foldl max i)/\(r.foldl max i=i\/r.foldl max i∈r):=by
 induction r with
 | nil=>intro i;exact⟨Int.le_refl _,fun a h=>(by cases h),.inl rfl⟩
 | cons j r f=>
  intro i;obtain⟨d,h2,h3⟩:=f (max i j);refine⟨Int.le_trans (Int.le_max_left _ _) d,fun a h=>?_,?_⟩
  ·rcases List.mem_cons.mp h with rfl | h
   ·exact Int.le_trans (Int.le_max_right _ _) d
   ·exact h2 a h
  ·rcases h3 with h3 | h3
   ·rw[List.foldl_cons,h3];rcases Int.le_total i j with q | q
    ·exact .inr (by rw[Int.max_eq_right q];exact List.mem_cons_self)
    ·exact .inl (Int.max_eq_left q)
   ·exact .inr (bq _ h3)
noncomputable def jb:List PyData->Option PyData:=fun d=>match d with
 | [.list f]=>((ints? f).bind ud).map .int
 | _=>none
theorem Kn:∀g d (Q:PyData->Prop),jb g=some d->Q d->∃f:List Int,g=[.list (f.map .int)]/\f≠[]/\∃M,d=.int M/\M∈f/\(∀a∈f,a<=M):=fun o d Q e q=>by
 unfold jb at e;split at e
 ·obtain⟨M,k,l⟩:=Option.map_eq_some_iff.mp e;obtain⟨f,m,j⟩:=Option.bind_eq_some_iff.mp k;cases f with
  | nil=>cases j
  | cons i r=>
   cases j;obtain⟨n,h2,h3⟩:=Km r i;refine⟨i::r,by rw[uc m],by simp,_,l.symm,?_,fun a h=>?_⟩
   ·rcases h3 with h3 | h3
    ·rw[h3];exact List.mem_cons_self
    ·exact bq _ h3
   ·rcases List.mem_cons.mp h with rfl | h
    ·exact n
    ·exact h2 a h
 ·cases e
theorem zm:FN zb jb:=fun g d Q e q=>by obtain⟨l,h1,h2,M,h3,h,i⟩:=Kn g d Q e q;refine⟨l,h1,h2,fun f j k=>?_⟩;have:f = M:=Int.le_antisymm (i f j) (k M h);rw[this,<-h3];exact q
@[simp] noncomputable def qa(i:Nat):XM PyData:=fun U=>match U[i]? with
 | some (some (.scr ns))=>if ns.length<=63 then .ok (.int ns.length) U else .bad
 | _=>.bad
@[simp] noncomputable def qb(i:Nat)(a:XM PyData):XM PyData:=fun U=>match U[i]? with
 | some (some (.scr ns))=>(a U).bind fun d=>bn (match d with | .int k=>(cu ns k).map .int | _=>none)
 | _=>.bad
@[simp] noncomputable def ue(i:Nat):XM Bool:=fun U=>match U[i]? with
 | some (some (.scr ns))=>.ok (decide (ns=[])) U
 | _=>.bad
theorem zn{i:Nat}(h:DE X F e (yO i)):FE X F E e (qa i):=h.imp az fun U Q q=>by
 unfold wp qa at q;cases h:U[i]? with
 | none=>rw[h] at q;exact q.elim
 | some o=>
  rw[h] at q;cases o with
  | none=>exact q.elim
  | some c=>
   cases c with
   | scr ns=>
    simp only at q
    by_cases d:ns.length<=63
    ·rw[if_pos d] at q;exact⟨ns,h,fun _=>q⟩
    ·rw[if_neg d] at q;exact q.elim
   | _=>exact q.elim
theorem zp{i:Nat}{f:XM PyData}(h:DE X F e (yQ i (wp E f))):FE X F E e (qb i f):=h.imp az fun U Q q=>by
 unfold wp qb at q;cases h:U[i]? with
 | none=>rw[h] at q;exact q.elim
 | some o=>
  rw[h] at q;cases o with
  | none=>exact q.elim
  | some c=>
   cases c with
   | scr ns=>
    refine⟨ns,h,az _ _ _ (fun d s j=>?_) (bK (m:=f) (k:=fun d=>bn (match d with | .int k=>(cu ns k).map PyData.int | _=>none)) q)⟩;obtain⟨y,g,l⟩:=cS j;cases d with
    | int k=>obtain⟨n,p,r⟩:=Option.map_eq_some_iff.mp g;subst r;exact⟨k,n,rfl,p,l⟩
    | _=>cases g
   | _=>exact q.elim
theorem Ko{i:Nat}(h:DB X F e (yT i)):FB X F E e (ue i):=h.imp az fun U Q q=>by
 unfold wp ue at q;cases h:U[i]? with
 | none=>rw[h] at q;exact q.elim
 | some o=>
  rw[h] at q;cases o with
  | none=>exact q.elim
  | some c=>
   cases c with
   | scr ns=>exact⟨ns,h,q⟩
   | _=>exact q.elim
@[simp] noncomputable def ay(i:Nat):GM:=fun d U=>some (U.set i (some (.dat d)))
theorem Kp{i:Nat}(h:DG X F e (gN i)):FG X F e (ay i):=⟨fun d U Q f k q=>k _ q,h.pg.imp fun v Y H Q ⟨U,O,d,st,hd,q⟩=>⟨U,O,d,st,hd,q⟩⟩
noncomputable abbrev iz:=List PyData->ao->Option ao
noncomputable def kF(g:iz):iU:=fun d U Q=>match g d U with
 | some f=>Q f
 | none=>False
abbrev qc(X:Cx)(F:Fx)(d:List Expr)(g:iz):Prop:=nu X F d (kF g)
@[simp] noncomputable def dQ:iz:=fun d U=>match d with | []=>some U | _=>none
@[simp] noncomputable def cp(t:GM)(u:iz):iz:=fun f U=>match f with | d::r=>(t d U).bind fun g=>u r g | []=>none
theorem Kq{g:GM}:∀d U (Q f:ao->Prop),(∀h,Q h->f h)->ff g d U Q->ff g d U f:=fun d U Q f k q=>by
 unfold ff at q ⊢;generalize g d U=o at q ⊢;cases o with
 | some h=>exact k _ q
 | none=>exact q
theorem zq{g:iz}:∀d U (Q f:ao->Prop),(∀h,Q h->f h)->kF g d U Q->kF g d U f:=fun d U Q f k q=>by
 unfold kF at q ⊢;generalize g d U=o at q ⊢;cases o with
 | some h=>exact k _ q
 | none=>exact q
theorem jF:qc X F [] dQ:=⟨zq,Io.pg.imp fun v Y H Q ⟨U,O,d,st,hd,q⟩=>⟨U,O,d,st,hd,by
 unfold kF dQ at q;cases d with
 | nil=>exact⟨rfl,q⟩
 | cons _ _=>exact q.elim⟩⟩
theorem eE{g:GM}{f:iz}(j:FG X F e g)(k:qc X F es f)(i:(assignEach (e::es) X.env).map (·.2)=assign e X.env::(assignEach es X.env).map (·.2):=by rfl):qc X F (e::es) (cp g f):=⟨zq,(Ip j k i).pg.imp fun v Y H Q ⟨U,O,d,st,hd,q⟩=>⟨U,O,d,st,hd,by
 unfold kF cp at q;cases d with
 | nil=>exact q.elim
 | cons d r=>
  refine⟨d,r,rfl,?_⟩;unfold ff;simp only at q;cases h:g d U with
  | none=>rw[h] at q;exact q
  | some l=>rw[h] at q;exact q⟩⟩
@[simp] noncomputable def dR(n:Nat)(t:iz):GM:=fun d U=>match d with | .tuple f=>if f.length=n then t f U else none | _=>none
theorem jG{k n:Nat}{i:iz}(l:X.calm=true)(h:qc X F es i)(m:(assignEach es X.env).length=n:=by rfl)(f:(assignEach es X.env).findIdx? (·.1)=none:=by rfl):FG X F (.Tuple es k pos) (dR n i):=⟨Kq,(Ir l h m f).pg.imp fun v Y H Q ⟨U,O,d,st,hd,q⟩=>⟨U,O,d,st,hd,by
 unfold ff dR at q;cases d with
 | tuple j=>
  simp only at q
  by_cases g:j.length=n
  ·rw[if_pos g] at q;exact⟨j,rfl,g,q⟩
  ·rw[if_neg g] at q;exact q.elim
 | _=>exact q.elim⟩⟩
@[simp] noncomputable def aJ:XM (List AX):=fun U=>.ok [] U
@[simp] noncomputable def ak(a:XM PyData)(r:XM (List AX)):XM (List AX):=fun U=>(a U).bind fun d f=>(r f).bind fun as g=>.ok (.d d::as) g
@[simp] noncomputable def ca(j:Nat)(r:XM (List AX)):XM (List AX):=fun U=>match U[j]? with
 | some (some _)=>(r U).bind fun as d=>.ok (.s j::as) d
 | _=>.bad
theorem aK:FX X F E [] aJ:=IU.imp az fun _ _ q=>q
theorem Kr{g:XM PyData}{h:XM (List AX)}(j:FE X F E e g)(l:FX X F E es h)(n:starEach (e::es) X.env=(false,eval e X.env)::starEach es X.env:=by rfl):FX X F E (e::es) (ak g h):=(IW j l n).imp az fun U Q q=>az _ _ _ (fun d i o=>az _ _ _ (fun r f p=>p) (bK (k:=fun as f=>fe.ok (AX.d d::as) f) o)) (bK (m:=g) (k:=fun d i=>(h i).bind fun as f=>fe.ok (AX.d d::as) f) q)
theorem Ks{p:Pos}{j:Nat}{d:XM (List AX)}(g:PE X (.Name x p) (dN j))(i:FX X F E es d)(l:starEach (.Name x p::es) X.env=(false,eval (.Name x p) X.env)::starEach es X.env:=by rfl):FX X F E (.Name x p::es) (ca j d):=(IX g i l).imp az fun U Q q=>by
 unfold wp ca at q;cases h:U[j]? with
 | none=>rw[h] at q;exact q.elim
 | some o=>
  rw[h] at q;cases o with
  | none=>exact q.elim
  | some c=>exact⟨⟨c,h⟩,az _ _ _ (fun as f n=>n) (bK (m:=d) (k:=fun as f=>fe.ok (AX.s j::as) f) (show wp E (fun U=>(d U).bind fun as f=>fe.ok (AX.s j::as) f) U Q from q))⟩
@[simp] noncomputable def uf(f:FM)(as:List AX):XM aj:=fun U=>match gl U as with
 | some (cs,g)=>(match f cs with
  | .rt c d=>.ok c (cY g d (fc g U))
  | .ex c d=>.ex c (cY g d (fc g U))
  | .bad=>.bad)
 | none=>.bad
@[simp] noncomputable def aH(f:FM)(a:XM (List AX)):XM aj:=fun U=>(a U).bind (uf f)
theorem Kt{g:FM}{j:XM (List AX)}(h:DO X F e (yz g E (wp E j))):FO X F E e (aH g j):=h.imp az fun U Q q=>az _ _ _ (fun as m d=>by
 unfold wp uf at d;unfold iV;cases l:gl m as with
 | none=>rw[l] at d;exact d
 | some p=>
  obtain⟨cs,n⟩:=p;rw[l] at d;simp only at d ⊢;cases i:g cs with
  | rt c f=>rw[i] at d;exact d
  | ex c f=>rw[i] at d;exact d
  | bad=>rw[i] at d;exact d) (bK (k:=uf g) q)
@[simp] noncomputable def bf(a:XM aj):XM PyData:=fun U=>(a U).bind fun c=>bn (frz c)
theorem bg{d:XM aj}(h:FO X F E e d):FE X F E e (bf d):=h.de.imp az fun U Q q=>az _ _ _ (fun c g f=>cS f) (bK q)
@[simp] noncomputable def cw:SM:=fun U=>.nx U
@[simp] noncomputable def aB(m k:SM):SM:=fun U=>match m U with
 | .nx d=>k d
 | o=>o
theorem cB:iW X F E [] cw:=Ix.imp fun _ _ q=>q
theorem aE{m k:SM}(d:FS X F E st m)(f:iW X F E rest k):iW X F E (st::rest) (aB m k):=(Iy d f).imp fun D U q=>by
 show wpS E m _ U;unfold wpS aB at q;unfold wpS;generalize m U=o at q ⊢;cases o with
 | nx g=>exact q
 | _=>exact q
theorem aN{m:SM}(h:FS X F E st m):iW X F E [st] m:=Iz h
@[simp] noncomputable def ed{α:Type}(o:fe α)(k:α->ao->eP):eP:=match o with
 | .ok a U=>k a U
 | .ex c U=>.ex c U
 | .bad=>.bad
theorem fT{α:Type}{m:XM α}{k:α->SM}{D:dY}{U:ao}(q:wpS E (fun U=>ed (m U) k) D U):wp E m U fun a d=>wpS E (k a) D d:=by
 unfold wpS ed at q;unfold wp;simp only at q;generalize m U=o at q ⊢;cases o with
 | ok a d=>exact q
 | ex c d=>exact q
 | bad=>exact q
@[simp] noncomputable def ug(o:Option ao):eP:=match o with
 | some U=>.nx U
 | none=>.bad
@[simp] noncomputable def bF(m:XM PyData)(g:GM):SM:=fun U=>ed (m U) fun d f=>ug (g d f)
theorem uh{m:XM PyData}{g:GM}{D:dY}{U:ao}(q:wpS E (bF m g) D U):pR (wp E m) (ff g) D U:=az _ _ _ (fun d h f=>by
 unfold wpS ug at f;unfold ff;simp only at f;generalize g d h=o at f ⊢;cases o with
 | some i=>exact f
 | none=>exact f) (fT (k:=fun d h=>ug (g d h)) q)
theorem zu{d:Expr}{m:XM PyData}{g:GM}(f:FE X F E e m)(h:FG X F d g)(i:swapsWithSole [d] e pos.line X.env=pure false:=by rfl)(j:swappedStores [d] e X.env=pure none:=by rfl)
  (k:(assignEach [d] X.env).map (·.2)=[assign d X.env]:=by rfl):FS X F E (.Assign [d] e pos) (bF m g):=(IA f h i j k).imp fun D U q=>uh q
theorem bQ{i:Nat}{d:Pos}{m:XM PyData}(f:X.N.Nodup)(g:X.N[i]? = some x)(h:Loc X.env.scope x)(j:FE X F E e m)(k:swapsWith e (some (.Name x d)) pos.line X.env=pure false:=by rfl)
  (l:X.fn x=true\/X.env.scope.names.lookup x=some .local:=by first | exact .inl rfl | exact .inr rfl | assumption):FS X F E (.Assign [.Name x d] e pos) (bF m (ay i)):=(IB f g h j k l).imp fun D U q=>uh q
@[simp] noncomputable def ui(i:Nat)(c:aj):SM:=fun d=>if i<d.length then(match c with | .own true _=>.bad | c=>.nx (d.set i (some c))) else .bad
@[simp] noncomputable def jH(i:Nat)(m:XM aj):SM:=fun U=>ed (m U) (ui i)
theorem kG{i:Nat}{g:Pos}{m:XM aj}(j:X.N.Nodup)(l:X.N[i]? = some x)(n:Loc X.env.scope x)(o:FO X F E e m)(p:swapsWith e (some (.Name x g)) pos.line X.env=pure false:=by rfl)
  (r:X.fn x=true\/X.env.scope.names.lookup x=some .local:=by first | exact .inl rfl | exact .inr rfl | assumption):FS X F E (.Assign [.Name x g] e pos) (jH i m):=(II j l n o p r).imp fun D U q=>az _ _ _ (fun c s f=>by
 unfold wpS ui at f
 by_cases h:i<s.length
 ·simp only[if_pos h] at f;cases c with
  | own io b=>cases io with
   | true=>exact f.elim
   | false=>exact⟨h,(fun _ z=>by cases z),f⟩
  | dat d=>exact⟨h,(fun _ z=>by cases z),f⟩
  | scr d=>exact⟨h,(fun _ z=>by cases z),f⟩
  | exc d=>exact⟨h,(fun _ z=>by cases z),f⟩
  | vw d=>exact⟨h,(fun _ z=>by cases z),f⟩
 ·simp only[if_neg h] at f) (fT (k:=ui i) q)
@[simp] noncomputable def bM(m:XM PyData):SM:=fun U=>ed (m U) fun d f=>.rt (.dat d) f
@[simp] noncomputable def jc(m:XM aj):SM:=fun U=>ed (m U) fun c d=>.rt c d
@[simp] noncomputable def eF(m:XM aj):SM:=fun U=>ed (m U) fun _ d=>.nx d
theorem bN{m:XM PyData}(g:FE X F E e m):FS X F E (.Return (some e) pos) (bM m):=(yt g).imp fun D U q=>az _ _ _ (fun c f h=>h) (fT (k:=fun d f=>.rt (.dat d) f) q)
theorem jI{m:XM aj}(g:FO X F E e m):FS X F E (.Return (some e) pos) (jc m):=(IE g).imp fun D U q=>az _ _ _ (fun c f h=>h) (fT (k:=fun d f=>.rt d f) q)
theorem eS{m:XM aj}(f:FO X F E e m)(g:swapsWith e none pos.line X.env=pure false:=by rfl):FS X F E (.Expr e pos) (eF m):=(IK f g).imp fun D U q=>az _ _ _ (fun c d h=>h) (fT (k:=fun _ d=>.nx d) q)
@[simp] noncomputable def qd(i:Nat):SM:=fun U=>match U[i]? with
 | some (some (.own false b))=>.rt (.own false b) (U.set i none)
 | some (some (.dat d))=>.rt (.dat d) U
 | _=>.bad
@[simp] noncomputable def cx(t:XM Bool)(a b:SM):SM:=fun U=>ed (t U) fun x d=>if x=true then a d else b d
theorem cC{d:Expr}{j l:List Stmt}{mt:XM Bool}{f g:SM}(m:FB X F E d mt)(n:iW X F E j f)(o:iW X F E l g):FS X F E (.If d j l pos) (cx mt f g):=(IM m n o).imp fun D U q=>az _ _ _ (fun x h i=>by
 cases x with
 | true=>exact dP i
 | false=>exact dO i) (fT (k:=fun x h=>if x=true then f h else g h) q)
@[simp] noncomputable def kH(i:Nat)(m:XM PyData)(g:Int->Int->Int):SM:=fun U=>match U[i]? with
 | some (some (.dat (.int k)))=>ed (m U) fun d f=>(match d with | .int l=>.nx (f.set i (some (.dat (.int (g k l))))) | _=>.bad)
 | _=>.bad
end
noncomputable def cy(d n:String):Option Bool:=if d=n then some true else
 if d="bool"/\n="int" then some true else
 if (d="int"\/d="bool"\/d="str"\/d="list"\/d="tuple"\/d="NoneType")/\(n="int"\/n="bool"\/n="str"\/n="list"\/n="tuple") then some false else none
theorem Ku{d n:String}{b:Bool}(h:cy d n=some b)(K:Frag):kitOne K (.type d) (.type n)=some b:=by
 unfold cy at h;split at h
 ·rename_i e;cases h;subst e;unfold kitOne;rw[if_pos (by simp)]
 ·split at h
  ·rename_i e;cases h;obtain⟨rfl,rfl⟩:=e;rfl
  ·rename_i a c;split at h
   ·rename_i e;cases h;obtain⟨f,g⟩:=e;rcases f with rfl | rfl | rfl | rfl | rfl | rfl<;>rcases g with rfl | rfl | rfl | rfl | rfl<;>first | rfl | (exact absurd rfl a) | (exact absurd ⟨rfl,rfl⟩ c)
   ·cases h
@[simp] noncomputable def iA(n:String)(a:XM PyData):XM PyData:=fun U=>(a U).bind fun d=>bn ((cy (tz d) n).map .bool)
section
variable{X:Cx}{F:Fx}{E:Str->ao->Prop}{e a b c:Expr}{es:List Expr}{st:Stmt}{rest:List Stmt}{pos:Pos}{x:Str}
theorem jd{n:String}{f:XM PyData}(h:DE X F e (ym n (wp E f))):FE X F E e (iA n f):=h.imp az fun U Q q=>az _ _ _ (fun d m g=>by
 obtain⟨y,i,j⟩:=cS g;obtain⟨b,k,l⟩:=Option.map_eq_some_iff.mp i;subst l;exact⟨b,Ku k,j⟩) (bK q)
theorem zw{i:Nat}{k:Pos}(l:PE X (.Name x k) (dN i)):FS X F E (.Return (some (.Name x k)) pos) (qd i):=fun g s Y H D I ⟨U,O,m,j,q,f⟩=>by
 unfold wpS qd at q;cases h:U[i]? with
 | none=>rw[h] at q;exact q.elim
 | some o=>
  rw[h] at q;cases o with
  | none=>exact q.elim
  | some c=>
   cases c with
   | own io b=>cases io with
    | true=>exact q.elim
    | false=>exact IG l g s Y H D I ⟨U,O,m,j,⟨b,h,q⟩,f⟩
   | dat d=>exact yt (yb i l) g s Y H D I ⟨U,O,m,j,.inl ⟨d,h,q⟩,f⟩
   | scr n=>exact q.elim
   | exc n=>exact q.elim
   | vw n=>exact q.elim
theorem zx{i:Nat}{op:Operator}{pos':Pos}{g:Int->Int->Int}{m:XM PyData}(h:DS X F st (yu i (wp E m) g)):FS X F E st (kH i m g):=h.imp fun D U q=>by
 unfold wpS kH at q;cases h:U[i]? with
 | none=>rw[h] at q;exact q.elim
 | some o=>
  rw[h] at q;cases o with
  | none=>exact q.elim
  | some c=>
   cases c with
   | dat d=>cases d with
    | int k=>
     refine⟨k,h,az _ _ _ (fun d f j=>?_) (fT (m:=m) (k:=fun d f=>(match d with | .int l=>eP.nx (f.set i (some (.dat (.int (g k l))))) | _=>.bad)) (show wpS E (fun U=>ed (m U) fun d f=>(match d with | .int l=>eP.nx (f.set i (some (.dat (.int (g k l))))) | _=>.bad)) D U from q))⟩;unfold wpS at j;cases d with
     | int l=>exact⟨l,rfl,j⟩
     | _=>exact j.elim
    | _=>exact q.elim
   | _=>exact q.elim
noncomputable def bR(g:GM)(b:SM):List PyData->SM
 | [],U=>.nx U
 | d::r,U=>(match g d U with
  | some h=>(match b h with
   | .nx f=>bR g b r f
   | .ct f=>bR g b r f
   | .bk f=>.nx f
   | o=>o)
  | none=>.bad)
@[simp] noncomputable def fU(s:XM (List PyData))(g:GM)(b:SM):SM:=fun U=>ed (s U) (bR g b)
theorem gq{n iter:Expr}{body:List Stmt}{s:XM (List PyData)}{g:GM}{l:SM}(t:PassesOwn (model X.prog X.w) X.A X.env X.xe)(u:X.calm=true)(f:FI X F E n iter s)(v:FG X F n g)(G:iW X F E body l)(y:∀x,foldedSetIterable iter X.env x=pure x:=by intro _;rfl):FS X F E (.For n iter body [] pos) (fU s g l):=
 (Jh t u f v G y).imp fun D U q=>az _ _ _ (fun j p z=>by
  refine⟨fun i U=>wpS E (bR g l (j.drop i)) D U,z,fun i d U hd f=>?_,fun U h=>?_⟩
  ·have e:j.drop i=d::j.drop (i+1):=by obtain⟨r,B⟩:=List.getElem?_eq_some_iff.mp hd;rw[<-B];exact List.drop_eq_getElem_cons r
   simp only[e] at f;unfold wpS bR at f;unfold ff;generalize g d U=o at f ⊢;cases o with
   | none=>exact f
   | some p=>
    show wpS E l _ p;simp only at f;unfold wpS;generalize l p=C at f ⊢;cases C with
    | nx m=>exact f
    | ct m=>exact f
    | bk m=>exact f
    | rt c m=>exact f
    | ex c m=>exact f
    | bad=>exact f
  ·simp only[List.drop_length] at h;exact h) (fT (k:=bR g l) q)
noncomputable def gr(c:XM Bool)(b:SM):Nat->SM
 | 0,_=>.bad
 | n+1,U=>ed (c U) fun t f=>if t=true then(match b f with
   | .nx d=>gr c b n d
   | .ct d=>gr c b n d
   | .bk d=>.nx d
   | o=>o) else .nx f
theorem dj{p:Nat->Prop}:(∃k,p k)->∃k,p k/\∀j,p j->k<=j:=by
 rintro⟨k,d⟩
 induction k using Nat.strongRecOn with
 | _ k f=>
  by_cases h:∃j,j<k/\p j
  ·obtain⟨j,h1,h2⟩:=h;exact f j h1 h2
  ·exact⟨k,d,fun j g=>Nat.le_of_not_lt fun z=>h ⟨j,z,g⟩⟩
theorem Kv{l:Expr}{body:List Stmt}{i:XM Bool}{g:SM}{n:Nat}(y:PassesOwn (model X.prog X.w) X.A X.env X.xe)(z:FB X F E l i)(C:iW X F E body g):FS X F E (.While l body [] pos) (gr i g n):=
 (Jj y z C).imp fun D U q=>by
  classical
  let ok:Nat->ao->Prop:=fun k U=>wpS E (gr i g k) D U;let p:ao->Prop:=fun U=>∃k,ok k U;let μ:ao->Nat:=fun U=>if h:p U then(dj h).choose else 0
  have u:∀U,p U->ok (μ U) U/\∀j,ok j U->μ U<=j:=fun U h=>by rw[show μ U=(dj h).choose from dif_pos h];exact(dj h).choose_spec
  refine⟨p,μ,⟨n,q⟩,fun U G=>?_⟩;have h1:ok (μ U) U:=(u U G).1;cases v:μ U with
  | zero=>rw[v] at h1;exact h1.elim
  | succ k=>
   rw[v] at h1;have less:∀d,ok k d->p d/\μ d<k+1:=fun d s=>⟨⟨k,s⟩,Nat.lt_succ_of_le ((u d ⟨k,s⟩).2 k s)⟩
   refine az _ _ _ (fun t r f=>?_) (fT (m:=i) (k:=fun t r=>if t=true then(match g r with | .nx d=>gr i g k d | .ct d=>gr i g k d | .bk d=>.nx d | o=>o) else .nx r) h1);cases t with
   | false=>exact dO f
   | true=>
    refine dP ?_;unfold wpS at f ⊢;simp only[if_true] at f;generalize g r=B at f ⊢;cases B with
    | nx d=>exact less d f
    | ct d=>exact less d f
    | bk d=>exact f
    | rt c d=>exact f
    | ex c d=>exact f
    | bad=>exact f
@[simp] noncomputable def gP(a:XM PyData):XM (List PyData):=fun U=>(a U).bind fun d=>bn (match d with | .list f=>some f | _=>none)
@[simp] noncomputable def kI(a:XM PyData):XM (List PyData):=fun U=>(a U).bind fun d=>bn (match d with | .tuple f=>some f | _=>none)
theorem DI.imp{f iter:Expr}{t t':dF}(h:DI X F f iter t)(j:∀U Q g,(∀d i,Q d i->g d i)->t' U Q->t' U g)(k:∀U Q,t' U Q->t U Q):DI X F f iter t':=⟨j,h.pi.imp fun Y H Q ⟨U,O,st,q⟩=>⟨U,O,st,k U _ q⟩⟩
theorem iB{i:Expr}{f:XM PyData}(h:FE X F E e f):FI X F E i e (gP f):=(Je h).imp az fun U Q q=>az _ _ _ (fun d l j=>by
 obtain⟨y,g,k⟩:=cS j;cases d with
 | list m=>cases g;exact⟨_,rfl,k⟩
 | _=>cases g) (bK q)
theorem nL{i:Expr}{f:XM PyData}(h:FE X F E e f):FI X F E i e (kI f):=(Jf h).imp az fun U Q q=>az _ _ _ (fun d l j=>by
 obtain⟨y,g,k⟩:=cS j;cases d with
 | tuple m=>cases g;exact⟨_,rfl,k⟩
 | _=>cases g) (bK q)
@[simp] noncomputable def gQ(g:List PyData->Option (List PyData))(a:XM (List PyData)):XM (List PyData):=fun U=>(a U).bind fun d=>bn (g d)
@[simp] noncomputable def ee:List PyData->Option (List PyData):=fun d=>match d with
 | [.int j]=>if (decide (-(2 ^ 62)<=j)&&decide (j<2 ^ 62))=true then some (intsFrom 0 j.toNat) else none
 | _=>none
theorem zy{f:Expr}{g:XM (List PyData)}(h:DI X F f e (yC (wp E g))):FI X F E f e (gQ ee g):=h.imp az fun U Q q=>az _ _ _ (fun k l i=>by
 obtain⟨y,d,j⟩:=cS i;unfold ee at d;split at d
 ·split at d
  ·rename_i h;cases d;simp only[Bool.and_eq_true,decide_eq_true_eq] at h;exact⟨_,rfl,h.1,h.2,j⟩
  ·cases d
 ·cases d) (bK q)
noncomputable def cZ(g:GM)(t:XM Bool)(m:XM PyData):List PyData->List PyData->ao->Option (List PyData)
 | [],f,_=>some f
 | d::r,f,U=>(match g d U with
  | some i=>(match t i with
   | .ok true h=>(match m h with
    | .ok y j=>if f.length<sizeLine then cZ g t m r (f++[y]) j else none
    | _=>none)
   | .ok false h=>cZ g t m r f h
   | _=>none)
  | none=>none)
@[simp] noncomputable def qe(own:Nat)(d:List Nat)(U:ao):ao:=List.replicate own none++d.map fun j=>yE U[j]?
@[simp] noncomputable def zz(own:Nat)(d:List Nat)(g:GM)(t:XM Bool)(m:XM PyData)(f:List PyData):XM PyData:=fun h=>bn ((cZ g t m f [] (qe own d h)).bind fun i=>if i.length<=sizeLine then some (.list i) else none) h
@[simp] noncomputable def gu(own:Nat)(d:List Nat)(s:XM (List PyData))(g:GM)(t:XM Bool)(m:XM PyData):XM PyData:=fun U=>(s U).bind (zz own d g t m)
noncomputable abbrev gw:Str->ao->Prop:=fun _ _=>False
theorem zG{own:List Str}{j:List Nat}{s:XM (List PyData)}{g:GM}{t:XM Bool}{m:XM PyData}{U:ao}{Q:PyData->ao->Prop}(q:wp E (gu own.length j s g t m) U Q):ny own j (wp E s) (ff g) (wp gw t) (wp gw m) U Q:=az _ _ _ (fun l r G=>by
 obtain⟨y,H,A⟩:=cS (o:=(cZ g t m l [] (qe own.length j r)).bind fun p=>if p.length<=sizeLine then some (PyData.list p) else none) (U:=r) (E:=E) (Q:=Q) G;obtain⟨n,I,u⟩:=Option.bind_eq_some_iff.mp H;have B:n.length<=sizeLine/\y=.list n:=by
  split at u
  ·rename_i h;cases u;exact⟨h,rfl⟩
  ·cases u
 have J:gL own j r=qe own.length j r:=by unfold gL qe;rw[List.map_const']
 refine⟨fun i p U=>cZ g t m (l.drop i) p U=some n,by rw[J];exact I,fun i d p U hd f=>?_,fun p U h=>?_⟩
 ·have e:l.drop i=d::l.drop (i+1):=by obtain⟨v,L⟩:=List.getElem?_eq_some_iff.mp hd;rw[<-L];exact List.drop_eq_getElem_cons v
  simp only[e] at f;unfold cZ at f;unfold ff;cases C:g d U with
  | none=>rw[C] at f;cases f
  | some M=>
   rw[C] at f;simp only at f ⊢;unfold wp;cases w:t M with
   | ex c D=>rw[w] at f;cases f
   | bad=>rw[w] at f;cases f
   | ok b D=>
    rw[w] at f;cases b with
    | false=>exact dO f
    | true=>
     refine dP ?_;simp only at f ⊢;cases z:m D with
     | ex c N=>rw[z] at f;cases f
     | bad=>rw[z] at f;cases f
     | ok O N=>
      rw[z] at f;simp only at f ⊢;split at f
      ·rename_i h;exact⟨h,f⟩
      ·cases f
 ·simp only[List.drop_length] at h;have:p=n:=by unfold cZ at h;exact Option.some.inj h
  subst this;rw[B.2] at A;exact⟨B.1,A⟩) (bK (k:=zz own.length j g t m) q)
abbrev nM(X:Cx)(F:Fx)(E:Str->ao->Prop)(d:List Expr)(m:XM Bool):Prop:=kw X F d (wp E m)
noncomputable def ef:XM Bool:=fun U=>.ok true U
theorem jJ:nM X F E [] ef:=⟨az,fun d s Y H Q I ⟨U,O,st,q⟩=>Jl.2 d s Y H Q I ⟨U,O,st,q⟩⟩
theorem zH{d:XM Bool}(h:FB X F E c d):nM X F E [c] d:=Jm h
theorem jK{d:Scope}{own f:List Str}{h:List Nat}{l iter i:Expr}{j:List Expr}{s:XM (List PyData)}{g:GM}{t:XM Bool}{m:XM PyData}{n:Nat}(w:GF X.mg F)(S:ai X d own f h)(y:X.calm=true)(z:own.length=n)(A:FI X F E l iter s)
  (o:∀C p r u v k,GF X.mg k->FG (bY X d (own++f) C p r u v) k l g/\nM (bY X d (own++f) C p r u v) k gw j t/\FE (bY X d (own++f) C p r u v) k gw i m)
  (B:∀x,foldedSetIterable iter X.env x=pure x:=by intro _;rfl):FE X F E (.ListComp i [⟨l,iter,j,0⟩] d pos) (gu n h s g t m):=by
 subst z;exact(Jn w S y A o B).imp az fun U Q q=>zG q
theorem Kw{f:Scope}{own capN:List Str}{caps:List Nat}{o iter k:Expr}{l:List Expr}{s:XM (List PyData)}{g:GM}{t:XM Bool}{m:XM PyData}{n i:Nat}{y:Str}{py j:Pos}(H:X.N.Nodup)(r:X.N[i]? = some y)(I:Loc X.env.scope y)(J:GF X.mg F)(S:ai X f own capN caps)(L:X.calm=true)(M:own.length=n)(O:FI X F E o iter s)
  (u:∀C v w z A p,GF X.mg p->FG (bY X f (own++capN) C v w z A) p o g/\nM (bY X f (own++capN) C v w z A) p gw l t/\FE (bY X f (own++capN) C v w z A) p gw k m)
  (B:swapsWith (.ListComp k [⟨o,iter,l,0⟩] f pos) (some (.Name y py)) j.line X.env=pure true:=by rfl)
  (R:∀x,foldedSetIterable iter X.env x=pure x:=by intro _;rfl) (T:X.fn y=true\/X.env.scope.names.lookup y=some .local:=by first | exact .inl rfl | exact .inr rfl | assumption) :
  FS X F E (.Assign [.Name y py] (.ListComp k [⟨o,iter,l,0⟩] f pos) j) (bF (gu n caps s g t m) (ay i)):=by
 subst M;exact(Jo H r I J S L O u B R T).imp fun D U q=>by have Y:=uh q;exact tQ (s:=wp E s) az U _ _ (fun d G h=>h) (zG (Q:=fun d G=>ff (ay i) d G D.nx) Y)
end
section
variable{K:Frag}{F:Fx}{H H':Hp}{Y:St}{U:ao}{O O':List Addr}
theorem aC.fresh(st:aC K F H Y U O){p:Addr}{o:HO}(c:H p=none)(d:Mv o):∃O',aC K (F.plus [p]) (bp H p o) Y U O'/\aU O H O' (bp H p o):=by obtain⟨O',h1,h2,_⟩:=aC.swap (L:=[]) (L':=[p]) (H':=bp H p o) (F:=F) st (fun b u _ e=>bZ c b u e) (by simp) (fun a h=>.inr (by obtain rfl:=List.mem_singleton.mp h;exact c)) (fun a h=>by cases h) (fun a h=>by obtain rfl:=List.mem_singleton.mp h;exact⟨o,dB,d⟩);exact⟨O',h1,h2⟩
theorem aC.new1(st:aC K F H Y U O){p:Addr}(c:H p=none):∀a∈[p],a∈F.A₀\/F.H₀ a=none:=fun a h=>by
 obtain rfl:=List.mem_singleton.mp h
 by_cases b:a∈F.A₀
 ·exact .inl b
 ·refine .inr ?_;cases e:F.H₀ a with
  | none=>rfl
  | some o=>obtain⟨W,h,_⟩:=st;have:=h.kept a o b e;rw[c] at this;cases this
end
section
variable{X:Cx}{F:Fx}{E:Str->ao->Prop}{e a b c:Expr}{es:List Expr}{st:Stmt}{rest:List Stmt}{pos:Pos}{x:Str}
noncomputable def Kx(t:cW):fP:=fun U Q=>t U fun d f=>d.length<=sizeLine/\Q (.own false (.l d)) f
theorem Ky{i:cW}(h:DA X F es i):DO X F (.List es pos) (Kx i):=
 ⟨fun _ _ _ k q=>h.mn _ _ _ (fun _ _ d=>⟨d.1,k _ _ d.2⟩) q,(sM h.pa).imp fun Y H Q ⟨U,O,st,q⟩=>
  ⟨U,O,st,h.mn _ _ _ (fun s t d vs u v f n j=>⟨by rw[j.length];exact d.1,fun p l=>by
   obtain⟨r,g,m⟩:=f.fresh (o:=.lst vs) l trivial;exact d.2 _ _ r [p] ⟨g,⟨p,rfl,rfl,vs,dB,aI.mono m.hid j⟩,f.new1 l⟩ (n.trans m)⟩) q⟩⟩
@[simp] noncomputable def nN(a:XM (List PyData)):XM aj:=fun U=>(a U).bind fun d=>bn (if d.length<=sizeLine then some (.own false (.l d)) else none)
theorem qf{g:XM (List PyData)}(h:FA X F E es g):FO X F E (.List es pos) (nN g):=(Ky h).imp az fun U Q q=>az _ _ _ (fun k l i=>by
 obtain⟨d,f,j⟩:=cS i;split at f
 ·rename_i h;cases f;exact⟨h,j⟩
 ·cases f) (bK q)
@[simp] noncomputable def uj(i:Nat)(d:PyData):SM:=fun f=>match f[i]? with
 | some (some (.own io (.l g)))=>if g.length<sizeLine then .nx (f.set i (some (.own io (.l (g++[d]))))) else .bad
 | _=>.bad
@[simp] noncomputable def kJ(i:Nat)(m:XM PyData):SM:=fun U=>match U[i]? with
 | some (some (.own _ (.l _)))=>ed (m U) (uj i)
 | _=>.bad
theorem qg{i:Nat}{m:XM PyData}{r apos g:Pos}(Q:PE X (.Name x r) (dN i))(R:FE X F E e m)(y:swapsWith (.Call (.Attribute (.Name x r) "append" apos) [e] [] g) none pos.line X.env=pure false:=by rfl)
  (n:attributeBase (.Name x r) "append" X.env (eval (.Name x r) X.env)=eval (.Name x r) X.env:=by rfl)
  (t:((backTo g (starEach [e] X.env)).all (fun x=>!x.1)&&(backToKw g (keywordEach [] X.env)).all (fun x=>x.1.isSome)&&decide (([e]:List Expr).length+([]:List Keyword).length+(if ([]:List Keyword).isEmpty then 0 else 1)<30))=true:=by rfl)
  (p:(apos.endLine==g.line)=true:=by rfl) (M:starEach [e] X.env=(false,eval e X.env)::starEach [] X.env:=by rfl) (j:(backTo g (starEach [] X.env)).any (·.1)=false:=by rfl) :
  FS X F E (.Expr (.Call (.Attribute (.Name x r) "append" apos) [e] [] g) pos) (kJ i m):=
 (xi (xJ PySem.F.plainAttrs_list PySem.F.slot_list_append PySem.F.type_list_append Gc Q (fA R.pe fL M) n t p M j) y).imp fun D Y H ⟨U,O,DD,st,q,f⟩=>by
  unfold wpS kJ at q;cases z:U[i]? with
  | none=>rw[z] at q;exact q.elim
  | some o=>
   rw[z] at q;cases o with
   | none=>exact q.elim
   | some S=>
    cases S with
    | dat d=>exact q.elim
    | scr d=>exact q.elim
    | exc d=>exact q.elim
    | vw d=>exact q.elim
    | own T b0=>
     cases b0 with
     | m _ _=>exact q.elim
     | o _ _=>exact q.elim
     | sd _=>exact q.elim
     | ll _=>exact q.elim
     | pr _ _ _=>exact q.elim
     | l Z=>
      obtain⟨a,fp,u,⟨_,xs,hH,_⟩,_,_⟩:=st.box z;refine⟨_,u,.inl ⟨rfl,xs,.of hH⟩,U,O,st,az _ _ _ (fun d U1 h w H1 O1 A s1 d1=>?_) (fT (m:=m) (k:=uj i) q)⟩;unfold wpS uj at h;cases h1:U1[i]? with
      | none=>rw[h1] at h;exact h.elim
      | some o=>
       rw[h1] at h;cases o with
       | none=>exact h.elim
       | some c1=>
        cases c1 with
        | dat d=>exact h.elim
        | scr d=>exact h.elim
        | exc d=>exact h.elim
        | vw d=>exact h.elim
        | own a0 b1=>
         cases b1 with
         | m _ _=>exact h.elim
         | o _ _=>exact h.elim
         | sd _=>exact h.elim
         | ll _=>exact h.elim
         | pr _ _ _=>exact h.elim
         | l N=>
          simp only at h;obtain⟨a1,a2,v,⟨e1,B,C,hd⟩,hO,up⟩:=A.box h1;rw[u] at v;cases v;subst e1
          by_cases I:N.length<sizeLine
          ·rw[if_pos I] at h;refine⟨a,B,w,rfl,rfl,C,by rw[hd.length];exact I,?_⟩;obtain⟨O2,J,s2,_⟩:=up (bp H1 a (.lst (B++[w]))) (.l (N++[d])) [a] (fun c o L e=>by rw[ck (by simpa using L)];exact e) (by simp) (fun c L=>.inl L) (fun G O' s hG _=>by
            subst hG;exact⟨s.hid,rfl,B++[w],dB,(aI.mono s.hid hd).append (.cons (DV.mono s.hid d1) .nil)⟩)
           exact f.nx _ _ _ _ J (s1.trans s2) h
          ·rw[if_neg I] at h;exact h.elim
@[simp] noncomputable def Kz:aj->Option PyData
 | .dat (.list d)=>some (.int d.length)
 | .dat (.tuple d)=>some (.int d.length)
 | .own _ (.l d)=>some (.int d.length)
 | _=>none
@[simp] noncomputable def uk(i:Nat):XM PyData:=fun U=>match U[i]? with
 | some (some c)=>bn (Kz c) U
 | _=>.bad
theorem KA{i:Nat}{p j:Pos}(u:Gl X "len")(w:X.mg "len" = none)(h:PE X (.Name x j) (dN i))(s:starEach [.Name x j] X.env=(false,eval (.Name x j) X.env)::starEach [] X.env:=by rfl)(n:(backTo pos (starEach [] X.env)).any (·.1)=false:=by rfl) :
  FE X F E (.Call (.Name "len" p) [.Name x j] [] pos) (uk i):=
 ⟨az,(kh kj u w PySem.boot_len (fA h fL s) (by decide) (by decide) s n).imp fun Y H Q ⟨U,O,st,q⟩=>by
  unfold wp uk at q;cases k:U[i]? with
  | none=>rw[k] at q;exact q.elim
  | some o=>
   rw[k] at q;cases o with
   | none=>exact q.elim
   | some y=>
    unfold bn at q;cases y with
    | scr d=>exact q.elim
    | exc d=>exact q.elim
    | vw d=>exact q.elim
    | dat d=>
     obtain⟨v,m,hd⟩:=st.dat k;cases d with
     | list t=>obtain⟨a,f,rfl,r,g⟩:=hd.lst_inv;exact⟨_,m,a,f,rfl,.inl (.of (da r).1),by rw[g.length];exact q _ H O st .refl (.int _)⟩
     | tuple t=>obtain⟨a,f,rfl,r,g⟩:=hd.tup_inv;exact⟨_,m,a,f,rfl,.inr (.inl (gi r).1),by rw[g.length];exact q _ H O st .refl (.int _)⟩
     | _=>exact q.elim
    | own io b=>
     cases b with
     | l t=>obtain⟨a,A,m,⟨_,f,z,g⟩,_,_⟩:=st.box k;exact⟨_,m,a,f,rfl,.inl (.of z),by rw[g.length];exact q _ H O st .refl (.int _)⟩
     | _=>exact q.elim⟩
end
noncomputable def fj:PyData->Option aM
 | .int i=>some (.inl i)
 | .str x=>some (.inr x)
 | _=>none
noncomputable def gR:List PyData->Option (List aM)
 | []=>some []
 | d::r=>(match fj d,gR r with | some k,some l=>some (k::l) | _,_=>none)
noncomputable def dS:Bool->PyData->Option (List aM)
 | false,d=>(fj d).map fun k=>[k]
 | true,.tuple a=>gR a
 | true,_=>none
noncomputable abbrev dc:=List (PyData×PyData)
noncomputable def cE(a:Bool):dc->List aM->Option PyData
 | [],_=>none
 | p::r,k=>if dS a p.1=some k then some p.2 else cE a r k
noncomputable def iC(a:Bool)(k:List aM)(v:PyData):dc->dc
 | []=>[]
 | p::r=>(if dS a p.1=some k then(p.1,v) else p)::iC a k v r
noncomputable def fF(b:Bool)(a:dc)(d:PyData)(k:List aM)(v:PyData):dc:=if (cE b a k).isSome=true then iC b k v a else a++[(d,v)]
theorem um{G:Hp}{v:V}{d:PyData}{k:aM}(h:DV G v d)(e:fj d=some k):v=kV k:=by
 cases d with
 | int i=>cases e;exact h.int_inv
 | str x=>cases e;exact h.str_inv
 | _=>cases e
theorem uo{k:aM}:fj (gj k)=some k:=by cases k<;>rfl
theorem zI{d:PyData}{k:aM}(e:fj d=some k):d=gj k:=by
 cases d with
 | int i=>cases e;rfl
 | str x=>cases e;rfl
 | _=>cases e
theorem zJ:∀{a:List aM},gR (a.map gj)=some a
 | []=>rfl
 | k::r=>by show(match fj (gj k),gR (r.map gj) with | some k,some l=>some (k::l) | _,_=>none)=_;rw[uo,zJ]
theorem qh:∀{b:List PyData}{a:List aM},gR b=some a->b=a.map gj
 | [],a,e=>by cases e;rfl
 | d::r,a,e=>by
  unfold gR at e;cases h1:fj d with
  | none=>rw[h1] at e;cases e
  | some k=>
   cases h2:gR r with
   | none=>rw[h1,h2] at e;cases e
   | some l=>rw[h1,h2] at e;cases e;rw[zI h1,qh h2];rfl
theorem ur{G:Hp}:∀{vs:List V}{a:List aM},aI G vs (a.map gj)->vs=a.map kV
 | [],[],_=>rfl
 | _::_,k::r,.cons h1 h2=>by rw[um h1 uo,ur h2];rfl
theorem qi{κ:Type}[DecidableEq κ]{R:κ->PyData->Prop}{G:Hp}{f:Bool}{inj:κ->List aM}(g:∀k d,R k d->dS f d=some (inj k))(j:∀a b,inj a=inj b->a=b) :
  ∀{i:List (κ×V)}{c:dc}(k:κ),Paired (fun(p:κ×V) (q:PyData×PyData)=>R p.1 q.1/\DV G p.2 q.2) i c->(eM i k=none/\cE f c (inj k)=none)\/∃v d,eM i k=some v/\cE f c (inj k)=some d/\DV G v d
 | [],[],k,_=>.inl ⟨rfl,rfl⟩
 | p::r,q::s,k,.cons h t=>by
  by_cases e:p.1=k
  ·refine .inr ⟨p.2,q.2,pD e,?_,h.2⟩;unfold cE;rw[if_pos (by rw[g _ _ h.1,e])]
  ·rw[pE e];unfold cE;rw[if_neg (by rw[g _ _ h.1];exact fun z=>e (j _ _ (Option.some.inj z)))];exact qi g j k t
theorem zK{κ:Type}[DecidableEq κ]{R:κ->PyData->Prop}{G:Hp}{i:Bool}{inj:κ->List aM}(f:∀k d,R k d->dS i d=some (inj k))(j:∀a b,inj a=inj b->a=b){v:V}{x:PyData}(l:DV G v x) :
  ∀{m:List (κ×V)}{c:dc}(k:κ),Paired (fun(p:κ×V) (q:PyData×PyData)=>R p.1 q.1/\DV G p.2 q.2) m c->Paired (fun(p:κ×V) (q:PyData×PyData)=>R p.1 q.1/\DV G p.2 q.2) (m.map fun g=>if g.1=k then(g.1,v) else g) (iC i (inj k) x c)
 | [],[],k,_=>.nil
 | p::r,q::s,k,.cons h t=>by
  refine .cons ?_ (zK f j l k t);dsimp only
  by_cases e:p.1=k
  ·rw[if_pos e,if_pos (by rw[f _ _ h.1,e])];exact⟨h.1,l⟩
  ·rw[if_neg e,if_neg (by rw[f _ _ h.1];exact fun z=>e (j _ _ (Option.some.inj z)))];exact h
theorem zL{α β:Type}{R:α->β->Prop}:∀{a:List α}{b:List β}{c:List α}{vs:List β},Paired R a b->Paired R c vs->Paired R (a++c) (b++vs)
 | _,_,_,_,.nil,h=>h
 | _,_,_,_,.cons h t,r=>.cons h (zL t r)
theorem zM{κ:Type}[DecidableEq κ]{R:κ->PyData->Prop}{G:Hp}{g:Bool}{inj:κ->List aM}(i:∀k d,R k d->dS g d=some (inj k))(j:∀a b,inj a=inj b->a=b){v:V}{x d:PyData}(l:DV G v x)
  {m:List (κ×V)}{c:dc}{k:κ}(hd:R k d) (h:Paired (fun(p:κ×V) (q:PyData×PyData)=>R p.1 q.1/\DV G p.2 q.2) m c):Paired (fun(p:κ×V) (q:PyData×PyData)=>R p.1 q.1/\DV G p.2 q.2) (em m k v) (fF g c d (inj k) x):=by
 rcases qi i j k h with⟨e,f⟩ | ⟨n,o,e,f,_⟩
 ·rw[Gj v e];unfold fF;rw[f,if_neg (by simp)];exact zL h (.cons ⟨hd,l⟩ .nil)
 ·unfold fF;rw[f,if_pos (by rfl)];unfold em;rw[if_pos (by rw[pF,e];rfl)];exact zK i j l k h
theorem eg:∀(k:aM) (d:PyData),gj k=d->dS false d=some [k]:=fun k d e=>by subst e;show(fj (gj k)).map _=_;rw[uo];rfl
theorem qj:∀(a b:aM),[a]=[b]->a=b:=fun a b e=>by cases e;rfl
theorem kK:∀(k:List aM) (d:PyData),pJ k=d->dS true d=some k:=fun k d e=>by subst e;exact zJ
@[simp] noncomputable def gS(a:Bool)(d:PyData):Option (List aM):=match d with
 | .tuple []=>none
 | d=>dS a d
theorem zN{a:Bool}{d:PyData}{k:List aM}(e:gS a d=some k):dS a d=some k/\d≠.tuple []:=by
 unfold gS at e;split at e
 ·cases e
 ·rename_i h;exact⟨e,h⟩
theorem uu:∀{ds:List PyData}{k:List aM},gR ds=some k->ds≠[]->cI ds=false
 | [],_,_,h=>absurd rfl h
 | [d],k,e,_=>by cases d<;>first | rfl | (simp[gR,fj] at e)
 | d::f::r,k,e,_=>by
  unfold gR at e;split at e
  ·rename_i g l a b;have c:=uu (ds:=f::r) b (by simp);cases d<;>first | (exact(by simpa[cI] using c)) | (exfalso;simp[fj] at a)
  ·cases e
section
variable{G H:Hp}{a:Addr}{tk:Bool}{kvs:dc}
theorem zO(h:fM G H a tk kvs)(j:bX G H){y:V}{d:PyData}{k:List aM}(g:DV G y d)(e:gS tk d=some k):∃o,ju H a y o/\((o=none/\cE tk kvs k=none)\/∃v x,o=some v/\cE tk kvs k=some x/\DV G v x):=by
 obtain⟨e,c⟩:=zN e;cases tk with
 | false=>obtain⟨l,f,pr⟩:=h;obtain⟨m,n,p⟩:=Option.map_eq_some_iff.mp e;subst p;obtain rfl:=um g n;exact⟨_,.k f,qi eg qj m pr⟩
 | true=>
  obtain⟨l,f,pr⟩:=h;cases d with
  | tuple q=>obtain⟨b,r,rfl,hb,i⟩:=g.tup_invK (uu e fun z=>c (by rw[z]));rw[qh e] at i;rw[ur i] at hb;exact⟨_,.t f (j _ _ hb),qi (inj:=id) kK (fun _ _ z=>z) k pr⟩
  | _=>cases e
theorem KB(h:fM G H a tk kvs)(p:bX G H){y v:V}{d x:PyData}{k:List aM}(i:DV G y d)(j:DV G v x)(e:gS tk d=some k)(l:kvs.length<sizeLine) :
  ∃o,jv H a y v (bp H a o)/\Mv o/\∀c,bX G c->fM c (bp H a o) a tk (fF tk kvs d k x):=by
 obtain⟨e,f⟩:=zN e;cases tk with
 | false=>obtain⟨q,g,pr⟩:=h;obtain⟨u,m,r⟩:=Option.map_eq_some_iff.mp e;subst r;obtain rfl:=um i m;refine⟨_,.k g (by rw[Paired.length pr];exact l),trivial,fun c s=>⟨_,dB,zM eg qj (DV.mono s j) (zI m).symm (Paired.mapP pr fun _ _ z=>⟨z.1,DV.mono s z.2⟩)⟩⟩
 | true=>
  obtain⟨q,g,pr⟩:=h;cases d with
  | tuple w=>obtain⟨b,A,rfl,hb,n⟩:=i.tup_invK (uu e fun z=>f (by rw[z]));rw[qh e] at n;rw[ur n] at hb;exact⟨_,.t g (p _ _ hb) (by rw[Paired.length pr];exact l),trivial,fun c s=>⟨_,dB,zM (inj:=id) kK (fun _ _ z=>z) (DV.mono s j) (show pJ k=_ by unfold pJ;rw[<-qh e]) (Paired.mapP pr fun _ _ z=>⟨z.1,DV.mono s z.2⟩)⟩⟩
  | _=>cases e
theorem zP(h:fM G H a tk kvs):sX H a:=by
 cases tk with
 | false=>obtain⟨b,c,_⟩:=h;exact .inl ⟨b,.of c⟩
 | true=>obtain⟨b,c,_⟩:=h;exact .inr ⟨b,.of c⟩
end
noncomputable def fk(U:ao)(i:Nat):Option (Bool×Bool×dc):=match U[i]? with
 | some (some (.own io (.m b a)))=>some (io,b,a)
 | _=>none
theorem qk{U:ao}{i:Nat}{io b:Bool}{a:dc}(h:fk U i=some (io,b,a)):U[i]? = some (some (.own io (.m b a))):=by
 unfold fk at h;split at h
 ·rename_i e;cases h;exact e
 ·cases h
section
variable{X:Cx}{F:Fx}{E:Str->ao->Prop}{e a b c:Expr}{es:List Expr}{st:Stmt}{rest:List Stmt}{pos:Pos}{x:Str}
noncomputable def uv(d:Bool):XM aj:=fun U=>.ok (.own false (.m d [])) U
theorem KC(i:Bool):FO X F E (.Dict [] [] pos) (uv i):=by
 refine⟨az,?_⟩;cases i with
 | false=>refine Gw.imp ?_;rintro Y H Q ⟨U,O,st,q⟩ p f;obtain⟨g,d,h⟩:=st.fresh (o:=.dK []) f trivial;exact q _ _ g [p] ⟨d,⟨p,rfl,rfl,[],dB,.nil⟩,st.new1 f⟩ h
 | true=>refine Gx.imp ?_;rintro Y H Q ⟨U,O,st,q⟩ p f;obtain⟨g,d,h⟩:=st.fresh (o:=.dT []) f trivial;exact q _ _ g [p] ⟨d,⟨p,rfl,rfl,[],dB,.nil⟩,st.new1 f⟩ h
noncomputable def kL(i:Nat)(d y:PyData):XM PyData:=fun U=>bn (match fk U i with
 | some (_,g,f)=>(gS g d).map fun k=>(cE g f k).getD y
 | none=>none) U
noncomputable def je(i:Nat)(m n:XM PyData):XM PyData:=fun U=>match fk U i with
 | some _=>(m U).bind fun d f=>(n f).bind fun y=>kL i d y
 | none=>.bad
theorem uw{i:Nat}{m n:XM PyData}{f:Expr}{D apos h:Pos}(hu:X.A.units+1<cLine)(hv:PE X (.Name x D) (dN i))(he:FE X F E e m)(hf:FE X F E f n)(mm:M2 X (.Name x D) "get" apos e f h:=by exact⟨rfl,rfl,rfl,rfl⟩):FE X F E (.Call (.Attribute (.Name x D) "get" apos) [e,f] [] h) (je i m n):=
 ⟨az,(xQ hu hv he.pe hf.pe mm).imp fun Y H Q ⟨U,O,st,q⟩=>by
  unfold wp je at q;cases G:fk U i with
  | none=>rw[G] at q;exact q.elim
  | some p=>
   rw[G] at q;obtain⟨io,I,s⟩:=p;obtain⟨a0,fp,t,⟨_,bG⟩,_,_⟩:=st.box (qk G);refine⟨_,t,a0,rfl,zP bG,U,O,st,az _ _ _ (fun d J q1 w H1 O1 L R d1=>?_) (bK (m:=m) (k:=fun d J=>(n J).bind fun y=>kL i d y) q)⟩;refine⟨J,O1,L,az _ _ _ (fun y M q2 z S T j N d2=>?_) (bK (m:=n) (k:=fun y=>kL i d y) q1)⟩;obtain⟨r,B,C⟩:=cS (o:=match fk M i with | some (_,I,s)=>(gS I d).map fun k=>(cE I s k).getD y | none=>none) (U:=M) (E:=E) q2;cases l:fk M i with
   | none=>rw[l] at B;cases B
   | some p=>
    obtain⟨a1,a2,Z⟩:=p;rw[l] at B;obtain⟨k,e2,e3⟩:=Option.map_eq_some_iff.mp B;subst e3;obtain⟨a,a3,u,⟨_,hd⟩,_,_⟩:=j.box (qk l);rw[t] at u;cases u;obtain⟨o,g,r⟩:=zO hd kq (DV.mono N.hid d1) e2;refine⟨o,g,?_⟩;rcases r with⟨rfl,e⟩ | ⟨v,x,rfl,e,hx⟩
    ·rw[e] at C;exact C _ S T j (R.trans N) d2
    ·rw[e] at C;exact C _ S T j (R.trans N) hx⟩
noncomputable def ql(i:Nat)(y d:PyData):SM:=fun U=>match fk U i with
 | some (io,g,f)=>(match gS g d with
  | some k=>if f.length<sizeLine then .nx (U.set i (some (.own io (.m g (fF g f d k y))))) else .bad
  | none=>.bad)
 | none=>.bad
noncomputable def qm(i:Nat)(mk:XM PyData)(y:PyData):SM:=fun U=>match fk U i with
 | some _=>ed (mk U) (ql i y)
 | none=>.bad
noncomputable def ux(i:Nat)(mk d:XM PyData):SM:=fun U=>ed (d U) (qm i mk)
theorem KD{i:Nat}{mk C:XM PyData}{f:Expr}{I j:Pos}(Z:X.A.units+1<cLine)(hv:PE X (.Name x I) (dN i))(t:FE X F E e mk)(hf:FE X F E f C)(hs:swapsWith f (some (.Subscript (.Name x I) e j)) pos.line X.env=pure false:=by rfl) :
  FS X F E (.Assign [.Subscript (.Name x I) e j] f pos) (ux i mk C):=
 (Gq Z hv t.pe hf.pe hs).imp fun D Y H ⟨U,O,DD,st,q,f⟩=>⟨U,O,st,az _ _ _ (fun y R u vy H1 O1 v s1 d1=>by
  unfold wpS qm at u;cases J:fk R i with
  | none=>rw[J] at u;exact u.elim
  | some p=>
   rw[J] at u;obtain⟨io,tk,a1⟩:=p;obtain⟨T,fp,z,_,_,_⟩:=v.box (qk J);refine⟨_,z,R,O1,v,az _ _ _ (fun d U2 h w H2 O2 L S d2=>?_) (fT (m:=mk) (k:=ql i y) u)⟩;unfold wpS ql at h;cases n:fk U2 i with
   | none=>rw[n] at h;exact h.elim
   | some p=>
    rw[n] at h;obtain⟨a2,r,l⟩:=p;simp only at h;cases t:gS r d with
    | none=>rw[t] at h;exact h.elim
    | some k=>
     rw[t] at h;simp only at h
     by_cases M:l.length<sizeLine
     ·rw[if_pos M] at h;obtain⟨a,a3,B,⟨e2,hd⟩,_,up⟩:=L.box (qk n);rw[z] at B;cases B;subst e2;obtain⟨o,g,C,hp⟩:=KB hd kq d2 (DV.mono S.hid d1) t M;refine⟨_,_,rfl,g,?_⟩;obtain⟨O3,N,s3,_⟩:=up (bp H2 T o) (.m r (fF r l d k y)) [T] (fun c o Q e=>by rw[ck (by simpa using Q)];exact e) (by simp) (fun c Q=>.inl Q) (fun G O' s hG _=>by
       subst hG;exact⟨s.hid,rfl,hp _ s.hid⟩)
      exact f.nx _ _ _ _ N (s1.trans (S.trans s3)) h
     ·rw[if_neg M] at h;exact h.elim) (fT (m:=C) (k:=qm i mk) q)⟩
end
section
variable{X:Cx}{F:Fx}{E:Str->ao->Prop}{e a b c:Expr}{es:List Expr}{st:Stmt}{rest:List Stmt}{pos:Pos}{x:Str}
@[simp] noncomputable def uy:List PyData->Option PyData:=fun d=>match d with
 | [.list as,.list bs,.list cs]=>if bs.length=as.length/\cs.length=as.length/\0<as.length then some (.list (nB as bs cs)) else none
 | _=>none
theorem KE{g:XM (List PyData)}(h:DE X F e (yL (wp E g))):FE X F E e (ec uy g):=h.imp az fun U Q q=>az _ _ _ (fun k l i=>by
 obtain⟨d,f,j⟩:=cS i;unfold uy at f;split at f
 ·split at f
  ·rename_i h;cases f;exact⟨_,_,_,rfl,h.1,h.2.1,h.2.2,j⟩
  ·cases f
 ·cases f) (bK q)
@[simp] noncomputable def zQ(k:Nat):PyData->Option PyData:=fun d=>match d with | .list f=>some (.list (f.drop k)) | _=>none
@[simp] noncomputable def xU(g:PyData->Option PyData)(a:XM PyData):XM PyData:=fun U=>(a U).bind fun d=>bn (g d)
theorem KF{k:Nat}{f:XM PyData}(h:DE X F e (yN (wp E f) k)):FE X F E e (xU (zQ k) f):=h.imp az fun U Q q=>az _ _ _ (fun d l i=>by
 obtain⟨y,g,j⟩:=cS i;cases d with
 | list m=>cases g;exact⟨_,rfl,j⟩
 | _=>cases g) (bK q)
end
noncomputable abbrev nO:List Value:=[.type "ValueError",.type "Exception",.type "BaseException",.type "object"]
def KG(h:Heap)(C:Addr):Prop:=∃c N e q bs a f sub g b i j k l m n d,h.get? C=some (excClassObj e q C N bs c a f sub g b i j k l m n "ValueError.__new__")/\h.Ns N d/\d "__init__" = none/\OwnTail h nO c
theorem KH{K:Frag}{h:Heap}{C:Addr}(X:K.In h)(e:excIn K C nO "ValueError.__new__" = true):KG h C:=by
 unfold excIn at e;split at e
 ·rename_i j k m n;split at e
  ·rename_i I o p q r s J t d a;have f:=e;simp only[Bool.and_eq_true,beq_iff_eq] at f;obtain⟨⟨⟨⟨⟨u,v⟩,g⟩,w⟩,b⟩,i⟩:=f;obtain⟨x,y,L,z,A,B,D,E,G,c,H⟩:=k;obtain⟨l⟩:=m;simp at g d a b i;subst u v g d a;exact⟨o,z,x,A,y,B,D,E,G,c,j,p,q,r,s,t,_,X _ _ n,.of_isNs (PySem.W.isNs_of_in X b),PySem.W.nsMap_none_of_in X b i,PySem.W.tail_of_in X w⟩
  ·cases e
 ·cases e
structure EC (K:Frag) (mg:Str->Option Value) (c:Str) (C:Addr):Prop where
 mg:mg c=some (.ref C)
 ns:nsIn K mainGlobals c=some (some (.ref C))
 ex:excIn K C nO "ValueError.__new__" = true
@[simp] noncomputable def jL(c:Str):SM:=fun U=>.ex c U
section
variable{X:Cx}{F:Fx}{E:Str->ao->Prop}
theorem _root_.L2.Inv.madeX{a:List (Addr×Obj)}{Y:St}{H:Hp}{s:Shared}{c:Heap}{e:Addr}{C:Value}{d:List Value}(I:Inv X a Y H s)(m:Heap.MadeExcOf s.heap c e C d):Inv X a Y H { s with heap:=c }/\nr X a s.heap/\eY s.heap H c e C none:=by have hb:∀b,s.heap.get? b=none->H b=none:=fun b z=>cg.some_of I.hok z;obtain⟨t,h1,h2,h3⟩:=m.there;refine⟨I.ch I.cov ⟨fun b o q _ _=>m.keeps b o q,fun b o _ q=>⟨o.slots,m.keeps b o q⟩,fun b o q=>⟨o,m.keeps b o q⟩⟩,I.cov,⟨fun b o q=>⟨o,m.keeps b o q⟩,m.new,hb e m.new,_,_,_,h1,rfl,rfl,rfl,.inl ⟨rfl,rfl⟩⟩⟩
theorem kM{c g:Str}{C:Addr}{j:Nat}{np a pos i:Pos}(u:jz X F E)(v:X.A.handled=none)(x:Gl X c)(k:EC X.K X.mg c C)(l:(c==("__debug__":Str))=false:=by decide)
  (n:starEach [.Constant (.str g) j i] X.env=(false,eval (.Constant (.str g) j i) X.env)::starEach [] X.env:=by rfl) :
  FS X F E (.Raise (some (.Call (.Name c np) [.Constant (.str g) j i] [] a)) none pos) (jL c):=fun b s Y H D I ⟨U,O,DD,st,q,f⟩=>by
 obtain⟨y,N,z,B,bs,d,G,sub,J,o,L,M,Q,R,S,Z,mN,hC,hN,p,T⟩:=KH I.ok.mod.kin k.ex;refine wpAny_Raise_call_subU (C:=C) (nm:=z) (q:=B) (N:=N) (bs:=bs) (bm:=y) (hdct:=d) (sn:=G) (sub:=sub) (ab:=J) (col:=o) (dd:=L) (k0:=M) (k1:=Q) (k2:=R) (k3:=S) (k5:=Z) (mN:=mN)
  PySem.F.excBase_ValueError (by decide) PySem.F.excBase_ValueError (T.hasType (by decide)) v (by rw[n];rfl) p (sx I x k.mg ⟨rfl,?_⟩ l)
 have pa:PA X [.Constant (.str g) j i] _:=fA (xh (X:=X)) fL n;have w:=pa a b s Y H (fun vs t=>vs.length=1/\t=H) I (by exact⟨rfl,rfl⟩);rw[n] at w ⊢;refine Calls.evalArgs_plain (aP w fun us s2 ⟨vs,t,h,r,h1,h2⟩=>?_);subst h2;refine⟨rfl,by show us.length<=_;rw[<-r.length,h1];decide,h.bk _ _ hC,hN.keeps h.bk,T.keeps h.bk,fun h' e m=>?_⟩;obtain⟨I2,cv,ex⟩:=h.madeX m;exact u.2 b Y _ _ _ c U O ⟨I2,e,.ref C,s2.heap,none,rfl,cv,ex,k.mg⟩ st q
end
noncomputable def zR(K:Frag)(C D:Addr):Bool:=match K.lookup C with
 | some ⟨_,_,.cls a,_⟩=>a.mro.contains (.ref D)
 | _=>false
noncomputable def zS(K:Frag)(C:Addr):Bool:=findIn K (.ref C) "__getattribute__"==some (some (.builtin "BaseException.__getattribute__"))&&findIn K (.ref C) "__class__"==some (some (.builtin "object.__class__"))&&findIn K (.ref C) "__getattr__"==some none &&
 PySem.W.mroIn K C (.type "BaseException")==some true&&PySem.W.mroIn K C (.type "object")==some true
noncomputable def zT(K:Frag)(D:Addr)(l:List Str):Bool:=l.all fun c=>match nsIn K mainGlobals c with
 | some (some (.ref C))=>excIn K C nO "ValueError.__new__"&&zR K C D&&zS K C&&(kitOne K (.ref C) (.type "ValueError")==some true)&&l.all fun d=>match nsIn K mainGlobals d with
  | some (some (.ref a))=>kitOne K (.ref C) (.ref a)==some (c==d)
  | _=>false
 | _=>false
structure XT (K:Frag) (mg:Str->Option Value) (l:List Str) (D:Addr):Prop where
 top:EC K mg "DueError" D
 tab:zT K D l=true
 mgs:∀c C,nsIn K mainGlobals c=some (some (.ref C))->mg c=some (.ref C)
theorem XT.at_{K:Frag}{mg:Str->Option Value}{l:List Str}{D:Addr}(x:XT K mg l D){c:Str}(h:c∈l):∃C,EC K mg c C/\zR K C D=true/\zS K C=true/\kitOne K (.ref C) (.type "ValueError")=some true/\
  ∀d∈l,∃a,mg d=some (.ref a)/\nsIn K mainGlobals d=some (some (.ref a))/\kitOne K (.ref C) (.ref a)=some (c==d):=by
 have t:=List.all_eq_true.mp x.tab c h;split at t
 ·rename_i C e;simp only[Bool.and_eq_true] at t;obtain⟨⟨⟨⟨f,g⟩,i⟩,j⟩,k⟩:=t;refine⟨C,⟨x.mgs c C e,e,f⟩,g,i,by simpa using j,fun d hd=>?_⟩;have u:=List.all_eq_true.mp k d hd;split at u
  ·rename_i a b;exact⟨a,x.mgs d a b,b,by simpa using u⟩
  ·cases u
 ·cases t
noncomputable def nP:Value->V
 | .bool b=>.bl b
 | .int i _=>.int i
 | .str x _=>.str x
 | _=>.non
theorem zU{v:V}{z:Value}(r:bd v z)(f:il v=true):nP z=v:=by
 cases v with
 | non=>cases r;rfl
 | bl b=>cases r;rfl
 | int i=>obtain⟨t,rfl⟩:=r;rfl
 | str i=>obtain⟨t,rfl⟩:=r;rfl
 | _=>cases f
theorem zV{A:Around}{s:Shared}{y:V}{u:Value}(e:bd y u)(f:il y=true):∀{c:List V}{a:List Value},bi c a->c.all il=true->(∀z∈a,SeqAt.EqAt A s z u (jr (nP z) y))/\a.map nP=c
 | _,_,.nil,_=>⟨(fun _ h=>nomatch h),rfl⟩
 | _,_,.cons h t,b=>by
  rw[List.all_cons,Bool.and_eq_true] at b;obtain⟨g,h2⟩:=zV (A:=A) (s:=s) e f t b.2;refine⟨fun z d=>?_,?_⟩
  ·rcases List.mem_cons.mp d with rfl | d
   ·rw[zU h b.1];exact FV h e b.1 f
   ·exact g z d
  ·rw[List.map_cons,h2,zU h b.1]
section
variable{X:Cx}{F:Fx}{E:Str->ao->Prop}{e a b c:Expr}{es:List Expr}{st:Stmt}{rest:List Stmt}{pos:Pos}{x:Str}
noncomputable def zW:V->List V->Hp->VK->Prop:=fun x vs H Q=>∃l d y,x=.ref l/\vs=[y]/\H l=some (.lst d)/\d.all il=true/\il y=true/\Q (.int (d.countP fun z=>jr z y:Nat)) H
theorem zX:sO X "list.count" zW:=by
 intro f s Y H x vs v B Q I g i h;obtain⟨l,j,y,rfl,rfl,k,m,o,q⟩:=h;cases g;obtain⟨u,rfl,p⟩:=i.one;obtain⟨z,d,n,r,C,e⟩:=I.lstM k;obtain⟨w,h2⟩:=zV (A:=X.A.in1) (s:=s) p o r m;refine call_meets F.slot_list_count ⟨_,e,rfl⟩ F.entry_list_count (F.args_list_count_2 _ _) (SeqAt.list_countAt l d.toArray n none #[] u fun z=>jr (nP z) y) ⟨e,fun z t=>w z (by simpa using t),?_⟩;refine⟨.int _,H,I.tok _,⟨_,rfl⟩,?_⟩;have:d.countP (fun z=>jr (nP z) y)=j.countP fun z=>jr z y:=by rw[<-h2,List.countP_map];rfl
 rw[this];exact q
@[simp] noncomputable def qo:aj->Option (List PyData)
 | .dat (.list d)=>some d
 | .own _ (.l d)=>some d
 | _=>none
@[simp] noncomputable def jM(U:ao)(i:Nat):Option (List PyData):=match U[i]? with
 | some (some c)=>qo c
 | _=>none
theorem zY{K:Frag}{H:Hp}{Y:St}{U:ao}{O:List Addr}{i:Nat}{j:List PyData}(st:aC K F H Y U O)(h:jM U i=some j):∃p vs,Y[i]? = some (some (.ref p))/\H p=some (.lst vs)/\aI (au O H) vs j:=by
 unfold jM at h;split at h
 ·rename_i c e;unfold qo at h;split at h
  ·cases h;obtain⟨v,d,hd⟩:=st.dat e;obtain⟨p,f,rfl,k,g⟩:=hd.lst_inv;exact⟨p,f,d,(da k).1,g⟩
  ·cases h;obtain⟨p,m,d,⟨_,f,l,g⟩,_⟩:=st.box e;exact⟨p,f,d,l,g⟩
  ·cases h
 ·cases h
@[simp] noncomputable def nQ:PyData->Option V
 | .none=>some .non
 | .bool b=>some (.bl b)
 | .int i=>some (.int i)
 | .str x=>some (.str x)
 | _=>none
@[simp] noncomputable def jN:List PyData->Option (List V)
 | []=>some []
 | d::r=>(match nQ d,jN r with | some v,some l=>some (v::l) | _,_=>none)
theorem zZ{G:Hp}{v w:V}{d:PyData}(h:DV G v d)(e:nQ d=some w):v=w/\il v=true:=by
 cases d with
 | none=>cases e;rw[h.non_inv];exact⟨rfl,rfl⟩
 | bool b=>cases e;rw[h.bl_inv];exact⟨rfl,rfl⟩
 | int b=>cases e;rw[h.int_inv];exact⟨rfl,rfl⟩
 | str b=>cases e;rw[h.str_inv];exact⟨rfl,rfl⟩
 | _=>cases e
theorem Aa{G:Hp}:∀{vs g:List V}{f:List PyData},aI G vs f->jN f=some g->vs=g/\vs.all il=true
 | [],_,[],.nil,e=>by cases e;exact⟨rfl,rfl⟩
 | v::vs,_,d::f,.cons h t,e=>by
  unfold jN at e;cases h1:nQ d with
  | none=>rw[h1] at e;cases e
  | some w=>
   cases h2:jN f with
   | none=>rw[h1,h2] at e;cases e
   | some l=>rw[h1,h2] at e;cases e;obtain⟨i,f1⟩:=zZ h h1;obtain⟨j,f2⟩:=Aa t h2;exact⟨by rw[i,j],by rw[List.all_cons,f1,f2];rfl⟩
@[simp] noncomputable def gT(d:List PyData)(y:PyData):Option PyData:=match jN d,nQ y with
 | some f,some w=>some (.int (f.countP fun z=>jr z w:Nat))
 | _,_=>none
@[simp] noncomputable def Ab(g:List PyData->PyData->Option PyData)(i:Nat)(d:PyData):XM PyData:=fun U=>bn (match jM U i with
 | some f=>g f d
 | none=>none) U
@[simp] noncomputable def qp(g:List PyData->PyData->Option PyData)(i:Nat)(m:XM PyData):XM PyData:=fun U=>match jM U i with
 | some _=>(m U).bind (Ab g i)
 | none=>.bad
theorem Ac{i:Nat}{m:XM PyData}{s apos f:Pos}{I:Str}{id:String}{r:V->List V->Hp->VK->Prop}{g:List PyData->PyData->Option PyData}(slot:Slot "list" I id)(J:typeOf (.builtin id)=pure (.type "method_descriptor"))(hm:sO X id r)
  (hg:∀G l Z C y d z H Q,H l=some (.lst Z)->aI G Z C->DV G y d->g C d=some z->(∀u,DV G u z->Q u H)->r (.ref l) [y] H Q)
  (hv:PE X (.Name x s) (dN i)) (he:FE X F E e m)
  (j:attributeBase (.Name x s) I X.env (eval (.Name x s) X.env)=eval (.Name x s) X.env:=by rfl)
  (t:((backTo f (starEach [e] X.env)).all (fun x=>!x.1)&&(backToKw f (keywordEach [] X.env)).all (fun x=>x.1.isSome)&&decide (([e]:List Expr).length+([]:List Keyword).length+(if ([]:List Keyword).isEmpty then 0 else 1)<30))=true:=by rfl)
  (n:(apos.endLine==f.line)=true:=by rfl) (hs:starEach [e] X.env=(false,eval e X.env)::starEach [] X.env:=by rfl) (h:(backTo f (starEach [] X.env)).any (·.1)=false:=by rfl) :
  FE X F E (.Call (.Attribute (.Name x s) I apos) [e] [] f) (qp g i m):=
 ⟨az,(xJ PySem.F.plainAttrs_list slot J hm hv (fA he.pe fL hs) j t n hs h).imp fun Y H Q ⟨U,O,st,q⟩=>by
  unfold wp qp at q;cases L:jM U i with
  | none=>rw[L] at q;exact q.elim
  | some a0=>
   rw[L] at q;obtain⟨p,M,v,N,_⟩:=zY st L;refine⟨_,v,.inl ⟨rfl,M,.of N⟩,U,O,st,az _ _ _ (fun d R q1 w H1 O1 A s1 d1=>?_) (bK (m:=m) (k:=Ab g i) q)⟩;obtain⟨z,D,q2⟩:=cS (o:=match jM R i with | some C=>g C d | none=>none) (U:=R) (E:=E) q1;cases h1:jM R i with
   | none=>rw[h1] at D;cases D
   | some a1=>
    rw[h1] at D;obtain⟨p',a2,B,S,T⟩:=zY A h1;rw[v] at B;cases B;exact hg _ _ _ _ _ _ _ _ _ S T d1 D fun u hu=>q2 u H1 O1 A s1 hu⟩
theorem Ad:∀G l f g y d z H Q,H l=some (.lst f)->aI G f g->DV G y d->gT g d=some z->(∀u,DV G u z->Q u H)->zW (.ref l) [y] H Q:=fun G l f g y d z H Q h i j e q=>by
 unfold gT at e;split at e
 ·rename_i k w h1 h2;cases e;obtain⟨rfl,f1⟩:=Aa i h1;obtain⟨rfl,f2⟩:=zZ j h2;exact⟨l,f,y,rfl,rfl,h,f1,f2,q _ (.int _)⟩
 ·cases e
end
section
variable{X:Cx}{F:Fx}{E:Str->ao->Prop}{e a b c:Expr}{es:List Expr}{st:Stmt}{rest:List Stmt}{pos:Pos}{x:Str}
@[simp] noncomputable def nR(U:ao)(i:Nat):Option (Bool×List PyData):=match U[i]? with
 | some (some (.own io (.l d)))=>some (io,d)
 | _=>none
theorem KJ{U:ao}{i:Nat}{io:Bool}{d:List PyData}(h:nR U i=some (io,d)):U[i]? = some (some (.own io (.l d))):=by
 unfold nR at h;split at h
 ·rename_i e;cases h;exact e
 ·cases h
end
section
variable{X:Cx}{F:Fx}{E:Str->ao->Prop}{e a b c:Expr}{es:List Expr}{st:Stmt}{rest:List Stmt}{pos:Pos}{x:Str}{ma mb mc:XM PyData}
@[simp] noncomputable def cH:=gI fun i j=>.int (i+j)
@[simp] noncomputable def dG:=gI fun i j=>.int (i - j)
@[simp] noncomputable def kN:=kz iX fun i j=>.int (i * j)
@[simp] noncomputable def qr:=kz kA fun i j=>.int (i / j)
@[simp] noncomputable def kO:=kz nC fun i j=>.int (i % j)
@[simp] noncomputable def jO:=gI fun i j=>.bool (decide (i<j))
@[simp] noncomputable def jP:=gI fun i j=>.bool (decide (i<=j))
@[simp] noncomputable def jf:=gI fun i j=>.bool (decide (j<i))
theorem cN(d:FE X F E a ma)(f:FE X F E b mb):FE X F E (.BinOp a .Add b pos) (ag cH ma mb):=fD jD (JA d f)
theorem dI(d:FE X F E a ma)(f:FE X F E b mb):FE X F E (.BinOp a .Sub b pos) (ag dG ma mb):=fD jD (JB d f)
theorem nU(d:FE X F E a ma)(f:FE X F E b mb):FE X F E (.BinOp a .Mult b pos) (ag kN ma mb):=fD (pU Ka) (JC d f)
theorem uz(d:FE X F E a ma)(f:FE X F E b mb):FE X F E (.BinOp a .FloorDiv b pos) (ag qr ma mb):=fD (pU Kb) (JD d f)
theorem nV(d:FE X F E a ma)(f:FE X F E b mb):FE X F E (.BinOp a .Mod b pos) (ag kO ma mb):=fD (pU Kc) (JE d f)
theorem nW(d:FE X F E a ma)(f:FE X F E b mb):FE X F E (.BinOp a .Add b pos) (ag iZ ma mb):=fD Kf (JF d f)
theorem Ae(d:FE X F E a ma)(f:FE X F E b mb):FE X F E (.BinOp a .Add b pos) (ag nE ma mb):=fD Kg (JV d f)
theorem KL(d:FE X F E a ma)(f:FE X F E b mb):FE X F E (.Compare a [.Lt] [b] pos) (ag jO ma mb):=fD jD (JG d f)
theorem Af(d:FE X F E a ma)(f:FE X F E b mb):FE X F E (.Compare a [.Gt] [b] pos) (ag jf ma mb):=fD jD (JH d f)
theorem qt(d:FE X F E a ma)(f:FE X F E b mb):FB X F E (.Compare a [.Lt] [b] pos) (bt (ag jO ma mb)):=jC jD (JI d f)
theorem kP(d:FE X F E a ma)(f:FE X F E b mb):FB X F E (.Compare a [.LtE] [b] pos) (bt (ag jP ma mb)):=jC jD (JK d f)
theorem qu(d:FE X F E a ma)(f:FE X F E b mb):FB X F E (.Compare a [.Gt] [b] pos) (bt (ag jf ma mb)):=jC jD (JL d f)
theorem kQ(d:X.A.units+64<cLine)(f:FE X F E a ma)(g:FE X F E b mb):FE X F E (.Compare a [.Eq] [b] pos) (ag (aT false) ma mb):=fD tV (JM d f g)
theorem jQ(d:X.A.units+64<cLine)(f:FE X F E a ma)(g:FE X F E b mb):FB X F E (.Compare a [.Eq] [b] pos) (bt (ag (aT false) ma mb)):=jC tV (JN d f g)
theorem nX(d:X.A.units+64<cLine)(f:FE X F E a ma)(g:FE X F E b mb):FB X F E (.Compare a [.NotEq] [b] pos) (bt (ag (aT true) ma mb)):=jC tV (JO d f g)
theorem uA(d:FE X F E a ma)(f:FE X F E b mb):FE X F E (.Compare a [.Is] [b] pos) (ag iY ma mb):=fD ze (JP d f)
theorem KM(d:FE X F E a ma)(f:FE X F E b mb):FB X F E (.Compare a [.Is] [b] pos) (bt (ag iY ma mb)):=jC ze (JQ d f)
theorem Ag(d:FE X F E a ma)(f:FE X F E b mb):FB X F E (.Compare a [.IsNot] [b] pos) (bt (ag gM ma mb)):=jC Ke (JR d f)
theorem KN(d:FE X F E a ma)(h:FE X F E b mb)(f:FE X F E c mc)(g:lastMarks [.LtE,.LtE] [b,c]=false:=by with_unfolding_all rfl):FE X F E (.Compare a [.LtE,.LtE] [b,c] pos) (tW (fun i j=>decide (i<=j)) (fun i j=>decide (i<=j)) ma mb mc):=Ki (JS d h f g)
@[simp] noncomputable def bo:PyData->PyData->Option PyData:=fun x y=>match x,y with
 | .tuple d,.int i=>cu d i
 | .list d,.int i=>cu d i
 | _,_=>none
noncomputable def Ah:D2:=fun x y Q=>ye x y Q\/yf x y Q
theorem KO{K:Frag}:et (fun x y H Q=>sQ K x y H Q\/sP K x y H Q) Ah where
 mn:=fun x y Q Q' k h=>h.imp (yh (K:=K).mn x y Q Q' k) (yi (K:=K).mn x y Q Q' k)
 ok:=fun O H u v x y Q hO h1 h2 h=>h.imp (yh.ok O H u v x y Q hO h1 h2) (yi.ok O H u v x y Q hO h1 h2)
theorem KP:F2 Ah bo:=fun x y d Q e q=>by
 unfold bo at e;split at e
 ·exact .inl ⟨_,_,_,rfl,rfl,e,q⟩
 ·exact .inr ⟨_,_,_,rfl,rfl,e,q⟩
 ·cases e
theorem bv(d:FE X F E a ma)(g:FE X F E b mb)(f:pC b:=by intro _ _;rfl):FE X F E (.Subscript a b pos) (ag bo ma mb):=fD KP (Hh (ik.or FL xH) KO d g f)
end
noncomputable def uB:Expr->Bool
 | .Starred ..=>true
 | _=>false
theorem uC{e:Expr}{b:List Expr}{a:Env}(h:uB e=false):starEach (e::b) a=(false,eval e a)::starEach b a:=by cases e<;>first | rfl | cases h
section
variable{X:Cx}{F:Fx}{E:Str->ao->Prop}{e a b c:Expr}{es:List Expr}{pos:Pos}{x:Str}
theorem aO{d:XM PyData}{f:XM (List PyData)}(g:FE X F E e d)(h:FA X F E es f)(i:uB e=false:=by rfl):FA X F E (e::es) (aG d f):=Kj g h (uC i)
theorem al{d:XM PyData}{f:XM (List AX)}(g:FE X F E e d)(h:FX X F E es f)(i:uB e=false:=by rfl):FX X F E (e::es) (ak d f):=Kr g h (uC i)
theorem cq{p:Pos}{j:Nat}{d:XM (List AX)}(f:PE X (.Name x p) (dN j))(g:FX X F E es d):FX X F E (.Name x p::es) (ca j d):=Ks f g (uC rfl)
end
section
variable{X:Cx}{F:Fx}{E:Str->ao->Prop}{e a b c:Expr}{es:List Expr}{pos:Pos}{x:Str}{ma mb:XM PyData}
@[simp] noncomputable def Ai:=kz pV fun i j=>.int (i ^ j.toNat)
theorem KQ(d:FE X F E a ma)(f:FE X F E b mb):FE X F E (.BinOp a .Pow b pos) (ag Ai ma mb):=fD (pU Kd) (JX d f)
noncomputable def Aj(t:cW):dF:=fun U Q=>t U fun d f=>∃i j:Int,d=[.int i,.int j]/\(-(2 ^ 62)<=i/\i<2 ^ 62/\-(2 ^ 62)<=j/\j<2 ^ 62)/\Q (intsFrom i (j - i).toNat) f
theorem Ak{m:Expr}{l:cW}{p:Pos}(n:Gl X "range")(o:X.mg "range" = none)(d:DA X F [a,b] l)(r:starEach [a,b] X.env=[(false,eval a X.env),(false,eval b X.env)]:=by rfl)(f:starEach [b] X.env=[(false,eval b X.env)]:=by rfl):DI X F m (.Call (.Name "range" p) [a,b] [] pos) (Aj l):=
 ⟨fun _ _ _ k q=>d.mn _ _ _ (fun _ _ ⟨i,j,e,h,q⟩=>⟨i,j,e,h,k _ _ q⟩) q,(EH n o d.pa r f).imp fun Y H R ⟨U,O,st,q⟩=>
  ⟨U,O,st,d.mn _ _ _ (fun B C ⟨i,j,e,h,s⟩ vs t u g v w=>by
   subst e;obtain⟨x,y,rfl,z,A⟩:=nA w;obtain rfl:=z.int_inv;obtain rfl:=A.int_inv;exact⟨i,j,rfl,h,s _ t u g v yB⟩) q⟩⟩
@[simp] noncomputable def dJ:List PyData->Option (List PyData):=fun d=>match d with
 | [.int i,.int j]=>if (decide (-(2 ^ 62)<=i)&&decide (i<2 ^ 62)&&decide (-(2 ^ 62)<=j)&&decide (j<2 ^ 62))=true then some (intsFrom i (j - i).toNat) else none
 | _=>none
theorem Al{f:Expr}{ma:XM (List PyData)}(h:DI X F f e (Aj (wp E ma))):FI X F E f e (gQ dJ ma):=h.imp az fun U Q q=>az _ _ _ (fun j k g=>by
 obtain⟨y,d,i⟩:=cS g;unfold dJ at d;split at d
 ·split at d
  ·rename_i h;cases d;simp only[Bool.and_eq_true,decide_eq_true_eq] at h;exact⟨_,_,rfl,⟨h.1.1.1,h.1.1.2,h.1.2,h.2⟩,i⟩
  ·cases d
 ·cases d) (bK q)
end
end L2.L3
namespace L2
open PySem
section
variable{prog:Program}{w:World}{A:Around}{E:Value->Shared->Prop}{s:Shared}
theorem Am(a d:Value):argsOk "min" ⟨[a],[("default",d)]⟩:=by unfold argsOk;kernel_rfl
theorem An{id:String}{b:Builtin}{args:List Value}{d:List (Str×Value)}{Q:Value->Shared->Prop}(k:builtinKind id=none)(l:plainId id=true)(n:entryFor table id=some b)(m:argsOk id ⟨args,d⟩)
  (i:wpAny (model prog w) A.in1 (b ⟨args,d⟩) (fun fin a=>match fin with
   | .done f=>(match (Except.ok f:Result) with | .ok (.ret v)=>Q v a | .ok _=>False | .error e=>E e a)
   | .again j=>j.quiet=true/\codeAny (model prog w) A j (fun r a=>match r with | .ok (.ret v)=>Q v a | .ok _=>False | .error e=>E e a) a) E s):wpAny (model prog w) A (call (.builtin id) args d) Q E s:=by
 refine wpAny_call (codeAny_call_builtin l n ?_);simp only[checkBuiltinCall,k];cases c:Manifest.signature? id with
 | none=>exact av i
 | some g=>
  have h:Bind.checkArgs id g ⟨args,d⟩=pure ():=by simpa only[argsOk,c] using m
  simp only[h];exact av i
theorem KR{l:Addr}{d:Value}{Q:Value->Shared->Prop}(p:A.handled=none)(k:s.heap.IsList l #[])(q:∀c,(∀b o,s.heap.get? b=some o->c.get? b=some o)->Q d { s with heap:=c }) :
  wpAny (model prog w) A (call (.builtin "min") [.ref l] [("default",d)]) Q E s:=by
 refine An F.kind_min F.plain_min F.entry_min (Am _ _) ?_;show wpAny _ A.in1 (Builtin.Builtins.bindParams "min" ["key","default"] 0 ⟨[],[("default",d)]⟩ >>= _) _ _ s;refine aa (wpAny_of_eq (show Builtin.Builtins.bindParams "min" ["key","default"] 0 ⟨[],[("default",d)]⟩=pure [none,some d] from rfl) ?_);refine aa (av ?_);refine aa (wpAny_pyIter_list k ?_);refine aa (wpAny_newObj_type ?_);have a:(toString "min"++toString ".loop":String)="min.loop":=by decide
 rw[a];obtain⟨ol,f,g,nl,h⟩:=id k;generalize m:(s.heap.push { cls:=.type "list_iterator",data:=.fields #[.ref l,.int 0 0] })=h1;have r:h1.get? s.heap.objs.size=some { cls:=.type "list_iterator",data:=.fields #[.ref l,.int 0 0] }:=by rw[<-m];exact Heap.get?_push_size _ rfl
 have n:∀b o,s.heap.get? b=some o->h1.get? b=some o:=fun b o e=>by rw[<-m];exact aS _ e
 refine av ⟨plainId_quiet F.plain_min_loop _,?_⟩;refine codeAny_builtin F.entry_min_loop ?_;rw[Around.under_plainId F.plain_min_loop _];have t:(h1.push { cls:=.type "list",data:=.seq #[] }).get? h1.objs.size=some { cls:=.type "list",data:=.seq #[] }:=Heap.get?_push_size _ rfl;show wpAny _ A.in1 (seqItems? (.ref h1.objs.size) >>= _) _ _ _;refine aa (wpAny_seqItems t rfl ?_);show wpAny _ A.in1 (tryCatch (pyNext (.ref s.heap.objs.size)) _ >>= _) _ _ _;refine aa (wpAny_tryCatch (wpAny_pyNext_list_end (i:=0) (l:=l) (items:=#[]) p ⟨_,aS _ r,rfl,rfl⟩ ⟨ol,aS _ (n _ _ f),g,nl,h⟩ rfl fun c j=>?_));refine aa (wpAny_rule (av ?_));exact q c fun b o e=>j b o (Nat.ne_of_lt (ba e)) (aS _ (n b o e))
end
section
variable{prog:Program}{w:World}{A:Around}{E:Value->Shared->Prop}{s:Shared}
theorem KS{it t:Addr}{i:Nat}{items:Array Value}{x:Value}{Q:Value->Shared->Prop}(hit:s.heap.IsTupleIter it t i)(e:s.heap.IsTuple t items)(f:items[i]? = some x)
  (g:∀b,b.IsTupleIter it t (i+1)->Heap.SameBut it s.heap b->Q x { s with heap:=b }):wpAny (model prog w) A (Builtin.SmallTypes.nextOf (.ref it)) Q E s:=by
 obtain⟨o,a,h,hd⟩:=id hit;obtain⟨ol,c,_,nl,d⟩:=e;unfold Builtin.SmallTypes.nextOf;refine aa (wpAny_callSpecial?_slot (name:=Str.ofString "__next__") hit.typeIs F.slot_tuple_iterator_next (wpAny_call_entry F.slot_tuple_iterator_next hit.typeIs F.entry_tuple_iterator_next ?_ (F.args_tuple_iterator_next_1 _)));show wpAny _ _ (field (.ref it) 0 >>= _) _ _ s;refine aa (wpAny_field a hd (x:=.ref t) rfl ?_);show wpAny _ _ (if (Value.ref t==Value.none)=true then _ else _) _ _ s;rw[if_neg (by exact Bool.false_ne_true)];show wpAny _ _ (field (.ref it) 1 >>= _) _ _ s;refine aa (wpAny_field a hd (x:=.int i 0) rfl ?_);show wpAny _ _ (seqItems? (.ref t) >>= _) _ _ s;refine aa (wpAny_seqItems c d ?_);simp only[Int.toNat_natCast,f];refine aa (wpAny_setField a hd (by simp) (av ⟨x,rfl,av (g _ ⟨_,Heap.get?_update_self _ a (Obj.isFreed_of_fields (Obj.data_mapFields hd _)),(Obj.cls_mapFields ..).trans h,?_⟩ (Heap.SameBut.update ..))⟩));rw[Obj.data_mapFields hd];simp[rawInt]
theorem KU{it t:Addr}{i:Nat}{items:Array Value}{Q:Value->Shared->Prop}(g:A.handled=none)(hit:s.heap.IsTupleIter it t i)(h:s.heap.IsTuple t items)(j:items[i]? = none)
  (k:∀b e,Heap.ExtBut it s.heap b->(∃o,b.get? e=some o/\o.cls=.type "StopIteration")->E (.ref e) { s with heap:=b }):wpAny (model prog w) A (Builtin.SmallTypes.nextOf (.ref it)) Q E s:=by
 obtain⟨o,c,l,hd⟩:=id hit;obtain⟨ol,d,_,nl,f⟩:=h;unfold Builtin.SmallTypes.nextOf;refine aa (wpAny_callSpecial?_slot (name:=Str.ofString "__next__") hit.typeIs F.slot_tuple_iterator_next (wpAny_call_entry F.slot_tuple_iterator_next hit.typeIs F.entry_tuple_iterator_next ?_ (F.args_tuple_iterator_next_1 _)));show wpAny _ _ (field (.ref it) 0 >>= _) _ _ s;refine aa (wpAny_field c hd (x:=.ref t) rfl ?_);show wpAny _ _ (if (Value.ref t==Value.none)=true then _ else _) _ _ s;rw[if_neg (by exact Bool.false_ne_true)];show wpAny _ _ (field (.ref it) 1 >>= _) _ _ s;refine aa (wpAny_field c hd (x:=.int i 0) rfl ?_);show wpAny _ _ (seqItems? (.ref t) >>= _) _ _ s;refine aa (wpAny_seqItems d f ?_);simp only[Int.toNat_natCast,j];refine aa (wpAny_rule (aa (wpAny_setField c hd (by simp) ?_)));show wpAny _ _ (newExc (.type "StopIteration") [] >>= _) _ _ _;refine aa ?_;simp only[newExc,newTuple];refine aa (wpAny_newObj_type ?_ (by size_fits));refine aa (m:=firstArgMember _ _) (wpAny_of_eq (a:=Value.none) (by first | rfl | (simp only[firstArgMember];rfl)) ?_);refine wpAny_newObj_type ?_ (by size_fits);simp only[raiseNew];refine aa (wpAny_handled ?_)
 first | rw[show A.in1.handled=none from g] | rw[g]
 exact aa (av (wpAny_throw (k _ _ (((Heap.SameBut.update ..).extBut.push _).push _) ⟨_,Heap.get?_push_size _ rfl,rfl⟩)))
end
theorem Ao{prog:Program}{w:World}{A:Around}(hh:A.handled=none)(it l:Addr)(hne:l≠it)(items:Array Value):Draws prog w A it [it,l] items.size (fun i v=>items[i]? = some v) (fun i h=>h.IsTupleIter it l i/\h.IsTuple l items) where
 live:=fun _ _ st=>let⟨o,ho,_⟩:=st.1;⟨o,ho⟩
 frame:=fun _ _ _ st hk=>⟨let⟨o,ho,r⟩:=st.1;⟨o,hk it (by simp) o ho,r⟩,let⟨o,ho,r⟩:=st.2;⟨o,hk l (by simp) o ho,r⟩⟩
 item:=fun i s Q E hi st hQ=>KS st.1 st.2 (x:=items[i]) (by simp[hi]) fun h' hit' hs'=>hQ _ h' s.toks (by simp[hi]) ⟨hit',st.2.extBut hs'.extBut hne⟩ hs'
 done:=fun s Q E st hE=>KU hh st.1 st.2 (by simp) hE
end L2
namespace L2.L3
open PySem PySem.Spec PyProof.Rows
def Ap(O:List Addr)(H:Hp)(J:It)(c:List PyData):Prop:=∀e a,aU O H e a->bX H a->jB a e->
 (∀i d,c[i]? = some d->J.go i a/\∀x b,J.yld i a x b->bX a b/\DV (au e b) x d)/\J.stop c.length a
theorem Wk.S{O:List Addr}{H:Hp}{J:It}{a:List PyData}(h:Wk O H J a):Ap O H J a:=fun b c s _ ok=>h b c s ok
noncomputable def Aq(K:Frag)(F:Fx)(s:dF):TI:=fun Y H R=>∃U O,aC K F H Y U O/\s U fun b d=>∀J a c,aC K F a Y d c->aU O H c a->Ap c a J b->R J a
structure uD (X:Cx) (F:Fx) (tg iter:Expr) (s:dF):Prop where
 mn:nz s
 pi:PI X tg iter (Aq X.K F s)
theorem DI.S{X:Cx}{F:Fx}{d iter:Expr}{s:dF}(h:DI X F d iter s):uD X F d iter s:=⟨h.mn,h.pi.imp fun Y H R ⟨U,O,st,q⟩=>⟨U,O,st,h.mn _ _ _ (fun e i k J f g a b c=>k J f g a b c.S) q⟩⟩
@[simp] noncomputable def uE:Option (Option aj)->Option aj
 | some (some (.own _ b))=>some (.vw b)
 | some (some (.exc _))=>none
 | some o=>o
 | none=>none
noncomputable def gU(own:List Str)(a:List Nat)(U:ao):ao:=own.map (fun _=>none)++a.map fun j=>uE U[j]?
mutual
@[simp] noncomputable def gV:PyData->Bool
 | .int _=>true
 | .bool _=>true
 | .none=>true
 | .str _=>true
 | .tuple ds=>kR ds
 | .list _=>false
 | .dict _=>false
@[simp] noncomputable def kR:List PyData->Bool
 | []=>true
 | d::ds=>gV d&&kR ds
end
theorem Ar:∀a:List PyData,a.all gV=kR a
 | []=>rfl
 | d::a=>by rw[List.all_cons,Ar a,kR]
mutual
theorem KW{G G':Hp}(k:∀a u,¬ Mv u->G a=some u->G' a=some u):∀{v:V}{d:PyData},DV G v d->gV d=true->DV G' v d
 | _,_,.non,_=>.non
 | _,_,.bl b,_=>.bl b
 | _,_,.int i,_=>.int i
 | _,_,.str x,_=>.str x
 | _,_,.tup h r,f=>.tup (h.imp (fun e=>k _ _ id e) fun⟨⟨o,e⟩,z⟩=>⟨⟨o,k _ _ id e⟩,z⟩) (uF k r (by simpa[gV] using f))
theorem uF{G G':Hp}(k:∀a u,¬ Mv u->G a=some u->G' a=some u):∀{vs:List V}{ds:List PyData},aI G vs ds->kR ds=true->aI G' vs ds
 | _,_,.nil,_=>.nil
 | _,_,.cons h t,f=>by rw[kR,Bool.and_eq_true] at f;exact .cons (KW k h f.1) (uF k t f.2)
end
theorem KX{G c:Hp}(k:∀a u,¬ Mv u->G a=some u->c a=some u){vs:List V}{b:List PyData}(h:aI G vs b)(f:b.all gV=true):aI c vs b:=uF k h (by rw[<-Ar];exact f)
noncomputable def qv(own:List Str)(f:List Nat)(s:dF)(g:dX)(l:cG)(m:DT):DT:=fun U Q=>s U fun c j=>∃e:Nat->List PyData->ao->Prop,e 0 [] (gU own f j)/\
 (∀i d a h,c[i]? = some d->e i a h->g d h fun n=>l n fun b k=>if b=true then m k fun y o=>a.length<sizeLine/\e (i+1) (a++[y]) o else e (i+1) a k)/\
 ∀a h,e c.length a h->a.length<=sizeLine/\a.all gV=true/\Q (.list a) j
section
variable{K:Frag}{F:Fx}{own:List Str}{caps:List Nat}{s:dF}{g:dX}{tc:cG}{te:DT}
theorem KY(c:nz s):Mn (qv own caps s g tc te):=fun _ _ _ k q=>c _ _ _ (fun _ _ ⟨d,e,h1,h2⟩=>⟨d,e,h1,fun a b h=>⟨(h2 a b h).1,(h2 a b h).2.1,k _ _ (h2 a b h).2.2⟩⟩) q
theorem KZ{PF:Fx->Prop}(hP:∀k Y A I O2,aC K F k Y A I->PF ⟨k,[],O2,fun _=>0⟩)(hs:nz s)(hg:∀d U Q Q',(∀B,Q B->Q' B)->g d U Q->g d U Q')(ht:iR tc)(he:Mn te):∀Y H Q,gJ K F (qv own caps s g tc te) Y H Q->
  mZ own caps (Aq K F s) (fun v Y H Q=>∃L,PF L/\tL K L g v Y H Q) (fun Y H Q=>∃L,PF L/\kt K L tc Y H Q) (fun Y H Q=>∃L,PF L/\gJ K L te Y H Q) Y H Q:=fun Y H Q ⟨U,O,st,q⟩=>by
 refine⟨U,O,st,hs _ _ _ (fun f A ⟨Iv,i0,step,fin⟩ J k I n s1 wk=>?_) q⟩;obtain⟨W,T,X⟩:=id n;let V:List Addr:=(caps.map fun j=>(W[j]?).getD []).flatten;let r:List Addr:=I.filter fun a=>decide (a∉V);have sub:∀a∈r,a∈I:=fun a h=>(List.mem_filter.mp h).1;have a2:r.Nodup:=by
  have:I.Nodup:=by rw[X];exact T.nd
  exact this.filter _
 have a3:∀j∈caps,∀l,W[j]? = some l->∀a∈l,a∉r:=fun j hj l hl a ha z=>by have h1:=(List.mem_filter.mp z).2;simp only[decide_eq_true_eq] at h1;exact h1 (List.mem_flatten.mpr ⟨l,List.mem_map.mpr ⟨j,hj,by rw[hl];rfl⟩,ha⟩)
 have Z:∀j∈caps,∀c,uE A[j]? = some c->(∀io b,c≠.own io b)/\∃v,Y[j]? = some (some v)/\dr K k r v c []:=fun j hj c w=>by
  cases h3:A[j]? with
  | none=>rw[h3] at w;cases w
  | some o=>
   cases o with
   | none=>rw[h3] at w;cases w
   | some c'=>
    rw[h3] at w;obtain⟨v,fp,t,e0,C⟩:=T.at_ j c' h3;rw[<-X] at C;have D:aU I k r k:=gK sub;cases c' with
    | dat d=>cases w;exact⟨(fun _ _ z=>by cases z),v,t,dr.keep (c:=.dat d) (fp:=[]) C D (fun _ _=>rfl) fun _ _ _ e=>e⟩
    | scr ns=>cases w;exact⟨(fun _ _ z=>by cases z),v,t,dr.keep (c:=.scr ns) (fp:=[]) C D (fun _ _=>rfl) fun _ _ _ e=>e⟩
    | exc _=>cases w
    | vw b=>cases w;exact⟨(fun _ _ z=>by cases z),v,t,dr.keep (c:=.vw b) (fp:=[]) C D (fun _ _=>rfl) fun _ _ _ e=>e⟩
    | own io b=>cases w;obtain⟨a,ev,q2⟩:=C;refine⟨(fun _ _ z=>by cases z),v,t,a,fp,ev,q2.keep (fun c hc=>?_) D.hid⟩;obtain⟨o,eo,_⟩:=q2.live c hc;rw[eo];exact gG eo (a3 j hj fp e0 c hc)
 refine⟨fun i m ys Y' N=>∃B R M,aC K ⟨k,[],r,fun _=>0⟩ N Y' B R/\Iv i M B/\aI (au R N) ys M/\i<=f.length/\m=f.length - i,⟨f.length,gU own caps A,r,[],?_,i0,.nil,Nat.zero_le _,rfl⟩,?_⟩
 ·have cell:∀(i:Nat) (c:aj),(gU own caps A)[i]? = some (some c)->(∀io b,c≠.own io b)/\∃v,(eV own caps Y)[i]? = some (some v)/\dr K k r v c []:=fun i c e=>by
   unfold gU at e;unfold eV
   by_cases hi:i<own.length
   ·rw[List.getElem?_append_left (by simpa using hi),List.getElem?_map] at e;cases h:own[i]? with
    | none=>rw[h] at e;cases e
    | some y=>rw[h] at e;cases e
   ·rw[List.getElem?_append_right (by simpa using Nat.le_of_not_lt hi),List.length_map,List.getElem?_map] at e;rw[List.getElem?_append_right (by simpa using Nat.le_of_not_lt hi),List.length_map,List.getElem?_map];obtain⟨j,h1,w⟩:=Option.map_eq_some_iff.mp e;rw[h1];show _/\∃v,some ((Y[j]?).getD none)=some (some v)/\_;obtain⟨n1,v,t,C⟩:=Z j (List.mem_of_getElem? h1) c w;rw[t];exact⟨n1,v,rfl,C⟩
  have ln:(gU own caps A).length=(eV own caps Y).length:=by unfold gU eV;simp
  have fl:(List.replicate (gU own caps A).length ([]:List Addr)).flatten++r=r:=by rw[nv];rfl
  refine⟨List.replicate (gU own caps A).length [],⟨fun i c e=>?_,by show(_++r).Nodup;rw[fl];exact a2,fun _ _ _ h=>h,fun a h=>?_,by show jB k (_++r);rw[fl];exact fun a ha=>n.live a (sub a ha),ln,by simp,fun i b e=>absurd rfl ((cell i _ e).1 true b)⟩,fl.symm⟩
  ·obtain⟨_,v,t,C⟩:=cell i c e;refine⟨v,[],t,?_,by show dr K k (_++r) v c [];rw[fl];exact C⟩;rw[List.getElem?_replicate,if_pos (List.getElem?_eq_some_iff.mp e).1]
  ·rw[nv] at h;cases h
 ·rintro i m ys Y' N ⟨B,R,M,E,iv,dv,hi,rfl⟩;have S:bX k N:=fun b o e=>by obtain⟨W',h',_⟩:=id E;exact h'.kept b o (by simp) e
  have bH:aU I k R N:=⟨fun b o _ e=>S b o e,fun a h=>by
   obtain⟨W',h',rfl⟩:=id E;rcases List.mem_append.mp h with h | h
   ·exact(h'.new a h).elim (fun z=>absurd z (by simp)) .inr
   ·exact .inl (sub a h)⟩
  obtain⟨w1,w2⟩:=wk R N bH S E.live
  by_cases G:i<f.length
  ·obtain⟨go,yld⟩:=w1 i f[i] (List.getElem?_eq_getElem G);refine .inr ⟨go,fun x H2 hy=>?_⟩;obtain⟨a0,dx⟩:=yld x H2 hy;refine⟨⟨k,[],r,fun _=>0⟩,hP _ _ _ _ _ n,B,R,f[i],E.grow a0,dx,hg _ _ _ _ (fun U2 q2 Y3 H3 O3 a4 s3=>?_) (step i f[i] M B (List.getElem?_eq_getElem G) iv)⟩;refine⟨⟨k,[],r,fun _=>0⟩,hP _ _ _ _ _ n,U2,O3,a4,ht _ _ _ (fun b U3 q3 H4 O4 a1 s4=>?_) q2⟩;have d4:aI (au O4 H4) ys M:=aI.mono s4.hid (aI.mono s3.hid (aI.mono (ng a0) dv));cases b with
   | false=>exact dO ⟨f.length - (i+1),by omega,U3,O4,M,a1,iu q3,d4,G,rfl⟩
   | true=>refine dP ⟨⟨k,[],r,fun _=>0⟩,hP _ _ _ _ _ n,U3,O4,a1,he _ _ _ (fun y U4 q4 v H5 O5 a5 s5 dy=>?_) (ir q3)⟩;refine⟨by rw[d4.length];exact q4.1,f.length - (i+1),by omega,U4,O5,M++[y],a5,q4.2,(aI.mono s5.hid d4).append (.cons dy .nil),G,rfl⟩
  ·have e:i=f.length:=by omega
   subst e;obtain⟨hz,a6,q⟩:=fin M B iv;refine .inl ⟨w2,by rw[dv.length];exact hz,fun p hp=>?_⟩;have a7:k p=none:=by
    cases e:k p with
    | none=>rfl
    | some o=>rw[S p o e] at hp;cases hp
   exact q _ _ I (n.grow fun b o e=>bZ hp _ _ (S b o e)) (s1.trans (.same fun b o e=>bZ hp _ _ (S b o e))) (jx hp (n.nofree p a7) (KX (fun a u nm e=>by
    obtain⟨t,_⟩:=da e;refine gG t fun z=>?_;obtain⟨o,eo,mo⟩:=n.live a z;rw[S a o eo] at t;cases t;exact nm mo) dv a6))
end
section
variable{X:Cx}{F:Fx}{scope:Scope}{own capN:List Str}{caps:List Nat}{tg iter elt:Expr}{ifs:List Expr}{s:dF}{g:dX}{tc:cG}{te:DT}{pos:Pos}
theorem La(k:GF X.mg F)(S:ai X scope own capN caps)(l:X.calm=true)(j:uD X F tg iter s)
  (c:∀C d e f h b,GF X.mg b->DG (bY X scope (own++capN) C d e f h) b tg g/\kw (bY X scope (own++capN) C d e f h) b ifs tc/\DE (bY X scope (own++capN) C d e f h) b elt te)
  (m:∀x,foldedSetIterable iter X.env x=pure x:=by intro _;rfl):DE X F (.ListComp elt [⟨tg,iter,ifs,0⟩] scope pos) (qv own caps s g tc te):=by
 obtain⟨n,o,p⟩:=c 0 [] (PySem.start X.prog).1 (fun _=>none) [] F k;refine⟨KY j.mn,(xX S l j.pi (fun C d e f h=>⟨fun a s Y H v u Q I r ⟨b,i,q⟩=>(c C d e f h b i).1.pg a s Y H v u Q I r q,fun a s Y H Q I ⟨b,i,q⟩=>(c C d e f h b i).2.1.2 a s Y H Q I q,fun a s Y H Q I ⟨b,i,q⟩=>(c C d e f h b i).2.2.pe a s Y H Q I q⟩) m).imp (KZ (fun _ _ _ _ _ st=>k.into st) j.mn n.mn o.1 p.mn)⟩
end
@[simp] noncomputable def qw(own:Nat)(a:List Nat)(U:ao):ao:=List.replicate own none++a.map fun j=>uE U[j]?
@[simp] noncomputable def As(own:Nat)(a:List Nat)(g:GM)(t:XM Bool)(m:XM PyData)(b:List PyData):XM PyData:=fun d=>bn ((cZ g t m b [] (qw own a d)).bind fun c=>if c.length<=sizeLine/\c.all gV=true then some (.list c) else none) d
@[simp] noncomputable def nY(own:Nat)(a:List Nat)(s:XM (List PyData))(g:GM)(t:XM Bool)(m:XM PyData):XM PyData:=fun U=>(s U).bind (As own a g t m)
section
variable{X:Cx}{F:Fx}{E:Str->ao->Prop}{pos:Pos}
theorem Lb{own:List Str}{f:List Nat}{s:XM (List PyData)}{g:GM}{t:XM Bool}{m:XM PyData}{U:ao}{Q:PyData->ao->Prop}(q:wp E (nY own.length f s g t m) U Q):qv own f (wp E s) (ff g) (wp gw t) (wp gw m) U Q:=az _ _ _ (fun l p C=>by
 obtain⟨y,D,z⟩:=cS (o:=(cZ g t m l [] (qw own.length f p)).bind fun n=>if n.length<=sizeLine/\n.all gV=true then some (PyData.list n) else none) (U:=p) (E:=E) (Q:=Q) C;obtain⟨j,G,r⟩:=Option.bind_eq_some_iff.mp D;have u:(j.length<=sizeLine/\j.all gV=true)/\y=.list j:=by
  split at r
  ·rename_i h;cases r;exact⟨h,rfl⟩
  ·cases r
 have H:gU own f p=qw own.length f p:=by unfold gU qw;rw[List.map_const']
 refine⟨fun i n U=>cZ g t m (l.drop i) n U=some j,by rw[H];exact G,fun i d n U hd a=>?_,fun n U h=>?_⟩
 ·have e:l.drop i=d::l.drop (i+1):=by obtain⟨v,I⟩:=List.getElem?_eq_some_iff.mp hd;rw[<-I];exact List.drop_eq_getElem_cons v
  simp only[e] at a;unfold cZ at a;unfold ff;cases A:g d U with
  | none=>rw[A] at a;cases a
  | some J=>
   rw[A] at a;simp only at a ⊢;unfold wp;cases w:t J with
   | ex c B=>rw[w] at a;cases a
   | bad=>rw[w] at a;cases a
   | ok b B=>
    rw[w] at a;cases b with
    | false=>exact dO a
    | true=>
     refine dP ?_;simp only at a ⊢;cases x:m B with
     | ex c L=>rw[x] at a;cases a
     | bad=>rw[x] at a;cases a
     | ok M L=>
      rw[x] at a;simp only at a ⊢;split at a
      ·rename_i h;exact⟨h,a⟩
      ·cases a
 ·simp only[List.drop_length] at h;have:n=j:=by unfold cZ at h;exact Option.some.inj h
  subst this;rw[u.2] at z;exact⟨u.1.1,u.1.2,z⟩) (bK (k:=As own.length f g t m) q)
theorem DE.imp'{e:Expr}{t t':DT}(h:DE X F e t)(a:Mn t')(k:∀U Q,t' U Q->t U Q):DE X F e t':=⟨a,h.pe.imp fun Y H Q ⟨U,O,st,q⟩=>⟨U,O,st,k U _ q⟩⟩
theorem Lc{a:Scope}{own b:List Str}{c:List Nat}{h iter d:Expr}{e:List Expr}{s:XM (List PyData)}{g:GM}{t:XM Bool}{m:XM PyData}{n:Nat}(p:GF X.mg F)(S:ai X a own b c)(r:X.calm=true)(u:own.length=n)(v:uD X F h iter (wp E s))
  (i:∀C j k l o f,GF X.mg f->FG (bY X a (own++b) C j k l o) f h g/\nM (bY X a (own++b) C j k l o) f gw e t/\FE (bY X a (own++b) C j k l o) f gw d m)
  (w:∀x,foldedSetIterable iter X.env x=pure x:=by intro _;rfl):FE X F E (.ListComp d [⟨h,iter,e,0⟩] a pos) (nY n c s g t m):=by
 subst u;exact DE.imp' (La p S r v i w) az fun U Q q=>Lb q
theorem aC.view{K:Frag}{H:Hp}{Y:St}{U:ao}{O:List Addr}(st:aC K F H Y U O){i:Nat}{b:Bx}(e:U[i]? = some (some (.vw b))):∃a d,Y[i]? = some (some (.ref a))/\fB (au O H) (au O H) a b d:=by obtain⟨W,h,rfl⟩:=st;obtain⟨v,d,h1,h2,a,c,rfl,h3⟩:=h.at_ i _ e;exact⟨a,c,h1,h3⟩
end
end L2.L3
namespace L2
open PySem PyProof.Rows
def uG(h:Heap)(a:List Value)(rows:List (List Int)):Prop:=a.length=rows.length/\∀(i:Nat) (v:Value),a[i]? = some v->∃(T:Addr) (items:Array Value) (r:List Int),v=.ref T/\IsTup h T items/\rows[i]? = some r/\IntsAre items.toList r
noncomputable abbrev fV(rows:List (List Int)):Nat->Nat->Bool:=fun i j=>HT.lexLt (rows.getD i []) (rows.getD j [])
section
variable{prog:Program}{w:World}{A:Around}{R:Result->Shared->Prop}{E:Value->Shared->Prop}{s:Shared}{h0:Heap}{I l S:Addr}{its:Array Value}{rows:List (List Int)}{d:Value}
theorem Ld{Q:Value->Shared->Prop}{i j:Nat}{u v:Value}(g:A.units<cLine)(a:uG h0 its.toList rows)(f:∀b o,h0.get? b=some o->s.heap.get? b=some o)(h:its[i]? = some u)(k:its[j]? = some v)(q:Q (.bool (fV rows i j)) s):wpAny (model prog w) A (richCompare .Lt u v) Q E s:=by
 obtain⟨T,m,r,rfl,n,p,t⟩:=a.2 i u (by simpa using h);obtain⟨c,y,z,rfl,B,C,D⟩:=a.2 j v (by simpa using k);have G:rows.getD i []=r:=by rw[List.getD_eq_getElem?_getD,p];rfl
 have H:rows.getD j []=z:=by rw[List.getD_eq_getElem?_getD,C];rfl
 unfold fV at q;rw[G,H] at q;have J:IsTup s.heap T m:=let⟨o,e,x⟩:=n;⟨o,f _ _ e,x⟩;have L:IsTup s.heap c y:=let⟨o,e,x⟩:=B;⟨o,f _ _ e,x⟩;exact(HT.lt_tupInts J L t D g q:wpAny (model prog w) A (compareOp .Lt (.ref T) (.ref c)) Q E s)
theorem Le(T:A.handled=none)(U:A.in1.units<cLine)(X:uG h0 its.toList rows)(L:h0.IsList l its)(hI:h0.objs.size<=I)(Y:h0.objs.size<=S)(q:I≠S) :
  ∀(k j:Nat) (s:Shared) (n:Value) (c:Nat),its.size - (j+1)=k->j+1<=its.size->(∀b o,h0.get? b=some o->s.heap.get? b=some o)->s.heap.IsListIter I l (j+1)->its[argBest (fV rows) j]? = some n->
  s.heap.get? S=some { cls:=.type "list",dict:=none,data:=.seq #[n,n] c,slots:=#[] }->
  (∀v u y,its[argBest (fV rows) (its.size - 1)]? = some v->(∀b o,h0.get? b=some o->u.get? b=some o)->R (.ok (.ret v)) { s with heap:=u,toks:=y })->
  codeAny (model prog w) A (.builtin "min.loop" ⟨[.ref I,.none,.ref S],[("default",d)]⟩) R s:=by
 have a:(toString "min"++toString ".loop":String)="min.loop":=by decide
 have M:∀{b:Addr}{o:Obj},h0.get? b=some o->b≠I:=fun e z=>by subst z;exact absurd (ba e) (Nat.not_lt.mpr hI)
 have N:∀{b:Addr}{o:Obj},h0.get? b=some o->S≠b:=fun e z=>by subst z;exact absurd (ba e) (Nat.not_lt.mpr Y)
 intro k
 induction k with
 | zero=>
  intro j s n c Z hj C hit G f D;have H:j+1=its.size:=by omega
  refine codeAny_builtin F.entry_min_loop ?_;rw[Around.under_plainId F.plain_min_loop _];show wpAny _ A.in1 (seqItems? (.ref S) >>= _) _ _ s;refine aa (wpAny_seqItems f rfl ?_);show wpAny _ A.in1 (tryCatch (pyNext (.ref I)) _ >>= _) _ _ s;refine aa (wpAny_tryCatch (wpAny_pyNext_list_end T hit (L.at fun o e=>C _ _ e) (by simp;omega) fun Q g=>?_));have h:=g S _ (Ne.symm q) f;show wpAny _ A.in1 (updateSeq S (fun _=>#[]) >>= _) _ _ _;refine aa (wpAny_updateSeq h rfl (aa (wpAny_letGo (av ?_))));refine D n _ _ (by rw[<-H];exact G) fun b o e=>?_;exact(Heap.get?_update_other _ _ (N e)).trans (g _ _ (M e) (C _ _ e))
 | succ k O=>
  intro j s n c Z hj C hit G f D;have m:j+1<its.size:=by omega
  refine codeAny_builtin F.entry_min_loop ?_;rw[Around.under_plainId F.plain_min_loop _];show wpAny _ A.in1 (seqItems? (.ref S) >>= _) _ _ s;refine aa (wpAny_seqItems f rfl ?_);show wpAny _ A.in1 (tryCatch (pyNext (.ref I)) _ >>= _) _ _ s;refine aa (wpAny_tryCatch (wpAny_pyNext_list_item hit (L.at fun o e=>C _ _ e) (x:=its[j+1]) (by simp[m]) fun Q p g=>?_));have h:=g.extBut S _ (Ne.symm q) f;have r:∀b o,h0.get? b=some o->Q.get? b=some o:=fun b o e=>g.extBut _ _ (M e) (C _ _ e);show wpAny _ A.in1 (tryCatch (holding [its[j+1],its[j+1]] (richCompare .Lt its[j+1] n >>= _)) _ >>= _) _ _ _;refine aa (wpAny_tryCatch (wpAny_holding (aa (Ld (i:=j+1) (j:=argBest (fV rows) j) U X r (by simp[m]) G ?_))));refine aa (wpAny_holding (wpAny_truthy_bool ?_));refine aa (wpAny_letGo (av ?_));cases B:fV rows (j+1) (argBest (fV rows) j) with
  | true=>simp only[if_true];refine aa (wpAny_updateSeq h rfl (aa (wpAny_letGo ?_)));rw[a];refine av ⟨plainId_quiet F.plain_min_loop _,O (j+1) _ its[j+1] _ (by omega) m (fun b o e=>(Heap.get?_update_other _ _ (N e)).trans (r _ _ e)) (p.at fun o e=>(Heap.get?_update_other _ _ (Ne.symm q)).trans e) (by simp only[argBest,B,if_true];simp[m]) (Heap.get?_update_self _ h rfl) fun v u y J t=>D v u y J t⟩
  | false=>simp only[Bool.false_eq_true,if_false];refine aa (wpAny_letGo ?_);rw[a];exact av ⟨plainId_quiet F.plain_min_loop _,O (j+1) _ n c (by omega) m r p (by simp only[argBest,B,Bool.false_eq_true,if_false];exact G) h fun v u y J t=>D v u y J t⟩
theorem Lf{Q:Value->Shared->Prop}(t:A.handled=none)(u:A.in1.units<cLine)(j:s.heap.IsList l its)(y:uG s.heap its.toList rows)(k:0<its.size)(B:∀v h m,its[argBest (fV rows) (its.size - 1)]? = some v->(∀b o,s.heap.get? b=some o->h.get? b=some o)->Q v { s with heap:=h,toks:=m }) :
  wpAny (model prog w) A (call (.builtin "min") [.ref l] [("default",d)]) Q E s:=by
 refine An F.kind_min F.plain_min F.entry_min (Am _ _) ?_;show wpAny _ A.in1 (Builtin.Builtins.bindParams "min" ["key","default"] 0 ⟨[],[("default",d)]⟩ >>= _) _ _ s;refine aa (wpAny_of_eq (show Builtin.Builtins.bindParams "min" ["key","default"] 0 ⟨[],[("default",d)]⟩=pure [none,some d] from rfl) ?_);refine aa (av ?_);refine aa (wpAny_pyIter_list j ?_);refine aa (wpAny_newObj_type ?_);have a:(toString "min"++toString ".loop":String)="min.loop":=by decide
 rw[a];generalize n:(s.heap.push { cls:=.type "list_iterator",data:=.fields #[.ref l,.int 0 0] })=h1;have C:h1.get? s.heap.objs.size=some { cls:=.type "list_iterator",data:=.fields #[.ref l,.int 0 0] }:=by rw[<-n];exact Heap.get?_push_size _ rfl
 have D:∀b o,s.heap.get? b=some o->h1.get? b=some o:=fun b o e=>by rw[<-n];exact aS _ e
 have p:h1.objs.size=s.heap.objs.size+1:=by rw[<-n,Heap.size_push]
 refine av ⟨plainId_quiet F.plain_min_loop _,?_⟩;refine codeAny_builtin F.entry_min_loop ?_;rw[Around.under_plainId F.plain_min_loop _];have q:(h1.push { cls:=.type "list",data:=.seq #[] }).get? h1.objs.size=some { cls:=.type "list",data:=.seq #[] }:=Heap.get?_push_size _ rfl;have r:∀b o,s.heap.get? b=some o->(h1.push { cls:=.type "list",data:=.seq #[] }).get? b=some o:=fun b o e=>aS _ (D b o e);show wpAny _ A.in1 (seqItems? (.ref h1.objs.size) >>= _) _ _ _;refine aa (wpAny_seqItems q rfl ?_);show wpAny _ A.in1 (tryCatch (pyNext (.ref s.heap.objs.size)) _ >>= _) _ _ _;refine aa (wpAny_tryCatch (wpAny_pyNext_list_item (i:=0) (l:=l) (items:=its) (x:=its[0]) ⟨_,aS _ C,rfl,rfl⟩ (j.at fun o e=>r _ _ e) (by simp[k]) fun J c f=>?_));have ne:s.heap.objs.size≠h1.objs.size:=by rw[p];exact Nat.ne_of_lt (Nat.lt_succ_self _)
 have g:=f.extBut _ _ (Ne.symm ne) q;have G:∀b o,s.heap.get? b=some o->J.get? b=some o:=fun b o e=>f.extBut _ _ (Nat.ne_of_lt (ba e)) (r _ _ e);show wpAny _ A.in1 (updateSeq h1.objs.size (fun _=>#[its[0],its[0]]) >>= _) _ _ _;refine aa (wpAny_updateSeq g rfl ?_);rw[a];refine av ⟨plainId_quiet F.plain_min_loop _,Le (h0:=s.heap) (its:=its) (rows:=rows) t u y j (aZ _) (by rw[p];exact Nat.le_succ _) ne _ 0 _ its[0] _ rfl k (fun b o e=>(Heap.get?_update_other _ _ (fun z=>by subst z;exact absurd (ba e) (by rw[p];exact Nat.not_lt.mpr (Nat.le_succ _)))).trans (G _ _ e)) (c.at fun o e=>(Heap.get?_update_other _ _ (Ne.symm ne)).trans e) (by simp[argBest,k]) (Heap.get?_update_self _ g rfl) fun v h m H L=>B v h m H L⟩
end
end L2
namespace L2.L3
open PySem PySem.Spec PyProof.Rows
noncomputable def fm:List PyData->Option (List Int)
 | []=>some []
 | .int i::r=>(fm r).map (i::·)
 | _=>none
noncomputable def gW:List PyData->Option (List (List Int))
 | []=>some []
 | .tuple a::r=>(match fm a,gW r with | some x,some y=>some (x::y) | _,_=>none)
 | _=>none
theorem qx:∀{b:List PyData}{a:List Int},fm b=some a->b=a.map PyData.int
 | [],a,h=>by cases h;rfl
 | .int i::r,a,h=>by unfold fm at h;obtain⟨m,h1,h2⟩:=Option.map_eq_some_iff.mp h;subst h2;rw[qx h1];rfl
 | .none::_,_,h=>by cases h
 | .bool _::_,_,h=>by cases h
 | .str _::_,_,h=>by cases h
 | .list _::_,_,h=>by cases h
 | .tuple _::_,_,h=>by cases h
 | .dict _::_,_,h=>by cases h
theorem uH:∀{b:List PyData}{a:List (List Int)},gW b=some a->b=a.map fun r=>PyData.tuple (r.map PyData.int)
 | [],a,h=>by cases h;rfl
 | .tuple l::r,a,h=>by
  unfold gW at h;cases h1:fm l with
  | none=>rw[h1] at h;cases h
  | some x=>
   cases h2:gW r with
   | none=>rw[h1,h2] at h;cases h
   | some y=>rw[h1,h2] at h;cases h;rw[uH h2,qx h1];rfl
 | .none::_,_,h=>by cases h
 | .bool _::_,_,h=>by cases h
 | .str _::_,_,h=>by cases h
 | .list _::_,_,h=>by cases h
 | .int _::_,_,h=>by cases h
 | .dict _::_,_,h=>by cases h
theorem uI{H:Hp}:∀{vs:List V}{a:List Int},aI H vs (a.map PyData.int)->vs=a.map V.int
 | _,[],.nil=>rfl
 | _,n::a,.cons h t=>by rw[h.int_inv,uI t];rfl
theorem ints_are:∀{a:List Int}{b:List Value},bi (a.map V.int) b->IntsAre b a
 | [],_,.nil=>.nil
 | n::a,_,.cons r t=>by obtain⟨c,rfl⟩:=r;exact .cons n c (ints_are t)
noncomputable def dL:List (List Int)->List Int->List Int
 | [],b=>b
 | r::a,b=>dL a (if HT.lexLt r b=true then r else b)
theorem At(rows:List (List Int)):∀(k j:Nat),j+1+k=rows.length->dL (rows.drop (j+1)) (rows.getD (argBest (fV rows) j) [])=rows.getD (argBest (fV rows) (rows.length - 1)) []
 | 0,j,h=>by have e:rows.drop (j+1)=[]:=List.drop_eq_nil_of_le (by omega);rw[e,dL,show rows.length - 1=j by omega]
 | k+1,j,h=>by
  have a:j+1<rows.length:=by omega
  rw[List.drop_eq_getElem_cons a,dL,<-At rows k (j+1) (by omega)]
  congr 1
  have b:rows.getD (j+1) []=rows[j+1]:=by rw[List.getD_eq_getElem?_getD,List.getElem?_eq_getElem a];rfl
  simp only[argBest];unfold fV;rw[b];split
  ·exact b.symm
  ·rfl
theorem Lg{A:Around}(a:A.units+1<cLine):A.in1.units<cLine:=by
 have:A.in1.units<=A.units+1:=by first | exact aZ _ | exact Nat.le_succ _
 exact Nat.lt_of_le_of_lt this a
section
variable{X:Cx}{F:Fx}{E:Str->ao->Prop}{pos p p1 kp kpos:Pos}{x:Str}{i:Nat}
noncomputable def nZ(i:Nat):XM PyData:=fun U=>match nR U i with
 | some (_,a)=>(match gW a with
  | some []=>.ok .none U
  | some (r::b)=>.ok (.tuple ((dL b r).map PyData.int)) U
  | none=>.bad)
 | none=>.bad
theorem Lh{M:Nat}(hu:X.A.units+1<cLine)(hc:X.calm=true)(hg:Gl X "min")(C:X.mg "min" = none)(N:PE X (.Name x p1) (dN i))
  (Z:starEach [.Name x p1] X.env=(false,eval (.Name x p1) X.env)::starEach [] X.env:=by rfl)
  (he:backTo pos (starEach [.Name x p1] X.env)=(false,eval (.Name x p1) X.env)::backTo pos (starEach [] X.env):=by rfl)
  (f:(backTo pos (starEach [.Name x p1] X.env)).any (·.1)=false:=by rfl)
  (D:(backToKw pos (keywordEach [⟨some "default",.Constant .none M kp,kpos⟩] X.env)).all (·.1.isSome)=true:=by rfl)
  (a0:(backToKw pos (keywordEach [⟨some "default",.Constant .none M kp,kpos⟩] X.env)).any (·.1.isNone)=false:=by rfl)
  (hn:(backToKw pos (keywordEach [⟨some "default",.Constant .none M kp,kpos⟩] X.env)).filterMap (·.1)=[("default":Str)]:=by rfl) :
  FE X F E (.Call (.Name "min" p) [.Name x p1] [⟨some "default",.Constant .none M kp,kpos⟩] pos) (nZ i):=by
 refine⟨az,fun h s Y H Q I ⟨U,O,st,q⟩=>?_⟩;unfold wp nZ at q;cases ho:nR U i with
 | none=>rw[ho] at q;exact q.elim
 | some pr=>
  obtain⟨io,ds⟩:=pr;rw[ho] at q;simp only at q;cases hr:gW ds with
  | none=>rw[hr] at q;exact q.elim
  | some rows=>
   rw[hr] at q;obtain⟨a,fp,a1,⟨_,xs,hH,hd⟩,_,_⟩:=st.box (KJ ho);refine wpAny_Call_Name_kw (ie I hg C PyProof.Rows.boot_min ?_ (by decide) (by decide));refine PyProof.Rows.callWith_kw ?_ he f D a0;refine aP ((fA N fL Z) pos h s Y H (fun vs R=>vs=[.ref a]/\R=H) I ⟨_,a1,rfl,rfl⟩) fun us s1 ⟨vs,R,I1,r1,t,y⟩=>?_;subst t y;obtain⟨u,rfl,ru⟩:=vals1 r1;cases ru;refine aP ((Fj (nm:=some "default") (kpos:=kpos) xg Fi) pos h s1 Y R (fun vs m=>vs=[.non]/\m=R) I1 ⟨rfl,rfl⟩) fun us s2 ⟨vs,m,z,r2,t,y⟩=>?_;subst t y;obtain⟨u,rfl,ru⟩:=vals1 r2;cases ru;rw[hn];obtain⟨z1,g,n1,rv,g1⟩:=z.hok _ _ hH;have n:=uH hr;have L:s2.heap.IsList a g.toArray:=⟨_,g1,rfl,_,rfl⟩
   cases rows with
   | nil=>subst n;cases hd;cases rv;simp only at q;refine KR (l:=a) (d:=.none) (z.ok.hd hc) L fun h' j=>?_;exact⟨.non,m,z.kept (t':=s2.toks) j,rfl,q _ m O st .refl .non⟩
   | cons r e=>
    simp only at q;have c:g.length=(r::e).length:=by rw[<-rv.length,hd.length,n,List.length_map]
    have item:∀(k:Nat) (v:Value),g[k]? = some v->∃(T:Addr) (o:List Int) (b:List Value) (B:V),v=.ref T/\IsTup s2.heap T b.toArray/\(r::e)[k]? = some o/\IntsAre b o/\bd B v/\DV (au O m) B (.tuple (o.map PyData.int)):=fun k v j=>by
     have G:k<(r::e).length:=by rw[<-c];exact(List.getElem?_eq_some_iff.mp j).1
     have a2:ds[k]? = some (.tuple (((r::e)[k]).map PyData.int)):=by rw[n,List.getElem?_map,List.getElem?_eq_getElem G];rfl
     obtain⟨B,a3,J⟩:=hd.get a2;obtain⟨w,hw,a4⟩:=rv.get a3;rw[j] at hw;cases hw;obtain⟨T,ys,rfl,hT,hy⟩:=J.tup_inv;obtain⟨_,b,rj,pj⟩:=(gi hT).1.ok z.hok;rw[uI hy] at rj;cases a4;exact⟨T,_,b,.ref T,rfl,pj,List.getElem?_eq_getElem G,ints_are rj,rfl,J⟩
    refine Lf (l:=a) (its:=g.toArray) (rows:=r::e) (d:=.none) (z.ok.hd hc) (Lg hu) L ⟨c,fun k v j=>by
     obtain⟨T,o,b,B,t,y,S,e4,_,_⟩:=item k v j;exact⟨T,b.toArray,o,t,y,S,e4⟩⟩ (by simp only[List.size_toArray];rw[c];simp) fun v h' tk N j=>?_
    simp only[List.size_toArray,List.getElem?_toArray] at N;obtain⟨T,o,b,B,t,y,S,e4,e5,e6⟩:=item _ v N;have C:=At (r::e) e.length 0 (by simp;omega);have a5:(r::e).getD (argBest (fV (r::e)) 0) []=r:=by simp[argBest]
    rw[a5] at C;change dL e r=_ at C;rw[c] at S;have:o=dL e r:=by rw[C,List.getD_eq_getElem?_getD,S];rfl
    subst this;exact⟨B,m,z.kept (t':=tk) j,e5,q _ m O st .refl e6⟩
end
theorem bV{N P:List Str}{a:Scope}(f:a.kind=.function:=by rfl)(g:a.isCoroutine=false:=by rfl)(h:a.isGenerator=false:=by rfl)(b:N.Nodup:=by decide +kernel)(c:N.take P.length=P:=by rfl)(d:∀x∈P,a.names.lookup x=some .local\/a.names.lookup x=some .cell:=by decide +kernel)(e:∀y∈a.names,y.2≠.free:=by decide +kernel):ae N P a:=⟨f,g,h,b,c,d,e⟩
section
variable{X:Cx}{F:Fx}{E:Str->ao->Prop}{e:Expr}{es:List Expr}{pos p p1 apos:Pos}{x m q:Str}{C:Addr}{i k j:Nat}{g:Addr}{fd:FuncData}{ps:List Str}{f:FM}{st:Stmt}{mX:XM (List AX)}
theorem fv(i:Nat)(b:X.N[i]? = some x:=by rfl)(c:mR X.env.scope x:=by first | exact Or.inl rfl | exact Or.inr (Or.inl rfl) | exact Or.inr (Or.inr rfl))(hd:(x==("__debug__":Str))=false:=by decide)(a:(x==("__classdict__":Str))=false:=by decide):FE X F E (.Name x pos) (xV i):=JZ (yb i (pv i b c hd a))
theorem cF(i:Nat)(a:X.N.Nodup)(b:X.N[i]? = some x:=by rfl)(c:Loc X.env.scope x:=by first | exact Or.inl rfl | exact Or.inr rfl)(d:X.fn x=true\/X.env.scope.names.lookup x=some .local:=by first | exact .inl rfl | exact .inr rfl | assumption):FG X F (.Name x pos) (ay i):=Kp (Ik (Ej a b c d))
theorem aL(d:jz X F E)(G:aA X.prog X.w X.K X.mg X.base (bD X.prog X.w) k g fd ps (bJ X.K X.mg f))(D:FD X.K X.mg x st ps g fd)(h:bW j X.A)(l:FX X F E (e::es) mX)(n:k<=j:=by decide)(o:Gl X x:=by rfl)(a:(x==("__debug__":Str))=false:=by decide)
  (r:starEach (e::es) X.env=(false,eval e X.env)::starEach es X.env:=by rfl) (c:(backTo pos (starEach es X.env)).any (·.1)=false:=by rfl):FO X F E (.Call (.Name x p) (e::es) [] pos) (aH f mX):=Kt (Jb d G (h.mono n) o D.mgf D.fn.kp D.b l a r c)
end
end L2.L3
namespace L2.TS
open PySem PyProof.Rows
section
variable{α:Type}{le:α->α->Bool}
theorem qy{as bs:List α}{b:α}:∀{xs:List α},(∀x∈xs,le x b=true)->List.merge (xs++as) (b::bs) le=xs++List.merge as (b::bs) le
 | [],_=>rfl
 | x::xs,h=>by rw[List.cons_append,List.cons_merge_cons,if_pos (h x List.mem_cons_self),qy fun y a=>h y (bq _ a)];rfl
theorem uJ{as bs:List α}{a:α}:∀{ys:List α},(∀y∈ys,le a y=false)->List.merge (a::as) (ys++bs) le=ys++List.merge (a::as) bs le
 | [],_=>rfl
 | y::ys,h=>by rw[List.cons_append,List.cons_merge_cons,if_neg (by rw[h y List.mem_cons_self];exact Bool.false_ne_true),uJ fun z b=>h z (bq _ b)];rfl
theorem uK{b bs:List α}(h:∀y∈bs,∀x∈b,le x y=false):List.merge b bs le=bs++b:=by
 cases b with
 | nil=>simp
 | cons x b=>have:=uJ (le:=le) (as:=b) (bs:=[]) (a:=x) (ys:=bs) fun y c=>h y c x List.mem_cons_self;rw[List.append_nil,List.merge_right] at this;exact this
theorem Li{as a:List α}(h:∀x∈as,∀y∈a,le x y=true):List.merge as a le=as++a:=by
 cases a with
 | nil=>simp
 | cons y a=>have:=qy (le:=le) (as:=[]) (bs:=a) (b:=y) (xs:=as) fun x c=>h x c y List.mem_cons_self;simpa using this
theorem uL{c:List α}:∀(as bs:List α),(∀y∈bs,∀x∈c,le x y=false)->List.merge (as++c) bs le=List.merge as bs le++c
 | [],bs,h=>by simpa using uK h
 | a::as,[],h=>by simp
 | a::as,b::bs,h=>by
  rw[List.cons_append,List.cons_merge_cons,List.cons_merge_cons];split
  ·rw[uL as (b::bs) h];rfl
  ·rw[<-List.cons_append,uL (a::as) bs fun y d=>h y (bq _ d)];rfl
termination_by as bs=>as.length+bs.length
theorem qz{c:List α}:∀(as bs:List α),(∀x∈as,∀y∈c,le x y=true)->List.merge as (bs++c) le=List.merge as bs le++c
 | as,[],h=>by simpa using Li h
 | [],b::bs,h=>by simp
 | a::as,b::bs,h=>by
  rw[List.cons_append,List.cons_merge_cons,List.cons_merge_cons];split
  ·rw[<-List.cons_append,qz as (b::bs) fun x d=>h x (bq _ d)];rfl
  ·rw[qz (a::as) bs h];rfl
termination_by as bs=>as.length+bs.length
end
noncomputable def cO:Bool->Keyed->Array Keyed->Nat->Nat->Nat->StateT SortSt Sem (Option Nat):=sortPriv% PySem.Builtin.gallop
noncomputable def kS(lf:Bool)(a:Keyed)(b:Array Keyed)(bs i:Nat):StateT SortSt Sem (Option Bool):=do
 let x <-elem' b (bs+i)
 if lf then lt' x a else return (<-lt' a x).map (!·)
noncomputable def qA(lf:Bool)(ky:Keyed)(ar:Array Keyed)(bs n l0 h0:Nat):StateT SortSt Sem (Option Nat):=do
 let mut lo:=l0;let mut hi:=h0
 for _ in [0:n] do
  if lo≥hi then break
  let m:=lo+(hi - lo) / 2
  let some mo <-kS lf ky ar bs m | return none
  if mo then lo:=m+1 else hi:=m
 return some hi
theorem Lj(lf:Bool)(ky:Keyed)(ar:Array Keyed)(bs n hn:Nat):cO lf ky ar bs n hn=(do
 let mut la:=0;let mut of:=1
 let some rt <-kS lf ky ar bs hn | return none
 if rt then
  for _ in [0:n] do
   if of≥n - hn then break
   let some mo <-kS lf ky ar bs (hn+of) | return none
   if !mo then break
   la:=of
   of:=2 * of+1
  qA lf ky ar bs n (hn+la+1) (hn+min of (n - hn))
 else
  for _ in [0:n] do
   if of≥hn+1 then break
   let some fd <-kS lf ky ar bs (hn - of) | return none
   if fd then break
   la:=of
   of:=2 * of+1
  qA lf ky ar bs n (hn+1 - min of (hn+1)) (hn - la)):=rfl
section
variable{prog:Program}{w:World}{A:Around}{E:Value->Shared->Prop}{s:Shared}{le:Keyed->Keyed->Bool}{κ:SortKind}{S:Keyed->Prop}
def dt(prog:Program)(w:World)(A:Around)(E:Value->Shared->Prop)(s:Shared)(le:Keyed->Keyed->Bool)(κ:SortKind)(S:Keyed->Prop):Prop:=
 ∀x y,S x->S y->∀(Q:Option Bool->SortSt->Prop) (st:SortSt),kindOf st=κ->Q (some (!le y x)) st->wpS (model prog w) A E s (lt' x y) Q st
theorem dk{a:Array Keyed}{i:Nat}{x:Keyed}{Q:Keyed->SortSt->Prop}{st:SortSt}(h:a[i]? = some x)(q:Q x st):wpS (model prog w) A E s (elem' a i) Q st:=by rw[elem'_eq,h];exact aV q
noncomputable def du(le:Keyed->Keyed->Bool)(lf:Bool)(a x:Keyed):Bool:=if lf then !le a x else le x a
theorem qC(b:dt prog w A E s le κ S){lf:Bool}{a x:Keyed}{c:Array Keyed}{bs i:Nat}{Q:Option Bool->SortSt->Prop}{st:SortSt}(d:kindOf st=κ)(g:c[bs+i]? = some x)(e:S x)(f:S a)
  (q:Q (some (du le lf a x)) st):wpS (model prog w) A E s (kS lf a c bs i) Q st:=by
 unfold kS;refine aD (dk g ?_);cases lf with
 | true=>exact b x a e f Q st d q
 | false=>exact aD (b a x f e _ st d (aV (by simpa[du] using q)))
variable{p:Nat->Bool}{lf:Bool}{ky:Keyed}{ar:Array Keyed}{bs n:Nat}{Q:Option Nat->SortSt->Prop}{st:SortSt}
theorem Au(t:dt prog w A E s le κ S)(u:kindOf st=κ)(v:S ky)(q:∀i,i<n->∃x,ar[bs+i]? = some x/\S x/\du le lf ky x=p i)(mono:∀i j,i<=j->j<n->p j=true->p i=true)
  (h:∀k,k<=n->(∀i,i<k->p i=true)->(∀i,k<=i->i<n->p i=false)->Q (some k) st) {o l:Nat}(r:o<=l) (y:l<=n) (M:∀i,i<o->p i=true) (N:∀i,l<=i->i<n->p i=false) :
  wpS (model prog w) A E s (qA lf ky ar bs n o l) Q st:=by
 unfold qA;dsimp only;refine aD (wpS_mono (wpS_forRange (I:=fun x c a=>a = st/\∃lo b,c=(none,lo,b)/\lo<=b/\b<=n/\b - lo<=n - x/\(∀i,i<lo->p i=true)/\(∀i,b<=i->i<n->p i=false))
  (Q:=fun c a=>a = st/\∃k,c=(none,k,k)/\k<=n/\(∀i,i<k->p i=true)/\(∀i,k<=i->i<n->p i=false)) ?_ ?_ ⟨rfl,o,l,rfl,r,y,by omega,M,N⟩) ?_)
 ·rintro x c a _ R ⟨rfl,lo,b,rfl,z,d,B,f,g⟩;dsimp only
  by_cases m:lo≥b
  ·rw[if_pos m];have:lo=b:=by omega
   subst this;exact aV ⟨rfl,lo,rfl,d,f,g⟩
  ·rw[if_neg m];obtain⟨x,C,D,G⟩:=q (lo+(b - lo) / 2) (by omega);refine aD (qC t u C D v ?_);rw[G];cases e:p (lo+(b - lo) / 2) with
   | true=>exact aV ⟨rfl,_,_,rfl,by omega,d,by omega,fun i H=>mono i _ (by omega) (by omega) e,g⟩
   | false=>
    refine aV ⟨rfl,_,_,rfl,by omega,by omega,by omega,f,fun i O J=>?_⟩;cases L:p i with
    | false=>rfl
    | true=>rw[mono _ i O J L] at e;cases e
 ·rintro c a ⟨rfl,lo,b,rfl,z,d,B,f,g⟩;have:lo=b:=by omega
  subst this;exact⟨rfl,lo,rfl,d,f,g⟩
 ·rintro c a ⟨rfl,k,rfl,d,f,g⟩;exact aV (h k d f g)
theorem Lk(r:dt prog w A E s le κ S)(t:kindOf st=κ)(u:S ky)(l:∀i,i<n->∃x,ar[bs+i]? = some x/\S x/\du le lf ky x=p i)(mono:∀i j,i<=j->j<n->p j=true->p i=true)
  (h:∀k,k<=n->(∀i,i<k->p i=true)->(∀i,k<=i->i<n->p i=false)->Q (some k) st) {b:Nat}(H:b<n) :
  wpS (model prog w) A E s (cO lf ky ar bs n b) Q st:=by
 rw[Lj];have o:∀i j,i<=j->j<n->p i=false->p j=false:=fun i j C v e=>by
  cases J:p j with
  | false=>rfl
  | true=>rw[mono i j C v J] at e;cases e
 obtain⟨x,y,z,B⟩:=l b H;refine aD (qC r t y z u ?_);rw[B];dsimp only;cases e:p b with
 | true=>
  rw[if_pos rfl];refine aD (wpS_mono (wpS_forRange (I:=fun x c a=>a = st/\∃la of,c=(none,la,of)/\la<of/\x+1<=of/\b+la<n/\p (b+la)=true)
   (Q:=fun c a=>a = st/\∃la of,c=(none,la,of)/\la<of/\b+la<n/\p (b+la)=true/\(n - b<=of\/(b+of<n/\p (b+of)=false))) ?_ ?_ ⟨rfl,0,1,rfl,by omega,by omega,by omega,e⟩) ?_)
  ·rintro x c a _ L ⟨rfl,la,of,rfl,m,D,g,f⟩;dsimp only
   by_cases d:of≥n - b
   ·rw[if_pos d];exact aV ⟨rfl,la,of,rfl,m,g,f,.inl d⟩
   ·rw[if_neg d];obtain⟨x,y,z,B⟩:=l (b+of) (by omega);refine aD (qC r t y z u ?_);rw[B];cases e:p (b+of) with
    | true=>exact aV ⟨rfl,of,_,rfl,by omega,by omega,by omega,e⟩
    | false=>exact aV ⟨rfl,la,of,rfl,m,g,f,.inr ⟨by omega,e⟩⟩
  ·rintro c a ⟨rfl,la,of,rfl,m,D,g,f⟩;exact⟨rfl,la,of,rfl,m,g,f,.inl (by omega)⟩
  ·rintro c a ⟨rfl,la,of,rfl,m,g,f,q⟩;dsimp only;refine Au r t u l mono h (by omega) (by omega) (fun i M=>mono i _ (by omega) g f) (fun i C v=>?_);rcases q with q | ⟨q,G⟩
   ·omega
   ·exact o _ i (by omega) v G
 | false=>
  rw[if_neg Bool.false_ne_true];refine aD (wpS_mono (wpS_forRange (I:=fun x c a=>a = st/\∃la of,c=(none,la,of)/\la<of/\x+1<=of/\la<=b/\p (b - la)=false)
   (Q:=fun c a=>a = st/\∃la of,c=(none,la,of)/\la<of/\la<=b/\p (b - la)=false/\(b+1<=of\/(of<=b/\p (b - of)=true))) ?_ ?_ ⟨rfl,0,1,rfl,by omega,by omega,by omega,e⟩) ?_)
  ·rintro x c a _ L ⟨rfl,la,of,rfl,m,D,g,f⟩;dsimp only
   by_cases d:of≥b+1
   ·rw[if_pos d];exact aV ⟨rfl,la,of,rfl,m,g,f,.inl d⟩
   ·rw[if_neg d];obtain⟨x,y,z,B⟩:=l (b - of) (by omega);refine aD (qC r t y z u ?_);rw[B];cases e:p (b - of) with
    | false=>exact aV ⟨rfl,of,_,rfl,by omega,by omega,by omega,e⟩
    | true=>exact aV ⟨rfl,la,of,rfl,m,g,f,.inr ⟨by omega,e⟩⟩
  ·rintro c a ⟨rfl,la,of,rfl,m,D,g,f⟩;exact⟨rfl,la,of,rfl,m,g,f,.inl (by omega)⟩
  ·rintro c a ⟨rfl,la,of,rfl,m,g,f,q⟩;dsimp only;refine Au r t u l mono h (by omega) (by omega) (fun i M=>?_) (fun i C v=>o _ i C v f);rcases q with q | ⟨q,G⟩
   ·omega
   ·exact mono i _ (by omega) (by omega) G
theorem kT(g:dt prog w A E s le κ S)(f:∀x y z,le x y=true->le y z=true->le x z=true)(l:kindOf st=κ)(m:S ky)(o:∀(i:Nat) (x:Keyed),ar[i]? = some x->S x)(r:bs+n<=ar.size)
  (t:∀(i j:Nat) (x y:Keyed),bs<=i->i<=j->j<bs+n->ar[i]? = some x->ar[j]? = some y->le x y=true)
  (h:∀k,k<=n->(∀(i:Nat),i<k->∀x:Keyed,ar[bs+i]? = some x->du le lf ky x=true)->(∀(i:Nat),k<=i->i<n->∀x:Keyed,ar[bs+i]? = some x->du le lf ky x=false)->Q (some k) st) {a:Nat}(u:a<n) :
  wpS (model prog w) A E s (cO lf ky ar bs n a) Q st:=by
 refine Lk (p:=fun i=>match ar[bs+i]? with | some x=>du le lf ky x | none=>false) g l m (fun i b=>?_) (fun i j v I e=>?_) (fun k eg D G=>h k eg (fun i b x e=>?_) (fun i H B x e=>?_)) u
 ·have e:ar[bs+i]? = some (ar[bs+i]'(by omega)):=getElem?_pos _ _ (by omega);exact⟨_,e,o _ _ e,by simp only[e]⟩
 ·have c:ar[bs+i]? = some (ar[bs+i]'(by omega)):=getElem?_pos _ _ (by omega);have d:ar[bs+j]? = some (ar[bs+j]'(by omega)):=getElem?_pos _ _ (by omega);have q:=t _ _ _ _ (by omega) (by omega) (by omega) c d;simp only[c,d] at e ⊢;cases lf with
  | false=>exact f _ _ _ q e
  | true=>
   simp only[du,if_true,Bool.not_eq_true'] at e ⊢;cases C:le ky (ar[bs+i]'(by omega)) with
   | false=>rfl
   | true=>rw[f _ _ _ C q] at e;cases e
 ·have:=D i b;simp only[e] at this;exact this
 ·have:=G i H B;simp only[e] at this;exact this
end
noncomputable def dM:Nat->StateT SortSt Sem Unit:=sortPriv% PySem.Builtin.setMinGallop
theorem qD(g:Nat):dM g=modify fun s=>SortSt.mk' (kindOf s) (arrOf s) (pendingOf s) g (failedOf s):=rfl
noncomputable def iD:Array Keyed->Array Keyed->StateT SortSt Sem (Array Keyed):=sortPriv% PySem.Builtin.mergeLo
noncomputable abbrev gx:=Option (Array Keyed)×Array Keyed×Nat×Nat×Nat×Nat×Nat
noncomputable abbrev oa:=Option (Array Keyed)×Array Keyed×Nat×Nat×Nat×Nat
noncomputable def dn(a b o:Array Keyed)(c d:Nat):Array Keyed:=o++a.extract c a.size++b.extract d b.size
noncomputable def la(a b o:Array Keyed)(c d:Nat):Array Keyed:=o++b.extract d b.size++a.extract c a.size
noncomputable def og(a b:Array Keyed)(mg ac d:Nat)(o:Array Keyed)(c e:Nat):StateT SortSt Sem (ForInStep gx):=do
 let x <-elem' a c
 if c+1+1==a.size then pure (.done (some (la a b (o.push x) (c+1) e),o.push x,c+1,e,mg,ac,d))
 else if ac<7&&d<7 then pure (.done (none,o.push x,c+1,e,mg,ac,d)) else pure (.yield (none,o.push x,c+1,e,mg,ac,d))
noncomputable def oh(a b:Array Keyed)(mg ac e:Nat)(o:Array Keyed)(d c:Nat):StateT SortSt Sem (ForInStep gx):=do
 let y <-elem' b c
 if c+1==b.size then pure (.done (some (dn a b (o.push y) d (c+1)),o.push y,d,c+1,mg,ac,e))
 else
  let x <-elem' a d
  match <-cO true x b (c+1) (b.size - (c+1)) 0 with
  | some k=>
   if k>0 then
    if c+1+k==b.size then pure (.done (some (dn a b (o.push y++b.extract (c+1) (c+1+k)) d (c+1+k)),o.push y++b.extract (c+1) (c+1+k),d,c+1+k,mg,ac,k))
    else og a b mg ac k (o.push y++b.extract (c+1) (c+1+k)) d (c+1+k)
   else og a b mg ac k (o.push y) d (c+1)
  | _=>pure (.done (some (dn a b (o.push y) d (c+1)),o.push y,d,c+1,mg,ac,e))
noncomputable def oi(a b:Array Keyed)(ac e:Nat)(o:Array Keyed)(c d mg:Nat):StateT SortSt Sem (ForInStep gx):=do
 dM mg
 let y <-elem' b d
 match <-cO false y a c (a.size - c) 0 with
 | some k=>
  if k>0 then
   if c+k+1==a.size then pure (.done (some (la a b (o++a.extract c (c+k)) (c+k) d),o++a.extract c (c+k),c+k,d,mg,k,e))
   else if c+k==a.size then pure (.done (some (dn a b (o++a.extract c (c+k)) (c+k) d),o++a.extract c (c+k),c+k,d,mg,k,e))
   else oh a b mg k e (o++a.extract c (c+k)) (c+k) d
  else oh a b mg k e o c d
 | _=>pure (.done (some (dn a b o c d),o,c,d,mg,ac,e))
noncomputable def qE(a b:Array Keyed)(c:gx):StateT SortSt Sem (ForInStep gx):=
 if c.2.2.2.2.1>1 then oi a b c.2.2.2.2.2.1 c.2.2.2.2.2.2 c.2.1 c.2.2.1 c.2.2.2.1 (c.2.2.2.2.1 - 1) else oi a b c.2.2.2.2.2.1 c.2.2.2.2.2.2 c.2.1 c.2.2.1 c.2.2.2.1 c.2.2.2.2.1
noncomputable def qF(a b:Array Keyed)(mg:Nat)(c:oa):StateT SortSt Sem (ForInStep oa):=do
 let y <-elem' b c.2.2.2.1;let x <-elem' a c.2.2.1
 match <-lt' y x with
 | some bw=>
  if bw then do
   let y <-elem' b c.2.2.2.1
   if c.2.2.2.1+1==b.size then pure (.done (some (dn a b (c.2.1.push y) c.2.2.1 (c.2.2.2.1+1)),c.2.1.push y,c.2.2.1,c.2.2.2.1+1,0,c.2.2.2.2.2+1))
   else if c.2.2.2.2.2+1≥mg then pure (.done (none,c.2.1.push y,c.2.2.1,c.2.2.2.1+1,0,c.2.2.2.2.2+1)) else pure (.yield (none,c.2.1.push y,c.2.2.1,c.2.2.2.1+1,0,c.2.2.2.2.2+1))
  else do
   let x <-elem' a c.2.2.1
   if c.2.2.1+1+1==a.size then pure (.done (some (la a b (c.2.1.push x) (c.2.2.1+1) c.2.2.2.1),c.2.1.push x,c.2.2.1+1,c.2.2.2.1,c.2.2.2.2.1+1,0))
   else if c.2.2.2.2.1+1≥mg then pure (.done (none,c.2.1.push x,c.2.2.1+1,c.2.2.2.1,c.2.2.2.2.1+1,0)) else pure (.yield (none,c.2.1.push x,c.2.2.1+1,c.2.2.2.1,c.2.2.2.2.1+1,0))
 | _=>pure (.done (some (dn a b c.2.1 c.2.2.1 c.2.2.2.1),c.2.1,c.2.2.1,c.2.2.2.1,c.2.2.2.2.1,c.2.2.2.2.2))
noncomputable abbrev qG:=Option (Array Keyed)×Array Keyed×Nat×Nat×Nat
noncomputable def qH(a b:Array Keyed)(c:qG):StateT SortSt Sem (ForInStep qG):=do
 let d <-forIn [:a.size+b.size] ((none,c.2.1,c.2.2.1,c.2.2.2.1,0,0):oa) fun _ d=>qF a b c.2.2.2.2 d
 match d.1 with
 | some r=>pure (.done (some r,d.2.1,d.2.2.1,d.2.2.2.1,c.2.2.2.2))
 | none=>
  rule "list.sort.gallop"
  let e <-forIn [:a.size+b.size] ((none,d.2.1,d.2.2.1,d.2.2.2.1,c.2.2.2.2+1,d.2.2.2.2.1,d.2.2.2.2.2):gx) fun _ e=>qE a b e
  match e.1 with
  | some r=>pure (.done (some r,e.2.1,e.2.2.1,e.2.2.2.1,e.2.2.2.2.1))
  | none=>
   dM (e.2.2.2.2.1+1)
   pure (.yield (none,e.2.1,e.2.2.1,e.2.2.2.1,e.2.2.2.2.1+1))
theorem fb{β γ:Type}{r:Std.Legacy.Range}{x:β}{f g:Nat->β->StateT SortSt Sem (ForInStep β)}{k a:β->StateT SortSt Sem γ}(h:∀i c,f i c=g i c)(b:∀c,k c=a c):(forIn r x f >>= k)=(forIn r x g >>= a):=by have e:f=g:=funext fun i=>funext fun c=>h i c;have d:k=a:=funext b;rw[e,d]
theorem fo{p:Prop}[Decidable p]{α:Type}{x a y b:α}(c:x=a)(d:y=b):(if p then x else y)=if p then a else b:=by rw[c,d]
theorem Ll(a b:Array Keyed):iD a b=(do
 rule "list.sort.merge-lo"
 let tt:=a.size+b.size;let dn (o:Array Keyed) (ia ib:Nat):=o++a.extract ia a.size++b.extract ib b.size;let la (o:Array Keyed) (ia ib:Nat):=o++b.extract ib b.size++a.extract ia a.size;let mut o:Array Keyed:=#[<-elem' b 0];let mut ia:=0;let mut ib:=1
 if ib==b.size then return dn o ia ib
 if ia+1==a.size then return la o ia ib
 let mut mg:=gallopOf (<-get)
 for _ in [0:tt] do
  let mut ac:=0;let mut bc:=0
  for _ in [0:tt] do
   let some bw <-lt' (<-elem' b ib) (<-elem' a ia) | return dn o ia ib
   if bw then
    o:=o.push (<-elem' b ib);ib:=ib+1;bc:=bc+1;ac:=0
    if ib==b.size then return dn o ia ib
    if bc≥mg then break
   else
    o:=o.push (<-elem' a ia);ia:=ia+1;ac:=ac+1;bc:=0
    if ia+1==a.size then return la o ia ib
    if ac≥mg then break
  rule "list.sort.gallop"
  mg:=mg+1
  for _ in [0:tt] do
   if mg>1 then mg:=mg - 1
   dM mg
   let some k <-cO false (<-elem' b ib) a ia (a.size - ia) 0 | return dn o ia ib
   ac:=k
   if k>0 then
    o:=o++a.extract ia (ia+k);ia:=ia+k
    if ia+1==a.size then return la o ia ib
    if ia==a.size then return dn o ia ib
   o:=o.push (<-elem' b ib);ib:=ib+1
   if ib==b.size then return dn o ia ib
   let some k <-cO true (<-elem' a ia) b ib (b.size - ib) 0 | return dn o ia ib
   bc:=k
   if k>0 then
    o:=o++b.extract ib (ib+k);ib:=ib+k
    if ib==b.size then return dn o ia ib
   o:=o.push (<-elem' a ia);ia:=ia+1
   if ia+1==a.size then return la o ia ib
   if ac<7&&bc<7 then break
  mg:=mg+1
  dM mg
 unsupported "internal:list.sort.merge-bound"):=rfl
theorem Lm(a b:Array Keyed):iD a b=(do
 rule "list.sort.merge-lo"
 let y <-elem' b 0
 if 1==b.size then return dn a b #[y] 0 1
 if 0+1==a.size then return la a b #[y] 0 1
 let g <-get;let c <-forIn [:a.size+b.size] ((none,#[y],0,1,gallopOf g):qG) fun _ c=>qH a b c
 match c.1 with
 | some r=>pure r
 | none=>unsupported "internal:list.sort.merge-bound"):=by
 rw[Ll];refine bI fun _=>?_;dsimp only;refine bI fun y=>?_;unfold dn la;refine congrArg _ (congrArg _ (bI fun g=>?_));refine fb (fun _ c=>?_) fun c=>?_
 ·unfold qH;refine fb (fun _ d=>?_) fun d=>?_
  ·unfold qF dn la;refine bI fun _=>bI fun _=>bI fun q=>?_;cases q<;>rfl
  ·obtain⟨r,d⟩:=d;cases r with
   | some r=>rfl
   | none=>
    dsimp only;refine bI fun _=>fb (fun _ e=>?_) fun e=>?_
    ·unfold qE oi dn la;refine fo ?_ ?_ <;>
     ·refine bI fun _=>bI fun _=>bI fun q=>?_;cases q with
      | none=>rfl
      | some k=>
       refine fo (fo rfl (fo rfl ?_)) ?_ <;>
       ·unfold oh og dn la;refine bI fun _=>fo rfl (bI fun _=>bI fun q=>?_);cases q<;>rfl
    ·obtain⟨r,e⟩:=e;cases r<;>rfl
 ·obtain⟨r,c⟩:=c;cases r<;>rfl
theorem iE{α:Type}{l:List α}{i:Nat}{x:α}(h:l[i]? = some x):l.drop i=x::l.drop (i+1):=by obtain⟨a,h2⟩:=List.getElem?_eq_some_iff.mp h;rw[List.drop_eq_getElem_cons a,h2]
theorem drop_take{α:Type}(l:List α)(i k:Nat):l.drop i=(l.drop i).take k++l.drop (i+k):=by rw[<-List.drop_drop];exact(List.take_append_drop k (l.drop i)).symm
theorem fW{α:Type}(a:Array α)(i j:Nat):(a.extract i j).toList=(a.toList.drop i).take (j - i):=by simp[List.extract_eq_take_drop]
theorem cJ{α:Type}{a:Array α}{i:Nat}:a[i]? = a.toList[i]?:=by simp
def JJ(le:Keyed->Keyed->Bool)(a b:Array Keyed)(o:Array Keyed)(c d:Nat):Prop:=o.toList++List.merge (a.toList.drop c) (b.toList.drop d) le=List.merge a.toList b.toList le
section
variable{le:Keyed->Keyed->Bool}{a b o:Array Keyed}{ia ib k:Nat}{x y:Keyed}
theorem JJ.pb(h:JJ le a b o ia ib)(c:a[ia]? = some x)(d:b[ib]? = some y)(e:le x y=false):JJ le a b (o.push y) ia (ib+1):=by unfold JJ at h ⊢;rw[cJ] at c d;rw[<-h,iE c,iE d,List.cons_merge_cons,if_neg (by rw[e];exact Bool.false_ne_true)];simp
theorem JJ.pa(h:JJ le a b o ia ib)(c:a[ia]? = some x)(d:b[ib]? = some y)(e:le x y=true):JJ le a b (o.push x) (ia+1) ib:=by unfold JJ at h ⊢;rw[cJ] at c d;rw[<-h,iE c,iE d,List.cons_merge_cons,if_pos e];simp
theorem oj{l:List Keyed}{i k:Nat}{x:Keyed}(h:x∈(l.drop i).take k):∃j,j<k/\l[i+j]? = some x:=by
 obtain⟨j,c⟩:=List.getElem?_of_mem h;rw[List.getElem?_take] at c;split at c
 ·rename_i q;rw[List.getElem?_drop] at c;exact⟨j,q,c⟩
 ·cases c
theorem JJ.ga(h:JJ le a b o ia ib)(c:b[ib]? = some y)(e:∀(i:Nat),i<k->∀x:Keyed,a[ia+i]? = some x->le x y=true):JJ le a b (o++a.extract ia (ia+k)) (ia+k) ib:=by unfold JJ at h ⊢;rw[cJ] at c;rw[<-h,drop_take a.toList ia k,iE c,qy (fun x d=>by obtain⟨j,f,q⟩:=oj d;exact e j f x (by rw[cJ];exact q))];simp only[Array.toList_append,fW,List.append_assoc,Nat.add_sub_cancel_left]
theorem JJ.gb(h:JJ le a b o ia ib)(c:a[ia]? = some x)(e:∀(i:Nat),i<k->∀y:Keyed,b[ib+i]? = some y->le x y=false):JJ le a b (o++b.extract ib (ib+k)) ia (ib+k):=by unfold JJ at h ⊢;rw[cJ] at c;rw[<-h,drop_take b.toList ib k,iE c,uJ (fun y d=>by obtain⟨j,f,q⟩:=oj d;exact e j f y (by rw[cJ];exact q))];simp only[Array.toList_append,fW,List.append_assoc,Nat.add_sub_cancel_left]
theorem JJ.dn(h:JJ le a b o ia ib)(e:b.size<=ib):(dn a b o ia ib).toList=List.merge a.toList b.toList le:=by
 unfold JJ at h;unfold TS.dn;rw[<-h,show b.toList.drop ib=[] from List.drop_eq_nil_of_le (by simpa using e),List.merge_right];have c:(b.extract ib b.size).toList=[]:=by rw[fW,show b.size - ib=0 by omega,List.take_zero]
 have d:(a.extract ia a.size).toList=a.toList.drop ia:=by rw[fW,List.take_of_length_le (by simp)]
 simp only[Array.toList_append,c,d,List.append_nil]
theorem JJ.la(h:JJ le a b o ia ib)(e:∀(i:Nat) (x y:Keyed),i+1=a.size->a[i]? = some x->y∈b.toList->le x y=false)(f:ia+1=a.size):(la a b o ia ib).toList=List.merge a.toList b.toList le:=by
 unfold JJ at h;unfold TS.la;have d:a[ia]? = some (a[ia]'(by omega)):=getElem?_pos _ _ (by omega);have c:=d;rw[cJ] at c;rw[<-h,iE c,List.drop_eq_nil_of_le (by simp;omega),uK (fun y g z j=>by obtain rfl:=List.mem_singleton.mp j;exact e ia _ y f d (List.mem_of_mem_drop g))];have l:(b.extract ib b.size).toList=b.toList.drop ib:=by rw[fW,List.take_of_length_le (by simp)]
 have m:(a.extract ia a.size).toList=[a[ia]'(by omega)]:=by rw[fW,iE c,show a.size - ia=1 by omega];rfl
 simp only[Array.toList_append,l,m,List.append_assoc]
end
structure Sm (st st':SortSt):Prop where
 kind:kindOf st' = kindOf st
 arr:arrOf st' = arrOf st
 pend:pendingOf st' = pendingOf st
 failed:failedOf st' = failedOf st
theorem Sm.refl{st:SortSt}:Sm st st:=⟨rfl,rfl,rfl,rfl⟩
theorem Sm.mg{st a:SortSt}(h:Sm st a)(g:Nat):Sm st (SortSt.mk' (kindOf a) (arrOf a) (pendingOf a) g (failedOf a)):=⟨h.kind,h.arr,h.pend,h.failed⟩
section
variable{prog:Program}{w:World}{A:Around}{E:Value->Shared->Prop}{s:Shared}{le:Keyed->Keyed->Bool}{κ:SortKind}{S:Keyed->Prop}{a b:Array Keyed}{st0:SortSt}
structure MH (le:Keyed->Keyed->Bool) (S:Keyed->Prop) (a b:Array Keyed):Prop where
 tr:∀x y z,le x y=true->le y z=true->le x z=true
 sa:∀(i j:Nat) (x y:Keyed),i<=j->a[i]? = some x->a[j]? = some y->le x y=true
 sb:∀(i j:Nat) (x y:Keyed),i<=j->b[i]? = some x->b[j]? = some y->le x y=true
 Sa:∀(i:Nat) (x:Keyed),a[i]? = some x->S x
 Sb:∀(i:Nat) (x:Keyed),b[i]? = some x->S x
 a0:0<a.size
 b0:0<b.size
 first:∀x y:Keyed,a[0]? = some x->b[0]? = some y->le x y=false
 last:∀(i:Nat) (x y:Keyed),i+1=a.size->a[i]? = some x->y∈b.toList->le x y=false
theorem at_{α:Type}{c:Array α}{i:Nat}(h:i<c.size):∃x,c[i]? = some x:=⟨c[i],Array.getElem?_eq_getElem h⟩
def Gd(le:Keyed->Keyed->Bool)(a b o:Array Keyed)(c d:Nat):Prop:=JJ le a b o c d/\c+1<a.size/\d<b.size
noncomputable def GR(le:Keyed->Keyed->Bool)(a b:Array Keyed)(m:Nat):ForInStep gx->Prop
 | .done (some r,_)=>r.toList=List.merge a.toList b.toList le
 | .done (none,o,c,d,_)=>Gd le a b o c d/\m<=c+d
 | .yield (none,o,c,d,_)=>Gd le a b o c d/\m<=c+d
 | .yield (some _,_)=>False
variable(M:MH le S a b)
include M
theorem Av{mg ac k:Nat}{o:Array Keyed}{c d m:Nat}{st:SortSt}{x y:Keyed}{Q:ForInStep gx->SortSt->Prop}(h:JJ le a b o c d)(p:c+1<a.size)(n:d<b.size)(q:m<=c+d)
  (j:a[c]? = some x) (l:b[d]? = some y) (e:le x y=true) (f:∀r,GR le a b m r->Q r st):wpS (model prog w) A E s (og a b mg ac k o c d) Q st:=by
 unfold og;refine aD (dk j ?_);have h1:=h.pa j l e
 by_cases i:c+1+1=a.size
 ·rw[if_pos (by simpa using i)];exact aV (f _ (h1.la M.last i))
 ·rw[if_neg (by simpa using i)];have g:Gd le a b (o.push x) (c+1) d/\m<=c+1+d:=⟨⟨h1,by omega,n⟩,by omega⟩
  split
  ·exact aV (f _ g)
  ·exact aV (f _ g)
theorem Aw(H:dt prog w A E s le κ S){mg ac I:Nat}{o:Array Keyed}{l d m:Nat}{st:SortSt}{x y:Keyed}{Q:ForInStep gx->SortSt->Prop}(J:kindOf st=κ)(h:JJ le a b o l d)(t:l+1<a.size)(O:d<b.size)(N:m<=l+d)
  (g:a[l]? = some x) (B:b[d]? = some y) (e:le x y=false) (n:∀r,GR le a b m r->Q r st):wpS (model prog w) A E s (oh a b mg ac I o l d) Q st:=by
 unfold oh;refine aD (dk B ?_);have h1:=h.pb g B e
 by_cases C:d+1=b.size
 ·rw[if_pos (by simpa using C)];exact aV (n _ (h1.dn (by omega)))
 ·rw[if_neg (by simpa using C)];refine aD (dk g (aD (kT H M.tr J (M.Sa _ _ g) M.Sb (by omega) (fun i j u v _ p _=>M.sb i j u v p) (fun k eg g1 g2=>?_) (by omega))));dsimp only;have h2:=h1.gb (k:=k) g fun i L z f=>by have:=g1 i L z f;simpa[du] using this
  have h3:∀z:Keyed,k<b.size - (d+1)->b[d+1+k]? = some z->le x z=true:=fun z q f=>by have:=g2 k (aZ _) q z f;simpa[du] using this
  by_cases D:k>0
  ·rw[if_pos D]
   by_cases G:d+1+k=b.size
   ·rw[if_pos (by simpa using G)];exact aV (n _ (h2.dn (by omega)))
   ·rw[if_neg (by simpa using G)];obtain⟨z,f⟩:=at_ (c:=b) (i:=d+1+k) (by omega);exact Av M h2 t (by omega) (by omega) g f (h3 z (by omega) f) n
  ·rw[if_neg D];have:k=0:=by omega
   subst this;obtain⟨z,f⟩:=at_ (c:=b) (i:=d+1) (by omega);exact Av M h1 t (by omega) (by omega) g f (h3 z (by omega) f) n
theorem Ax(x:dt prog w A E s le κ S){mg ac I:Nat}{o:Array Keyed}{d t m:Nat}{st:SortSt}{Q:ForInStep gx->SortSt->Prop}(J:Sm st0 st)(L:kindOf st0=κ)(h:JJ le a b o d t)(N:d+1<a.size)(G:t<b.size)(O:m<=d+t)
  (B:∀r n,Sm st0 n->GR le a b m r->Q r n):wpS (model prog w) A E s (oi a b ac I o d t mg) Q st:=by
 unfold oi;rw[qD];obtain⟨y,l⟩:=at_ G;refine aD (wpS_modify (aD (dk l ?_)));have f:=J.mg mg;generalize SortSt.mk' (kindOf st) (arrOf st) (pendingOf st) mg (failedOf st)=C at f ⊢;have eg:kindOf C=κ:=f.kind.trans L;refine aD (kT x M.tr eg (M.Sb _ _ l) M.Sa (by omega) (fun i j u v _ D _=>M.sa i j u v D) (fun k kK g1 g2=>?_) (by omega));dsimp only;have h2:=h.ga (k:=k) l fun i R z e=>by have:=g1 i R z e;simpa[du] using this
 have h3:∀z:Keyed,k<a.size - d->a[d+k]? = some z->le z y=false:=fun z q e=>by have:=g2 k (aZ _) q z e;simpa[du] using this
 have T:d+k<a.size:=by
  rcases Nat.lt_or_ge (d+k) a.size with q | q
  ·exact q
  ·obtain⟨z,e⟩:=at_ (c:=a) (i:=a.size - 1) (by omega);have U:=M.last (a.size - 1) z y (by omega) e (by rw[cJ] at l;exact List.mem_of_getElem? l);have p:=g1 (a.size - 1 - d) (by omega) z (by rw[show d+(a.size - 1 - d)=a.size - 1 by omega];exact e);simp[du,U] at p
 by_cases H:k>0
 ·rw[if_pos H]
  by_cases p:d+k+1=a.size
  ·rw[if_pos (by simpa using p)];exact aV (B _ _ f (h2.la M.last p))
  ·rw[if_neg (by simpa using p),if_neg (by simp;omega)];obtain⟨z,e⟩:=at_ (c:=a) (i:=d+k) (by omega);exact Aw M x eg h2 (by omega) G (by omega) e l (h3 z (by omega) e) fun r g=>B r _ f g
 ·rw[if_neg H];have:k=0:=by omega
  subst this;obtain⟨z,e⟩:=at_ (c:=a) (i:=d) (by omega);exact Aw M x eg h N G O e l (h3 z (by omega) e) fun r g=>B r _ f g
theorem Ln(f:dt prog w A E s le κ S){mg ac k:Nat}{o:Array Keyed}{d e m:Nat}{st:SortSt}{Q:ForInStep gx->SortSt->Prop}(g:Sm st0 st)(i:kindOf st0=κ)(h:Gd le a b o d e/\m<=d+e)
  (j:∀r c,Sm st0 c->GR le a b m r->Q r c):wpS (model prog w) A E s (qE a b (none,o,d,e,mg,ac,k)) Q st:=by
 unfold qE;dsimp only;split
 ·exact Ax M f g i h.1.1 h.1.2.1 h.1.2.2 h.2 j
 ·exact Ax M f g i h.1.1 h.1.2.1 h.1.2.2 h.2 j
noncomputable def FR(le:Keyed->Keyed->Bool)(a b:Array Keyed)(m:Nat):oa->Prop
 | (some r,_)=>r.toList=List.merge a.toList b.toList le
 | (none,o,c,d,_)=>Gd le a b o c d/\m<=c+d
theorem Lo(u:dt prog w A E s le κ S){mg ac v:Nat}{o:Array Keyed}{j l m:Nat}{st:SortSt}{Q:ForInStep oa->SortSt->Prop}(z:kindOf st=κ)(h:Gd le a b o j l)(B:m<=j+l+1)
  (hd:∀c,FR le a b m c->Q (.done c) st) (q:∀r d f n p,Gd le a b r d f->m<=d+f->Q (.yield (none,r,d,f,n,p)) st):wpS (model prog w) A E s (qF a b mg (none,o,j,l,ac,v)) Q st:=by
 unfold qF;dsimp only;obtain⟨h,t,hb⟩:=h;obtain⟨y,k⟩:=at_ hb;obtain⟨x,ex⟩:=at_ (c:=a) (i:=j) (by omega);refine aD (dk k (aD (dk ex (aD (u y x (M.Sb _ _ k) (M.Sa _ _ ex) _ st z ?_)))));dsimp only;cases e:le x y with
 | false=>
  simp only[Bool.not_false,if_true];have h1:=h.pb ex k e;refine aD (dk k ?_)
  by_cases g:l+1=b.size
  ·rw[if_pos (by simpa using g)];exact aV (hd _ (h1.dn (by omega)))
  ·rw[if_neg (by simpa using g)];split
   ·exact aV (hd _ ⟨⟨h1,t,by omega⟩,by omega⟩)
   ·exact aV (q _ _ _ _ _ ⟨h1,t,by omega⟩ (by omega))
 | true=>
  simp only[Bool.not_true,Bool.false_eq_true,if_false];have h1:=h.pa ex k e;refine aD (dk ex ?_)
  by_cases g:j+1+1=a.size
  ·rw[if_pos (by simpa using g)];exact aV (hd _ (h1.la M.last g))
  ·rw[if_neg (by simpa using g)];split
   ·exact aV (hd _ ⟨⟨h1,by omega,hb⟩,by omega⟩)
   ·exact aV (q _ _ _ _ _ ⟨h1,by omega,hb⟩ (by omega))
theorem Lp(C:dt prog w A E s le κ S){mg:Nat}{o:Array Keyed}{e f m:Nat}{st:SortSt}{Q:ForInStep qG->SortSt->Prop}(v:Sm st0 st)(D:kindOf st0=κ)(h:Gd le a b o e f)(N:m<=e+f)
  (hd:∀r c d,Sm st0 d->r.toList=List.merge a.toList b.toList le->Q (.done (some r,c)) d) (H:∀u k l y d,Sm st0 d->Gd le a b u k l->m+1<=k+l->Q (.yield (none,u,k,l,y)) d) :
  wpS (model prog w) A E s (qH a b (none,o,e,f,mg)) Q st:=by
 unfold qH;dsimp only;have eg:kindOf st=κ:=v.kind.trans D;refine aD (wpS_mono (wpS_forRange (I:=fun x c d=>d = st/\∃o e f ac j,c=(none,o,e,f,ac,j)/\Gd le a b o e f/\m+x<=e+f)
  (Q:=fun c d=>d = st/\FR le a b (m+1) c) ?_ ?_ ⟨rfl,o,e,f,0,0,rfl,h,by omega⟩) ?_)
 ·rintro x c d _ J ⟨rfl,o,e,f,ac,j,rfl,g,q⟩;refine Lo M C (m:=m+x+1) eg g (by omega) (fun c n=>⟨rfl,?_⟩) (fun u k l z B L O=>⟨rfl,u,k,l,z,B,rfl,L,by omega⟩);obtain⟨_ | r,c⟩:=c
  ·exact⟨n.1,by have:=n.2;omega⟩
  ·exact n
 ·rintro c d ⟨rfl,o,e,f,ac,j,rfl,g,q⟩;have:=g.2;omega
 ·rintro⟨_ | r,c⟩ d ⟨rfl,n⟩
  ·obtain⟨o,e,f,ac,j⟩:=c;dsimp only;refine aD (wpS_lift (wpAny_rule ⟨rfl,?_⟩));refine aD (wpS_mono (wpS_forRange (I:=fun _ c d=>Sm st0 d/\∃o e f mg ac j,c=(none,o,e,f,mg,ac,j)/\Gd le a b o e f/\m+1<=e+f)
    (Q:=fun c d=>Sm st0 d/\GR le a b (m+1) (.done c)) ?_ ?_ ⟨v,o,e,f,_,ac,j,rfl,n⟩) ?_)
   ·rintro x c d _ J ⟨i,o,e,f,mg,ac,j,rfl,g⟩;refine Ln M C i D g fun r G p t=>?_
    match r,t with
    | .done c,t=>exact⟨p,t⟩
    | .yield (none,o,e,f,mg,ac,j),t=>exact⟨p,o,e,f,mg,ac,j,rfl,t⟩
    | .yield (some _,_),t=>exact t.elim
   ·rintro c d ⟨i,o,e,f,mg,ac,j,rfl,g⟩;exact⟨i,g⟩
   ·rintro⟨_ | r,c⟩ d ⟨i,n⟩
    ·obtain⟨o,e,f,mg,ac,j⟩:=c;dsimp only;rw[qD];exact aD (wpS_modify (aV (H _ _ _ _ _ (i.mg _) n.1 n.2)))
    ·exact aV (hd _ _ _ i n)
  ·exact aV (hd _ _ _ v n)
theorem Lq(C:dt prog w A E s le κ S){Q:Array Keyed->SortSt->Prop}(D:kindOf st0=κ)(h:∀r d,Sm st0 d->r.toList=List.merge a.toList b.toList le->Q r d):wpS (model prog w) A E s (iD a b) Q st0:=by
 rw[Lm];refine aD (wpS_lift (wpAny_rule ⟨rfl,?_⟩));obtain⟨y,m⟩:=at_ M.b0;obtain⟨x,n⟩:=at_ M.a0;refine aD (dk m ?_);have G:JJ le a b #[] 0 0:=by simp[JJ]
 have p:JJ le a b #[y] 0 1:=G.pb n m (M.first x y n m);have b0:=M.b0;have a0:=M.a0
 by_cases B:1=b.size
 ·rw[if_pos (by simpa using B)];exact aV (h _ _ .refl (p.dn (by omega)))
 ·rw[if_neg (by simpa using B)]
  by_cases t:0+1=a.size
  ·rw[if_pos (by simpa using t)];exact aV (h _ _ .refl (p.la M.last t))
  ·rw[if_neg (by simpa using t)];refine aD (wpS_get ?_);refine aD (wpS_mono (wpS_forRange (I:=fun x c d=>Sm st0 d/\∃o j k mg,c=(none,o,j,k,mg)/\Gd le a b o j k/\x+1<=j+k)
    (Q:=fun c d=>Sm st0 d/\∃r H,c=(some r,H)/\r.toList=List.merge a.toList b.toList le) ?_ ?_ ⟨.refl,#[y],0,1,_,rfl,⟨p,by omega,by omega⟩,by omega⟩) ?_)
   ·rintro x c d _ n ⟨i,o,j,k,mg,rfl,g,q⟩;exact Lp M C i D g q (fun r c l f e=>⟨f,r,c,rfl,e⟩) fun J u v z l f L N=>⟨f,J,u,v,z,rfl,L,N⟩
   ·rintro c d ⟨i,o,j,k,mg,rfl,g,q⟩;have:=g.2;omega
   ·rintro c d ⟨i,r,c,rfl,e⟩;exact aV (h _ _ i e)
end
noncomputable def iF:Array Keyed->Array Keyed->StateT SortSt Sem (Array Keyed):=sortPriv% PySem.Builtin.mergeHi
noncomputable def dh(a b o:Array Keyed)(c d:Nat):Array Keyed:=a.extract 0 c++b.extract 0 d++o.reverse
noncomputable def fh(a b o:Array Keyed)(c d:Nat):Array Keyed:=b.extract 0 d++a.extract 0 c++o.reverse
noncomputable abbrev gy:=Option (Array Keyed)×Nat×Nat×Array Keyed×Nat×Nat×Nat
noncomputable abbrev om:=Option (Array Keyed)×Nat×Nat×Array Keyed×Nat×Nat
noncomputable abbrev qJ:=Option (Array Keyed)×Nat×Nat×Array Keyed×Nat
noncomputable def on(a b:Array Keyed)(mg ac d:Nat)(c:Nat)(e:Nat)(o:Array Keyed):StateT SortSt Sem (ForInStep gy):=do
 let x <-elem' a (c - 1)
 if c - 1==0 then pure (.done (some (dh a b (o.push x) (c - 1) e),c - 1,e,o.push x,mg,ac,d))
 else if ac<7&&d<7 then pure (.done (none,c - 1,e,o.push x,mg,ac,d)) else pure (.yield (none,c - 1,e,o.push x,mg,ac,d))
noncomputable def oo(a b:Array Keyed)(mg ac e:Nat)(c d:Nat)(o:Array Keyed):StateT SortSt Sem (ForInStep gy):=do
 let y <-elem' b (c - 1)
 if c - 1==1 then pure (.done (some (fh a b (o.push y) d (c - 1)),d,c - 1,o.push y,mg,ac,e))
 else
  let x <-elem' a (d - 1)
  match <-cO true x b 0 (c - 1) (c - 1 - 1) with
  | some p=>
   if c - 1 - p>0 then
    if p==1 then pure (.done (some (fh a b (o.push y++(b.extract p (c - 1)).reverse) d p),d,p,o.push y++(b.extract p (c - 1)).reverse,mg,ac,c - 1 - p))
    else if p==0 then pure (.done (some (dh a b (o.push y++(b.extract p (c - 1)).reverse) d p),d,p,o.push y++(b.extract p (c - 1)).reverse,mg,ac,c - 1 - p))
    else on a b mg ac (c - 1 - p) d p (o.push y++(b.extract p (c - 1)).reverse)
   else on a b mg ac (c - 1 - p) d (c - 1) (o.push y)
  | _=>pure (.done (some (dh a b (o.push y) d (c - 1)),d,c - 1,o.push y,mg,ac,e))
noncomputable def oq(a b:Array Keyed)(ac e:Nat)(c d:Nat)(o:Array Keyed)(mg:Nat):StateT SortSt Sem (ForInStep gy):=do
 dM mg
 let y <-elem' b (d - 1)
 match <-cO false y a 0 c (c - 1) with
 | some p=>
  if c - p>0 then
   if p==0 then pure (.done (some (dh a b (o++(a.extract p c).reverse) p d),p,d,o++(a.extract p c).reverse,mg,c - p,e))
   else oo a b mg (c - p) e d p (o++(a.extract p c).reverse)
  else oo a b mg (c - p) e d c o
 | _=>pure (.done (some (dh a b o c d),c,d,o,mg,ac,e))
noncomputable def qK(a b:Array Keyed)(c:gy):StateT SortSt Sem (ForInStep gy):=
 if c.2.2.2.2.1>1 then oq a b c.2.2.2.2.2.1 c.2.2.2.2.2.2 c.2.1 c.2.2.1 c.2.2.2.1 (c.2.2.2.2.1 - 1) else oq a b c.2.2.2.2.2.1 c.2.2.2.2.2.2 c.2.1 c.2.2.1 c.2.2.2.1 c.2.2.2.2.1
noncomputable def qL(a b:Array Keyed)(mg:Nat)(c:om):StateT SortSt Sem (ForInStep om):=do
 let y <-elem' b (c.2.2.1 - 1);let x <-elem' a (c.2.1 - 1)
 match <-lt' y x with
 | some d=>
  if d then do
   let x <-elem' a (c.2.1 - 1)
   if c.2.1 - 1==0 then pure (.done (some (dh a b (c.2.2.2.1.push x) (c.2.1 - 1) c.2.2.1),c.2.1 - 1,c.2.2.1,c.2.2.2.1.push x,c.2.2.2.2.1+1,0))
   else if c.2.2.2.2.1+1≥mg then pure (.done (none,c.2.1 - 1,c.2.2.1,c.2.2.2.1.push x,c.2.2.2.2.1+1,0)) else pure (.yield (none,c.2.1 - 1,c.2.2.1,c.2.2.2.1.push x,c.2.2.2.2.1+1,0))
  else do
   let y <-elem' b (c.2.2.1 - 1)
   if c.2.2.1 - 1==1 then pure (.done (some (fh a b (c.2.2.2.1.push y) c.2.1 (c.2.2.1 - 1)),c.2.1,c.2.2.1 - 1,c.2.2.2.1.push y,0,c.2.2.2.2.2+1))
   else if c.2.2.2.2.2+1≥mg then pure (.done (none,c.2.1,c.2.2.1 - 1,c.2.2.2.1.push y,0,c.2.2.2.2.2+1)) else pure (.yield (none,c.2.1,c.2.2.1 - 1,c.2.2.2.1.push y,0,c.2.2.2.2.2+1))
 | _=>pure (.done (some (dh a b c.2.2.2.1 c.2.1 c.2.2.1),c.2.1,c.2.2.1,c.2.2.2.1,c.2.2.2.2.1,c.2.2.2.2.2))
noncomputable def qM(a b:Array Keyed)(c:qJ):StateT SortSt Sem (ForInStep qJ):=do
 let d <-forIn [:a.size+b.size] ((none,c.2.1,c.2.2.1,c.2.2.2.1,0,0):om) fun _ d=>qL a b c.2.2.2.2 d
 match d.1 with
 | some r=>pure (.done (some r,d.2.1,d.2.2.1,d.2.2.2.1,c.2.2.2.2))
 | none=>
  rule "list.sort.gallop"
  let e <-forIn [:a.size+b.size] ((none,d.2.1,d.2.2.1,d.2.2.2.1,c.2.2.2.2+1,d.2.2.2.2.1,d.2.2.2.2.2):gy) fun _ e=>qK a b e
  match e.1 with
  | some r=>pure (.done (some r,e.2.1,e.2.2.1,e.2.2.2.1,e.2.2.2.2.1))
  | none=>
   dM (e.2.2.2.2.1+1)
   pure (.yield (none,e.2.1,e.2.2.1,e.2.2.2.1,e.2.2.2.2.1+1))
theorem Lr(a b:Array Keyed):iF a b=(do
 rule "list.sort.merge-hi"
 let tt:=a.size+b.size;let dn (o:Array Keyed) (na nb:Nat):=a.extract 0 na++b.extract 0 nb++o.reverse;let la (o:Array Keyed) (na nb:Nat):=b.extract 0 nb++a.extract 0 na++o.reverse;let mut na:=a.size - 1;let mut nb:=b.size;let mut o:Array Keyed:=#[<-elem' a na]
 if na==0 then return dn o na nb
 if nb==1 then return la o na nb
 let mut mg:=gallopOf (<-get)
 for _ in [0:tt] do
  let mut ac:=0;let mut bc:=0
  for _ in [0:tt] do
   let some aw <-lt' (<-elem' b (nb - 1)) (<-elem' a (na - 1)) | return dn o na nb
   if aw then
    na:=na - 1;o:=o.push (<-elem' a na);ac:=ac+1;bc:=0
    if na==0 then return dn o na nb
    if ac≥mg then break
   else
    nb:=nb - 1;o:=o.push (<-elem' b nb);bc:=bc+1;ac:=0
    if nb==1 then return la o na nb
    if bc≥mg then break
  rule "list.sort.gallop"
  mg:=mg+1
  for _ in [0:tt] do
   if mg>1 then mg:=mg - 1
   dM mg
   let some p <-cO false (<-elem' b (nb - 1)) a 0 na (na - 1) | return dn o na nb
   let k:=na - p
   ac:=k
   if k>0 then
    o:=o++(a.extract p na).reverse;na:=p
    if na==0 then return dn o na nb
   nb:=nb - 1;o:=o.push (<-elem' b nb)
   if nb==1 then return la o na nb
   let some p <-cO true (<-elem' a (na - 1)) b 0 nb (nb - 1) | return dn o na nb
   let k:=nb - p
   bc:=k
   if k>0 then
    o:=o++(b.extract p nb).reverse;nb:=p
    if nb==1 then return la o na nb
    if nb==0 then return dn o na nb
   na:=na - 1;o:=o.push (<-elem' a na)
   if na==0 then return dn o na nb
   if ac<7&&bc<7 then break
  mg:=mg+1
  dM mg
 unsupported "internal:list.sort.merge-bound"):=rfl
theorem Ls(a b:Array Keyed):iF a b=(do
 rule "list.sort.merge-hi"
 let x <-elem' a (a.size - 1)
 if a.size - 1==0 then return dh a b #[x] (a.size - 1) b.size
 if b.size==1 then return fh a b #[x] (a.size - 1) b.size
 let g <-get;let c <-forIn [:a.size+b.size] ((none,a.size - 1,b.size,#[x],gallopOf g):qJ) fun _ c=>qM a b c
 match c.1 with
 | some r=>pure r
 | none=>unsupported "internal:list.sort.merge-bound"):=by
 rw[Lr];refine bI fun _=>?_;dsimp only;refine bI fun y=>?_;unfold dh fh;refine congrArg _ (congrArg _ (bI fun g=>?_));refine fb (fun _ c=>?_) fun c=>?_
 ·unfold qM;refine fb (fun _ d=>?_) fun d=>?_
  ·unfold qL dh fh;refine bI fun _=>bI fun _=>bI fun q=>?_;cases q<;>rfl
  ·obtain⟨r,d⟩:=d;cases r with
   | some r=>rfl
   | none=>
    dsimp only;refine bI fun _=>fb (fun _ e=>?_) fun e=>?_
    ·unfold qK oq dh;refine fo ?_ ?_ <;>
     ·refine bI fun _=>bI fun _=>bI fun q=>?_;cases q with
      | none=>rfl
      | some k=>
       refine fo (fo rfl ?_) ?_ <;>
       ·unfold oo on dh fh;refine bI fun _=>fo rfl (bI fun _=>bI fun q=>?_);cases q<;>rfl
    ·obtain⟨r,e⟩:=e;cases r<;>rfl
 ·obtain⟨r,c⟩:=c;cases r<;>rfl
def HH(le:Keyed->Keyed->Bool)(a b:Array Keyed)(o:Array Keyed)(c d:Nat):Prop:=List.merge (a.toList.take c) (b.toList.take d) le++o.toList.reverse=List.merge a.toList b.toList le
theorem Lu{α:Type}{l:List α}{i:Nat}{x:α}(h:l[i]? = some x):l.take (i+1)=l.take i++[x]:=by obtain⟨a,h2⟩:=List.getElem?_eq_some_iff.mp h;rw[List.take_succ,List.getElem?_eq_getElem a,h2];rfl
theorem take_take{α:Type}(l:List α){p n:Nat}(h:p<=n):l.take n=l.take p++(l.drop p).take (n - p):=by have:l.take n=(l.take n).take p++(l.take n).drop p:=(List.take_append_drop p (l.take n)).symm;rw[List.take_take,Nat.min_eq_left h,List.drop_take] at this;exact this
theorem kU{l:List Keyed}{n:Nat}{x:Keyed}(h:x∈l.take n):∃j,j<n/\l[j]? = some x:=by have:=oj (l:=l) (i:=0) (k:=n) (x:=x) (by simpa using h);simpa using this
section
variable{le:Keyed->Keyed->Bool}{S:Keyed->Prop}{a b o:Array Keyed}{na nb p:Nat}{x y:Keyed}
theorem HH.ga(M:MH le S a b)(h:HH le a b o na (nb+1))(d:p<=na)(f:b[nb]? = some y)(e:∀(i:Nat),p<=i->i<na->∀x:Keyed,a[i]? = some x->le x y=false):HH le a b (o++(a.extract p na).reverse) p (nb+1):=by
 unfold HH at h ⊢;rw[take_take a.toList d,uL _ _ (fun z g x k=>?_)] at h
 ·rw[<-h];simp[fW]
 ·obtain⟨j,n,q⟩:=oj k;obtain⟨i,s,r⟩:=kU g;have c:=e (p+j) (by omega) (by omega) x (by rw[cJ];exact q);have l:=M.sb i nb z y (by omega) (by rw[cJ];exact r) f;cases m:le x z with
  | false=>rfl
  | true=>rw[M.tr _ _ _ m l] at c;cases c
theorem HH.gb(M:MH le S a b)(h:HH le a b o (na+1) nb)(c:p<=nb)(d:a[na]? = some x)(e:∀(i:Nat),p<=i->i<nb->∀y:Keyed,b[i]? = some y->le x y=true):HH le a b (o++(b.extract p nb).reverse) (na+1) p:=by
 unfold HH at h ⊢;rw[take_take b.toList c,qz _ _ (fun z f y g=>?_)] at h
 ·rw[<-h];simp[fW]
 ·obtain⟨j,m,q⟩:=oj g;obtain⟨i,n,r⟩:=kU f;have k:=e (p+j) (by omega) (by omega) y (by rw[cJ];exact q);have l:=M.sa i na z x (by omega) (by rw[cJ];exact r) d;exact M.tr _ _ _ l k
theorem Ay{α:Type}{a:Array α}{i:Nat}{x:α}(h:a[i]? = some x)(o:Array α):o++(a.extract i (i+1)).reverse=o.push x:=by apply Array.toList_inj.mp;rw[cJ] at h;simp only[Array.toList_append,Array.toList_reverse,fW,Nat.add_sub_cancel_left,iE h,Array.toList_push];rfl
theorem HH.pa(M:MH le S a b)(h:HH le a b o (na+1) (nb+1))(c:a[na]? = some x)(f:b[nb]? = some y)(e:le x y=false):HH le a b (o.push x) na (nb+1):=by
 have g:∀(i:Nat),na<=i->i<na+1->∀z,a[i]? = some z->le z y=false:=fun i j k z d=>by
  obtain rfl:i=na:=by omega
  rw[c] at d;cases d;exact e
 have:=h.ga M (p:=na) (by omega) f g
 rwa [Ay c] at this
theorem HH.pb(M:MH le S a b)(h:HH le a b o (na+1) (nb+1))(f:a[na]? = some x)(c:b[nb]? = some y)(e:le x y=true):HH le a b (o.push y) (na+1) nb:=by
 have g:∀(i:Nat),nb<=i->i<nb+1->∀z,b[i]? = some z->le x z=true:=fun i j k z d=>by
  obtain rfl:i=nb:=by omega
  rw[c] at d;cases d;exact e
 have:=h.gb M (p:=nb) (by omega) f g
 rwa [Ay c] at this
theorem ot{α:Type}(a:Array α)(n:Nat):(a.extract 0 n).toList=a.toList.take n:=by rw[fW];simp
theorem HH.dh(h:HH le a b o 0 nb):(dh a b o 0 nb).toList=List.merge a.toList b.toList le:=by unfold HH at h;unfold TS.dh;rw[<-h];simp only[Array.toList_append,ot,Array.toList_reverse,List.take_zero,List.nil_append,List.nil_merge]
theorem HH.fh(M:MH le S a b)(h:HH le a b o na 1):(fh a b o na 1).toList=List.merge a.toList b.toList le:=by
 unfold HH at h;unfold TS.fh;rw[<-h,uK (fun y f x g=>?_)]
 ·simp only[Array.toList_append,ot,Array.toList_reverse]
 ·obtain⟨j,m,q⟩:=kU g;obtain⟨i,n,r⟩:=kU f;obtain rfl:i=0:=by omega
  obtain⟨d,c⟩:=at_ M.a0;have e:=M.first d y c (by rw[cJ];exact r)
  have k:=M.sa 0 j d x (by omega) c (by rw[cJ];exact q);cases l:le x y with
  | false=>rfl
  | true=>rw[M.tr _ _ _ k l] at e;cases e
end
section
variable{prog:Program}{w:World}{A:Around}{E:Value->Shared->Prop}{s:Shared}{le:Keyed->Keyed->Bool}{κ:SortKind}{S:Keyed->Prop}{a b:Array Keyed}{st0:SortSt}
def Hd(le:Keyed->Keyed->Bool)(a b o:Array Keyed)(c d:Nat):Prop:=HH le a b o c d/\0<c/\c<=a.size/\1<d/\d<=b.size
noncomputable def HR(le:Keyed->Keyed->Bool)(a b:Array Keyed)(m:Nat):ForInStep gy->Prop
 | .done (some r,_)=>r.toList=List.merge a.toList b.toList le
 | .done (none,c,d,o,_)=>Hd le a b o c d/\c+d<=m
 | .yield (none,c,d,o,_)=>Hd le a b o c d/\c+d<=m
 | .yield (some _,_)=>False
variable(M:MH le S a b)
include M
theorem Az{mg ac k:Nat}{o:Array Keyed}{c d m:Nat}{st:SortSt}{x y:Keyed}{Q:ForInStep gy->SortSt->Prop}(h:HH le a b o (c+1) (d+1))(p:c+1<=a.size)(l:0<d)(t:d+1<=b.size)(q:c+1+(d+1)<=m)
  (i:a[c]? = some x) (n:b[d]? = some y) (e:le x y=false) (f:∀r,HR le a b m r->Q r st):wpS (model prog w) A E s (on a b mg ac k (c+1) (d+1) o) Q st:=by
 unfold on;simp only[Nat.add_sub_cancel];refine aD (dk i ?_);have h1:=h.pa M i n e
 by_cases j:c=0
 ·subst j;rw[if_pos (by rfl)];exact aV (f _ h1.dh)
 ·rw[if_neg (by simpa using j)];have g:Hd le a b (o.push x) c (d+1)/\c+(d+1)<=m:=⟨⟨h1,by omega,by omega,by omega,by omega⟩,by omega⟩
  split
  ·exact aV (f _ g)
  ·exact aV (f _ g)
theorem AA(N:dt prog w A E s le κ S){mg ac O:Nat}{o:Array Keyed}{k d m:Nat}{st:SortSt}{x y:Keyed}{Q:ForInStep gy->SortSt->Prop}(R:kindOf st=κ)(h:HH le a b o (k+1) (d+1))(G:k+1<=a.size)(T:0<d)(hb:d+1<=b.size)(hm:k+1+(d+1)<=m)
  (g:a[k]? = some x) (H:b[d]? = some y) (e:le x y=true) (B:∀r,HR le a b m r->Q r st):wpS (model prog w) A E s (oo a b mg ac O (d+1) (k+1) o) Q st:=by
 unfold oo;simp only[Nat.add_sub_cancel];refine aD (dk H ?_);have h1:=h.pb M g H e
 by_cases I:d=1
 ·subst I;rw[if_pos (by rfl)];exact aV (B _ (h1.fh M))
 ·rw[if_neg (by simpa using I)];refine aD (dk g (aD (kT N M.tr R (M.Sa _ _ g) M.Sb (by omega) (fun i j u v _ C _=>M.sb i j u v C) (fun p U g1 g2=>?_) (by omega))));simp only[Nat.zero_add] at g1 g2;dsimp only;have h2:=h1.gb M U g fun i X Y z f=>by have:=g2 i X Y z f;simpa[du] using this
  have h3:∀(i:Nat) (z:Keyed),i<p->b[i]? = some z->le x z=false:=fun i z q f=>by have:=g1 i q z f;simpa[du] using this
  have Z:0<p:=by
   rcases Nat.eq_zero_or_pos p with q | q
   ·subst q;obtain⟨J,l⟩:=at_ M.a0;obtain⟨D,n⟩:=at_ M.b0;have t:=M.first J D l n
    have e3:=g2 0 (aZ _) (by omega) D n;have e4:le x D=true:=by simpa[du] using e3
    have e5:=M.tr _ _ _ (M.sa 0 k J x (by omega) l g) e4;rw[e5] at t;cases t
   ·exact q
  obtain⟨q,rfl⟩:∃q,p=q+1:=⟨p - 1,by omega⟩
  obtain⟨z,f⟩:=at_ (c:=b) (i:=q) (by omega)
  by_cases L:d - (q+1)>0
  ·rw[if_pos L]
   by_cases t:q+1=1
   ·rw[if_pos (by simpa using t)];obtain rfl:q=0:=by omega
    exact aV (B _ (h2.fh M))
   ·rw[if_neg (by simpa using t),if_neg (by simp)];exact Az M h2 G (by omega) (by omega) (by omega) g f (h3 q z (by omega) f) B
  ·rw[if_neg L];obtain rfl:d=q+1:=by omega
   exact Az M h1 G (by omega) (by omega) (by omega) g f (h3 q z (by omega) f) B
theorem AB(t:dt prog w A E s le κ S){mg ac H:Nat}{o:Array Keyed}{f k m:Nat}{st:SortSt}{Q:ForInStep gy->SortSt->Prop}(I:Sm st0 st)(J:kindOf st0=κ)(h:Hd le a b o f k/\f+k<=m)
  (x:∀r l,Sm st0 l->HR le a b m r->Q r l):wpS (model prog w) A E s (oq a b ac H f k o mg) Q st:=by
 obtain⟨⟨h,L,U,N,hb⟩,X⟩:=h;obtain⟨k,rfl⟩:∃q,k=q+1:=⟨k - 1,by omega⟩
 unfold oq;rw[qD];obtain⟨y,n⟩:=at_ (c:=b) (i:=k) (by omega);refine aD (wpS_modify (aD (dk n ?_)));have d:=I.mg mg;generalize SortSt.mk' (kindOf st) (arrOf st) (pendingOf st) mg (failedOf st)=B at d ⊢;have eg:kindOf B=κ:=d.kind.trans J;refine aD (kT t M.tr eg (M.Sb _ _ n) M.Sa (by omega) (fun i j u v _ C _=>M.sa i j u v C) (fun p O g1 g2=>?_) (by omega));simp only[Nat.zero_add] at g1 g2;dsimp only;have h2:=h.ga M O n fun i R T z e=>by have:=g2 i R T z e;simpa[du] using this
 have h3:∀(i:Nat) (z:Keyed),i<p->a[i]? = some z->le z y=true:=fun i z q e=>by have:=g1 i q z e;simpa[du] using this
 by_cases D:f - p>0
 ·rw[if_pos D]
  by_cases G:p=0
  ·subst G;rw[if_pos (by rfl)];exact aV (x _ _ d h2.dh)
  ·rw[if_neg (by simpa using G)];obtain⟨q,rfl⟩:∃q,p=q+1:=⟨p - 1,by omega⟩
   obtain⟨z,e⟩:=at_ (c:=a) (i:=q) (by omega);exact AA M t eg h2 (by omega) (by omega) hb (by omega) e n (h3 q z (by omega) e) fun r g=>x r _ d g
 ·rw[if_neg D];obtain rfl:f=p:=by omega
  obtain⟨q,rfl⟩:∃q,f=q+1:=⟨f - 1,by omega⟩
  obtain⟨z,e⟩:=at_ (c:=a) (i:=q) (by omega);exact AA M t eg h (by omega) (by omega) hb (by omega) e n (h3 q z (by omega) e) fun r g=>x r _ d g
theorem Lv(f:dt prog w A E s le κ S){mg ac k:Nat}{o:Array Keyed}{d e m:Nat}{st:SortSt}{Q:ForInStep gy->SortSt->Prop}(g:Sm st0 st)(i:kindOf st0=κ)(h:Hd le a b o d e/\d+e<=m)
  (j:∀r c,Sm st0 c->HR le a b m r->Q r c):wpS (model prog w) A E s (qK a b (none,d,e,o,mg,ac,k)) Q st:=by
 unfold qK;dsimp only;split
 ·exact AB M f g i h j
 ·exact AB M f g i h j
noncomputable def AC(le:Keyed->Keyed->Bool)(a b:Array Keyed)(m:Nat):om->Prop
 | (some r,_)=>r.toList=List.merge a.toList b.toList le
 | (none,c,d,o,_)=>Hd le a b o c d/\c+d<=m
theorem Lw(u:dt prog w A E s le κ S){mg ac v:Nat}{o:Array Keyed}{d f m:Nat}{st:SortSt}{Q:ForInStep om->SortSt->Prop}(z:kindOf st=κ)(h:Hd le a b o d f)(D:d+f<=m+1)
  (hd:∀c,AC le a b m c->Q (.done c) st) (r:∀t g j n p,Hd le a b t g j->g+j<=m->Q (.yield (none,g,j,t,n,p)) st):wpS (model prog w) A E s (qL a b mg (none,d,f,o,ac,v)) Q st:=by
 unfold qL;obtain⟨h,B,G,C,hb⟩:=h;obtain⟨f,rfl⟩:∃q,f=q+1:=⟨f - 1,by omega⟩
 obtain⟨d,rfl⟩:∃q,d=q+1:=⟨d - 1,by omega⟩
 simp only[Nat.add_sub_cancel];obtain⟨y,k⟩:=at_ (c:=b) (i:=f) (by omega);obtain⟨x,ex⟩:=at_ (c:=a) (i:=d) (by omega);refine aD (dk k (aD (dk ex (aD (u y x (M.Sb _ _ k) (M.Sa _ _ ex) _ st z ?_)))));dsimp only;cases e:le x y with
 | false=>
  simp only[Bool.not_false,if_true];have h1:=h.pa M ex k e;refine aD (dk ex ?_)
  by_cases l:d=0
  ·subst l;rw[if_pos (by rfl)];exact aV (hd _ h1.dh)
  ·rw[if_neg (by simpa using l)];split
   ·exact aV (hd _ ⟨⟨h1,by omega,by omega,by omega,by omega⟩,by omega⟩)
   ·exact aV (r _ _ _ _ _ ⟨h1,by omega,by omega,by omega,by omega⟩ (by omega))
 | true=>
  simp only[Bool.not_true,Bool.false_eq_true,if_false];have h1:=h.pb M ex k e;refine aD (dk k ?_)
  by_cases l:f=1
  ·subst l;rw[if_pos (by rfl)];exact aV (hd _ (h1.fh M))
  ·rw[if_neg (by simpa using l)];split
   ·exact aV (hd _ ⟨⟨h1,by omega,by omega,by omega,by omega⟩,by omega⟩)
   ·exact aV (r _ _ _ _ _ ⟨h1,by omega,by omega,by omega,by omega⟩ (by omega))
theorem Lx(G:dt prog w A E s le κ S){mg:Nat}{o:Array Keyed}{e f m:Nat}{st:SortSt}{Q:ForInStep qJ->SortSt->Prop}(v:Sm st0 st)(H:kindOf st0=κ)(h:Hd le a b o e f)(T:e+f<=m)
  (hd:∀r c d,Sm st0 d->r.toList=List.merge a.toList b.toList le->Q (.done (some r,c)) d) (N:∀u n p y d,Sm st0 d->Hd le a b u n p->n+p+1<=m->Q (.yield (none,n,p,u,y)) d) :
  wpS (model prog w) A E s (qM a b (none,e,f,o,mg)) Q st:=by
 unfold qM;dsimp only;have eg:kindOf st=κ:=v.kind.trans H;have b0:=M.b0;have O:1<=m:=by have:=h.2.1;omega
 refine aD (wpS_mono (wpS_forRange (I:=fun x c d=>d = st/\∃o e f ac j,c=(none,e,f,o,ac,j)/\Hd le a b o e f/\e+f+x<=m)
  (Q:=fun c d=>d = st/\AC le a b (m - 1) c) ?_ ?_ ⟨rfl,o,e,f,0,0,rfl,h,by omega⟩) ?_)
 ·rintro x c d _ R ⟨rfl,o,e,f,ac,j,rfl,g,q⟩;have U:=g.2;refine Lw M G (m:=m - x - 1) eg g (by omega) (fun c k=>⟨rfl,?_⟩) (fun u z B C D J X=>⟨rfl,u,z,B,C,D,rfl,J,by have:=J.2;omega⟩);obtain⟨_ | r,c⟩:=c
  ·exact⟨k.1,by have:=k.2;omega⟩
  ·exact k
 ·rintro c d ⟨rfl,o,e,f,ac,j,rfl,g,q⟩;exact⟨rfl,g,by omega⟩
 ·rintro⟨_ | r,c⟩ d ⟨rfl,k⟩
  ·obtain⟨e,f,o,ac,j⟩:=c;dsimp only;refine aD (wpS_lift (wpAny_rule ⟨rfl,?_⟩));refine aD (wpS_mono (wpS_forRange (I:=fun _ c d=>Sm st0 d/\∃o e f mg ac j,c=(none,e,f,o,mg,ac,j)/\Hd le a b o e f/\e+f<=m - 1)
    (Q:=fun c d=>Sm st0 d/\HR le a b (m - 1) (.done c)) ?_ ?_ ⟨v,o,e,f,_,ac,j,rfl,k⟩) ?_)
   ·rintro x c d _ R ⟨i,o,e,f,mg,ac,j,rfl,g⟩;refine Lv M G i H g fun r L l t=>?_
    match r,t with
    | .done c,t=>exact⟨l,t⟩
    | .yield (none,e,f,o,mg,ac,j),t=>exact⟨l,o,e,f,mg,ac,j,rfl,t⟩
    | .yield (some _,_),t=>exact t.elim
   ·rintro c d ⟨i,o,e,f,mg,ac,j,rfl,g⟩;exact⟨i,g⟩
   ·rintro⟨_ | r,c⟩ d ⟨i,k⟩
    ·obtain⟨e,f,o,mg,ac,j⟩:=c;dsimp only;rw[qD];exact aD (wpS_modify (aV (N _ _ _ _ _ (i.mg _) k.1 (by have:=k.2;omega))))
    ·exact aV (hd _ _ _ i k)
  ·exact aV (hd _ _ _ v k)
theorem Ly(N:dt prog w A E s le κ S){Q:Array Keyed->SortSt->Prop}(O:kindOf st0=κ)(h:∀r d,Sm st0 d->r.toList=List.merge a.toList b.toList le->Q r d):wpS (model prog w) A E s (iF a b) Q st0:=by
 rw[Ls];refine aD (wpS_lift (wpAny_rule ⟨rfl,?_⟩));have b0:=M.b0;have a0:=M.a0;obtain⟨k,v⟩:∃k,a.size=k+1:=⟨a.size - 1,by omega⟩
 obtain⟨l,z⟩:∃l,b.size=l+1:=⟨b.size - 1,by omega⟩
 obtain⟨x,u⟩:=at_ (c:=a) (i:=k) (by omega);obtain⟨y,B⟩:=at_ (c:=b) (i:=l) (by omega);rw[v,z];simp only[Nat.add_sub_cancel];refine aD (dk u ?_);have R:HH le a b #[] (k+1) (l+1):=by unfold HH;rw[List.take_of_length_le (by simp;omega),List.take_of_length_le (by simp;omega)];simp
 have C:HH le a b #[x] k (l+1):=R.pa M u B (M.last k x y (by omega) u (by rw[cJ] at B;exact List.mem_of_getElem? B))
 by_cases J:k=0
 ·subst J;rw[if_pos (by rfl)];exact aV (h _ _ .refl C.dh)
 ·rw[if_neg (by simpa using J)]
  by_cases L:l=0
  ·subst L;rw[if_pos (by rfl)];exact aV (h _ _ .refl (C.fh M))
  ·rw[if_neg (by simpa using L)];refine aD (wpS_get ?_);refine aD (wpS_mono (wpS_forRange (I:=fun x c d=>Sm st0 d/\∃o n p mg,c=(none,n,p,o,mg)/\Hd le a b o n p/\n+p+x+1<=a.size+b.size)
    (Q:=fun c d=>Sm st0 d/\∃r T,c=(some r,T)/\r.toList=List.merge a.toList b.toList le) ?_ ?_ ⟨.refl,#[x],k,l+1,_,rfl,⟨C,by omega,by omega,by omega,by omega⟩,by omega⟩) ?_)
   ·rintro x c d _ u ⟨j,o,n,p,mg,rfl,g,q⟩;refine Lx M N (m:=a.size+b.size - x - 1) j O g (by omega) (fun r c t f e=>⟨f,r,c,rfl,e⟩) fun U D G H t f X Y=>⟨f,U,D,G,H,rfl,X,by omega⟩
   ·rintro c d ⟨j,o,n,p,mg,rfl,g,q⟩;have:=g.2;omega
   ·rintro c d ⟨j,r,c,rfl,e⟩;exact aV (h _ _ j e)
end
noncomputable abbrev CA:=Option (Option Nat)×Nat
noncomputable abbrev CD:=Option (Option Nat)×Nat×Nat
noncomputable def ou(lo a b:Nat):StateT SortSt Sem CA:=forIn [a:b] ((none,a):CA) fun _ c=>do
 let q <-ltAt' (lo+c.2) (lo+c.2 - 1)
 match q with
 | some d=>if d=true then pure (.done (none,c.2)) else pure (.yield (none,c.2+1))
 | _=>pure (.done (some none,c.2))
noncomputable def jR(lo n a:Nat):StateT SortSt Sem (Option Nat):=do
 reverseSlice' lo (lo+n)
 let c <-ou lo n a
 match c.1 with
 | some r=>pure r
 | none=>pure (some c.2)
noncomputable def uM(lo n a:Nat):StateT SortSt Sem CD:=forIn [n:a] ((none,n,0):CD) fun _ c=>do
 let q <-ltAt' (lo+c.2.1) (lo+c.2.1 - 1)
 match q with
 | some b=>
  if b=true then
   if c.2.2>0 then do
    reverseSlice' (lo+c.2.1 - (c.2.2+1)) (lo+c.2.1)
    pure (.yield (none,c.2.1+1,0))
   else pure (.yield (none,c.2.1+1,0))
  else do
   let q <-ltAt' (lo+c.2.1 - 1) (lo+c.2.1)
   match q with
   | some lg=>if lg=true then pure (.done (none,c.2.1,c.2.2)) else pure (.yield (none,c.2.1+1,c.2.2+1))
   | _=>pure (.done (some none,c.2.1,c.2.2))
 | _=>pure (.done (some none,c.2.1,c.2.2))
noncomputable def kW(lo n a:Nat):StateT SortSt Sem (Option Nat):=do
 liftM (rule "list.sort.descending-run")
 let c <-uM lo (n+1) a
 match c.1 with
 | some r=>pure r
 | none=>
  if c.2.2>0 then do
   reverseSlice' (lo+c.2.1 - (c.2.2+1)) (lo+c.2.1)
   jR lo c.2.1 a
  else jR lo c.2.1 a
theorem Lz(lo a:Nat):countRun' lo a=(do
  let c <-ou lo 1 a
  match c.1 with
  | some r=>pure r
  | none=>
   if (c.2==a)=true then pure (some c.2)
   else if c.2>1 then do
    let q <-ltAt' lo (lo+c.2 - 1)
    match q with
    | some b=>if b=true then pure (some c.2) else do
      reverseSlice' lo (lo+c.2)
      kW lo c.2 a
    | _=>pure none
   else kW lo c.2 a):=by
 rw[countRun'_eq];have g:∀n:Nat,jR lo n a=(do
   reverseSlice' lo (lo+n)
   let c <-ou lo n a
   match c.1 with
   | some r=>pure r
   | none=>pure (some c.2)):=fun _=>rfl
 refine bI fun c=>?_;obtain⟨_ | r,n⟩:=c
 ·dsimp only;refine fo rfl (fo (bI fun q=>?_) ?_)
  ·cases q with
   | none=>rfl
   | some b=>
    refine fo rfl (bI fun _=>?_);unfold kW;refine bI fun _=>bI fun d=>?_;obtain⟨_ | r,m,f⟩:=d
    ·dsimp only;unfold jR;refine fo (bI fun _=>bI fun _=>bI fun e=>?_) (bI fun _=>bI fun e=>?_)<;>(obtain⟨_ | r,e⟩:=e<;>rfl)
    ·rfl
  ·unfold kW;refine bI fun _=>bI fun d=>?_;obtain⟨_ | r,m,f⟩:=d
   ·dsimp only;unfold jR;refine fo (bI fun _=>bI fun _=>bI fun e=>?_) (bI fun _=>bI fun e=>?_)<;>(obtain⟨_ | r,e⟩:=e<;>rfl)
   ·rfl
 ·rfl
structure Bs (κ:SortKind) (S:Keyed->Prop) (lo:Nat) (st0 st:SortSt):Prop where
 perm:(arrOf st).Perm (arrOf st0)
 kind:kindOf st=κ
 failed:failedOf st=none
 pend:pendingOf st=pendingOf st0
 keep:∀k,k<lo->(arrOf st)[k]? = (arrOf st0)[k]?
 mem:∀x∈(arrOf st0).toList,S x
section
variable{prog:Program}{w:World}{A:Around}{E:Value->Shared->Prop}{s:Shared}{le:Keyed->Keyed->Bool}{κ:SortKind}{S:Keyed->Prop}{lo:Nat}{st0 st:SortSt}
theorem Bs.size(h:Bs κ S lo st0 st):(arrOf st).size=(arrOf st0).size:=h.perm.size_eq
theorem Bs.at(h:Bs κ S lo st0 st){i:Nat}(b:i<(arrOf st0).size):∃x,(arrOf st)[i]? = some x/\S x:=by obtain⟨x,a⟩:=at_ (c:=arrOf st) (i:=i) (by rw[h.size];exact b);refine⟨x,a,h.mem x ((Array.perm_iff_toList_perm.mp h.perm).mem_iff.mp ?_)⟩;rw[cJ] at a;exact List.mem_of_getElem? a
theorem Bs.setArr(h:Bs κ S lo st0 st){a:Array Keyed}(b:a.Perm (arrOf st))(c:∀k,k<lo->a[k]? = (arrOf st)[k]?):Bs κ S lo st0 (setArr st a):=
 ⟨b.trans h.perm,h.kind,h.failed,h.pend,fun k q=>(c k q).trans (h.keep k q),h.mem⟩
theorem ov(d:dt prog w A E s le κ S)(a:Bs κ S lo st0 st){i j:Nat}{Q:Option Bool->SortSt->Prop}(e:i<(arrOf st0).size)(f:j<(arrOf st0).size)
  (h:∀x y,(arrOf st)[i]? = some x->(arrOf st)[j]? = some y->Q (some (!le y x)) st):wpS (model prog w) A E s (ltAt' i j) Q st:=by
 obtain⟨x,b,g⟩:=a.at e;obtain⟨y,c,k⟩:=a.at f;rw[ltAt'_eq];refine aD (wpS_get ?_);exact aD (dk b (aD (dk c (d x y g k Q st a.kind (h x y b c)))))
theorem qN{i j:Nat}{Q:Unit->SortSt->Prop}(h:Q () (setArr st (mirror (arrOf st) i j ((j - i) / 2)))):wpS (model prog w) A E s (reverseSlice' i j) Q st:=by rw[reverseSlice'_eq];exact wpS_modify h
def fX(le:Keyed->Keyed->Bool)(a:Array Keyed)(lo n:Nat):Prop:=∀(i j:Nat) (x y:Keyed),i<=j->j<n->a[lo+i]? = some x->a[lo+j]? = some y->le x y=true
def gX(le:Keyed->Keyed->Bool)(a:Array Keyed)(lo n:Nat):Prop:=∀(i j:Nat) (x y:Keyed),i<=j->j<n->a[lo+i]? = some x->a[lo+j]? = some y->le y x=true
theorem qO{a:Array Keyed}{i j k:Nat}(b:j<=a.size)(c:k<i):(mirror a i j ((j - i) / 2))[k]? = a[k]?:=by rw[getElem?_mirror_all b,if_neg (by omega)]
theorem dm{R:Keyed->Keyed->Prop}(o:∀x y z,R x y->R y z->R x z)(k:∀x,R x x){a:Array Keyed}{lo n:Nat}(r:0<n)
  (h:∀(i j:Nat) (x y:Keyed),i<=j->j<n->a[lo+i]? = some x->a[lo+j]? = some y->R x y) (p:∀x y,a[lo+(n - 1)]? = some x->a[lo+n]? = some y->R x y) :
  ∀(i j:Nat) (x y:Keyed),i<=j->j<n+1->a[lo+i]? = some x->a[lo+j]? = some y->R x y:=fun i j x y d t e b=>by
 by_cases f:j<n
 ·exact h i j x y d f e b
 ·obtain rfl:j=n:=by omega
  by_cases l:i=j
  ·subst l;rw[e] at b;cases b;exact k x
  ·have m:lo+j<a.size:=by
    rcases Nat.lt_or_ge (lo+j) a.size with q | q
    ·exact q
    ·rw[Array.getElem?_eq_none q] at b;cases b
   obtain⟨z,g⟩:=at_ (c:=a) (i:=lo+(j - 1)) (by omega);exact o _ _ _ (h i (j - 1) x z (by omega) (by omega) e g) (p z y g b)
variable(hL:dt prog w A E s le κ S)(tr:∀x y z,le x y=true->le y z=true->le x z=true)(tt:∀x y,(le x y||le y x)=true)
include tt in
theorem gz(x:Keyed):le x x=true:=by simpa using tt x x
include tt in
theorem qP{x y:Keyed}(h:le x y=false):le y x=true:=by have:=tt x y;rw[h] at this;simpa using this
include hL tr tt
theorem AD{a d:Nat}{Q:CA->SortSt->Prop}(z:lo+d<=(arrOf st0).size)(B:1<=a)(j:a<=d)(o:Bs κ S lo st0 st)(r:fX le (arrOf st) lo a)
  (h:∀n,a<=n->n<=d->fX le (arrOf st) lo n->(n=d\/∀x y,(arrOf st)[lo+(n - 1)]? = some x->(arrOf st)[lo+n]? = some y->le x y=false)->Q (none,n) st) :
  wpS (model prog w) A E s (ou lo a d) Q st:=by
 unfold ou;refine wpS_forRange (I:=fun x c f=>f = st/\c=(none,x)/\fX le (arrOf st) lo x) ?_ ?_ ⟨rfl,rfl,r⟩
 ·rintro x c f k t ⟨rfl,rfl,b⟩;dsimp only;refine aD (ov hL o (by omega) (by omega) fun u v i g=>?_);rw[show lo+x - 1=lo+(x - 1) by omega] at g;cases e:le v u with
  | false=>simp only[Bool.not_false,if_true];exact aV (h x k (by omega) b (.inr fun p q l m=>by rw[l] at g;rw[m] at i;cases g;cases i;exact e))
  | true=>simp only[Bool.not_true,Bool.false_eq_true,if_false];exact aV ⟨rfl,rfl,dm tr (gz tt) (by omega) b fun p q l m=>by rw[l] at g;rw[m] at i;cases g;cases i;exact e⟩
 ·rintro c f ⟨rfl,rfl,b⟩;rw[show max a d=d by omega] at b ⊢;exact h d j (aZ _) b (.inl rfl)
theorem AE{n f:Nat}{Q:Option Nat->SortSt->Prop}(q:lo+f<=(arrOf st0).size)(C:1<=n)(g:n<=f)(p:Bs κ S lo st0 st)(r:gX le (arrOf st) lo n)
  (h:∀m a,Bs κ S lo st0 a->1<=m->m<=f->fX le (arrOf a) lo m->Q (some m) a):wpS (model prog w) A E s (jR lo n f) Q st:=by
 unfold jR;have d:lo+n<=(arrOf st).size:=by rw[p.size];omega
 refine aD (qN ?_);have e:=p.setArr (mirror_perm (arrOf st) lo (lo+n) ((lo+n - lo) / 2)) fun k t=>qO d t;refine aD (AD hL tr tt q C g e (fun i j x y u D v z=>?_) fun m B l o _=>aV (h m _ e (by omega) l o));have b:(mirror (arrOf st) lo (lo+n) ((lo+n - lo) / 2))[lo+i]? = some x:=v;have c:(mirror (arrOf st) lo (lo+n) ((lo+n - lo) / 2))[lo+j]? = some y:=z;rw[getElem?_mirror_all d,if_pos (by omega)] at b c;rw[show lo+(lo+n) - 1 - (lo+i)=lo+(n - 1 - i) by omega] at b;rw[show lo+(lo+n) - 1 - (lo+j)=lo+(n - 1 - j) by omega] at c;exact r (n - 1 - j) (n - 1 - i) y x (by omega) (by omega) c b
def qQ(le:Keyed->Keyed->Bool)(a:Array Keyed)(lo m q:Nat):Prop:=∀(i j:Nat) (x y:Keyed),m - (q+1)<=i->i<m->m - (q+1)<=j->j<m->a[lo+i]? = some x->a[lo+j]? = some y->le x y=true
omit hL tr tt in
theorem gX.mir{c:Array Keyed}{m q:Nat}(l:q+1<=m)(d:lo+m<=c.size)(f:gX le c lo m)(g:qQ le c lo m q):gX le (mirror c (lo+m - (q+1)) (lo+m) ((lo+m - (lo+m - (q+1))) / 2)) lo m:=fun i j x y e h b a=>by
 rw[getElem?_mirror_all d] at b a
 by_cases n:m - (q+1)<=i
 ·rw[if_pos (by omega)] at b;rw[if_pos (by omega)] at a;rw[show lo+m - (q+1)+(lo+m) - 1 - (lo+i)=lo+(m - (q+1)+m - 1 - i) by omega] at b;rw[show lo+m - (q+1)+(lo+m) - 1 - (lo+j)=lo+(m - (q+1)+m - 1 - j) by omega] at a;exact g _ _ y x (by omega) (by omega) (by omega) (by omega) a b
 ·rw[if_neg (by omega)] at b
  by_cases k:m - (q+1)<=j
  ·rw[if_pos (by omega)] at a;rw[show lo+m - (q+1)+(lo+m) - 1 - (lo+j)=lo+(m - (q+1)+m - 1 - j) by omega] at a;exact f i _ x y (by omega) (by omega) b a
  ·rw[if_neg (by omega)] at a;exact f i j x y e h b a
theorem LA{n z:Nat}{Q:CD->SortSt->Prop}(hn:lo+z<=(arrOf st0).size)(J:1<=n)(Z:n<=z)(hB:Bs κ S lo st0 st)(hs:gX le (arrOf st) lo n)
  (h:∀m q d,Bs κ S lo st0 d->n<=m->m<=z->gX le (arrOf d) lo m->q+1<=m->qQ le (arrOf d) lo m q->Q (none,m,q) d):wpS (model prog w) A E s (uM lo n z) Q st:=by
 unfold uM;have one:∀(o:Array Keyed) (m:Nat),qQ le o lo m 0:=fun o m i j x y a1 a2 a3 a4 hx B=>by
  obtain rfl:i=j:=by omega
  rw[hx] at B;cases B;exact gz tt x
 refine wpS_forRange (I:=fun x c d=>∃q,c=(none,x,q)/\Bs κ S lo st0 d/\gX le (arrOf d) lo x/\q+1<=x/\qQ le (arrOf d) lo x q) ?_ ?_ ⟨0,rfl,hB,hs,by omega,one _ _⟩
 ·rintro x c d a0 a5 ⟨q,rfl,f,g,L,t⟩;dsimp only;have C:lo+x<=(arrOf d).size:=by rw[f.size];omega
  refine aD (ov hL f (by omega) (by omega) fun u v M D=>?_);rw[show lo+x - 1=lo+(x - 1) by omega] at D;cases e:le v u with
  | false=>
   simp only[Bool.not_false,if_true];have N:∀o:Array Keyed,gX le o lo x->(∀y,o[lo+(x - 1)]? = some y->le u y=true)->o[lo+x]? = some u->gX le o lo (x+1):=fun o hd J Y=>dm (R:=fun a b=>le b a=true) (fun a b c J Y=>tr _ _ _ Y J) (gz tt) (by omega) hd fun p r l G=>by rw[Y] at G;cases G;exact J p l
   have O:le u v=true:=qP tt e
   by_cases T:q>0
   ·rw[if_pos T];refine aD (qN (aV ⟨0,rfl,f.setArr (mirror_perm _ _ _ _) fun k hk=>qO (by omega) (by omega),?_,by omega,one _ _⟩));refine N _ (g.mir L C t) (fun y B=>?_) ?_
    ·have U:(mirror (arrOf d) (lo+x - (q+1)) (lo+x) ((lo+x - (lo+x - (q+1))) / 2))[lo+(x - 1)]? = some y:=B;rw[getElem?_mirror_all C,if_pos (by omega),show lo+x - (q+1)+(lo+x) - 1 - (lo+(x - 1))=lo+(x - (q+1)) by omega] at U;exact tr _ _ _ O (t (x - 1) (x - (q+1)) v y (by omega) (by omega) (by omega) (by omega) D U)
    ·show(mirror (arrOf d) (lo+x - (q+1)) (lo+x) ((lo+x - (lo+x - (q+1))) / 2))[lo+x]? = some u;rw[getElem?_mirror_all C,if_neg (by omega)];exact M
   ·rw[if_neg T];exact aV ⟨0,rfl,f,N _ g (fun y B=>by rw[D] at B;cases B;exact O) M,by omega,one _ _⟩
  | true=>
   simp only[Bool.not_true,Bool.false_eq_true,if_false];refine aD (ov hL f (by omega) (by omega) fun v' u' H X=>?_);rw[show lo+x - 1=lo+(x - 1) by omega] at H;rw[D] at H;cases H;rw[M] at X;cases X;cases e2:le u v with
   | false=>simp only[Bool.not_false,if_true];exact aV (h x q d f a0 (by omega) g L t)
   | true=>
    simp only[Bool.not_true,Bool.false_eq_true,if_false];refine aV ⟨q+1,rfl,f,dm (R:=fun a b=>le b a=true) (fun a b c J Y=>tr _ _ _ Y J) (gz tt) (by omega) g (fun p r l G=>by rw[D] at l;rw[M] at G;cases l;cases G;exact e2),by omega,fun i j p r a1 a2 a3 a4 l G=>?_⟩;have hl:∀(i:Nat) (p:Keyed),x+1 - (q+1+1)<=i->i<x+1->(arrOf d)[lo+i]? = some p->le p v=true/\le v p=true:=fun i p b1 b2 l=>by
     by_cases hi:i=x
     ·subst hi;rw[M] at l;cases l;exact⟨e2,e⟩
     ·exact⟨t i (x - 1) p v (by omega) (by omega) (by omega) (by omega) l D,t (x - 1) i v p (by omega) (by omega) (by omega) (by omega) D l⟩
    exact tr _ _ _ (hl i p a1 a2 l).1 (hl j r a3 a4 G).2
 ·rintro c d ⟨q,rfl,f,g,L,t⟩;rw[show max n z=z by omega] at g L t ⊢;exact h z q d f Z (aZ _) g L t
theorem AF{n g:Nat}{Q:Option Nat->SortSt->Prop}(i:lo+g<=(arrOf st0).size)(j:n+1<=g)(l:Bs κ S lo st0 st)(o:gX le (arrOf st) lo (n+1))
  (h:∀m a,Bs κ S lo st0 a->1<=m->m<=g->fX le (arrOf a) lo m->Q (some m) a):wpS (model prog w) A E s (kW lo n g) Q st:=by
 unfold kW;refine aD (wpS_lift (wpAny_rule ⟨rfl,?_⟩));refine aD (LA hL tr tt i (by omega) j l o fun m q a b p c d r t=>?_);dsimp only;have e:lo+m<=(arrOf a).size:=by rw[b.size];omega
 by_cases f:q>0
 ·rw[if_pos f];exact aD (qN (AE hL tr tt i (by omega) c (b.setArr (mirror_perm _ _ _ _) fun k u=>qO e (by omega)) (d.mir r e t) h))
 ·rw[if_neg f];exact AE hL tr tt i (by omega) c b d h
theorem LB{B:Nat}{Q:Option Nat->SortSt->Prop}(O:lo+B<=(arrOf st0).size)(M:1<=B)(o:Bs κ S lo st0 st)
  (h:∀m p,Bs κ S lo st0 p->1<=m->m<=B->fX le (arrOf p) lo m->Q (some m) p):wpS (model prog w) A E s (countRun' lo B) Q st:=by
 rw[Lz];refine aD (AD hL tr tt O (aZ 1) M o (fun i j x y C D d f=>by
  obtain rfl:i=j:=by omega
  rw[d] at f;cases f;exact gz tt x) fun n G H g T=>?_)
 dsimp only
 by_cases q:n=B
 ·rw[if_pos (by simpa using q)];exact aV (h n st o G H g)
 ·rw[if_neg (by simpa using q)];have I:=T.resolve_left q
  by_cases J:n>1
  ·rw[if_pos J];refine aD (ov hL o (by omega) (by omega) fun u v hu N=>?_);rw[show lo+n - 1=lo+(n - 1) by omega] at N;cases e:le v u with
   | false=>simp only[Bool.not_false,if_true];exact aV (h n st o G H g)
   | true=>
    simp only[Bool.not_true,Bool.false_eq_true,if_false];have r:lo+n<=(arrOf st).size:=by rw[o.size];omega
    have l:∀(i j:Nat) (x y:Keyed),i<n->j<n->(arrOf st)[lo+i]? = some x->(arrOf st)[lo+j]? = some y->le x y=true:=fun i j x y hi D d f=>tr _ _ _ (g i (n - 1) x v (by omega) (by omega) d N) (tr _ _ _ e (g 0 j u y (by omega) D (by simpa using hu) f));refine aD (qN (AF hL tr tt O (by omega) (o.setArr (mirror_perm _ _ _ _) fun k hk=>qO r hk) ?_ h));have t:∀(i:Nat) (x:Keyed),i<n->(mirror (arrOf st) lo (lo+n) ((lo+n - lo) / 2))[lo+i]? = some x->∃j,j<n/\(arrOf st)[lo+j]? = some x:=fun i x hi d=>by rw[getElem?_mirror_all r,if_pos (by omega),show lo+(lo+n) - 1 - (lo+i)=lo+(n - 1 - i) by omega] at d;exact⟨_,by omega,d⟩
    refine dm (R:=fun a b=>le b a=true) (fun a b c M Z=>tr _ _ _ Z M) (gz tt) (by omega) (fun i j x y C D d f=>?_) fun x y d f=>?_
    ·obtain⟨U,z,X⟩:=t i x (by omega) d;obtain⟨j',Y,q2⟩:=t j y D f;exact l j' U y x Y z q2 X
    ·obtain⟨U,z,X⟩:=t (n - 1) x (by omega) d;have L:(mirror (arrOf st) lo (lo+n) ((lo+n - lo) / 2))[lo+n]? = some y:=f;rw[getElem?_mirror_all r,if_neg (by omega)] at L;exact tr _ _ _ (qP tt (I v y N L)) (l (n - 1) U v x (by omega) z N X)
  ·rw[if_neg J];obtain rfl:n=1:=by omega
   refine AF hL tr tt O (by omega) o ?_ h;refine dm (R:=fun a b=>le b a=true) (fun a b c M Z=>tr _ _ _ Z M) (gz tt) (by omega) (fun i j x y C D d f=>?_) fun x y d f=>qP tt (I x y d f);obtain rfl:i=j:=by omega
   rw[d] at f;cases f;exact gz tt x
theorem LC{n ok:Nat}{Q:Bool->SortSt->Prop}(hn:lo+n<=(arrOf st0).size)(a4:ok<=n)(Y:Bs κ S lo st0 st)(Z:fX le (arrOf st) lo ok)
  (h:∀b,Bs κ S lo st0 b->fX le (arrOf b) lo n->Q true b):wpS (model prog w) A E s (binarySort' lo n ok) Q st:=by
 rw[binarySort'_eq];refine aD (wpS_mono (wpS_forRange (I:=fun k c b=>c=(none,())/\Bs κ S lo st0 b/\fX le (arrOf b) lo (min k n))
  (Q:=fun c b=>c=(none,())/\Bs κ S lo st0 b/\fX le (arrOf b) lo n) ?_ ?_ ?_) ?_)
 ·rintro k c b a0 a1 ⟨rfl,f,d⟩;rw[show min k n=k by omega] at d;obtain⟨u,R,su⟩:=f.at (i:=lo+k) (by omega);dsimp only;refine aD (wpS_mono (wpS_forRange (I:=fun x c a=>a = b/\∃l r,c=(none,l,r)/\l<=r/\r<=k/\r - l<=k - x/\
    (∀(i:Nat) (y:Keyed),i<l->(arrOf b)[lo+i]? = some y->le y u=true)/\(∀(i:Nat) (y:Keyed),r<=i->i<k->(arrOf b)[lo+i]? = some y->le y u=false))
   (Q:=fun c a=>a = b/\∃l r,c=(none,l,r)/\l<=k/\
    (∀(i:Nat) (y:Keyed),i<l->(arrOf b)[lo+i]? = some y->le y u=true)/\(∀(i:Nat) (y:Keyed),l<=i->i<k->(arrOf b)[lo+i]? = some y->le y u=false)) ?_ ?_ ?_) ?_)
  ·rintro x c a _ a2 ⟨rfl,l,r,rfl,M,p,hm,g,m⟩;dsimp only
   by_cases t:l≥r
   ·rw[if_pos t];obtain rfl:l=r:=by omega
    exact aV ⟨rfl,l,l,rfl,p,g,m⟩
   ·rw[if_neg t];refine aD (ov hL f (by omega) (by omega) fun u' v z T=>?_);rw[R] at z;cases z;cases e:le v u with
    | false=>
     simp only[Bool.not_false,if_true];refine aV ⟨rfl,l,(l+r) / 2,rfl,by omega,by omega,by omega,g,fun i y L X o=>?_⟩;cases H:le y u with
     | false=>rfl
     | true=>rw[tr _ _ _ (d _ _ v y L X T o) H] at e;cases e
    | true=>simp only[Bool.not_true,Bool.false_eq_true,if_false];exact aV ⟨rfl,(l+r) / 2+1,r,rfl,by omega,by omega,by omega,fun i y L o=>tr _ _ _ (d i ((l+r) / 2) y v (by omega) (by omega) o T) e,m⟩
  ·rintro c a ⟨rfl,l,r,rfl,M,p,hm,g,m⟩;obtain rfl:l=r:=by omega
   exact⟨rfl,l,l,rfl,p,g,m⟩
  ·exact⟨rfl,0,k,rfl,by omega,by omega,by omega,fun i y hi=>by omega,fun i y L X=>by omega⟩
  ·rintro c a ⟨rfl,l,r,rfl,a3,g,m⟩;show wpS _ _ _ _ (do moveDown' (lo+k) (lo+l);pure (ForInStep.yield (none,()))) _ _;rw[moveDown'_eq];have N:lo+k<(arrOf a).size:=by rw[f.size];omega
   have gb:=fun j=>getElem?_bubble (xs:=arrOf a) N (lo+k - (lo+l)) (by omega) j;refine aD (wpS_modify (aV ⟨rfl,f.setArr (bubble_perm _ _ _) (fun j U=>by rw[gb,if_neg (by omega),if_neg (by omega)]),?_⟩));rw[show min (k+1) n=k+1 by omega];intro i j x y q U J o;have B:(bubble (arrOf a) (lo+k) (lo+k - (lo+l)))[lo+i]? = some x:=J;have C:(bubble (arrOf a) (lo+k) (lo+k - (lo+l)))[lo+j]? = some y:=o;rw[gb] at B C;have cs:∀(i:Nat) (x:Keyed),i<k+1->(if lo+i=lo+k - (lo+k - (lo+l)) then(arrOf a)[lo+k]? else if lo+k - (lo+k - (lo+l))<lo+i/\lo+i<=lo+k then(arrOf a)[lo+i - 1]? else(arrOf a)[lo+i]?)=some x->
     (i=l/\x=u)\/(l<i/\(arrOf a)[lo+(i - 1)]? = some x)\/(i<l/\(arrOf a)[lo+i]? = some x):=fun i x hi h=>by
    split at h
    ·rw[R] at h;cases h;exact .inl ⟨by omega,rfl⟩
    ·split at h
     ·rw[show lo+i - 1=lo+(i - 1) by omega] at h;exact .inr (.inl ⟨by omega,h⟩)
     ·exact .inr (.inr ⟨by omega,h⟩)
   rcases cs i x (by omega) B with⟨O,rfl⟩ | ⟨O,D⟩ | ⟨O,D⟩<;>rcases cs j y (by omega) C with⟨H,rfl⟩ | ⟨H,G⟩ | ⟨H,G⟩
   ·exact gz tt _
   ·exact qP tt (m (j - 1) y (by omega) (by omega) G)
   ·omega
   ·omega
   ·exact d (i - 1) (j - 1) x y (by omega) (by omega) D G
   ·omega
   ·exact g i x O D
   ·exact d i (j - 1) x y (by omega) (by omega) D G
   ·exact d i j x y q (by omega) D G
 ·rintro c b ⟨hc,f,d⟩;refine⟨hc,f,?_⟩
  rwa [show min (max (max ok 1) n) n=n by omega] at d
 ·refine⟨rfl,Y,fun i j x y q U J o=>?_⟩
  by_cases L:ok=0
  ·obtain rfl:i=j:=by omega
   rw[J] at o;cases o;exact gz tt x
  ·exact Z i j x y q (by omega) J o
 ·rintro c b ⟨rfl,f,d⟩;exact aV (h b f d)
end
theorem AG(c:Nat):∀(m:List Keyed) (t:Nat) (arr:Array Keyed),c+t+m.length<=arr.size->((m.zipIdx t).foldl (fun(a:Array Keyed) (q:Keyed×Nat)=>a.setIfInBounds (c+q.2) q.1) arr).toList=arr.toList.take (c+t)++(m++arr.toList.drop (c+t+m.length))
 | [],t,arr,h=>by simp
 | x::m,t,arr,h=>by
  rw[List.zipIdx_cons,List.foldl_cons,AG c m (t+1) _ (by rw[Array.size_setIfInBounds];simp at h;omega)];simp only[Array.toList_setIfInBounds];have b:c+t<arr.toList.length:=by simp at h ⊢;omega
  rw[show c+(t+1)=c+t+1 by omega,Lu (l:=arr.toList.set (c+t) x) (x:=x) (by rw[List.getElem?_set_self b]),List.take_set_of_le (aZ _),List.drop_set_of_lt (by omega)];rw[show c+t+(x::m).length=c+t+1+m.length by simp;omega];simp
theorem LD(i:Nat):mergeAt' i=(do
 let t <-get
 let(some (sa,na,pw),some (sb,nb,_)):=((pendingOf t)[i]?,(pendingOf t)[i+1]?) | unsupported "internal:list.sort.pending"
 set (setPending t (((pendingOf t).setIfInBounds i (sa,na+nb,pw)).eraseIdxIfInBounds (i+1)))
 let some k <-cO false (<-elem' (arrOf t) sb) (arrOf t) sa na 0 | return false
 let(sa,na):=(sa+k,na - k)
 if na==0 then return true
 let some nb <-cO true (<-elem' (arrOf t) (sa+na - 1)) (arrOf t) sb nb (nb - 1) | return false
 if nb==0 then return true
 let x:=(arrOf t).extract sa sb;let y:=(arrOf t).extract sb (sb+nb);let r <-if na<=nb then iD x y else iF x y
 modify fun u=>setArr u (r.toList.zipIdx.foldl (fun a (p,j)=>a.setIfInBounds (sa+j) p) (arrOf u))
 return (failedOf (<-get)).isNone):=rfl
theorem LF{b:Program}{w:World}{A:Around}{E:Value->Shared->Prop}{s:Shared}{st a:SortSt}{Q:PUnit->SortSt->Prop}(h:Q ⟨⟩ a):wpS (model b w) A E s (set a:StateT SortSt Sem PUnit) Q st:=by unfold wpS;have e:(set a:StateT SortSt Sem PUnit).run st=pure (⟨⟩,a):=rfl;rw[e];exact av ⟨rfl,h⟩
theorem ow{le:Keyed->Keyed->Bool}(a:∀x,le x x=true){l:List Keyed}(h:l.Pairwise (fun x y=>le x y=true)){i j:Nat}{x y:Keyed}(b:i<=j)(c:l[i]? = some x)(d:l[j]? = some y):le x y=true:=by
 obtain⟨e,rfl⟩:=List.getElem?_eq_some_iff.mp c;obtain⟨f,rfl⟩:=List.getElem?_eq_some_iff.mp d;rcases Nat.lt_or_ge i j with q | q
 ·exact List.pairwise_iff_getElem.mp h i j e f q
 ·obtain rfl:i=j:=by omega
  exact a _
section
variable{prog:Program}{w:World}{A:Around}{E:Value->Shared->Prop}{s:Shared}{le:Keyed->Keyed->Bool}{κ:SortKind}{S:Keyed->Prop}{st:SortSt}
variable(hL:dt prog w A E s le κ S)(tr:∀x y z,le x y=true->le y z=true->le x z=true)(tt:∀x y,(le x y||le y x)=true)
include hL tr tt
theorem LG{Q:Bool->SortSt->Prop}{i pw pv:Nat}{L b d R:List Keyed}(hk:kindOf st=κ)(hf:failedOf st=none)(hS:∀x∈(arrOf st).toList,S x)
  (h1:(pendingOf st)[i]? = some (L.length,b.length,pw)) (h2:(pendingOf st)[i+1]? = some (L.length+b.length,d.length,pv)) (G:(arrOf st).toList=L++(b++(d++R)))
  (a0:0<b.length) (b0:0<d.length) (sa:b.Pairwise fun x y=>le x y=true) (sb:d.Pairwise fun x y=>le x y=true)
  (h:∀n,kindOf n = κ->failedOf n = none->pendingOf n = ((pendingOf st).setIfInBounds i (L.length,b.length+d.length,pw)).eraseIdxIfInBounds (i+1)->(arrOf n).toList=L++(List.merge b d le++R)->Q true n) :
  wpS (model prog w) A E s (mergeAt' i) Q st:=by
 rw[LD];refine aD (wpS_get ?_);rw[h1,h2];dsimp only;have Y:=gz (le:=le) tt;have o:∀j,j<b.length->(arrOf st)[L.length+j]? = b[j]?:=fun j p=>by rw[cJ,G,List.getElem?_append_right (by omega),Nat.add_sub_cancel_left,List.getElem?_append_left p]
 have z:∀j,j<d.length->(arrOf st)[L.length+b.length+j]? = d[j]?:=fun j p=>by rw[cJ,G,List.getElem?_append_right (by omega),List.getElem?_append_right (by omega),show L.length+b.length+j - L.length - b.length=j by omega,List.getElem?_append_left p]
 have X:∀(j:Nat) (x:Keyed),(arrOf st)[j]? = some x->S x:=fun j x c=>hS x (by rw[cJ] at c;exact List.mem_of_getElem? c);have sz:(arrOf st).size=L.length+(b.length+(d.length+R.length)):=by rw[<-Array.length_toList,G];simp
 generalize C:setPending st (((pendingOf st).setIfInBounds i (L.length,b.length+d.length,pw)).eraseIdxIfInBounds (i+1))=m;have J:kindOf m=κ:=by rw[<-C];exact hk
 have f1:failedOf m=none:=by rw[<-C];exact hf
 have p1:pendingOf m=((pendingOf st).setIfInBounds i (L.length,b.length+d.length,pw)).eraseIdxIfInBounds (i+1):=by rw[<-C]
 have N:arrOf m=arrOf st:=by rw[<-C]
 refine aD (LF ?_);obtain⟨y0,a4,eB⟩:∃y t,d=y::t:=by cases d with
  | nil=>simp at b0
  | cons y t=>exact⟨y,t,rfl⟩
 have Z:(arrOf st)[L.length+b.length]? = some y0:=by have:=z 0 b0;rw[eB] at this;simpa using this
 refine aD (dk Z (aD (kT hL tr J (X _ _ Z) X (by omega) (fun i j x y H O q3 c g=>?_) (fun k kK g1 g2=>?_) a0)))
 ·obtain⟨i',rfl⟩:∃i',i=L.length+i':=⟨i - L.length,by omega⟩
  obtain⟨j',rfl⟩:∃j',j=L.length+j':=⟨j - L.length,by omega⟩
  rw[o _ (by omega)] at c g;exact ow Y sa (by omega) c g
 have eA:b.take k++b.drop k=b:=List.take_append_drop k b;have fr:List.merge b d le=b.take k++List.merge (b.drop k) d le:=by
  rw[eB]
  conv=>lhs;rw[<-eA]
  refine qy fun x c=>?_;obtain⟨j,p,q⟩:=kU c;have:=g1 j p x (by rw[o j (by omega)];exact q);simpa[du] using this
 dsimp only
 by_cases e1:b.length - k=0
 ·rw[if_pos (by simpa using e1)];refine aV (h m J f1 p1 ?_);rw[N,G,fr,List.drop_eq_nil_of_le (by omega),List.take_of_length_le (by omega),List.nil_merge,List.append_assoc]
 rw[if_neg (by simpa using e1)];obtain⟨x1,T⟩:∃x,b[b.length - 1]? = some x:=⟨_,List.getElem?_eq_getElem (by omega)⟩
 have a1:(arrOf st)[L.length+k+(b.length - k) - 1]? = some x1:=by rw[show L.length+k+(b.length - k) - 1=L.length+(b.length - 1) by omega,o _ (by omega)];exact T
 refine aD (dk a1 (aD (kT hL tr J (X _ _ a1) X (by omega) (fun i j x y H O q3 c g=>?_) (fun e a5 g3 g4=>?_) (by omega))))
 ·obtain⟨i',rfl⟩:∃i',i=L.length+b.length+i':=⟨i - (L.length+b.length),by omega⟩
  obtain⟨j',rfl⟩:∃j',j=L.length+b.length+j':=⟨j - (L.length+b.length),by omega⟩
  rw[z _ (by omega)] at c g;exact ow Y sb (by omega) c g
 have eC:d.take e++d.drop e=d:=List.take_append_drop e d;have bk:List.merge (b.drop k) d le=List.merge (b.drop k) (d.take e) le++d.drop e:=by
  conv=>lhs;rw[<-eC]
  refine qz _ _ fun x c y g=>?_;obtain⟨j,p⟩:=List.getElem?_of_mem c;rw[List.getElem?_drop] at p;obtain⟨l,hl⟩:=List.getElem?_of_mem g;rw[List.getElem?_drop] at hl;have a2:e+l<d.length:=(List.getElem?_eq_some_iff.mp hl).1;have a6:k+j<b.length:=(List.getElem?_eq_some_iff.mp p).1;have H:=ow Y sa (i:=k+j) (j:=b.length - 1) (by omega) p T;have O:=g4 (e+l) (by omega) a2 y (by rw[z _ a2];exact hl);exact tr _ _ _ H (by simpa[du] using O)
 dsimp only
 by_cases e2:e=0
 ·rw[if_pos (by simpa using e2)];refine aV (h m J f1 p1 ?_);subst e2;rw[N,G,fr,bk];simp only[List.take_zero,List.drop_zero,List.merge_right];rw[<-List.append_assoc (b.take k),eA,List.append_assoc]
 rw[if_neg (by simpa using e2)];have tX:((arrOf st).extract (L.length+k) (L.length+b.length)).toList=b.drop k:=by rw[fW,G,<-List.drop_drop,List.drop_left,List.drop_append_of_le_length (by omega),show L.length+b.length - (L.length+k)=(b.drop k).length by simp;omega,List.take_left]
 have tY:((arrOf st).extract (L.length+b.length) (L.length+b.length+e)).toList=d.take e:=by rw[fW,G,<-List.drop_drop,List.drop_left,List.drop_left,Nat.add_sub_cancel_left,List.take_append_of_le_length (by omega)]
 have lX:((arrOf st).extract (L.length+k) (L.length+b.length)).size=b.length - k:=by rw[<-Array.length_toList,tX];simp
 have lY:((arrOf st).extract (L.length+b.length) (L.length+b.length+e)).size=e:=by rw[<-Array.length_toList,tY];simp;omega
 have B:∀(j:Nat) (x:Keyed),((arrOf st).extract (L.length+k) (L.length+b.length))[j]? = some x->b[k+j]? = some x:=fun j x c=>by rw[cJ,tX,List.getElem?_drop] at c;exact c
 have D:∀(j:Nat) (x:Keyed),((arrOf st).extract (L.length+b.length) (L.length+b.length+e))[j]? = some x->j<e/\d[j]? = some x:=fun j x c=>by
  rw[cJ,tY,List.getElem?_take] at c;split at c
  ·exact⟨by assumption,c⟩
  ·cases c
 have M:MH le S ((arrOf st).extract (L.length+k) (L.length+b.length)) ((arrOf st).extract (L.length+b.length) (L.length+b.length+e)):={
  tr:=tr
  sa:=fun i j x y a3 c g=>ow Y sa (by omega) (B i x c) (B j y g)
  sb:=fun i j x y a3 c g=>ow Y sb a3 (D i x c).2 (D j y g).2
  Sa:=fun i x c=>by have q:=B i x c;exact X (L.length+(k+i)) x (by rw[o _ (List.getElem?_eq_some_iff.mp q).1];exact q)
  Sb:=fun i x c=>by have q:=(D i x c).2;exact X (L.length+b.length+i) x (by rw[z _ (List.getElem?_eq_some_iff.mp q).1];exact q)
  a0:=by omega
  b0:=by omega
  first:=fun x y c g=>by have H:=B 0 x c;have O:=(D 0 y g).2;rw[eB] at O;have q3:=g2 k (aZ _) (by omega) x (by rw[o k (by omega)];exact H);simp only[List.getElem?_cons_zero,Option.some.injEq] at O;rw[<-O];simpa[du] using q3
  last:=fun i x y hi c g=>by
   have H:=B i x c;rw[show k+i=b.length - 1 by omega,T] at H;cases H;rw[tY] at g;obtain⟨j,p,q⟩:=kU g;have q3:=g3 j p y (by rw[z j (by omega)];exact q);simpa[du] using q3 }
 have fin:∀(r:Array Keyed) (f:SortSt),Sm m f->r.toList=List.merge ((arrOf st).extract (L.length+k) (L.length+b.length)).toList ((arrOf st).extract (L.length+b.length) (L.length+b.length+e)).toList le->
   wpS (model prog w) A E s (do
    modify fun u=>setArr u (List.foldl (fun(a:Array Keyed) (x:Keyed×Nat)=>a.setIfInBounds (L.length+k+x.snd) x.fst) (arrOf u) r.toList.zipIdx)
    let v <-get
    pure (failedOf v).isNone) Q f:=fun r f I U=>by
  refine aD (wpS_modify (aD (wpS_get ?_)));rw[tX,tY] at U;have f2:failedOf f=none:=I.failed.trans f1;show wpS _ _ _ _ (pure (failedOf f).isNone) Q _;rw[f2];refine aV (h _ (I.kind.trans J) f2 (I.pend.trans p1) ?_);show(List.foldl (fun(a:Array Keyed) (x:Keyed×Nat)=>a.setIfInBounds (L.length+k+x.snd) x.fst) (arrOf f) r.toList.zipIdx).toList=_;have hl:r.toList.length=b.length - k+e:=by rw[U,List.length_merge];simp;omega
  rw[I.arr,N,AG (L.length+k) r.toList 0 (arrOf st) (by omega),hl,Nat.add_zero,G,fr,bk,U];have t1:(L++(b++(d++R))).take (L.length+k)=L++b.take k:=by rw[List.take_append,List.take_of_length_le (by omega),Nat.add_sub_cancel_left,List.take_append_of_le_length (by omega)]
  have t2:(L++(b++(d++R))).drop (L.length+k+(b.length - k+e))=d.drop e++R:=by rw[show L.length+k+(b.length - k+e)=L.length+(b.length+e) by omega,<-List.drop_drop,List.drop_left,<-List.drop_drop,List.drop_left,List.drop_append_of_le_length (by omega)]
  rw[t1,t2];simp only[List.append_assoc]
 split
 ·exact aD (Lq M hL J fun r f I U=>fin r f I U)
 ·exact aD (Ly M hL J fun r f I U=>fin r f I U)
end
noncomputable def Rn(le:Keyed->Keyed->Bool):Nat->List (Nat×Nat×Nat)->List (List Keyed)->Prop
 | _,[],[]=>True
 | lo,p::a,r::b=>p.1=lo/\p.2.1=r.length/\0<r.length/\r.Pairwise (fun x y=>le x y=true)/\Rn le (lo+r.length) a b
 | _,_,_=>False
section
variable{le:Keyed->Keyed->Bool}
theorem Rn.len:∀{lo:Nat}{a:List (Nat×Nat×Nat)}{b:List (List Keyed)},Rn le lo a b->a.length=b.length
 | _,[],[],_=>rfl
 | _,_::_,_::_,h=>by simp[Rn.len h.2.2.2.2]
 | _,[],_::_,h=>h.elim
 | _,_::_,[],h=>h.elim
theorem Rn.few:∀{lo:Nat}{b:List (Nat×Nat×Nat)}{a:List (List Keyed)},Rn le lo b a->a.length<=a.flatten.length
 | _,[],[],_=>by simp
 | _,_::_,r::a,h=>by have:=Rn.few h.2.2.2.2;have:=h.2.2.1;simp;simp at *;omega
 | _,[],_::_,h=>h.elim
 | _,_::_,[],h=>h.elim
theorem Rn.split:∀{P Q:List (Nat×Nat×Nat)}{lo:Nat}{a:List (List Keyed)},Rn le lo (P++Q) a->∃b R2,a=b++R2/\Rn le lo P b/\Rn le (lo+b.flatten.length) Q R2
 | [],Q,lo,a,h=>⟨[],a,rfl,trivial,h⟩
 | p::P,Q,lo,r::a,h=>by obtain⟨b,R2,e,h1,h2⟩:=Rn.split h.2.2.2.2;refine⟨r::b,R2,by rw[e];rfl,⟨h.1,h.2.1,h.2.2.1,h.2.2.2.1,h1⟩,?_⟩;rw[List.flatten_cons,List.length_append,<-Nat.add_assoc];exact h2
 | p::P,Q,lo,[],h=>h.elim
theorem Rn.join:∀{P Q:List (Nat×Nat×Nat)}{lo:Nat}{a R2:List (List Keyed)},Rn le lo P a->Rn le (lo+a.flatten.length) Q R2->Rn le lo (P++Q) (a++R2)
 | [],Q,lo,[],R2,_,h=>by simpa using h
 | p::P,Q,lo,r::a,R2,h,h2=>⟨h.1,h.2.1,h.2.2.1,h.2.2.2.1,h.2.2.2.2.join (by rw[List.flatten_cons,List.length_append,<-Nat.add_assoc] at h2;exact h2)⟩
 | [],_,_,_::_,_,h,_=>h.elim
 | _::_,_,_,[],_,h,_=>h.elim
theorem Rn.pw{f:Nat×Nat×Nat->Nat×Nat×Nat}(c:∀p,(f p).1=p.1/\(f p).2.1=p.2.1):∀{a:List (Nat×Nat×Nat)}{lo i:Nat}{b:List (List Keyed)},Rn le lo a b->Rn le lo (a.modify i f) b
 | [],_,_,[],h=>by simp[Rn]
 | p::a,lo,0,r::b,h=>by simpa[List.modify,Rn,c] using h
 | p::a,lo,i+1,r::b,h=>by rw[List.modify_succ_cons];exact⟨h.1,h.2.1,h.2.2.1,h.2.2.2.1,h.2.2.2.2.pw c⟩
 | [],_,_,_::_,h=>h.elim
 | _::_,_,_,[],h=>h.elim
structure IV (le:Keyed->Keyed->Bool) (κ:SortKind) (a₀:List Keyed) (st:SortSt) (rs:List (List Keyed)) (rest:List Keyed):Prop where
 kind:kindOf st=κ
 failed:failedOf st=none
 perm:(arrOf st).toList.Perm a₀
 arr:(arrOf st).toList=rs.flatten++rest
 runs:Rn le 0 (pendingOf st).toList rs
variable{prog:Program}{w:World}{A:Around}{E:Value->Shared->Prop}{s:Shared}{κ:SortKind}{a₀:List Keyed}{st:SortSt}
variable(hL:dt prog w A E s le κ (·∈a₀))(tr:∀x y z,le x y=true->le y z=true->le x z=true)(tt:∀x y,(le x y||le y x)=true)
include hL tr tt
theorem AH{Q:Bool->SortSt->Prop}{i:Nat}{u:List (List Keyed)}{rest:List Keyed}(v:IV le κ a₀ st u rest)(L:i+1<(pendingOf st).size)
  (h:∀a g,IV le κ a₀ a g rest->g.flatten.length=u.flatten.length->(pendingOf a).size+1=(pendingOf st).size->Q true a):wpS (model prog w) A E s (mergeAt' i) Q st:=by
 obtain⟨P,l,m,n,e,o⟩:∃P l m n,(pendingOf st).toList=P++l::m::n/\P.length=i:=by
  have h1:i+1<(pendingOf st).toList.length:=by simpa using L
  refine⟨(pendingOf st).toList.take i,(pendingOf st).toList[i]'(by omega),(pendingOf st).toList[i+1],(pendingOf st).toList.drop (i+2),?_,by rw[List.length_take];omega⟩;rw[<-List.drop_eq_getElem_cons h1,<-List.drop_eq_getElem_cons (by omega),List.take_append_drop]
 have y:=v.runs;rw[e] at y;obtain⟨j,R2,d,M,c⟩:=y.split
 match R2,c,d with
 | b::f::z,c,d=>
  obtain⟨N,O,k⟩:=l;obtain⟨R,S,p⟩:=m;obtain⟨q,B,T,C,r,D,U,G,X⟩:=c;dsimp only at q B r D;simp only[Nat.zero_add] at q r;subst q B r D;have H:(arrOf st).toList=j.flatten++(b++(f++(z.flatten++rest))):=by rw[v.arr,d];simp
  have g1:(pendingOf st)[i]? = some (j.flatten.length,b.length,k):=by rw[cJ,e,<-o];simp
  have g2:(pendingOf st)[i+1]? = some (j.flatten.length+b.length,f.length,p):=by rw[cJ,e,<-o];simp
  refine LG hL tr tt v.kind v.failed (fun x Y=>v.perm.mem_iff.mp Y) g1 g2 H T U C G fun a Z f' p' I=>?_;have J:(pendingOf a).toList=P++(j.flatten.length,b.length+f.length,k)::n:=by rw[p',Array.toList_eraseIdxIfInBounds,Array.toList_setIfInBounds,e,<-o,List.set_append_right _ _ (aZ _),List.eraseIdx_append_of_length_le (by omega)];simp
  have t:(List.merge b f le).length=b.length+f.length:=List.length_merge _ _ _;refine h a (j++List.merge b f le::z) ⟨Z,f',?_,?_,?_⟩ ?_ ?_
  ·refine List.Perm.trans ?_ v.perm;rw[I,H];refine List.Perm.append_left _ ?_;rw[<-List.append_assoc b];exact List.Perm.append_right _ (List.merge_perm_append le)
  ·rw[I];simp
  ·rw[J];refine M.join ⟨by simp,by simp[t],by omega,List.pairwise_merge tr tt _ _ C G,?_⟩;rw[t,<-Nat.add_assoc,Nat.zero_add];simpa using X
  ·rw[d];simp[t];omega
  ·have l1:=congrArg List.length J;have l2:=congrArg List.length e;simp at l1 l2;omega
 | [],c,d=>exact c.elim
 | [_],c,d=>exact c.2.2.2.2.elim
theorem AI{Q:ForInStep (Option Unit×Nat)->SortSt->Prop}{lo n:Nat}{d:List (List Keyed)}{rest:List Keyed}(v:IV le κ a₀ st d rest)(a:d.flatten.length=lo)(g:1<=n)(e:n<=rest.length)(f:(rest.take n).Pairwise fun x y=>le x y=true)
  (h:∀b c,IV le κ a₀ b c (rest.drop n)->c.flatten.length=lo+n->Q (.yield (none,lo+n)) b) :
  wpS (model prog w) A E s (do
   modify fun s=>setPending s ((pendingOf s).push (lo,n,0))
   pure (ForInStep.yield (none,lo+n))) Q st:=by
 refine aD (wpS_modify (aV (h _ (d++[rest.take n]) ⟨v.kind,v.failed,v.perm,?_,?_⟩ ?_)))
 ·show(arrOf st).toList=_;rw[v.arr];simp
 ·show Rn le 0 ((pendingOf st).push (lo,n,0)).toList _;rw[Array.toList_push];refine v.runs.join ⟨by simp[a],by simp;omega,by simp;omega,f,trivial⟩
 ·simp[a];omega
theorem AJ{Q:ForInStep (Option Unit×Nat)->SortSt->Prop}{sz lo n:Nat}{j:List (List Keyed)}{rest:List Keyed}(v:IV le κ a₀ st j rest)(d:j.flatten.length=lo)(z:1<=n)(u:n<=rest.length)(B:(rest.take n).Pairwise fun x y=>le x y=true)
  (h:∀a l,IV le κ a₀ a l (rest.drop n)->l.flatten.length=lo+n->Q (.yield (none,lo+n)) a) :
  ∀m,m=(do
   let g <-get
   match (pendingOf g).back? with
   | some (o,k,_)=>do
    let c <-forIn [:sz] ((none,()):Option Unit×Unit) fun _ _=>do
     let g <-get
     match if (pendingOf g).size>1 then(pendingOf g)[(pendingOf g).size - 2]? else none with
     | some (_,_,t)=>
      if t<=power' sz (2 * o+k) (2 * o+k+k+n) sz then pure (ForInStep.done (none,()))
      else do
       let b <-mergeAt' ((pendingOf g).size - 2)
       if (!b)=true then pure (ForInStep.done (some (),())) else pure (ForInStep.yield (none,()))
     | _=>pure (ForInStep.done (none,()))
    match c.fst with
    | some r=>pure (ForInStep.done (some r,lo))
    | none=>do
     modify fun s=>setPending s ((pendingOf s).modify ((pendingOf s).size - 1) fun x=>(x.fst,x.2.fst,power' sz (2 * o+k) (2 * o+k+k+n) sz))
     modify fun s=>setPending s ((pendingOf s).push (lo,n,0))
     pure (ForInStep.yield (none,lo+n))
   | _=>do
    modify fun s=>setPending s ((pendingOf s).push (lo,n,0))
    pure (ForInStep.yield (none,lo+n)))->wpS (model prog w) A E s m Q st:=by
 rintro m rfl;refine aD (wpS_get ?_);cases e:(pendingOf st).back? with
 | none=>exact AI hL tr tt v d z u B h
 | some p=>
  obtain⟨o,k,H⟩:=p;dsimp only;refine aD (wpS_mono (wpS_forRange (I:=fun _ c a=>c=(none,())/\∃j,IV le κ a₀ a j rest/\j.flatten.length=lo)
   (Q:=fun c a=>c=(none,())/\∃j,IV le κ a₀ a j rest/\j.flatten.length=lo) ?_ (fun c a q=>q) ⟨rfl,j,v,d⟩) ?_)
  ·rintro x c a _ _ ⟨rfl,j,v,d⟩;refine aD (wpS_get ?_)
   by_cases h1:(pendingOf a).size>1
   ·rw[if_pos h1];obtain⟨⟨J,L,M⟩,D⟩:=at_ (c:=pendingOf a) (i:=(pendingOf a).size - 2) (by omega);rw[D];dsimp only;split
    ·exact aV ⟨rfl,j,v,d⟩
    ·exact aD (AH hL tr tt v (by omega) fun C l G N O=>aV ⟨rfl,l,G,by omega⟩)
   ·rw[if_neg h1];exact aV ⟨rfl,j,v,d⟩
  ·rintro c a ⟨rfl,j,v,d⟩;dsimp only;refine aD (wpS_modify (AI hL tr tt ⟨v.kind,v.failed,v.perm,v.arr,?_⟩ d z u B h));show Rn le 0 ((pendingOf a).modify _ _).toList _;rw[Array.toList_modify];exact v.runs.pw (f:=fun x=>(x.fst,x.2.fst,power' sz (2 * o+k) (2 * o+k+k+n) sz)) fun p=>⟨rfl,rfl⟩
theorem LH{Q:Unit->SortSt->Prop}(hk:kindOf st=κ)(hf:failedOf st=none)(hp:pendingOf st = #[])(R:(arrOf st).toList=a₀)
  (h:∀a,failedOf a = none->(arrOf a).toList.Perm a₀->(arrOf a).toList.Pairwise (fun x y=>le x y=true)->Q () a):wpS (model prog w) A E s sortRuns' Q st:=by
 rw[sortRuns'_eq];refine aD (wpS_get ?_);dsimp only;generalize a1:minRun' (arrOf st).size (arrOf st).size 0=mr;generalize S:(arrOf st).size=sz;have T:a₀.length=sz:=by rw[<-R,<-S];simp
 refine aD (wpS_mono (wpS_forRange (I:=fun x c a=>∃lo l rest,c=(none,lo)/\IV le κ a₀ a l rest/\l.flatten.length=lo/\x<=lo)
  (Q:=fun c a=>∃lo l rest,c=(none,lo)/\IV le κ a₀ a l rest/\l.flatten.length=lo/\sz<=lo) ?_ ?_ ⟨0,[],a₀,rfl,⟨hk,hf,by rw[R],by rw[R];rfl,by rw[hp];trivial⟩,rfl,Nat.zero_le _⟩) ?_)
 ·rintro x c t _ U ⟨lo,l,rest,rfl,v,u,X⟩;dsimp only
  by_cases D:lo≥sz
  ·rw[if_pos D];exact aV ⟨lo,l,rest,rfl,v,u,D⟩
  ·rw[if_neg D];have G:(arrOf t).size=sz:=by rw[<-Array.length_toList,v.perm.length_eq,T]
   have B1:Bs κ (·∈a₀) lo t t:=⟨Array.Perm.refl _,v.kind,v.failed,rfl,fun _ _=>rfl,fun x U=>v.perm.mem_iff.mp U⟩
   have cY:∀(f:SortSt) (m:Nat),Bs κ (·∈a₀) lo t f->fX le (arrOf f) lo m->m<=sz - lo->∃d,IV le κ a₀ f l d/\d.length=sz - lo/\(d.take m).Pairwise fun x y=>le x y=true:=fun f m C M Y=>by
    have H:(arrOf f).size=sz:=C.size.trans G;have tk:(arrOf f).toList.take lo=l.flatten:=by
     have:(arrOf f).toList.take lo=(arrOf t).toList.take lo:=by
      apply List.ext_getElem?;intro k;rw[List.getElem?_take,List.getElem?_take];split
      ·rename_i q;have:=C.keep k q;rwa [cJ,cJ] at this
      ·rfl
     rw[this,v.arr,<-u,List.take_left]
    refine⟨(arrOf f).toList.drop lo,⟨C.kind,C.failed,(Array.perm_iff_toList_perm.mp C.perm).trans v.perm,?_,by rw[C.pend];exact v.runs⟩,by simp[H],?_⟩
    ·conv=>lhs;rw[<-List.take_append_drop lo (arrOf f).toList,tk]
    ·rw[List.pairwise_iff_getElem];intro i j hi hj a2;simp at hi hj;refine M i j _ _ (by omega) (by omega) ?_ ?_
     ·rw[cJ,List.getElem_take,List.getElem_drop,List.getElem?_eq_getElem]
     ·rw[cJ,List.getElem_take,List.getElem_drop,List.getElem?_eq_getElem]
   refine aD (LB hL tr tt (by omega) (by omega) B1 fun m f C a3 a4 M=>?_);dsimp only;have fin:∀(B:SortSt) (n:Nat),Bs κ (·∈a₀) lo t B->fX le (arrOf B) lo n->1<=n->n<=sz - lo->∀z o,(∃d:List Keyed,d.length=sz - lo/\IV le κ a₀ z o (d.drop n))->o.flatten.length=lo+n->∃J l rest,((none,lo+n):Option Unit×Nat)=(none,J)/\IV le κ a₀ z l rest/\l.flatten.length=J/\x+1<=J:=fun B n Z s3 n1 n2 z o ⟨r2,_,v4⟩ N=>⟨lo+n,o,_,rfl,v4,N,by omega⟩
   by_cases O:m<mr
   ·rw[if_pos O];refine aD (wpS_lift (wpAny_rule ⟨rfl,?_⟩));refine aD (LC hL tr tt (by omega) (by omega) C M fun B Z s3=>?_);simp only[Bool.not_true,Bool.false_eq_true,if_false];obtain⟨d,v3,l3,p3⟩:=cY B _ Z s3 (by omega);refine AJ (sz:=sz) hL tr tt v3 u (by omega) (by omega) p3 (fun z o v4 N=>?_) _ ?_
    rotate_left
    ·refine bI fun g=>?_;cases(pendingOf g).back? with
     | none=>rfl
     | some p=>
      refine fb (fun _ _=>bI fun g=>?_) fun c=>?_
      ·cases(if (pendingOf g).size>1 then(pendingOf g)[(pendingOf g).size - 2]? else none)<;>rfl
      ·obtain⟨_ | r,c⟩:=c<;>rfl
    exact fin B _ Z s3 (by omega) (by omega) z o ⟨d,l3,v4⟩ N
   ·rw[if_neg O];obtain⟨d,v3,l3,p3⟩:=cY f _ C M (by omega);refine AJ (sz:=sz) hL tr tt v3 u (by omega) (by omega) p3 (fun z o v4 N=>?_) _ ?_
    rotate_left
    ·refine bI fun g=>?_;cases(pendingOf g).back? with
     | none=>rfl
     | some p=>
      refine fb (fun _ _=>bI fun g=>?_) fun c=>?_
      ·cases(if (pendingOf g).size>1 then(pendingOf g)[(pendingOf g).size - 2]? else none)<;>rfl
      ·obtain⟨_ | r,c⟩:=c<;>rfl
    exact fin f _ C M (by omega) (by omega) z o ⟨d,l3,v4⟩ N
 ·rintro c a ⟨lo,l,rest,rfl,v,u,X⟩;exact⟨lo,l,rest,rfl,v,u,by omega⟩
 ·rintro c t ⟨lo,l,rest,rfl,v,u,D⟩;dsimp only;have L:rest=[]:=by have l1:=congrArg List.length v.arr;rw[v.perm.length_eq,List.length_append] at l1;exact List.eq_nil_of_length_eq_zero (by omega)
  subst L;have pl:(pendingOf t).size<=sz:=by have l1:=congrArg List.length v.arr;rw[v.perm.length_eq,List.length_append] at l1;have:=v.runs.few;have l2:=v.runs.len;rw[Array.length_toList] at l2;simp only[List.length_nil] at l1;omega
  refine aD (wpS_mono (wpS_forRange (I:=fun x c a=>c=(none,())/\(∃l,IV le κ a₀ a l [])/\(pendingOf a).size<=max 1 (sz - x))
   (Q:=fun c a=>c=(none,())/\(∃l,IV le κ a₀ a l [])/\(pendingOf a).size<=1) ?_ ?_ ⟨rfl,⟨l,v⟩,by omega⟩) ?_)
  ·rintro x c a _ U ⟨rfl,⟨l,v⟩,Y⟩;refine aD (wpS_get ?_)
   by_cases h1:(pendingOf a).size<=1
   ·rw[if_pos h1];exact aV ⟨rfl,⟨l,v⟩,h1⟩
   ·rw[if_neg h1];refine aD (AH hL tr tt v ?_ fun a0 o v' e1 e2=>aV ⟨rfl,⟨o,v'⟩,by omega⟩);have pk:∀(b:Bool) (i n:Nat),i+1<n->(if b=true then i - 1 else i)+1<n:=fun b i n h=>by cases b<;>simp<;>omega
    exact pk _ _ _ (by omega)
  ·rintro c a ⟨rfl,v,Y⟩;exact⟨rfl,v,by omega⟩
  ·rintro c a ⟨rfl,⟨l,v⟩,Y⟩;refine aV (h a v.failed v.perm ?_);rw[v.arr,List.append_nil];have l2:=v.runs.len;rw[Array.length_toList] at l2
   match l,v.runs,l2 with
   | [],_,_=>exact .nil
   | [r],q,l2=>have e:∃p,(pendingOf a).toList=[p]:=List.length_eq_one_iff.mp (by rw[Array.length_toList];simpa using l2);obtain⟨p,e⟩:=e;rw[e] at q;simpa using q.2.2.2.1
   | _::_::_,_,l2=>simp at l2;omega
end
theorem AK:∀a:List Int,HT.lexLt a a=false
 | []=>rfl
 | x::a=>by rw[HT.lexLt_cons,if_pos rfl];exact AK a
theorem uN:∀{a b d:List Int},HT.lexLt a b=true->HT.lexLt b d=true->HT.lexLt a d=true
 | [],[],_,h,_=>by cases h
 | [],y::b,[],_,h=>by cases h
 | [],_::_,_::_,_,_=>rfl
 | x::a,[],_,h,_=>by cases h
 | x::a,y::b,[],_,h=>by cases h
 | x::a,y::b,z::d,h1,h2=>by
  rw[HT.lexLt_cons] at h1 h2 ⊢
  by_cases e:x=y
  ·subst e;rw[if_pos rfl] at h1
   by_cases c:x=z
   ·subst c;rw[if_pos rfl] at h2 ⊢;exact uN h1 h2
   ·rw[if_neg c] at h2 ⊢;exact h2
  ·rw[if_neg e] at h1
   by_cases c:y=z
   ·subst c;rw[if_neg e];exact h1
   ·rw[if_neg c] at h2;have f:=of_decide_eq_true h1;have g:=of_decide_eq_true h2;rw[if_neg (by omega)];exact decide_eq_true (by omega)
theorem uO:∀{a b:List Int},HT.lexLt a b=false->HT.lexLt b a=false->a=b
 | [],[],_,_=>rfl
 | [],_::_,h,_=>by cases h
 | _::_,[],_,h=>by cases h
 | x::a,y::b,h1,h2=>by
  rw[HT.lexLt_cons] at h1 h2
  by_cases e:x=y
  ·subst e;rw[if_pos rfl] at h1 h2;rw[uO h1 h2]
  ·rw[if_neg e] at h1;rw[if_neg (Ne.symm e)] at h2;have c:=of_decide_eq_false h1;have d:=of_decide_eq_false h2;omega
noncomputable def lexLe(a b:List Int):Bool:=!HT.lexLt b a
theorem lexLe_tr(a c d:List Int)(g:lexLe a c=true)(b:lexLe c d=true):lexLe a d=true:=by
 unfold lexLe at *;simp only[Bool.not_eq_true'] at *;cases e:HT.lexLt d a with
 | false=>rfl
 | true=>
  cases f:HT.lexLt a c with
  | true=>rw[uN e f] at b;cases b
  | false=>rw[uO f g] at e;rw[e] at b;cases b
theorem lexLe_tt(a b:List Int):(lexLe a b||lexLe b a)=true:=by
 unfold lexLe;cases e:HT.lexLt b a with
 | false=>rfl
 | true=>
  cases c:HT.lexLt a b with
  | false=>rfl
  | true=>have:=uN e c;rw[AK] at this;cases this
theorem lexLe_as{a b:List Int}(c:lexLe a b=true)(d:lexLe b a=true):a=b:=by unfold lexLe at *;simp only[Bool.not_eq_true'] at *;exact uO d c
noncomputable def sortR(rows:List (List Int)):List (List Int):=rows.mergeSort lexLe
theorem LI{rows c:List (List Int)}(d:c.Perm rows)(e:c.Pairwise fun x y=>lexLe x y=true):c=sortR rows:=
 List.Perm.eq_of_pairwise (fun a b _ _ p q=>lexLe_as p q) e (List.pairwise_mergeSort lexLe_tr lexLe_tt rows) (d.trans (List.mergeSort_perm rows lexLe).symm)
theorem sortR_perm(rows:List (List Int)):(sortR rows).Perm rows:=List.mergeSort_perm rows lexLe
def qR(n:Nat):Prop:=2<=n->∀(b:Program) (w:World) (A:Around) (E:Value->Shared->Prop) (s:Shared) (le:Keyed->Keyed->Bool) (κ:SortKind) (c:List Keyed) (st:SortSt) (Q:Unit->SortSt->Prop),c.length=n->dt b w A E s le κ (·∈c)->(∀x y z,le x y=true->le y z=true->le x z=true)->(∀x y,(le x y||le y x)=true)->
 kindOf st=κ->failedOf st=none->pendingOf st = #[]->(arrOf st).toList=c->(∀a,failedOf a = none->(arrOf a).toList.Perm c->(arrOf a).toList.Pairwise (fun x y=>le x y=true)->Q () a)->wpS (model b w) A E s sortRuns' Q st
theorem AL(n:Nat):qR n:=fun _ _ _ _ _ _ _ _ _ _ _ _ a c b=>LH a c b
section
variable{prog:Program}{w:World}{A:Around}{E:Value->Shared->Prop}{s:Shared}{rk:Value->List Int}{κ:SortKind}
noncomputable abbrev kX(rk:Value->List Int):Keyed->Keyed->Bool:=fun x y=>lexLe (rk x.1) (rk y.1)
structure jS (prog:Program) (w:World) (h0:Heap) (vs:List Value) (rk:Value->List Int) (κ:SortKind):Prop where
 kind:∀(A:Around) (E:Value->Shared->Prop) (s:Shared) (Q:SortKind->Shared->Prop),(∀b o,h0.get? b=some o->s.heap.get? b=some o)->2<=vs.length->Q κ s->wpAny (model prog w) A (keyKind' vs.toArray) Q E s
 lt:∀(A:Around) (E:Value->Shared->Prop) (s:Shared) (Q:Bool->Shared->Prop) (x y:Value),(∀b o,h0.get? b=some o->s.heap.get? b=some o)->x∈vs->y∈vs->Q (HT.lexLt (rk x) (rk y)) s->wpAny (model prog w) A (keyLt' κ x y) Q E s
theorem jS.ltok{a:Heap}{vs:List Value}(k:jS prog w a vs rk κ)(f:∀b o,a.get? b=some o->s.heap.get? b=some o):dt prog w A E s (kX rk) κ (·∈(pairsOf vs).toList):=fun x y c d Q st g q=>by
 rw[pairsOf_toList] at c d;rw[lt'_eq];refine aD (wpS_get ?_);rw[g];refine aD (wpS_lift (wpAny_attempt (k.lt A _ s _ x.1 y.1 f (mem_zip_self c).2 (mem_zip_self d).2 ⟨rfl,?_⟩)));refine aV ?_;have e:(!kX rk y x)=HT.lexLt (rk x.1) (rk y.1):=by unfold kX lexLe;simp
 rw[e] at q;exact q
theorem AM{a:Addr}{vs:List Value}{n:Nat}{i:Heap}{P:PySem.Fin->Shared->Prop}(pc:s.heap.get? a=some (seqObj "list" vs.toArray n))(l:vs.length<=sizeLine)(R:qR vs.length)(k:jS prog w i vs rk κ)(t:∀b o,i.get? b=some o->b≠a/\s.heap.get? b=some o)
  (h:∀f:List Value,f.Perm vs->f.Pairwise (fun x y=>lexLe (rk x) (rk y)=true)->P (.done (.ret .none)) { s with heap:=sortedHeap s.heap a vs f.toArray }) :
  wpAny (model prog w) A (Builtin.«list.sort» ⟨[.ref a],[]⟩) P E s:=by
 rw[list_sort_plain];have la:a<s.heap.objs.size:=ba pc;refine aa (listItems_at pc rfl (aa (listUpdate_at pc rfl ?_ (by simpa using l) (Nat.zero_le _))));obtain⟨m,iJ⟩:∃m,(s.heap.update a (Obj.mapSeq fun _=>#[])).get? a=some (seqObj "list" #[] m):=⟨_,get?_update_seq pc fun _=>#[]⟩
 refine aa (seqEpoch_at iJ rfl (aa (wpAny_newTuple ?_ (by simpa using l))));refine aa (wpAny_newList ?_ (Nat.zero_le _));refine wpAny_holding ?_;have up:∀{b:Addr}{o:Obj},(s.heap.update a (Obj.mapSeq fun _=>#[])).get? b=some o->(((s.heap.update a (Obj.mapSeq fun _=>#[])).push (seqObj "tuple" vs.toArray 0)).push (seqObj "list" #[] 0)).get? b=some o:=fun e=>aS _ (aS _ e);have d:=up iJ;have kp:∀b o,i.get? b=some o->(((s.heap.update a (Obj.mapSeq fun _=>#[])).push (seqObj "tuple" vs.toArray 0)).push (seqObj "list" #[] 0)).get? b=some o:=fun b o e=>up (by rw[Heap.get?_update_ne _ _ _ _ (t b o e).1];exact(t b o e).2);show wpAny (model prog w) A _ P E { s with heap:=((s.heap.update a (Obj.mapSeq fun _=>#[])).push (seqObj "tuple" vs.toArray 0)).push (seqObj "list" #[] 0) };dsimp only;have sz:vs.toArray.size=vs.length:=by simp
 have fin:∀c:SortSt,(arrOf c).toList.Perm (pairsOf vs).toList->(arrOf c).toList.Pairwise (fun x y=>kX rk x y=true)->P (.done (.ret .none)) { s with heap:=sortedHeap s.heap a vs ((arrOf c).map (·.2)) }:=fun c g j=>by
  have r:∀p∈(arrOf c).toList,p.1=p.2:=fun p u=>by have:=g.mem_iff.mp u;rw[pairsOf_toList] at this;exact(mem_zip_self this).1
  have e:(arrOf c).map (·.2)=((arrOf c).toList.map (·.2)).toArray:=by apply Array.toList_inj.mp;simp
  rw[e];refine h _ ?_ ?_
  ·have:=g.map (·.2)
   rwa [pairsOf_toList,List.map_snd_zip (aZ _)] at this
  ·rw[List.pairwise_map];refine List.Pairwise.imp_of_mem (fun {x y} v B q=>?_) j;rw[<-r x v,<-r y B];exact q
 by_cases h2:vs.toArray.size<2
 ·rw[if_pos h2,if_pos h2];refine aa (av ?_);rw[StateT.run_pure];refine aa (av ?_);dsimp only;refine aa (seqEpoch_at d rfl (aa (listUpdate_at d rfl ?_ (Nat.zero_le _) (by
   have:((pairsOf vs).map (·.2)).size<=sizeLine+1:=by rw[Array.size_map,pairsOf_size];omega
   exact this))))
  simp only[bne_self_eq_false,Bool.false_eq_true,if_false];refine av (fin (SortSt.mk' general' (vs.toArray.zip vs.toArray) #[] 7 none) (List.Perm.refl _) ?_);show(pairsOf vs).toList.Pairwise _;rw[pairsOf_toList]
  match vs,sz,h2 with
  | [],_,_=>exact .nil
  | [_],_,_=>exact List.pairwise_singleton _ _
  | _::_::_,_,h2=>simp at h2;omega
 ·rw[if_neg h2,if_neg h2];refine aa (k.kind _ _ _ _ kp (by omega) ?_);refine aa (wpAny_mono (R (by omega) prog w _ _ _ (kX rk) κ (pairsOf vs).toList (SortSt.mk' κ (vs.toArray.zip vs.toArray) #[] 7 none)
   (fun _ c=>failedOf c = none/\(arrOf c).toList.Perm (pairsOf vs).toList/\(arrOf c).toList.Pairwise (fun x y=>kX rk x y=true))
   (by rw[Array.length_toList,pairsOf_size]) (k.ltok kp) (fun x y z p q=>lexLe_tr _ _ _ p q) (fun x y=>lexLe_tt _ _) rfl rfl rfl rfl fun c C D G=>⟨C,D,G⟩) ?_ fun _ _ e=>e)
  rintro⟨⟨⟩,c⟩ I ⟨rfl,H,g,j⟩;dsimp only;refine aa (seqEpoch_at d rfl (aa (listUpdate_at d rfl ?_ (Nat.zero_le _) (by
   have l1:=g.length_eq;simp only[Array.length_toList,pairsOf_size] at l1;have:((arrOf c).map (·.2)).size<=sizeLine+1:=by rw[Array.size_map];omega
   exact this))))
  rw[H];simp only[bne_self_eq_false,Bool.false_eq_true,if_false];exact av (fin c g j)
theorem LJ{l:Addr}{vs:List Value}{Q:Value->Shared->Prop}(r:s.heap.IsList l vs.toArray)(d:vs.length<=sizeLine)(R:qR vs.length)(k:jS prog w s.heap vs rk κ)
  (h:∀(a:List Value) (f:Heap) (n:Nat),a.Perm vs->a.Pairwise (fun x y=>lexLe (rk x) (rk y)=true)->(∀b o,s.heap.get? b=some o->f.get? b=some o)->f.get? (s.heap.objs.size+1)=some (seqObj "list" a.toArray n)->Q (.ref (s.heap.objs.size+1)) { s with heap:=f }) :
  wpAny (model prog w) A (call (.builtin "sorted") [.ref l]) Q E s:=by
 refine Calls.call_function_entry kind_sorted plain_sorted entry_sorted (args_sorted1 _) ?_;unfold Builtin.«sorted»;refine aa (m:=checkCount "sorted" 1 1 _) (av ?_);refine aa (collect_list r (aa (wpAny_newList ?_ d)) d);generalize j:(s.heap.push (seqObj "list" #[] 0)).update s.heap.objs.size (Obj.mapSeq (·++vs.toArray))=g;have p:g.objs.size=s.heap.objs.size+1:=by rw[<-j,Heap.size_update,size_push']
 have t:∀b o,s.heap.get? b=some o->g.get? b=some o:=fun b o e=>by have c:b<s.heap.objs.size:=ba e;rw[<-j,Heap.get?_update_ne _ _ _ _ (Nat.ne_of_lt c),Heap.get?_push_ne _ _ _ (Nat.ne_of_lt c)];exact e
 have jm:(g.push (seqObj "list" vs.toArray 0)).get? (s.heap.objs.size+1)=some (seqObj "list" vs.toArray 0):=by rw[<-p];exact Heap.get?_push_size _ rfl
 show wpAny _ _ _ _ _ { s with heap:=g.push (seqObj "list" vs.toArray 0) };rw[p];have hb:∀b o,s.heap.get? b=some o->b≠s.heap.objs.size+1/\(g.push (seqObj "list" vs.toArray 0)).get? b=some o:=fun b o e=>⟨Nat.ne_of_lt (Nat.lt_succ_of_lt (ba e)),aS _ (t b o e)⟩
 refine aa (wpAny_holding (wpAny_call_entry slot_list_sort ⟨_,jm,rfl⟩ entry_list_sort (AM jm d R k hb fun a u v=>⟨_,rfl,?_⟩) (args_list_sort _)));refine av ⟨_,rfl,?_⟩;obtain⟨i,iJ⟩:∃i,((g.push (seqObj "list" vs.toArray 0)).update (s.heap.objs.size+1) (Obj.mapSeq fun _=>#[])).get? (s.heap.objs.size+1)=some (seqObj "list" #[] i):=⟨_,get?_update_seq jm fun _=>#[]⟩
 have rX:(((((g.push (seqObj "list" vs.toArray 0)).update (s.heap.objs.size+1) (Obj.mapSeq fun _=>#[])).push (seqObj "tuple" vs.toArray 0)).push (seqObj "list" #[] 0))).get? (s.heap.objs.size+1)=some (seqObj "list" #[] i):=aS _ (aS _ iJ);refine h a _ _ u v (fun b o e=>?_) (get?_update_seq rX fun _=>a.toArray);have q:=hb b o e;unfold sortedHeap;rw[Heap.get?_update_ne _ _ _ _ q.1];refine aS _ (aS _ ?_);rw[Heap.get?_update_ne _ _ _ _ q.1];exact q.2
noncomputable def rkH(h:Heap):Value->List Int
 | .int n _=>[n]
 | .ref a=>(match h.get? a with
  | some o=>(match o.data with
   | .seq b _=>b.toList.map numOf
   | _=>[])
  | none=>[])
 | _=>[]
theorem AN{h0:Heap}{vs:List Value}(hv:∀v∈vs,∃n t,v=.int n t):jS prog w h0 vs (rkH h0) oneType' where
 kind:=fun A E s Q _ h2 q=>by
  have hI:=intsAre_map vs hv
  match vs,hI,h2 with
  | v1::v2::r,hI,_=>rw[keyKind_ints hI];exact av q
  | [_],_,h2=>simp at h2
  | [],_,h2=>simp at h2
 lt:=fun A E s Q x y _ hx hy q=>by
  obtain⟨a,t,rfl⟩:=hv x hx;obtain⟨b,u,rfl⟩:=hv y hy;rw[keyLt'_oneType];refine oneLt_int ?_;have e:HT.lexLt (rkH h0 (.int a t)) (rkH h0 (.int b u))=decide (a<b):=by
   show HT.lexLt [a] [b]=_;rw[HT.lexLt_cons];split
   ·rename_i z;subst z;rw[HT.lexLt_nil_nil];symm;exact decide_eq_false (by omega)
   ·rfl
  rw[e] at q;exact q
def gY(h:Heap)(v:Value):Prop:=∃(a:Addr) (b:Array Value) (c:List Int),v=.ref a/\IsTup h a b/\IntsAre b.toList c/\c≠[]
theorem gY.rnk{h:Heap}{v:Value}(t:gY h v):∃(a:Addr) (b:Array Value) (c:List Int),v=.ref a/\IsTup h a b/\IntsAre b.toList c/\c≠[]/\rkH h v=c:=by obtain⟨a,b,c,rfl,d,e,f⟩:=t;refine⟨a,b,c,rfl,d,e,f,?_⟩;obtain⟨o,g,j,n,i⟩:=d;unfold rkH;simp only[g,i];exact e.nums
theorem AO{b:Bool}{Q:Bool->Shared->Prop}:∀{a c:List Value}{g d:List Int}(i:Nat),IntsAre a g->IntsAre c d->Q (HT.lexLt g d) s->W.KatLex prog w A b (decide (a.length<c.length)) Q (a.zip c) i s
 | _,_,_,_,i,.nil,.nil,q=>W.kat_nil q
 | _,_,_,_,i,.nil,.cons m t h,q=>W.kat_nil (by exact q)
 | _,_,_,_,i,.cons n t h,.nil,q=>W.kat_nil (by exact q)
 | _,_,_,_,i,.cons (vs:=vs) n t h,.cons (vs:=f) m u j,q=>by
  rw[List.zip_cons_cons];refine W.kat_cons (wpAny_eqBool_int ?_);rw[HT.lexLt_cons] at q;have k:decide ((Value.int n t::vs).length<(Value.int m u::f).length)=decide (vs.length<f.length):=by simp
  rw[k];refine W.kat_go (fun e=>W.kat_yes ?_) fun e=>W.kat_no ?_
  ·rw[if_pos (by simpa using e)] at q;exact AO (i+1) h j q
  ·rw[if_neg (by simpa using e)] at q;cases b&&i==0 with
   | true=>exact oneLt_int q
   | false=>exact W.kat_one _ _ (lt_int q)
theorem AQ{h:Heap}:∀{vs:List Value},(∀v∈vs,gY h v)->∃fs,W.KatTups h vs fs/\fs.length=vs.length/\∀f∈fs,∃n t,f=Value.int n t
 | [],_=>⟨[],.nil,rfl,fun _ h=>by cases h⟩
 | v::vs,d=>by
  obtain⟨fs,h1,h2,h3⟩:=AQ (vs:=vs) fun u g=>d u (bq _ g);obtain⟨a,b,ns,rfl,⟨o,i,j,n,k⟩,e,p⟩:=d v List.mem_cons_self;obtain⟨m,t,r,q⟩:∃m t r,b.toList=Value.int m t::r:=by
   generalize b.toList=l at e;cases e with
   | nil=>exact absurd rfl p
   | cons n t h=>exact⟨n,t,_,rfl⟩
  refine⟨.int m t::fs,.cons i j k (f:=.int m t) (by rw[cJ,q];rfl) h1,by simp[h2],fun f c=>?_⟩;rcases List.mem_cons.mp c with rfl | c
  ·exact⟨m,t,rfl⟩
  ·exact h3 f c
theorem gY.mono{h d:Heap}(k:∀b o,h.get? b=some o->d.get? b=some o){v:Value}(t:gY h v):gY d v:=
 let⟨a,c,ns,e,⟨o,f,g⟩,i,j⟩:=t;⟨a,c,ns,e,⟨o,k _ _ f,g⟩,i,j⟩
theorem LL{h0:Heap}{vs:List Value}(hv:∀v∈vs,gY h0 v):jS prog w h0 vs (rkH h0) (tuples' true) where
 kind:=fun A E s Q kp h2 q=>by obtain⟨fs,h1,h3,h4⟩:=AQ (h:=s.heap) (vs:=vs) fun v hv'=>(hv v hv').mono kp;refine W.kat_kind (T:=.type "int") h1 (by omega) (fun f hf=>?_) (by decide) q;obtain⟨n,t,rfl⟩:=h4 f hf;exact .now
 lt:=fun A E s Q x y kp hx hy q=>by obtain⟨a,its,ns,rfl,⟨o,e1,e2,k,e3⟩,t2,t3,r1⟩:=(hv x hx).rnk;obtain⟨b,jts,ms,rfl,⟨o',e1',e2',k',e3'⟩,t2',t3',r2⟩:=(hv y hy).rnk;rw[r1,r2] at q;refine W.kat_lt (kp _ _ e1) e3 (kp _ _ e1') e3' ?_;have:=AO (prog:=prog) (w:=w) (A:=A) (s:=s) (b:=true) (Q:=Q) 0 t2 t2' q;simpa using this
end
theorem LM{α β:Type}{f:α->β}{l m:List β}(h:l.Perm m):∀{ts:List α},m=ts.map f->∃a:List α,a.Perm ts/\a.map f=l:=by
 induction h with
 | nil=>
  intro ts e;cases ts with
  | nil=>exact⟨[],.nil,rfl⟩
  | cons _ _=>cases e
 | cons x _ d=>
  intro ts e;cases ts with
  | nil=>cases e
  | cons t ts=>simp only[List.map_cons,List.cons.injEq] at e;obtain⟨a,h1,h2⟩:=d e.2;exact⟨t::a,h1.cons t,by rw[List.map_cons,h2,e.1]⟩
 | swap x y l=>
  intro ts e
  match ts,e with
  | [],e=>cases e
  | [_],e=>cases e
  | t::u::ts,e=>simp only[List.map_cons,List.cons.injEq] at e;exact⟨u::t::ts,.swap t u ts,by simp[e.1,e.2.1,e.2.2]⟩
 | trans _ _ b c=>intro ts e;obtain⟨j,h1,h2⟩:=c e;obtain⟨g,h3,i⟩:=b h2.symm;exact⟨g,h3.trans h1,i⟩
theorem Paired.zipAll{α β:Type}{R:α->β->Prop}:∀{a:List α}{b:List β},Paired R a b->∀p∈a.zip b,R p.1 p.2
 | _,_,.nil,p,h=>by cases h
 | _,_,.cons r t,p,h=>by
  rw[List.zip_cons_cons] at h;rcases List.mem_cons.mp h with rfl | h
  ·exact r
  ·exact Paired.zipAll t p h
theorem Paired.ofZip{α β:Type}{R:α->β->Prop}:∀{a:List (α×β)},(∀p∈a,R p.1 p.2)->Paired R (a.map (·.1)) (a.map (·.2))
 | [],_=>.nil
 | z::a,h=>.cons (h z List.mem_cons_self) (Paired.ofZip fun p b=>h p (bq _ b))
section
variable{X:Cx}
noncomputable def RowV(K:Frag)(H:Hp):Bool->V->List Int->Prop
 | false,v,r=>∃i,v=.int i/\r=[i]
 | true,v,r=>∃a,v=.ref a/\dD K H a (r.map V.int)/\r≠[]
noncomputable def rSortedP(P:Nat->Prop)(K:Frag):List V->Hp->VK->Prop:=fun d H Q=>∃p a rows b,P a.length/\d=[.ref p]/\cU K H p a/\Paired (RowV K H b) a rows/\
 ∀(l:Addr) (c:List (V×List Int)),H l=none->c.Perm (a.zip rows)->c.map (·.2)=sortR rows->Q (.ref l) (bp H l (.lst (c.map (·.1))))
theorem LN{P:Nat->Prop}(R:∀n,P n->qR n):eU X (.builtin "sorted") (rSortedP P X.K):=by
 intro U s Y H xs us Q I r h;obtain⟨p,B,rows,b,hP,rfl,hq,hr,q⟩:=h;obtain⟨u,rfl,rx⟩:=vals1 r;cases rx;obtain⟨C,M,pl,hz⟩:=I.list hq;have D:=M.length;have key:∀(y:V) (v:Value) (row:List Int),bd y v->RowV X.K H b y row->rkH s.heap v=row/\(b=true->gY s.heap v)/\(b=false->∃n t,v=.int n t):=fun y v row rel Z=>by
  cases b with
  | false=>obtain⟨i,rfl,rfl⟩:=Z;obtain⟨t,rfl⟩:=rel;exact⟨rfl,(fun z=>by cases z),fun _=>⟨i,t,rfl⟩⟩
  | true=>
   obtain⟨a,rfl,sq,ne⟩:=Z;cases rel;obtain⟨E,rj,tj,_⟩:=I.tuple sq;have ia:IntsAre E row:=L3.ints_are rj;have T:gY s.heap (.ref a):=⟨a,E.toArray,row,rfl,tj,by simpa using ia,ne⟩
   obtain⟨a',a0,a1,L,⟨o,q1,q2,n,q3⟩,e3,e4,e5⟩:=T.rnk;refine⟨?_,fun _=>T,fun z=>by cases z⟩;obtain⟨o',G,p2,n',p3⟩:=tj;unfold rkH;simp only[G,p3];exact ia.nums
 have all:∀{B:List V}{vs:List Value}{rows:List (List Int)},bi B vs->Paired (RowV X.K H b) B rows->vs.map (rkH s.heap)=rows/\∀v∈vs,(b=true->gY s.heap v)/\(b=false->∃n t,v=.int n t):=by
  intro B vs rows h1
  induction h1 generalizing rows with
  | nil=>intro S;cases S;exact⟨rfl,fun _ h=>by cases h⟩
  | cons a _ ih=>
   intro S;cases S with
   | cons c d=>
    obtain⟨L,e2⟩:=ih d;have k:=key _ _ _ a c;refine⟨by rw[List.map_cons,L,k.1],fun v m=>?_⟩;rcases List.mem_cons.mp m with rfl | m
    ·exact k.2
    ·exact e2 v m
 obtain⟨J,j⟩:=all M hr;have x:∃κ,jS X.prog X.w s.heap C (rkH s.heap) κ:=by
  cases b with
  | false=>exact⟨_,AN fun v m=>(j v m).2 rfl⟩
  | true=>exact⟨_,LL fun v m=>(j v m).1 rfl⟩
 obtain⟨κ,x⟩:=x;refine LJ (rk:=rkH s.heap) pl.isList (by omega) (R _ (by rw[<-D];exact hP)) x fun A h' n G p2 kp e=>?_;obtain⟨g,t1,t2⟩:=LM (f:=fun t:V×Value=>t.2) G (ts:=B.zip C) (by rw[List.map_snd_zip (by omega)]);have rel:∀t∈g,bd t.1 t.2:=fun t ht=>Paired.zipAll M t (t1.mem_iff.mp ht);have l:bi (g.map (·.1)) A:=by
  have:=Paired.ofZip (R:=bd) rel
  rwa [t2] at this
 have lz:(g.map (·.1)).length<=sizeLine:=by rw[l.length,G.length_eq];omega
 have N:(g.map fun t=>(t.1,rkH s.heap t.2)).Perm (B.zip rows):=by
  have:=t1.map fun t:V×Value=>(t.1,rkH s.heap t.2)
  refine this.trans (.of_eq ?_);rw[<-J,List.zip_map_right];rfl
 have O:(g.map fun t=>(t.1,rkH s.heap t.2)).map (·.2)=sortR rows:=by
  have L:(g.map fun t=>(t.1,rkH s.heap t.2)).map (·.2)=A.map (rkH s.heap):=by rw[<-t2];simp
  rw[L];refine LI ?_ ?_
  ·rw[<-J];exact G.map _
  ·rw[List.pairwise_map];exact p2
 have fin:=q (s.heap.objs.size+1) _ (I.hok.fresh (Nat.le_succ _)) N O;have e3:(g.map fun t=>(t.1,rkH s.heap t.2)).map (·.1)=g.map (·.1):=by simp
 rw[e3] at fin;exact⟨.ref (s.heap.objs.size+1),_,I.laid (t':=s.toks) kp (Nat.le_succ _) (show cz X.prog X.w _ h' _ (.lst (g.map (·.1))) from⟨lz,A,n,l,e⟩),rfl,fin⟩
noncomputable abbrev rSorted:=rSortedP fun _=>True
theorem call_sorted:eU X (.builtin "sorted") (rSorted X.K):=LN fun n _=>AL n
end
end L2.TS
namespace L2.L3
open PySem PySem.Spec PyProof.Rows
noncomputable def fY(c:List Int):List Int:=c.mergeSort fun a b=>decide (a<=b)
noncomputable def ox(a:List PyData):Option (List PyData):=match fm a with
 | some ns=>some ((fY ns).map PyData.int)
 | none=>(match gW a with
  | some rows=>if rows.all (fun r=>!r.isEmpty)=true then some ((TS.sortR rows).map fun r=>.tuple (r.map PyData.int)) else none
  | none=>none)
noncomputable def kY:List PyData->Option PyData:=fun a=>match a with
 | [.list b]=>(ox b).map PyData.list
 | _=>none
noncomputable def AR:DN:=fun a Q=>∃d,kY a=some d/\Q d
theorem LO(d:List Int):(TS.sortR (d.map fun n=>[n])).map (fun r=>r.headD 0)=fY d:=by
 have p:=(TS.sortR_perm (d.map fun n=>[n])).map (fun r=>r.headD 0);have e:(d.map fun n=>[n]).map (fun r=>r.headD 0)=d:=by rw[List.map_map];exact(List.map_congr_left fun n _=>rfl).trans (List.map_id d)
 rw[e] at p;refine List.Perm.eq_of_pairwise (le:=fun a b=>decide (a<=b)=true) (fun a b _ _ f g=>by simp at f g;omega) ?_ (List.pairwise_mergeSort (fun a b c f g=>by simp at *;omega) (fun a b=>by simp;omega) d) (p.trans (List.mergeSort_perm _ _).symm);rw[List.pairwise_map];have q:(TS.sortR (d.map fun n=>[n])).Pairwise (fun x y=>TS.lexLe x y=true):=List.pairwise_mergeSort TS.lexLe_tr TS.lexLe_tt _;refine List.Pairwise.imp_of_mem (fun {x y} i j h=>?_) q;obtain⟨a,_,rfl⟩:=List.mem_map.mp ((TS.sortR_perm _).mem_iff.mp i);obtain⟨b,_,rfl⟩:=List.mem_map.mp ((TS.sortR_perm _).mem_iff.mp j);refine decide_eq_true (show a<=b from ?_);unfold TS.lexLe at h;rw[HT.lexLt_cons] at h
 by_cases e:b=a
 ·exact Int.le_of_eq e.symm
 ·rw[if_neg e] at h
  by_cases k:b<a
  ·simp[k] at h
  ·omega
theorem AS{G:Hp}{mk:List Int->PyData}:∀{c:List V}{rows:List (List Int)},aI G c (rows.map mk)->Paired (fun y r=>DV G y (mk r)) c rows
 | _,[],.nil=>.nil
 | _,_::_,.cons a b=>.cons a (AS b)
theorem AU{G:Hp}{mk:List Int->PyData}:∀{c:List V}{rows:List (List Int)},Paired (fun y r=>DV G y (mk r)) c rows->aI G c (rows.map mk)
 | _,_,.nil=>.nil
 | _,_,.cons a b=>.cons a (AU b)
theorem LP{K:Frag}{P:Nat->Prop}{O:List Addr}{H:Hp}{a:Addr}{f:List V}{g:List PyData}{d:PyData}{Q:VK}(x:P f.length)(A:∀p,H p=none->p∉O)(u:au O H a=some (.lst f))(B:aI (au O H) f g)(e:(ox g).map PyData.list=some d)(q:∀v m,bX H m->DV (au O m) v d->Q v m):TS.rSortedP P K [.ref a] H Q:=by
 have sq:cU K H a f:=.of (da u).1;have go:∀(b:Bool) (mk:List Int->PyData) (rows:List (List Int)),g=rows.map mk->(∀y r,r∈rows->DV (au O H) y (mk r)->TS.RowV K H b y r)->d=.list ((TS.sortR rows).map mk)->TS.rSortedP P K [.ref a] H Q:=fun b mk rows C D E=>by
  subst C;have pr:=AS B;have o:Paired (TS.RowV K H b) f rows:=by
   clear sq u;have:∀{f:List V}{k:List (List Int)},(∀r∈k,r∈rows)->Paired (fun y r=>DV (au O H) y (mk r)) f k->Paired (TS.RowV K H b) f k:=by
    intro f k w p
    induction p with
    | nil=>exact .nil
    | cons c _ G=>exact .cons (D _ _ (w _ List.mem_cons_self) c) (G fun r i=>w r (bq _ i))
   exact this (fun _ h=>h) pr
  refine⟨a,f,rows,b,x,rfl,sq,o,fun l I s J L=>?_⟩;subst E;refine q _ _ (bZ s) (jx s (A l s) ?_);have M:∀z∈I,DV (au O H) z.1 (mk z.2):=fun z N=>TS.Paired.zipAll pr z (J.mem_iff.mp N);have:=AU (TS.Paired.ofZip (R:=fun y r=>DV (au O H) y (mk r)) M)
  rwa [L] at this
 unfold ox at e;cases h2:fm g with
 | some ns=>
  rw[h2] at e;simp only[Option.map_some,Option.some.injEq] at e;refine go false (fun r=>.int (r.headD 0)) (ns.map fun n=>[n]) (by rw[qx h2];simp) (fun y r i t=>?_) ?_
  ·obtain⟨n,_,rfl⟩:=List.mem_map.mp i;exact⟨n,t.int_inv,rfl⟩
  ·rw[<-e,<-LO,List.map_map];rfl
 | none=>
  rw[h2] at e;cases h3:gW g with
  | none=>rw[h3] at e;cases e
  | some rows=>
   rw[h3] at e;dsimp only at e;split at e
   ·rename_i j;simp only[Option.map_some,Option.some.injEq] at e;refine go true (fun r=>.tuple (r.map PyData.int)) rows (uH h3) (fun y r i t=>?_) e.symm;obtain⟨b,T,rfl,hb,S⟩:=t.tup_inv;rw[uI S] at hb;refine⟨b,rfl,.inl (gi hb).1,fun z=>?_⟩;have:=List.all_eq_true.mp j r i;rw[z] at this;cases this
   ·cases e
theorem LQ{K:Frag}:gk (TS.rSorted K) AR where
 mn:=fun _ _ _ k ⟨d,e,q⟩=>⟨d,e,k _ q⟩
 ok:=fun O H vs xs Q hO hd q=>by
  obtain⟨d,e,q⟩:=q;obtain⟨ds,rfl⟩:∃ds,xs=[.list ds]:=by
   unfold kY at e;split at e
   ·exact⟨_,rfl⟩
   ·cases e
  obtain⟨x,rfl,h1⟩:=gm hd;obtain⟨a,ys,rfl,ha,hy⟩:=h1.lst_inv;exact LP trivial hO ha hy e q
theorem LR:FN AR kY:=fun a d Q e q=>⟨d,e,q⟩
end L2.L3
namespace L2
open PySem PySem.Spec PyProof.Rows
open AutoSeq1 (wpAny_loadPart')
theorem LS(l:Addr)(a:Array Value)(n:Nat)(e:Option Addr)(k:Array (Option Value)) :
  Meets (Builtin.«enumerate.__new__» ⟨[.type "enumerate",.ref l],[]⟩) (fun _ R s=>s.heap.get? l=some { cls:=.type "tuple",dict:=e,data:=.seq a n,slots:=k }/\
   R (.ok (.ret (.ref (s.heap.push { cls:=.type "tuple_iterator",data:=.fields #[.ref l,.int 0 0] }).objs.size)))
    { s with heap:=(s.heap.push { cls:=.type "tuple_iterator",data:=.fields #[.ref l,.int 0 0] }).push { cls:=.type "enumerate",data:=.fields #[.none,.bool false,.ref s.heap.objs.size,rawInt 0,.none,.none] } }):=
 .of_wp fun j w A R s h=>by
  obtain⟨m,g,d,o,os⟩:=s;obtain⟨b,h⟩:=h;have i:=sub_enumerate;have f:Heap.IsTuple (Shared.heap ⟨m,g,d,o,os⟩) l a:=⟨_,b,rfl,n,rfl⟩
  wp_walk using wpAny_loadPart' b
  refine wpAny_stack_any fun st=>av ?_;split
  ·rename_i c _ _ _ _ _;cases(c==Value.type "enumerate")
   ·wp_walk using wpAny_loadPart' b,wpAny_pyIter_tuple f
    exact⟨_,rfl,h⟩
   ·wp_walk using wpAny_loadPart' b,wpAny_pyIter_tuple f
    exact⟨_,rfl,h⟩
  ·wp_walk using wpAny_loadPart' b,wpAny_pyIter_tuple f
   exact⟨_,rfl,h⟩
theorem LU{d:Program}{w:World}{A:Around}{E:Value->Shared->Prop}{s:Shared}{l:Addr}{a:Array Value}{Q:Value->Shared->Prop}(q:s.heap.IsTuple l a)
  (h:∀f,IsEnum f (s.heap.objs.size+1) s.heap.objs.size 0 .none->f.IsTupleIter s.heap.objs.size l 0->(∀b o,s.heap.get? b=some o->f.get? b=some o)->Q (.ref (s.heap.objs.size+1)) { s with heap:=f }) :
  wpAny (model d w) A (call (.type "enumerate") [.ref l]) Q E s:=by
 obtain⟨⟨c,i,r,t⟩,u,j,n,hd⟩:=q
 replace j:c=.type "tuple":=j
 replace hd:r=.seq a n:=hd
 subst j hd;refine callType_new F.called_enumerate (by decide) (F.typeCall_enumerate_1 _) (F.newCall_enumerate_1 _) (fun obj=>F.args_object_init_2 obj _) F.entry_enumerate_new
  (LS l a n i t) ⟨u,?_⟩
 generalize k:s.heap.push { cls:=.type "tuple_iterator",data:=.fields #[.ref l,.int 0 0] }=g;have m:g.objs.size=s.heap.objs.size+1:=by rw[<-k];exact Heap.size_push ..
 have v:g.get? s.heap.objs.size=some { cls:=.type "tuple_iterator",data:=.fields #[.ref l,.int 0 0] }:=by rw[<-k];exact Heap.get?_push_size _ rfl
 have y:∀b o,s.heap.get? b=some o->g.get? b=some o:=fun b o e=>by rw[<-k];exact aS _ e
 show _/\_;rw[m];have p:IsEnum (g.push { cls:=.type "enumerate",data:=.fields #[.none,.bool false,.ref s.heap.objs.size,rawInt 0,.none,.none] }) (s.heap.objs.size+1) s.heap.objs.size 0 .none:=by have:=Heap.get?_push_size g (o:={ cls:=.type "enumerate",data:=.fields #[.none,.bool false,.ref s.heap.objs.size,rawInt 0,.none,.none] }) rfl;rw[m] at this;exact this
 exact⟨⟨_,p,rfl⟩,h _ p ⟨_,aS _ v,rfl,rfl⟩ fun b o x=>aS _ (y b o x)⟩
noncomputable def AV(K:Frag)(a:Addr):It:=
 ⟨fun i H=>∃b x,dD K H a b/\b[i]? = some x,fun i H v c=>∃T x,v=.ref T/\H T=none/\c = bp H T (.tup [.int i,x])/\∀b,dD K H a b->b[i]? = some x,fun i H=>∃b,dD K H a b/\b.length=i⟩
theorem LV{P:Program}{w:World}{K:Frag}{elts:List Expr}{kk:Nat}{tpos:Pos}(a e it:Addr)(hne:e≠it):gf P w K (.Tuple elts kk tpos) (AV K a) [e,it] e (fun i h=>(∃old,IsEnum h e it i old)/\h.IsTupleIter it a i) where
 mem:=by simp
 obj:=fun i h st b hb=>by
  obtain⟨⟨old,he⟩,o,e1,c,d⟩:=st;rcases List.mem_cons.mp hb with rfl | hb
  ·exact⟨_,he,fun v z=>by cases z⟩
  ·obtain rfl:=List.mem_singleton.mp hb;exact⟨o,e1,fun v z=>by rw[d] at z;cases z⟩
 keep:=fun i h h' st k=>⟨st.1.elim fun old he=>⟨old,k e (by simp) _ he⟩,(let⟨o,e',r⟩:=st.2;⟨o,k it (by simp) o e',r⟩)⟩
 item:=by
  intro X hP hw hK hc i pins s Y H E I hf st hg;subst hP hw hK;obtain⟨⟨old,he⟩,hit⟩:=st;obtain⟨xs,x,hq,hx⟩:=hg;obtain⟨its,rv,p,hz⟩:=I.tuple hq;obtain⟨u,hu,ru⟩:=rv.get hx;have hh:X.A.in1.handled=none:=I.ok.hd hc;have hae:a≠e:=fun q=>by obtain⟨o,e1,e2,_⟩:=p;rw[q] at e1;rw[he] at e1;cases e1;exact absurd (show Value.type "enumerate" = Value.type "tuple" from e2) (by decide)
  have hai:a≠it:=fun q=>by obtain⟨o,e1,e2,_⟩:=p;obtain⟨o',e1',c',_⟩:=hit;rw[q] at e1;rw[e1'] at e1;cases e1;rw[c'] at e2;exact absurd e2 (by decide)
  refine wpAny_pyNext_enum_itemD (Ao hh it a hai its.toArray) he ⟨hit,p⟩ (by simpa using(List.getElem?_eq_some_iff.mp hu).1) hne (by simp only[List.mem_cons,List.not_mem_nil,or_false,not_or];exact⟨hne,Ne.symm hae⟩) fun x' h' tk ex ho hi' hT hsz hk=>⟨_,rfl,?_⟩
  obtain rfl:x' = u:=by have:its.toArray[i]? = some x':=ex;rw[List.getElem?_toArray,hu] at this;exact(Option.some.inj this).symm
  refine wpAny_letOwnedTupleGo_enum (s:={ s with heap:=h',toks:=tk+1 }) ho fun h2 he2 hs2=>?_;have hel:s.heap.objs.size≠e:=Nat.ne_of_gt (ba he);have k2:∀b ob,b∉[e,it]->s.heap.get? b=some ob->h2.get? b=some ob:=fun b ob hb q=>by simp only[List.mem_cons,List.not_mem_nil,or_false,not_or] at hb;exact(hs2.2 b hb.1).trans (hk b ob hb.1 hb.2 q)
  have it2:h2.IsTupleIter it a (i+1):=let⟨o,e1,r⟩:=hi'.1;⟨o,(hs2.2 it (Ne.symm hne)).trans e1,r⟩;have I1:Inv X pins Y (bp H s.heap.objs.size (.tup [.int i,x])) { s with heap:=h2,toks:=tk+1 }:=by
   refine I.turnedNew (ch:=[e,it]) hf k2 (aZ _) (fun b hb ob q=>?_) ?_
   ·rcases List.mem_cons.mp hb with rfl | hb
    ·exact⟨_,he2⟩
    ·obtain rfl:=List.mem_singleton.mp hb;obtain⟨o,e1,_⟩:=it2;exact⟨o,e1⟩
   ·exact⟨by show 2<=sizeLine;decide,[.int i tk,x'],.cons ⟨_,rfl⟩ (.cons ru .nil),⟨_,(hs2.2 _ hel).trans hT,rfl,_,rfl⟩⟩
  refine⟨.ref s.heap.objs.size,_,I1,rfl,⟨_,x,rfl,I.hok.fresh (aZ _),rfl,fun ys hy=>by rw[I.tuple_inj hy hq];exact hx⟩,⟨⟨_,by simpa using he2⟩,it2⟩,fun b hb=>?_⟩;have hb':b<s.heap.objs.size:=by
   rcases List.mem_cons.mp hb with rfl | hb
   ·exact ba he
   ·obtain rfl:=List.mem_singleton.mp hb;obtain⟨o,e1,_⟩:=hit;exact ba e1
  rw[ck (Nat.ne_of_lt hb')];exact(hf b hb).1
 done:=by
  intro X hP hw hK hc i pins s Y H E I hf st hg;subst hP hw hK;obtain⟨⟨old,he⟩,hit⟩:=st;obtain⟨xs,hq,rfl⟩:=hg;obtain⟨its,rv,p,hz⟩:=I.tuple hq;obtain⟨f0,f1,f2,f3,f4,f5⟩:=hf it (by simp);have hh:X.A.in1.handled=none:=I.ok.hd hc;have hai:a≠it:=fun q=>by obtain⟨o,e1,e2,_⟩:=p;obtain⟨o',e1',c',_⟩:=hit;rw[q] at e1;rw[e1'] at e1;cases e1;rw[c'] at e2;exact absurd e2 (by decide)
  refine wpAny_pyNext_enum_endD (Ao hh it a hai its.toArray) he ⟨?_,p⟩ fun h' eb=>⟨rfl,I.turned (t':=s.toks) (fun b o hb e=>eb b o hb e) f0 f1 f3 f4 f5⟩
  have:its.toArray.size=xs.length:=by rw[List.size_toArray,rv.length]
  rw[this];exact hit
 self:=fun _ _ _ _ _ st h=>st.1.elim fun _ he=>wpAny_pyIter_enum he h
section
variable{X:Cx}{elts:List Expr}{kk:Nat}{tpos:Pos}
noncomputable def LW(K:Frag)(c:TA):TI:=fun Y H R=>c Y H fun vs b=>∃a d,vs=[.ref a]/\dD K b a d/\R (AV K a) b
theorem LX{a:Expr}{i:TA}{p pos:Pos}(k:Gl X "enumerate")(m:X.mg "enumerate" = none)(n:PA X [a] i)(o:starEach [a] X.env=[(false,eval a X.env)]:=by rfl):PI X (.Tuple elts kk tpos) (.Call (.Name "enumerate" p) [a] [] pos) (LW X.K i):=by
 intro d s Y H R I h;refine Call_ (ie I k m (show bootBuiltins "enumerate" = some (.type "enumerate") by decide +kernel) (PyProof.Rows.callWith_type1 (aP (n pos d s Y H _ I h) fun C c ⟨vs,r,f,t,v⟩=>?_) o rfl));obtain⟨l,D,rfl,w,q⟩:=v;obtain⟨u,rfl,x⟩:=vals1 t;cases x;obtain⟨y,E,p,G⟩:=f.tuple w;refine LU p fun z j A B=>?_;refine wpAny_pyIter_enum (s:={ c with heap:=z }) j ?_;refine⟨c.heap.objs.size+1,[c.heap.objs.size+1,c.heap.objs.size],_,_,r,rfl,f.kept (t':=c.toks) B,LV l _ _ (Nat.succ_ne_self _),⟨⟨_,j⟩,A⟩,fun b g=>?_,q⟩;have e:c.heap.objs.size<=b:=by
  rcases List.mem_cons.mp g with rfl | g
  ·exact Nat.le_succ _
  ·obtain rfl:=List.mem_singleton.mp g;exact aZ _
 exact f.fpOk e (f.hok.fresh e)
end
end L2
namespace L2.L3
open PySem PySem.Spec PyProof.Rows
section
variable{X:Cx}{F:Fx}{E:Str->ao->Prop}{a e:Expr}{tA:cW}{p pos:Pos}
noncomputable def AW(t:cW):dF:=fun U Q=>t U fun c d=>∃b,c=[.tuple b]/\Q (numbered b) d
theorem AY{b:List Expr}{z:Nat}{c:Pos}(A:Gl X "enumerate")(B:X.mg "enumerate" = none)(l:DA X F [a] tA)(C:starEach [a] X.env=[(false,eval a X.env)]:=by rfl):DI X F (.Tuple b z c) (.Call (.Name "enumerate" p) [a] [] pos) (AW tA):=
 ⟨fun _ _ _ k q=>l.mn _ _ _ (fun _ _ ⟨j,e,q⟩=>⟨j,e,k _ _ q⟩) q,(LX A B l.pa C).imp fun Y H R ⟨U,O,st,q⟩=>
  ⟨U,O,st,l.mn _ _ _ (fun ds U1 ⟨es,e,m⟩ vs D G n I J=>by
   subst e;cases J with
   | cons d r=>
    cases r;obtain⟨a,f,rfl,L,hd⟩:=d.tup_inv;obtain⟨g,h⟩:=gi L;refine⟨a,f,rfl,.inl g,m _ D G n I fun O' M s ok=>?_⟩;have h2:Rd M a (.tup f):=g.imp (fun e=>s.keep a _ h e) fun⟨o,e⟩=>⟨o,s.keep a _ h e⟩
    have t:=aI.mono s.hid hd;refine⟨fun i d e=>?_,⟨f,.inl h2,by unfold numbered;rw[List.length_mapIdx,hd.length]⟩⟩;unfold numbered at e;rw[List.getElem?_mapIdx] at e;obtain⟨d0,N,Q⟩:=Option.map_eq_some_iff.mp e;subst Q;obtain⟨v,w,S⟩:=t.get N;refine⟨⟨f,v,.inl h2,w⟩,fun x Z ⟨T,y,m,u,q3,q4⟩=>?_⟩;subst m q3;have:=q4 f (.inl h2);rw[w] at this;cases this;exact⟨bZ u,tF u (ok.nofree T u) (.cons (.int _) (.cons S .nil))⟩) q⟩⟩
@[simp] noncomputable def qS:List PyData->Option (List PyData):=fun b=>match b with
 | [.tuple c]=>some (numbered c)
 | _=>none
theorem AZ{c:Expr}{d:XM (List PyData)}(h:DI X F c e (AW (wp E d))):FI X F E c e (gQ qS d):=h.imp az fun U Q q=>az _ _ _ (fun i j f=>by
 obtain⟨y,b,g⟩:=cS f;unfold qS at b;split at b
 ·cases b;exact⟨_,rfl,g⟩
 ·cases b) (bK q)
end
noncomputable def jg(U:ao)(i:Nat):Option (Bool×dc):=match U[i]? with
 | some (some (.own _ (.m b a)))=>some (b,a)
 | some (some (.vw (.m b a)))=>some (b,a)
 | _=>none
theorem aC.dic{K:Frag}{F:Fx}{H:Hp}{Y:St}{U:ao}{O:List Addr}(st:aC K F H Y U O){i:Nat}{d:Bool}{b:dc}(e:jg U i=some (d,b)):∃a,Y[i]? = some (some (.ref a))/\fM (au O H) H a d b:=by
 unfold jg at e;split at e
 ·rename_i h;cases e;obtain⟨a,g,c,⟨_,hd⟩,_,_⟩:=st.box h;exact⟨a,c,hd⟩
 ·rename_i h;cases e;obtain⟨a,g,c,⟨_,hd⟩⟩:=st.view h;refine⟨a,c,hd.keep ?_ fun _ _ z=>z⟩;obtain⟨o,f,_⟩:=hd.live;rw[f,(da f).1]
 ·cases e
section
variable{X:Cx}{F:Fx}{E:Str->ao->Prop}{e a b c:Expr}{pos:Pos}{x:Str}
noncomputable def qT(i:Nat)(d y:PyData):XM PyData:=fun U=>bn (match jg U i with
 | some (g,f)=>(gS g d).map fun k=>(cE g f k).getD y
 | none=>none) U
noncomputable def qU(i:Nat)(m n:XM PyData):XM PyData:=fun U=>match jg U i with
 | some _=>(m U).bind fun d f=>(n f).bind fun y=>qT i d y
 | none=>.bad
theorem LY{i:Nat}{m n:XM PyData}{f:Expr}{D apos h:Pos}(hu:X.A.units+1<cLine)(hv:PE X (.Name x D) (dN i))(he:FE X F E e m)(hf:FE X F E f n)(mm:M2 X (.Name x D) "get" apos e f h:=by exact⟨rfl,rfl,rfl,rfl⟩):FE X F E (.Call (.Attribute (.Name x D) "get" apos) [e,f] [] h) (qU i m n):=
 ⟨az,(xQ hu hv he.pe hf.pe mm).imp fun Y H Q ⟨U,O,st,q⟩=>by
  unfold wp qU at q;cases G:jg U i with
  | none=>rw[G] at q;exact q.elim
  | some p=>
   rw[G] at q;obtain⟨I,s⟩:=p;obtain⟨a0,t,bG⟩:=st.dic G;refine⟨_,t,a0,rfl,zP bG,U,O,st,az _ _ _ (fun d J q1 w H1 O1 L R d1=>?_) (bK (m:=m) (k:=fun d J=>(n J).bind fun y=>qT i d y) q)⟩;refine⟨J,O1,L,az _ _ _ (fun y M q2 z S T j N d2=>?_) (bK (m:=n) (k:=fun y=>qT i d y) q1)⟩;obtain⟨r,B,C⟩:=cS (o:=match jg M i with | some (I,s)=>(gS I d).map fun k=>(cE I s k).getD y | none=>none) (U:=M) (E:=E) q2;cases l:jg M i with
   | none=>rw[l] at B;cases B
   | some p=>
    obtain⟨a1,Z⟩:=p;rw[l] at B;obtain⟨k,e2,e3⟩:=Option.map_eq_some_iff.mp B;subst e3;obtain⟨a,u,hd⟩:=j.dic l;rw[t] at u;cases u;obtain⟨o,g,r⟩:=zO hd kq (DV.mono N.hid d1) e2;refine⟨o,g,?_⟩;rcases r with⟨rfl,e⟩ | ⟨v,x,rfl,e,hx⟩
    ·rw[e] at C;exact C _ S T j (R.trans N) d2
    ·rw[e] at C;exact C _ S T j (R.trans N) hx⟩
end
end L2.L3
namespace L2.L3
open PySem PySem.Spec PyProof.Rows PySem.W
section
variable{X:Cx}{F:Fx}{E:Str->ao->Prop}{pos p p1:Pos}{x:Str}{i:Nat}
theorem Ba{G:Hp}:∀a:List Int,aI G (a.map V.int) (a.map PyData.int)
 | []=>.nil
 | n::a=>.cons (.int n) (Ba a)
end
end L2.L3
namespace L2.L3
open PySem
theorem LZ{mg:Str->Option Value}(c:mg "ANY_ZONE" = none)(e:mg "NO_DEEDS" = none)(H:Hp):GH mg H:=fun x d u a b=>by
 unfold glob at a;split at a
 ·rename_i h;subst h;rw[c] at b;cases b
 ·split at a
  ·rename_i h;subst h;rw[e] at b;cases b
  ·cases a
end L2.L3
namespace L2.TS
open PySem PyProof.Rows
abbrev dA(a:List Nat):Prop:=a.Pairwise (·<·)
theorem dA.lt{c:List Nat}(r:dA c){i j x y:Nat}(h:i<j)(d:c[i]? = some x)(e:c[j]? = some y):x<y:=by obtain⟨a,rfl⟩:=List.getElem?_eq_some_iff.mp d;obtain⟨b,rfl⟩:=List.getElem?_eq_some_iff.mp e;exact List.pairwise_iff_getElem.mp r i j a b h
theorem uP{b:Array Nat}{j:Nat}(r:dA b.toList):∀(fuel lo a:Nat),a<=b.size->lo<=a->a - lo<=fuel->(∀i x,i<lo->b.toList[i]? = some x->x<j)->(∀i x,a<=i->b.toList[i]? = some x->j<=x)->
  SetTable.below.go b j fuel lo a<=b.size/\(∀i x,i<SetTable.below.go b j fuel lo a->b.toList[i]? = some x->x<j)/\∀i x,SetTable.below.go b j fuel lo a<=i->b.toList[i]? = some x->j<=x
 | 0,lo,a,h1,h2,h3,g,h=>by
  have e:lo=a:=by omega
  subst e;unfold SetTable.below.go;exact⟨h1,g,h⟩
 | fuel+1,lo,a,h1,h2,h3,g,h=>by
  unfold SetTable.below.go
  by_cases c:lo<a
  ·rw[if_pos c];have m:(lo+a) / 2<b.size:=by omega
   have l:(lo+a) / 2<b.toList.length:=by simpa using m
   have k:b.toList[(lo+a) / 2]? = some b[(lo+a) / 2]:=by rw[List.getElem?_eq_getElem l];simp
   have n:b.getD ((lo+a) / 2) j=b[(lo+a) / 2]:=by simp[Array.getD,m]
   dsimp only;rw[n]
   by_cases d:b[(lo+a) / 2]<j
   ·rw[if_pos d];refine uP r fuel _ a h1 (by omega) (by omega) (fun i x f e=>?_) h;rcases Nat.lt_or_eq_of_le (Nat.lt_succ_iff.mp f) with q | q
    ·exact Nat.lt_trans (r.lt q e k) d
    ·subst q;rw[k] at e;cases e;exact d
   ·rw[if_neg d];refine uP r fuel lo _ (by omega) (by omega) (by omega) g (fun i x f e=>?_);rcases Nat.lt_or_eq_of_le f with q | q
    ·exact Nat.le_trans (Nat.not_lt.mp d) (Nat.le_of_lt (r.lt q k e))
    ·subst q;rw[k] at e;cases e;exact Nat.not_lt.mp d
  ·rw[if_neg c];have e:lo=a:=by omega
   subst e;exact⟨h1,g,h⟩
theorem qV{a:Array Nat}(r:dA a.toList)(j:Nat):SetTable.below a j<=a.size/\(∀i x,i<SetTable.below a j->a.toList[i]? = some x->x<j)/\∀i x,SetTable.below a j<=i->a.toList[i]? = some x->j<=x:=
 uP r a.size 0 a.size (aZ _) (Nat.zero_le _) (aZ _) (fun _ _ h=>absurd h (Nat.not_lt_zero _)) fun i x h e=>by have:=(List.getElem?_eq_some_iff.mp e).1;simp at this;omega
theorem Ma{a:Array Nat}{j:Nat}(r:dA a.toList)(f:j∉a.toList):dA (SetTable.insertAt a (SetTable.below a j) j).toList:=by
 obtain⟨h,h2,h3⟩:=qV r j;rw[SetTable.toList_insertAt];have split:=List.pairwise_append.mp (show dA (a.toList.take (SetTable.below a j)++a.toList.drop (SetTable.below a j)) by rw[List.take_append_drop];exact r);have lo:∀x∈a.toList.take (SetTable.below a j),x<j:=fun x c=>by obtain⟨i,b⟩:=List.mem_iff_getElem?.mp c;have g:=(List.getElem?_eq_some_iff.mp b).1;rw[List.length_take] at g;rw[List.getElem?_take_of_lt (by omega)] at b;exact h2 i x (by omega) b
 have b:∀x∈a.toList.drop (SetTable.below a j),j<x:=fun x c=>by obtain⟨i,b⟩:=List.mem_iff_getElem?.mp c;rw[List.getElem?_drop] at b;have:=h3 _ x (Nat.le_add_right _ _) b;exact Nat.lt_of_le_of_ne this fun e=>f (e▸List.mem_of_mem_drop c)
 refine List.pairwise_append.mpr ⟨split.1,List.pairwise_cons.mpr ⟨b,split.2.1⟩,fun x c y d=>?_⟩;rcases List.mem_cons.mp d with rfl | d
 ·exact lo x c
 ·exact split.2.2 x c y d
theorem Bb{t:SetTable}{j:Nat}(r:dA t.place.toList)(h:∀i,t.slot j≠.live i):j∉t.place.toList:=fun d=>by
 obtain⟨i,a⟩:=List.mem_iff_getElem?.mp d;obtain⟨k,h2,h3⟩:=qV r j;have f:SetTable.below t.place j<=i:=Nat.le_of_not_lt fun c=>Nat.lt_irrefl _ (h2 i j c a);have g:=(List.getElem?_eq_some_iff.mp a).1;have e:t.place.toList[SetTable.below t.place j]? = some j:=by
  obtain⟨x,b⟩:∃x,t.place.toList[SetTable.below t.place j]? = some x:=⟨_,List.getElem?_eq_getElem (by omega)⟩
  rcases Nat.lt_or_eq_of_le f with c | c
  ·have:=r.lt c b a;have:=h3 _ x (aZ _) b;omega
  ·rw[c];exact a
 rw[Array.getElem?_toList] at e;refine h (SetTable.below t.place j) ?_;unfold SetTable.slot;simp[e]
theorem uQ{t:SetTable}{h:Int}:∀(fuel:Nat) (p:SetTable.Probe) (j:Nat) (d:Option Nat),(∀q,p.dummy=some q->t.slot q=.dummy)->SetTable.probe.go t (fun _=>h+1) h fuel p=some (.empty j d)->t.slot j=.empty/\∀q,d=some q->t.slot q=.dummy
 | 0,_,_,_,_,e=>by unfold SetTable.probe.go at e;cases e
 | fuel+1,p,j,d,c,e=>by
  have a:∀p:SetTable.Probe,(t.advance p).dummy=p.dummy:=fun p=>by unfold SetTable.advance;split<;>rfl
  unfold SetTable.probe.go at e;cases q:t.slot p.j with
  | empty=>rw[q] at e;cases e;exact⟨q,c⟩
  | dummy=>rw[q] at e;refine uQ fuel _ j d (fun x b=>?_) e;rw[a] at b;cases b;exact q
  | live i=>
   rw[q] at e;have:((h+1==h)=true)=False:=by simp;omega
   simp only[this,if_false] at e;exact uQ fuel _ j d (fun x b=>c x (by rw[a] at b;exact b)) e
theorem Mb{t:SetTable}{h:Int}{j:Nat}{b:Bool}(r:dA t.place.toList)(e:t.freeSlot h=some (j,b)):j∉t.place.toList:=by
 unfold SetTable.freeSlot SetTable.probe at e;split at e
 ·rename_i k a d;obtain⟨g,h2⟩:=uQ _ _ _ _ (fun q f=>by cases f) d;cases e;cases a with
  | none=>exact Bb r fun i c=>by rw[Option.getD_none,g] at c;cases c
  | some q=>exact Bb r fun i c=>by rw[Option.getD_some,h2 q rfl] at c;cases c
 ·cases e
theorem qW(n:Nat):dA (Array.range n).toList:=by rw[Array.toList_range];exact List.pairwise_lt_range
theorem Mc{t:SetTable}(n:Nat)(r:dA t.place.toList):dA (t.orStandIn n).place.toList/\(t.orStandIn n).led=t.led:=by
 unfold SetTable.orStandIn;split
 ·exact⟨r,rfl⟩
 ·exact⟨qW _,rfl⟩
theorem Md{t:SetTable}(a:Array (Int×Value))(h:Int)(x:Value)(r:dA t.place.toList):dA (layNew t a h x).2.1.place.toList/\(layNew t a h x).2.1.led=t.led:=by
 unfold layNew;split
 ·rename_i j b e;exact Mc (t:=(t.put j).1) _ (Ma r (Mb r e))
 ·exact⟨qW _,rfl⟩
theorem uR{β:Type}{g:Nat->Option β}:∀l:List Nat,((l.filterMap fun j=>(g j).map (j,·)).map (·.1)).Sublist l
 | []=>.slnil
 | a::l=>by
  rw[List.filterMap_cons];cases e:g a with
  | none=>exact .cons _ (uR l)
  | some b=>exact .cons₂ _ (uR l)
theorem Me{t:SetTable}(a:Array (Int×Value))(n:Nat):dA (relayAll t a n).2.1.place.toList/\(relayAll t a n).2.1.led=t.led:=by
 unfold relayAll;split
 ·rename_i t' order e;dsimp only;split
  ·unfold SetTable.relaid SetTable.laid at e;simp only[bind,Option.bind,pure] at e;split at e
   ·cases e
   ·cases e;refine⟨?_,rfl⟩;dsimp only;exact List.pairwise_lt_range.sublist (uR _)
  ·exact⟨qW _,rfl⟩
 ·exact⟨qW _,rfl⟩
section
variable{prog:Program}{w:World}{A:Around}{E:Value->Shared->Prop}{s:Shared}
def SetO(prog:Program)(w:World)(o:Obj)(b:Bool)(c:List Int):Prop:=
 ∃a d t,o.ExactSet/\o.data=.set a d t/\ElemsOf (intKind prog w) a.toList/\c=a.toList.map (fun e=>numOf e.2)/\a.size<scanBound/\t.fits a.size=true/\dA t.place.toList/\t.led=b
theorem Bc{a:List (Int×Value)}(h:ElemsOf (intKind prog w) a){e:Int×Value}(b:e∈a):∃t,e.2=.int (numOf e.2) t:=by obtain⟨⟨k,h1,_⟩,_⟩:=h e b;obtain⟨t,h2⟩:=Value.isInt_shape (show Value.isInt k e.2=true from h1);rw[h2];exact⟨t,rfl⟩
theorem Mf{a:List (Int×Value)}(h:ElemsOf (intKind prog w) a)(k:Int):(a.findIdx? fun e=>(intKind prog w).is k e.2).isSome=decide (k∈a.map fun e=>numOf e.2):=by
 have key:∀e∈a,(intKind prog w).is k e.2=decide (k=numOf e.2):=fun e b=>by obtain⟨t,d⟩:=Bc h b;rw[d];show Value.isInt k (.int (numOf e.2) t)=_;show(numOf e.2==k)=decide (k=numOf e.2);rw[Bool.eq_iff_iff];exact beq_iff_eq.trans (eq_comm.trans decide_eq_true_iff.symm)
 cases q:a.findIdx? fun e=>(intKind prog w).is k e.2 with
 | none=>refine(decide_eq_false fun f=>?_).symm;obtain⟨e,b,rfl⟩:=List.mem_map.mp f;have:=List.findIdx?_eq_none_iff.mp q e b;rw[key e b] at this;simp at this
 | some j=>obtain⟨c,h2,_⟩:=List.findIdx?_eq_some_iff_getElem.mp q;refine(decide_eq_true (List.mem_map.mpr ⟨a[j],List.getElem_mem c,?_⟩)).symm;rw[key _ (List.getElem_mem c)] at h2;exact(of_decide_eq_true h2).symm
theorem Bd{a:Addr}{o:Obj}{h b:Array (Int×Value)}{e:Nat}{t t':SetTable}{Q:Unit->Shared->Prop}(f:s.heap.get? a=some o)(i:o.ExactSet)(hd:o.data=.set h e t)(j:b.size<scanBound)
  (q:∀c d,Heap.SameBut a s.heap c->c.get? a=some d->d.ExactSet->d.data=.set b (e+1) t'->Q () { s with heap:=c }):wpAny (model prog w) A (storeSet a b t') Q E s:=by
 have g:=Heap.get?_update_self (Obj.putSet b t') f (by rw[putSet_of b t' hd];rfl);rw[putSet_of b t' hd] at g;exact wpAny_storeSet_of f hd (q _ _ (Heap.SameBut.update s.heap a _) g i rfl) (fits_of_scanBound j)
theorem uS(b:Bool){Q:Unit->Shared->Prop}(q:Q () s):wpAny (model prog w) A (match b with | true=>rule "set.scan.the-table-gave-way" | false=>pure ()) Q E s:=by
 cases b
 ·exact av q
 ·exact wpAny_rule q
theorem Be{g:Bool->Sem Unit}(J:∀(b:Bool) (z:Shared) (B:Unit->Shared->Prop),B () z->wpAny (model prog w) A (g b) B E z){a:Addr}{o:Obj}{L c:Array (Int×Value)}{M:Nat}{t d:SetTable}{f N:Bool}{R:Option Bool->Shared->Prop}
  (O:s.heap.get? a=some o) (Q:o.ExactSet) (hd:o.data=.set L M t) (i:ElemsOf (intKind prog w) c.toList) (p:c.size<scanBound) (S:d.fits c.size=true) (T:dA d.place.toList) (C:d.led=f)
  (h:∀q D j,Heap.SameBut a s.heap q->q.get? a=some D->SetO prog w D f j->j.Perm (c.toList.map fun e=>numOf e.2)->R (some true) { s with heap:=q }) :
  wpAny (model prog w) A (do
    storeSet a c d
    if (!N&&d.tooFull)=true then do
      g (relayAll d c (SetTable.grown c.size)).2.2
      storeSet a (relayAll d c (SetTable.grown c.size)).1 (relayAll d c (SetTable.grown c.size)).2.1
      pure (some true)
     else pure (some true)) R E s:=by
 refine aa (Bd O Q hd p fun I U k l m n=>?_);split
 ·have r:=relayAll_perm d c (SetTable.grown c.size);have G:(relayAll d c (SetTable.grown c.size)).1.size=c.size:=by rw[<-Array.length_toList,r.length_eq,Array.length_toList]
  refine aa (J _ _ _ (aa (Bd (s:={ s with heap:=I }) l m n (by rw[G];exact p) fun Y X u v x y=>?_)));have H:=Me (t:=d) c (SetTable.grown c.size);exact av (h Y X _ (k.trans u) v ⟨_,_,_,x,y,i.perm r,rfl,by rw[G];exact p,relayAll_fits d c _,H.1,H.2.trans C⟩ (r.map _))
 ·exact av (h I U _ k l ⟨_,_,_,m,n,i,rfl,p,S,T,C⟩ (.refl _))
theorem Mg{a:Addr}{o:Obj}{k:Int}{r:Tok}{z:List Int}{u:Bool}{Q:Bool->Shared->Prop}(B:s.heap.get? a=some o)(G:SetO prog w o u z)(room:z.length+1<scanBound)
  (h:∀b g i d,Heap.SameBut a s.heap g->g.get? a=some i->SetO prog w i u d->d.Perm (if k∈z then z else z++[k])->Q b { s with heap:=g }) :
  wpAny (model prog w) A (setAddHashed a (.int k r) ((intKind prog w).hash k)) Q E s:=by
 obtain⟨v,X,t,H,hd,n,rfl,hb,I,O,J⟩:=id G;have M:(intKind prog w).is k (.int k r)=true:=intKind_is _ _ _ _;have R:v.size+1<scanBound:=by simpa using room
 unfold setAddHashed setAddHashedIn;refine wpAny_holding (aa (wpAny_setState_of B hd I ?_));dsimp only;rw[byScan_of (knd:=intKind prog w) rfl hb n];simp only[↓reduceIte];unfold setAddByScan;refine aa (aa (wpAny_rule (aa (wpAny_setScan_of M B hd I n ?_))));have D:=Mf n k;cases N:v.toList.findIdx? fun e=>(intKind prog w).is k e.2 with
 | some j=>rw[N] at D;have mem:=of_decide_eq_true D.symm;refine av (av ?_);exact h _ s.heap o _ (Heap.SameBut.refl a s.heap) B G (by rw[if_pos mem])
 | none=>
  rw[N] at D;have mem:=of_decide_eq_false D.symm;dsimp only;have y:=layNew_perm t v ((intKind prog w).hash k) (.int k r);have f:=layNew_fits t v ((intKind prog w).hash k) (.int k r);have c:=Md v ((intKind prog w).hash k) (.int k r) O;generalize layNew t v ((intKind prog w).hash k) (.int k r)=L at y f c ⊢;obtain⟨x,Y,Z,gv⟩:=L;dsimp only at y f c ⊢;rw[Array.toList_push] at y;have p:ElemsOf (intKind prog w) x.toList:=(n.push M rfl).perm y;have S:x.size=v.size+1:=by rw[<-Array.length_toList,y.length_eq,List.length_append,Array.length_toList];rfl
  have fin:∀g i d,Heap.SameBut a s.heap g->g.get? a=some i->SetO prog w i u d->d.Perm (x.toList.map fun e=>numOf e.2)->wpAny (model prog w) A (pure true) Q E { s with heap:=g }:=fun g i d C l m pm=>by refine av (h _ g i d C l m ?_);rw[if_neg mem];refine pm.trans ((y.map _).trans (.of_eq ?_));rw[List.map_append];rfl
  refine aa (uS _ ?_);split
  ·refine aa ?_;rw[hashByValue_scannable 8 (show(Value.int k r).scannable=true from rfl)];refine av ?_;exact Be (fun b T U q=>uS b q) B H hd p (by omega) f c.1 (c.2.trans J) fun g i d C l m pm=>fin g i d C l m pm
  ·refine aa (av ?_);exact Be (fun b T U q=>uS b q) B H hd p (by omega) f c.1 (c.2.trans J) fun g i d C l m pm=>fin g i d C l m pm
noncomputable def addI(Y:List Int)(k:Int):List Int:=if k∈Y then Y else Y++[k]
noncomputable def onceI(a:List Int):List Int:=a.foldl addI []
theorem Mh{a b:List Int}(p:a.Perm b)(k:Int):(if k∈a then a else a++[k]).Perm (addI b k):=by
 unfold addI
 by_cases h:k∈a
 ·rw[if_pos h,if_pos (p.mem_iff.mp h)];exact p
 ·rw[if_neg h,if_neg fun q=>h (p.mem_iff.mpr q)];exact p.append_right _
theorem Mi(Y:List Int)(k:Int):(addI Y k).length<=Y.length+1:=by unfold addI;split<;>simp
theorem Bf:∀(a Y:List Int),(a.foldl addI Y).length<=Y.length+a.length
 | [],Y=>by simp
 | n::a,Y=>by have h1:=Bf a (addI Y n);have h2:=Mi Y n;simp only[List.foldl_cons,List.length_cons];omega
theorem Mj(a:List Int):(onceI a).length<=a.length:=by simpa[onceI] using Bf a []
theorem Mk{a:List Int}{i:Nat}{n:Int}(e:a[i]? = some n):onceI (a.take (i+1))=addI (onceI (a.take i)) n:=by unfold onceI;rw[List.take_add_one,e,Option.toList_some,List.foldl_append];rfl
theorem Ml{R:Result->Shared->Prop}{I:Addr}{T f:List Addr}{G:Array GenState->Array GenState->Prop}{P:Nat->Value->Prop}{St:Nat->Shared->Prop}{ns:List Int}{led:Bool}(W:WalksS prog w A.in1 I T f G ns.length P St){S:Addr}(g:S∉T)
  (j:∀i v,P i v->∃n t,ns[i]? = some n/\v=.int n t) (d:ns.length+1<scanBound):∀(k i:Nat) (s:Shared),ns.length - i=k->i<=ns.length->St i s->(∃o a,s.heap.get? S=some o/\SetO prog w o led a/\a.Perm (onceI (ns.take i)))->
   (∀c o a,Moved (S::f) G s c->c.heap.get? S=some o->SetO prog w o led a->a.Perm (onceI ns)->R (.ok (.ret .none)) c)->codeAny (model prog w) A (.builtin "set.update.loop" ⟨[.ref S,.ref I],[]⟩) R s:=by
 have l:S∉f:=fun h=>g (W.sub _ h);have up:∀b∈f,b∈S::f:=fun b d=>.tail _ d;intro k
 induction k with
 | zero=>
  intro i s X Y st ⟨o,a,z,B,m⟩ C;obtain rfl:i=ns.length:=by omega
  refine codeAny_builtin PyProof.Rows.F.entry_set_update_loop ?_;rw[Around.under_plainId PyProof.Rows.F.plain_set_update_loop _];refine aa (W.done s _ _ st fun c p=>av ?_);exact C c o a (p.mono up) (p.heap S _ l z) B (by rw[List.take_length] at m;exact m)
 | succ k Z=>
  intro i s X Y st ⟨o,a,z,B,m⟩ C;have q:i<ns.length:=by omega
  refine codeAny_builtin PyProof.Rows.F.entry_set_update_loop ?_;rw[Around.under_plainId PyProof.Rows.F.plain_set_update_loop _];refine aa (W.item i s _ _ q st fun v c hP D p=>?_);obtain⟨n,t,en,rfl⟩:=j i v hP;have H:=p.heap S _ l z;refine aa (wpAny_holding ?_);unfold setAdd;refine wpAny_holding (aa ((intKind prog w).pyHash (k:=n) (intKind_is _ _ _ _) ?_));have room:a.length+1<scanBound:=by have:=Mj (ns.take i);have:=List.length_take_le i ns;rw[m.length_eq];omega
  refine Mg (s:={ c with toks:=c.toks+1 }) H B room fun b h' o' J U e' L M=>?_;refine av ⟨plainId_quiet PyProof.Rows.F.plain_set_update_loop _,Z (i+1) _ (by omega) q (W.frame _ c _ _ D (Nat.le_succ _) fun b d o e=>?_) ⟨o',J,e',L,?_⟩ fun N O r u Q x y=>?_⟩
  ·rw[U.2 b (fun h:b=S=>g (by rw[<-h];exact d))];exact e
  ·rw[Mk en];exact M.trans (Mh m n)
  ·refine C N O r (Moved.trans W.gtrans ((p.mono up).then_heap (Nat.le_succ _) fun b o d e=>?_) u) Q x y;rw[U.2 b (fun h:b=S=>d (by rw[h];exact .head _))];exact e
noncomputable def ledW(w:World):Bool:=!w.params.followText "set-order"
noncomputable abbrev gZ(a:Bool):Obj:={ cls:=.type "set",dict:=none,data:=.set #[] 0 (.fresh 0 0 a) }
theorem Mm(a:Bool):SetO prog w (gZ a) a []:=⟨#[],0,.fresh 0 0 a,⟨rfl,rfl,rfl⟩,rfl,(fun _ h=>by simp at h),rfl,by decide,rfl,.nil,rfl⟩
theorem Mo(a:Value){Q₁:Value->Shared->Prop}(h:Q₁ (.ref s.heap.objs.size) { s with heap:=s.heap.push (gZ (ledW w)) }) :
  codeAny (model prog w) A (.call (.builtin "set.__new__") ⟨[.type "set",a],[]⟩) (wants Q₁ E) s:=by
 refine codeAny_of_tree (aa (wpAny_of_eq (PySem.F.newCall_set_1 a) (av ⟨plainId_quiet PySem.F.plain_set_new _,codeAny_builtin PySem.F.entry_set_new ?_⟩)));rw[Around.under_plainId PySem.F.plain_set_new _];unfold Builtin.«set.__new__» Builtin.Frozenset.newClass;have b:=sub_set_self;obtain⟨c,g,d,e,os⟩:=s;dsimp only
 wp_walk
 refine wpAny_askSetting (av ?_);dsimp only;simp only[newObj];exact aa (wpAny_alloc (av (av h)))
theorem call_set{l:Addr}{items:Array Value}{d:List Int}{Q:Value->Shared->Prop}(hh:A.handled=none)(hl:s.heap.IsList l items)(U:IntsAre items.toList d)(C:d.length+1<scanBound)
  (h:∀(j:Heap) (tk:Nat) (o:Obj) (z:List Int),(∀b u,s.heap.get? b=some u->j.get? b=some u)->j.get? s.heap.objs.size=some o->SetO prog w o (ledW w) z->z.Perm (onceI d)->Q (.ref s.heap.objs.size) { s with heap:=j,toks:=tk }) :
  wpAny (model prog w) A (call (.type "set") [.ref l]) Q E s:=by
 obtain⟨c,tl,X⟩:=PySem.F.called_set.mro;have D:=PySem.F.called_set.made;have Y:=PySem.F.called_set.sub;refine wpAny_call (codeAny_of_tree (av ⟨Code.quiet_builtin _ (by decide +kernel),codeAny_builtin PySem.F.entry_type_call ?_⟩));rw[Around.under_plain (weight_type_call_type "set" [.ref l] []) rfl];have h1:=PySem.F.called_set.notType;have h2:=PySem.F.called_set.canCreate;have a3:=PySem.F.typeCall_set_1 (.ref l)
 repeat (any_goals (first | assumption | wp_step))
 refine codeAny_mono (Mo (.ref l) (E:=E) (Q₁:=fun obj Z=>obj=.ref s.heap.objs.size/\Z = { s with heap:=s.heap.push (gZ (ledW w)) }) ⟨rfl,rfl⟩) fun r Z G=>?_;cases r with
 | error e=>exact G
 | ok fl=>
  cases fl with
  | ret obj=>
   obtain⟨rfl,rfl⟩:=G;have hS:(s.heap.push (gZ (ledW w))).get? s.heap.objs.size=some (gZ (ledW w)):=Heap.get?_push_size _ rfl;have hT:Shared.TypeIs { s with heap:=s.heap.push (gZ (ledW w)) } (.ref s.heap.objs.size) "set":=⟨_,hS,rfl⟩
   have a4:=PySem.F.called_set.init.lookup;have a5:=PySem.F.called_set.init.bind (.ref s.heap.objs.size)
   repeat (any_goals (first | assumption | wp_step))
   refine codeAny_mono (codeAny_call_builtin (R:=wants (fun r s₂=>r=.none/\Q (.ref s.heap.objs.size) s₂) E) PySem.F.called_set.init.plain PySem.F.entry_set_init (check_set_init_1 hT ?_)) fun r₂ s₂ f=>?_
   ·obtain⟨⟨a0,g,H,a⟩,k,m,nl,n⟩:=hl;simp only at m n;subst m n;have p:(s.heap.push (gZ (ledW w))).get? l=some { cls:=.type "list",dict:=g,data:=.seq items nl,slots:=a }:=aS _ k;have a1:=PySem.F.sub_list_set;have a2:=PySem.F.sub_list_frozenset;have a6:(Value.type "list"==Value.type "dict")=false:=by decide
    have q:(s.heap.push (gZ (ledW w))).IsList l items:=⟨_,p,rfl,nl,rfl⟩
    unfold Builtin.«set.__init__» noKeywords Builtin.Frozenset.updateFrom;generalize I:pyIter=PI
    wp_walk
    subst I;refine wpAny_pyIter_list q (aa (wpAny_runValue ?_));have x:l<s.heap.objs.size:=ba k;have J:(s.heap.push (gZ (ledW w))).objs.size=s.heap.objs.size+1:=Heap.size_push ..;have hn:d.length=items.size:=by rw[<-Array.length_toList];exact U.length.symm
    have W:=(Walks.list (prog:=prog) (w:=w) (A:=A.in1.in1.in1) (by simp[hh]) (s.heap.push (gZ (ledW w))).objs.size l (by rw[J];exact Nat.ne_of_lt (Nat.lt_succ_of_lt x)) items).toS;rw[<-hn] at W;refine Ml (ns:=d) (led:=ledW w) W (S:=s.heap.objs.size) ?_ (fun i v hv=>?_) C (d.length - 0) 0 _ rfl (Nat.zero_le _) ⟨⟨_,Heap.get?_push_size _ rfl,rfl,rfl⟩,q.push _⟩ ⟨_,[],aS _ hS,Mm _,.refl _⟩ fun s' o z B ho L hp=>?_
    ·rw[J];simp only[List.mem_cons,List.not_mem_nil,or_false,not_or];exact⟨Nat.ne_of_lt (Nat.lt_succ_self _),Nat.ne_of_gt x⟩
    ·have y:items.toList[i]? = some v:=by rw[Array.getElem?_toList];exact hv
     obtain⟨t,rfl⟩:=IntsAre.int_at U i v y;have M:i<d.length:=by rw[hn,<-Array.length_toList];exact(List.getElem?_eq_some_iff.mp y).1
     exact⟨d.getD i 0,t,by rw[List.getD_eq_getElem?_getD,List.getElem?_eq_getElem M];rfl,rfl⟩
    ·obtain⟨j,g',d',N,O⟩:=s';obtain rfl:g' = s.gens:=B.gens;obtain rfl:d' = s.drawn:=B.drawn;obtain rfl:O = s.os:=B.os;refine av (av ⟨rfl,h j N o z (fun b u e=>?_) ho L hp⟩);have C:=ba e;refine B.heap b u ?_ (aS _ (aS _ e));rw[J];simp only[List.mem_cons,List.not_mem_nil,or_false,not_or];exact⟨Nat.ne_of_lt C,Nat.ne_of_lt (Nat.lt_succ_of_lt C)⟩
   ·cases r₂ with
    | error e=>exact f
    | ok T=>
     cases T with
     | ret r=>
      obtain⟨rfl,hq⟩:=f
      repeat (any_goals (first | assumption | wp_step))
     | _=>exact f.elim
  | _=>exact G.elim
end
theorem uT{α:Type}:∀{l:List α}{i:Nat}(h:i<l.length),(l[i]::l.eraseIdx i).Perm l
 | x::a,0,h=>.refl _
 | x::a,i+1,h=>(List.Perm.swap x _ _).trans ((uT (Nat.lt_of_succ_lt_succ h)).cons x)
theorem Bg{α:Type}(c:Nat->Nat):∀(fuel k:Nat) (left:List α) (a:Array α),left.length<=fuel->(pickOrder.go c fuel k left a).toList.Perm (a.toList++left)
 | 0,k,left,a,h=>by have:left=[]:=List.length_eq_zero_iff.mp (Nat.le_zero.mp h);subst this;unfold pickOrder.go;simp
 | fuel+1,k,left,a,h=>by
  unfold pickOrder.go;cases left with
  | nil=>simp
  | cons y d=>have b:c k % (y::d).length<(y::d).length:=Nat.mod_lt _ (Nat.succ_pos _);rw[List.getElem?_eq_getElem b];dsimp only;refine(Bg c fuel _ _ _ (by rw[List.length_eraseIdx_of_lt b];simp at h ⊢;omega)).trans ?_;rw[Array.toList_push,List.append_assoc];exact(uT b).append_left _
theorem Mp{α:Type}(b:Nat->Nat)(a:Array α):(pickOrder b a).toList.Perm a.toList:=by unfold pickOrder;simpa using Bg b a.size 0 a.toList #[] (by simp)
section
variable{prog:Program}{w:World}{A:Around}{E:Value->Shared->Prop}{s:Shared}
theorem Bh{α:Type}:∀(n:Nat) (a:List α) (s:Shared) (Q:List α->Shared->Prop),a.length<=n->(∀b d,b.Perm a->Q b { s with drawn:=d })->wpAny (model prog w) A (drawOrder n a) Q E s
 | 0,a,s,Q,h,q=>by obtain rfl:a=[]:=List.length_eq_zero_iff.mp (Nat.le_zero.mp h);unfold drawOrder;exact av (q [] s.drawn .nil)
 | n+1,[],s,Q,h,q=>by unfold drawOrder;exact av (q [] s.drawn .nil)
 | n+1,x::a,s,Q,h,q=>by
  unfold drawOrder;have ch:∀{R:Nat->Shared->Prop},(∀i d,i<(x::a).length->R i { s with drawn:=d })->wpAny (model prog w) A (choose .order (x::a).length) R E s:=fun {R} e Γ p j=>by show(x::a).length≠0/\R _ _;exact⟨Nat.succ_ne_zero _,e _ _ (Nat.mod_lt _ (Nat.succ_pos _))⟩
  refine aa (ch fun i d c=>?_);rw[List.getElem?_eq_getElem c];refine aa (Bh n _ _ _ (by rw[List.length_eraseIdx_of_lt c];simp at h ⊢;omega) fun b f g=>av ?_);exact q _ f ((g.cons _).trans (uT c))
structure bx (h:Heap) (a:Addr) (es:Array (Int×Value)) (ep:Nat) (t:SetTable):Prop where
 at_:∃o,h.get? a=some o/\o.ExactSet/\o.data=.set es ep t
 fits:t.fits es.size=true
theorem bx.at'{h b:Heap}{a:Addr}{c:Array (Int×Value)}{d:Nat}{t:SetTable}(x:bx h a c d t)(k:∀o,h.get? a=some o->b.get? a=some o):bx b a c d t:=
 let⟨⟨o,h1,h2⟩,f⟩:=x
 ⟨⟨o,k o h1,h2⟩,f⟩
theorem bx.typeIs{a:Addr}{b:Array (Int×Value)}{c:Nat}{t:SetTable}(x:bx s.heap a b c t):s.TypeIs (.ref a) "set":=let⟨⟨o,h1,h2,_⟩,_⟩:=x;⟨o,h1,h2.1⟩
theorem bx.lt{h:Heap}{a:Addr}{b:Array (Int×Value)}{c:Nat}{t:SetTable}(x:bx h a b c t):a<h.objs.size:=let⟨⟨o,h1,_⟩,_⟩:=x;ba h1
variable{a:Addr}{es:Array (Int×Value)}{ep:Nat}{t:SetTable}
theorem bx.state{Q:(Array (Int×Value)×Nat×SetTable)->Shared->Prop}(x:bx s.heap a es ep t)(q:Q (es,ep,t) s):wpAny (model prog w) A (setState a) Q E s:=
 let⟨⟨o,h1,_,h2⟩,f⟩:=x
 wpAny_setState_of h1 h2 f q
theorem qX{Q:Bool->Shared->Prop}(q:Q (w.params.followText "set-order") s):wpAny (model prog w) A setsByText Q E s:=by unfold setsByText;exact aa (wpAny_askSetting (av q))
theorem Mq{i slot:Nat}{Q:Option (Value×Nat)->Shared->Prop}(x:bx s.heap a es ep t)(b:w.params.followText "set-order" = true)(q:Q (((pickOrder (w.params.setOrder a ep) es)[i]?).map fun e=>(e.2,slot)) s):wpAny (model prog w) A (setNext a slot i ep) Q E s:=by unfold setNext;refine aa (x.state ?_);dsimp only;refine aa (qX ?_);rw[if_pos b,if_neg (by simp)];refine aa ?_;unfold setWalk;refine aa (x.state ?_);dsimp only;refine aa (qX ?_);rw[if_pos b];exact aa (wpAny_askSetting (av (av q)))
noncomputable def jT(t:SetTable):Nat->Nat
 | 0=>0
 | i+1=>(t.place.toList[i]?.getD 0)+1
theorem Mr(r:dA t.place.toList):∀{i:Nat},i<=t.place.size->SetTable.below t.place (jT t i)=i
 | 0,_=>by
  obtain⟨f,h2,h3⟩:=qV r 0;show SetTable.below t.place 0=0;rcases Nat.eq_zero_or_pos (SetTable.below t.place 0) with z | z
  ·exact z
  ·have d:0<t.place.toList.length:=by simp;omega
   exact absurd (h2 0 _ z (List.getElem?_eq_getElem d)) (Nat.not_lt_zero _)
 | i+1,g=>by
  have d:i<t.place.toList.length:=by simp;omega
  have e:=List.getElem?_eq_getElem d;obtain⟨f,h2,h3⟩:=qV r (jT t (i+1));have es:jT t (i+1)=t.place.toList[i]+1:=by show t.place.toList[i]?.getD 0+1=_;rw[e];rfl
  rw[es] at f h2 h3 ⊢;have h:i<SetTable.below t.place (t.place.toList[i]+1):=Nat.lt_of_not_le fun c=>by have:=h3 i _ c e;omega
  have j:¬ i+1<SetTable.below t.place (t.place.toList[i]+1):=fun c=>by
   have b:i+1<t.place.toList.length:=by simp;omega
   have g1:=h2 (i+1) _ c (List.getElem?_eq_getElem b);have g2:=r.lt (Nat.lt_succ_self i) e (List.getElem?_eq_getElem b);omega
  omega
theorem Ms{i:Nat}{Q:Option (Value×Nat)->Shared->Prop}(x:bx s.heap a es ep t)(b:w.params.followText "set-order" = false)(hd:(!t.plain&&decide (es.size>1))=false)(r:dA t.place.toList)(j:t.led=true)(f:i<=es.size)
  (q:Q ((es[i]?).map fun e=>(e.2,jT t (i+1))) s):wpAny (model prog w) A (setNext a (jT t i) i ep) Q E s:=by
 have g:t.place.size=es.size:=by have:=x.fits;simp only[SetTable.fits,Bool.and_eq_true,beq_iff_eq] at this;exact this.1
 unfold setNext;refine aa (x.state ?_);dsimp only;refine aa (qX ?_);rw[if_neg (by rw[b];exact Bool.false_ne_true)];refine wpAny_ite_split (fun c=>absurd (show(!t.plain&&decide (es.size>1))=true from c) (by rw[hd];exact Bool.false_ne_true)) fun _=>?_;refine aa (show wpAny _ _ (if (!t.led&&!es.isEmpty)=true then unsupported "set:maker-not-led" else pure ()) _ _ _ from ?_);rw[j];refine av ?_;rw[Mr r (by rw[g];exact f)];refine av ?_;rcases Nat.lt_or_eq_of_le f with c | c
 ·have d:es[i]? = some es[i]:=by simp[c]
  have h:t.place[i]? = some t.place[i]:=by simp[g,c]
  have k:t.place.toList[i]? = some t.place[i]:=by rw[Array.getElem?_toList];exact h
  rw[d] at q ⊢;rw[h];have l:jT t (i+1)=t.place[i]+1:=by show t.place.toList[i]?.getD 0+1=_;rw[k];rfl
  rw[l] at q;exact q
 ·have d:es[i]? = none:=by simp[c]
  rw[d] at q ⊢;exact q
end
theorem gA:Slot "set_iterator" "__next__" "set_iterator.__next__":=
 .of (owner:="set_iterator") (n:="__next__") (by rw[typeLookup_type,builtinLookup_eq_fast];kernel_rfl) (by decide +kernel) (by decide +kernel) (by decide +kernel) (by first | exact .inl (by decide +kernel) | exact .inr (by decide +kernel)) (by rw[isSubtype_type];kernel_rfl)
theorem Bi:Slot "set_iterator" "__iter__" "set_iterator.__iter__":=
 .of (owner:="set_iterator") (n:="__iter__") (by rw[typeLookup_type,builtinLookup_eq_fast];kernel_rfl) (by decide +kernel) (by decide +kernel) (by decide +kernel) (by first | exact .inl (by decide +kernel) | exact .inr (by decide +kernel)) (by rw[isSubtype_type];kernel_rfl)
theorem qY:entryFor table "set_iterator.__next__" = some Builtin.«set_iterator.__next__»:=entryFor_of_tree (by kernel_rfl)
theorem Mt:entryFor table "set_iterator.__iter__" = some Builtin.«dict_keyiterator.__iter__»:=entryFor_alias (id':="dict_keyiterator.__iter__") (by kernel_rfl) rfl (by decide +kernel) (by kernel_rfl)
theorem Mu:entryFor table "set.__iter__" = some Builtin.«frozenset.__iter__»:=entryFor_alias (id':="frozenset.__iter__") (by kernel_rfl) rfl (by decide +kernel) (by kernel_rfl)
theorem Bj:Manifest.owners.lookup (String.ofList ['r','o','t','a','r','e','t','i','_','t','e','s'].reverse)=some Manifest.sig_set_iterator:=by kernel_rfl
theorem qZ(a:Value):argsOk "set_iterator.__next__" ⟨[a],[]⟩:=by unfold argsOk;rw[signature?_of (id:="set_iterator.__next__") (n:=['_','_','t','x','e','n','_','_']) (o:=['r','o','t','a','r','e','t','i','_','t','e','s']) (by kernel_rfl) Bj];kernel_rfl
theorem Mw(a:Value):argsOk "set_iterator.__iter__" ⟨[a],[]⟩:=by unfold argsOk;rw[signature?_of (id:="set_iterator.__iter__") (n:=['_','_','r','e','t','i','_','_']) (o:=['r','o','t','a','r','e','t','i','_','t','e','s']) (by kernel_rfl) Bj];kernel_rfl
def fq(h:Heap)(I a:Addr)(f:Value)(i n b:Nat):Prop:=∃o,h.get? I=some o/\o.cls=.type "set_iterator"/\o.data=.fields #[f,.int i 0,.ref a,.int n 0,.int b 0]
theorem fq.at'{h b:Heap}{I a:Addr}{f:Value}{i n c:Nat}(x:fq h I a f i n c)(k:∀o,h.get? I=some o->b.get? I=some o):fq b I a f i n c:=let⟨o,h1,h2⟩:=x;⟨o,k o h1,h2⟩
section
variable{prog:Program}{w:World}{A:Around}{E:Value->Shared->Prop}{s:Shared}{I a:Addr}{f:Value}{i n ep:Nat}{es:Array (Int×Value)}{t:SetTable}
theorem fq.typeIs(x:fq s.heap I a f i n ep):s.TypeIs (.ref I) "set_iterator":=let⟨o,h1,h2,_⟩:=x;⟨o,h1,h2⟩
theorem Bk{Q:Value->Shared->Prop}(x:fq s.heap I a f i n ep)(q:Q (.ref I) s):wpAny (model prog w) A (pyIter (.ref I)) Q E s:=by refine wpAny_pyIter_slot x.typeIs Bi (wpAny_call_entry Bi x.typeIs Mt ?_ (Mw _));exact aa (av (av ⟨_,rfl,"set_iterator",_,x.typeIs,gA.lookup,q⟩))
theorem Mx{h nx:Nat}{x:Value}{Q:Option Value->Shared->Prop}(it:fq s.heap I a (.int h 0) i es.size ep)(S:bx s.heap a es ep t)
  (k:∀(A:Around) (l:Value->Shared->Prop) (j:Option (Value×Nat)->Shared->Prop),j (some (x,nx)) s->wpAny (model prog w) A (setNext a h i ep) j l s)
  (q:∀d,fq d I a (.int nx 0) (i+1) es.size ep->Heap.SameBut I s.heap d->Q (some x) { s with heap:=d }):wpAny (model prog w) A (pyNext (.ref I)) Q E s:=by
 obtain⟨o,e,m,hd⟩:=id it;unfold pyNext;refine aa (wpAny_attempt (wpAny_callSpecial?_slot (name:=Str.ofString "__next__") it.typeIs gA (wpAny_call_entry gA it.typeIs qY ?_ (qZ _))));unfold Builtin.«set_iterator.__next__»;refine aa (av ?_);dsimp only;refine aa (wpAny_fieldsOf e hd ?_);dsimp only;refine aa ?_;unfold setEntries;refine aa (S.state (av ?_));rw[if_neg (by simp)];simp only[Int.toNat_natCast];refine aa (k _ _ _ ?_);dsimp only;refine aa (wpAny_setField e hd (by simp) ?_);have c:=Heap.get?_update_self (Obj.mapFields (·.setIfInBounds 0 (rawInt nx))) e (Obj.isFreed_of_fields (Obj.data_mapFields hd _));have b:=Obj.data_mapFields hd (·.setIfInBounds 0 (rawInt nx));refine aa (wpAny_setField c b (by simp) ?_);have g:=Heap.get?_update_self (Obj.mapFields (·.setIfInBounds 1 (rawInt ((i:Int)+1)))) c (Obj.isFreed_of_fields (Obj.data_mapFields b _));refine av ⟨_,rfl,av (q _ ⟨_,g,?_,?_⟩ ((Heap.SameBut.update ..).trans (Heap.SameBut.update ..)))⟩
 ·rw[Obj.cls_mapFields,Obj.cls_mapFields];exact m
 ·rw[Obj.data_mapFields b];simp[rawInt]
theorem My{c:Nat}{Q:Option Value->Shared->Prop}(h:A.handled=none)(it:fq s.heap I a (.int c 0) i es.size ep)(S:bx s.heap a es ep t)
  (j:∀(A:Around) (k:Value->Shared->Prop) (d:Option (Value×Nat)->Shared->Prop),d none s->wpAny (model prog w) A (setNext a c i ep) d k s)
  (q:∀e,Heap.ExtBut I s.heap e->Q none { s with heap:=e }):wpAny (model prog w) A (pyNext (.ref I)) Q E s:=by
 obtain⟨o,g,l,hd⟩:=id it;unfold pyNext;refine aa (wpAny_attempt (wpAny_callSpecial?_slot (name:=Str.ofString "__next__") it.typeIs gA (wpAny_call_entry gA it.typeIs qY ?_ (qZ _))));unfold Builtin.«set_iterator.__next__»;refine aa (av ?_);dsimp only;refine aa (wpAny_fieldsOf g hd ?_);dsimp only;refine aa ?_;unfold setEntries;refine aa (S.state (av ?_));rw[if_neg (by simp)];simp only[Int.toNat_natCast];refine aa (j _ _ _ ?_);dsimp only;refine aa (wpAny_setField g hd (by simp) ?_);refine aa ?_;simp only[newExc,newTuple];refine aa (wpAny_newObj_type ?_ (by size_fits));refine aa (m:=firstArgMember _ _) (wpAny_of_eq (a:=Value.none) (by first | rfl | (simp only[firstArgMember];rfl)) ?_);refine wpAny_newObj_type ?_ (by size_fits);simp only[raiseNew];refine aa (wpAny_handled ?_);rw[show A.in1.handled=none from h];refine aa (av (wpAny_throw ?_));refine aa (wpAny_isInstance (T:="StopIteration") (b:=true) ⟨_,Heap.get?_push_size _ rfl,rfl⟩ isSubtype_stop ?_);exact av (q _ (((Heap.SameBut.update ..).extBut.push _).push _))
end
section
variable{prog:Program}{w:World}{A:Around}{E:Value->Shared->Prop}{s:Shared}{I a T:Addr}{f:Value}{i n ep:Nat}{es:Array (Int×Value)}{t:SetTable}{ps:List Nat}
noncomputable abbrev hD(ps:List Nat):Obj:={ cls:=.type "tuple",data:=.seq (ps.map fun(p:Nat)=>Value.int p 0).toArray }
theorem Mz{p:Nat}{x:Int×Value}{Q:Option Value->Shared->Prop}(it:fq s.heap I a (.ref T) i es.size ep)(e:s.heap.get? T=some (hD ps))(S:bx s.heap a es ep t)(g:ps[i]? = some p)(h:es[p]? = some x)
  (q:∀b,fq b I a (.ref T) (i+1) es.size ep->Heap.SameBut I s.heap b->Q (some x.2) { s with heap:=b }):wpAny (model prog w) A (pyNext (.ref I)) Q E s:=by
 obtain⟨o,c,j,hd⟩:=id it;obtain⟨l,m⟩:=x;unfold pyNext;refine aa (wpAny_attempt (wpAny_callSpecial?_slot (name:=Str.ofString "__next__") it.typeIs gA (wpAny_call_entry gA it.typeIs qY ?_ (qZ _))));unfold Builtin.«set_iterator.__next__»;refine aa (av ?_);dsimp only;refine aa (wpAny_fieldsOf c hd ?_);dsimp only;refine aa ?_;unfold setEntries;refine aa (S.state (av ?_));rw[if_neg (by simp)];refine aa ?_;unfold seqItems?;refine aa (wpAny_load e (av ?_));dsimp only;have k:(ps.map fun(p:Nat)=>Value.int p 0).toArray[(i:Int).toNat]? = some (.int p 0):=by rw[Int.toNat_natCast,List.getElem?_toArray,List.getElem?_map,g];rfl
 rw[k];dsimp only;refine aa ?_;unfold setNextDrawn;refine aa (S.state ?_);dsimp only;rw[if_neg (by simp),Int.toNat_natCast,h];refine av ?_;refine aa (wpAny_setField c hd (by simp) ?_);have d:=Heap.get?_update_self (Obj.mapFields (·.setIfInBounds 1 (rawInt ((i:Int)+1)))) c (Obj.isFreed_of_fields (Obj.data_mapFields hd _));refine av ⟨_,rfl,av (q _ ⟨_,d,?_,?_⟩ (Heap.SameBut.update ..))⟩
 ·rw[Obj.cls_mapFields];exact j
 ·rw[Obj.data_mapFields hd];simp[rawInt]
theorem MA{Q:Option Value->Shared->Prop}(h:A.handled=none)(it:fq s.heap I a (.ref T) i es.size ep)(j:s.heap.get? T=some (hD ps))(S:bx s.heap a es ep t)(k:ps[i]? = none)
  (q:∀g,Heap.ExtBut I s.heap g->Q none { s with heap:=g }):wpAny (model prog w) A (pyNext (.ref I)) Q E s:=by
 obtain⟨o,c,r,hd⟩:=id it;unfold pyNext;refine aa (wpAny_attempt (wpAny_callSpecial?_slot (name:=Str.ofString "__next__") it.typeIs gA (wpAny_call_entry gA it.typeIs qY ?_ (qZ _))));unfold Builtin.«set_iterator.__next__»;refine aa (av ?_);dsimp only;refine aa (wpAny_fieldsOf c hd ?_);dsimp only;refine aa ?_;unfold setEntries;refine aa (S.state (av ?_));rw[if_neg (by simp)];refine aa ?_;unfold seqItems?;refine aa (wpAny_load j (av ?_));dsimp only;have l:(ps.map fun(p:Nat)=>Value.int p 0).toArray[(i:Int).toNat]? = none:=by rw[Int.toNat_natCast,List.getElem?_toArray,List.getElem?_map,k];rfl
 rw[l];dsimp only;refine aa (wpAny_setField c hd (by simp) ?_);have d:=Heap.get?_update_self (Obj.mapFields (·.setIfInBounds 0 (rawInt 0))) c (Obj.isFreed_of_fields (Obj.data_mapFields hd _));have e:=Obj.data_mapFields hd (·.setIfInBounds 0 (rawInt 0));refine aa (wpAny_setField d e (by simp) ?_);refine aa ?_;simp only[newExc,newTuple];refine aa (wpAny_newObj_type ?_ (by size_fits));refine aa (m:=firstArgMember _ _) (wpAny_of_eq (a:=Value.none) (by first | rfl | (simp only[firstArgMember];rfl)) ?_);refine wpAny_newObj_type ?_ (by size_fits);simp only[raiseNew];refine aa (wpAny_handled ?_);rw[show A.in1.handled=none from h];refine aa (av (wpAny_throw ?_));refine aa (wpAny_isInstance (T:="StopIteration") (b:=true) ⟨_,Heap.get?_push_size _ rfl,rfl⟩ isSubtype_stop ?_);exact av (q _ ((((Heap.SameBut.update ..).trans (Heap.SameBut.update ..)).extBut.push _).push _))
theorem MB(hh:A.handled=none)(hne:I≠a){sl:Nat->Nat}{vs:List Value}(hz:vs.length=es.size)
  (item:∀(i:Nat) (s:Shared) (A:Around) (E:Value->Shared->Prop) (Q:Option (Value×Nat)->Shared->Prop),i<=es.size->bx s.heap a es ep t->Q (vs[i]?.map fun v=>(v,sl (i+1))) s->wpAny (model prog w) A (setNext a (sl i) i ep) Q E s) :
  Walks prog w A I [I,a] [I] es.size (fun i v=>vs[i]? = some v) (fun i h=>fq h I a (.int (sl i) 0) i es.size ep/\bx h a es ep t) where
 sub:=fun b hb=>by simp at hb;simp[hb]
 frame:=fun _ _ _ st hk=>⟨st.1.at' fun o e=>hk I (by simp) o e,st.2.at' fun o e=>hk a (by simp) o e⟩
 item:=fun i s Q E hi st hQ=>by
  obtain⟨v,hv⟩:∃v,vs[i]? = some v:=⟨_,List.getElem?_eq_getElem (by omega)⟩
  refine Mx st.1 st.2 (x:=v) (nx:=sl (i+1)) (fun A' E' Q' q=>item i s A' E' Q' (by omega) st.2 (by rw[hv];exact q)) fun h' it sb=>?_;exact hQ v h' s.toks hv ⟨it,st.2.at' fun o e=>by rw[sb.2 a hne.symm];exact e⟩ fun b o hb e=>by rw[sb.2 b (fun z=>hb (by simp[z]))];exact e
 done:=fun s Q E st hQ=>by refine My hh st.1 st.2 (fun A' E' Q' q=>item es.size s A' E' Q' (aZ _) st.2 (by rw[List.getElem?_eq_none (by omega)];exact q)) fun h' sb=>?_;exact hQ h' s.toks fun b o hb e=>sb b o (fun z=>hb (by simp[z])) e
 self:=fun i s Q E st q=>Bk st.1 q
theorem MC(hh:A.handled=none)(hne:I≠a)(hnT:I≠T){vs:List Value}(hz:ps.length=es.size)(hv:∀(i:Nat) (v:Value),vs[i]? = some v->∃p x,ps[i]? = some p/\es[p]? = some x/\x.2=v)(hvl:vs.length=es.size) :
  Walks prog w A I [I,a,T] [I] es.size (fun i v=>vs[i]? = some v) (fun i h=>fq h I a (.ref T) i es.size ep/\h.get? T=some (hD ps)/\bx h a es ep t) where
 sub:=fun b hb=>by simp at hb;simp[hb]
 frame:=fun _ _ _ st hk=>⟨st.1.at' fun o e=>hk I (by simp) o e,hk T (by simp) _ st.2.1,st.2.2.at' fun o e=>hk a (by simp) o e⟩
 item:=fun i s Q E hi st hQ=>by
  obtain⟨v,e0⟩:∃v,vs[i]? = some v:=⟨_,List.getElem?_eq_getElem (by omega)⟩
  obtain⟨p,x,e1,e2,rfl⟩:=hv i v e0;refine Mz st.1 st.2.1 st.2.2 e1 e2 fun h' it sb=>?_;exact hQ x.2 h' s.toks e0 ⟨it,by rw[sb.2 T hnT.symm];exact st.2.1,st.2.2.at' fun o e=>by rw[sb.2 a hne.symm];exact e⟩ fun b o hb e=>by rw[sb.2 b (fun z=>hb (by simp[z]))];exact e
 done:=fun s Q E st hQ=>by refine MA hh st.1 st.2.1 st.2.2 (by rw[List.getElem?_eq_none (by omega)]) fun h' sb=>?_;exact hQ h' s.toks fun b o hb e=>sb b o (fun z=>hb (by simp[z])) e
 self:=fun i s Q E st q=>Bk st.1 q
end
section
variable{prog:Program}{w:World}{A:Around}{E:Value->Shared->Prop}{s:Shared}{a:Addr}{ep:Nat}{es:Array (Int×Value)}{t:SetTable}
theorem MD(f:bx s.heap a es ep t)(Y:dA t.place.toList)(Z:t.led=ledW w)(D:es.size<=sizeLine){Q:Value->Shared->Prop}
  (q:∀(I:Addr) (M:List Addr) (vs:List Value) (St:Nat->Heap->Prop) (G:Heap) (d:Drawn),vs.Perm (es.toList.map (·.2))->(∀b u,s.heap.get? b=some u->G.get? b=some u)->(∀b∈M,b=a\/s.heap.objs.size<=b)->s.heap.objs.size<=I->
   (∀B:Around,B.handled=none->Walks prog w B I M [I] es.size (fun i v=>vs[i]? = some v) St)->St 0 G->Q (.ref I) { s with heap:=G,drawn:=d }):wpAny (model prog w) A (pyIter (.ref a)) Q E s:=by
 refine wpAny_pyIter_slot f.typeIs PySem.F.slot_set_iter (wpAny_call_entry PySem.F.slot_set_iter f.typeIs Mu ?_ (PySem.F.args_set_iter_1 _));unfold Builtin.«frozenset.__iter__»;refine aa (show wpAny _ _ (pure a) _ _ _ from av ?_);refine aa ?_;unfold Builtin.Frozenset.sizeOf setEntries;refine aa (aa (f.state (av (av ?_))));refine aa ?_;unfold setDrawn;refine aa (f.state (aa (qX (av ?_))));have lt:=f.lt;have fin:∀(m:Nat->Nat) (vs:List Value),m 0=0->vs.Perm (es.toList.map (·.2))->(∀(i:Nat) (s:Shared) (A:Around) (E:Value->Shared->Prop) (Q:Option (Value×Nat)->Shared->Prop),i<=es.size->bx s.heap a es ep t->Q (vs[i]?.map fun v=>(v,m (i+1))) s->wpAny (model prog w) A (setNext a (m i) i ep) Q E s)->
   wpAny (model prog w) A.in1 (do let v <-setEpoch a;let u <-newFields "set_iterator" [rawInt 0,rawInt 0,.ref a,rawInt es.size,rawInt v];ret u) (fun fin N=>∃r,fin=.done (.ret r)/\∃O r',N.TypeIs r O/\typeLookup (.type O) "__next__" = pure (some r')/\Q r N) E s:=fun m vs h0 h item=>by
  refine aa ?_;unfold setEpoch;refine aa (f.state (av ?_));refine aa (wpAny_newObj_type ?_);have hz:vs.length=es.size:=by rw[h.length_eq];simp
  refine av ⟨_,rfl,"set_iterator",_,⟨_,Heap.get?_push_size _ rfl,rfl⟩,gA.lookup,?_⟩;refine q s.heap.objs.size [s.heap.objs.size,a] vs _ _ s.drawn h (fun b u e=>aS _ e) (fun b k=>?_) (aZ _) (fun B H=>MB H (Nat.ne_of_gt lt) (sl:=m) hz item) ⟨⟨_,Heap.get?_push_size _ rfl,rfl,?_⟩,f.at' fun o e=>aS _ e⟩
  ·rcases List.mem_cons.mp k with rfl | k
   ·exact .inr (aZ _)
   ·exact .inl (List.mem_singleton.mp k)
  ·rw[h0];rfl
 cases b:w.params.followText "set-order" with
 | true=>
  refine wpAny_ite_split (fun c=>by cases c) fun _=>aa (av ?_);refine fin (fun _=>0) ((pickOrder (w.params.setOrder a ep) es).toList.map (·.2)) rfl ((Mp _ _).map _) fun i s A E Q R f q=>Mq f b ?_;rw[List.getElem?_map,Array.getElem?_toList] at q;cases e:(pickOrder (w.params.setOrder a ep) es)[i]? with
  | none=>rw[e] at q;exact q
  | some x=>rw[e] at q;exact q
 | false=>
  have n:t.led=true:=by rw[Z];unfold ledW;rw[b];rfl
  cases d:(!t.plain&&decide (es.size>1)) with
  | false=>
   refine wpAny_ite_split (fun c=>?_) fun _=>aa (av ?_)
   ·have:(!t.plain&&decide (es.size>1))=true:=c;rw[d] at this;cases this
   ·refine fin (jT t) (es.toList.map (·.2)) rfl (.refl _) fun i s A E Q R f q=>Ms f b d Y n R ?_;rw[List.getElem?_map,Array.getElem?_toList] at q;cases e:es[i]? with
    | none=>rw[e] at q;exact q
    | some x=>rw[e] at q;exact q
  | true=>
   refine wpAny_ite_split (fun _=>?_) fun c=>absurd (show(!t.plain&&decide (es.size>1))=true from d) c;refine aa (Bh es.size (List.range es.size) s _ (by simp) fun g S h=>?_);have J:g.length=es.size:=by rw[h.length_eq];simp
   refine aa (wpAny_newTuple ?_ (by rw[List.length_map,J];exact D));have y:bx (s.heap.push (hD g)) a es ep t:=f.at' fun o e=>aS _ e;refine aa ?_;unfold setEpoch;refine aa (bx.state (s:={ s with heap:=s.heap.push (hD g),drawn:=S }) y (av ?_));refine aa (wpAny_newObj_type ?_);have C:(s.heap.push (hD g)).objs.size=s.heap.objs.size+1:=Heap.size_push ..;refine av ⟨_,rfl,"set_iterator",_,⟨_,Heap.get?_push_size _ rfl,rfl⟩,gA.lookup,?_⟩;have L:∀p∈g,p<es.size:=fun p hm=>List.mem_range.mp (h.mem_iff.mp hm);have hT:((s.heap.push (hD g)).push { cls:=.type "set_iterator",data:=.fields [Value.ref s.heap.objs.size,rawInt 0,.ref a,rawInt es.size,rawInt ep].toArray }).get? s.heap.objs.size=some (hD g):=aS _ (Heap.get?_push_size _ rfl);have pm:(g.map fun p=>(es.toList.map (·.2))[p]?.getD .none).Perm (es.toList.map (·.2)):=by
    refine(h.map _).trans (.of_eq ?_);have key:∀l:List Value,(List.range l.length).map (fun p=>l[p]?.getD .none)=l:=fun l=>by apply List.ext_getElem (by simp);intro j X h2;simp at X ⊢;simp[X]
    have:=key (es.toList.map (·.2))
    rwa [List.length_map,Array.length_toList] at this
   refine q (s.heap.push (hD g)).objs.size [(s.heap.push (hD g)).objs.size,a,s.heap.objs.size] (g.map fun p=>(es.toList.map (·.2))[p]?.getD .none) _ _ S pm (fun b u e=>aS _ (aS _ e)) (fun b k=>?_) (by rw[C];exact Nat.le_succ _)
    (fun B H=>MC (T:=s.heap.objs.size) (ps:=g) H (by rw[C];exact Nat.ne_of_gt (Nat.lt_succ_of_lt lt)) (by rw[C];exact Nat.succ_ne_self _) J (fun i v e=>?_) (by rw[List.length_map,J])) ⟨⟨_,Heap.get?_push_size _ rfl,rfl,rfl⟩,hT,y.at' fun o e=>aS _ e⟩
   ·simp only[List.mem_cons,List.not_mem_nil,or_false] at k;rcases k with rfl | rfl | rfl
    ·exact .inr (by rw[C];exact Nat.le_succ _)
    ·exact .inl rfl
    ·exact .inr (aZ _)
   ·rw[List.getElem?_map] at e;obtain⟨p,U,e2⟩:=Option.map_eq_some_iff.mp e;have z:=L p (List.mem_of_getElem? U);refine⟨p,es[p],U,by simp[z],?_⟩;rw[<-e2,List.getElem?_map,Array.getElem?_toList];simp[z]
theorem ME{Q:Bool->Shared->Prop}(c:s.TypeIs (.ref a) "set")(h:∀b,Q b s):wpAny (model prog w) A (Builtin.List.listLengthHint (.ref a)) Q E s:=by
 unfold Builtin.List.listLengthHint;refine aa (wpAny_specialOf c PySem.F.slot_set_len.lookup ?_);generalize hid:("set.__len__":String)=d
 wp_delta
 rw[show splitId d=some ("set","__len__") from by subst hid;decide +kernel];subst hid;refine aa (wpAny_isInstance (T:="set") (b:=true) c (by rw[isSubtype_type];kernel_rfl) ?_);refine wpAny_ite_split (fun z=>absurd z (by decide)) (fun _=>?_);refine wpAny_ite_split (fun _=>?_) (fun z=>absurd (by decide +kernel) z);exact aa (wpAny_typeOf c (av (h _)))
theorem MF{R:List Value->Shared->Prop}(S:A.handled=none)(U:bx s.heap a es ep t)(hr:dA t.place.toList)(hl:t.led=ledW w)(u:es.size<=sizeLine)
  (h:∀(X:Heap) (tk:Nat) (d:Drawn) (vs:List Value),(∀b o,s.heap.get? b=some o->X.get? b=some o)->vs.Perm (es.toList.map (·.2))->R vs { s with heap:=X,toks:=tk,drawn:=d }):wpAny (model prog w) A (collect (.ref a)) R E s:=by
 have lt:=U.lt;unfold collect;refine aa (wpAny_runValue (codeAny_builtin entry_proto_collect' ?_));rw[Around.under_plainId PySem.F.plain_proto_collect _];refine aa (wpAny_newObj_type (T:="list") (data:=.seq ([]:List Value).toArray) ?_);refine av ⟨plainId_quiet PySem.F.plain_list_iadd _,codeAny_builtin entry_list_iadd' ?_⟩;rw[Around.under_plainId PySem.F.plain_list_iadd _];have hS:(s.heap.push { cls:=.type "list",data:=.seq ([]:List Value).toArray }).get? s.heap.objs.size=some { cls:=.type "list",data:=.seq #[] }:=Heap.get?_push_size _ rfl;have Y:(s.heap.push { cls:=.type "list",data:=.seq ([]:List Value).toArray }).objs.size=s.heap.objs.size+1:=Heap.size_push ..;have p:bx (s.heap.push { cls:=.type "list",data:=.seq ([]:List Value).toArray }) a es ep t:=U.at' fun o e=>aS _ e;show wpAny _ A.in1 (Builtin.List.listExtendWith (.ref s.heap.objs.size) (.ref a) (.ref s.heap.objs.size)) _ _ _;unfold Builtin.List.listExtendWith;refine aa (wpAny_typeOf (T:="set") (bx.typeIs (s:={ s with heap:=_ }) p) ?_);have h1:Builtin.List.listSameRef (.ref s.heap.objs.size) (.ref a)=false:=by simp[Builtin.List.listSameRef,Nat.ne_of_gt lt]
 have h2:(Value.type "set"==Value.type "list")=false:=by decide
 have h3:(Value.type "set"==Value.type "tuple")=false:=by decide
 simp only[h1,h2,h3,Bool.or_false,Bool.false_eq_true,if_false];refine aa (MD (s:={ s with heap:=s.heap.push { cls:=.type "list",data:=.seq ([]:List Value).toArray } }) p hr hl u fun I fp vs St g d Z C D hI hW st=>?_);have q:=C _ _ hS;have x:s.heap.objs.size∉fp:=fun B=>by
  rcases D _ B with c | c
  ·exact absurd c (Nat.ne_of_gt lt)
  ·have G:s.heap.objs.size+1<=s.heap.objs.size:=by rw[<-Y];exact c
   omega
 have key:∀(y:Heap) (H:Nat),St 0 y->(∀b o,b≠s.heap.objs.size->g.get? b=some o->y.get? b=some o)->y.get? s.heap.objs.size=some { cls:=.type "list",data:=.seq #[] H }->
   codeAny (model prog w) A (.builtin "list.extend.loop" ⟨[.ref s.heap.objs.size,.ref I,.ref s.heap.objs.size],[]⟩) (fun r J=>match r with
    | .ok (.ret v)=>wpAny (model prog w) A (match v with
      | .ref l=>do match (<-load l).data with
       | .seq xs _=>pure xs.toList
       | _=>unsupported "internal:collect"
      | _=>unsupported "internal:collect") R E J
    | _=>False) { s with heap:=y,drawn:=d }:=fun y H L M N=>by
  refine codeAny_extend_loopS (hW A.in1 S).toS u s.heap.objs.size x _ es.size 0 _ #[] H rfl (Nat.zero_le _) L N (ItemsOf.nil _) fun s' i G B k f=>?_;dsimp only;refine aa (wpAny_load k (av ?_));rw[Moved.eq_with B];have ev:i.toList=vs:=by
   apply List.ext_getElem?;intro j;rcases Nat.lt_or_ge j es.size with c | c
   ·have hj:j<i.size:=by rw[f.1];exact c
    have e1:i[j]? = some i[j]:=by simp[hj]
    rw[Array.getElem?_toList,e1];exact(f.2 j _ e1).symm
   ·have:vs.length=es.size:=by rw[Z.length_eq];simp
    rw[List.getElem?_eq_none (by simp[f.1];exact c),List.getElem?_eq_none (by omega)]
  rw[ev];refine h s'.heap s'.toks d vs (fun b o e=>?_) Z;have n:=ba e;refine B.heap b o (fun z=>?_) (M b o (Nat.ne_of_lt n) (C b o (aS _ e)));rcases List.mem_cons.mp z with z | z
  ·exact absurd z (Nat.ne_of_lt n)
  ·have G:s.heap.objs.size+1<=I:=by rw[<-Y];exact hI
   rw[List.mem_singleton.mp z] at n;exact absurd n (Nat.not_lt.mpr (Nat.le_of_succ_le G))
 refine aa (wpAny_holding (ME (bx.typeIs (s:={ s with heap:=g,drawn:=d }) (p.at' fun o e=>C a o e)) fun bb=>?_));refine wpAny_ite_split (fun _=>?_) fun _=>av ⟨plainId_quiet PySem.F.plain_extend_loop _,codeAny_mono (key g _ st (fun b o _ e=>e) q) fun r J z=>?_⟩
 ·refine aa (wpAny_rule (aa ?_));refine aa (m:=updateSeq s.heap.objs.size (·.push .none)) (wpAny_updateSeq q rfl ?_);have k:=Heap.get?_update_self (Obj.mapSeq (·.push Value.none)) q rfl;refine wpAny_updateSeq (hz:=by seq_fits) k rfl ?_;have O:=Heap.get?_update_self (Obj.mapSeq (·.pop)) k rfl;have oth:∀b o,b≠s.heap.objs.size->g.get? b=some o->((g.update s.heap.objs.size (Obj.mapSeq (·.push Value.none))).update s.heap.objs.size (Obj.mapSeq (·.pop))).get? b=some o:=fun b o n e=>(Heap.get?_update_other _ _ (Ne.symm n)).trans ((Heap.get?_update_other _ _ (Ne.symm n)).trans e);refine av ⟨plainId_quiet PySem.F.plain_extend_loop _,codeAny_mono (key _ _ ((hW A.in1 S).frame 0 _ _ st fun b n o e=>oth b o (fun z=>x (z▸n)) e) oth O) fun r J z=>?_⟩;cases r with
  | error e=>exact z.elim
  | ok Q=>
   cases Q with
   | ret v=>exact z
   | _=>exact z.elim
 ·cases r with
  | error e=>exact z.elim
  | ok Q=>
   cases Q with
   | ret v=>exact z
   | _=>exact z.elim
end
section
variable{prog:Program}{w:World}{A:Around}{E:Value->Shared->Prop}{s:Shared}{a:Addr}{o:Obj}{ks:List Int}
theorem sorted_set{Q:Value->Shared->Prop}(G:A.handled=none)(H:s.heap.get? a=some o)(I:SetO prog w o (ledW w) ks)
  (h:∀(f z:Heap) (j:Nat) (d:Drawn) (c:List Value) (m:Nat),(∀b u,s.heap.get? b=some u->f.get? b=some u)->(∀b u,f.get? b=some u->z.get? b=some u)->(∀v∈c,∃n t,v=.int n t)->(c.map numOf).Perm ks->c.Pairwise (fun x y=>lexLe (rkH f x) (rkH f y)=true)->z.get? f.objs.size=some (seqObj "list" c.toArray m)->Q (.ref f.objs.size) { s with heap:=z,toks:=j,drawn:=d }) :
  wpAny (model prog w) A (call (.builtin "sorted") [.ref a]) Q E s:=by
 obtain⟨J,X,t,L,hd,k,rfl,hb,M,N,O⟩:=I;refine Calls.call_function_entry kind_sorted plain_sorted entry_sorted (args_sorted1 _) ?_;unfold Builtin.«sorted»;refine aa (m:=checkCount "sorted" 1 1 _) (av ?_);have i:J.size<=sizeLine:=fits_of_scanBound hb;refine aa (MF (A:=A.in1) G ⟨⟨o,H,L,hd⟩,M⟩ N O i fun g j d vs R l=>?_);have B:∀v∈vs,∃n t,v=.int n t:=fun v p=>by obtain⟨e,S,rfl⟩:=List.mem_map.mp (l.mem_iff.mp p);obtain⟨t,T⟩:=Bc k S;exact⟨_,t,T⟩
 have C:vs.length<=sizeLine:=by rw[l.length_eq,List.length_map,Array.length_toList];exact i
 refine aa (wpAny_newList ?_ C);have jm:(g.push (seqObj "list" vs.toArray 0)).get? g.objs.size=some (seqObj "list" vs.toArray 0):=Heap.get?_push_size _ rfl;have hb:∀b o,g.get? b=some o->b≠g.objs.size/\(g.push (seqObj "list" vs.toArray 0)).get? b=some o:=fun b o e=>⟨Nat.ne_of_lt (ba e),aS _ e⟩
 refine aa (wpAny_holding (wpAny_call_entry slot_list_sort ⟨_,jm,rfl⟩ entry_list_sort (AM (s:={ s with heap:=g.push (seqObj "list" vs.toArray 0),toks:=j,drawn:=d }) jm C (AL _) (AN (h0:=g) B) hb fun c D U=>⟨_,rfl,?_⟩) (args_list_sort _)));refine av ⟨_,rfl,?_⟩;obtain⟨r,iJ⟩:∃r,((g.push (seqObj "list" vs.toArray 0)).update g.objs.size (Obj.mapSeq fun _=>#[])).get? g.objs.size=some (seqObj "list" #[] r):=⟨_,get?_update_seq jm fun _=>#[]⟩
 have rX:((((g.push (seqObj "list" vs.toArray 0)).update g.objs.size (Obj.mapSeq fun _=>#[])).push (seqObj "tuple" vs.toArray 0)).push (seqObj "list" #[] 0)).get? g.objs.size=some (seqObj "list" #[] r):=aS _ (aS _ iJ);refine h g _ j d c _ R (fun b o e=>?_) (fun v p=>B v (D.mem_iff.mp p)) ?_ U (get?_update_seq rX fun _=>c.toArray)
 ·have q:=hb b o e;unfold sortedHeap;rw[Heap.get?_update_ne _ _ _ _ q.1];refine aS _ (aS _ ?_);rw[Heap.get?_update_ne _ _ _ _ q.1];exact q.2
 ·refine((D.trans l).map numOf).trans (.of_eq ?_);rw[List.map_map];rfl
end
end L2.TS
namespace L2
open PySem PySem.Spec PyProof.Rows
theorem Inv.drew{X:Cx}{a:List (Addr×Obj)}{Y:St}{H:Hp}{s:Shared}(I:Inv X a Y H s)(d:Drawn):Inv X a Y H { s with drawn:=d }:=⟨I.ok,I.os,I.bare,I.base,I.loc,I.cell,I.free,I.freeC,I.pin,I.hok,I.len⟩
end L2
namespace L2.L3
open PySem PySem.Spec PyProof.Rows PySem.W
noncomputable def ra(P:Program)(w:World)(a:Addr)(c:List Int):HO:=.ext fun h=>∃o b,h.get? a=some o/\TS.SetO P w o (TS.ledW w) b/\b.Perm (TS.onceI c)
noncomputable def uU(P:Program)(w:World)(K:Frag):List V->Hp->VK->Prop:=fun b H Q=>∃p a,b=[.ref p]/\cU K H p (a.map V.int)/\a.length+1<scanBound/\∀l,H l=none->Q (.ref l) (bp H l (ra P w l a))
noncomputable def Bl(P:Program)(w:World):List V->Hp->VK->Prop:=fun b H Q=>∃p a,b=[.ref p]/\H p=some (ra P w p a)/\∀l,H l=none->Q (.ref l) (bp H l (.lst ((fY (TS.onceI a)).map V.int)))
noncomputable def Bm(P:Program)(w:World):List V->Hp->VK->Prop:=fun b H Q=>∃p a,b=[.ref p]/\H p=some (ra P w p a)/\Q (.int (TS.onceI a).length) H
section
variable{X:Cx}
theorem MG{h:Heap}{d:List Value}{i:List Int}(f:∀v∈d,∃n t,v=.int n t)(j:(d.map numOf).Perm i)(k:d.Pairwise (fun x y=>TS.lexLe (TS.rkH h x) (TS.rkH h y)=true)):bi ((fY i).map V.int) d:=by
 have m:d.map numOf=fY i:=by
  refine List.Perm.eq_of_pairwise (le:=fun a b=>decide (a<=b)=true) (fun a b _ _ o p=>by simp at o p;omega) ?_ (List.pairwise_mergeSort (fun a b c o p=>by simp at *;omega) (fun a b=>by simp;omega) i) (j.trans (List.mergeSort_perm _ _).symm);rw[List.pairwise_map];refine List.Pairwise.imp_of_mem (fun {x y} q r h=>?_) k;obtain⟨a,t,rfl⟩:=f x q;obtain⟨b,u,rfl⟩:=f y r;refine decide_eq_true (show a<=b from ?_);have g:TS.lexLe [a] [b]=true:=h;unfold TS.lexLe at g;rw[HT.lexLt_cons] at g
  by_cases e:b=a
  ·exact Int.le_of_eq e.symm
  ·rw[if_neg e] at g
   by_cases s:b<a
   ·simp[s] at g
   ·omega
 rw[<-m];clear m j k
 induction d with
 | nil=>exact .nil
 | cons v l w=>obtain⟨n,t,rfl⟩:=f v List.mem_cons_self;exact .cons ⟨t,rfl⟩ (w fun u z=>f u (bq _ z))
theorem MI{P:Program}{w:World}{H:Hp}{h:Heap}{a:Addr}{d b:List Int}{o:Obj}(c:h.get? a=some o)(e:TS.SetO P w o (TS.ledW w) b)(f:b.Perm (TS.onceI d)):cz P w H h a (ra P w a d):=
 ⟨⟨o,b,c,e,f⟩,⟨o,c⟩,fun _ _ ⟨o,b,h1,h2⟩ k=>⟨o,b,k o h1,h2⟩⟩
theorem Bn(b:X.calm=true):eU X (.type "set") (uU X.prog X.w X.K):=by intro a s Y H n t Q I r h;obtain⟨p,ns,rfl,c,hb,q⟩:=h;obtain⟨u,rfl,d⟩:=vals1 r;cases d;obtain⟨e,f,g,v⟩:=I.list c;refine TS.call_set (I.ok.hd b) g.isList (by simpa using ints_are f) hb fun x i o y m j k l=>?_;exact⟨.ref s.heap.objs.size,_,I.laid (t':=i) m (aZ _) (MI j k l),rfl,q _ (I.hok.fresh (aZ _))⟩
theorem MJ(l:X.calm=true):eU X (.builtin "sorted") (Bl X.prog X.w):=by
 intro a s Y H J L Q I r h;obtain⟨p,ns,rfl,n,q⟩:=h;obtain⟨u,rfl,v⟩:=vals1 r;cases v;obtain⟨⟨o,M,x,g,y⟩,_⟩:=I.hok p _ n;refine TS.sorted_set (I.ok.hd l) x g fun k G b d c m z A B i C e=>?_;have rel:=MG B (i.trans y) C;have j:Inv X a Y H { s with heap:=k,toks:=b,drawn:=d }:=(I.kept (t':=b) z).drew d;have D:((fY (TS.onceI ns)).map V.int).length<=sizeLine:=by obtain⟨N,O,t,T,hd,E,rfl,hb,U,hr,hl⟩:=g;rw[rel.length,<-List.length_map (f:=numOf),i.length_eq,List.length_map,Array.length_toList];exact fits_of_scanBound hb
 exact⟨.ref k.objs.size,_,j.laid (t':=b) A (aZ _) (show cz X.prog X.w _ G _ (.lst ((fY (TS.onceI ns)).map V.int)) from⟨D,c,m,rel,e⟩),rfl,q _ (j.hok.fresh (aZ _))⟩
theorem MK:eU X (.builtin "len") (Bm X.prog X.w):=by
 intro a s Y H m n Q I r h;obtain⟨p,ns,rfl,d,q⟩:=h;obtain⟨u,rfl,e⟩:=vals1 r;cases e;obtain⟨⟨o,v,f,g,i⟩,_⟩:=I.hok p _ d;obtain⟨b,x,t,j,hd,k,rfl,hb,l,y,c⟩:=g;have c:b.size=(TS.onceI ns).length:=by have:=i.length_eq;simpa using this
 refine call_len_set f j hd l (by have:b.size<4096:=hb;omega) ?_;refine⟨.int (TS.onceI ns).length,H,I.tok _,⟨_,by rw[c]⟩,q⟩
end
theorem Bo{G:Hp}:∀{c:List Int}{d:List V},aI G d (c.map PyData.int)->d=c.map V.int
 | [],_,h=>by cases h;rfl
 | n::c,_,h=>by
  cases h with
  | cons a b=>rw[a.int_inv,Bo b];rfl
noncomputable def kZ(b:List PyData):Option (List Int):=match b with
 | [.list c]=>(fm c).bind fun a=>if a.length<4000 then some a else none
 | _=>none
theorem Bp{K:Frag}{O:List Addr}{H:Hp}{vs:List V}{d:List PyData}{b:List Int}(hd:aI (au O H) vs d)(e:kZ d=some b):∃a,vs=[.ref a]/\cU K H a (b.map V.int)/\b.length+1<scanBound:=by
 unfold kZ at e;split at e
 ·rename_i i;obtain⟨j,h,c⟩:=Option.bind_eq_some_iff.mp e;split at c
  ·rename_i k;cases c;obtain⟨x,rfl,h1⟩:=gm hd;obtain⟨a,l,rfl,f,g⟩:=h1.lst_inv;rw[qx h] at g;rw[Bo g] at f;exact⟨a,rfl,.of (da f).1,show b.length+1<4096 by omega⟩
  ·cases c
 ·cases e
noncomputable def oy(a:List PyData):Option PyData:=(kZ a).map fun b=>.list ((fY (TS.onceI b)).map PyData.int)
noncomputable def oz(a:List PyData):Option PyData:=(kZ a).map fun b=>.int (TS.onceI b).length
noncomputable def uV:DN:=fun a Q=>∃d,oy a=some d/\Q d
noncomputable def uW:DN:=fun a Q=>∃d,oz a=some d/\Q d
theorem ML:FN uV oy:=fun a d Q e q=>⟨d,e,q⟩
theorem MM:FN uW oz:=fun a d Q e q=>⟨d,e,q⟩
theorem Bq{P:Program}{w:World}{K:Frag}:gk (fun xs H Q=>uU P w K xs H fun v H1=>Bl P w [v] H1 Q) uV where
 mn:=fun _ _ _ k ⟨d,e,q⟩=>⟨d,e,k _ q⟩
 ok:=fun O H vs xs Q hO hd q=>by obtain⟨d,e,q⟩:=q;obtain⟨ns,e1,rfl⟩:=Option.map_eq_some_iff.mp e;obtain⟨a,rfl,sq,hl⟩:=Bp (K:=K) hd e1;refine⟨a,ns,rfl,sq,hl,fun l h1=>⟨l,ns,rfl,dB,fun l2 h2=>?_⟩⟩;have hn:H l2=none:=(bZ h1).free h2;exact q _ _ ((bZ h1).trans (bZ h2)) (jx h2 (hO l2 hn) (Ba _))
theorem Br{P:Program}{w:World}{K:Frag}:gk (fun xs H Q=>uU P w K xs H fun v H1=>Bm P w [v] H1 Q) uW where
 mn:=fun _ _ _ k ⟨d,e,q⟩=>⟨d,e,k _ q⟩
 ok:=fun O H vs xs Q hO hd q=>by obtain⟨d,e,q⟩:=q;obtain⟨ns,e1,rfl⟩:=Option.map_eq_some_iff.mp e;obtain⟨a,rfl,sq,hl⟩:=Bp (K:=K) hd e1;exact⟨a,ns,rfl,sq,hl,fun l h1=>⟨l,ns,rfl,dB,q _ _ (bZ h1) (.int _)⟩⟩
section
variable{X:Cx}{F:Fx}{e:Expr}{tA:cW}{pos p pos2 p2:Pos}
theorem Bt:bootBuiltins "set" = some (.type "set"):=by decide +kernel
theorem MN(h:X.calm=true)(i:Gl X "sorted")(j:X.mg "sorted" = none)(c:Gl X "set")(d:X.mg "set" = none)(f:DA X F [e] tA)
  (k:starEach [e] X.env=(false,eval e X.env)::starEach [] X.env:=by rfl) (g:(backTo pos2 (starEach [] X.env)).any (·.1)=false:=by rfl)
  (a:starEach [.Call (.Name "set" p2) [e] [] pos2] X.env=(false,eval (.Call (.Name "set" p2) [e] [] pos2) X.env)::starEach [] X.env:=by rfl) (b:(backTo pos (starEach [] X.env)).any (·.1)=false:=by rfl) :
  DE X F (.Call (.Name "sorted" p) [.Call (.Name "set" p2) [e] [] pos2] [] pos) (ku uV tA):=
 ⟨tK (Bq (P:=X.prog) (w:=X.w) (K:=X.K)) f.mn,(kh (MJ h) i j (show bootBuiltins "sorted" = some (.builtin "sorted") by decide +kernel) (fA (xD (Bn h) c d Bt f.pa (by decide) (by decide) k g) fL a) (by decide) (by decide) a b).imp (tJ (Bq (P:=X.prog) (w:=X.w) (K:=X.K)) f.mn)⟩
theorem MO(h:X.calm=true)(i:Gl X "len")(j:X.mg "len" = none)(c:Gl X "set")(d:X.mg "set" = none)(f:DA X F [e] tA)
  (k:starEach [e] X.env=(false,eval e X.env)::starEach [] X.env:=by rfl) (g:(backTo pos2 (starEach [] X.env)).any (·.1)=false:=by rfl)
  (a:starEach [.Call (.Name "set" p2) [e] [] pos2] X.env=(false,eval (.Call (.Name "set" p2) [e] [] pos2) X.env)::starEach [] X.env:=by rfl) (b:(backTo pos (starEach [] X.env)).any (·.1)=false:=by rfl) :
  DE X F (.Call (.Name "len" p) [.Call (.Name "set" p2) [e] [] pos2] [] pos) (ku uW tA):=
 ⟨tK (Br (P:=X.prog) (w:=X.w) (K:=X.K)) f.mn,(kh MK i j PySem.boot_len (fA (xD (Bn h) c d Bt f.pa (by decide) (by decide) k g) fL a) (by decide) (by decide) a b).imp (tJ (Br (P:=X.prog) (w:=X.w) (K:=X.K)) f.mn)⟩
end
end L2.L3
namespace L2.L3
open PySem PySem.Spec PyProof.Rows
section
variable{X:Cx}{F:Fx}{E:Str->ao->Prop}{a b c d:Expr}{ta tb tc td:TE}{pos:Pos}
noncomputable def MP(r:R2)(ta tb tc td:TE):TE:=fun Y H Q=>ta Y H fun x h=>tb Y h fun y i=>r x y i fun z e=>∃k,z=.bl k/\
 (if k=true then tc Y e fun f j=>r y f j fun z g=>∃k,z=.bl k/\(if k=true then td Y g fun v l=>r f v l Q else Q (.bl false) g) else Q (.bl false) e)
theorem MQ{op:CmpOp}{r:R2}(g:cA X (compareOp op) r)(A:PE X a ta)(hb:PE X b tb)(B:PE X c tc)(hd:PE X d td)
  (C:lastMarks [op,op,op] [b,c,d]=false:=by with_unfolding_all rfl):PE X (.Compare a [op,op,op] [b,c,d] pos) (MP r ta tb tc td):=by
 intro f s Y H Q I h;refine Compare_chain (aP (A f s Y H _ I h) fun v D ⟨x,G,J,L,M⟩=>chain_link (aP (hb f D Y G _ J M) fun u N ⟨y,O,R,i,S⟩=>
  aP (g f N Y O x y v u _ R L i S) fun d T ⟨z,j,l,U,k,e,m⟩=>?_)) C
 subst e;cases U;refine wpAny_truthy_bool ?_;cases k with
 | false=>exact ite_ff ⟨.bl false,j,l,rfl,m⟩
 | true=>
  refine ite_tt (chain_link (aP (B f T Y j _ l m) fun n Z ⟨w,H4,I4,o,q4⟩=>aP (g f Z Y H4 y w u n _ I4 i o q4) fun d s5 ⟨z,p,q,r5,k,e,t⟩=>?_));subst e;cases r5;refine wpAny_truthy_bool ?_;cases k with
  | false=>exact ite_ff ⟨.bl false,p,q,rfl,t⟩
  | true=>exact ite_tt (chain_last (aP (hd f s5 Y p _ q t) fun w2 s6 ⟨z2,H6,I6,r6,q6⟩=>g f s6 Y H6 w z2 n w2 Q I6 o r6 q6))
end
section
variable{X:Cx}{F:Fx}{E:Str->ao->Prop}{a b c d e:Expr}{ta tb tc td:DT}{pos:Pos}{ma mb mc md:XM PyData}
noncomputable def Bu(p:Int->Int->Bool)(ta tb tc td:DT):DT:=fun U Q=>ta U fun x h=>tb h fun y f=>∃i j,x=.int i/\y=.int j/\if p i j=true then tc f (fun z g=>∃k,z=.int k/\if p j k=true then td g (fun u m=>∃l,u=.int l/\Q (.bool (p k l)) m) else Q (.bool false) g) else Q (.bool false) f
theorem MR{op:CmpOp}{p:Int->Int->Bool}(ho:cA X (compareOp op) (gg fun i j=>.bl (p i j)))(t:DE X F a ta)(N:DE X F b tb)(A:DE X F c tc)(hd:DE X F d td)
  (hm:lastMarks [op,op,op] [b,c,d]=false:=by with_unfolding_all rfl):DE X F (.Compare a [op,op,op] [b,c,d] pos) (Bu p ta tb tc td):=
 ⟨fun _ _ _ k q=>t.mn _ _ _ (fun _ _ B=>N.mn _ _ _ (fun _ _ ⟨i,j,C,D,f⟩=>⟨i,j,C,D,by
   by_cases h:p i j=true
   ·rw[if_pos h] at f ⊢;exact A.mn _ _ _ (fun _ _ ⟨l,e,g⟩=>⟨l,e,by
     by_cases n:p j l=true
     ·rw[if_pos n] at g ⊢;exact hd.mn _ _ _ (fun _ _ ⟨l,e,G⟩=>⟨l,e,k _ _ G⟩) g
     ·rw[if_neg n] at g ⊢;exact k _ _ g⟩) f
   ·rw[if_neg h] at f ⊢;exact k _ _ f⟩) B) q,
  (MQ ho t.pe N.pe A.pe hd.pe hm).imp fun Y H Q ⟨U,O,st,q⟩=>
  ⟨U,O,st,t.mn _ _ _ (fun x U1 B v H1 O1 I J d1=>⟨U1,O1,I,N.mn _ _ _ (fun y U2 ⟨i,j,C,D,f⟩ w H2 R o s S=>by
   subst C D;refine⟨i,j,(DV.mono s.hid d1).int_inv,S.int_inv,p i j,rfl,?_⟩
   by_cases h:p i j=true
   ·rw[if_pos h] at f ⊢;refine⟨U2,R,o,A.mn _ _ _ (fun z U3 ⟨l,e,g⟩ u H3 T r L Z=>?_) f⟩;subst e;refine⟨j,l,(DV.mono L.hid S).int_inv,Z.int_inv,p j l,rfl,?_⟩
    by_cases n:p j l=true
    ·rw[if_pos n] at g ⊢;exact⟨U3,T,r,hd.mn _ _ _ (fun z U4 ⟨m,e,G⟩ u H4 O4 M s4 d4=>by subst e;exact⟨l,m,(DV.mono s4.hid Z).int_inv,d4.int_inv,G _ H4 O4 M (J.trans (s.trans (L.trans s4))) (.bl _)⟩) g⟩
    ·rw[if_neg n] at g ⊢;exact g _ H3 T r (J.trans (s.trans L)) (.bl _)
   ·rw[if_neg h] at f ⊢;exact f _ H2 R o (J.trans s) (.bl _)) B⟩) q⟩⟩
noncomputable def re(p:Int->Int->Bool)(k:Int)(z:PyData):XM PyData:=bn (match z with | .int l=>some (.bool (p k l)) | _=>none)
noncomputable def oA(p:Int->Int->Bool)(d:XM PyData)(j:Int)(z:PyData):XM PyData:=fun U=>match z with
 | .int k=>if p j k=true then(d U).bind (re p k) else .ok (.bool false) U
 | _=>.bad
noncomputable def oB(p:Int->Int->Bool)(a b c d:XM PyData):XM PyData:=fun U=>(a U).bind fun x g=>(b g).bind fun y f=>match x,y with
 | .int i,.int j=>if p i j=true then(c f).bind (oA p d j) else .ok (.bool false) f
 | _,_=>.bad
theorem MS{p:Int->Int->Bool}(h:DE X F e (Bu p (wp E ma) (wp E mb) (wp E mc) (wp E md))):FE X F E e (oB p ma mb mc md):=h.imp az fun U Q q=>by
 refine az _ _ _ (fun x w s=>?_) (bK q);refine az _ _ _ (fun y A f=>?_) (bK s);unfold wp at f;cases x with
 | int i=>cases y with
  | int j=>
   refine⟨i,j,rfl,rfl,?_⟩
   by_cases n:p i j=true
   ·simp only[if_pos n] at f;rw[if_pos n];refine az _ _ _ (fun z B g=>?_) (bK (m:=mc) (k:=oA p md j) f);unfold wp oA at g;cases z with
    | int k=>
     refine⟨k,rfl,?_⟩
     by_cases o:p j k=true
     ·simp only[if_pos o] at g;rw[if_pos o];refine az _ _ _ (fun u C t=>?_) (bK (m:=md) (k:=re p k) g);obtain⟨d,r,v⟩:=cS t;cases u with
      | int l=>cases r;exact⟨l,rfl,v⟩
      | _=>cases r
     ·simp only[if_neg o] at g;rw[if_neg o];exact g
    | _=>exact g.elim
   ·simp only[if_neg n] at f;rw[if_neg n];exact f
  | _=>exact f.elim
 | _=>exact f.elim
theorem MT(f:FE X F E a ma)(k:FE X F E b mb)(g:FE X F E c mc)(hd:FE X F E d md)(h:lastMarks [.LtE,.LtE,.LtE] [b,c,d]=false:=by with_unfolding_all rfl):FE X F E (.Compare a [.LtE,.LtE,.LtE] [b,c,d] pos) (oB (fun i j=>decide (i<=j)) ma mb mc md):=MS (MR pB f k g hd h)
end
end L2.L3
namespace Due
noncomputable abbrev Sh:=List (Int×Int)
noncomputable def ft(a:Int):Sh->Int->Int
 | [],_=>a
 | (b,c)::r,m=>ft (if b<=m then c else a) r m
noncomputable def dq(a:Int)(b:Sh)(m:Int):Int:=m+ft a b m
noncomputable def fw:Int->Sh->Prop
 | _,[]=>True
 | lo,(b,_)::r=>lo<b/\fw b r
theorem uX{a m:Int}:∀{d:Sh}{lo:Int},fw lo d->m<=lo->ft a d m=a
 | [],_,_,_=>rfl
 | (b,c)::r,lo,⟨h1,h2⟩,e=>by unfold ft;rw[if_neg (by omega)];exact uX h2 (by omega)
noncomputable def fx(g:Int):Int->Int->Sh->Int
 | s,a,[]=>max s (g - a)
 | s,a,(b,c)::r=>if max s (g - a)<b then max s (g - a) else fx g b c r
theorem lb{g:Int}:∀{f:Sh}{s a:Int},fw s f->s<=fx g s a f/\g<=dq a f (fx g s a f)/\∀m,s<=m->m<fx g s a f->dq a f m<g
 | [],s,a,_=>by unfold fx dq ft;refine⟨by omega,by omega,fun m k j=>?_⟩;omega
 | (b,c)::r,s,a,⟨k,j⟩=>by
  unfold fx;have d:∀m,m<b->dq a ((b,c)::r) m=m+a:=fun m i=>by unfold dq ft;rw[if_neg (by omega),uX j (by omega)]
  have h:∀m,b<=m->dq a ((b,c)::r) m=dq c r m:=fun m i=>by unfold dq;rw[ft,if_pos i]
  by_cases e:max s (g - a)<b
  ·rw[if_pos e];refine⟨by omega,?_,fun m k j=>?_⟩
   ·rw[d _ e];omega
   ·rw[d _ (by omega)];omega
  ·rw[if_neg e];obtain⟨l,n,o⟩:=lb (g:=g) (a:=c) j;refine⟨by omega,?_,fun m q p=>?_⟩
   ·rw[h _ l];exact n
   ·by_cases i:m<b
    ·rw[d _ i];omega
    ·rw[h _ (by omega)];exact o m (by omega) p
theorem MU{g b:Int}(h:g<=b){c:Sh}{s a:Int}(e:fw s c):fx g s a c<=fx b s a c:=by obtain⟨j,k,f⟩:=lb (g:=g) (a:=a) e;obtain⟨i,l,m⟩:=lb (g:=b) (a:=a) e;refine Int.not_lt.mp fun d=>?_;have:=f _ i d;omega
def rf(a:Int)(b:Sh):Prop:=(-12<=a/\a<=14)/\∀p∈b,-12<=p.2/\p.2<=14
theorem uY{m:Int}:∀{d:Sh}{a:Int},rf a d->-12<=ft a d m/\ft a d m<=14
 | [],a,h=>h.1
 | (b,c)::r,a,h=>by
  unfold ft;refine uY ⟨?_,fun p e=>h.2 p (bq _ e)⟩;split
  ·exact h.2 (b,c) List.mem_cons_self
  ·exact h.1
noncomputable def aW(s a:Int):Sh->List (Int×Option Int×Int)
 | []=>[(s,none,a)]
 | (b,c)::r=>(s,some b,a)::aW b c r
noncomputable def eG(m:Int):Option Int->Bool
 | none=>true
 | some e=>decide (m<e)
noncomputable def lc(g:Int)(l:List (Int×Option Int×Int)):List Int:=(l.filter fun p=>eG (max p.1 (g - p.2.2)) p.2.1).map fun p=>max p.1 (g - p.2.2)
theorem Bv(g:Int):∀(d:Sh) (s a:Int),∃t,lc g (aW s a d)=fx g s a d::t
 | [],s,a=>⟨[],rfl⟩
 | (b,c)::r,s,a=>by
  obtain⟨t,e⟩:=Bv g r b c;unfold aW fx lc;rw[List.filter_cons]
  by_cases h:max s (g - a)<b
  ·rw[if_pos (by show decide (max s (g - a)<b)=true;exact decide_eq_true h),if_pos h];exact⟨_,rfl⟩
  ·rw[if_neg (by show ¬ decide (max s (g - a)<b)=true;simpa using h),if_neg h];exact⟨t,e⟩
noncomputable def fG(a:Int)(b:Sh)(h:Int):Int:=-((h - dq a b 0) / 24)
theorem Bw{a h:Int}{ss:Sh}:dq a ss 0<=24 * fG a ss h+h/\24 * fG a ss h+h<dq a ss 0+24:=by unfold fG;omega
noncomputable def fH(a:Int)(b:Sh)(h:Int)(c:Nat):Int:=fx ((fG a b h+c) * 24+h) 0 a b
inductive aR where
 | once (m:Int) | every (f s:Int) | daily (h:Int)
noncomputable def cf(a:Int)(b:Sh):aR->Nat->Option Int
 | .once m,c=>if c=0 then some m else none
 | .every f s,c=>some (f+c * s)
 | .daily h,c=>some (fH a b h c)
theorem MV{a h:Int}{b:Sh}{c:Nat}(d:fw 0 b):0<=fH a b h c:=(lb d).1
theorem MW{a h:Int}{b:Sh}{c d:Nat}(e:fw 0 b)(f:c<=d):fH a b h c<=fH a b h d:=MU (by omega) e
theorem By{a h:Int}{b:Sh}{c:Nat}(e:fw 0 b)(d:rf a b):24 * (c:Int) - 26<=fH a b h c:=by obtain⟨f,i,_⟩:=lb (g:=(fG a b h+c) * 24+h) (a:=a) e;have:=Bw (a:=a) (h:=h) (ss:=b);have j:=uY (m:=0) d;have k:=uY (m:=fx ((fG a b h+c) * 24+h) 0 a b) d;unfold dq at *;unfold fH;omega
structure cP (a:Int) (ss:Sh):Prop where
 len:ss.length<=6
 rise:fw 0 ss
 ah:rf a ss
 top:∀p∈ss,p.1<=9999
noncomputable def br:aR->Prop
 | .once m=>0<=m/\m<=9999
 | .every f s=>(0<=f/\f<=9999)/\1<=s/\s<=999
 | .daily h=>0<=h/\h<=23
noncomputable def dw(a:Int)(b:Sh)(p:aR)(c:Nat):Int:=(cf a b p c).getD 0
noncomputable def iG(a:Int)(b:Sh)(p:aR)(first:Int)(n:Nat):List Nat:=(List.range n).filter fun c=>decide (first<=dw a b p c)
structure bh (a:Int) (ss:Sh) (p:aR) (last:Int) (n:Nat):Prop where
 le:n<=20000
 in_:∀c,c<n->∃v,cf a ss p c=some v/\v<=last
 out:cf a ss p n=none\/∃v,cf a ss p n=some v/\last<v
noncomputable def uZ(a b c:Int):Nat:=(if a<b then(b - a - 1) / c+1 else 0).toNat
theorem dj{P:Nat->Prop}:∀N,P N->∃n,n<=N/\P n/\∀m,m<n->¬ P m
 | 0,h=>⟨0,aZ _,h,fun m a=>absurd a (Nat.not_lt_zero m)⟩
 | N+1,h=>by
  by_cases e:∃m,m<=N/\P m
  ·obtain⟨m,a,pm⟩:=e;obtain⟨n,h1,h2,h3⟩:=dj m pm;exact⟨n,by omega,h2,h3⟩
  ·exact⟨N+1,aZ _,h,fun m a pm=>e ⟨m,by omega,pm⟩⟩
theorem MX{a h last:Int}{b:Sh}(z:cP a b)(e:last<=9999):∃n,bh a b (.daily h) last n:=by
 obtain⟨n,h1,h2,h3⟩:=dj (P:=fun c=>last<fH a b h c) 1000 (by
  have:=By (h:=h) (c:=1000) z.rise z.ah;show last<fH a b h 1000;omega)
 refine⟨n,by omega,fun c d=>⟨_,rfl,?_⟩,.inr ⟨_,rfl,h2⟩⟩;have:=h3 c d;omega
theorem Bz{a:Int}{i:Sh}{p:aR}(z:cP a i)(ok:br p){c d:Nat}{v w:Int}(h:c<=d)(b:cf a i p c=some v)(g:cf a i p d=some w):v<=w:=by
 cases p with
 | once m=>
  rw[cf] at b g
  by_cases e:c=0
  ·by_cases j:d=0
   ·rw[if_pos e] at b;rw[if_pos j] at g;cases b;cases g;exact Int.le_refl _
   ·rw[if_neg j] at g;cases g
  ·rw[if_neg e] at b;cases b
 | every f s=>rw[cf] at b g;cases b;cases g;have:=Int.mul_le_mul_of_nonneg_right (show(c:Int)<=d by omega) (show(0:Int)<=s by have:=ok.2.1;omega);omega
 | daily k=>rw[cf] at b g;cases b;cases g;exact MW z.rise h
theorem MY{a:Int}{d:Sh}{p:aR}(z:cP a d)(ok:br p){c:Nat}{v:Int}(b:cf a d p c=some v):0<=v:=by
 cases p with
 | once m=>
  rw[cf] at b
  by_cases e:c=0
  ·rw[if_pos e] at b;cases b;exact ok.1
  ·rw[if_neg e] at b;cases b
 | every f s=>rw[cf] at b;cases b;have:=Int.mul_nonneg (show(0:Int)<=c by omega) (show(0:Int)<=s by have:=ok.2.1;omega);have:=ok.1.1;omega
 | daily g=>rw[cf] at b;cases b;exact MV z.rise
theorem MZ{a last:Int}{d:Sh}{p:aR}(z:cP a d)(ok:br p)(g:last<=9999):∃n,bh a d p last n:=by
 cases p with
 | once m=>
  by_cases e:m<=last
  ·refine⟨1,by omega,fun c b=>⟨m,by rw[cf,if_pos (by omega)],e⟩,.inl (by rw[cf,if_neg (by omega)])⟩
  ·exact⟨0,by omega,fun c b=>absurd b (Nat.not_lt_zero c),.inr ⟨m,by rw[cf,if_pos rfl],by omega⟩⟩
 | every f s=>
  obtain⟨n,h1,h2,h3⟩:=dj (P:=fun(c:Nat)=>last<f+c * s) 10000 (by
   have:=ok.1.1;have:=Int.mul_le_mul_of_nonneg_left (show(1:Int)<=s from ok.2.1) (show(0:Int)<=((10000:Nat):Int) by omega);show last<f+((10000:Nat):Int) * s;omega)
  exact⟨n,by omega,fun c b=>⟨_,rfl,Int.not_lt.mp (h3 c b)⟩,.inr ⟨_,rfl,h2⟩⟩
 | daily h=>exact MX z g
theorem BA{a last:Int}{d:Sh}{p:aR}{n:Nat}(z:cP a d)(ok:br p)(u:bh a d p last n){c:Nat}{v:Int}(h:n<=c)(b:cf a d p c=some v):last<v:=by
 rcases u.out with e | ⟨w,e,i⟩
 ·cases p with
  | once m=>
   rw[cf] at e b
   by_cases g:n=0
   ·rw[if_pos g] at e;cases e
   ·rw[if_neg (by omega)] at b;cases b
  | every f s=>cases e
  | daily j=>cases e
 ·have:=Bz z ok h e b;omega
theorem Na{a b s last:Int}{d:Sh}{n:Nat}(u:bh a d (.every b s) last n):(∀c:Nat,c<n->b+c * s<=last)/\last<b+n * s:=by
 refine⟨fun c f=>?_,?_⟩
 ·obtain⟨v,g,h⟩:=u.in_ c f;cases g;exact h
 ·rcases u.out with e | ⟨v,e,h⟩
  ·cases e
  ·cases e;exact h
theorem Nb{a b s last:Int}{f:Sh}{n:Nat}(c:0<s)(u:bh a f (.every b s) last n):n=uZ b (last+1) s:=by
 obtain⟨d,h2⟩:=Na u;unfold uZ
 by_cases h:b<last+1
 ·rw[if_pos h];have j:0<n:=by refine Nat.pos_of_ne_zero fun e=>?_;subst e;simp at h2;omega
  have h3:=d (n - 1) (by omega);have g:((n - 1:Nat):Int)=(n:Int) - 1:=by omega
  rw[g] at h3;have e:(last+1 - b - 1) / s=(n:Int) - 1:=by
   refine Int.le_antisymm ?_ ?_
   ·have:(last+1 - b - 1) / s<n:=Int.ediv_lt_of_lt_mul c (by omega);omega
   ·exact Int.le_ediv_of_mul_le c (by omega)
  rw[e];omega
 ·rw[if_neg h];have:n=0:=by refine Nat.eq_zero_of_not_pos fun i=>?_;have:=d 0 i;simp at this;omega
  rw[this];rfl
theorem va{a f:Int}{ss:Sh}{p:aR}{n:Nat}:(iG a ss p f n).length<=n:=by unfold iG;exact Nat.le_trans (List.length_filter_le _ _) (by rw[List.length_range];omega)
noncomputable def gB(m:Int)(l:List (Int×Option Int×Int)):List Int:=(l.filter fun p=>decide (p.1<=m)).map fun p=>(if eG m p.2.1=true then m else p.2.1.getD 0 - 1)+p.2.2
theorem BB{m:Int}:∀(i:Sh) (s a:Int),fw s i->(∀x,x∈gB m (aW s a i)->∃t,s<=t/\t<=m/\dq a i t=x)/\(∀t,s<=t->t<=m->∃x,x∈gB m (aW s a i)/\dq a i t<=x)
 | [],s,a,_=>by
  unfold aW gB
  by_cases h:s<=m
  ·rw[List.filter_cons,if_pos (decide_eq_true h),List.filter_nil,List.map_cons,List.map_nil];simp only[eG,if_true,List.mem_singleton];refine⟨fun x d=>⟨m,h,Int.le_refl _,by subst d;rfl⟩,fun t u l=>⟨_,rfl,by show t+a<=m+a;omega⟩⟩
  ·rw[List.filter_cons,if_neg (by simpa using h),List.filter_nil,List.map_nil];exact⟨fun x d=>(by cases d),fun t u l=>(by omega)⟩
 | (b,c)::r,s,a,⟨u,l⟩=>by
  obtain⟨n,o⟩:=BB (m:=m) r b c l;have g:∀t,t<b->dq a ((b,c)::r) t=t+a:=fun t k=>by unfold dq ft;rw[if_neg (by omega),uX l (by omega)]
  have j:∀t,b<=t->dq a ((b,c)::r) t=dq c r t:=fun t k=>by unfold dq;rw[ft,if_pos k]
  have e:gB m (aW s a ((b,c)::r))=(if s<=m then[(if m<b then m else b - 1)+a] else[])++gB m (aW b c r):=by
   rw[show aW s a ((b,c)::r)=(s,some b,a)::aW b c r from rfl];unfold gB;rw[List.filter_cons]
   by_cases h:s<=m
   ·rw[if_pos (decide_eq_true h),if_pos h,List.map_cons];show((if decide (m<b)=true then m else b - 1)+a)::_=[(if m<b then m else b - 1)+a]++_
    by_cases f:m<b
    ·rw[if_pos (decide_eq_true f),if_pos f];rfl
    ·rw[if_neg (by simpa using f),if_neg f];rfl
   ·rw[if_neg (by simpa using h),if_neg h];rfl
  rw[e];constructor
  ·intro x d;rcases List.mem_append.mp d with d | d
   ·by_cases h:s<=m
    ·rw[if_pos h,List.mem_singleton] at d
     by_cases f:m<b
     ·rw[if_pos f] at d;exact⟨m,h,Int.le_refl _,by rw[g m f,d]⟩
     ·rw[if_neg f] at d;exact⟨b - 1,by omega,by omega,by rw[g _ (by omega),d]⟩
    ·rw[if_neg h] at d;cases d
   ·obtain⟨t,q,p,v⟩:=n x d;exact⟨t,by omega,p,by rw[j _ q];exact v⟩
  ·intro t q p
   by_cases k:t<b
   ·refine⟨(if m<b then m else b - 1)+a,List.mem_append.mpr (.inl ?_),?_⟩
    ·rw[if_pos (by omega)];exact List.mem_singleton.mpr rfl
    ·rw[g t k]
     by_cases f:m<b
     ·rw[if_pos f];omega
     ·rw[if_neg f];omega
   ·obtain⟨x,w,y⟩:=o t (by omega) p;exact⟨x,List.mem_append.mpr (.inr w),by rw[j t (by omega)];exact y⟩
end Due
namespace K3
open PySem PySem.Spec L2 L2.L3 PyProof.Rows
noncomputable abbrev BC:List Str:=["NoZone","NoPlan","NoMoment","NoDeeds","NoWidth"]
noncomputable def oC:SM:=(bM (eR (iA "int" (xV 0)) (eR (zf (iA "bool" (xV 0))) (tW (fun i j=>decide (i<=j)) (fun i j=>decide (i<=j)) (xV 1) (xV 0) (xV 2)))))
noncomputable def fJ:FM:=bL 3 3 oC
noncomputable def rg:SM:=(bM (eR (iA "tuple" (xV 0)) (ag (aT false) (ec kD (aG (xV 0) bu)) (xV 1))))
noncomputable def jh:FM:=bL 2 2 rg
noncomputable def rh:SM:=(cx (bt (ag jP (ag bo (xV 3) (xC (.int 0))) (xV 1))) (bF (ag bo (xV 3) (xC (.int 1))) (ay 2)) cw)
noncomputable def vb:SM:=(aB (bF (ag bo (xV 0) (xC (.int 0))) (ay 2))
  (aB (fU (kI (ag bo (xV 0) (xC (.int 1)))) (ay 3) rh)
  (bM (ag cH (xV 1) (xV 2)))))
noncomputable def rl:FM:=bL 2 4 vb
noncomputable def vc:XM PyData:=(ag bo (xV 0) (xC (.int 0)))
noncomputable def vd:XM PyData:=(ag bo (xV 0) (xC (.int 1)))
noncomputable def ve:SM:=(aB (bF (ag iZ (fS (aG (xC (.int 0)) bu)) (gu 1 [] (kI (ag bo (xV 0) (xC (.int 1)))) (ay 0) ef vc)) (ay 1))
  (aB (bF (ag iZ (xU (zQ 1) (xV 1)) (fS (aG (xC .none) bu))) (ay 2))
  (aB (bF (ag iZ (fS (aG (ag bo (xV 0) (xC (.int 0))) bu)) (gu 1 [] (kI (ag bo (xV 0) (xC (.int 1)))) (ay 0) ef vd)) (ay 3))
  (bM (ec uy (aG (xV 1) (aG (xV 2) (aG (xV 3) bu))))))))
noncomputable def oD:FM:=bL 1 4 ve
noncomputable def vf:SM:=(bM (nG (ag iY (xV 1) (xC .none)) (ag jO (xV 0) (xV 1))))
noncomputable def oE:FM:=bL 2 2 vf
noncomputable def oF:SM:=(aB (cx (bt (ag jO (xV 1) (qa 0))) (bM (qb 0 (xV 1))) cw)
  (aB (cx (ue 0) (bM (xC (.int 0))) cw)
  (bM (ag cH (ag kN (qb 0 (ag kO (xV 1) (qa 0))) (xC (.int 31))) (xV 1)))))
noncomputable def lh:FM:=bL 2 2 oF
noncomputable def vg:SM:=(jc (aH fJ (ak (xV 0) (ak (xC (.int (-12))) (ak (xC (.int (14))) aJ)))))
noncomputable def oG:FM:=bL 1 1 vg
noncomputable def vh:SM:=(jc (aH fJ (ak (xV 0) (ak (xC (.int 0)) (ak (xC (.int (9999))) aJ)))))
noncomputable def li:FM:=bL 1 1 vh
noncomputable def rm:SM:=(bM (eR (bf (aH jh (ak (xV 0) (ak (xV 2) aJ)))) (eR (iA "str" (ag bo (xV 0) (xC (.int 0)))) (ag (aT false) (ag bo (xV 0) (xC (.int 0))) (xV 1)))))
noncomputable def ji:FM:=bL 3 3 rm
noncomputable def vi:XM Bool:=(bt (bf (aH oE (ak (ec nJ (aG (xV 0) (aG (ag dG (xV 3) (xV 2)) bu))) (ak (xV 1) aJ)))))
noncomputable def vj:XM PyData:=(ec nJ (aG (xV 0) (aG (ag dG (xV 3) (xV 2)) bu)))
noncomputable def vk:SM:=(aB (bF (gu 3 [1] (gP (bf (aH oD (ak (xV 0) aJ)))) (dR 3 (cp (ay 0) (cp (ay 1) (cp (ay 2) dQ)))) vi vj) (ay 2))
  (bM (ag bo (xV 2) (xC (.int 0)))))
noncomputable def ro:FM:=bL 2 3 vk
noncomputable def vl:XM Bool:=(bt (ag jP (xV 0) (xV 3)))
noncomputable def oH:XM PyData:=(ag cH (pX (bt (bf (aH oE (ak (xV 3) (ak (xV 1) aJ))))) (xV 3) (ag dG (xV 1) (xC (.int 1)))) (xV 2))
noncomputable def vm:SM:=(bM (ec jb (aG (gu 3 [1] (gP (bf (aH oD (ak (xV 0) aJ)))) (dR 3 (cp (ay 0) (cp (ay 1) (cp (ay 2) dQ)))) vl oH) bu)))
noncomputable def rp:FM:=bL 2 2 vm
noncomputable def vn:SM:=(bM (kB (ag qr (ag dG (xV 1) (bf (aH rl (ak (xV 0) (ak (xC (.int 0)) aJ))))) (xC (.int (24))))))
noncomputable def oI:FM:=bL 2 2 vn
noncomputable def vo:SM:=(aB (bF (ag kO (ag cH (ag cH (ag kN (bf (aH lh (ca 0 (ak (xV 1) aJ)))) (xC (.int 1103515245))) (ag kN (xC (.int 7919)) (xV 1))) (xC (.int 12345))) (xC (.int 2147483647))) (ay 3))
  (bM (ag kO (ag kO (ag kO (ag Ai (xV 3) (xC (.int 5))) (xC (.int 2147483647))) (xC (.int 999983))) (xV 2))))
noncomputable def rq:FM:=bL 3 4 vo
noncomputable def oJ:SM:=(aB (cx (kC (gn (bt (bf (aH jh (ak (xV 2) (ak (xC (.int 2)) aJ)))))) (gn (bt (bf (aH oG (ak (ag bo (xV 2) (xC (.int 1))) aJ)))))) (bM (xC (.bool false))) cw)
  (aB (cx (gn (bt (bf (aH fJ (ak (ag bo (xV 2) (xC (.int 0))) (ak (xV 1) (ak (xC (.int (9999))) aJ))))))) (bM (xC (.bool false))) cw)
  (bF (ag cH (ag bo (xV 2) (xC (.int 0))) (xC (.int 1))) (ay 1))))
noncomputable def vp:SM:=(aB (cx (kC (gn (bt (iA "tuple" (xV 0)))) (bt (ag jf (ec kD (aG (xV 0) bu)) (xC (.int (6)))))) (bM (xC (.bool false))) cw)
  (aB (bF (xC (.int 1)) (ay 1))
  (aB (fU (kI (xV 0)) (ay 2) oJ)
  (bM (xC (.bool true))))))
noncomputable def ry:FM:=bL 1 3 vp
noncomputable def oK:SM:=(aB (cx (bt (bf (aH ji (ak (xV 0) (ak (xC (.str "once")) (ak (xC (.int 2)) aJ)))))) (jc (aH li (ak (ag bo (xV 0) (xC (.int 1))) aJ))) cw)
  (aB (cx (bt (bf (aH ji (ak (xV 0) (ak (xC (.str "every")) (ak (xC (.int 3)) aJ)))))) (bM (eR (bf (aH li (ak (ag bo (xV 0) (xC (.int 1))) aJ))) (bf (aH fJ (ak (ag bo (xV 0) (xC (.int 2))) (ak (xC (.int 1)) (ak (xC (.int (999))) aJ))))))) cw)
  (bM (eR (bf (aH ji (ak (xV 0) (ak (xC (.str "daily")) (ak (xC (.int 2)) aJ))))) (bf (aH fJ (ak (ag bo (xV 0) (xC (.int 1))) (ak (xC (.int 0)) (ak (xC (.int (23))) aJ)))))))))
noncomputable def jU:FM:=bL 1 1 oK
noncomputable def oM:SM:=(aB (cx (bt (iA "str" (xV 0))) (bM (nG (ag (aT false) (xV 0) (xC (.str "all"))) (ag (aT false) (xV 0) (xC (.str "last"))))) cw)
  (bM (eR (bf (aH ji (ak (xV 0) (ak (xC (.str "within")) (ak (xC (.int 2)) aJ))))) (bf (aH fJ (ak (ag bo (xV 0) (xC (.int 1))) (ak (xC (.int 0)) (ak (xC (.int (999))) aJ))))))))
noncomputable def lm:FM:=bL 1 1 oM
noncomputable def vr:SM:=(cx (gn (bt (bf (aH li (ak (xV 0) aJ))))) (jL "NoMoment") cw)
noncomputable def jj:FM:=bL 1 1 vr
noncomputable def vt:SM:=(aB (bF (ag cH (bf (aH oI (ak (xV 0) (ak (xV 1) aJ)))) (xV 2)) (ay 3))
  (jc (aH ro (ak (xV 0) (ak (ag cH (ag kN (xV 3) (xC (.int (24)))) (xV 1)) aJ)))))
noncomputable def rz:FM:=bL 3 4 vt
noncomputable def jV:SM:=(aB (cx (bt (ag jO (xV 2) (xC (.int 0)))) (bM (xC (.int 0))) cw)
  (aB (cx (bt (ag (aT false) (ag bo (xV 1) (xC (.int 0))) (xC (.str "once")))) (bM (pX (bt (ag jP (ag bo (xV 1) (xC (.int 1))) (xV 2))) (xC (.int 1)) (xC (.int 0)))) cw)
  (aB (cx (bt (ag (aT false) (ag bo (xV 1) (xC (.int 0))) (xC (.str "every")))) (bM (ec nJ (aG (xC (.int 0)) (aG (ag cH (ag qr (ag dG (xV 2) (ag bo (xV 1) (xC (.int 1)))) (ag bo (xV 1) (xC (.int 2)))) (xC (.int 1))) bu)))) cw)
  (aB (bF (ag qr (ag dG (bf (aH rp (ak (xV 0) (ak (xV 2) aJ)))) (ag bo (xV 1) (xC (.int 1)))) (xC (.int (24)))) (ay 3))
  (bM (ag cH (ag dG (xV 3) (bf (aH oI (ak (xV 0) (ak (ag bo (xV 1) (xC (.int 1))) aJ))))) (xC (.int 1))))))))
noncomputable def jk:FM:=bL 3 4 jV
noncomputable def vu:SM:=(aB (kJ 1 (xC (.int 0)))
  (jc (aH rq (ca 0 (ak (uk 1) (ak (xV 2) aJ))))))
noncomputable def fy:FM:=bL 3 3 vu
noncomputable def vv:SM:=(bM (eR (bf (aH jh (ak (xV 0) (ak (xC (.int 2)) aJ)))) (eR (bf (aH oG (ak (ag bo (xV 0) (xC (.int 0))) aJ))) (bf (aH ry (ak (ag bo (xV 0) (xC (.int 1))) aJ))))))
noncomputable def rA:FM:=bL 1 1 vv
noncomputable def vA:SM:=(bM (eR (bf (aH jh (ak (xV 0) (ak (xC (.int 3)) aJ)))) (eR (bf (aH jU (ak (ag bo (xV 0) (xC (.int 0))) aJ))) (eR (bf (aH lm (ak (ag bo (xV 0) (xC (.int 1))) aJ))) (iA "bool" (ag bo (xV 0) (xC (.int 2))))))))
noncomputable def rB:FM:=bL 1 1 vA
noncomputable def vB:SM:=(cx (gn (bt (bf (aH jU (ak (xV 0) aJ))))) (jL "NoPlan") cw)
noncomputable def rC:FM:=bL 1 1 vB
noncomputable def vC:SM:=(aB (eF (aH jj (ak (xV 0) aJ)))
  (aB (eF (aH jj (ak (xV 1) aJ)))
  (cx (bt (ag jO (xV 1) (xV 0))) (jL "NoMoment") cw)))
noncomputable def rD:FM:=bL 2 2 vC
noncomputable def lp:SM:=(aB (cx (bt (ag (aT false) (ag bo (xV 1) (xC (.int 0))) (xC (.str "once")))) (bM (pX (bt (ag (aT false) (xV 2) (xC (.int 0)))) (ag bo (xV 1) (xC (.int 1))) (xC .none))) cw)
  (aB (cx (bt (ag (aT false) (ag bo (xV 1) (xC (.int 0))) (xC (.str "every")))) (bM (ag cH (ag bo (xV 1) (xC (.int 1))) (ag kN (xV 2) (ag bo (xV 1) (xC (.int 2)))))) cw)
  (jc (aH rz (ak (xV 0) (ak (ag bo (xV 1) (xC (.int 1))) (ak (xV 2) aJ)))))))
noncomputable def hJ:FM:=bL 3 3 lp
noncomputable def vD:SM:=(bM (ag bo (xV 2) (bf (aH fy (ca 0 (ca 1 (ak (ec kD (aG (xV 2) bu)) aJ)))))))
noncomputable def lq:FM:=bL 3 3 vD
noncomputable def rE:XM PyData:=(bf (aH rB (ak (xV 0) aJ)))
noncomputable def vE:SM:=(aB (cx (kC (gn (bt (iA "tuple" (xV 0)))) (bt (ag jf (ec kD (aG (xV 0) bu)) (xC (.int (6)))))) (bM (xC (.bool false))) cw)
  (bM (ec kE (aG (gu 1 [] (kI (xV 0)) (ay 0) ef rE) bu))))
noncomputable def vF:FM:=bL 1 1 vE
noncomputable def vG:SM:=(cx (gn (bt (bf (aH rA (ak (xV 0) aJ))))) (jL "NoZone") cw)
noncomputable def lr:FM:=bL 1 1 vG
noncomputable def oN:SM:=(aB (bF (ag cH (ag cH (xV 4) (xC (.int 1))) (bf (aH fy (ca 0 (ca 1 (ak (xV 2) aJ)))))) (ay 4))
  (bF (ag nE (xV 3) (ea (aG (ea (aG (xV 4) (aG (bf (aH lq (ca 0 (ca 1 (ak (fS (aG (xC (.int 0)) (aG (xC (.int 1)) (aG (xC (.int 2)) (aG (kB (xC (.int 1))) (aG (xC (.int 14)) (aG (kB (xC (.int 12))) (aG (xC (.int 3)) bu)))))))) aJ))))) bu))) bu))) (ay 3)))
noncomputable def vH:SM:=(aB (bF (ea (aG (ea bu) (aG (xC (.int 0)) bu))) (dR 2 (cp (ay 3) (cp (ay 4) dQ))))
  (aB (fU (gQ ee (aG (bf (aH fy (ca 0 (ca 1 (ak (xC (.int 5)) aJ))))) bu)) (ay 5) oN)
  (bM (ea (aG (bf (aH lq (ca 0 (ca 1 (ak (fS (aG (xC (.int 0)) (aG (xC (.int 1)) (aG (xC (.int 2)) (aG (kB (xC (.int 1))) (aG (xC (.int 14)) (aG (kB (xC (.int 12))) bu))))))) aJ))))) (aG (xV 3) bu))))))
noncomputable def rF:FM:=bL 3 6 vH
noncomputable def oO:SM:=(aB (bF (bf (aH fy (ca 0 (ca 1 (ak (xC (.int 3)) aJ))))) (ay 3))
  (aB (cx (bt (ag (aT false) (xV 3) (xC (.int 0)))) (bM (ea (aG (xC (.str "once")) (aG (bf (aH fy (ca 0 (ca 1 (ak (xV 2) aJ))))) bu)))) cw)
  (aB (cx (bt (ag (aT false) (xV 3) (xC (.int 1)))) (aB (bF (ag cH (xC (.int 1)) (bf (aH fy (ca 0 (ca 1 (ak (bf (aH lq (ca 0 (ca 1 (ak (fS (aG (xC (.int 3)) (aG (xC (.int 30)) (aG (xC (.int 200)) bu)))) aJ))))) aJ)))))) (ay 4))
  (bM (ea (aG (xC (.str "every")) (aG (bf (aH fy (ca 0 (ca 1 (ak (xV 2) aJ))))) (aG (xV 4) bu)))))) cw)
  (bM (ea (aG (xC (.str "daily")) (aG (bf (aH fy (ca 0 (ca 1 (ak (xC (.int 24)) aJ))))) bu)))))))
noncomputable def ls:FM:=bL 3 5 oO
noncomputable def vI:SM:=(cx (gn (bt (bf (aH vF (ak (xV 0) aJ))))) (jL "NoDeeds") cw)
noncomputable def oP:FM:=bL 1 1 vI
noncomputable def jW:SM:=(aB (cx (bt (ag jP (xV 2) (xV 6))) (kJ 4 (ea (aG (xV 5) (aG (xV 6) bu)))) cw)
  (aB (kH 5 (xC (.int 1)) (fun i j=>i+j))
  (bF (bf (aH hJ (ak (xV 0) (ak (xV 1) (ak (xV 5) aJ))))) (ay 6))))
noncomputable def lu:XM Bool:=(tZ (bt (ag gM (xV 6) (xC .none))) (bt (ag jP (xV 6) (xV 3))))
noncomputable def vJ:SM:=(aB (eF (aH lr (ak (xV 0) aJ)))
  (aB (eF (aH rC (ak (xV 1) aJ)))
  (aB (eF (aH jj (ak (xV 2) aJ)))
  (aB (eF (aH jj (ak (xV 3) aJ)))
  (aB (jH 4 (nN bu))
  (aB (bF (xC (.int 0)) (ay 5))
  (aB (bF (bf (aH hJ (ak (xV 0) (ak (xV 1) (ak (xV 5) aJ))))) (ay 6))
  (aB (gr lu jW 100000)
  (qd 4)))))))))
noncomputable def rG:FM:=bL 4 7 vJ
noncomputable def oQ:SM:=(kJ 4 (ea (aG (xV 8) (aG (xV 5) (aG (xV 7) bu)))))
noncomputable def oR:SM:=(fU (gP (bf (aH rG (ak (xV 0) (ak (ag bo (xV 6) (xC (.int 0))) (ak (xV 2) (ak (xV 3) aJ))))))) (dR 2 (cp (ay 7) (cp (ay 8) dQ))) oQ)
noncomputable def vK:SM:=(aB (jH 4 (nN bu))
  (aB (fU (gQ qS (aG (xV 1) bu)) (dR 2 (cp (ay 5) (cp (ay 6) dQ))) oR)
  (bM (ec kY (aG (xV 4) bu)))))
noncomputable def lv:FM:=bL 4 9 vK
noncomputable def vL:SM:=(aB (eF (aH lr (ak (xV 0) aJ)))
  (aB (eF (aH oP (ak (xV 1) aJ)))
  (eF (aH rD (ak (xV 2) (ak (xV 3) aJ))))))
noncomputable def lx:FM:=bL 4 4 vL
noncomputable def jX:SM:=(aB (bF (bf (aH jk (ak (xV 0) (ak (ag bo (xV 5) (xC (.int 0))) (ak (ag dG (xV 2) (xC (.int 1))) aJ))))) (ay 6))
  (aB (bF (bf (aH hJ (ak (xV 0) (ak (ag bo (xV 5) (xC (.int 0))) (ak (xV 6) aJ))))) (ay 7))
  (cx (bt (ag gM (xV 7) (xC .none))) (kJ 3 (ea (aG (xV 7) (aG (xV 4) (aG (xV 6) bu))))) cw)))
noncomputable def vM:SM:=(aB (eF (aH lr (ak (xV 0) aJ)))
  (aB (eF (aH oP (ak (xV 1) aJ)))
  (aB (eF (aH jj (ak (xV 2) aJ)))
  (aB (jH 3 (nN bu))
  (aB (fU (gQ qS (aG (xV 1) bu)) (dR 2 (cp (ay 4) (cp (ay 5) dQ))) jX)
  (bM (nZ 3)))))))
noncomputable def ly:FM:=bL 3 8 vM
noncomputable def vN:SM:=(aB (eF (aH lx (ak (xV 0) (ak (xV 1) (ak (xV 2) (ak (xV 3) aJ))))))
  (jc (aH lv (ak (xV 0) (ak (xV 1) (ak (xV 2) (ak (xV 3) aJ)))))))
noncomputable def oS:FM:=bL 4 4 vN
noncomputable def vO:XM PyData:=(ag bo (xV 0) (xC (.int 0)))
noncomputable def lA:SM:=(aB (cx (bt (ag jf (ag dG (xV 8) (xV 6)) (xV 4))) (aB (bF (ag dG (xV 8) (xV 6)) (ay 4))
  (bF (ea (aG (xV 6) (aG (ag dG (xV 8) (xC (.int 1))) bu))) (ay 5))) cw)
  (bF (ag cH (xV 8) (xC (.int 1))) (ay 6)))
noncomputable def vP:SM:=(aB (eF (aH lx (ak (xV 0) (ak (xV 1) (ak (xV 2) (ak (xV 3) aJ))))))
  (aB (bF (xC (.int 0)) (ay 4))
  (aB (bF (xC .none) (ay 5))
  (aB (bF (xV 2) (ay 6))
  (aB (bF (ag iZ (gu 1 [] (gP (bf (aH lv (ak (xV 0) (ak (xV 1) (ak (xV 2) (ak (xV 3) aJ))))))) (ay 0) ef vO) (fS (aG (ag cH (xV 3) (xC (.int 1))) bu))) (ay 7))
  (aB (fU (gP (xV 7)) (ay 8) lA)
  (bM (xV 5))))))))
noncomputable def rH:FM:=bL 4 9 vP
noncomputable def oU:SM:=(ux 4 (ag bo (xV 5) (xC (.int 0))) (ag cH (je 4 (ag bo (xV 5) (xC (.int 0))) (xC (.int 0))) (xC (.int 1))))
noncomputable def vQ:SM:=(aB (jH 4 (uv false))
  (aB (fU (gP (bf (aH lv (ak (xV 0) (ak (xV 1) (ak (xV 2) (ak (xV 3) aJ))))))) (ay 5) oU)
  (qd 4)))
noncomputable def rJ:FM:=bL 4 6 vQ
noncomputable def rK:XM PyData:=(qU 1 (xV 0) (xC (.int 0)))
noncomputable def jY:SM:=(aB (kH 6 (ag dG (je 5 (ag dG (ag cH (xV 9) (xV 4)) (xC (.int 1))) (xC (.int 0))) (je 5 (ag dG (xV 9) (xC (.int 1))) (xC (.int 0)))) (fun i j=>i+j))
  (cx (bt (ag jf (xV 6) (xV 7))) (aB (bF (xV 6) (ay 7))
  (bF (xV 9) (ay 8))) cw))
noncomputable def vR:SM:=(aB (eF (aH lx (ak (xV 0) (ak (xV 1) (ak (xV 2) (ak (xV 3) aJ))))))
  (aB (cx (gn (bt (bf (aH fJ (ak (xV 4) (ak (xC (.int 1)) (ak (ag cH (ag dG (xV 3) (xV 2)) (xC (.int 1))) aJ))))))) (jL "NoWidth") cw)
  (aB (jH 5 (aH rJ (ak (xV 0) (ak (xV 1) (ak (xV 2) (ak (xV 3) aJ))))))
  (aB (bF (ec nK (aG (nY 1 [5] (gQ dJ (aG (xV 2) (aG (ag cH (xV 2) (xV 4)) bu))) (ay 0) ef rK) bu)) (ay 6))
  (aB (bF (xV 6) (ay 7))
  (aB (bF (xV 2) (ay 8))
  (aB (fU (gQ dJ (aG (ag cH (xV 2) (xC (.int 1))) (aG (ag cH (ag dG (xV 3) (xV 4)) (xC (.int 2))) bu))) (ay 9) jY)
  (bM (ea (aG (xV 8) (aG (xV 7) bu)))))))))))
noncomputable def jZ:FM:=bL 5 10 vR
noncomputable def vS:SM:=(jH 1 (nN bu))
noncomputable def vT:SM:=(bF (bf (aH rF (ca 0 (ca 1 (ak (xC (.int 60)) aJ))))) (ay 2))
noncomputable def vU:SM:=(bF (ea bu) (ay 3))
noncomputable def oV:SM:=(bF (ag nE (xV 3) (ea (aG (ea (aG (bf (aH ls (ca 0 (ca 1 (ak (xC (.int 100)) aJ))))) (aG (xC (.str "last")) (aG (xC (.bool false)) bu)))) bu))) (ay 3))
noncomputable def vV:SM:=(fU (gQ ee (aG (ag cH (xC (.int 1)) (bf (aH fy (ca 0 (ca 1 (ak (xC (.int 4)) aJ)))))) bu)) (ay 4) oV)
noncomputable def vW:SM:=(bF (bf (aH fy (ca 0 (ca 1 (ak (xC (.int 100)) aJ))))) (ay 5))
noncomputable def vX:SM:=(bF (ag cH (xV 5) (bf (aH fy (ca 0 (ca 1 (ak (xC (.int 70)) aJ)))))) (ay 6))
noncomputable def rL:XM PyData:=(ag bo (xV 0) (xC (.int 0)))
noncomputable def vY:SM:=(bF (gu 1 [] (gP (bf (aH oS (ak (xV 2) (ak (xV 3) (ak (xV 5) (ak (xV 6) aJ))))))) (ay 0) ef rL) (ay 7))
noncomputable def vZ:SM:=(bF (bf (aH jZ (ak (xV 2) (ak (xV 3) (ak (xV 5) (ak (xV 6) (ak (xC (.int 1)) aJ))))))) (dR 2 (cp (ay 8) (cp (ay 9) dQ))))
noncomputable def rM:XM PyData:=(qp gT 1 (xV 0))
noncomputable def wa:SM:=(cx (kC (bt (ag (aT true) (xV 9) (qp gT 7 (xV 8)))) (bt (ag (aT true) (xV 9) (ec jb (aG (ag iZ (fS (aG (xC (.int 0)) bu)) (gu 1 [7] (gP (xV 7)) (ay 0) ef rM)) bu))))) (bM (xC (.bool false))) cw)
noncomputable def wb:SM:=(bF (bf (aH ly (ak (xV 2) (ak (xV 3) (ak (xV 5) aJ))))) (ay 10))
noncomputable def lB:SM:=(cx (kC (bt (ag (aT true) (ag (aT false) (xV 7) (fS bu)) (nG (ag iY (xV 10) (xC .none)) (ag jf (ag bo (xV 10) (xC (.int 0))) (xV 6))))) (tZ (bt (ag (aT true) (xV 7) (fS bu))) (bt (ag (aT true) (xV 10) (ag bo (bf (aH oS (ak (xV 2) (ak (xV 3) (ak (xV 5) (ak (xV 6) aJ)))))) (xC (.int 0))))))) (bM (xC (.bool false))) cw)
noncomputable def wc:SM:=(bF (xC (.int 0)) (ay 11))
noncomputable def ka:SM:=(cx (bt (ag jP (xV 12) (ag cH (ag dG (xV 6) (xV 5)) (xC (.int 1))))) (aB (bF (ag bo (bf (aH jZ (ak (xV 2) (ak (xV 3) (ak (xV 5) (ak (xV 6) (ak (xV 12) aJ))))))) (xC (.int 1))) (ay 13))
  (aB (cx (bt (ag jO (xV 13) (xV 11))) (bM (xC (.bool false))) cw)
  (bF (xV 13) (ay 11)))) cw)
noncomputable def we:SM:=(fU (gP (ec oy (aG (fS (aG (xC (.int 1)) (aG (xC (.int 2)) (aG (xC (.int 5)) (aG (xC (.int 20)) (aG (ag cH (ag dG (xV 6) (xV 5)) (xC (.int 1))) bu)))))) bu))) (ay 12) ka)
noncomputable def wh:SM:=(bF (bf (aH rH (ak (xV 2) (ak (xV 3) (ak (xV 5) (ak (xV 6) aJ)))))) (ay 14))
noncomputable def rN:SM:=(cx (bt (ag iY (xV 14) (xC .none))) (bM (ag (aT false) (ec oz (aG (xV 7) bu)) (ag cH (ag dG (xV 6) (xV 5)) (xC (.int 1))))) cw)
noncomputable def wj:SM:=(bF (bf (aH ly (ak (xV 2) (ak (xV 3) (ak (ag bo (xV 14) (xC (.int 0))) aJ))))) (ay 10))
noncomputable def rO:SM:=(bM (eR (nG (ag iY (xV 10) (xC .none)) (ag jf (ag bo (xV 10) (xC (.int 0))) (ag bo (xV 14) (xC (.int 1))))) (oB (fun i j=>decide (i<=j)) (xV 5) (ag bo (xV 14) (xC (.int 0))) (ag bo (xV 14) (xC (.int 1))) (xV 6))))
noncomputable def wm:SM:=(aB vS
  (aB vT
  (aB vU
  (aB vV
  (aB vW
  (aB vX
  (aB vY
  (aB vZ
  (aB wa
  (aB wb
  (aB lB
  (aB wc
  (aB we
  (aB wh
  (aB rN
  (aB wj
  rO))))))))))))))))
noncomputable def BD:FM:=bL 1 15 wm
end K3
namespace K3
open PySem PySem.Spec L2 L2.L3 PyProof.Rows
noncomputable def top(i:Nat):Stmt:=PySem.Challenge.pw_duehall_k39_whole_windows_of_one.main.body.getD i (.Pass ⟨0,0,0,0⟩)
noncomputable abbrev lC:Stmt:=top 16
noncomputable abbrev lD:Stmt:=top 17
noncomputable abbrev lE:Stmt:=top 18
noncomputable abbrev lF:Stmt:=top 19
noncomputable abbrev lG:Stmt:=top 20
noncomputable abbrev lH:Stmt:=top 21
noncomputable abbrev lI:Stmt:=top 22
noncomputable abbrev lJ:Stmt:=top 23
noncomputable abbrev lK:Stmt:=top 24
noncomputable abbrev lL:Stmt:=top 25
noncomputable abbrev lM:Stmt:=top 26
noncomputable abbrev lN:Stmt:=top 27
noncomputable abbrev lO:Stmt:=top 28
noncomputable abbrev lP:Stmt:=top 29
noncomputable abbrev lQ:Stmt:=top 30
noncomputable abbrev lT:Stmt:=top 31
noncomputable abbrev lU:Stmt:=top 34
noncomputable abbrev lV:Stmt:=top 35
noncomputable abbrev lW:Stmt:=top 36
noncomputable abbrev lZ:Stmt:=top 37
noncomputable abbrev me:Stmt:=top 38
noncomputable abbrev mf:Stmt:=top 40
noncomputable abbrev mh:Stmt:=top 41
noncomputable abbrev mi:Stmt:=top 42
noncomputable abbrev mj:Stmt:=top 43
noncomputable abbrev ml:Stmt:=top 44
noncomputable abbrev mq:Stmt:=top 46
noncomputable abbrev mu:Stmt:=top 47
noncomputable abbrev mv:Stmt:=top 48
noncomputable abbrev mw:Stmt:=top 49
noncomputable abbrev mx:Stmt:=top 50
noncomputable abbrev my:Stmt:=top 51
noncomputable abbrev mz:Stmt:=top 52
noncomputable abbrev mB:Stmt:=top 54
noncomputable abbrev mC:Stmt:=top 55
noncomputable abbrev mD:Stmt:=top 56
noncomputable abbrev mE:Stmt:=top 57
noncomputable abbrev mF:Stmt:=top 58
noncomputable abbrev mG:Stmt:=top 60
noncomputable abbrev jl:Stmt:=top 62
theorem Nc:ae ["thing","least","most"] ["thing","least","most"] (bE lC):=bV
theorem Nd:ae ["thing","length"] ["thing","length"] (bE lD):=bV
theorem Nf:ae ["thing"] ["thing"] (bE lE):=bV
theorem Ng:ae ["thing"] ["thing"] (bE lF):=bV
theorem rP:ae ["thing","earliest","shift"] ["thing"] (bE lG):=bV
theorem Nh:ae ["thing"] ["thing"] (bE lH):=bV
theorem Ni:ae ["thing","word","length"] ["thing","word","length"] (bE lI):=bV
theorem Nj:ae ["thing"] ["thing"] (bE lJ):=bV
theorem Nk:ae ["thing"] ["thing"] (bE lK):=bV
theorem Nl:ae ["thing"] ["thing"] (bE lL):=bV
theorem Nm:ae ["thing"] ["thing"] (bE lM):=bV
theorem Nn:ae ["thing"] ["thing"] (bE lN):=bV
theorem No:ae ["thing"] ["thing"] (bE lO):=bV
theorem Np:ae ["thing"] ["thing"] (bE lP):=bV
theorem Nq:ae ["first","last"] ["first","last"] (bE lQ):=bV
theorem Nr:ae ["thing"] ["thing"] (bE lT):=bV
theorem rQ:ae ["zone","moment","ahead","shift"] ["zone","moment"] (bE lU):=bV
theorem rR:ae ["zone","starts","ends","aheads"] ["zone"] (bE lV):=bV
theorem Nt:ae ["moment","end"] ["moment","end"] (bE lW):=bV
theorem BE:ae ["zone","hours","reached"] ["zone","hours"] (bE lZ):=bV
theorem Nu:ae ["zone","moment"] ["zone","moment"] (bE me):=bV
theorem Nv:ae ["zone","hour"] ["zone","hour"] (bE mf):=bV
theorem BF:ae ["zone","hour","count","day"] ["zone","hour","count"] (bE mh):=bV
theorem Nw:ae ["zone","plan","count"] ["zone","plan","count"] (bE mi):=bV
theorem BG:ae ["zone","plan","moment","last_day"] ["zone","plan","moment"] (bE mj):=bV
theorem mH:ae ["zone","plan","first","last","found","count","moment"] ["zone","plan","first","last"] (bE ml):=bV
theorem mI:ae ["zone","deeds","first","last","found","number","deed","count","moment"] ["zone","deeds","first","last"] (bE mq):=bV
theorem Nx:ae ["zone","deeds","first","last"] ["zone","deeds","first","last"] (bE mu):=bV
theorem Ny:ae ["zone","deeds","first","last"] ["zone","deeds","first","last"] (bE mv):=bV
theorem iH:ae ["zone","deeds","first","last","longest","found","start","ends","end"] ["zone","deeds","first","last"] (bE mw):=bV
theorem wn:ae ["zone","deeds","first","last","many","row"] ["zone","deeds","first","last"] (bE mx):=bV
theorem iI:ae ["zone","deeds","first","last","wide","many","within","most","found","start"] ["zone","deeds","first","last","wide"] (bE my):=bV
theorem mJ:ae ["zone","deeds","moment","found","number","deed","count","later"] ["zone","deeds","moment"] (bE mz):=bV
theorem Nz:ae ["_law_script","_law_k"] ["_law_script","_law_k"] (bE mB):=bV
theorem BH:ae ["_law_script","_law_k","_law_many","_law_drawn"] ["_law_script","_law_k","_law_many"] (bE mC):=bV
theorem NA:ae ["_law_script","_law_town","_law_many"] ["_law_script","_law_town","_law_many"] (bE mD):=bV
theorem NB:ae ["_law_script","_law_town","_law_some"] ["_law_script","_law_town","_law_some"] (bE mE):=bV
theorem mK:ae ["_law_script","_law_town","_law_wide","_law_made","_law_at","_law_k"] ["_law_script","_law_town","_law_wide"] (bE mF):=bV
theorem wo:ae ["_law_script","_law_town","_law_wide","_law_kind","_law_step"] ["_law_script","_law_town","_law_wide"] (bE mG):=bV
theorem dU:ae ["_law_script","_law_town","_law_zone_here","_law_deeds","_law_k","_law_first","_law_last","_law_some","_law_moment","_law_many","_law_row","_law_before","_law_wide","_law_here","_law_stretch"] ["_law_script"] (bE jl):=bV
structure Tx (K:Frag) (mg:Str->Option Value):Prop where
 d00:∃g fd,FD K mg "is_whole" lC ["thing","least","most"] g fd
 d01:∃g fd,FD K mg "is_tuple_of" lD ["thing","length"] g fd
 d02:∃g fd,FD K mg "is_ahead" lE ["thing"] g fd
 d03:∃g fd,FD K mg "is_moment" lF ["thing"] g fd
 d04:∃g fd,FD K mg "are_shifts" lG ["thing"] g fd
 d05:∃g fd,FD K mg "is_zone" lH ["thing"] g fd
 d06:∃g fd,FD K mg "has_word" lI ["thing","word","length"] g fd
 d07:∃g fd,FD K mg "is_plan" lJ ["thing"] g fd
 d08:∃g fd,FD K mg "is_late" lK ["thing"] g fd
 d09:∃g fd,FD K mg "is_deed" lL ["thing"] g fd
 d0a:∃g fd,FD K mg "are_deeds" lM ["thing"] g fd
 d0b:∃g fd,FD K mg "check_zone" lN ["thing"] g fd
 d0c:∃g fd,FD K mg "check_plan" lO ["thing"] g fd
 d0d:∃g fd,FD K mg "check_moment" lP ["thing"] g fd
 d0e:∃g fd,FD K mg "check_stretch" lQ ["first","last"] g fd
 d0f:∃g fd,FD K mg "check_deeds" lT ["thing"] g fd
 d0g:∃g fd,FD K mg "shown" lU ["zone","moment"] g fd
 d0h:∃g fd,FD K mg "stretches" lV ["zone"] g fd
 d0i:∃g fd,FD K mg "is_ahead_of" lW ["moment","end"] g fd
 d0j:∃g fd,FD K mg "first_showing" lZ ["zone","hours"] g fd
 d0k:∃g fd,FD K mg "furthest_shown" me ["zone","moment"] g fd
 d0l:∃g fd,FD K mg "first_day" mf ["zone","hour"] g fd
 d0m:∃g fd,FD K mg "daily_time" mh ["zone","hour","count"] g fd
 d0n:∃g fd,FD K mg "time_of" mi ["zone","plan","count"] g fd
 d0o:∃g fd,FD K mg "times_by" mj ["zone","plan","moment"] g fd
 d0p:∃g fd,FD K mg "dues" ml ["zone","plan","first","last"] g fd
 d0q:∃g fd,FD K mg "rows_between" mq ["zone","deeds","first","last"] g fd
 d0r:∃g fd,FD K mg "check_calendar" mu ["zone","deeds","first","last"] g fd
 d0s:∃g fd,FD K mg "calendar" mv ["zone","deeds","first","last"] g fd
 d0t:∃g fd,FD K mg "idle_stretch" mw ["zone","deeds","first","last"] g fd
 d0u:∃g fd,FD K mg "many_at" mx ["zone","deeds","first","last"] g fd
 d0v:∃g fd,FD K mg "busiest" my ["zone","deeds","first","last","wide"] g fd
 d0w:∃g fd,FD K mg "next_due" mz ["zone","deeds","moment"] g fd
 d0x:∃g fd,FD K mg "_law_cell_at" mB ["_law_script","_law_k"] g fd
 d0y:∃g fd,FD K mg "_law_mixed" mC ["_law_script","_law_k","_law_many"] g fd
 d0z:∃g fd,FD K mg "_law_draw" mD ["_law_script","_law_town","_law_many"] g fd
 d10:∃g fd,FD K mg "_law_pick" mE ["_law_script","_law_town","_law_some"] g fd
 d11:∃g fd,FD K mg "_law_zone" mF ["_law_script","_law_town","_law_wide"] g fd
 d12:∃g fd,FD K mg "_law_plan" mG ["_law_script","_law_town","_law_wide"] g fd
 d13:∃t,mg "LAST_MOMENT" = some (.int (9999) t)
 d14:∃t,mg "LAST_HOUR" = some (.int (23) t)
 d15:∃t,mg "LEAST_AHEAD" = some (.int (-12) t)
 d16:∃t,mg "MOST_AHEAD" = some (.int (14) t)
 d17:∃t,mg "MOST_SHIFTS" = some (.int (6) t)
 d18:∃t,mg "MOST_STEP" = some (.int (999) t)
 d19:∃t,mg "MOST_DEEDS" = some (.int (6) t)
 d1a:∃t,mg "MOST_WITHIN" = some (.int (999) t)
 d1b:∃t,mg "DAY_HOURS" = some (.int (24) t)
 d1c:mg "all" = none
 d1d:mg "bool" = none
 d1e:mg "enumerate" = none
 d1f:mg "int" = none
 d1g:mg "isinstance" = none
 d1h:mg "len" = none
 d1i:mg "list" = none
 d1j:mg "max" = none
 d1k:mg "min" = none
 d1l:mg "range" = none
 d1m:mg "set" = none
 d1n:mg "sorted" = none
 d1o:mg "str" = none
 d1p:mg "sum" = none
 d1q:mg "tuple" = none
 d1r:mg "zip" = none
 xt0:∃D,XT K mg BC D
theorem NC:bootBuiltins "int" = some (.type "int"):=by decide +kernel
theorem BI:bootBuiltins "bool" = some (.type "bool"):=by decide +kernel
theorem BJ:bootBuiltins "str" = some (.type "str"):=by decide +kernel
theorem wq:bootBuiltins "tuple" = some (.type "tuple"):=by decide +kernel
theorem Pu:bootBuiltins "list" = some (.type "list"):=by decide +kernel
theorem oW:bootBuiltins "max" = some (.builtin "max"):=by decide +kernel
theorem Pw:bootBuiltins "divmod" = some (.builtin "divmod"):=by decide +kernel
theorem ND:bootBuiltins "all" = some (.builtin "all"):=by decide +kernel
theorem Px:bootBuiltins "any" = some (.builtin "any"):=by decide +kernel
theorem NE:bootBuiltins "sum" = some (.builtin "sum"):=by decide +kernel
theorem Py:bootBuiltins "min" = some (.builtin "min"):=by decide +kernel
theorem NF:bootBuiltins "sorted" = some (.builtin "sorted"):=by decide +kernel
theorem kb{X:Cx}{F:Fx}(a:GF X.mg F):jz X F gw:=⟨a,fun _ _ _ _ _ _ _ _ _ _ z=>z.elim⟩
end K3
namespace K3
open PySem PySem.Spec L2 L2.L3 PyProof.Rows
local macro_rules | `(tactic| walk_at "z")=>`(tactic| first|rfl|exact .inl rfl|exact .inr rfl|assumption|exact fun _=>rfl)
section
variable(P:Program)(w:World){K:Frag}{mg:Str->Option Value}(base:Heap)
theorem mL{g:Addr}{fd:FuncData}(T:Tx K mg)(D:FD K mg "is_whole" lC ["thing","least","most"] g fd):aA P w K mg base (bD P w) 1 g fd ["thing","least","most"] (bJ K mg fJ):=by
 refine bU D.fn Nc (by decide) ?_;intro b A a s H E F c d e;unfold oC;refine aN ?_;refine bN ?_
 ·exact(fg (jd (iS rfl T.d1g (fv 0) (iO rfl T.d1f NC rfl))) (fg (Kh (jd (iS rfl T.d1g (fv 0) (iO rfl T.d1d BI rfl)))) (fE (KN (fv 1) (fv 0) (fv 2)))))
theorem rS{g:Addr}{fd:FuncData}(T:Tx K mg)(D:FD K mg "is_tuple_of" lD ["thing","length"] g fd):aA P w K mg base (bD P w) 1 g fd ["thing","length"] (bJ K mg jh):=by
 refine bU D.fn Nd (by decide) ?_;intro b A a s H E F d c e;unfold rg;refine aN ?_;refine bN ?_
 ·exact(fg (jd (iS rfl T.d1g (fv 0) (iO rfl T.d1q wq rfl))) (fE (kQ c.units (fi pY (fO kj pT rfl T.d1h PySem.boot_len (aO (fv 0) bA))) (fv 1))))
theorem NG{g:Addr}{fd:FuncData}(T:Tx K mg)(D:FD K mg "shown" lU ["zone","moment"] g fd):aA P w K mg base (bD P w) 1 g fd ["zone","moment"] (bJ K mg rl):=by
 refine bU D.fn rQ (by decide) ?_;intro b A a s H E F c d e;unfold vb;refine aE ?_ ?_
 ·refine bQ (i:=2) ?_ ?_ ?_ ?_ ?_ ?_<;>try walk_at "z"
  ·exact rQ.nd
  ·exact(bv (fv 0) (af aq))
 refine aE ?_ ?_
 ·refine gq ?_ ?_ ?_ ?_ ?_ ?_<;>try walk_at "z"
  ·exact PassesOwn.leaving
  ·exact(nL (bv (fv 0) (af aq)))
  ·exact(cF 3 rQ.nd)
  ·unfold rh;refine aN ?_;refine cC ?_ ?_ ?_
   ·exact(kP (bv (fv 3) (af aq)) (fv 1))
   ·refine aN ?_;refine bQ (i:=2) ?_ ?_ ?_ ?_ ?_ ?_<;>try walk_at "z"
    ·exact rQ.nd
    ·exact(bv (fv 3) (af aq))
   ·exact cB
 refine aN ?_;refine bN ?_
 ·exact(cN (fv 1) (fv 2))
theorem BK{g:Addr}{fd:FuncData}(T:Tx K mg)(D:FD K mg "stretches" lV ["zone"] g fd):aA P w K mg base (bD P w) 1 g fd ["zone"] (bJ K mg oD):=by
 refine bU D.fn rR (by decide) ?_;intro c A a s H E F e f b;unfold ve;refine aE ?_ ?_
 ·refine bQ (i:=1) ?_ ?_ ?_ ?_ ?_ ?_<;>try walk_at "z"
  ·exact rR.nd
  ·exact(nW (gp (aO (af aq) bA)) (jK b.1 (ai.of (own:=["shift"]) (capN:=[]) (caps:=[])) rfl rfl (nL (bv (fv 0) (af aq))) (fun _ _ _ _ _ _ d=>⟨(cF 0 (show((["shift"]:List Str)++([]:List Str)).Nodup from by decide +kernel)),jJ,(bv (fv 0) (af aq))⟩)))
 refine aE ?_ ?_
 ·refine bQ (i:=2) ?_ ?_ ?_ ?_ ?_ ?_<;>try walk_at "z"
  ·exact rR.nd
  ·exact(nW (KF (Jv (k:=1) (fv 1))) (gp (aO (af iq) bA)))
 refine aE ?_ ?_
 ·refine bQ (i:=3) ?_ ?_ ?_ ?_ ?_ ?_<;>try walk_at "z"
  ·exact rR.nd
  ·exact(nW (gp (aO (bv (fv 0) (af aq)) bA)) (jK b.1 (ai.of (own:=["shift"]) (capN:=[]) (caps:=[])) rfl rfl (nL (bv (fv 0) (af aq))) (fun _ _ _ _ _ _ d=>⟨(cF 0 (show((["shift"]:List Str)++([]:List Str)).Nodup from by decide +kernel)),jJ,(bv (fv 0) (af aq))⟩)))
 refine aN ?_;refine bN ?_
 ·exact(KE (Ju rfl rfl T.d1i rfl T.d1r (aO (fv 1) (aO (fv 2) (aO (fv 3) bA)))))
theorem BL{g:Addr}{fd:FuncData}(T:Tx K mg)(D:FD K mg "is_ahead_of" lW ["moment","end"] g fd):aA P w K mg base (bD P w) 1 g fd ["moment","end"] (bJ K mg oE):=by
 refine bU D.fn Nt (by decide) ?_;intro b A a s H E F c d e;unfold vf;refine aN ?_;refine bN ?_
 ·exact(pW (uA (fv 1) (af iq)) (fE (KL (fv 0) (fv 1))))
theorem NH{g:Addr}{fd:FuncData}(T:Tx K mg)(D:FD K mg "_law_cell_at" mB ["_law_script","_law_k"] g fd):aA P w K mg base (bD P w) 1 g fd ["_law_script","_law_k"] (bJ K mg lh):=by
 refine bU D.fn Nz (by decide) ?_;intro b A a s H E F d c e;unfold oF;refine aE ?_ ?_
 ·refine cC ?_ ?_ ?_
  ·exact(qt (fv 1) (zn (yP rfl T.d1h (pv 0))))
  ·refine aN ?_;refine bN ?_
   ·exact(zp (yR (pv 0) (fv 1) (by intro _ _;rfl)))
  ·exact cB
 refine aE ?_ ?_
 ·refine cC ?_ ?_ ?_
  ·exact(Ko (Jz c.units (pv 0)))
  ·refine aN ?_;refine bN ?_
   ·exact(af aq)
  ·exact cB
 refine aN ?_;refine bN ?_
 ·exact(cN (nU (zp (yR (pv 0) (nV (fv 1) (zn (yP rfl T.d1h (pv 0)))) (by intro _ _;rfl))) (af aq)) (fv 1))
theorem BM{g:Addr}{fd:FuncData}(T:Tx K mg)(D:FD K mg "is_ahead" lE ["thing"] g fd):aA P w K mg base (bD P w) 2 g fd ["thing"] (bJ K mg oG):=by
 obtain⟨l,m,f⟩:=T.d00;have h:=mL P w base T f;obtain⟨c,a⟩:=T.d15;obtain⟨d,b⟩:=T.d16;refine bU D.fn Nf (by decide) ?_;intro i A e s H E F n j k;unfold vg;refine aN ?_;refine jI ?_
 ·exact(aL k h f j (al (fv 0) (al (af (fR rfl a)) (al (af (fR rfl b)) aK))))
theorem BN{g:Addr}{fd:FuncData}(T:Tx K mg)(D:FD K mg "is_moment" lF ["thing"] g fd):aA P w K mg base (bD P w) 2 g fd ["thing"] (bJ K mg li):=by
 obtain⟨j,k,d⟩:=T.d00;have e:=mL P w base T d;obtain⟨b,a⟩:=T.d13;refine bU D.fn Ng (by decide) ?_;intro f A c s H E F l h i;unfold vh;refine aN ?_;refine jI ?_
 ·exact(aL i e d h (al (fv 0) (al (af aq) (al (af (fR rfl a)) aK))))
theorem BO{g:Addr}{fd:FuncData}(T:Tx K mg)(D:FD K mg "has_word" lI ["thing","word","length"] g fd):aA P w K mg base (bD P w) 2 g fd ["thing","word","length"] (bJ K mg ji):=by
 obtain⟨h,i,b⟩:=T.d01;have d:=rS P w base T b;refine bU D.fn Ni (by decide) ?_;intro e A a s H E F j c f;unfold rm;refine aN ?_;refine bN ?_
 ·exact(fg (bg (aL f d b c (al (fv 0) (al (fv 2) aK)))) (fg (jd (iS rfl T.d1g (bv (fv 0) (af aq)) (iO rfl T.d1o BJ rfl))) (fE (kQ c.units (bv (fv 0) (af aq)) (fv 1)))))
theorem NJ{g:Addr}{fd:FuncData}(T:Tx K mg)(D:FD K mg "first_showing" lZ ["zone","hours"] g fd):aA P w K mg base (bD P w) 2 g fd ["zone","hours"] (bJ K mg ro):=by
 obtain⟨l,m,b⟩:=T.d0h;have f:=BK P w base T b;obtain⟨g1,f1,c⟩:=T.d0i;have h:=BL P w base T c;refine bU D.fn BE (by decide) ?_;intro j A a s H E F o d e;unfold vk;refine aE ?_ ?_
 ·refine Kw (i:=2) (own:=["start","end","ahead"]) (capN:=["hours"]) (caps:=[1]) ?_ ?_ ?_ ?_ ?_ ?_ ?_ ?_ ?_ ?_ ?_ ?_<;>try walk_at "z"
  ·exact BE.nd
  ·exact e.1
  ·exact(ai.of (own:=["start","end","ahead"]) (capN:=["hours"]) (caps:=[1]))
  ·exact(iB (bg (aL e f b d (al (fv 0) aK))))
  ·exact(fun _ _ _ _ _ _ k=>⟨(jG (n:=3) rfl (eE (cF 0 (show((["start","end","ahead"]:List Str)++(["hours"]:List Str)).Nodup from by decide +kernel)) (eE (cF 1 (show((["start","end","ahead"]:List Str)++(["hours"]:List Str)).Nodup from by decide +kernel)) (eE (cF 2 (show((["start","end","ahead"]:List Str)++(["hours"]:List Str)).Nodup from by decide +kernel)) jF)))),(zH (eQ (eO (bg (aL (kb k) h c d (al (fi ub (fO (sK rfl) tS rfl T.d1j oW (aO (fv 0) (aO (dI (fv 3) (fv 2)) bA)))) (al (fv 1) aK))))))),(fi ub (fO (sK rfl) tS rfl T.d1j oW (aO (fv 0) (aO (dI (fv 3) (fv 2)) bA))))⟩)
 refine aN ?_;refine bN ?_
 ·exact(bv (fv 2) (af aq))
theorem NK{g:Addr}{fd:FuncData}(T:Tx K mg)(D:FD K mg "furthest_shown" me ["zone","moment"] g fd):aA P w K mg base (bD P w) 2 g fd ["zone","moment"] (bJ K mg rp):=by
 obtain⟨k,l,b⟩:=T.d0h;have f:=BK P w base T b;obtain⟨g1,f1,c⟩:=T.d0i;have h:=BL P w base T c;refine bU D.fn Nu (by decide) ?_;intro i A a s H E F m d e;unfold vm;refine aN ?_;refine bN ?_
 ·exact(fi zm (fO (za rfl) zc rfl T.d1j oW (aO (jK e.1 (ai.of (own:=["start","end","ahead"]) (capN:=["moment"]) (caps:=[1])) rfl rfl (iB (bg (aL e f b d (al (fv 0) aK)))) (fun _ _ _ _ _ _ j=>⟨(jG (n:=3) rfl (eE (cF 0 (show((["start","end","ahead"]:List Str)++(["moment"]:List Str)).Nodup from by decide +kernel)) (eE (cF 1 (show((["start","end","ahead"]:List Str)++(["moment"]:List Str)).Nodup from by decide +kernel)) (eE (cF 2 (show((["start","end","ahead"]:List Str)++(["moment"]:List Str)).Nodup from by decide +kernel)) jF)))),(zH (kP (fv 0) (fv 3))),(cN (ua (eQ (eO (bg (aL (kb j) h c d (al (fv 3) (al (fv 1) aK)))))) (fv 3) (dI (fv 1) (af aq))) (fv 2))⟩)) bA)))
theorem BP{g:Addr}{fd:FuncData}(T:Tx K mg)(D:FD K mg "first_day" mf ["zone","hour"] g fd):aA P w K mg base (bD P w) 2 g fd ["zone","hour"] (bJ K mg oI):=by
 obtain⟨j,k,d⟩:=T.d0g;have e:=NG P w base T d;obtain⟨b,a⟩:=T.d1b;refine bU D.fn Nv (by decide) ?_;intro f A c s H E F l h i;unfold vn;refine aN ?_;refine bN ?_
 ·exact(nF (uz (dI (fv 1) (bg (aL i e d h (al (fv 0) (al (af aq) aK))))) (af (fR rfl a))))
theorem NL{g:Addr}{fd:FuncData}(T:Tx K mg)(D:FD K mg "_law_mixed" mC ["_law_script","_law_k","_law_many"] g fd):aA P w K mg base (bD P w) 2 g fd ["_law_script","_law_k","_law_many"] (bJ K mg rq):=by
 obtain⟨h,j,b⟩:=T.d0x;have c:=NH P w base T b;refine bU D.fn BH (by decide) ?_;intro d A a s H E F k e f;unfold vo;refine aE ?_ ?_
 ·refine bQ (i:=3) ?_ ?_ ?_ ?_ ?_ ?_<;>try walk_at "z"
  ·exact BH.nd
  ·exact(nV (cN (cN (nU (bg (aL f c b e (cq (pv 0) (al (fv 1) aK)))) (af aq)) (nU (af aq) (fv 1))) (af aq)) (af aq))
 refine aN ?_;refine bN ?_
 ·exact(nV (nV (nV (KQ (fv 3) (af aq)) (af aq)) (af aq)) (fv 2))
theorem NM{g:Addr}{fd:FuncData}(T:Tx K mg)(D:FD K mg "are_shifts" lG ["thing"] g fd):aA P w K mg base (bD P w) 3 g fd ["thing"] (bJ K mg ry):=by
 obtain⟨p,q,j⟩:=T.d00;have l:=mL P w base T j;obtain⟨g1,f1,k⟩:=T.d01;have m:=rS P w base T k;obtain⟨g2,f2,D2⟩:=T.d02;have n:=BM P w base T D2;obtain⟨c,a⟩:=T.d13;obtain⟨d,b⟩:=T.d17;refine bU D.fn rP (by decide) ?_;intro o A h s H E F r e f;unfold vp;refine aE ?_ ?_
 ·refine cC ?_ ?_ ?_
  ·exact(jE (nI (gO (eQ (eO (jd (iS rfl T.d1g (fv 0) (iO rfl T.d1q wq rfl)))))) (nH (qu (fi pY (fO kj pT rfl T.d1h PySem.boot_len (aO (fv 0) bA))) (af (fR rfl b))))))
  ·refine aN ?_;refine bN ?_
   ·exact(af ip)
  ·exact cB
 refine aE ?_ ?_
 ·refine bQ (i:=1) ?_ ?_ ?_ ?_ ?_ ?_<;>try walk_at "z"
  ·exact rP.nd
  ·exact(af aq)
 refine aE ?_ ?_
 ·refine gq ?_ ?_ ?_ ?_ ?_ ?_<;>try walk_at "z"
  ·exact PassesOwn.leaving
  ·exact(nL (fv 0))
  ·exact(cF 2 rP.nd)
  ·unfold oJ;refine aE ?_ ?_
   ·refine cC ?_ ?_ ?_
    ·exact(jE (nI (gO (eQ (eO (bg (aL f m k e (al (fv 2) (al (af aq) aK))))))) (nH (gO (eQ (eO (bg (aL f n D2 e (al (bv (fv 2) (af aq)) aK)))))))))
    ·refine aN ?_;refine bN ?_
     ·exact(af ip)
    ·exact cB
   refine aE ?_ ?_
   ·refine cC ?_ ?_ ?_
    ·exact(gO (eQ (eO (bg (aL f l j e (al (bv (fv 2) (af aq)) (al (fv 1) (al (af (fR rfl a)) aK))))))))
    ·refine aN ?_;refine bN ?_
     ·exact(af ip)
    ·exact cB
   refine aN ?_;refine bQ (i:=1) ?_ ?_ ?_ ?_ ?_ ?_<;>try walk_at "z"
   ·exact rP.nd
   ·exact(cN (bv (fv 2) (af aq)) (af aq))
 refine aN ?_;refine bN ?_
 ·exact(af ip)
theorem BQ{g:Addr}{fd:FuncData}(T:Tx K mg)(D:FD K mg "is_plan" lJ ["thing"] g fd):aA P w K mg base (bD P w) 3 g fd ["thing"] (bJ K mg jU):=by
 obtain⟨o,p,h⟩:=T.d06;have i:=BO P w base T h;obtain⟨g1,f1,j⟩:=T.d03;have l:=BN P w base T j;obtain⟨g2,f2,D2⟩:=T.d00;have m:=mL P w base T D2;obtain⟨c,a⟩:=T.d14;obtain⟨d,b⟩:=T.d18;refine bU D.fn Nj (by decide) ?_;intro n A k s H E F q e f;unfold oK;refine aE ?_ ?_
 ·refine cC ?_ ?_ ?_
  ·exact(eQ (eO (bg (aL f i h e (al (fv 0) (al (af eW) (al (af aq) aK)))))))
  ·refine aN ?_;refine jI ?_
   ·exact(aL f l j e (al (bv (fv 0) (af aq)) aK))
  ·exact cB
 refine aE ?_ ?_
 ·refine cC ?_ ?_ ?_
  ·exact(eQ (eO (bg (aL f i h e (al (fv 0) (al (af eW) (al (af aq) aK)))))))
  ·refine aN ?_;refine bN ?_
   ·exact(fg (bg (aL f l j e (al (bv (fv 0) (af aq)) aK))) (fE (bg (aL f m D2 e (al (bv (fv 0) (af aq)) (al (af aq) (al (af (fR rfl b)) aK)))))))
  ·exact cB
 refine aN ?_;refine bN ?_
 ·exact(fg (bg (aL f i h e (al (fv 0) (al (af eW) (al (af aq) aK))))) (fE (bg (aL f m D2 e (al (bv (fv 0) (af aq)) (al (af aq) (al (af (fR rfl a)) aK)))))))
theorem NN{g:Addr}{fd:FuncData}(T:Tx K mg)(D:FD K mg "is_late" lK ["thing"] g fd):aA P w K mg base (bD P w) 3 g fd ["thing"] (bJ K mg lm):=by
 obtain⟨l,m,e⟩:=T.d06;have i:=BO P w base T e;obtain⟨g1,f1,f⟩:=T.d00;have j:=mL P w base T f;obtain⟨b,a⟩:=T.d1a;refine bU D.fn Nk (by decide) ?_;intro k A d s H E F n c h;unfold oM;refine aE ?_ ?_
 ·refine cC ?_ ?_ ?_
  ·exact(eQ (eO (jd (iS rfl T.d1g (fv 0) (iO rfl T.d1o BJ rfl)))))
  ·refine aN ?_;refine bN ?_
   ·exact(pW (kQ c.units (fv 0) (af eW)) (fE (kQ c.units (fv 0) (af eW))))
  ·exact cB
 refine aN ?_;refine bN ?_
 ·exact(fg (bg (aL h i e c (al (fv 0) (al (af eW) (al (af aq) aK))))) (fE (bg (aL h j f c (al (bv (fv 0) (af aq)) (al (af aq) (al (af (fR rfl a)) aK)))))))
theorem wr{g:Addr}{fd:FuncData}(T:Tx K mg)(D:FD K mg "check_moment" lP ["thing"] g fd):aA P w K mg base (bD P w) 3 g fd ["thing"] (bJ K mg jj):=by
 obtain⟨m,n,e⟩:=T.d03;have i:=BN P w base T e;obtain⟨j,k⟩:=T.xt0;obtain⟨b,a,_⟩:=k.at_ (c:="NoMoment") (by decide +kernel);refine bU D.fn Np (by decide) ?_;intro l A d s H E F o f h;unfold vr;refine aN ?_;refine cC ?_ ?_ ?_
 ·exact(gO (eQ (eO (bg (aL h i e f (al (fv 0) aK))))))
 ·refine aN ?_;exact(kM h f.hd rfl a)
 ·exact cB
theorem NO{g:Addr}{fd:FuncData}(T:Tx K mg)(D:FD K mg "daily_time" mh ["zone","hour","count"] g fd):aA P w K mg base (bD P w) 3 g fd ["zone","hour","count"] (bJ K mg rz):=by
 obtain⟨m,n,d⟩:=T.d0j;have j:=NJ P w base T d;obtain⟨g1,f1,e⟩:=T.d0l;have k:=BP P w base T e;obtain⟨b,a⟩:=T.d1b;refine bU D.fn BF (by decide) ?_;intro l A c s H E F o f h;unfold vt;refine aE ?_ ?_
 ·refine bQ (i:=3) ?_ ?_ ?_ ?_ ?_ ?_<;>try walk_at "z"
  ·exact BF.nd
  ·exact(cN (bg (aL h k e f (al (fv 0) (al (fv 1) aK)))) (fv 2))
 refine aN ?_;refine jI ?_
 ·exact(aL h j d f (al (fv 0) (al (cN (nU (fv 3) (af (fR rfl a))) (fv 1)) aK)))
theorem NP{g:Addr}{fd:FuncData}(T:Tx K mg)(D:FD K mg "times_by" mj ["zone","plan","moment"] g fd):aA P w K mg base (bD P w) 3 g fd ["zone","plan","moment"] (bJ K mg jk):=by
 obtain⟨m,n,e⟩:=T.d0k;have j:=NK P w base T e;obtain⟨g1,f1,f⟩:=T.d0l;have k:=BP P w base T f;obtain⟨b,a⟩:=T.d1b;refine bU D.fn BG (by decide) ?_;intro l A d s H E F o c h;unfold jV;refine aE ?_ ?_
 ·refine cC ?_ ?_ ?_
  ·exact(qt (fv 2) (af aq))
  ·refine aN ?_;refine bN ?_
   ·exact(af aq)
  ·exact cB
 refine aE ?_ ?_
 ·refine cC ?_ ?_ ?_
  ·exact(jQ c.units (bv (fv 1) (af aq)) (af eW))
  ·refine aN ?_;refine bN ?_
   ·exact(ua (kP (bv (fv 1) (af aq)) (fv 2)) (af aq) (af aq))
  ·exact cB
 refine aE ?_ ?_
 ·refine cC ?_ ?_ ?_
  ·exact(jQ c.units (bv (fv 1) (af aq)) (af eW))
  ·refine aN ?_;refine bN ?_
   ·exact(fi ub (fO (sK rfl) tS rfl T.d1j oW (aO (af aq) (aO (cN (uz (dI (fv 2) (bv (fv 1) (af aq))) (bv (fv 1) (af aq))) (af aq)) bA))))
  ·exact cB
 refine aE ?_ ?_
 ·refine bQ (i:=3) ?_ ?_ ?_ ?_ ?_ ?_<;>try walk_at "z"
  ·exact BG.nd
  ·exact(uz (dI (bg (aL h j e c (al (fv 0) (al (fv 2) aK)))) (bv (fv 1) (af aq))) (af (fR rfl a)))
 refine aN ?_;refine bN ?_
 ·exact(cN (dI (fv 3) (bg (aL h k f c (al (fv 0) (al (bv (fv 1) (af aq)) aK))))) (af aq))
theorem rT{g:Addr}{fd:FuncData}(T:Tx K mg)(D:FD K mg "_law_draw" mD ["_law_script","_law_town","_law_many"] g fd):aA P w K mg base (bD P w) 3 g fd ["_law_script","_law_town","_law_many"] (bJ K mg fy):=by
 obtain⟨h,i,b⟩:=T.d0y;have c:=NL P w base T b;refine bU D.fn NA (by decide) ?_;intro d A a s H E F j e f;unfold vu;refine aE ?_ ?_
 ·refine qg ?_ ?_ ?_ ?_ ?_ ?_ ?_ ?_<;>try walk_at "z"
  ·exact(pv 1)
  ·exact(af aq)
 refine aN ?_;refine jI ?_
 ·exact(aL f c b e (cq (pv 0) (al (KA rfl T.d1h (pv 1)) (al (fv 2) aK))))
theorem NQ{g:Addr}{fd:FuncData}(T:Tx K mg)(D:FD K mg "is_zone" lH ["thing"] g fd):aA P w K mg base (bD P w) 4 g fd ["thing"] (bJ K mg rA):=by
 obtain⟨k,l,d⟩:=T.d01;have f:=rS P w base T d;obtain⟨g1,f1,e⟩:=T.d02;have h:=BM P w base T e;obtain⟨g2,f2,D2⟩:=T.d04;have i:=NM P w base T D2;refine bU D.fn Nh (by decide) ?_;intro j A c s H E F m a b;unfold vv;refine aN ?_;refine bN ?_
 ·exact(fg (bg (aL b f d a (al (fv 0) (al (af aq) aK)))) (fg (bg (aL b h e a (al (bv (fv 0) (af aq)) aK))) (fE (bg (aL b i D2 a (al (bv (fv 0) (af aq)) aK))))))
theorem NR{g:Addr}{fd:FuncData}(T:Tx K mg)(D:FD K mg "is_deed" lL ["thing"] g fd):aA P w K mg base (bD P w) 4 g fd ["thing"] (bJ K mg rB):=by
 obtain⟨k,l,d⟩:=T.d01;have f:=rS P w base T d;obtain⟨g1,f1,e⟩:=T.d07;have h:=BQ P w base T e;obtain⟨g2,f2,D2⟩:=T.d08;have i:=NN P w base T D2;refine bU D.fn Nl (by decide) ?_;intro j A c s H E F m a b;unfold vA;refine aN ?_;refine bN ?_
 ·exact(fg (bg (aL b f d a (al (fv 0) (al (af aq) aK)))) (fg (bg (aL b h e a (al (bv (fv 0) (af aq)) aK))) (fg (bg (aL b i D2 a (al (bv (fv 0) (af aq)) aK))) (fE (jd (iS rfl T.d1g (bv (fv 0) (af aq)) (iO rfl T.d1d BI rfl)))))))
theorem NS{g:Addr}{fd:FuncData}(T:Tx K mg)(D:FD K mg "check_plan" lO ["thing"] g fd):aA P w K mg base (bD P w) 4 g fd ["thing"] (bJ K mg rC):=by
 obtain⟨m,n,e⟩:=T.d07;have i:=BQ P w base T e;obtain⟨j,k⟩:=T.xt0;obtain⟨b,a,_⟩:=k.at_ (c:="NoPlan") (by decide +kernel);refine bU D.fn No (by decide) ?_;intro l A d s H E F o f h;unfold vB;refine aN ?_;refine cC ?_ ?_ ?_
 ·exact(gO (eQ (eO (bg (aL h i e f (al (fv 0) aK))))))
 ·refine aN ?_;exact(kM h f.hd rfl a)
 ·exact cB
theorem NT{g:Addr}{fd:FuncData}(T:Tx K mg)(D:FD K mg "check_stretch" lQ ["first","last"] g fd):aA P w K mg base (bD P w) 4 g fd ["first","last"] (bJ K mg rD):=by
 obtain⟨m,n,d⟩:=T.d0d;have i:=wr P w base T d;obtain⟨j,k⟩:=T.xt0;obtain⟨b,a,_⟩:=k.at_ (c:="NoMoment") (by decide +kernel);refine bU D.fn Nq (by decide) ?_;intro l A h s H E F o e f;unfold vC;refine aE ?_ ?_
 ·refine eS ?_ ?_
  ·exact(aL f i d e (al (fv 0) aK))
  ·rfl
 refine aE ?_ ?_
 ·refine eS ?_ ?_
  ·exact(aL f i d e (al (fv 1) aK))
  ·rfl
 refine aN ?_;refine cC ?_ ?_ ?_
 ·exact(qt (fv 1) (fv 0))
 ·refine aN ?_;exact(kM f e.hd rfl a)
 ·exact cB
theorem BR{g:Addr}{fd:FuncData}(T:Tx K mg)(D:FD K mg "time_of" mi ["zone","plan","count"] g fd):aA P w K mg base (bD P w) 4 g fd ["zone","plan","count"] (bJ K mg hJ):=by
 obtain⟨h,i,c⟩:=T.d0m;have d:=NO P w base T c;refine bU D.fn Nw (by decide) ?_;intro e A b s H E F j a f;unfold lp;refine aE ?_ ?_
 ·refine cC ?_ ?_ ?_
  ·exact(jQ a.units (bv (fv 1) (af aq)) (af eW))
  ·refine aN ?_;refine bN ?_
   ·exact(ua (jQ a.units (fv 2) (af aq)) (bv (fv 1) (af aq)) (af iq))
  ·exact cB
 refine aE ?_ ?_
 ·refine cC ?_ ?_ ?_
  ·exact(jQ a.units (bv (fv 1) (af aq)) (af eW))
  ·refine aN ?_;refine bN ?_
   ·exact(cN (bv (fv 1) (af aq)) (nU (fv 2) (bv (fv 1) (af aq))))
  ·exact cB
 refine aN ?_;refine jI ?_
 ·exact(aL f d c a (al (fv 0) (al (bv (fv 1) (af aq)) (al (fv 2) aK))))
theorem BS{g:Addr}{fd:FuncData}(T:Tx K mg)(D:FD K mg "_law_pick" mE ["_law_script","_law_town","_law_some"] g fd):aA P w K mg base (bD P w) 4 g fd ["_law_script","_law_town","_law_some"] (bJ K mg lq):=by
 obtain⟨h,i,b⟩:=T.d0z;have c:=rT P w base T b;refine bU D.fn NB (by decide) ?_;intro d A a s H E F j e f;unfold vD;refine aN ?_;refine bN ?_
 ·exact(bv (fv 2) (bg (aL f c b e (cq (pv 0) (cq (pv 1) (al (fi pY (fO kj pT rfl T.d1h PySem.boot_len (aO (fv 2) bA))) aK))))))
theorem NU{g:Addr}{fd:FuncData}(T:Tx K mg)(D:FD K mg "are_deeds" lM ["thing"] g fd):aA P w K mg base (bD P w) 5 g fd ["thing"] (bJ K mg vF):=by
 obtain⟨k,l,d⟩:=T.d09;have e:=NR P w base T d;obtain⟨b,a⟩:=T.d19;refine bU D.fn Nm (by decide) ?_;intro f A c s H E F m h i;unfold vE;refine aE ?_ ?_
 ·refine cC ?_ ?_ ?_
  ·exact(jE (nI (gO (eQ (eO (jd (iS rfl T.d1g (fv 0) (iO rfl T.d1q wq rfl)))))) (nH (qu (fi pY (fO kj pT rfl T.d1h PySem.boot_len (aO (fv 0) bA))) (af (fR rfl a))))))
  ·refine aN ?_;refine bN ?_
   ·exact(af ip)
  ·exact cB
 refine aN ?_;refine bN ?_
 ·exact(fi Kk (fO (Js rfl) Jt rfl T.d1c ND (aO (jK i.1 (ai.of (own:=["deed"]) (capN:=[]) (caps:=[])) rfl rfl (nL (fv 0)) (fun _ _ _ _ _ _ j=>⟨(cF 0 (show((["deed"]:List Str)++([]:List Str)).Nodup from by decide +kernel)),jJ,(bg (aL (kb j) e d h (al (fv 0) aK)))⟩)) bA)))
theorem wt{g:Addr}{fd:FuncData}(T:Tx K mg)(D:FD K mg "check_zone" lN ["thing"] g fd):aA P w K mg base (bD P w) 5 g fd ["thing"] (bJ K mg lr):=by
 obtain⟨m,n,e⟩:=T.d05;have i:=NQ P w base T e;obtain⟨j,k⟩:=T.xt0;obtain⟨b,a,_⟩:=k.at_ (c:="NoZone") (by decide +kernel);refine bU D.fn Nn (by decide) ?_;intro l A d s H E F o f h;unfold vG;refine aN ?_;refine cC ?_ ?_ ?_
 ·exact(gO (eQ (eO (bg (aL h i e f (al (fv 0) aK))))))
 ·refine aN ?_;exact(kM h f.hd rfl a)
 ·exact cB
theorem NW{g:Addr}{fd:FuncData}(T:Tx K mg)(D:FD K mg "_law_zone" mF ["_law_script","_law_town","_law_wide"] g fd):aA P w K mg base (bD P w) 5 g fd ["_law_script","_law_town","_law_wide"] (bJ K mg rF):=by
 obtain⟨k,l,c⟩:=T.d0z;have f:=rT P w base T c;obtain⟨g1,f1,d⟩:=T.d10;have h:=BS P w base T d;refine bU D.fn mK (by decide) ?_;intro j A e s H E F m a b;unfold vH;refine aE ?_ ?_
 ·refine zu ?_ ?_ ?_ ?_ ?_<;>try walk_at "z"
  ·exact(ez (aO (ez bA) (aO (af aq) bA)))
  ·exact(jG (n:=2) rfl (eE (cF 3 mK.nd) (eE (cF 4 mK.nd) jF)))
 refine aE ?_ ?_
 ·refine gq ?_ ?_ ?_ ?_ ?_ ?_<;>try walk_at "z"
  ·exact PassesOwn.leaving
  ·exact(zy (yD rfl T.d1l (aO (bg (aL b f c a (cq (pv 0) (cq (pv 1) (al (af aq) aK))))) bA)))
  ·exact(cF 5 mK.nd)
  ·unfold oN;refine aE ?_ ?_
   ·refine bQ (i:=4) ?_ ?_ ?_ ?_ ?_ ?_<;>try walk_at "z"
    ·exact mK.nd
    ·exact(cN (cN (fv 4) (af aq)) (bg (aL b f c a (cq (pv 0) (cq (pv 1) (al (fv 2) aK))))))
   refine aN ?_;refine bQ (i:=3) ?_ ?_ ?_ ?_ ?_ ?_<;>try walk_at "z"
   ·exact mK.nd
   ·exact(Ae (fv 3) (ez (aO (ez (aO (fv 4) (aO (bg (aL b h d a (cq (pv 0) (cq (pv 1) (al (gp (aO (af aq) (aO (af aq) (aO (af aq) (aO (nF (af aq)) (aO (af aq) (aO (nF (af aq)) (aO (af aq) bA)))))))) aK))))) bA))) bA)))
 refine aN ?_;refine bN ?_
 ·exact(ez (aO (bg (aL b h d a (cq (pv 0) (cq (pv 1) (al (gp (aO (af aq) (aO (af aq) (aO (af aq) (aO (nF (af aq)) (aO (af aq) (aO (nF (af aq)) bA))))))) aK))))) (aO (fv 3) bA)))
theorem NX{g:Addr}{fd:FuncData}(T:Tx K mg)(D:FD K mg "_law_plan" mG ["_law_script","_law_town","_law_wide"] g fd):aA P w K mg base (bD P w) 5 g fd ["_law_script","_law_town","_law_wide"] (bJ K mg ls):=by
 obtain⟨k,l,b⟩:=T.d0z;have d:=rT P w base T b;obtain⟨g1,f1,f⟩:=T.d10;have h:=BS P w base T f;refine bU D.fn wo (by decide) ?_;intro j A e s H E F m a c;unfold oO;refine aE ?_ ?_
 ·refine bQ (i:=3) ?_ ?_ ?_ ?_ ?_ ?_<;>try walk_at "z"
  ·exact wo.nd
  ·exact(bg (aL c d b a (cq (pv 0) (cq (pv 1) (al (af aq) aK)))))
 refine aE ?_ ?_
 ·refine cC ?_ ?_ ?_
  ·exact(jQ a.units (fv 3) (af aq))
  ·refine aN ?_;refine bN ?_
   ·exact(ez (aO (af eW) (aO (bg (aL c d b a (cq (pv 0) (cq (pv 1) (al (fv 2) aK))))) bA)))
  ·exact cB
 refine aE ?_ ?_
 ·refine cC ?_ ?_ ?_
  ·exact(jQ a.units (fv 3) (af aq))
  ·refine aE ?_ ?_
   ·refine bQ (i:=4) ?_ ?_ ?_ ?_ ?_ ?_<;>try walk_at "z"
    ·exact wo.nd
    ·exact(cN (af aq) (bg (aL c d b a (cq (pv 0) (cq (pv 1) (al (bg (aL c h f a (cq (pv 0) (cq (pv 1) (al (gp (aO (af aq) (aO (af aq) (aO (af aq) bA)))) aK))))) aK))))))
   refine aN ?_;refine bN ?_
   ·exact(ez (aO (af eW) (aO (bg (aL c d b a (cq (pv 0) (cq (pv 1) (al (fv 2) aK))))) (aO (fv 4) bA))))
  ·exact cB
 refine aN ?_;refine bN ?_
 ·exact(ez (aO (af eW) (aO (bg (aL c d b a (cq (pv 0) (cq (pv 1) (al (af aq) aK))))) bA)))
theorem BT{g:Addr}{fd:FuncData}(T:Tx K mg)(D:FD K mg "check_deeds" lT ["thing"] g fd):aA P w K mg base (bD P w) 6 g fd ["thing"] (bJ K mg oP):=by
 obtain⟨m,n,e⟩:=T.d0a;have i:=NU P w base T e;obtain⟨j,k⟩:=T.xt0;obtain⟨b,a,_⟩:=k.at_ (c:="NoDeeds") (by decide +kernel);refine bU D.fn Nr (by decide) ?_;intro l A d s H E F o f h;unfold vI;refine aN ?_;refine cC ?_ ?_ ?_
 ·exact(gO (eQ (eO (bg (aL h i e f (al (fv 0) aK))))))
 ·refine aN ?_;exact(kM h f.hd rfl a)
 ·exact cB
theorem NY{g:Addr}{fd:FuncData}(T:Tx K mg)(D:FD K mg "dues" ml ["zone","plan","first","last"] g fd):aA P w K mg base (bD P w) 6 g fd ["zone","plan","first","last"] (bJ K mg rG):=by
 obtain⟨o,p,e⟩:=T.d0b;have k:=wt P w base T e;obtain⟨g1,f1,f⟩:=T.d0c;have l:=NS P w base T f;obtain⟨g2,f2,D2⟩:=T.d0d;have h:=wr P w base T D2;obtain⟨g3,q,c⟩:=T.d0n;have j:=BR P w base T c;refine bU D.fn mH (by decide) ?_;intro m A d s H E F r a b;unfold vJ;refine aE ?_ ?_
 ·refine eS ?_ ?_
  ·exact(aL b k e a (al (fv 0) aK))
  ·rfl
 refine aE ?_ ?_
 ·refine eS ?_ ?_
  ·exact(aL b l f a (al (fv 1) aK))
  ·rfl
 refine aE ?_ ?_
 ·refine eS ?_ ?_
  ·exact(aL b h D2 a (al (fv 2) aK))
  ·rfl
 refine aE ?_ ?_
 ·refine eS ?_ ?_
  ·exact(aL b h D2 a (al (fv 3) aK))
  ·rfl
 refine aE ?_ ?_
 ·refine kG (i:=4) ?_ ?_ ?_ ?_ ?_ ?_<;>try walk_at "z"
  ·exact mH.nd
  ·exact(qf bA)
 refine aE ?_ ?_
 ·refine bQ (i:=5) ?_ ?_ ?_ ?_ ?_ ?_<;>try walk_at "z"
  ·exact mH.nd
  ·exact(af aq)
 refine aE ?_ ?_
 ·refine bQ (i:=6) ?_ ?_ ?_ ?_ ?_ ?_<;>try walk_at "z"
  ·exact mH.nd
  ·exact(bg (aL b j c a (al (fv 0) (al (fv 1) (al (fv 5) aK)))))
 refine aE ?_ ?_
 ·refine Kv (n:=100000) ?_ ?_ ?_
  ·exact PassesOwn.leaving
  ·exact(jE (zj (Ag (fv 6) (af iq)) (zi (kP (fv 6) (fv 3)))))
  ·unfold jW;refine aE ?_ ?_
   ·refine cC ?_ ?_ ?_
    ·exact(kP (fv 2) (fv 6))
    ·refine aN ?_;refine qg ?_ ?_ ?_ ?_ ?_ ?_ ?_ ?_<;>try walk_at "z"
     ·exact(pv 4)
     ·exact(ez (aO (fv 5) (aO (fv 6) bA)))
    ·exact cB
   refine aE ?_ ?_
   ·refine zx (op:=.Add) (pos':=⟨0,0,0,0⟩) ?_
    ·exact(yv (i:=5) mH.nd rfl (by first | exact Or.inl rfl | exact Or.inr rfl) (af aq) xl)
   refine aN ?_;refine bQ (i:=6) ?_ ?_ ?_ ?_ ?_ ?_<;>try walk_at "z"
   ·exact mH.nd
   ·exact(bg (aL b j c a (al (fv 0) (al (fv 1) (al (fv 5) aK)))))
 refine aN ?_;refine zw ?_
 ·exact(pv 4)
theorem wu{g:Addr}{fd:FuncData}(T:Tx K mg)(D:FD K mg "rows_between" mq ["zone","deeds","first","last"] g fd):aA P w K mg base (bD P w) 7 g fd ["zone","deeds","first","last"] (bJ K mg lv):=by
 obtain⟨h,j,b⟩:=T.d0p;have c:=NY P w base T b;refine bU D.fn mI (by decide) ?_;intro d A a s H E F k e f;unfold vK;refine aE ?_ ?_
 ·refine kG (i:=4) ?_ ?_ ?_ ?_ ?_ ?_<;>try walk_at "z"
  ·exact mI.nd
  ·exact(qf bA)
 refine aE ?_ ?_
 ·refine gq ?_ ?_ ?_ ?_ ?_ ?_<;>try walk_at "z"
  ·exact PassesOwn.leaving
  ·exact(AZ (AY rfl T.d1e (aO (fv 1) bA)))
  ·exact(jG (n:=2) rfl (eE (cF 5 mI.nd) (eE (cF 6 mI.nd) jF)))
  ·unfold oR;refine aN ?_;refine gq ?_ ?_ ?_ ?_ ?_ ?_<;>try walk_at "z"
   ·exact PassesOwn.leaving
   ·exact(iB (bg (aL f c b e (al (fv 0) (al (bv (fv 6) (af aq)) (al (fv 2) (al (fv 3) aK)))))))
   ·exact(jG (n:=2) rfl (eE (cF 7 mI.nd) (eE (cF 8 mI.nd) jF)))
   ·unfold oQ;refine aN ?_;refine qg ?_ ?_ ?_ ?_ ?_ ?_ ?_ ?_<;>try walk_at "z"
    ·exact(pv 4)
    ·exact(ez (aO (fv 8) (aO (fv 5) (aO (fv 7) bA))))
 refine aN ?_;refine bN ?_
 ·exact(fi LR (fO TS.call_sorted LQ rfl T.d1n NF (aO (fv 4) bA)))
theorem wv{g:Addr}{fd:FuncData}(T:Tx K mg)(D:FD K mg "check_calendar" mu ["zone","deeds","first","last"] g fd):aA P w K mg base (bD P w) 7 g fd ["zone","deeds","first","last"] (bJ K mg lx):=by
 obtain⟨k,l,d⟩:=T.d0b;have f:=wt P w base T d;obtain⟨g1,f1,e⟩:=T.d0f;have h:=BT P w base T e;obtain⟨g2,f2,D2⟩:=T.d0e;have i:=NT P w base T D2;refine bU D.fn Nx (by decide) ?_;intro j A c s H E F m a b;unfold vL;refine aE ?_ ?_
 ·refine eS ?_ ?_
  ·exact(aL b f d a (al (fv 0) aK))
  ·rfl
 refine aE ?_ ?_
 ·refine eS ?_ ?_
  ·exact(aL b h e a (al (fv 1) aK))
  ·rfl
 refine aN ?_;refine eS ?_ ?_
 ·exact(aL b i D2 a (al (fv 2) (al (fv 3) aK)))
 ·rfl
theorem Oa{g:Addr}{fd:FuncData}(T:Tx K mg)(D:FD K mg "next_due" mz ["zone","deeds","moment"] g fd):aA P w K mg base (bD P w) 7 g fd ["zone","deeds","moment"] (bJ K mg ly):=by
 obtain⟨r,t,d⟩:=T.d0b;have j:=wt P w base T d;obtain⟨g1,f1,e⟩:=T.d0f;have k:=BT P w base T e;obtain⟨g2,f2,D2⟩:=T.d0d;have l:=wr P w base T D2;obtain⟨g3,u,f⟩:=T.d0o;have m:=NP P w base T f;obtain⟨v,x,h⟩:=T.d0n;have o:=BR P w base T h;obtain⟨p,y⟩:=T.xt0;refine bU D.fn mJ (by decide) ?_;intro q A c s H E F z a b;unfold vM;refine aE ?_ ?_
 ·refine eS ?_ ?_
  ·exact(aL b j d a (al (fv 0) aK))
  ·rfl
 refine aE ?_ ?_
 ·refine eS ?_ ?_
  ·exact(aL b k e a (al (fv 1) aK))
  ·rfl
 refine aE ?_ ?_
 ·refine eS ?_ ?_
  ·exact(aL b l D2 a (al (fv 2) aK))
  ·rfl
 refine aE ?_ ?_
 ·refine kG (i:=3) ?_ ?_ ?_ ?_ ?_ ?_<;>try walk_at "z"
  ·exact mJ.nd
  ·exact(qf bA)
 refine aE ?_ ?_
 ·refine gq ?_ ?_ ?_ ?_ ?_ ?_<;>try walk_at "z"
  ·exact PassesOwn.leaving
  ·exact(AZ (AY rfl T.d1e (aO (fv 1) bA)))
  ·exact(jG (n:=2) rfl (eE (cF 4 mJ.nd) (eE (cF 5 mJ.nd) jF)))
  ·unfold jX;refine aE ?_ ?_
   ·refine bQ (i:=6) ?_ ?_ ?_ ?_ ?_ ?_<;>try walk_at "z"
    ·exact mJ.nd
    ·exact(bg (aL b m f a (al (fv 0) (al (bv (fv 5) (af aq)) (al (dI (fv 2) (af aq)) aK)))))
   refine aE ?_ ?_
   ·refine bQ (i:=7) ?_ ?_ ?_ ?_ ?_ ?_<;>try walk_at "z"
    ·exact mJ.nd
    ·exact(bg (aL b o h a (al (fv 0) (al (bv (fv 5) (af aq)) (al (fv 6) aK)))))
   refine aN ?_;refine cC ?_ ?_ ?_
   ·exact(Ag (fv 7) (af iq))
   ·refine aN ?_;refine qg ?_ ?_ ?_ ?_ ?_ ?_ ?_ ?_<;>try walk_at "z"
    ·exact(pv 3)
    ·exact(ez (aO (fv 7) (aO (fv 4) (aO (fv 6) bA))))
   ·exact cB
 refine aN ?_;refine bN ?_
 ·exact(Lh (km a) rfl rfl T.d1k (pv 3))
theorem Ob{g:Addr}{fd:FuncData}(T:Tx K mg)(D:FD K mg "calendar" mv ["zone","deeds","first","last"] g fd):aA P w K mg base (bD P w) 8 g fd ["zone","deeds","first","last"] (bJ K mg oS):=by
 obtain⟨j,k,b⟩:=T.d0r;have f:=wv P w base T b;obtain⟨g1,f1,c⟩:=T.d0q;have h:=wu P w base T c;refine bU D.fn Ny (by decide) ?_;intro i A a s H E F l d e;unfold vN;refine aE ?_ ?_
 ·refine eS ?_ ?_
  ·exact(aL e f b d (al (fv 0) (al (fv 1) (al (fv 2) (al (fv 3) aK)))))
  ·rfl
 refine aN ?_;refine jI ?_
 ·exact(aL e h c d (al (fv 0) (al (fv 1) (al (fv 2) (al (fv 3) aK)))))
theorem Oc{g:Addr}{fd:FuncData}(T:Tx K mg)(D:FD K mg "idle_stretch" mw ["zone","deeds","first","last"] g fd):aA P w K mg base (bD P w) 8 g fd ["zone","deeds","first","last"] (bJ K mg rH):=by
 obtain⟨k,l,c⟩:=T.d0r;have f:=wv P w base T c;obtain⟨g1,f1,d⟩:=T.d0q;have h:=wu P w base T d;refine bU D.fn iH (by decide) ?_;intro j A b s H E F m e a;unfold vP;refine aE ?_ ?_
 ·refine eS ?_ ?_
  ·exact(aL a f c e (al (fv 0) (al (fv 1) (al (fv 2) (al (fv 3) aK)))))
  ·rfl
 refine aE ?_ ?_
 ·refine bQ (i:=4) ?_ ?_ ?_ ?_ ?_ ?_<;>try walk_at "z"
  ·exact iH.nd
  ·exact(af aq)
 refine aE ?_ ?_
 ·refine bQ (i:=5) ?_ ?_ ?_ ?_ ?_ ?_<;>try walk_at "z"
  ·exact iH.nd
  ·exact(af iq)
 refine aE ?_ ?_
 ·refine bQ (i:=6) ?_ ?_ ?_ ?_ ?_ ?_<;>try walk_at "z"
  ·exact iH.nd
  ·exact(fv 2)
 refine aE ?_ ?_
 ·refine bQ (i:=7) ?_ ?_ ?_ ?_ ?_ ?_<;>try walk_at "z"
  ·exact iH.nd
  ·exact(nW (jK a.1 (ai.of (own:=["row"]) (capN:=[]) (caps:=[])) rfl rfl (iB (bg (aL a h d e (al (fv 0) (al (fv 1) (al (fv 2) (al (fv 3) aK))))))) (fun _ _ _ _ _ _ n=>⟨(cF 0 (show((["row"]:List Str)++([]:List Str)).Nodup from by decide +kernel)),jJ,(bv (fv 0) (af aq))⟩)) (gp (aO (cN (fv 3) (af aq)) bA)))
 refine aE ?_ ?_
 ·refine gq ?_ ?_ ?_ ?_ ?_ ?_<;>try walk_at "z"
  ·exact PassesOwn.leaving
  ·exact(iB (fv 7))
  ·exact(cF 8 iH.nd)
  ·unfold lA;refine aE ?_ ?_
   ·refine cC ?_ ?_ ?_
    ·exact(qu (dI (fv 8) (fv 6)) (fv 4))
    ·refine aE ?_ ?_
     ·refine bQ (i:=4) ?_ ?_ ?_ ?_ ?_ ?_<;>try walk_at "z"
      ·exact iH.nd
      ·exact(dI (fv 8) (fv 6))
     refine aN ?_;refine bQ (i:=5) ?_ ?_ ?_ ?_ ?_ ?_<;>try walk_at "z"
     ·exact iH.nd
     ·exact(ez (aO (fv 6) (aO (dI (fv 8) (af aq)) bA)))
    ·exact cB
   refine aN ?_;refine bQ (i:=6) ?_ ?_ ?_ ?_ ?_ ?_<;>try walk_at "z"
   ·exact iH.nd
   ·exact(cN (fv 8) (af aq))
 refine aN ?_;refine bN ?_
 ·exact(fv 5)
theorem Od{g:Addr}{fd:FuncData}(T:Tx K mg)(D:FD K mg "many_at" mx ["zone","deeds","first","last"] g fd):aA P w K mg base (bD P w) 8 g fd ["zone","deeds","first","last"] (bJ K mg rJ):=by
 obtain⟨h,j,c⟩:=T.d0q;have d:=wu P w base T c;refine bU D.fn wn (by decide) ?_;intro e A b s H E F k a f;unfold vQ;refine aE ?_ ?_
 ·refine kG (i:=4) ?_ ?_ ?_ ?_ ?_ ?_<;>try walk_at "z"
  ·exact wn.nd
  ·exact(KC false)
 refine aE ?_ ?_
 ·refine gq ?_ ?_ ?_ ?_ ?_ ?_<;>try walk_at "z"
  ·exact PassesOwn.leaving
  ·exact(iB (bg (aL f d c a (al (fv 0) (al (fv 1) (al (fv 2) (al (fv 3) aK)))))))
  ·exact(cF 5 wn.nd)
  ·unfold oU;refine aN ?_;refine KD ?_ ?_ ?_ ?_ ?_
   ·exact(km a)
   ·exact(pv 4)
   ·exact(bv (fv 5) (af aq))
   ·exact(cN (uw (km a) (pv 4) (bv (fv 5) (af aq)) (af aq)) (af aq))
   ·rfl
 refine aN ?_;refine zw ?_
 ·exact(pv 4)
theorem Oe{g:Addr}{fd:FuncData}(T:Tx K mg)(D:FD K mg "busiest" my ["zone","deeds","first","last","wide"] g fd):aA P w K mg base (bD P w) 9 g fd ["zone","deeds","first","last","wide"] (bJ K mg jZ):=by
 obtain⟨q,r,h⟩:=T.d0r;have k:=wv P w base T h;obtain⟨g1,f1,j⟩:=T.d0u;have l:=Od P w base T j;obtain⟨g2,f2,D2⟩:=T.d00;have m:=mL P w base T D2;obtain⟨n,o⟩:=T.xt0;obtain⟨b,a,_⟩:=o.at_ (c:="NoWidth") (by decide +kernel);refine bU D.fn iI (by decide) ?_;intro p A f s H E F t d e;unfold vR;refine aE ?_ ?_
 ·refine eS ?_ ?_
  ·exact(aL e k h d (al (fv 0) (al (fv 1) (al (fv 2) (al (fv 3) aK)))))
  ·rfl
 refine aE ?_ ?_
 ·refine cC ?_ ?_ ?_
  ·exact(gO (eQ (eO (bg (aL e m D2 d (al (fv 4) (al (af aq) (al (cN (dI (fv 3) (fv 2)) (af aq)) aK))))))))
  ·refine aN ?_;exact(kM e d.hd rfl a)
  ·exact cB
 refine aE ?_ ?_
 ·refine kG (i:=5) ?_ ?_ ?_ ?_ ?_ ?_<;>try walk_at "z"
  ·exact iI.nd
  ·exact(aL e l j d (al (fv 0) (al (fv 1) (al (fv 2) (al (fv 3) aK)))))
 refine aE ?_ ?_
 ·refine bQ (i:=6) ?_ ?_ ?_ ?_ ?_ ?_<;>try walk_at "z"
  ·exact iI.nd
  ·exact(fi Kl (fO (JW rfl) JY rfl T.d1p NE (aO (Lc e.1 (ai.of (own:=["moment"]) (capN:=["many"]) (caps:=[5])) rfl rfl (DI.S (Al (Ak rfl T.d1l (aO (fv 2) (aO (cN (fv 2) (fv 4)) bA))))) (fun _ _ _ _ _ _ u=>⟨(cF 0 (show((["moment"]:List Str)++(["many"]:List Str)).Nodup from by decide +kernel)),jJ,(LY (km d) (pv 1) (fv 0) (af aq))⟩)) bA)))
 refine aE ?_ ?_
 ·refine bQ (i:=7) ?_ ?_ ?_ ?_ ?_ ?_<;>try walk_at "z"
  ·exact iI.nd
  ·exact(fv 6)
 refine aE ?_ ?_
 ·refine bQ (i:=8) ?_ ?_ ?_ ?_ ?_ ?_<;>try walk_at "z"
  ·exact iI.nd
  ·exact(fv 2)
 refine aE ?_ ?_
 ·refine gq ?_ ?_ ?_ ?_ ?_ ?_<;>try walk_at "z"
  ·exact PassesOwn.leaving
  ·exact(Al (Ak rfl T.d1l (aO (cN (fv 2) (af aq)) (aO (cN (dI (fv 3) (fv 4)) (af aq)) bA))))
  ·exact(cF 9 iI.nd)
  ·unfold jY;refine aE ?_ ?_
   ·refine zx (op:=.Add) (pos':=⟨0,0,0,0⟩) ?_
    ·exact(yv (i:=6) iI.nd rfl (by first | exact Or.inl rfl | exact Or.inr rfl) (dI (uw (km d) (pv 5) (dI (cN (fv 9) (fv 4)) (af aq)) (af aq)) (uw (km d) (pv 5) (dI (fv 9) (af aq)) (af aq))) xl)
   refine aN ?_;refine cC ?_ ?_ ?_
   ·exact(qu (fv 6) (fv 7))
   ·refine aE ?_ ?_
    ·refine bQ (i:=7) ?_ ?_ ?_ ?_ ?_ ?_<;>try walk_at "z"
     ·exact iI.nd
     ·exact(fv 6)
    refine aN ?_;refine bQ (i:=8) ?_ ?_ ?_ ?_ ?_ ?_<;>try walk_at "z"
    ·exact iI.nd
    ·exact(fv 9)
   ·exact cB
 refine aN ?_;refine bN ?_
 ·exact(ez (aO (fv 8) (aO (fv 7) bA)))
theorem Of{g:Addr}{fd:FuncData}(T:Tx K mg)(D:FD K mg "law" jl ["_law_script"] g fd):aA P w K mg base (bD P w) 10 g fd ["_law_script"] (bJ K mg BD):=by
 obtain⟨y,z,j⟩:=T.d11;have q:=NW P w base T j;obtain⟨g1,f1,c⟩:=T.d0z;have d:=rT P w base T c;obtain⟨g2,f2,D2⟩:=T.d0v;have k:=Oe P w base T D2;obtain⟨g3,B,e⟩:=T.d0w;have l:=Oa P w base T e;obtain⟨C,G,m⟩:=T.d0t;have r:=Oc P w base T m;obtain⟨I,J,f⟩:=T.d0s;have o:=Ob P w base T f;obtain⟨L,M,p⟩:=T.d12;have t:=NX P w base T p;obtain⟨u,N⟩:=T.xt0;refine bU D.fn dU (by decide) ?_;intro v A h s H E F O a b;unfold wm;refine aE ?_ ?_
 ·unfold vS;refine kG (i:=1) ?_ ?_ ?_ ?_ ?_ ?_<;>try walk_at "z"
  ·exact dU.nd
  ·exact(qf bA)
 refine aE ?_ ?_
 ·unfold vT;refine bQ (i:=2) ?_ ?_ ?_ ?_ ?_ ?_<;>try walk_at "z"
  ·exact dU.nd
  ·exact(bg (aL b q j a (cq (pv 0) (cq (pv 1) (al (af aq) aK)))))
 refine aE ?_ ?_
 ·unfold vU;refine bQ (i:=3) ?_ ?_ ?_ ?_ ?_ ?_<;>try walk_at "z"
  ·exact dU.nd
  ·exact(ez bA)
 refine aE ?_ ?_
 ·unfold vV;refine gq ?_ ?_ ?_ ?_ ?_ ?_<;>try walk_at "z"
  ·exact PassesOwn.leaving
  ·exact(zy (yD rfl T.d1l (aO (cN (af aq) (bg (aL b d c a (cq (pv 0) (cq (pv 1) (al (af aq) aK)))))) bA)))
  ·exact(cF 4 dU.nd)
  ·unfold oV;refine aN ?_;refine bQ (i:=3) ?_ ?_ ?_ ?_ ?_ ?_<;>try walk_at "z"
   ·exact dU.nd
   ·exact(Ae (fv 3) (ez (aO (ez (aO (bg (aL b t p a (cq (pv 0) (cq (pv 1) (al (af aq) aK))))) (aO (af eW) (aO (af ip) bA)))) bA)))
 refine aE ?_ ?_
 ·unfold vW;refine bQ (i:=5) ?_ ?_ ?_ ?_ ?_ ?_<;>try walk_at "z"
  ·exact dU.nd
  ·exact(bg (aL b d c a (cq (pv 0) (cq (pv 1) (al (af aq) aK)))))
 refine aE ?_ ?_
 ·unfold vX;refine bQ (i:=6) ?_ ?_ ?_ ?_ ?_ ?_<;>try walk_at "z"
  ·exact dU.nd
  ·exact(cN (fv 5) (bg (aL b d c a (cq (pv 0) (cq (pv 1) (al (af aq) aK))))))
 refine aE ?_ ?_
 ·unfold vY;refine bQ (i:=7) ?_ ?_ ?_ ?_ ?_ ?_<;>try walk_at "z"
  ·exact dU.nd
  ·exact(jK b.1 (ai.of (own:=["_law_row"]) (capN:=[]) (caps:=[])) rfl rfl (iB (bg (aL b o f a (al (fv 2) (al (fv 3) (al (fv 5) (al (fv 6) aK))))))) (fun _ _ _ _ _ _ x=>⟨(cF 0 (show((["_law_row"]:List Str)++([]:List Str)).Nodup from by decide +kernel)),jJ,(bv (fv 0) (af aq))⟩))
 refine aE ?_ ?_
 ·unfold vZ;refine zu ?_ ?_ ?_ ?_ ?_<;>try walk_at "z"
  ·exact(bg (aL b k D2 a (al (fv 2) (al (fv 3) (al (fv 5) (al (fv 6) (al (af aq) aK)))))))
  ·exact(jG (n:=2) rfl (eE (cF 8 dU.nd) (eE (cF 9 dU.nd) jF)))
 refine aE ?_ ?_
 ·unfold wa;refine cC ?_ ?_ ?_
  ·exact(jE (nI (nX a.units (fv 9) (Ac (g:=gT) PySem.F.slot_list_count PySem.F.type_list_count zX Ad (pv 7) (fv 8))) (nH (nX a.units (fv 9) (fi zm (fO (za rfl) zc rfl T.d1j oW (aO (nW (gp (aO (af aq) bA)) (jK b.1 (ai.of (own:=["_law_here"]) (capN:=["_law_some"]) (caps:=[7])) rfl rfl (iB (fv 7)) (fun _ _ _ _ _ _ x=>⟨(cF 0 (show((["_law_here"]:List Str)++(["_law_some"]:List Str)).Nodup from by decide +kernel)),jJ,(Ac (g:=gT) PySem.F.slot_list_count PySem.F.type_list_count zX Ad (pv 1) (fv 0))⟩))) bA)))))))
  ·refine aN ?_;refine bN ?_
   ·exact(af ip)
  ·exact cB
 refine aE ?_ ?_
 ·unfold wb;refine bQ (i:=10) ?_ ?_ ?_ ?_ ?_ ?_<;>try walk_at "z"
  ·exact dU.nd
  ·exact(bg (aL b l e a (al (fv 2) (al (fv 3) (al (fv 5) aK)))))
 refine aE ?_ ?_
 ·unfold lB;refine cC ?_ ?_ ?_
  ·exact(jE (nI (nX a.units (kQ a.units (fv 7) (gp bA)) (pW (uA (fv 10) (af iq)) (fE (Af (bv (fv 10) (af aq)) (fv 6))))) (nH (jE (zj (nX a.units (fv 7) (gp bA)) (zi (nX a.units (fv 10) (bv (bg (aL b o f a (al (fv 2) (al (fv 3) (al (fv 5) (al (fv 6) aK)))))) (af aq)))))))))
  ·refine aN ?_;refine bN ?_
   ·exact(af ip)
  ·exact cB
 refine aE ?_ ?_
 ·unfold wc;refine bQ (i:=11) ?_ ?_ ?_ ?_ ?_ ?_<;>try walk_at "z"
  ·exact dU.nd
  ·exact(af aq)
 refine aE ?_ ?_
 ·unfold we;refine gq ?_ ?_ ?_ ?_ ?_ ?_<;>try walk_at "z"
  ·exact PassesOwn.leaving
  ·exact(iB (fi ML (MN rfl rfl T.d1n rfl T.d1m (aO (gp (aO (af aq) (aO (af aq) (aO (af aq) (aO (af aq) (aO (cN (dI (fv 6) (fv 5)) (af aq)) bA)))))) bA))))
  ·exact(cF 12 dU.nd)
  ·unfold ka;refine aN ?_;refine cC ?_ ?_ ?_
   ·exact(kP (fv 12) (cN (dI (fv 6) (fv 5)) (af aq)))
   ·refine aE ?_ ?_
    ·refine bQ (i:=13) ?_ ?_ ?_ ?_ ?_ ?_<;>try walk_at "z"
     ·exact dU.nd
     ·exact(bv (bg (aL b k D2 a (al (fv 2) (al (fv 3) (al (fv 5) (al (fv 6) (al (fv 12) aK))))))) (af aq))
    refine aE ?_ ?_
    ·refine cC ?_ ?_ ?_
     ·exact(qt (fv 13) (fv 11))
     ·refine aN ?_;refine bN ?_
      ·exact(af ip)
     ·exact cB
    refine aN ?_;refine bQ (i:=11) ?_ ?_ ?_ ?_ ?_ ?_<;>try walk_at "z"
    ·exact dU.nd
    ·exact(fv 13)
   ·exact cB
 refine aE ?_ ?_
 ·unfold wh;refine bQ (i:=14) ?_ ?_ ?_ ?_ ?_ ?_<;>try walk_at "z"
  ·exact dU.nd
  ·exact(bg (aL b r m a (al (fv 2) (al (fv 3) (al (fv 5) (al (fv 6) aK))))))
 refine aE ?_ ?_
 ·unfold rN;refine cC ?_ ?_ ?_
  ·exact(KM (fv 14) (af iq))
  ·refine aN ?_;refine bN ?_
   ·exact(kQ a.units (fi MM (MO rfl rfl T.d1h rfl T.d1m (aO (fv 7) bA))) (cN (dI (fv 6) (fv 5)) (af aq)))
  ·exact cB
 refine aE ?_ ?_
 ·unfold wj;refine bQ (i:=10) ?_ ?_ ?_ ?_ ?_ ?_<;>try walk_at "z"
  ·exact dU.nd
  ·exact(bg (aL b l e a (al (fv 2) (al (fv 3) (al (bv (fv 14) (af aq)) aK)))))
 refine aN ?_;unfold rO;refine bN ?_
 ·exact(fg (pW (uA (fv 10) (af iq)) (fE (Af (bv (fv 10) (af aq)) (bv (fv 14) (af aq))))) (fE (MT (fv 5) (bv (fv 14) (af aq)) (bv (fv 14) (af aq)) (fv 6))))
end
end K3
namespace K3
open PySem L2 L2.L3 Due
noncomputable def dW(d:PyData)(lo a:Int):Bool:=match d with
 | .int i=>decide (lo<=i)&&decide (i<=a)
 | _=>false
noncomputable def eh:PyData->Bool
 | .dict _=>false
 | _=>true
@[simp] theorem Pz:cy "int" "int" = some true:=by decide
@[simp] theorem PB:cy "int" "bool" = some false:=by decide
@[simp] theorem PC:cy "bool" "int" = some true:=by decide
@[simp] theorem PD:cy "bool" "bool" = some true:=by decide
@[simp] theorem PH:cy "NoneType" "int" = some false:=by decide
@[simp] theorem PJ:cy "str" "int" = some false:=by decide
@[simp] theorem PL:cy "list" "int" = some false:=by decide
@[simp] theorem PM:cy "tuple" "int" = some false:=by decide
@[simp] theorem PN:cy "int" "tuple" = some false:=by decide
@[simp] theorem PP:cy "bool" "tuple" = some false:=by decide
@[simp] theorem PQ:cy "NoneType" "tuple" = some false:=by decide
@[simp] theorem PR:cy "str" "tuple" = some false:=by decide
@[simp] theorem PU:cy "list" "tuple" = some false:=by decide
@[simp] theorem PV:cy "tuple" "tuple" = some true:=by decide
theorem ww(i j:Int):PyData.eqv (.int i) (.int j)=(i==j):=by rw[PyData.eqv]
theorem oX(i:Int):SeqAt.shaped (.int i)=true:=by rfl
theorem kc{d:PyData}{lo a:Int}(h:eh d=true):fJ [.dat d,.dat (.int lo),.dat (.int a)]=.rt (.dat (.bool (dW d lo a))) []:=by
 cases d with
 | dict _=>cases h
 | int i=>
  by_cases h1:lo<=i
  ·simp[aT,fJ,oC,dW,h1]
  ·simp[aT,fJ,oC,dW,h1]
 | _=>simp[aT,fJ,oC,dW]
noncomputable def eZ(d:PyData)(n:Int):Bool:=match d with
 | .tuple a=>decide ((a.length:Int)=n)
 | _=>false
theorem oY{d:PyData}{n:Int}(h:eh d=true):jh [.dat d,.dat (.int n)]=.rt (.dat (.bool (eZ d n))) []:=by
 cases d with
 | dict _=>cases h
 | tuple a=>simp[aT,jh,rg,eZ,oX,ww];rfl
 | _=>simp[aT,jh,rg,eZ]
theorem BU{d:PyData}(h:eh d=true):oG [.dat d]=.rt (.dat (.bool (dW d (-12) 14))) []:=by simp[aT,oG,vg,kc h]
theorem wx{d:PyData}(h:eh d=true):li [.dat d]=.rt (.dat (.bool (dW d 0 9999))) []:=by simp[aT,li,vh,kc h]
theorem oZ{d:PyData}(h:eh d=true):jj [.dat d]=if dW d 0 9999=true then .rt (.dat .none) [] else .ex "NoMoment" []:=by simp only[jj,vr];cases a:dW d 0 9999<;>simp[aT,wx h,a]
noncomputable abbrev ei(p:Int×Int):PyData:=.tuple [.int p.1,.int p.2]
noncomputable abbrev bz(a:Int)(b:Sh):PyData:=.tuple [.int a,.tuple (b.map ei)]
@[simp] theorem pc{x:PyData}{l:List PyData}:cu (x::l) 0=some x:=by unfold cu eL;rw[if_pos (by omega),if_pos (by simp<;>omega)];rfl
@[simp] theorem iJ{x y:PyData}{l:List PyData}:cu (x::y::l) 1=some y:=by unfold cu eL;rw[if_pos (by omega),if_pos (by simp<;>omega)];rfl
@[simp] theorem jm{x:PyData}{l:List PyData}:cu (l++[x]) (-1)=some x:=by unfold cu eL;rw[if_neg (by omega),if_pos (by simp;omega)];simp;rw[show(-1+((l.length:Int)+1)).toNat=l.length by omega];simp
theorem BV{c:Option aj}:∀{a:Sh}{lo:Int}{x:Option aj},fw lo a->(∀p∈a,p.1<=9999/\-12<=p.2/\p.2<=14)->∃e y,bR (ay 2) oJ (a.map ei) [c,some (.dat (.int (lo+1))),x]=.nx [c,e,y]
 | [],_,_,_,_=>⟨_,_,rfl⟩
 | (b,k)::r,lo,x,⟨h1,h2⟩,f=>by
  obtain⟨e,y,g⟩:=BV (lo:=b) (c:=c) (x:=some (.dat (ei (b,k)))) h2 fun p h=>f p (bq _ h);have hb:=f (b,k) List.mem_cons_self;refine⟨e,y,?_⟩;rw[List.map_cons,bR,<-g];have:oJ [c,some (.dat (.int (lo+1))),some (.dat (ei (b,k)))]=.nx [c,some (.dat (.int (b+1))),some (.dat (ei (b,k)))]:=by simp[aT,oJ,oY (d:=.tuple [.int b,.int k]) rfl,eZ,BU (d:=.int k) rfl,kc (d:=.int b) rfl,dW,hb.2.1,hb.2.2,hb.1,show lo+1<=b by omega]
  simp[aT,this]
theorem Og{a:Sh}(f:a.length<=6)(b:fw 0 a)(d:∀p∈a,p.1<=9999/\-12<=p.2/\p.2<=14):ry [.dat (.tuple (a.map ei))]=.rt (.dat (.bool true)) []:=by obtain⟨e,y,h⟩:=BV (lo:=0) (c:=some (.dat (.tuple (a.map ei)))) (x:=none) b d;simp[aT,ry,vp,show ¬ (6:Int)<a.length by omega] at h ⊢;rw[h];simp
theorem Oh{a:Int}{b:Sh}(z:cP a b):rA [.dat (bz a b)]=.rt (.dat (.bool true)) []:=by have h1:=z.ah.1;simp[aT,rA,vv,oY (d:=bz a b) rfl,eZ,BU (d:=.int a) rfl,dW,h1.1,h1.2,Og z.len z.rise fun p c=>⟨z.top p c,z.ah.2 p c⟩]
theorem wy{a:Int}{b:Sh}(z:cP a b):lr [.dat (bz a b)]=.rt (.dat .none) []:=by simp[aT,lr,vG,Oh z]
theorem BW{m:Int}{z:Option aj}:∀{ss:Sh}{a:Int}{x:Option aj},∃y,bR (ay 3) rh (ss.map ei) [z,some (.dat (.int m)),some (.dat (.int a)),x]=.nx [z,some (.dat (.int m)),some (.dat (.int (ft a ss m))),y]
 | [],_,_=>⟨_,rfl⟩
 | (b,c)::r,a,x=>by
  obtain⟨y,d⟩:=BW (m:=m) (z:=z) (ss:=r) (a:=if b<=m then c else a) (x:=some (.dat (ei (b,c))));refine⟨y,?_⟩;rw[List.map_cons,bR];unfold ft;rw[<-d]
  by_cases h:b<=m<;>simp[aT,rh,h]
theorem Oi{a m:Int}{b:Sh}:rl [.dat (bz a b),.dat (.int m)]=.rt (.dat (.int (dq a b m))) []:=by obtain⟨y,h⟩:=BW (m:=m) (z:=some (.dat (bz a b))) (ss:=b) (a:=a) (x:=none);simp[aT,rl,vb] at h ⊢;rw[h];simp[aT,dq]
theorem kd{e:XM PyData}{g:GM}{f:PyData->PyData}{P:ao->Prop}:∀{its ys:List PyData}{U:ao},P U->(∀d∈its,∀U,P U->∃a b,g d U=some a/\e a=.ok (f d) b/\P b)->ys.length+its.length<=sizeLine->cZ g ef e its ys U=some (ys++its.map f)
 | [],ys,U,_,_,_=>by simp[aT,cZ]
 | d::r,ys,U,c,h,i=>by obtain⟨a,b,h1,h2,h3⟩:=h d List.mem_cons_self U c;simp only[List.length_cons] at i;unfold cZ;rw[h1];simp only[ef,h2];rw[if_pos (by omega),kd h3 (fun d hd=>h d (bq _ hd)) (by simp;omega)];simp
theorem rV{t:XM Bool}{e:XM PyData}{g:GM}{p:PyData->Bool}{f:PyData->PyData}{P:ao->Prop}:∀{its ys:List PyData}{U:ao},P U->(∀d∈its,∀U,P U->∃b a c,g d U=some b/\t b=.ok (p d) a/\P a/\(p d=true->e a=.ok (f d) c/\P c))->ys.length+its.length<=sizeLine->cZ g t e its ys U=some (ys++(its.filter p).map f)
 | [],ys,U,_,_,_=>by simp[aT,cZ]
 | d::r,ys,U,j,h,k=>by
  obtain⟨b,a,c,h1,h2,h3,l⟩:=h d List.mem_cons_self U j;simp only[List.length_cons] at k;unfold cZ;rw[h1];simp only[h2];cases i:p d with
  | true=>obtain⟨m,n⟩:=l i;simp only[m];rw[if_pos (by omega),rV n (fun d hd=>h d (bq _ hd)) (by simp;omega)];simp[aT,i]
  | false=>simp only;rw[rV h3 (fun d hd=>h d (bq _ hd)) (by omega)];simp[aT,i]
@[simp] theorem PX:(0:Nat)<=sizeLine:=by decide
@[simp] theorem BX:(1:Nat)<=sizeLine:=by decide
@[simp] theorem BY:(2:Nat)<=sizeLine:=by decide
@[simp] theorem PY:(3:Nat)<=sizeLine:=by decide
@[simp] theorem PZ:(4:Nat)<=sizeLine:=by decide
@[simp] theorem Qa:(5:Nat)<=sizeLine:=by decide
@[simp] theorem Qb:(6:Nat)<=sizeLine:=by decide
@[simp] theorem Qc:(7:Nat)<=sizeLine:=by decide
@[simp] theorem Qd:(8:Nat)<=sizeLine:=by decide
@[simp] theorem Qe:(9:Nat)<=sizeLine:=by decide
@[simp] theorem Oj:(10:Nat)<=sizeLine:=by decide
@[simp] theorem Ol:(11:Nat)<=sizeLine:=by decide
@[simp] theorem Om:(12:Nat)<=sizeLine:=by decide
@[simp] theorem Oo:(13:Nat)<=sizeLine:=by decide
@[simp] theorem Op:(14:Nat)<=sizeLine:=by decide
noncomputable def cT:Option Int->PyData
 | none=>.none
 | some e=>.int e
noncomputable def ej(p:Int×Option Int×Int):PyData:=.tuple [.int p.1,cT p.2.1,.int p.2.2]
theorem BZ:∀(d:Sh) (s a:Int),nB (.int s::d.map fun p=>.int p.1) ((d.map fun p=>PyData.int p.1)++[.none]) (.int a::d.map fun p=>.int p.2)=(aW s a d).map ej
 | [],s,a=>rfl
 | (b,c)::r,s,a=>by have e:=BZ r b c;simp only[List.map_cons,List.cons_append,aW];rw[<-e];rfl
theorem Ca{a:Int}{b:Sh}(l:b.length<=6):oD [.dat (bz a b)]=.rt (.dat (.list ((aW 0 a b).map ej))) []:=by
 have sz:1000<sizeLine:=by decide
 have c:=kd (e:=vc) (g:=ay 0) (f:=fun d=>match d with | .tuple (x::_)=>x | _=>.none) (P:=fun U=>U.length=1) (its:=b.map ei) (ys:=[]) (U:=[none]) rfl (fun d hd U h=>by
  obtain⟨p,_,rfl⟩:=List.mem_map.mp hd
  match U,h with
  | [y],_=>exact⟨_,_,rfl,by simp[aT,vc];rfl,rfl⟩) (by simp;omega)
 have i:=kd (e:=vd) (g:=ay 0) (f:=fun d=>match d with | .tuple (_::x::_)=>x | _=>.none) (P:=fun U=>U.length=1) (its:=b.map ei) (ys:=[]) (U:=[none]) rfl (fun d hd U h=>by
  obtain⟨p,_,rfl⟩:=List.mem_map.mp hd
  match U,h with
  | [y],_=>exact⟨_,_,rfl,by simp[aT,vd];rfl,rfl⟩) (by simp;omega)
 simp only[List.nil_append,List.map_map] at c i;have j:List.map ((fun d=>match d with | .tuple (x::_)=>x | _=>PyData.none)∘ei) b=b.map fun p=>PyData.int p.1:=by apply List.map_congr_left;intro p _;rfl
 have k:List.map ((fun d=>match d with | .tuple (_::x::_)=>x | _=>PyData.none)∘ei) b=b.map fun p=>PyData.int p.2:=by apply List.map_congr_left;intro p _;rfl
 rw[j] at c;rw[k] at i;have z:=BZ b 0 a;simp[aT,oD,ve,c,i,show b.length<=sizeLine by omega,show b.length+1<=sizeLine by omega,show 1+b.length<=sizeLine by omega,z]
theorem rW{m:Int}{e:Option Int}:oE [.dat (.int m),.dat (cT e)]=.rt (.dat (.bool (eG m e))) []:=by cases e<;>simp[aT,oE,vf,cT,eG]
theorem pd:∀(d:Sh) (s a:Int),(aW s a d).length=d.length+1
 | [],s,a=>rfl
 | (b,c)::r,s,a=>by simp[aT,aW,pd r b c]
theorem Oq{a:List Int}{k:Int}(d:a.length<=63)(e:0<=k):∃v,lh [.scr a,.dat (.int k)]=.rt (.dat (.int v)) []:=by
 by_cases h:k<a.length
 ·have:∃v,cu a k=some v:=by unfold cu eL;rw[if_pos e,if_pos h];exact⟨a[k.toNat]'(by omega),by simp⟩
  obtain⟨v,c⟩:=this;exact⟨v,by simp[aT,lh,oF,d,h,c]⟩
 ·by_cases b:a=[]
  ·subst b;exact⟨0,by simp[aT,lh,oF] at h ⊢;simp[aT,show ¬ k<0 by omega]⟩
  ·have f:0<(a.length:Int):=by have:=List.length_pos_iff.mpr b;omega
   have:∃v,cu a (k % a.length)=some v:=by have h1:=Int.emod_nonneg k (show(a.length:Int)≠0 by omega);have h2:=Int.emod_lt_of_pos k f;unfold cu eL;rw[if_pos h1,if_pos h2];exact⟨a[(k % a.length).toNat]'(by omega),by simp⟩
   obtain⟨v,c⟩:=this;exact⟨v * 31+k,by simp[aT,lh,oF,d,h,b,c,nC,iX,List.length_pos_iff.mpr b]⟩
theorem Ot{c:List Int}{k many:Int}(d:c.length<=63)(e:0<=k)(b:0<many):∃v,0<=v/\v<many/\rq [.scr c,.dat (.int k),.dat (.int many)]=.rt (.dat (.int v)) []:=by
 obtain⟨v,f⟩:=Oq (k:=k) d e;generalize hd:(v * 1103515245+7919 * k+12345) % 2147483647=a;have g:0<=a:=by omega
 have h:a<2147483647:=by omega
 refine⟨a ^ 5 % 2147483647 % 999983 % many,Int.emod_nonneg _ (by omega),Int.emod_lt_of_pos _ b,?_⟩;simp[aT,rq,vo,f,iX,nC,pV,hd,b,show a.natAbs<18446744073709551616 by omega]
theorem gC{ns:List Int}{many:Int}{t:List PyData}(a:ns.length<=63)(c:t.length<1000)(b:0<many):∃v,0<=v/\v<many/\fy [.scr ns,.own true (.l t),.dat (.int many)]=.rt (.dat (.int v)) [.l (t++[.int 0])]:=by
 have sz:1000<sizeLine:=by decide
 obtain⟨v,h1,h2,h3⟩:=Ot (k:=((t++[PyData.int 0]).length:Int)) a (by omega) b;refine⟨v,h1,h2,?_⟩;simp at h3;simp[aT,fy,vu,show t.length<sizeLine by omega,h3]
theorem wz{ns:List Int}{ds t:List PyData}(a:ns.length<=63)(b:t.length<1000)(hd:ds≠[])(c:ds.length<=1000):∃d∈ds,lq [.scr ns,.own true (.l t),.dat (.list ds)]=.rt (.dat d) [.l (t++[.int 0])]:=by
 have e:=List.length_pos_iff.mpr hd;obtain⟨v,h1,h2,h3⟩:=gC (many:=ds.length) a b (by omega);have:cu ds v=some (ds[v.toNat]'(by omega)):=by unfold cu eL;rw[if_pos h1,if_pos h2];simp
 refine⟨ds[v.toNat]'(by omega),List.getElem_mem _,?_⟩;simp[aT,lq,vD,h3,this]
theorem Ou{ns:List Int}{t:List PyData}{ss:Sh}{m wd:Int}{k:Option aj}(b:ns.length<=63)(h:t.length<900)(j:ss.length<=100)(a:0<wd):∃d c,0<=d/\d<wd/\-12<=c/\c<=14/\
  oN [some (.scr ns),some (.own true (.l t)),some (.dat (.int wd)),some (.dat (.tuple (ss.map ei))),some (.dat (.int m)),k]=.nx [some (.scr ns),some (.own true (.l (t++[.int 0]++[.int 0]))),some (.dat (.int wd)),some (.dat (.tuple ((ss++[(m+1+d,c)]).map ei))),some (.dat (.int (m+1+d))),k]:=by
 have sz:1000<sizeLine:=by decide
 obtain⟨d,e,n,h2⟩:=gC (ns:=ns) (t:=t) (many:=wd) b (by omega) a;obtain⟨w,a,h1⟩:=wz (ns:=ns) (t:=t++[.int 0]) (ds:=[.int 0,.int 1,.int 2,.int (-1),.int 14,.int (-12),.int 3]) b (by simp;omega) (by simp) (by simp);have:∃i:Int,w=.int i/\-12<=i/\i<=14:=by simp only[List.mem_cons,List.not_mem_nil,or_false] at a;rcases a with rfl | rfl | rfl | rfl | rfl | rfl | rfl<;>exact⟨_,rfl,by omega,by omega⟩
 obtain⟨i,rfl,f,g⟩:=this;refine⟨d,i,e,by omega,f,g,?_⟩;simp only[List.append_assoc,List.cons_append,List.nil_append] at h1 h2;simp[aT,oN,h1,h2,show ss.length+1<=sizeLine by omega]
theorem Cb{ns:List Int}{wd:Int}(g:ns.length<=63)(h:0<wd):∀{its t:List PyData}{ss:Sh}{m:Int}{k:Option aj},t.length+2 * its.length<900->ss.length+its.length<=100->∃new t' b f,bR (ay 5) oN its [some (.scr ns),some (.own true (.l t)),some (.dat (.int wd)),some (.dat (.tuple (ss.map ei))),some (.dat (.int m)),k]=.nx [some (.scr ns),some (.own true (.l t')),some (.dat (.int wd)),some (.dat (.tuple ((ss++new).map ei))),some (.dat (.int b)),f]/\
  fw m new/\(∀p∈new,p.1<=m+wd * its.length/\-12<=p.2/\p.2<=14)/\new.length=its.length/\t'.length=t.length+2 * its.length
 | [],t,ss,m,k,_,_=>⟨[],t,m,k,by simp[aT,bR],trivial,fun p a=>(by cases a),rfl,rfl⟩
 | x::r,t,ss,m,k,h1,h2=>by
  simp only[List.length_cons] at h1 h2;obtain⟨d,c,s,u,i,j,e⟩:=Ou (ns:=ns) (t:=t) (ss:=ss) (m:=m) (wd:=wd) (k:=some (.dat x)) g (by omega) (by omega) h;obtain⟨new,t',b,f,g1,g2,g3,n,o⟩:=Cb g h (its:=r) (t:=t++[.int 0]++[.int 0]) (ss:=ss++[(m+1+d,c)]) (m:=m+1+d) (k:=some (.dat x)) (by simp;omega) (by simp;omega);have q:wd * ((r.length+1:Nat):Int)=wd * r.length+wd:=by rw[Int.natCast_add,Int.mul_add];simp
  have v:0<=wd * (r.length:Int):=Int.mul_nonneg (by omega) (by omega);refine⟨(m+1+d,c)::new,t',b,f,?_,⟨by omega,g2⟩,fun p a=>?_,by simp[aT,n],by rw[o];simp;omega⟩
  ·rw[bR];simp only[ay,List.set_cons_succ,List.set_cons_zero,e];rw[g1];simp
  ·rw[List.length_cons,q];rcases List.mem_cons.mp a with rfl | a
   ·exact⟨by simp;omega,i,j⟩
   ·have:=g3 p a;exact⟨by omega,this.2⟩
theorem Ov{ns:List Int}{t:List PyData}{wd:Int}(d:ns.length<=63)(s:t.length<=100)(h:0<wd):∃a b t',rF [.scr ns,.own true (.l t),.dat (.int wd)]=.rt (.dat (bz a b)) [.l t']/\b.length<=4/\fw 0 b/\rf a b/\(∀p∈b,p.1<=4 * wd)/\t'.length<=t.length+12:=by
 have sz:1000<sizeLine:=by decide
 obtain⟨n,j,u,h1⟩:=gC (ns:=ns) (t:=t) (many:=5) d (by omega) (by omega);obtain⟨new,f,v,x,g1,g2,g3,o,g⟩:=Cb (ns:=ns) (wd:=wd) d h (its:=intsFrom 0 n.toNat) (t:=t++[.int 0]) (ss:=[]) (m:=0) (k:=none) (by simp[aT,pS];omega) (by simp[aT,pS];omega);rw[pS] at g3 o g;simp only[List.length_append,List.length_cons,List.length_nil] at g;obtain⟨w,c,h2⟩:=wz (ns:=ns) (t:=f) (ds:=[.int 0,.int 1,.int 2,.int (-1),.int 14,.int (-12)]) d (by omega) (by simp) (by simp);have:∃i:Int,w=.int i/\-12<=i/\i<=14:=by simp only[List.mem_cons,List.not_mem_nil,or_false] at c;rcases c with rfl | rfl | rfl | rfl | rfl | rfl<;>exact⟨_,rfl,by omega,by omega⟩
 obtain⟨i,rfl,q,r⟩:=this;simp only[List.map_nil,List.nil_append] at g1;have y:wd * ((n.toNat:Nat):Int)<=4 * wd:=by rw[Int.mul_comm 4];exact Int.mul_le_mul_of_nonneg_left (by omega) (by omega)
 refine⟨i,new,f++[.int 0],?_,by omega,g2,⟨⟨q,r⟩,fun p e=>(g3 p e).2⟩,fun p e=>by have:=(g3 p e).1;omega,by simp;omega⟩;simp[aT,rF,vH,h1,j,show n<4611686018427387904 by omega,show -4611686018427387904<=n by omega,g1,h2]
theorem Ow(l:List Int):SeqAt.shaped (.list (l.map PyData.int))=true:=by
 have h1:∀l:List Int,PyData.canLayAll0 (l.map PyData.int)=true:=fun l=>by induction l with | nil=>rfl | cons x r a=>simpa[PyData.canLayAll0,PyData.canLay0] using a
 have h2:∀l:List Int,PyData.depthAll (l.map PyData.int)=0:=fun l=>by induction l with | nil=>rfl | cons x r a=>simpa[PyData.depthAll,PyData.depth] using a
 unfold SeqAt.shaped;simp[PyData.canLay0,PyData.depth,h1,h2]
theorem Cc{d:PyData}(h:SeqAt.shaped d=true):aT false d d=some (.bool true):=by simp[aT,h,yV h]
theorem wA{d:PyData}(h:SeqAt.shaped d=true):aT true d d=some (.bool false):=by simp[aT,h,yV h]
theorem Ox(i j:Int):aT true (.int i) (.int j)=some (.bool (!decide (i=j))):=by
 by_cases h:i=j
 ·subst h;simp[wA (oX i)]
 ·simp[aT,oX,ww,h]
theorem mM(i j:Int):aT false (.int i) (.int j)=some (.bool (decide (i=j))):=by
 by_cases h:i=j
 ·subst h;simp[Cc (oX i)]
 ·simp[aT,oX,ww,h]
theorem Oy{m k:SM}{U a:ao}(h:m U=.nx a):aB m k U=k a:=by simp[h]
theorem Oz(i j:Str):PyData.eqv (.str i) (.str j)=(i==j):=by rw[PyData.eqv]
theorem Cd{x:Str}(h:PyData.strOk x=true):SeqAt.shaped (.str x)=true:=by unfold SeqAt.shaped;simp[PyData.canLay0,PyData.depth,h]
theorem ek{x y:Str}(a:PyData.strOk x=true)(b:PyData.strOk y=true):aT false (.str x) (.str y)=some (.bool (x==y)):=by simp[aT,Cd a,Cd b,Oz]
theorem eH:PyData.strOk "once" = true:=by decide +kernel
theorem fZ:PyData.strOk "every" = true:=by decide +kernel
theorem jn:PyData.strOk "daily" = true:=by decide +kernel
@[simp] theorem Qf:(("every":Str)==("once":Str))=false:=by decide +kernel
@[simp] theorem Qg:(("daily":Str)==("once":Str))=false:=by decide +kernel
@[simp] theorem Qh:(("daily":Str)==("every":Str))=false:=by decide +kernel
@[simp] theorem Qi:cy "str" "str" = some true:=by decide
noncomputable abbrev el:aR->PyData
 | .once m=>.tuple [.str "once",.int m]
 | .every f s=>.tuple [.str "every",.int f,.int s]
 | .daily h=>.tuple [.str "daily",.int h]
noncomputable abbrev pf(a:Int)(b:Sh)(p:aR)(c:Nat):PyData:=.tuple [.int c,.int (dw a b p c)]
@[simp] theorem rX{x y w:PyData}{l:List PyData}:cu (x::y::w::l) 2=some w:=by unfold cu eL;rw[if_pos (by omega),if_pos (by simp<;>omega)];rfl
theorem ke{x w:Str}{rest:List PyData}{n:Int}(a:PyData.strOk x=true)(b:PyData.strOk w=true):ji [.dat (.tuple (.str x::rest)),.dat (.str w),.dat (.int n)]=.rt (.dat (.bool (decide (((rest.length+1:Nat):Int)=n)&&(x==w)))) []:=by
 by_cases h:(((rest.length+1:Nat):Int)=n)
 ·simp[ji,rm,oY (d:=.tuple (.str x::rest)) rfl,eZ,ek a b];simp at h;simp[h]
 ·simp[ji,rm,oY (d:=.tuple (.str x::rest)) rfl,eZ,ek a b];simp at h;simp[h]
theorem Ce{p:aR}(ok:br p):jU [.dat (el p)]=.rt (.dat (.bool true)) []:=by
 cases p with
 | once m=>simp[jU,oK,ke eH eH,wx (d:=.int m) rfl,dW,ok.1,ok.2]
 | every f s=>simp[jU,oK,ke fZ eH,ke fZ fZ,wx (d:=.int f) rfl,kc (d:=.int s) rfl,dW,ok.1.1,ok.1.2,ok.2.1,ok.2.2]
 | daily h=>simp[jU,oK,ke jn eH,ke jn fZ,ke jn jn,kc (d:=.int h) rfl,dW,ok.1,ok.2]
theorem OA{p:aR}(ok:br p):rC [.dat (el p)]=.rt (.dat .none) []:=by simp[rC,vB,Ce ok]
noncomputable def rY(g:Int)(d:PyData):Bool:=match d with
 | .tuple [.int s,.none,.int a]=>eG (max s (g - a)) none
 | .tuple [.int s,.int e,.int a]=>eG (max s (g - a)) (some e)
 | _=>false
noncomputable def rZ(g:Int)(d:PyData):PyData:=match d with
 | .tuple [.int s,_,.int a]=>.int (max s (g - a))
 | _=>.none
theorem Cf(g:Int)(p:Int×Option Int×Int):rY g (ej p)=eG (max p.1 (g - p.2.2)) p.2.1:=by obtain⟨s,e,a⟩:=p;cases e<;>rfl
theorem Cg(g:Int)(p:Int×Option Int×Int):rZ g (ej p)=.int (max p.1 (g - p.2.2)):=by obtain⟨s,e,a⟩:=p;cases e<;>rfl
theorem OB{a g:Int}{b:Sh}(h:b.length<=6):ro [.dat (bz a b),.dat (.int g)]=.rt (.dat (.int (fx g 0 a b))) []:=by
 have sz:1000<sizeLine:=by decide
 have c:=rV (t:=vi) (e:=vj) (g:=dR 3 (cp (ay 0) (cp (ay 1) (cp (ay 2) dQ)))) (p:=rY g) (f:=rZ g) (P:=fun U=>∃x y z,U=[x,y,z,some (.dat (.int g))]) (its:=(aW 0 a b).map ej) (ys:=[]) (U:=[none,none,none,some (.dat (.int g))]) ⟨_,_,_,rfl⟩ (fun d hd U i=>by
  obtain⟨p,_,rfl⟩:=List.mem_map.mp hd;obtain⟨x,y,z,rfl⟩:=i;refine⟨[some (.dat (.int p.1)),some (.dat (cT p.2.1)),some (.dat (.int p.2.2)),some (.dat (.int g))],[some (.dat (.int p.1)),some (.dat (cT p.2.1)),some (.dat (.int p.2.2)),some (.dat (.int g))],[some (.dat (.int p.1)),some (.dat (cT p.2.1)),some (.dat (.int p.2.2)),some (.dat (.int g))],by simp[ej],by simp[vi,rW,Cf],⟨_,_,_,rfl⟩,fun _=>⟨by simp[vj,Cg],⟨_,_,_,rfl⟩⟩⟩) (by simp[pd];omega)
 have f1:(((aW 0 a b).map ej).filter (rY g)).map (rZ g)=(lc g (aW 0 a b)).map PyData.int:=by unfold lc;have j:rZ g∘ej=fun p=>.int (max p.1 (g - p.2.2)):=funext (Cg g);have k:rY g∘ej=fun p=>eG (max p.1 (g - p.2.2)) p.2.1:=funext (Cf g);rw[List.filter_map,List.map_map,List.map_map,j,k];rfl
 have l:(lc g (aW 0 a b)).length<=7:=by unfold lc;rw[List.length_map];exact Nat.le_trans (List.length_filter_le _ _) (by rw[pd];omega)
 obtain⟨t,e⟩:=Bv g b 0 a;rw[f1,e] at c;rw[e,List.length_cons] at l;simp only[List.nil_append,List.map_cons] at c;simp[ro,vk,Ca h,c,show t.length+1<=sizeLine by omega]
theorem Ci{a h:Int}{b:Sh}:oI [.dat (bz a b),.dat (.int h)]=.rt (.dat (.int (fG a b h))) []:=by simp[oI,vn,Oi,fG,kA]
theorem OC{a h:Int}{b:Sh}{c:Nat}(d:b.length<=6):rz [.dat (bz a b),.dat (.int h),.dat (.int c)]=.rt (.dat (.int (fH a b h c))) []:=by simp[rz,vt,Ci,OB d,fH,iX]
theorem OD{i j:Int}(a:-1000000<=j)(b:j<=1000000):iX i j=true:=by unfold iX;rw[decide_eq_true (show -(2 ^ 64)<j by omega),decide_eq_true (show j<2 ^ 64 by omega)];simp
theorem OE{z:PyData}{f s c:Int}(a:1<=s)(b:s<=999):hJ [.dat z,.dat (el (.every f s)),.dat (.int c)]=.rt (.dat (.int (f+c * s))) []:=by simp[hJ,lp,ek fZ eH,ek fZ fZ,OD (i:=c) (show -1000000<=s by omega) (show s<=1000000 by omega)]
theorem wB{a:Int}{ss:Sh}{p:aR}{c:Nat}(b:ss.length<=6)(ok:br p):hJ [.dat (bz a ss),.dat (el p),.dat (.int c)]=.rt (.dat (cT (cf a ss p c))) []:=by
 cases p with
 | once m=>
  by_cases e:c=0
  ·subst e;simp[hJ,lp,ek eH eH,mM,cf,cT]
  ·simp[hJ,lp,ek eH eH,mM,cf,cT,e]
 | every f s=>exact OE ok.2.1 ok.2.2
 | daily h=>simp[hJ,lp,ek jn eH,ek jn fZ,cf,cT,OC b]
theorem wC{a first last:Int}{b:Sh}{p:aR}{n:Nat}(g:b.length<=6)(ok:br p)(u:bh a b p last n):∀(k c:Nat) (d:List PyData) (fuel:Nat),c+k=n->k<fuel->d.length+k<=50000->∃y f,gr lu jW fuel [some (.dat (bz a b)),some (.dat (el p)),some (.dat (.int first)),some (.dat (.int last)),some (.own false (.l d)),some (.dat (.int c)),some (.dat (cT (cf a b p c)))]=.nx [some (.dat (bz a b)),some (.dat (el p)),some (.dat (.int first)),some (.dat (.int last)),some (.own false (.l (d++((List.range' c k).filter fun c=>decide (first<=dw a b p c)).map (pf a b p)))),y,f]
 | 0,c,d,fuel+1,r,s,hd=>by
  obtain rfl:c=n:=by omega
  refine⟨some (.dat (.int c)),some (.dat (cT (cf a b p c))),?_⟩;unfold gr;rcases u.out with e | ⟨v,e,o⟩
  ·rw[e];simp[lu,cT,gM,isNone]
  ·rw[e];simp[lu,cT,gM,isNone,show ¬ v<=last by omega]
 | k+1,c,d,fuel+1,r,s,hd=>by
  have sz:1000000<sizeLine:=by decide
  obtain⟨v,e,o⟩:=u.in_ c (by omega);have i:dw a b p c=v:=by unfold dw;rw[e];rfl
  have q:∀x,lu [some (.dat (bz a b)),some (.dat (el p)),some (.dat (.int first)),some (.dat (.int last)),x,some (.dat (.int c)),some (.dat (.int v))]=.ok true [some (.dat (bz a b)),some (.dat (el p)),some (.dat (.int first)),some (.dat (.int last)),x,some (.dat (.int c)),some (.dat (.int v))]:=fun x=>by simp[lu,gM,isNone,o]
  have rt:=wB (a:=a) (ss:=b) (p:=p) (c:=c+1) g ok;simp only[Int.natCast_add,Int.natCast_one] at rt
  by_cases h:first<=v
  ·obtain⟨y,f,j⟩:=wC (first:=first) g ok u k (c+1) (d++[pf a b p c]) fuel (by omega) (by omega) (by simp;omega);refine⟨y,f,?_⟩;unfold gr;rw[e,cT,q];have m:jW [some (.dat (bz a b)),some (.dat (el p)),some (.dat (.int first)),some (.dat (.int last)),some (.own false (.l d)),some (.dat (.int c)),some (.dat (.int v))]=.nx [some (.dat (bz a b)),some (.dat (el p)),some (.dat (.int first)),some (.dat (.int last)),some (.own false (.l (d++[pf a b p c]))),some (.dat (.int ((c+1:Nat):Int))),some (.dat (cT (cf a b p (c+1))))]:=by simp[jW,h,rt,show d.length<sizeLine by omega,i]
   simp only[ed,if_true,m];rw[j,List.range'_succ,List.filter_cons,if_pos (by rw[i];exact decide_eq_true h)];simp
  ·obtain⟨y,f,j⟩:=wC (first:=first) g ok u k (c+1) d fuel (by omega) (by omega) (by omega);refine⟨y,f,?_⟩;unfold gr;rw[e,cT,q];have m:jW [some (.dat (bz a b)),some (.dat (el p)),some (.dat (.int first)),some (.dat (.int last)),some (.own false (.l d)),some (.dat (.int c)),some (.dat (.int v))]=.nx [some (.dat (bz a b)),some (.dat (el p)),some (.dat (.int first)),some (.dat (.int last)),some (.own false (.l d)),some (.dat (.int ((c+1:Nat):Int))),some (.dat (cT (cf a b p (c+1))))]:=by simp[jW,h,rt]
   simp only[ed,if_true,m];rw[j,List.range'_succ,List.filter_cons,if_neg (by rw[i];simpa using h)]
theorem OF{a first last:Int}{e:Sh}{p:aR}{n:Nat}(z:cP a e)(ok:br p)(f:0<=first/\first<=9999)(h:0<=last/\last<=9999)(u:bh a e p last n):rG [.dat (bz a e),.dat (el p),.dat (.int first),.dat (.int last)]=.rt (.own false (.l ((iG a e p first n).map (pf a e p)))) []:=by have b:=u.le;obtain⟨y,i,g⟩:=wC (first:=first) z.len ok u n 0 [] 100000 (by omega) (by omega) (by simp;omega);rw[List.nil_append,<-List.range_eq_range'] at g;have rt:=wB (a:=a) (ss:=e) (p:=p) (c:=0) z.len ok;simp only[Int.natCast_zero] at rt g;simp[rG,vJ,wy z,OA ok,oZ (d:=.int first) rfl,oZ (d:=.int last) rfl,dW,f.1,f.2,h.1,h.2,rt,g,iG]
theorem Cj{l:List Int}(h:l≠[]):∃M,M∈l/\(∀x∈l,x<=M)/\jb [.list (l.map PyData.int)]=some (.int M):=by
 have key:∀(r:List Int) (i:Int),(∀x∈i::r,x<=r.foldl max i)/\r.foldl max i∈i::r:=fun r=>by
  induction r with
  | nil=>intro i;simp
  | cons j r c=>
   intro i;obtain⟨b,h2⟩:=c (max i j);have h3:=b (max i j) List.mem_cons_self;refine⟨fun x a=>?_,?_⟩
   ·simp only[List.foldl_cons];rcases List.mem_cons.mp a with rfl | a
    ·omega
    ·rcases List.mem_cons.mp a with rfl | a
     ·omega
     ·exact b x (bq _ a)
   ·simp only[List.foldl_cons];rcases List.mem_cons.mp h2 with e | e
    ·rw[e];rcases Int.le_total i j with q | q
     ·rw[Int.max_eq_right q];simp
     ·rw[Int.max_eq_left q];simp
    ·exact bq _ (bq _ e)
 cases l with
 | nil=>exact absurd rfl h
 | cons i r=>obtain⟨b,h2⟩:=key r i;exact⟨_,h2,b,by unfold jb;simp only[pZ];rfl⟩
noncomputable def se(m:Int)(d:PyData):Bool:=match d with
 | .tuple (.int s::_)=>decide (s<=m)
 | _=>false
noncomputable def ph(m:Int)(d:PyData):PyData:=match d with
 | .tuple [.int _,.none,.int a]=>.int (m+a)
 | .tuple [.int _,.int e,.int a]=>.int ((if decide (m<e)=true then m else e - 1)+a)
 | _=>.none
theorem Ck(m:Int)(p:Int×Option Int×Int):se m (ej p)=decide (p.1<=m):=rfl
theorem Cm(m:Int)(p:Int×Option Int×Int):ph m (ej p)=.int ((if eG m p.2.1=true then m else p.2.1.getD 0 - 1)+p.2.2):=by obtain⟨s,e,a⟩:=p;cases e<;>simp[ph,ej,cT,eG]
theorem OG{a m:Int}{i:Sh}(j:i.length<=6)(k:fw 0 i)(l:0<=m):∃f,rp [.dat (bz a i),.dat (.int m)]=.rt (.dat (.int f)) []/\(∃t,0<=t/\t<=m/\dq a i t=f)/\∀t,0<=t->t<=m->dq a i t<=f:=by
 have sz:1000<sizeLine:=by decide
 have c:=rV (t:=vl) (e:=oH) (g:=dR 3 (cp (ay 0) (cp (ay 1) (cp (ay 2) dQ)))) (p:=se m) (f:=ph m) (P:=fun U=>∃x y z,U=[x,y,z,some (.dat (.int m))]) (its:=(aW 0 a i).map ej) (ys:=[]) (U:=[none,none,none,some (.dat (.int m))]) ⟨_,_,_,rfl⟩ (fun d hd U n=>by
  obtain⟨p,_,rfl⟩:=List.mem_map.mp hd;obtain⟨x,y,z,rfl⟩:=n;refine⟨[some (.dat (.int p.1)),some (.dat (cT p.2.1)),some (.dat (.int p.2.2)),some (.dat (.int m))],[some (.dat (.int p.1)),some (.dat (cT p.2.1)),some (.dat (.int p.2.2)),some (.dat (.int m))],[some (.dat (.int p.1)),some (.dat (cT p.2.1)),some (.dat (.int p.2.2)),some (.dat (.int m))],by simp[ej],by simp[vl,Ck],⟨_,_,_,rfl⟩,fun _=>⟨?_,⟨_,_,_,rfl⟩⟩⟩;rw[Cm];obtain⟨s,e,b⟩:=p;cases e with
  | none=>simp[oH,rW,eG]
  | some e=>
   by_cases h:m<e
   ·simp[oH,rW,eG,h]
   ·have h1:=rW (m:=m) (e:=some e);simp only[cT,eG] at h1;simp[oH,h1,eG,h,cT]) (by simp[pd];omega)
 have f1:(((aW 0 a i).map ej).filter (se m)).map (ph m)=(gB m (aW 0 a i)).map PyData.int:=by unfold gB;have o:ph m∘ej=fun p=>.int ((if eG m p.2.1=true then m else p.2.1.getD 0 - 1)+p.2.2):=funext (Cm m);have q:se m∘ej=fun p=>decide (p.1<=m):=funext (Ck m);rw[List.filter_map,List.map_map,List.map_map,o,q];rfl
 obtain⟨g1,g2⟩:=BB (m:=m) i 0 a k;obtain⟨B,r,_⟩:=g2 0 (Int.le_refl _) l;obtain⟨M,h1,h2,h3⟩:=Cj (List.ne_nil_of_mem r);rw[f1] at c;simp only[List.nil_append] at c;have C:(gB m (aW 0 a i)).length<=7:=by unfold gB;rw[List.length_map];exact Nat.le_trans (List.length_filter_le _ _) (by rw[pd];omega)
 refine⟨M,by simp[rp,vm,Ca j,c,h3,show(gB m (aW 0 a i)).length<=sizeLine by omega],g1 M h1,fun t u v=>?_⟩;obtain⟨x,w,A⟩:=g2 t u v;exact Int.le_trans A (h2 x w)
theorem OH{a m:Int}{d:Sh}{p:aR}{n:Nat}(z:cP a d)(ok:br p)(u:bh a d p m n):jk [.dat (bz a d),.dat (el p),.dat (.int m)]=.rt (.dat (.int n)) []:=by
 by_cases k:m<0
 ·have j:n=0:=by refine Nat.eq_zero_of_not_pos fun h=>?_;obtain⟨v,i,q⟩:=u.in_ 0 h;have:=MY z ok i;omega
  subst j;simp[jk,jV,k]
 cases p with
 | once x=>
  by_cases e:x<=m
  ·have j:n=1:=by
    rcases Nat.lt_trichotomy n 1 with h | h | h
    ·have r:n=0:=by omega
     subst r;rcases u.out with h | ⟨v,h,i⟩
     ·rw[cf,if_pos rfl] at h;cases h
     ·rw[cf,if_pos rfl] at h;cases h;omega
    ·exact h
    ·obtain⟨v,i,_⟩:=u.in_ 1 h;rw[cf,if_neg (by decide)] at i;cases i
   subst j;simp[jk,jV,k,ek eH eH,e]
  ·have j:n=0:=by refine Nat.eq_zero_of_not_pos fun h=>?_;obtain⟨v,i,q⟩:=u.in_ 0 h;rw[cf,if_pos rfl] at i;cases i;omega
   subst j;simp[jk,jV,k,ek eH eH,e]
 | every f s=>
  obtain⟨D,E,G⟩:=id ok;have w:=Nb (by omega) u;have y:max 0 ((m - f) / s+1)=(n:Int):=by
   rw[w];unfold uZ;rw[show m+1 - f - 1=m - f by omega]
   by_cases h:f<m+1
   ·rw[if_pos h];have:=Int.ediv_nonneg (show 0<=m - f by omega) (show 0<=s by omega);omega
   ·rw[if_neg h];have:(m - f) / s<0:=Int.ediv_neg_of_neg_of_pos (by omega) (by omega);omega
  simp[jk,jV,k,ek fZ eH,ek fZ fZ,kA,show 0<s by omega,show s<1073741824 by omega,y]
 | daily b=>
  obtain⟨f,A,⟨t,B,C,H⟩,f2⟩:=OG (a:=a) z.len z.rise (show 0<=m by omega);have key:∀c:Nat,fH a d b c<=m↔(fG a d b+c) * 24+b<=f:=fun c=>by
   obtain⟨g1,g2,g3⟩:=lb (g:=(fG a d b+c) * 24+b) (a:=a) z.rise;have e:fH a d b c=fx ((fG a d b+c) * 24+b) 0 a d:=rfl;rw[e];constructor
   ·intro h;exact Int.le_trans g2 (f2 _ g1 h)
   ·intro h;refine Int.le_trans (Int.not_lt.mp fun l=>?_) C;have:=g3 t B l;omega
  have fd:=Bw (a:=a) (h:=b) (ss:=d);have I:=f2 0 (Int.le_refl _) (by omega);have j:(f - b) / 24 - fG a d b+1=((n:Nat):Int):=by
   have h1:¬ (fG a d b+n) * 24+b<=f:=fun h=>by have q:=(key n).mpr h;have:=BA (p:=.daily b) (v:=fH a d b n) z ok u (aZ _) rfl;omega
   by_cases J:0<n
   ·obtain⟨v,i,o⟩:=u.in_ (n - 1) (by omega);cases i;have h2:=(key (n - 1)).mp o;omega
   ·omega
  simp[jk,jV,k,ek jn eH,ek jn fZ,A,kA,Ci,j]
theorem Cn{k b:List aM}{v:PyData}:∀a:dc,(cE false a k).isSome=true->cE false (iC false k v a) b = if b = k then some v else cE false a b
 | [],h=>by cases h
 | p::r,h=>by
  unfold iC cE;unfold cE at h
  by_cases e:dS false p.1=some k
  ·rw[if_pos e]
   by_cases c:b = k
   ·subst c;simp[e]
   ·have d:¬ k=b:=fun z=>c z.symm;have this:∀a:dc,cE false (iC false k v a) b = cE false a b:=fun a=>by
     induction a with
     | nil=>rfl
     | cons q s f=>
      unfold iC cE
      by_cases g:dS false q.1=some k
      ·simp[g,d,f]
      ·simp[g,f]
    simp[e,c,d,this]
  ·rw[if_neg e] at h ⊢;rw[Cn r h]
   by_cases c:b = k
   ·subst c;simp[e]
   ·simp[c]
theorem OI{k b:List aM}{v d:PyData}{a:dc}(hd:dS false d=some k):cE false (fF false a d k v) b = if b = k then some v else cE false a b:=by
 unfold fF
 by_cases h:(cE false a k).isSome=true
 ·rw[if_pos h,Cn a h]
 ·rw[if_neg h];have f:cE false a k=none:=by simpa using h
  have:∀a:dc,cE false (a++[(d,v)]) b = (cE false a b).or (if b = k then some v else none):=fun a=>by
   induction a with
   | nil=>
    show(if dS false d=some b then some v else none)=_;rw[hd]
    by_cases e:b = k
    ·subst e;simp[cE]
    ·rw[if_neg (by simpa using fun z=>e z.symm),if_neg e];rfl
   | cons q s g=>
    rw[List.cons_append];unfold cE
    by_cases c:dS false q.1=some b
    ·simp[c]
    ·simp[c,g]
  rw[this]
  by_cases e:b = k
  ·subst e;simp[f]
  ·simp[e]
theorem Co{k:List aM}{v:PyData}:∀a:dc,(iC false k v a).length=a.length
 | []=>rfl
 | p::r=>by unfold iC;simp[Co r]
theorem OJ{k:List aM}{v d:PyData}{kvs:dc}:(fF false kvs d k v).length<=kvs.length+1:=by
 unfold fF;split
 ·rw[Co];omega
 ·simp
def IsT(o:eP):Prop:=∃x r,o=.rt (.dat (.bool true)) (x::r)
theorem eI{m k:SM}{U a:ao}(h:m U=.nx a)(q:IsT (k a)):IsT (aB m k U):=by rw[Oy h];exact q
theorem OK{m:SM}{n:Nat}{a:List Int}(h:IsT (m (some (.scr a)::List.replicate n none))):bL 1 (n+1) m [.scr a]=.rt (.dat (.bool true)) []:=by obtain⟨x,r,e⟩:=h;simp[e]
theorem mO(i:Int)(r:Nat):L3.intsFrom i (r+1)=.int i::L3.intsFrom (i+1) r:=by
 unfold L3.intsFrom;rw[List.range_succ_eq_map,List.map_cons,List.map_map]
 congr 1
 ·simp
 ·apply List.map_congr_left;intro k _;simp;omega
theorem OL{ns:List Int}{t:List PyData}{wd:Int}(a:ns.length<=63)(o:t.length<=900)(d:0<wd/\wd<=10000):∃p t',br p/\(match p with | .once m=>m<wd | .every f s=>f<wd/\s<=200 | .daily _=>True)/\t'.length<=t.length+4/\ls [.scr ns,.own true (.l t),.dat (.int wd)]=.rt (.dat (el p)) [.l t']:=by
 obtain⟨k,q,r,h1⟩:=gC (ns:=ns) (t:=t) (many:=3) a (by omega) (by omega)
 by_cases e:k=0
 ·obtain⟨m,c,g,h2⟩:=gC (ns:=ns) (t:=t++[.int 0]) (many:=wd) a (by simp;omega) d.1;exact⟨.once m,t++[.int 0]++[.int 0],⟨c,by omega⟩,g,by simp,by simp only[List.append_assoc,List.cons_append,List.nil_append] at h1 h2;simp[ls,oO,h1,h2,mM,e]⟩
 ·by_cases h:k=1
  ·obtain⟨w,b,h2⟩:=wz (ns:=ns) (t:=t++[.int 0]) (ds:=[.int 3,.int 30,.int 200]) a (by simp;omega) (by simp) (by simp);have:∃i:Int,w=.int i/\0<i/\i<=200:=by simp only[List.mem_cons,List.not_mem_nil,or_false] at b;rcases b with rfl | rfl | rfl<;>exact⟨_,rfl,by omega,by omega⟩
   obtain⟨i,rfl,n,u⟩:=this;obtain⟨s,v,x,h3⟩:=gC (ns:=ns) (t:=t++[.int 0]++[.int 0]) (many:=i) a (by simp;omega) n;obtain⟨f,f1,f2,j⟩:=gC (ns:=ns) (t:=t++[.int 0]++[.int 0]++[.int 0]) (many:=wd) a (by simp;omega) d.1;refine⟨.every f (1+s),t++[.int 0]++[.int 0]++[.int 0]++[.int 0],⟨⟨f1,by omega⟩,by omega,by omega⟩,⟨f2,by omega⟩,by simp,?_⟩;simp only[List.append_assoc,List.cons_append,List.nil_append] at h1 h2 h3 j;simp[ls,oO,h1,h2,h3,j,mM,e,h]
  ·obtain⟨m,c,g,h2⟩:=gC (ns:=ns) (t:=t++[.int 0]) (many:=24) a (by simp;omega) (by omega);refine⟨.daily m,t++[.int 0]++[.int 0],⟨c,by omega⟩,trivial,by simp,?_⟩;simp only[List.append_assoc,List.cons_append,List.nil_append] at h1 h2;simp[ls,oO,h1,h2,mM,e,h]
@[simp] theorem Qj:eh .none=true:=by simp only[eh]
@[simp] theorem Qk(i:Int):eh (.int i)=true:=by simp only[eh]
@[simp] theorem Ql(b:Bool):eh (.bool b)=true:=by simp only[eh]
@[simp] theorem Qm(x:Str):eh (.str x)=true:=by simp only[eh]
@[simp] theorem Qn(l:List PyData):eh (.tuple l)=true:=by simp only[eh]
@[simp] theorem Qo(l:List PyData):eh (.list l)=true:=by simp only[eh]
inductive iK where
 | all | last | within (n:Int)
structure bj where
 plan:aR
 late:iK
 again:Bool
noncomputable abbrev Cp:iK->PyData
 | .all=>.str "all"
 | .last=>.str "last"
 | .within n=>.tuple [.str "within",.int n]
noncomputable abbrev cL(d:bj):PyData:=.tuple [el d.plan,Cp d.late,.bool d.again]
@[irreducible] noncomputable def df(a:List bj):PyData:=.tuple (a.map cL)
noncomputable def Cq:Option Int->PyData
 | none=>.none
 | some i=>.int i
noncomputable def Cr:Option (Nat×Nat×Int)->PyData
 | none=>.none
 | some (d,c,h)=>.tuple [.int d,.int c,.int h]
section
variable{C:Addr}{io:Bool}{S:Hl}{U:ao}
@[simp] theorem Qp:isNone .none=true:=by simp only[isNone]
@[simp] theorem Qq(i:Int):isNone (.int i)=false:=by simp only[isNone]
@[simp] theorem Qr(b:Bool):isNone (.bool b)=false:=by simp only[isNone]
@[simp] theorem Qs(x:Str):isNone (.str x)=false:=by simp only[isNone]
@[simp] theorem Qt(l:List PyData):isNone (.tuple l)=false:=by simp only[isNone]
@[simp] theorem Qu(l:List PyData):isNone (.list l)=false:=by simp only[isNone]
@[simp] theorem Qv(x:Option Int):isNone (Cq x)=x.isNone:=by cases x<;>simp[Cq]
@[simp] theorem Qw(x:Option (Nat×Nat×Int)):isNone (Cr x)=x.isNone:=by rcases x with _ | ⟨_,_,_⟩<;>simp[Cr]
end
theorem wD:PyData.strOk "all" = true:=by decide +kernel
theorem wE:PyData.strOk "last" = true:=by decide +kernel
theorem Cs:PyData.strOk "within" = true:=by decide +kernel
theorem OM:(("all":Str)==("all":Str))=true:=by decide +kernel
theorem ON:(("last":Str)==("all":Str))=false:=by decide +kernel
theorem OO:(("last":Str)==("last":Str))=true:=by decide +kernel
section
variable{C:Addr}{S:Hl}
noncomputable abbrev aF(r:List Int):PyData:=.tuple (r.map PyData.int)
theorem Ct:∀a:List Int,fm (a.map PyData.int)=some a
 | []=>rfl
 | n::a=>by rw[List.map_cons,fm,Ct a];rfl
theorem wF:∀a:List (List Int),gW (a.map aF)=some a
 | []=>rfl
 | r::a=>by rw[List.map_cons,gW,Ct,wF a]
noncomputable def iM:List (List Int)->PyData
 | []=>.none
 | r::a=>aF (dL a r)
end
@[simp] theorem Qx:cy "tuple" "str" = some false:=by decide
@[simp] theorem Qy:cy "tuple" "bool" = some false:=by decide
@[simp] theorem Qz:cy "tuple" "list" = some false:=by decide
@[simp] theorem QA:cy "list" "str" = some false:=by decide
@[simp] theorem QB:cy "list" "bool" = some false:=by decide
@[simp] theorem QD:cy "list" "list" = some true:=by decide
@[simp] theorem QE:cy "NoneType" "str" = some false:=by decide
@[simp] theorem QF:cy "NoneType" "bool" = some false:=by decide
@[simp] theorem QG:cy "NoneType" "list" = some false:=by decide
@[simp] theorem QH:cy "int" "str" = some false:=by decide
@[simp] theorem QI:cy "int" "list" = some false:=by decide
@[simp] theorem QJ:cy "bool" "str" = some false:=by decide
@[simp] theorem QK:cy "bool" "list" = some false:=by decide
@[simp] theorem QL:cy "str" "bool" = some false:=by decide
@[simp] theorem QM:cy "str" "list" = some false:=by decide
theorem wG(a b:Bool):aT true (.bool a) (.bool b)=some (.bool (a != b)):=by cases a<;>cases b<;>rfl
noncomputable def gc:iK->Prop
 | .within n=>0<=n/\n<=999
 | _=>True
theorem OP{x:iK}(ok:gc x):lm [.dat (Cp x)]=.rt (.dat (.bool true)) []:=by
 cases x with
 | all=>simp[lm,oM,ek wD wD,OM]
 | last=>simp[lm,oM,ek wE wD,ek wE wE,ON,OO]
 | within n=>
  have a:(("within":Str)==("within":Str))=true:=by decide +kernel
  simp[lm,oM,ke Cs Cs,a,kc (d:=.int n) rfl,dW,ok.1,ok.2]
theorem OQ{d:bj}(a:br d.plan)(b:gc d.late):rB [.dat (cL d)]=.rt (.dat (.bool true)) []:=by have h1:=Ce a;have h2:=OP b;simp[rB,vA,oY,eZ,h1,h2]
theorem Cu:∀(b:List bj) (a:List PyData) (U:ao),(∃x,U=[x])->(∀d∈b,br d.plan/\gc d.late)->a.length+b.length<=sizeLine->cZ (ay 0) ef rE (b.map cL) a U=some (a++(b.map fun _=>PyData.bool true))
 | [],a,U,_,_,_=>by simp[cZ]
 | d::b,a,U,⟨x,c⟩,h,e=>by
  subst c;simp only[List.length_cons] at e;have hd:=h d List.mem_cons_self;have f:=Cu b (a++[.bool true]) [some (.dat (cL d))] ⟨_,rfl⟩ (fun x c=>h x (bq _ c)) (by simp;omega);have g:rE [some (.dat (cL d))]=.ok (.bool true) [some (.dat (cL d))]:=by simp[rE,OQ hd.1 hd.2]
  rw[List.map_cons,cZ];simp[ef,g,show a.length<sizeLine by omega,f]
theorem Cv:∀n:Nat,bools? (List.replicate n (PyData.bool true))=some (List.replicate n true)
 | 0=>rfl
 | n+1=>by rw[List.replicate_succ,bools?,Cv n];rfl
theorem Cw{a:List bj}(c:a.length<=6)(h:∀d∈a,br d.plan/\gc d.late):oP [.dat (df a)]=.rt (.dat .none) []:=by
 have sz:1000<sizeLine:=by decide
 have g:=Cu a [] [none] ⟨_,rfl⟩ h (by simp;omega);rw[List.nil_append,List.map_const'] at g;have b:kE [.list (List.replicate a.length (PyData.bool true))]=some (.bool true):=by simp[kE,Cv]
 unfold df;simp[-kE,oP,vI,vF,vE,g,b,show ¬ (6:Int)<a.length by omega,show a.length<=sizeLine by omega]
noncomputable def gD:Nat->List PyData->List PyData
 | _,[]=>[]
 | k,d::a=>.tuple [.int k,d]::gD (k+1) a
theorem Cy:∀(a:List PyData) (k:Nat),(a.mapIdx fun i d=>PyData.tuple [.int ((i+k:Nat):Int),d])=gD k a
 | [],_=>rfl
 | d::a,k=>by
  rw[List.mapIdx_cons,gD,<-Cy a (k+1),Nat.zero_add]
  congr 1
  apply List.ext_getElem?;intro i;simp only[List.getElem?_mapIdx]
  congr 1
  funext x;rw[show i+1+k=i+(k+1) by omega]
theorem Cz(a:List PyData):numbered a=gD 0 a:=by rw[<-Cy];rfl
noncomputable def aX(a:Int)(b:Sh)(first:Int)(un:aR->Nat):Nat->List bj->List (List Int)
 | _,[]=>[]
 | i,d::e=>((iG a b d.plan first (un d.plan)).map fun c=>[dw a b d.plan c,(i:Int),(c:Int)])++aX a b first un (i+1) e
theorem wH{a last:Int}{b:Sh}(z:cP a b)(c:last<=9999):∃un:aR->Nat,∀p,br p->bh a b p last (un p):=by refine⟨fun p=>Classical.epsilon fun n=>bh a b p last n,fun p ok=>?_⟩;exact Classical.epsilon_spec (MZ z ok c)
theorem sf{a first:Int}{e:Sh}{un:aR->Nat}:∀(b:List bj) (i:Nat),∀r∈aX a e first un i b,∃x y w,r=[x,y,w]
 | [],_,r,h=>by cases h
 | d::b,i,r,h=>by
  rw[aX] at h;rcases List.mem_append.mp h with h | h
  ·obtain⟨c,_,rfl⟩:=List.mem_map.mp h;exact⟨_,_,_,rfl⟩
  ·exact sf b (i+1) r h
theorem sg{a first last:Int}{c:Sh}{un:aR->Nat}(e:∀p,br p->bh a c p last (un p)):∀(b:List bj) (i:Nat),(∀d∈b,br d.plan)->(aX a c first un i b).length<=20000 * b.length
 | [],_,_=>by simp[aX]
 | d::b,i,h=>by have j:=sg (first:=first) e b (i+1) fun x g=>h x (bq _ g);have l1:=va (a:=a) (f:=first) (ss:=c) (p:=d.plan) (n:=un d.plan);have l2:=(e d.plan (h d List.mem_cons_self)).le;rw[aX,List.length_append,List.length_map,List.length_cons];omega
theorem wI{a first last:Int}{f:Sh}{un:aR->Nat}(g:∀p,br p->bh a f p last (un p)):∀(e:List bj) (i:Nat),(∀d∈e,br d.plan)->∀r∈aX a f first un i e,∃x y w,r=[x,y,w]/\first<=x/\x<=last
 | [],_,_,r,h=>by cases h
 | d::e,i,h,r,b=>by
  rw[aX] at b;rcases List.mem_append.mp b with b | b
  ·obtain⟨c,j,rfl⟩:=List.mem_map.mp b;unfold iG at j;obtain⟨o,h2⟩:=List.mem_filter.mp j;obtain⟨v,k,l⟩:=(g d.plan (h d List.mem_cons_self)).in_ c (List.mem_range.mp o);have m:dw a f d.plan c=v:=by unfold dw;rw[k];rfl
   exact⟨_,_,_,rfl,by simpa using h2,by rw[m];exact l⟩
  ·exact wI g e (i+1) (fun x n=>h x (bq _ n)) r b
theorem OR{L:List (List Int)}(h:∀r∈L,r≠[]):kY [.list (L.map aF)]=some (.list ((TS.sortR L).map aF)):=by
 unfold kY;dsimp only;cases L with
 | nil=>unfold ox;simp[fm,fY,TS.sortR]
 | cons r L=>
  have e:fm ((r::L).map aF)=none:=by rw[List.map_cons];rfl
  have a:((r::L).all fun r=>!r.isEmpty)=true:=by
   rw[List.all_eq_true];intro x b;have:=h x b;cases x with
   | nil=>exact absurd rfl this
   | cons _ _=>rfl
  unfold ox;rw[e,wF];simp only[a,if_true,Option.map_some]
theorem OS(l:List Int):PyData.canLayAll0 (l.map PyData.int)=true:=by induction l with | nil=>rfl | cons x r a=>simpa[PyData.canLayAll0,PyData.canLay0] using a
theorem OT(l:List Int):PyData.depthAll (l.map PyData.int)=0:=by induction l with | nil=>rfl | cons x r a=>simpa[PyData.depthAll,PyData.depth] using a
theorem OU(r:List Int):SeqAt.shaped (aF r)=true:=by unfold SeqAt.shaped;simp[PyData.canLay0,PyData.depth,OS,OT]
theorem CB{z0 z1 z2 z3 z6:Option aj}{a:Int}{ss:Sh}{p:aR}{i:Int}:∀(l:List Nat) (d:List PyData) (e f:Option aj),d.length+l.length<=500000->∃g j,bR (dR 2 (cp (ay 7) (cp (ay 8) dQ))) oQ (l.map (pf a ss p)) [z0,z1,z2,z3,some (.own false (.l d)),some (.dat (.int i)),z6,e,f]=.nx [z0,z1,z2,z3,some (.own false (.l (d++(l.map fun c=>aF [dw a ss p c,i,(c:Int)])))),some (.dat (.int i)),z6,g,j]
 | [],d,e,f,_=>⟨e,f,by simp[bR]⟩
 | c::l,d,e,f,h=>by
  have sz:1000000<sizeLine:=by decide
  simp only[List.length_cons] at h;obtain⟨g,j,k⟩:=CB (z0:=z0) (z1:=z1) (z2:=z2) (z3:=z3) (z6:=z6) (a:=a) (ss:=ss) (p:=p) (i:=i) l (d++[aF [dw a ss p c,i,(c:Int)]]) (some (.dat (.int c))) (some (.dat (.int (dw a ss p c)))) (by simp;omega);refine⟨g,j,?_⟩;rw[List.map_cons,bR];rw[List.append_assoc,List.singleton_append] at k;rw[List.map_cons,<-k];have b:oQ [z0,z1,z2,z3,some (.own false (.l d)),some (.dat (.int i)),z6,some (.dat (.int c)),some (.dat (.int (dw a ss p c)))]=.nx [z0,z1,z2,z3,some (.own false (.l (d++[aF [dw a ss p c,i,(c:Int)]]))),some (.dat (.int i)),z6,some (.dat (.int c)),some (.dat (.int (dw a ss p c)))]:=by simp[oQ,show d.length<sizeLine by omega]
  simp only[dR,cp,ay,dQ,List.length_cons,List.length_nil,if_true,Option.bind,List.set_cons_succ,List.set_cons_zero,b]
theorem CC{z1:Option aj}{a first last:Int}{g:Sh}{un:aR->Nat}(z:cP a g)(w:0<=first/\first<=9999)(y:0<=last/\last<=9999)(A:∀p,br p->bh a g p last (un p)):∀(j:List bj) (i:Nat) (e:List PyData) (o q k m:Option aj),(∀d∈j,br d.plan)->e.length+20000 * j.length<=500000->∃r s t v,bR (dR 2 (cp (ay 5) (cp (ay 6) dQ))) oR (gD i (j.map cL)) [some (.dat (bz a g)),z1,some (.dat (.int first)),some (.dat (.int last)),some (.own false (.l e)),o,q,k,m]=.nx [some (.dat (bz a g)),z1,some (.dat (.int first)),some (.dat (.int last)),some (.own false (.l (e++(aX a g first un i j).map aF))),r,s,t,v]
 | [],i,e,o,q,k,m,_,_=>⟨o,q,k,m,by simp[bR,gD,aX]⟩
 | d::j,i,e,o,q,k,m,h,E=>by
  simp only[List.length_cons] at E;have B:=h d List.mem_cons_self;have u:=A d.plan B;have rd:=OF z B w y u;have l1:=va (a:=a) (f:=first) (ss:=g) (p:=d.plan) (n:=un d.plan);have l2:=u.le;obtain⟨C,D,G⟩:=CB (z0:=some (.dat (bz a g))) (z1:=z1) (z2:=some (.dat (.int first))) (z3:=some (.dat (.int last))) (z6:=some (.dat (cL d))) (a:=a) (ss:=g) (p:=d.plan) (i:=(i:Int)) (iG a g d.plan first (un d.plan)) e k m (by omega);obtain⟨r,s,t,v,H⟩:=CC (z1:=z1) z w y A j (i+1) (e++((iG a g d.plan first (un d.plan)).map fun c=>aF [dw a g d.plan c,(i:Int),(c:Int)])) (some (.dat (.int i))) (some (.dat (cL d))) C D (fun x I=>h x (bq _ I)) (by simp;omega);refine⟨r,s,t,v,?_⟩;rw[List.map_cons,gD,bR,aX,List.map_append,List.map_map,<-List.append_assoc];have J:(aF∘fun c:Nat=>[dw a g d.plan c,(i:Int),(c:Int)])=fun c:Nat=>aF [dw a g d.plan c,(i:Int),(c:Int)]:=rfl;rw[J,<-H];have b:oR [some (.dat (bz a g)),z1,some (.dat (.int first)),some (.dat (.int last)),some (.own false (.l e)),some (.dat (.int i)),some (.dat (cL d)),k,m]=.nx [some (.dat (bz a g)),z1,some (.dat (.int first)),some (.dat (.int last)),some (.own false (.l (e++((iG a g d.plan first (un d.plan)).map fun c=>aF [dw a g d.plan c,(i:Int),(c:Int)])))),some (.dat (.int i)),some (.dat (cL d)),C,D]:=by rw[<-G];simp[oR,rd]
  simp only[dR,cp,ay,dQ,List.length_cons,List.length_nil,if_true,Option.bind,List.set_cons_succ,List.set_cons_zero,b]
theorem wJ{a first last:Int}{c:Sh}{un:aR->Nat}{b:List bj}(z:cP a c)(f:0<=first/\first<=9999)(g:0<=last/\last<=9999)(h:∀p,br p->bh a c p last (un p))(hd:∀d∈b,br d.plan)(j:b.length<=6) :
  lv [.dat (bz a c),.dat (df b),.dat (.int first),.dat (.int last)]=.rt (.dat (.list ((TS.sortR (aX a c first un 0 b)).map aF))) []:=by
 obtain⟨k,l,m,n,e⟩:=CC (z1:=some (.dat (.tuple (b.map cL)))) z f g h b 0 [] none none none none hd (by simp;omega);have ns:=OR (L:=aX a c first un 0 b) fun r i=>by obtain⟨_,_,_,rfl⟩:=sf b 0 r i;simp
 rw[List.nil_append] at e;unfold df;simp[lv,vK,Cz,e,ns]
theorem OV{first last:Int}(a:0<=first/\first<=last)(b:last<=9999):rD [.dat (.int first),.dat (.int last)]=.rt (.dat .none) []:=by simp[rD,vC,oZ (d:=.int first) rfl,oZ (d:=.int last) rfl,dW,a.1,show first<=9999 by omega,show 0<=last by omega,b,show ¬ last<first by omega]
theorem wK{a first last:Int}{c:Sh}{b:List bj}(z:cP a c)(e:0<=first/\first<=last)(f:last<=9999)(hd:∀d∈b,br d.plan/\gc d.late)(g:b.length<=6):lx [.dat (bz a c),.dat (df b),.dat (.int first),.dat (.int last)]=.rt (.dat .none) []:=by simp[lx,vL,wy z,Cw g hd,OV e f]
theorem OW{a first last:Int}{b:Sh}{un:aR->Nat}{c:List bj}(z:cP a b)(f:0<=first/\first<=last)(g:last<=9999)(i:∀p,br p->bh a b p last (un p))(hd:∀d∈c,br d.plan/\gc d.late)(h:c.length<=6) :
  oS [.dat (bz a b),.dat (df c),.dat (.int first),.dat (.int last)]=.rt (.dat (.list ((TS.sortR (aX a b first un 0 c)).map aF))) []:=by
 simp[oS,vN,wK z f g hd h,wJ z ⟨f.1,by omega⟩ ⟨by omega,g⟩ i (fun d e=>(hd d e).1) h]
def CN(a:dc)(T:List Int):Prop:=∀t:Int,cE false a [.inl t]=if T.count t=0 then none else some (.int (T.count t))
theorem CN.get{a:dc}{T:List Int}(h:CN a T)(t:Int):(cE false a [.inl t]).getD (.int 0)=.int (T.count t):=by
 rw[h t];split
 ·rename_i e;rw[e];rfl
 ·rfl
theorem CN.put{a:dc}{T:List Int}(h:CN a T)(t:Int):CN (fF false a (.int t) [.inl t] (.int ((T.count t:Int)+1))) (T++[t]):=fun t'=>by
 rw[OI rfl,h t',List.count_append,List.count_singleton]
 by_cases e:t' = t
 ·subst e;rw[if_pos rfl,if_neg (by simp)];simp[Int.natCast_add]
 ·have b:¬ ([Sum.inl t']:List aM)=[Sum.inl t]:=fun z=>e (by injection z with z;injection z);rw[if_neg b];have c:(t==t')=false:=by simp;exact fun z=>e z.symm
  simp[c]
noncomputable def bG(r:List Int):Int:=r.headD 0
theorem CF{z0 z1 z2 z3:Option aj}:∀(rows:List (List Int)) (a:dc) (T:List Int) (i:Option aj),(∀r∈rows,∃x y w,r=[x,y,w])->CN a T->a.length+rows.length<=500000->∃f j,bR (ay 5) oU (rows.map aF) [z0,z1,z2,z3,some (.own false (.m false a)),i]=.nx [z0,z1,z2,z3,some (.own false (.m false f)),j]/\CN f (T++rows.map bG)
 | [],a,T,i,_,h,_=>⟨a,i,by simp[bR],by simpa using h⟩
 | r::rows,a,T,i,n,h,o=>by
  have sz:1000000<sizeLine:=by decide
  simp only[List.length_cons] at o;obtain⟨t,u,v,rfl⟩:=n r List.mem_cons_self;have p:=OJ (kvs:=a) (k:=[.inl t]) (d:=.int t) (v:=.int ((T.count t:Int)+1));obtain⟨f,j,e,c⟩:=CF (z0:=z0) (z1:=z1) (z2:=z2) (z3:=z3) rows (fF false a (.int t) [.inl t] (.int ((T.count t:Int)+1))) (T++[t]) (some (.dat (aF [t,u,v]))) (fun r l=>n r (bq _ l)) (h.put t) (by omega);refine⟨f,j,?_,by simpa[bG] using c⟩;have g:=h.get t;have b:oU [z0,z1,z2,z3,some (.own false (.m false a)),some (.dat (aF [t,u,v]))]=.nx [z0,z1,z2,z3,some (.own false (.m false (fF false a (.int t) [.inl t] (.int ((T.count t:Int)+1))))),some (.dat (aF [t,u,v]))]:=by simp[oU,ux,qm,ql,fk,dS,fj,je,kL,g,show a.length<sizeLine by omega]
  rw[List.map_cons,bR,<-e];simp only[ay,List.length_cons,List.set_cons_succ,List.set_cons_zero,b]
theorem OX{a first last:Int}{g:Sh}{un:aR->Nat}{b:List bj}(z:cP a g)(i:0<=first/\first<=9999)(j:0<=last/\last<=9999)(h:∀p,br p->bh a g p last (un p))(hd:∀d∈b,br d.plan)(k:b.length<=6) :
  ∃f,rJ [.dat (bz a g),.dat (df b),.dat (.int first),.dat (.int last)]=.rt (.own false (.m false f)) []/\CN f ((aX a g first un 0 b).map bG):=by
 have l:=wJ z i j h hd k;have cl:=sg (first:=first) h b 0 hd;have pm:=TS.sortR_perm (aX a g first un 0 b);obtain⟨f,o,e,c⟩:=CF (z0:=some (.dat (bz a g))) (z1:=some (.dat (df b))) (z2:=some (.dat (.int first))) (z3:=some (.dat (.int last))) (TS.sortR (aX a g first un 0 b)) [] [] none (fun r n=>sf b 0 r (pm.mem_iff.mp n)) (fun t=>by simp[cE]) (by rw[pm.length_eq];simp;omega);refine⟨f,by simp[rJ,vQ,uv,l,e],fun t=>?_⟩;have:=c t;rw[List.nil_append,(pm.map bG).count_eq] at this;exact this
noncomputable def Wn(T:List Int)(b:Int)(w:Int):Int:=((T.countP fun t=>decide (b<=t/\t<b+w):Nat):Int)
theorem CG(T:List Int)(b:Int):Wn T b 0=0:=by
 unfold Wn;rw[List.countP_eq_zero.mpr]
 ·rfl
 ·intro t _;simp<;>omega
theorem sh{p:Prop}[Decidable p]:(if decide p=true then(1:Nat) else 0)=if p then 1 else 0:=by by_cases h:p<;>simp[h]
theorem wL(T:List Int)(b w:Int)(a:0<=w):Wn T b (w+1)=T.count b+Wn T (b+1) w:=by
 unfold Wn
 induction T with
 | nil=>rfl
 | cons t T c=>
  rw[List.countP_cons,List.countP_cons,List.count_cons,sh,sh];have e:(if (t==b)=true then(1:Nat) else 0)=if t=b then 1 else 0:=by by_cases h:t=b<;>simp[h]
  rw[e]
  by_cases h1:t=b
  ·rw[if_pos h1,if_pos (by omega),if_neg (by omega)];omega
  ·rw[if_neg h1]
   by_cases h2:b+1<=t/\t<b+1+w
   ·rw[if_pos h2,if_pos (by omega)];omega
   ·rw[if_neg h2,if_neg (by omega)];omega
theorem OY(T:List Int)(b w:Int)(a:0<=w):Wn T b (w+1)=Wn T b w+T.count (b+w):=by
 unfold Wn
 induction T with
 | nil=>rfl
 | cons t T c=>
  rw[List.countP_cons,List.countP_cons,List.count_cons,sh,sh];have e:(if (t==b+w)=true then(1:Nat) else 0)=if t=b+w then 1 else 0:=by by_cases h:t=b+w<;>simp[h]
  rw[e]
  by_cases h1:t=b+w
  ·rw[if_pos h1,if_pos (by omega),if_neg (by omega)];omega
  ·rw[if_neg h1]
   by_cases h2:b<=t/\t<b+w
   ·rw[if_pos h2,if_pos (by omega)];omega
   ·rw[if_neg h2,if_neg (by omega)];omega
theorem OZ(T:List Int)(b w:Int)(a:1<=w):Wn T (b+1) w=Wn T b w+(T.count (b+w) - T.count b):=by have h1:=wL T b (w - 1) (by omega);have h2:=OY T (b+1) (w - 1) (by omega);rw[show w - 1+1=w by omega] at h1 h2;rw[show b+1+(w - 1)=b+w by omega] at h2;omega
noncomputable def cs(T:List Int):Int->Nat->List Int
 | _,0=>[]
 | b,n+1=>(T.count b:Int)::cs T (b+1) n
theorem CH(T:List Int):∀(n:Nat) (b:Int),(cs T b n).sum=Wn T b n
 | 0,b=>by rw[cs];exact(CG T b).symm
 | n+1,b=>by rw[cs,List.sum_cons,CH T n (b+1)];have:=wL T b n (by omega);rw[show((n+1:Nat):Int)=(n:Int)+1 by omega];omega
theorem pZ:∀a:List Int,ints? (a.map PyData.int)=some a
 | []=>rfl
 | n::a=>by rw[List.map_cons,ints?,pZ a];rfl
noncomputable def gF(T:List Int):PyData->PyData
 | .int t=>.int (T.count t)
 | _=>.none
theorem wM(T:List Int):∀(n:Nat) (b:Int),(L3.intsFrom b n).map (gF T)=(cs T b n).map PyData.int
 | 0,b=>rfl
 | n+1,b=>by rw[mO,List.map_cons,wM T n (b+1),cs,List.map_cons];rfl
theorem CI:∀(n:Nat) (b:Int),∀d∈L3.intsFrom b n,∃t:Int,d=.int t
 | 0,b,d,h=>by simp[L3.intsFrom] at h
 | n+1,b,d,h=>by
  rw[mO] at h;rcases List.mem_cons.mp h with rfl | h
  ·exact⟨b,rfl⟩
  ·exact CI n (b+1) d h
theorem wN:∀(n:Nat) (b:Int),(L3.intsFrom b n).length=n
 | 0,b=>rfl
 | n+1,b=>by rw[mO,List.length_cons,wN n (b+1)]
noncomputable def cQ(W:Int->Int):Nat->Int->Int->Int->Int×Int
 | 0,_,fd,a=>(fd,a)
 | n+1,s,fd,a=>if W s>a then cQ W n (s+1) s (W s) else cQ W n (s+1) fd a
theorem wO{z0 z1 z2 z3:Option aj}{d:dc}{T:List Int}{a:Int}(j:1<=a)(c:CN d T):∀(n:Nat) (s fd e:Int) (i:Option aj),∃f g,bR (ay 9) jY (L3.intsFrom s n) [z0,z1,z2,z3,some (.dat (.int a)),some (.own false (.m false d)),some (.dat (.int (Wn T (s - 1) a))),some (.dat (.int e)),some (.dat (.int fd)),i]=.nx [z0,z1,z2,z3,some (.dat (.int a)),some (.own false (.m false d)),f,some (.dat (.int (cQ (fun b=>Wn T b a) n s fd e).2)),some (.dat (.int (cQ (fun b=>Wn T b a) n s fd e).1)),g]
 | 0,s,fd,e,i=>⟨_,i,by simp[bR,L3.intsFrom,cQ];rfl⟩
 | n+1,s,fd,e,i=>by
  have k:=OZ T (s - 1) a j;rw[show s - 1+1=s by omega,show s - 1+a=s+a - 1 by omega] at k;have g1:=c.get (s+a - 1);have g2:=c.get (s - 1)
  by_cases q:Wn T s a>e
  ·obtain⟨f,g,h⟩:=wO (z0:=z0) (z1:=z1) (z2:=z2) (z3:=z3) j c n (s+1) s (Wn T s a) (some (.dat (.int s)));refine⟨f,g,?_⟩;rw[show s+1 - 1=s by omega] at h;have b:jY [z0,z1,z2,z3,some (.dat (.int a)),some (.own false (.m false d)),some (.dat (.int (Wn T (s - 1) a))),some (.dat (.int e)),some (.dat (.int fd)),some (.dat (.int s))]=.nx [z0,z1,z2,z3,some (.dat (.int a)),some (.own false (.m false d)),some (.dat (.int (Wn T s a))),some (.dat (.int (Wn T s a))),some (.dat (.int s)),some (.dat (.int s))]:=by rw[k] at q ⊢;simp[jY,kH,je,kL,fk,dS,fj,g1,g2,q]
   rw[mO,bR,cQ,if_pos q,<-h];simp only[ay,List.length_cons,List.set_cons_succ,List.set_cons_zero,b]
  ·obtain⟨f,g,h⟩:=wO (z0:=z0) (z1:=z1) (z2:=z2) (z3:=z3) j c n (s+1) fd e (some (.dat (.int s)));refine⟨f,g,?_⟩;rw[show s+1 - 1=s by omega] at h;have b:jY [z0,z1,z2,z3,some (.dat (.int a)),some (.own false (.m false d)),some (.dat (.int (Wn T (s - 1) a))),some (.dat (.int e)),some (.dat (.int fd)),some (.dat (.int s))]=.nx [z0,z1,z2,z3,some (.dat (.int a)),some (.own false (.m false d)),some (.dat (.int (Wn T s a))),some (.dat (.int e)),some (.dat (.int fd)),some (.dat (.int s))]:=by rw[k] at q ⊢;simp[jY,kH,je,kL,fk,dS,fj,g1,g2,q]
   rw[mO,bR,cQ,if_neg q,<-h];simp only[ay,List.length_cons,List.set_cons_succ,List.set_cons_zero,b]
theorem CJ{i j:Int}(b:-1000000<=i)(c:i<=1000000)(d:-1000000<=j)(a:j<=1000000):dJ [.int i,.int j]=some (L3.intsFrom i (j - i).toNat):=by simp only[dJ];rw[if_pos (by simp;omega)]
theorem CK{a first last wd:Int}{g:Sh}{un:aR->Nat}{h:List bj}(z:cP a g)(n:0<=first/\first<=last)(o:last<=9999)(l:1<=wd/\wd<=last - first+1)(w:∀p,br p->bh a g p last (un p))(hd:∀d∈h,br d.plan/\gc d.late)(q:h.length<=6) :
  jZ [.dat (bz a g),.dat (df h),.dat (.int first),.dat (.int last),.dat (.int wd)]=.rt (.dat (.tuple [.int (cQ (fun b=>Wn ((aX a g first un 0 h).map bG) b wd) (last - wd+1 - first).toNat (first+1) first (Wn ((aX a g first un 0 h).map bG) first wd)).1,.int (cQ (fun b=>Wn ((aX a g first un 0 h).map bG) b wd) (last - wd+1 - first).toNat (first+1) first (Wn ((aX a g first un 0 h).map bG) first wd)).2])) []:=by
 have sz:1000000<sizeLine:=by decide
 obtain⟨f,y,c⟩:=OX z ⟨n.1,by omega⟩ ⟨by omega,o⟩ w (fun d k=>(hd d k).1) q;generalize (aX a g first un 0 h).map bG=T at c ⊢;have A:=wK z n o hd q;have B:fJ [.dat (.int wd),.dat (.int 1),.dat (.int (last - first+1))]=.rt (.dat (.bool true)) []:=by rw[kc rfl];simp[dW,l.1,l.2]
 have r:cZ (ay 0) ef rK (L3.intsFrom first wd.toNat) [] [none,some (.vw (.m false f))]=some ([]++(L3.intsFrom first wd.toNat).map (gF T)):=by refine kd (P:=fun U=>∃x,U=[x,some (.vw (.m false f))]) ⟨none,rfl⟩ (fun d k U C=>?_) (by simp[wN];omega);obtain⟨x,rfl⟩:=C;obtain⟨t,rfl⟩:=CI _ _ d k;refine⟨[some (.dat (.int t)),some (.vw (.m false f))],[some (.dat (.int t)),some (.vw (.m false f))],rfl,?_,⟨_,rfl⟩⟩;simp[rK,qU,jg,qT,dS,fj,c.get t,gF]
 rw[List.nil_append,wM] at r;have iJ:((cs T first wd.toNat).map PyData.int).all gV=true:=by rw[List.all_eq_true];intro d k;obtain⟨i,_,rfl⟩:=List.mem_map.mp k;rfl
 have len:((cs T first wd.toNat).map PyData.int).length<=sizeLine:=by rw[<-wM,List.length_map,wN];omega
 have D:nK [.list ((cs T first wd.toNat).map PyData.int)]=some (.int (Wn T first wd)):=by unfold nK;dsimp only;rw[pZ];simp only[Option.map_some];rw[CH,show((wd.toNat:Nat):Int)=wd by omega]
 have s:=CJ (i:=first) (j:=first+wd) (by omega) (by omega) (by omega) (by omega);rw[show first+wd - first=wd by omega] at s;have u:=CJ (i:=first+1) (j:=last - wd+2) (by omega) (by omega) (by omega) (by omega);rw[show last - wd+2 - (first+1)=last - wd+1 - first by omega] at u;obtain⟨E,G,e⟩:=wO (z0:=some (.dat (bz a g))) (z1:=some (.dat (df h))) (z2:=some (.dat (.int first))) (z3:=some (.dat (.int last))) l.1 c (last - wd+1 - first).toNat (first+1) first (Wn T first wd) none
 rw[show first+1 - 1=first by omega] at e;have v:(nY 1 [5] (gQ dJ (aG (xV 2) (aG (ag cH (xV 2) (xV 4)) bu))) (ay 0) ef rK) [some (.dat (bz a g)),some (.dat (df h)),some (.dat (.int first)),some (.dat (.int last)),some (.dat (.int wd)),some (.own false (.m false f)),none,none,none,none]=.ok (.list ((cs T first wd.toNat).map PyData.int)) [some (.dat (bz a g)),some (.dat (df h)),some (.dat (.int first)),some (.dat (.int last)),some (.dat (.int wd)),some (.own false (.m false f)),none,none,none,none]:=by simp[-dJ,s];simp only[r,Option.bind_some];rw[if_pos ⟨by simpa using len,by simpa using iJ⟩]
 simp only[cH] at v;simp[-dJ,-nY,jZ,vR,A,B,y,v,D,u,e]
theorem wP(W:Int->Int):∀(n:Nat) (s fd a:Int),(cQ W n s fd a=(fd,a)/\∀j:Nat,j<n->W (s+j)<=a)\/∃i:Nat,i<n/\cQ W n s fd a=(s+i,W (s+i))/\a<W (s+i)/\(∀j:Nat,j<i->W (s+j)<W (s+i))/\∀j:Nat,j<n->W (s+j)<=W (s+i)
 | 0,s,fd,a=>.inl ⟨rfl,fun j b=>by omega⟩
 | n+1,s,fd,a=>by
  rw[cQ]
  by_cases q:W s>a
  ·rw[if_pos q];right;rcases wP W n (s+1) s (W s) with⟨e,h⟩ | ⟨i,d,e,h1,h2,h3⟩
   ·refine⟨0,by omega,by rw[e];simp,by simpa using q,fun j b=>by omega,fun j b=>?_⟩;rcases j with _ | j
    ·simp
    ·have:=h j (by omega);rw[show s+1+(j:Int)=s+((j+1:Nat):Int) by omega] at this;simpa using this
   ·refine⟨i+1,by omega,by rw[e,show s+1+(i:Int)=s+((i+1:Nat):Int) by omega],?_,fun j b=>?_,fun j b=>?_⟩
    ·rw[show s+1+(i:Int)=s+((i+1:Nat):Int) by omega] at h1;omega
    ·rw[show s+1+(i:Int)=s+((i+1:Nat):Int) by omega] at h1 h2;rcases j with _ | j
     ·simpa using h1
     ·have:=h2 j (by omega);rw[show s+1+(j:Int)=s+((j+1:Nat):Int) by omega] at this;exact this
    ·rw[show s+1+(i:Int)=s+((i+1:Nat):Int) by omega] at h1 h3;rcases j with _ | j
     ·simp at h1 ⊢;omega
     ·have:=h3 j (by omega);rw[show s+1+(j:Int)=s+((j+1:Nat):Int) by omega] at this;exact this
  ·rw[if_neg q];rcases wP W n (s+1) fd a with⟨e,h⟩ | ⟨i,d,e,h1,h2,h3⟩
   ·refine .inl ⟨e,fun j b=>?_⟩;rcases j with _ | j
    ·simp;omega
    ·have:=h j (by omega);rw[show s+1+(j:Int)=s+((j+1:Nat):Int) by omega] at this;exact this
   ·rw[show s+1+(i:Int)=s+((i+1:Nat):Int) by omega] at e h1 h2 h3;have f:W s<=a:=by omega
    have c:W s<W (s+((i+1:Nat):Int)):=by omega
    refine .inr ⟨i+1,by omega,e,h1,fun j b=>?_,fun j b=>?_⟩
    ·rcases j with _ | j
     ·rw[show s+((0:Nat):Int)=s by omega];exact c
     ·have:=h2 j (by omega);rw[show s+1+(j:Int)=s+((j+1:Nat):Int) by omega] at this;exact this
    ·rcases j with _ | j
     ·rw[show s+((0:Nat):Int)=s by omega];omega
     ·have:=h3 j (by omega);rw[show s+1+(j:Int)=s+((j+1:Nat):Int) by omega] at this;exact this
noncomputable def wQ(i c:Int):Option Int->List (List Int)
 | some v=>[[v,i,c]]
 | none=>[]
noncomputable def cR(a:Int)(b:Sh)(un:aR->Nat):Nat->List bj->List (List Int)
 | _,[]=>[]
 | i,d::c=>wQ i (un d.plan) (cf a b d.plan (un d.plan))++cR a b un (i+1) c
theorem si:∀(a:List (List Int)) (b:List Int),dL a b∈b::a
 | [],b=>List.mem_cons_self
 | r::a,b=>by
  rw[dL];have:=si a (if HT.lexLt r b=true then r else b);rcases List.mem_cons.mp this with e | e
  ·rw[e];split
   ·exact bq _ List.mem_cons_self
   ·exact List.mem_cons_self
  ·exact bq _ (bq _ e)
theorem CL:∀(c:List (List Int)) (b:List Int),∀r∈b::c,TS.lexLe (dL c b) r=true
 | [],b,r,h=>by simp only[List.mem_cons,List.not_mem_nil,or_false] at h;subst h;have:=TS.lexLe_tt r r;simpa[dL] using this
 | x::c,b,r,h=>by
  rw[dL];have e:=CL c (if HT.lexLt x b=true then x else b);have hb:=e _ List.mem_cons_self;have a:TS.lexLe (if HT.lexLt x b=true then x else b) b=true/\TS.lexLe (if HT.lexLt x b=true then x else b) x=true:=by
   by_cases q:HT.lexLt x b=true
   ·rw[if_pos q];have t:=TS.lexLe_tt x b;have f:TS.lexLe b x=false:=by unfold TS.lexLe;rw[q];rfl
    rw[f,Bool.or_false] at t;have d:=TS.lexLe_tt x x;exact⟨t,by simpa using d⟩
   ·rw[if_neg q];have d:=TS.lexLe_tt b b;exact⟨by simpa using d,by unfold TS.lexLe;simpa using q⟩
  rcases List.mem_cons.mp h with rfl | h
  ·exact TS.lexLe_tr _ _ _ hb a.1
  ·rcases List.mem_cons.mp h with rfl | h
   ·exact TS.lexLe_tr _ _ _ hb a.2
   ·exact e r (bq _ h)
theorem CM(L:List (List Int)):(TS.sortR L).Pairwise fun x y=>TS.lexLe x y=true:=List.pairwise_mergeSort TS.lexLe_tr TS.lexLe_tt L
noncomputable def lg:Option (Int×Int)->Int
 | none=>0
 | some (x,y)=>y - x+1
noncomputable def iN:Option (Int×Int)->PyData
 | none=>.none
 | some (x,y)=>.tuple [.int x,.int y]
noncomputable def bH(s:Option (Int×Int)×Int)(e:Int):Option (Int×Int)×Int:=if e - s.2>lg s.1 then(some (s.2,e - 1),e+1) else(s.1,e+1)
theorem Pa{i:Nat}{U:ao}{rs:List (List Int)}(h:U[i]? = some (some (.own false (.l (rs.map aF))))):nZ i U=.ok (iM rs) U:=by unfold nZ nR;rw[h];simp only[wF];cases rs<;>rfl
theorem wR{z1:Option aj}{a m:Int}{f:Sh}{un:aR->Nat}(z:cP a f)(y:∀p,br p->bh a f p (m - 1) (un p)):∀(g:List bj) (i:Nat) (e:List PyData) (s t j k:Option aj),(∀d∈g,br d.plan)->e.length+g.length<=5000->∃n o q r,bR (dR 2 (cp (ay 4) (cp (ay 5) dQ))) jX (gD i (g.map cL)) [some (.dat (bz a f)),z1,some (.dat (.int m)),some (.own false (.l e)),s,t,j,k]=.nx [some (.dat (bz a f)),z1,some (.dat (.int m)),some (.own false (.l (e++(cR a f un i g).map aF))),n,o,q,r]
 | [],i,e,s,t,j,k,_,_=>⟨s,t,j,k,by simp[bR,gD,cR]⟩
 | d::g,i,e,s,t,j,k,h,E=>by
  have sz:1000000<sizeLine:=by decide
  simp only[List.length_cons] at E;have A:=h d List.mem_cons_self;have u:=y d.plan A;have C:=OH z A u;have to:=wB (a:=a) (ss:=f) (p:=d.plan) (c:=un d.plan) z.len A;generalize D:cf a f d.plan (un d.plan)=T at *;cases T with
  | none=>
   obtain⟨n,o,q,r,w⟩:=wR (z1:=z1) z y g (i+1) e (some (.dat (.int i))) (some (.dat (cL d))) (some (.dat (.int (un d.plan)))) (some (.dat .none)) (fun x B=>h x (bq _ B)) (by omega);refine⟨n,o,q,r,?_⟩;have b:jX [some (.dat (bz a f)),z1,some (.dat (.int m)),some (.own false (.l e)),some (.dat (.int i)),some (.dat (cL d)),j,k]=.nx [some (.dat (bz a f)),z1,some (.dat (.int m)),some (.own false (.l e)),some (.dat (.int i)),some (.dat (cL d)),some (.dat (.int (un d.plan))),some (.dat .none)]:=by simp[jX,C,to,cT,gM,isNone]
   rw[List.map_cons,gD,bR,cR,D];simp only[wQ,List.nil_append];rw[<-w];simp only[dR,cp,ay,dQ,List.length_cons,List.length_nil,if_true,Option.bind,List.set_cons_succ,List.set_cons_zero,b]
  | some v=>
   obtain⟨n,o,q,r,w⟩:=wR (z1:=z1) z y g (i+1) (e++[aF [v,(i:Int),(un d.plan:Int)]]) (some (.dat (.int i))) (some (.dat (cL d))) (some (.dat (.int (un d.plan)))) (some (.dat (.int v))) (fun x B=>h x (bq _ B)) (by simp;omega);refine⟨n,o,q,r,?_⟩;have b:jX [some (.dat (bz a f)),z1,some (.dat (.int m)),some (.own false (.l e)),some (.dat (.int i)),some (.dat (cL d)),j,k]=.nx [some (.dat (bz a f)),z1,some (.dat (.int m)),some (.own false (.l (e++[aF [v,(i:Int),(un d.plan:Int)]]))),some (.dat (.int i)),some (.dat (cL d)),some (.dat (.int (un d.plan))),some (.dat (.int v))]:=by simp[jX,C,to,cT,gM,isNone,show e.length<sizeLine by omega]
   rw[List.append_assoc,List.singleton_append] at w;rw[List.map_cons,gD,bR,cR,D];simp only[wQ,List.cons_append,List.nil_append,List.map_cons];rw[<-w];simp only[dR,cp,ay,dQ,List.length_cons,List.length_nil,if_true,Option.bind,List.set_cons_succ,List.set_cons_zero,b]
theorem CO{a m:Int}{c:Sh}{un:aR->Nat}{b:List bj}(z:cP a c)(f:0<=m/\m<=9999)(g:∀p,br p->bh a c p (m - 1) (un p))(hd:∀d∈b,br d.plan/\gc d.late)(j:b.length<=6) :
  ly [.dat (bz a c),.dat (df b),.dat (.int m)]=.rt (.dat (iM (cR a c un 0 b))) []:=by
 obtain⟨k,n,o,q,e⟩:=wR (z1:=some (.dat (.tuple (b.map cL)))) z g b 0 [] none none none none (fun d h=>(hd d h).1) (by simp;omega);rw[List.nil_append] at e;have r:=Cw j hd;unfold df at *;have mn:=Pa (i:=3) (U:=[some (.dat (bz a c)),some (.dat (.tuple (b.map cL))),some (.dat (.int m)),some (.own false (.l ((cR a c un 0 b).map aF))),k,n,o,q]) (rs:=cR a c un 0 b) rfl;simp[ly,vM,wy z,r,oZ (d:=.int m) rfl,dW,f,Cz,e,mn]
theorem CP{z0 z1 z2 z3 x7:Option aj}:∀(T:List Int) (s:Option (Int×Int)×Int) (a:Option aj),∃c,bR (ay 8) lA (T.map PyData.int) [z0,z1,z2,z3,some (.dat (.int (lg s.1))),some (.dat (iN s.1)),some (.dat (.int s.2)),x7,a]=.nx [z0,z1,z2,z3,some (.dat (.int (lg (T.foldl bH s).1))),some (.dat (iN (T.foldl bH s).1)),some (.dat (.int (T.foldl bH s).2)),x7,c]
 | [],s,a=>⟨a,by simp[bR]⟩
 | e::T,s,a=>by
  obtain⟨c,d⟩:=CP (z0:=z0) (z1:=z1) (z2:=z2) (z3:=z3) (x7:=x7) T (bH s e) (some (.dat (.int e)));refine⟨c,?_⟩;have b:lA [z0,z1,z2,z3,some (.dat (.int (lg s.1))),some (.dat (iN s.1)),some (.dat (.int s.2)),x7,some (.dat (.int e))]=.nx [z0,z1,z2,z3,some (.dat (.int (lg (bH s e).1))),some (.dat (iN (bH s e).1)),some (.dat (.int (bH s e).2)),x7,some (.dat (.int e))]:=by
   unfold bH
   by_cases q:e - s.2>lg s.1
   ·have f:lg (some (s.2,e - 1))=e - s.2:=by show e - 1 - s.2+1=_;omega
    rw[if_pos q];simp only[f];simp[lA,q,iN]
   ·rw[if_neg q];simp[lA,q]
  rw[List.map_cons,bR,List.foldl_cons,<-d];simp only[ay,List.length_cons,List.set_cons_succ,List.set_cons_zero,b]
noncomputable def wS:PyData->PyData
 | .tuple (x::_)=>x
 | _=>.none
theorem Pb{a first last:Int}{e:Sh}{un:aR->Nat}{b:List bj}(z:cP a e)(i:0<=first/\first<=last)(j:last<=9999)(k:∀p,br p->bh a e p last (un p))(hd:∀d∈b,br d.plan/\gc d.late)(l:b.length<=6) :
  rH [.dat (bz a e),.dat (df b),.dat (.int first),.dat (.int last)]=.rt (.dat (iN (((TS.sortR (aX a e first un 0 b)).map bG++[last+1]).foldl bH (none,first)).1)) []:=by
 have sz:1000000<sizeLine:=by decide
 have n:=wK z i j hd l;have o:=wJ z ⟨i.1,by omega⟩ ⟨by omega,j⟩ k (fun d c=>(hd d c).1) l;have cl:=sg (first:=first) k b 0 fun d c=>(hd d c).1;have pm:=TS.sortR_perm (aX a e first un 0 b);have ne:∀r∈TS.sortR (aX a e first un 0 b),∃x y w,r=[x,y,w]:=fun r f=>sf b 0 r (pm.mem_iff.mp f);have t:(TS.sortR (aX a e first un 0 b)).length<=120000:=by rw[pm.length_eq];omega
 generalize TS.sortR (aX a e first un 0 b)=R at *;have m:cZ (ay 0) ef vO (R.map aF) [] [none]=some ([]++(R.map aF).map wS):=by refine kd (P:=fun U=>∃x,U=[x]) ⟨none,rfl⟩ (fun d c U q=>?_) (by simp;omega);obtain⟨x,rfl⟩:=q;obtain⟨r,f,rfl⟩:=List.mem_map.mp c;obtain⟨x,y,w,rfl⟩:=ne r f;refine⟨[some (.dat (aF [x,y,w]))],[some (.dat (aF [x,y,w]))],rfl,?_,⟨_,rfl⟩⟩;show _=fe.ok (PyData.int x) _;simp[vO,cu,eL]
 have s:(R.map aF).map wS=(R.map bG).map PyData.int:=by rw[List.map_map,List.map_map];apply List.map_congr_left;intro r f;obtain⟨x,y,w,rfl⟩:=ne r f;rfl
 rw[List.nil_append,s] at m;have g:((R.map bG).map PyData.int).length+1<=sizeLine:=by simp;omega
 obtain⟨u,h⟩:=CP (z0:=some (.dat (bz a e))) (z1:=some (.dat (df b))) (z2:=some (.dat (.int first))) (z3:=some (.dat (.int last))) (x7:=some (.dat (.list ((R.map bG).map PyData.int++[.int (last+1)])))) (R.map bG++[last+1]) (none,first) none;rw[List.map_append,List.map_singleton] at h;generalize (R.map bG).map PyData.int=Q at *;change bR _ _ _ [_,_,_,_,some (.dat (.int 0)),some (.dat .none),some (.dat (.int first)),_,_]=_ at h;simp[rH,vP,n,o,m,g,show Q.length<=sizeLine by omega,h]
theorem CQ{x y w a b c:Int}(h:TS.lexLe [x,y,w] [a,b,c]=true):x<=a:=by
 unfold TS.lexLe at h;rw[HT.lexLt] at h
 by_cases e:a = x
 ·omega
 ·rw[if_neg e] at h;have:decide (a<x)=false:=by simpa using h
  have:=of_decide_eq_false this;omega
theorem wT{a first last:Int}{b:Sh}{un:aR->Nat}(z:cP a b)(k:∀p,br p->bh a b p last (un p)):∀(f:List bj) (i:Nat),(∀d∈f,br d.plan)->∀r,r∈aX a b first un i f↔∃(j c:Nat) (d:bj) (t:Int),f[j]? = some d/\cf a b d.plan c=some t/\first<=t/\t<=last/\r=[t,((i+j:Nat):Int),(c:Int)]
 | [],i,_,r=>by simp[aX]
 | e::f,i,hd,r=>by
  have u:=k e.plan (hd e List.mem_cons_self);rw[aX,List.mem_append,wT z k f (i+1) (fun d h=>hd d (bq _ h)) r,List.mem_map];constructor
  ·rintro(⟨c,m,rfl⟩ | ⟨j,c,d,t,h1,h2,h3,g,rfl⟩)
   ·obtain⟨n,l⟩:=List.mem_filter.mp m;obtain⟨v,v1,o⟩:=u.in_ c (List.mem_range.mp n);have s:dw a b e.plan c=v:=by unfold dw;rw[v1];rfl
    rw[s] at l ⊢;exact⟨0,c,e,v,rfl,v1,of_decide_eq_true l,o,rfl⟩
   ·exact⟨j+1,c,d,t,by simpa using h1,h2,h3,g,by rw[show i+1+j=i+(j+1) by omega]⟩
  ·rintro⟨j,c,d,t,h1,h2,h3,g,rfl⟩;cases j with
   | zero=>
    cases h1;refine .inl ⟨c,List.mem_filter.mpr ⟨List.mem_range.mpr ?_,?_⟩,?_⟩
    ·exact Nat.lt_of_not_le fun q=>by have:=BA z (hd e List.mem_cons_self) u q h2;omega
    ·unfold dw;rw[h2];exact decide_eq_true h3
    ·unfold dw;rw[h2];rfl
   | succ j=>exact .inr ⟨j,c,d,t,by simpa using h1,h2,h3,g,by rw[show i+1+j=i+(j+1) by omega]⟩
theorem mP{a:Int}{c:Sh}{un:aR->Nat}:∀(b:List bj) (i:Nat) (r:List Int),r∈cR a c un i b↔∃(j:Nat) (d:bj) (v:Int),b[j]? = some d/\cf a c d.plan (un d.plan)=some v/\r=[v,((i+j:Nat):Int),(un d.plan:Int)]
 | [],i,r=>by simp[cR]
 | e::b,i,r=>by
  rw[cR,List.mem_append,mP b (i+1) r];constructor
  ·rintro(h | ⟨j,d,v,h1,h2,rfl⟩)
   ·cases q:cf a c e.plan (un e.plan) with
    | none=>rw[q] at h;cases h
    | some v=>rw[q] at h;exact⟨0,e,v,rfl,q,List.mem_singleton.mp h⟩
   ·exact⟨j+1,d,v,by simpa using h1,h2,by rw[show i+1+j=i+(j+1) by omega]⟩
  ·rintro⟨j,d,v,h1,h2,rfl⟩;cases j with
   | zero=>cases h1;rw[h2];exact .inl (List.mem_singleton.mpr rfl)
   | succ j=>exact .inr ⟨j,d,v,by simpa using h1,h2,by rw[show i+1+j=i+(j+1) by omega]⟩
theorem Pc{a t:Int}{b:Sh}{p:aR}{n c:Nat}(h:cf a b p c=some t)(e:n<=c):∃v,cf a b p n=some v:=by
 cases p with
 | once m=>
  have d:(if c=0 then some m else none)=some t:=h
  by_cases q:c=0
  ·exact⟨m,show(if n=0 then some m else none)=some m by rw[if_pos (by omega)]⟩
  ·rw[if_neg q] at d;cases d
 | every f s=>exact⟨_,rfl⟩
 | daily h=>exact⟨_,rfl⟩
theorem wU{v t j n c:Int}(h:v<=t)(b:n<=c):TS.lexLe [v,j,n] [t,j,c]=true:=by
 unfold TS.lexLe;rw[HT.lexLt_cons,HT.lexLt_cons,HT.lexLt_cons]
 by_cases e:t=v
 ·rw[if_pos e,if_pos rfl]
  by_cases a:c=n
  ·rw[if_pos a];rfl
  ·rw[if_neg a,decide_eq_false (by omega)];rfl
 ·rw[if_neg e,decide_eq_false (by omega)];rfl
section
variable{a first last:Int}{ss:Sh}{un ul:aR->Nat}{ds:List bj}
theorem wV(z:cP a ss)(c:∀p,br p->bh a ss p (first - 1) (un p))(e:∀p,br p->bh a ss p last (ul p))(hd:∀d∈ds,br d.plan){f:Int}(k:f<=first){r:List Int}(g:r∈cR a ss un 0 ds)(h:bG r<=last):r∈aX a ss f ul 0 ds/\first<=bG r/\∃x y w,r=[x,y,w]:=by
 obtain⟨j,d,v,h1,h2,rfl⟩:=(mP ds 0 r).mp g;have i:v<=last:=h;have ok:=hd d (List.mem_of_getElem? h1);have:first<=v:=by
  rcases(c d.plan ok).out with q | ⟨w,b,l⟩
  ·rw[h2] at q;cases q
  ·rw[h2] at b;cases b;omega
 exact⟨(wT z e ds 0 hd _).mpr ⟨j,un d.plan,d,v,h1,h2,by omega,i,rfl⟩,this,_,_,_,rfl⟩
theorem Pd(z:cP a ss)(f:∀p,br p->bh a ss p (first - 1) (un p))(g:∀p,br p->bh a ss p last (ul p))(hd:∀d∈ds,br d.plan){r:List Int}(h:r∈aX a ss first ul 0 ds):∃i∈cR a ss un 0 ds,TS.lexLe i r=true:=by
 obtain⟨j,c,d,t,h1,h2,h3,k,rfl⟩:=(wT z g ds 0 hd r).mp h;have ok:=hd d (List.mem_of_getElem? h1);have b:un d.plan<=c:=Nat.le_of_not_lt fun q=>by obtain⟨v,v1,l⟩:=(f d.plan ok).in_ c q;rw[h2] at v1;cases v1;omega
 obtain⟨v,e⟩:=Pc h2 b;refine⟨_,(mP ds 0 _).mpr ⟨j,d,v,h1,e,rfl⟩,wU (Bz z ok b e h2) (by omega)⟩
theorem Pe(z:cP a ss)(k:∀p,br p->bh a ss p (first - 1) (un p))(i:∀p,br p->bh a ss p last (ul p))(hd:∀d∈ds,br d.plan) :
  (TS.sortR (aX a ss first ul 0 ds)=[]/\(cR a ss un 0 ds=[]\/∃x y w,iM (cR a ss un 0 ds)=aF [x,y,w]/\last<x))\/
  ∃x y w R,TS.sortR (aX a ss first ul 0 ds)=[x,y,w]::R/\iM (cR a ss un 0 ds)=aF [x,y,w]/\x<=last:=by
 have pm:=TS.sortR_perm (aX a ss first ul 0 ds);have t:=CM (aX a ss first ul 0 ds);cases u:TS.sortR (aX a ss first ul 0 ds) with
 | nil=>
  refine .inl ⟨rfl,?_⟩;rw[u] at pm;have e:=pm.symm.eq_nil;cases f:cR a ss un 0 ds with
  | nil=>exact .inl rfl
  | cons r b=>
   right;have m:=si b r;have g:dL b r∈cR a ss un 0 ds:=by rw[f];exact m
   obtain⟨j,d,v,h1,h2,h3⟩:=(mP ds 0 _).mp g;refine⟨_,_,_,congrArg aF h3,?_⟩;refine Int.lt_of_not_ge fun q=>?_;have:=(wV z k i hd (Int.le_refl first) g (by rw[h3];exact q)).1;rw[e] at this;cases this
 | cons h R=>
  rw[u] at pm t;have A:h∈aX a ss first ul 0 ds:=pm.mem_iff.mp List.mem_cons_self
  obtain⟨B,l,C⟩:=Pd z k i hd A;cases f:cR a ss un 0 ds with
  | nil=>rw[f] at l;cases l
  | cons r b=>
   right;have m:=si b r;have g:dL b r∈cR a ss un 0 ds:=by rw[f];exact m
   have c:TS.lexLe (dL b r) h=true:=TS.lexLe_tr _ _ _ (CL b r B (by rw[<-f];exact l)) C;obtain⟨x,y,w,n,E,D⟩:=wI i ds 0 hd h A;obtain⟨j,d,v,h1,h2,h3⟩:=(mP ds 0 _).mp g;have G:v<=x:=by rw[h3,n] at c;exact CQ c
   have o:=(wV z k i hd (Int.le_refl first) g (by rw[h3];show v<=last;omega)).1;have s:TS.lexLe h (dL b r)=true:=by
    rcases List.mem_cons.mp (pm.mem_iff.mpr o) with q | q
    ·rw[q];simpa using TS.lexLe_tt h h
    ·exact(List.pairwise_cons.mp t).1 _ q
   have eq:=TS.lexLe_as c s;rw[n] at eq;exact⟨x,y,w,R,by rw[n],congrArg aF eq,D⟩
end
structure sj (S:List Int) (f:Int) (s:Option (Int×Int)×Int):Prop where
 lo:f<=s.2
 some_:∀x y,s.1=some (x,y)->f<=x/\x<=y/\y<s.2/\∀t∈S,¬ (x<=t/\t<=y)
 none_:s.1=none->∀t,f<=t->t<s.2->t∈S
theorem Pf{S:List Int}{f e:Int}{s:Option (Int×Int)×Int}(g:sj S f s)(n:s.2 - 1<=e)(i:e∈S)(free:∀t∈S,¬ (s.2<=t/\t<e)):sj S f (bH s e):=by
 unfold bH;have lo:=g.lo;split
 ·rename_i q;have o:0<=lg s.1:=by
   cases h:s.1 with
   | none=>exact Int.le_refl 0
   | some p=>obtain⟨x,y⟩:=p;obtain⟨a,b,h3,_⟩:=g.some_ x y h;show 0<=y - x+1;omega
  refine⟨by show f<=e+1;omega,fun x y h=>?_,fun h=>by cases h⟩;cases h;exact⟨lo,by omega,by show e - 1<e+1;omega,fun t j k=>free t j ⟨k.1,by omega⟩⟩
 ·rename_i q;refine⟨by show f<=e+1;omega,fun x y h=>?_,fun h t a b=>?_⟩
  ·obtain⟨a,b,h3,l⟩:=g.some_ x y h;exact⟨a,b,by show y<e+1;omega,l⟩
  ·have m:t<e+1:=b;have d:s.1=none:=h;rw[d] at q;have r:¬ e - s.2>0:=q;rcases Int.lt_or_le t s.2 with c | c
   ·exact g.none_ d t a c
   ·have:t=e:=by omega
    rw[this];exact i
theorem CS{S:List Int}{f:Int}:∀(T:List Int) (s:Option (Int×Int)×Int),T.Pairwise (·<=·)->(∀t∈T,s.2 - 1<=t/\t∈S)->(∀t∈S,s.2<=t->t∈T)->sj S f s->sj S f (T.foldl bH s)
 | [],s,_,_,_,g=>g
 | e::T,s,k,b,c,g=>by
  obtain⟨d,l⟩:=List.pairwise_cons.mp k;have i:=b e List.mem_cons_self;have j:(bH s e).2=e+1:=by unfold bH;split<;>rfl
  rw[List.foldl_cons];refine CS T (bH s e) l (fun t a=>⟨by rw[j];have:=d t a;omega,(b t (bq _ a)).2⟩) (fun t a h=>?_) (Pf g i.1 i.2 fun t a q=>?_)
  ·rw[j] at h;rcases List.mem_cons.mp (c t a (by omega)) with z | z
   ·omega
   ·exact z
  ·rcases List.mem_cons.mp (c t a q.1) with z | z
   ·omega
   ·have:=d t z;omega
theorem Pg(T:List Int)(e:Int)(s:Option (Int×Int)×Int):((T++[e]).foldl bH s).2=e+1:=by rw[List.foldl_append];show(bH (T.foldl bH s) e).2=_;unfold bH;split<;>rfl
theorem Ph{S:List Int}{first last:Int}(j:S.Pairwise (·<=·))(d:∀t∈S,first<=t/\t<=last)(p:first<=last) :
  (∀x y,((S++[last+1]).foldl bH (none,first)).1=some (x,y)->first<=x/\x<=y/\y<=last/\∀t∈S,¬ (x<=t/\t<=y))/\(((S++[last+1]).foldl bH (none,first)).1=none->∀t,first<=t->t<=last->t∈S):=by
 have g:=CS (S:=S++[last+1]) (f:=first) (S++[last+1]) (none,first) (List.pairwise_append.mpr ⟨j,List.pairwise_singleton ..,fun x k y l=>by rw[List.mem_singleton.mp l];have:=d x k;omega⟩)
  (fun t a=>⟨by
   rcases List.mem_append.mp a with h | h
   ·have:=d t h;show first - 1<=t
    omega
   ·rw[List.mem_singleton.mp h];show first - 1<=last+1
    omega,a⟩) (fun t a _=>a) ⟨Int.le_refl _,(fun x y h=>by cases h),(fun _ t e i=>by have:t<first:=i;omega)⟩
 have b:=Pg S (last+1) (none,first);refine⟨fun x y h=>?_,fun h t e i=>?_⟩
 ·obtain⟨m,n,o,c⟩:=g.some_ x y h;rw[b] at o;have r:=c (last+1) (by simp);exact⟨m,n,by omega,fun t a=>c t (bO _ a)⟩
 ·rcases List.mem_append.mp (g.none_ h t e (by rw[b];omega)) with q | q
  ·exact q
  ·have:=List.mem_singleton.mp q;omega
theorem Pj{ns:List Int}{t:List PyData}{ds:List bj}{x2 x4:Option aj}{r:ao}(a:ns.length<=63)(h:t.length<=700)(i:ds.length<100) :
  ∃d t',(br d.plan/\gc d.late)/\t'.length<=t.length+6/\oV (some (.scr ns)::some (.own false (.l t))::x2::some (.dat (.tuple (ds.map cL)))::x4::r)=.nx (some (.scr ns)::some (.own false (.l t'))::x2::some (.dat (.tuple ((ds++[d]).map cL)))::x4::r):=by
 have sz:1000<sizeLine:=by decide
 obtain⟨p,b,c,j,k,f⟩:=OL (ns:=ns) (t:=t) (wd:=100) a (by omega) (by omega);refine⟨⟨p,.last,false⟩,b,⟨c,trivial⟩,by omega,?_⟩;generalize g:el p=P at *;have e:cL ⟨p,.last,false⟩=.tuple [P,.str "last",.bool false]:=by unfold cL;rw[g]
 rw[List.map_append,List.map_singleton,e];simp[oV,f,show ds.length+1<=sizeLine by omega]
theorem CT{ns:List Int}{x2:Option aj}{r:ao}(c:ns.length<=63):∀(n:Nat) (i:Int) {t:List PyData}{es:List bj}{x4:Option aj},t.length+6 * n<=700->es.length+n<100->∃(a:List bj) (t':List PyData) (f:Option aj),(∀d∈a,br d.plan/\gc d.late)/\a.length=n/\t'.length<=t.length+6 * n/\
   bR (ay 4) oV (L3.intsFrom i n) (some (.scr ns)::some (.own false (.l t))::x2::some (.dat (.tuple (es.map cL)))::x4::r)=.nx (some (.scr ns)::some (.own false (.l t'))::x2::some (.dat (.tuple ((es++a).map cL)))::f::r)
 | 0,i,t,es,x4,_,_=>⟨[],t,x4,by simp,rfl,by omega,by simp[L3.intsFrom,bR]⟩
 | n+1,i,t,es,x4,p,q=>by
  obtain⟨d,g,h,l1,e⟩:=Pj (ns:=ns) (t:=t) (ds:=es) (x2:=x2) (x4:=some (.dat (.int i))) (r:=r) c (by omega) (by omega);obtain⟨a,j,k,h2,m,l2,o⟩:=CT (x2:=x2) (r:=r) c n (i+1) (t:=g) (es:=es++[d]) (x4:=some (.dat (.int i))) (by omega) (by simp;omega);refine⟨d::a,j,k,fun x b=>?_,by simp[m],by omega,?_⟩
  ·rcases List.mem_cons.mp b with rfl | b
   ·exact h
   ·exact h2 x b
  ·rw[show es++d::a=es++[d]++a by simp,<-o,mO,bR];simp only[ay,List.length_cons,List.set_cons_succ,List.set_cons_zero,e]
noncomputable def bw(T:List Int)(first last w:Int):Int×Int:=cQ (fun b=>Wn T b w) (last - w+1 - first).toNat (first+1) first (Wn T first w)
theorem sk{T:List Int}{first last w:Int}(f:1<=w/\w<=last - first+1):∃b,first<=b/\b<=last - w+1/\bw T first last w=(b,Wn T b w)/\∀x,first<=x->x<=last - w+1->Wn T x w<=Wn T b w:=by
 unfold bw;rcases wP (fun b=>Wn T b w) (last - w+1 - first).toNat (first+1) first (Wn T first w) with⟨e,h⟩ | ⟨i,g,e,a,d,h3⟩
 ·refine⟨first,Int.le_refl _,by omega,e,fun x a d=>?_⟩;rcases Int.lt_or_le first x with c | c
  ·have:=h (x - (first+1)).toNat (by omega);rw[show first+1+((x - (first+1)).toNat:Int)=x by omega] at this;exact this
  ·rw[show x=first by omega];exact Int.le_refl _
 ·refine⟨first+1+i,by omega,by omega,e,fun x j k=>?_⟩;rcases Int.lt_or_le first x with c | c
  ·have:=h3 (x - (first+1)).toNat (by omega);rw[show first+1+((x - (first+1)).toNat:Int)=x by omega] at this;exact this
  ·rw[show x=first by omega];exact Int.le_of_lt a
theorem CU{T:List Int}{b w a c:Int}(d:a<=b)(e:b+w<=a+c):Wn T b w<=Wn T a c:=by
 unfold Wn;have:(T.countP fun t=>decide (b<=t/\t<b+w))<=T.countP fun t=>decide (a<=t/\t<a+c):=List.countP_mono_left fun t _ h=>by simp at h ⊢;omega
 omega
theorem Pk{T:List Int}{first last w a:Int}(h:1<=w)(m:w<=a)(i:a<=last - first+1):(bw T first last w).2<=(bw T first last a).2:=by
 obtain⟨b,f,j,e,_⟩:=sk (T:=T) (first:=first) (last:=last) (w:=w) ⟨h,by omega⟩;obtain⟨c,k,l,g,d⟩:=sk (T:=T) (first:=first) (last:=last) (w:=a) ⟨by omega,i⟩;rw[e,g];show Wn T b w<=Wn T c a;rcases Int.le_total b (last - a+1) with q | q
 ·exact Int.le_trans (CU (Int.le_refl b) (by omega)) (d b f q)
 ·exact Int.le_trans (CU q (by omega)) (d (last - a+1) (by omega) (Int.le_refl _))
theorem wW(T:List Int)(b:Int):Wn T b 1=T.count b:=by have:=wL T b 0 (Int.le_refl 0);rw[CG] at this;simpa using this
theorem wX{a first last:Int}{e:Sh}{ul:aR->Nat}{f:List bj}{x0 x1 x4 x7 x8 x9 x10 x14:Option aj}(z:cP a e)(o:0<=first/\first<=last)(r:last<=9999)(s:∀p,br p->bh a e p last (ul p))(hd:∀d∈f,br d.plan/\gc d.late)(t:f.length<=6):∀(j:List Int) (v:Int) (i b:Option aj),j.Pairwise (·<=·)->(∀w∈j,1<=w)->(∀w∈j,w<=last - first+1->v<=(bw ((aX a e first ul 0 f).map bG) first last w).2)->
  ∃l g h,bR (ay 12) ka (j.map PyData.int) [x0,x1,some (.dat (bz a e)),some (.dat (df f)),x4,some (.dat (.int first)),some (.dat (.int last)),x7,x8,x9,x10,some (.dat (.int v)),i,b,x14]=.nx [x0,x1,some (.dat (bz a e)),some (.dat (df f)),x4,some (.dat (.int first)),some (.dat (.int last)),x7,x8,x9,x10,some (.dat (.int l)),g,h,x14]
 | [],v,i,b,_,_,_=>⟨v,i,b,by simp[bR]⟩
 | w::j,v,i,b,E,h1,n=>by
  obtain⟨G,y⟩:=List.pairwise_cons.mp E;have A:=h1 w List.mem_cons_self
  by_cases q:w<=last - first+1
  ·have C:=CK z o r ⟨A,q⟩ s hd t;have le:=n w List.mem_cons_self q;obtain⟨l,g,h,m⟩:=wX (x0:=x0) (x1:=x1) (x4:=x4) (x7:=x7) (x8:=x8) (x9:=x9) (x10:=x10) (x14:=x14) z o r s hd t j (bw ((aX a e first ul 0 f).map bG) first last w).2 (some (.dat (.int w))) (some (.dat (.int (bw ((aX a e first ul 0 f).map bG) first last w).2))) y (fun u c=>h1 u (bq _ c)) (fun u c k=>Pk A (G u c) k);refine⟨l,g,h,?_⟩;change jZ _=.rt (.dat (.tuple [.int (bw ((aX a e first ul 0 f).map bG) first last w).1,.int (bw ((aX a e first ul 0 f).map bG) first last w).2])) [] at C;rw[List.map_cons,bR,<-m];clear m n;generalize bw ((aX a e first ul 0 f).map bG) first last w=B at *
   generalize bz a e=Z at *;generalize df f=D at *;have x:ka [x0,x1,some (.dat Z),some (.dat D),x4,some (.dat (.int first)),some (.dat (.int last)),x7,x8,x9,x10,some (.dat (.int v)),some (.dat (.int w)),b,x14]=.nx [x0,x1,some (.dat Z),some (.dat D),x4,some (.dat (.int first)),some (.dat (.int last)),x7,x8,x9,x10,some (.dat (.int B.2)),some (.dat (.int w)),some (.dat (.int B.2)),x14]:=by simp[ka,q,C,show ¬ B.2<v by omega]
   simp only[ay,List.length_cons,List.set_cons_succ,List.set_cons_zero,x]
  ·obtain⟨l,g,h,m⟩:=wX (x0:=x0) (x1:=x1) (x4:=x4) (x7:=x7) (x8:=x8) (x9:=x9) (x10:=x10) (x14:=x14) z o r s hd t j v (some (.dat (.int w))) b y (fun u c=>h1 u (bq _ c)) (fun u c k=>n u (bq _ c) k);refine⟨l,g,h,?_⟩;rw[List.map_cons,bR,<-m];clear m n;generalize bz a e=Z at *;generalize df f=D at *;have x:ka [x0,x1,some (.dat Z),some (.dat D),x4,some (.dat (.int first)),some (.dat (.int last)),x7,x8,x9,x10,some (.dat (.int v)),some (.dat (.int w)),b,x14]=.nx [x0,x1,some (.dat Z),some (.dat D),x4,some (.dat (.int first)),some (.dat (.int last)),x7,x8,x9,x10,some (.dat (.int v)),some (.dat (.int w)),b,x14]:=by simp[ka,q]
   simp only[ay,List.length_cons,List.set_cons_succ,List.set_cons_zero,x]
theorem CV(t:Int):∀(T Y:List Int),t∈T.foldl TS.addI Y↔t∈Y\/t∈T
 | [],Y=>by simp
 | k::T,Y=>by
  rw[List.foldl_cons,CV t T];unfold TS.addI;split
  ·rename_i h;constructor
   ·rintro(a | a)
    ·exact .inl a
    ·exact .inr (.tail _ a)
   ·rintro(a | a)
    ·exact .inl a
    ·rcases List.mem_cons.mp a with rfl | a
     ·exact .inl h
     ·exact .inr a
  ·simp only[List.mem_append,List.mem_cons,List.not_mem_nil,or_false];constructor
   ·rintro((a | a) | a)
    ·exact .inl a
    ·exact .inr (.inl a)
    ·exact .inr (.inr a)
   ·rintro(a | a | a)
    ·exact .inl (.inl a)
    ·exact .inl (.inr a)
    ·exact .inr a
theorem wY(t:Int)(T:List Int):t∈TS.onceI T↔t∈T:=by unfold TS.onceI;rw[CV];simp
theorem CW(T:List Int)(t:Int):gT (T.map PyData.int) (.int t)=some (.int (T.count t)):=by
 have e:∀T:List Int,jN (T.map PyData.int)=some (T.map V.int):=fun T=>by
  induction T with
  | nil=>rfl
  | cons x r a=>simp[jN,a]
 unfold gT;rw[e];simp only[nQ]
 congr 2
 rw[List.countP_map,List.count];rfl
theorem CY(a:List Int):fm (a.map PyData.int)=some a:=by
 induction a with
 | nil=>rfl
 | cons n a b=>rw[List.map_cons,fm,b];rfl
theorem Pl{T:List Int}(h:T.length<4000):oy [.list (T.map PyData.int)]=some (.list ((fY (TS.onceI T)).map PyData.int)):=by unfold oy kZ;simp[CY,h]
theorem Pm(T:List Int):(TS.onceI T).Nodup:=by
 have key:∀(T Y:List Int),Y.Nodup->(T.foldl TS.addI Y).Nodup:=fun T=>by
  induction T with
  | nil=>intro Y h;exact h
  | cons t T a=>
   intro Y h;refine a _ ?_;unfold TS.addI;split
   ·exact h
   ·rename_i q;exact List.nodup_append.mpr ⟨h,List.nodup_cons.mpr ⟨List.not_mem_nil,List.nodup_nil⟩,fun x b y c=>by rw[List.mem_singleton.mp c];exact fun e=>q (e▸b)⟩
 exact key T [] List.nodup_nil
noncomputable def jo:Int->Nat->List Int
 | _,0=>[]
 | i,n+1=>i::jo (i+1) n
theorem wZ:∀(n:Nat) (i x:Int),x∈jo i n↔i<=x/\x<i+n
 | 0,i,x=>by simp[jo]
 | n+1,i,x=>by rw[jo,List.mem_cons,wZ n (i+1) x];omega
theorem CZ:∀(n:Nat) (i:Int),(jo i n).Nodup
 | 0,i=>List.nodup_nil
 | n+1,i=>List.nodup_cons.mpr ⟨fun h=>by have:=(wZ n (i+1) i).mp h;omega,CZ n (i+1)⟩
theorem Db:∀(n:Nat) (i:Int),(jo i n).length=n
 | 0,_=>rfl
 | n+1,i=>by simp[jo,Db n]
theorem Pn{S:List Int}{first last:Int}(c:first<=last)(b:∀t∈S,first<=t/\t<=last)(a:∀t,first<=t->t<=last->t∈S):((TS.onceI S).length:Int)=last - first+1:=by
 have p:(TS.onceI S).Perm (jo first (last - first+1).toNat):=(List.perm_ext_iff_of_nodup (Pm S) (CZ _ _)).mpr fun t=>by
  rw[wY,wZ];constructor
  ·intro h;have:=b t h;omega
  ·intro h;exact a t h.1 (by omega)
 rw[p.length_eq,Db];omega
theorem Po{T:List Int}(h:T.length<4000):oz [.list (T.map PyData.int)]=some (.int (TS.onceI T).length):=by unfold oz kZ;simp[CY,h]
theorem Pp(d:List Int):(fY d).Pairwise (·<=·):=by have:=List.pairwise_mergeSort (le:=fun a b:Int=>decide (a<=b)) (fun a b c e f=>by simp at *;omega) (fun a b=>by simp;omega) d;exact this.imp fun h=>of_decide_eq_true h
theorem Pq{S:List Int}{first last b:Int}(h:∀t∈S,first<=t/\t<=last)(c:∀x,first<=x->x<=last->(S.count x:Int)<=S.count b):jb [.list (.int 0::S.map fun t=>PyData.int (S.count t))]=some (.int (S.count b)):=by
 have e:PyData.int 0::S.map (fun t=>PyData.int (S.count t))=(0::S.map fun t=>((S.count t:Nat):Int)).map PyData.int:=by rw[List.map_cons,List.map_map];rfl
 obtain⟨M,d,a,f⟩:=Cj (l:=0::S.map fun t=>((S.count t:Nat):Int)) (by simp);rw[e,f]
 congr 2
 refine Int.le_antisymm ?_ ?_
 ·rcases List.mem_cons.mp d with q | q
  ·rw[q];omega
  ·obtain⟨t,g,rfl⟩:=List.mem_map.mp q;have:=h t g;exact c t this.1 this.2
 ·rcases Nat.eq_zero_or_pos (S.count b) with q | q
  ·have:=a 0 List.mem_cons_self;omega
  ·exact a _ (bq _ (List.mem_map.mpr ⟨b,List.count_pos_iff.mp q,rfl⟩))
theorem Pr{a last:Int}{b:Sh}{p:aR}{n:Nat}(z:cP a b)(ok:br p)(e:0<=last)(u:bh a b p last n):(n:Int)<=last+28:=by
 rcases Nat.eq_zero_or_pos n with q | q
 ·omega
 ·obtain⟨v,v1,g⟩:=u.in_ (n - 1) (by omega);cases p with
  | once m=>
   have d:(if n - 1=0 then some m else none)=some v:=v1
   by_cases c:n - 1=0
   ·omega
   ·rw[if_neg c] at d;cases d
  | every f s=>cases v1;obtain⟨⟨i,j⟩,k,l⟩:=ok;have:((n - 1:Nat):Int) * 1<=((n - 1:Nat):Int) * s:=Int.mul_le_mul_of_nonneg_left (by omega) (by omega);omega
  | daily h=>cases v1;have:=By (h:=h) (c:=n - 1) z.rise z.ah;omega
theorem Dc{a first last:Int}{c:Sh}{un:aR->Nat}(z:cP a c)(g:0<=last)(h:∀p,br p->bh a c p last (un p)):∀(b:List bj) (i:Nat),(∀d∈b,br d.plan)->((aX a c first un i b).length:Int)<=(last+28) * b.length
 | [],i,_=>by simp[aX]
 | d::b,i,hd=>by
  have k:=Dc (first:=first) z g h b (i+1) fun e j=>hd e (bq _ j);have u:=Pr z (hd d List.mem_cons_self) g (h d.plan (hd d List.mem_cons_self));have l:=va (a:=a) (f:=first) (ss:=c) (p:=d.plan) (n:=un d.plan);rw[aX,List.length_append,List.length_map,List.length_cons];have e:(last+28) * ((b.length+1:Nat):Int)=(last+28) * b.length+(last+28):=by rw[Int.natCast_add,Int.mul_add];simp
  rw[e];omega
theorem Ps{A:List Int}(Q:A.length<=63):BD [.scr A]=.rt (.dat (.bool true)) []:=by
 have sz:1000000<sizeLine:=by decide
 obtain⟨a,o,t1,h2,zl,zr,zo,zt,l1⟩:=Ov (ns:=A) (t:=[]) (wd:=60) Q (by simp) (by omega);have z:cP a o:=⟨by omega,zr,zo,fun p hp=>by have:=zt p hp;omega⟩
 simp only[List.length_nil] at l1;obtain⟨k,k1,k2,h3⟩:=gC (ns:=A) (t:=t1) (many:=4) Q (by omega) (by omega);obtain⟨i,X,y4,hd,nd,l2,wl⟩:=CT (ns:=A) (x2:=some (.dat (bz a o))) (r:=List.replicate 10 none) Q (1+k).toNat 0 (t:=t1++[.int 0]) (es:=[]) (x4:=none) (by simp;omega) (by simp;omega);rw[List.nil_append,List.map_nil] at wl;simp only[List.length_append,List.length_cons,List.length_nil] at l2;obtain⟨first,f1,f2,h4⟩:=gC (ns:=A) (t:=X) (many:=100) Q (by omega) (by omega);obtain⟨e,e1,e2,h5⟩:=gC (ns:=A) (t:=X++[.int 0]) (many:=70) Q (by simp;omega) (by omega);simp only[List.append_assoc,List.cons_append,List.nil_append] at h5;have s:∀d∈i,br d.plan:=fun d h=>(hd d h).1;have N:i.length<=6:=by omega
 have O:0<=first/\first<=first+e:=⟨f1,by omega⟩
 obtain⟨un,hu⟩:=wH (last:=first - 1) z (by omega);obtain⟨ul,B⟩:=wH (last:=first+e) z (by omega);have rc:=OW z O (by omega) B hd N;have rb:=CK (wd:=1) z O (by omega) ⟨Int.le_refl 1,by omega⟩ B hd N;change jZ _=.rt (.dat (.tuple [.int (bw ((aX a o first ul 0 i).map bG) first (first+e) 1).1,.int (bw ((aX a o first ul 0 i).map bG) first (first+e) 1).2])) [] at rb;have rn:=CO (m:=first) z ⟨f1,by omega⟩ hu hd N;have nh:=Pe z hu B s;have ri:=Pb (first:=first) (last:=first+e) z O (by omega) B hd N;have pm:=TS.sortR_perm (aX a o first ul 0 i);have so:=CM (aX a o first ul 0 i);have ne:∀r∈TS.sortR (aX a o first ul 0 i),∃x y w,r=[x,y,w]/\first<=x/\x<=first+e:=fun r C=>wI B i 0 s r (pm.mem_iff.mp C)
 have cl:=sg (first:=first) B i 0 s;have few:=Dc (first:=first) z (by omega) B i 0 s;have bS:∀t∈(TS.sortR (aX a o first ul 0 i)).map bG,first<=t/\t<=first+e:=fun t ht=>by obtain⟨r,C,rfl⟩:=List.mem_map.mp ht;obtain⟨x,y,w,rfl,b1,b2⟩:=ne r C;exact⟨b1,b2⟩
 have sS:((TS.sortR (aX a o first ul 0 i)).map bG).Pairwise (·<=·):=by rw[List.pairwise_map];refine so.imp_of_mem fun {r r'} C a1 h=>?_;obtain⟨x,y,w,rfl,_⟩:=ne r C;obtain⟨x',y',w',rfl,_⟩:=ne r' a1;exact CQ h
 have lS:((TS.sortR (aX a o first ul 0 i)).map bG).length<4000:=by rw[List.length_map,pm.length_eq];have:(first+e+28) * (i.length:Int)<=(first+e+28) * 4:=Int.mul_le_mul_of_nonneg_left (by omega) (by omega);omega
 have lR:(TS.sortR (aX a o first ul 0 i)).length<=5000:=by rw[List.length_map] at lS;omega
 have ct:∀t,((aX a o first ul 0 i).map bG).count t=((TS.sortR (aX a o first ul 0 i)).map bG).count t:=fun t=>((pm.map bG).count_eq t).symm;obtain⟨b,b1,b2,be,bm⟩:=sk (T:=(aX a o first ul 0 i).map bG) (first:=first) (last:=first+e) (w:=1) ⟨Int.le_refl 1,by omega⟩;rw[be,wW,ct] at rb;have a2:∀x,first<=x->x<=first+e->(((TS.sortR (aX a o first ul 0 i)).map bG).count x:Int)<=((TS.sortR (aX a o first ul 0 i)).map bG).count b:=fun x g1 g2=>by have:=bm x g1 (by omega);rw[wW,wW,ct,ct] at this;exact this
 have mo:=Pq bS a2;have Y:=Ph (first:=first) (last:=first+e) sS bS O.2;have ws:=Pl (T:=[1,2,5,20,first+e - first+1]) (by simp);obtain⟨v',a8,a9,wg⟩:=wX (x0:=some (.scr A)) (x1:=some (.own false (.l (X++[.int 0,.int 0])))) (x4:=y4) (x7:=some (.dat (.list (((TS.sortR (aX a o first ul 0 i)).map bG).map PyData.int)))) (x8:=some (.dat (.int b))) (x9:=some (.dat (.int (((TS.sortR (aX a o first ul 0 i)).map bG).count b)))) (x10:=some (.dat (iM (cR a o un 0 i)))) (x14:=none) z O (by omega) B hd N (fY (TS.onceI [1,2,5,20,first+e - first+1])) 0 none none (Pp _) (fun w hw=>by
   have:=(wY w _).mp ((List.mergeSort_perm _ _).mem_iff.mp hw);simp at this;omega) (fun w hw k=>by
   have h1:1<=w:=by have:=(wY w _).mp ((List.mergeSort_perm _ _).mem_iff.mp hw);simp at this;omega
   obtain⟨c,_,_,ce,_⟩:=sk (T:=(aX a o first ul 0 i).map bG) (first:=first) (last:=first+e) (w:=w) ⟨h1,k⟩;rw[ce];show 0<=Wn _ c w;unfold Wn;omega)
 have cm:cZ (ay 0) ef rL ((TS.sortR (aX a o first ul 0 i)).map aF) [] [none]=some (((TS.sortR (aX a o first ul 0 i)).map bG).map PyData.int):=by
  have:=kd (e:=rL) (g:=ay 0) (f:=wS) (P:=fun U=>∃x,U=[x]) (its:=(TS.sortR (aX a o first ul 0 i)).map aF) (ys:=[]) (U:=[none]) ⟨none,rfl⟩ (fun d J U hU=>?_) (by simp;omega)
  ·rw[List.nil_append] at this;rw[this,List.map_map,List.map_map]
   congr 1
   apply List.map_congr_left;intro r C;obtain⟨x,y,w,rfl,_⟩:=ne r C;rfl
  ·obtain⟨x,rfl⟩:=hU;obtain⟨r,C,rfl⟩:=List.mem_map.mp J;obtain⟨x,y,w,rfl,_⟩:=ne r C;refine⟨[some (.dat (aF [x,y,w]))],[some (.dat (aF [x,y,w]))],rfl,?_,⟨_,rfl⟩⟩;show _=fe.ok (PyData.int x) _;simp[rL,cu,eL]
 have a3:((TS.sortR (aX a o first ul 0 i)).map bG=[]/\(iM (cR a o un 0 i)=.none\/∃x y w,iM (cR a o un 0 i)=aF [x,y,w]/\first+e<x))\/∃x y w R S',(TS.sortR (aX a o first ul 0 i)).map aF=aF [x,y,w]::R/\(TS.sortR (aX a o first ul 0 i)).map bG=x::S'/\iM (cR a o un 0 i)=aF [x,y,w]/\x<=first+e:=by
  rcases nh with⟨H,I⟩ | ⟨x,y,w,R,H,I,q3⟩
  ·refine .inl ⟨by rw[H];rfl,I.imp (fun q=>by rw[q];rfl) id⟩
  ·exact .inr ⟨x,y,w,R.map aF,R.map bG,by rw[H];rfl,by rw[H];rfl,I,q3⟩
 have a4:∀x y,first<=x->x<=y->y<=first+e->(∀t∈(TS.sortR (aX a o first ul 0 i)).map bG,¬ (x<=t/\t<=y))->∃M,ly [.dat (bz a o),.dat (df i),.dat (.int x)]=.rt (.dat M) []/\(M=.none\/∃u v w,M=aF [u,v,w]/\y<u):=fun x y g1 g2 g3 g4=>by
  obtain⟨uq,hq⟩:=wH (last:=x - 1) z (by omega);refine⟨_,CO (m:=x) z ⟨by omega,by omega⟩ hq hd N,?_⟩;cases hG:cR a o uq 0 i with
  | nil=>exact .inl rfl
  | cons r rs=>
   right;have m':dL rs r∈cR a o uq 0 i:=by rw[hG];exact si rs r
   obtain⟨j,d,v,k1,k2,k3⟩:=(mP i 0 _).mp m';refine⟨_,_,_,congrArg aF k3,Int.lt_of_not_ge fun q=>?_⟩;have hv:bG (dL rs r)=v:=by rw[k3];rfl
   obtain⟨c1,c2,_⟩:=wV (first:=x) (last:=first+e) (f:=first) z hq B s g1 m' (by rw[hv];omega);rw[hv] at c2;refine g4 v (List.mem_map.mpr ⟨_,pm.mem_iff.mpr c1,hv⟩) ⟨c2,q⟩
 have a5:PyData.tuple (i.map cL)=df i:=by unfold df;rfl
 rw[a5] at wl;have cn:∀S:List Int,S.length<4000->cZ (ay 0) ef rM (S.map PyData.int) [] [none,some (.dat (.list (S.map PyData.int)))]=some (S.map fun t=>PyData.int (S.count t)):=fun S hS=>by
  have:=kd (e:=rM) (g:=ay 0) (f:=fun d=>match d with | .int t=>.int (S.count t) | _=>d) (P:=fun U=>∃x,U=[x,some (.dat (.list (S.map PyData.int)))]) (its:=S.map PyData.int) (ys:=[]) (U:=[none,some (.dat (.list (S.map PyData.int)))]) ⟨none,rfl⟩ (fun d J U hU=>?_) (by simp;omega)
  ·rw[List.nil_append,List.map_map] at this;exact this
  ·obtain⟨x,rfl⟩:=hU;obtain⟨t,_,rfl⟩:=List.mem_map.mp J;have c:=CW S t;refine⟨[some (.dat (.int t)),some (.dat (.list (S.map PyData.int)))],[some (.dat (.int t)),some (.dat (.list (S.map PyData.int)))],rfl,?_,⟨_,rfl⟩⟩;simp[-gT,rM,qo,c]
 have r1:ee [.int (1+k)]=some (L3.intsFrom 0 (1+k).toNat):=by simp only[ee];rw[if_pos (by simp;omega)]
 generalize (TS.sortR (aX a o first ul 0 i)).map bG=S at *;generalize (TS.sortR (aX a o first ul 0 i)).map aF=RR at *;generalize iM (cR a o un 0 i)=M at *;generalize hF:((S++[first+e+1]).foldl bH (none,first)).1=G at *;generalize bz a o=Z at *;generalize df i=D at *;have a6:=cn S lS;have cb:=CW S b;have ln:=Po lS;have a0:SeqAt.shaped (.list (S.map PyData.int))=true:=Ow S;have E:SeqAt.shaped (.list [])=true:=rfl;clear cn;refine OK (n:=14) ?_;unfold wm;simp only[List.replicate] at wl ⊢;refine eI (by simp[vS]<;>rfl) ?_;refine eI (by simp[vT,h2]<;>rfl) ?_;refine eI (by simp[vU]<;>rfl) ?_;refine eI (by simp[-ee,vV,h3,r1];exact wl) ?_;refine eI (by simp[vW,h4]<;>rfl) ?_;refine eI (by simp[vX,h5]<;>rfl) ?_;refine eI (by simp[vY,rc,cm,show S.length<=sizeLine by omega]<;>rfl) ?_;refine eI (by simp[vZ,rb]<;>rfl) ?_;refine eI (by simp[-gT,wa,qo,cb,a6,Ox,mo,show S.length<=sizeLine by omega,show 1+S.length<=sizeLine by omega]<;>rfl) ?_;refine eI (by simp[wb,rn]<;>rfl) ?_;have a7:lB [some (.scr A),some (.own false (.l (X++[.int 0,.int 0]))),some (.dat Z),some (.dat D),y4,some (.dat (.int first)),some (.dat (.int (first+e))),some (.dat (.list (S.map PyData.int))),some (.dat (.int b)),some (.dat (.int (S.count b))),some (.dat M),none,none,none,none]=.nx [some (.scr A),some (.own false (.l (X++[.int 0,.int 0]))),some (.dat Z),some (.dat D),y4,some (.dat (.int first)),some (.dat (.int (first+e))),some (.dat (.list (S.map PyData.int))),some (.dat (.int b)),some (.dat (.int (S.count b))),some (.dat M),none,none,none,none]:=by
  rcases a3 with⟨H,I⟩ | ⟨x,y,w,R,S',H,I,q3,q4⟩
  ·have en:=Cc E;have nn:=wA E;rw[H];rcases I with rfl | ⟨x,y,w,rfl,q3⟩
   ·simp[lB,en,nn,isNone,wG]
   ·simp[lB,en,nn,isNone,wG,q3]
  ·have en:aT false (.list (S.map PyData.int)) (.list [])=some (.bool false):=by unfold aT;rw[a0,E,I];rfl
   have nn:aT true (.list (S.map PyData.int)) (.list [])=some (.bool true):=by unfold aT;rw[a0,E,I];rfl
   have sr:=wA (OU [x,y,w]);rw[H] at rc;rw[q3];generalize S.map PyData.int=SS at *;simp[lB,en,nn,isNone,wG,rc,sr,show ¬ first+e<x by omega]
 refine eI a7 ?_;refine eI (by simp[wc]<;>rfl) ?_;simp only[List.map_cons,List.map_nil] at ws;refine eI (by simp[-ee,we];rw[ws];exact wg) ?_;refine eI (by simp[wh,ri]<;>rfl) ?_;cases hG:G with
 | none=>have fu:=Pn O.2 bS (Y.2 hG);have L:=mM ((TS.onceI S).length) (first+e - first+1);rw[fu] at L;simp only[decide_true] at L;exact⟨_,_,by simp[aB,rN,iN,isNone,ln,fu,L]<;>exact⟨rfl,rfl⟩⟩
 | some p=>
  obtain⟨x,y⟩:=p;obtain⟨g1,g2,g3,g4⟩:=Y.1 x y hG;obtain⟨M2,m1,m2⟩:=a4 x y g1 g2 g3 g4;refine eI (by simp[rN,iN,isNone]<;>rfl) ?_;refine eI (by simp[wj,iN,m1]<;>rfl) ?_;rcases m2 with rfl | ⟨u,v,w,rfl,m3⟩
  ·exact⟨_,_,by simp[rO,isNone,oB,oA,re,g1,g2,g3]<;>exact⟨rfl,rfl⟩⟩
  ·exact⟨_,_,by simp[rO,isNone,oB,oA,re,g1,g2,g3,m3]<;>exact⟨rfl,rfl⟩⟩
end K3
namespace K3
open PySem PySem.Spec L2 L2.L3 PyProof.Rows
theorem Pt{K:Frag}{mg:Str->Option Value}{f:FM}{vs:List V}{H:Hp}{Q:VK}{E:XK}(i:GH mg H)(j:∀c:List Int,c.length<=63->f [.scr c]=.rt (.dat (.bool true)) [])(h:∃a c,vs=[.ref a]/\gH K H a c/\∀d,Q (.bl true) d):bJ K mg f vs H Q E:=by obtain⟨a,c,rfl,e,q⟩:=h;refine⟨i,[.scr c],[[]],[],.oth (fun _ z=>by cases z) (fun _ _ z=>by cases z) ⟨a,rfl,e⟩ .nil,List.nodup_nil,fun b l=>by simp at l,?_⟩;rw[j c e.1];intro v d m g k _ _;rw[show v=.bl true from DV.bl_inv k];exact q d
noncomputable def xa(K:Frag):Sp:=fun vs H Q _=>∃a c,vs=[.ref a]/\gH K H a c/\∀b,Q (.bl true) b
abbrev LK(K:Frag)(f:Addr)(a:Value)(b:Option Addr)(n q:Str)(s:Stmt)(k d p:Value)(e:Option Addr)(c t:Value)(l:Array (Option Value)):Prop:=K.lookup f=some ⟨a,b,.func (fnOf n q (kl s) (jt s) (bE s) .none k d p e c t),l⟩
abbrev NI(K:Frag)(n:Str)(f:Addr):Prop:=nsIn K mainGlobals n=some (some (.ref f))
abbrev NV(K:Frag)(n:Str)(i:Int)(t:Tok):Prop:=nsIn K mainGlobals n=some (some (.int i t))
abbrev NZ(K:Frag)(n:Str):Prop:=nsIn K mainGlobals n=some none
abbrev KI(K:Frag)(f:Addr):Prop:=PySem.W.keepIn K (.ref f)=true
local macro_rules | `(tactic| walk_at "b")=>`(tactic| first|(exact(fun _ _ _ _ _ _ us hl=>match us,hl with | [_],_=>rfl))|(exact(fun _ _ _ _ _ _ us hl=>match us,hl with | [_,_],_=>rfl))|(exact(fun _ _ _ _ _ _ us hl=>match us,hl with | [_,_,_],_=>rfl))|(exact(fun _ _ _ _ _ _ us hl=>match us,hl with | [_,_,_,_],_=>rfl))|(exact(fun _ _ _ _ _ _ us hl=>match us,hl with | [_,_,_,_,_],_=>rfl)))
theorem all_mk{l:PySem.W.OpenLaw}{w:World}{K:Frag}{h:Heap}{mg:Str->Option Value}{fa:Addr}(X:K.In h)(G:h.Ns mainGlobals mg)(hfa:mg "law" = some (.ref fa))
  {a3:Addr}{J3 J4:Option Addr}{J5:Array (Option Value)}{J6 J7 J8 J9 g0 K0:Value}
  {m:Addr}{p6 p7:Option Addr}{p8:Array (Option Value)}{p9 q0 q1 q2 a9 q3:Value}
  {a4:Addr}{K1 K2:Option Addr}{K3:Array (Option Value)}{K4 K5 K6 K7 g1 K8:Value}
  {I:Addr}{A3 A4:Option Addr}{A5:Array (Option Value)}{A6 A7 A8 A9 d1 B0:Value}
  {p:Addr}{u0 u1:Option Addr}{u2:Array (Option Value)}{u3 u4 u5 u6 b6 u7:Value}
  {b7:Addr}{S4 S5:Option Addr}{S6:Array (Option Value)}{S7 S8 S9 T0 o3 T1:Value}
  {a5:Addr}{K9 L0:Option Addr}{L1:Array (Option Value)}{L2 L3 L4 L5 g2 L6:Value}
  {b8:Addr}{T2 T3:Option Addr}{T4:Array (Option Value)}{T5 T6 T7 T8 o4 T9:Value}
  {b9:Addr}{U0 U1:Option Addr}{U2:Array (Option Value)}{U3 U4 U5 U6 o5 U7:Value}
  {c0:Addr}{U8 U9:Option Addr}{V0:Array (Option Value)}{V1 V2 V3 V4 o6 V5:Value}
  {J:Addr}{B1 B2:Option Addr}{B3:Array (Option Value)}{B4 B5 B6 B7 d2 B8:Value}
  {q:Addr}{u8 u9:Option Addr}{v0:Array (Option Value)}{v1 v2 v3 v4 c1 v5:Value}
  {r:Addr}{v6 v7:Option Addr}{v8:Array (Option Value)}{v9 w0 w1 w2 c2 w3:Value}
  {g:Addr}{k0 k1:Option Addr}{k2:Array (Option Value)}{k3 k4 k5 k6 U k7:Value}
  {d:Addr}{g3 g4:Option Addr}{g5:Array (Option Value)}{g6 g7 g8 g9 z h0:Value}
  {n:Addr}{q4 q5:Option Addr}{q6:Array (Option Value)}{q7 q8 q9 r0 b0 r1:Value}
  {k8:Addr}{od_shown an_shown:Option Addr}{sl_shown:Array (Option Value)}{oc_shown kV_shown dc_shown pm_shown J2 ct_shown:Value}
  {L:Addr}{B9 C0:Option Addr}{C1:Array (Option Value)}{C2 C3 C4 C5 d3 C6:Value}
  {o:Addr}{r2 r3:Option Addr}{r4:Array (Option Value)}{r5 r6 r7 r8 b1 r9:Value}
  {f:Addr}{h1 h2:Option Addr}{h3:Array (Option Value)}{h4 h5 h6 h7 A h8:Value}
  {a:Addr}{e4 e5:Option Addr}{e6:Array (Option Value)}{e7 e8 e9 f0 t f1:Value}
  {M:Addr}{C7 C8:Option Addr}{C9:Array (Option Value)}{D0 D1 D2 D3 d4 D4:Value}
  {u:Addr}{w4 w5:Option Addr}{w6:Array (Option Value)}{w7 w8 w9 x0 c3 x1:Value}
  {c4:Addr}{V6 V7:Option Addr}{V8:Array (Option Value)}{V9 W0 W1 W2 o7 W3:Value}
  {a6:Addr}{L7 L8:Option Addr}{L9:Array (Option Value)}{M0 M1 M2 M3 h9 M4:Value}
  {x2:Addr}{od_dues an_dues:Option Addr}{sl_dues:Array (Option Value)}{oc_dues kV_dues dc_dues pm_dues W4 ct_dues:Value}
  {i:Addr}{k9 l0:Option Addr}{l1:Array (Option Value)}{l2 l3 l4 l5 Y l6:Value}
  {b:Addr}{f2 f3:Option Addr}{f4:Array (Option Value)}{f5 f6 f7 f8 x f9:Value}
  {a7:Addr}{M5 M6:Option Addr}{M7:Array (Option Value)}{M8 M9 N0 N1 i0 N2:Value}
  {j:Addr}{l7 l8:Option Addr}{l9:Array (Option Value)}{m0 m1 m2 m3 Z m4:Value}
  {c5:Addr}{W5 W6:Option Addr}{W7:Array (Option Value)}{W8 W9 X0 X1 o8 X2:Value}
  {c6:Addr}{X3 X4:Option Addr}{X5:Array (Option Value)}{X6 X7 X8 X9 o9 Y0:Value}
  {a8:Addr}{N3 N4:Option Addr}{N5:Array (Option Value)}{N6 N7 N8 N9 i1 O0:Value}
  {k:Addr}{m5 m6:Option Addr}{m7:Array (Option Value)}{m8 m9 n0 n1 a0 n2:Value}
  {y:Addr}{x3 x4:Option Addr}{x5:Array (Option Value)}{x6 x7 x8 x9 c7 y0:Value}
  {N:Addr}{D5 D6:Option Addr}{D7:Array (Option Value)}{D8 D9 E0 E1 d5 E2:Value}
  {O:Addr}{E3 E4:Option Addr}{E5:Array (Option Value)}{E6 E7 E8 E9 d6 F0:Value}
  {R:Addr}{F1 F2:Option Addr}{F3:Array (Option Value)}{F4 F5 F6 F7 d7 F8:Value}
  {S:Addr}{F9 G0:Option Addr}{G1:Array (Option Value)}{G2 G3 G4 G5 d8 G6:Value}
  {O1:Addr}{od_law an_law:Option Addr}{sl_law:Array (Option Value)}{oc_law kV_law dc_law pm_law O2 ct_law:Value}
  {t1_ t6_ t2_ t4_ t0_ t8_ t5_ t3_ t7_:Tok}
  {D_:Addr}
  (Y1:NI K "is_whole" a3)
  (Y2:LK K a3 J6 J3 "is_whole" "is_whole" lC J7 J8 J9 J4 g0 K0 J5)
  (Y3:codeIn K g0 "is_whole" = true)
  (Y4:KI K a3)
  (y1:NI K "is_tuple_of" m)
  (y2:LK K m p9 p6 "is_tuple_of" "is_tuple_of" lD q0 q1 q2 p7 a9 q3 p8)
  (y3:codeIn K a9 "is_tuple_of" = true)
  (y4:KI K m)
  (Y5:NI K "is_ahead" a4)
  (Y6:LK K a4 K4 K1 "is_ahead" "is_ahead" lE K5 K6 K7 K2 g1 K8 K3)
  (Y7:codeIn K g1 "is_ahead" = true)
  (Y8:KI K a4)
  (O3:NI K "is_moment" I)
  (O4:LK K I A6 A3 "is_moment" "is_moment" lF A7 A8 A9 A4 d1 B0 A5)
  (O5:codeIn K d1 "is_moment" = true)
  (O6:KI K I)
  (G7:NI K "are_shifts" p)
  (G8:LK K p u3 u0 "are_shifts" "are_shifts" lG u4 u5 u6 u1 b6 u7 u2)
  (G9:codeIn K b6 "are_shifts" = true)
  (H0:KI K p)
  (a_is_zone:NI K "is_zone" b7)
  (l_is_zone:LK K b7 S7 S4 "is_zone" "is_zone" lH S8 S9 T0 S5 o3 T1 S6)
  (c_is_zone:codeIn K o3 "is_zone" = true)
  (k_is_zone:KI K b7)
  (Y9:NI K "has_word" a5)
  (Z0:LK K a5 L2 K9 "has_word" "has_word" lI L3 L4 L5 L0 g2 L6 L1)
  (Z1:codeIn K g2 "has_word" = true)
  (Z2:KI K a5)
  (a_is_plan:NI K "is_plan" b8)
  (l_is_plan:LK K b8 T5 T2 "is_plan" "is_plan" lJ T6 T7 T8 T3 o4 T9 T4)
  (c_is_plan:codeIn K o4 "is_plan" = true)
  (k_is_plan:KI K b8)
  (a_is_late:NI K "is_late" b9)
  (l_is_late:LK K b9 U3 U0 "is_late" "is_late" lK U4 U5 U6 U1 o5 U7 U2)
  (c_is_late:codeIn K o5 "is_late" = true)
  (k_is_late:KI K b9)
  (a_is_deed:NI K "is_deed" c0)
  (l_is_deed:LK K c0 V1 U8 "is_deed" "is_deed" lL V2 V3 V4 U9 o6 V5 V0)
  (c_is_deed:codeIn K o6 "is_deed" = true)
  (k_is_deed:KI K c0)
  (O7:NI K "are_deeds" J)
  (O8:LK K J B4 B1 "are_deeds" "are_deeds" lM B5 B6 B7 B2 d2 B8 B3)
  (O9:codeIn K d2 "are_deeds" = true)
  (P0:KI K J)
  (H1:NI K "check_zone" q)
  (H2:LK K q v1 u8 "check_zone" "check_zone" lN v2 v3 v4 u9 c1 v5 v0)
  (H3:codeIn K c1 "check_zone" = true)
  (H4:KI K q)
  (H5:NI K "check_plan" r)
  (H6:LK K r v9 v6 "check_plan" "check_plan" lO w0 w1 w2 v7 c2 w3 v8)
  (H7:codeIn K c2 "check_plan" = true)
  (H8:KI K r)
  (s0:NI K "check_moment" g)
  (s1:LK K g k3 k0 "check_moment" "check_moment" lP k4 k5 k6 k1 U k7 k2)
  (s2:codeIn K U "check_moment" = true)
  (s3:KI K g)
  (n3:NI K "check_stretch" d)
  (n4:LK K d g6 g3 "check_stretch" "check_stretch" lQ g7 g8 g9 g4 z h0 g5)
  (n5:codeIn K z "check_stretch" = true)
  (n6:KI K d)
  (y5:NI K "check_deeds" n)
  (y6:LK K n q7 q4 "check_deeds" "check_deeds" lT q8 q9 r0 q5 b0 r1 q6)
  (y7:codeIn K b0 "check_deeds" = true)
  (y8:KI K n)
  (a_shown:NI K "shown" k8)
  (l_shown:LK K k8 oc_shown od_shown "shown" "shown" lU kV_shown dc_shown pm_shown an_shown J2 ct_shown sl_shown)
  (c_shown:codeIn K J2 "shown" = true)
  (k_shown:KI K k8)
  (P1:NI K "stretches" L)
  (P2:LK K L C2 B9 "stretches" "stretches" lV C3 C4 C5 C0 d3 C6 C1)
  (P4:codeIn K d3 "stretches" = true)
  (P5:KI K L)
  (y9:NI K "is_ahead_of" o)
  (z0:LK K o r5 r2 "is_ahead_of" "is_ahead_of" lW r6 r7 r8 r3 b1 r9 r4)
  (z1:codeIn K b1 "is_ahead_of" = true)
  (z2:KI K o)
  (n7:NI K "first_showing" f)
  (n8:LK K f h4 h1 "first_showing" "first_showing" lZ h5 h6 h7 h2 A h8 h3)
  (n9:codeIn K A "first_showing" = true)
  (o0:KI K f)
  (i2:NI K "furthest_shown" a)
  (i3:LK K a e7 e4 "furthest_shown" "furthest_shown" me e8 e9 f0 e5 t f1 e6)
  (i4:codeIn K t "furthest_shown" = true)
  (i5:KI K a)
  (P6:NI K "first_day" M)
  (P7:LK K M D0 C7 "first_day" "first_day" mf D1 D2 D3 C8 d4 D4 C9)
  (P8:codeIn K d4 "first_day" = true)
  (P9:KI K M)
  (H9:NI K "daily_time" u)
  (I0:LK K u w7 w4 "daily_time" "daily_time" mh w8 w9 x0 w5 c3 x1 w6)
  (I1:codeIn K c3 "daily_time" = true)
  (I2:KI K u)
  (a_time_of:NI K "time_of" c4)
  (l_time_of:LK K c4 V9 V6 "time_of" "time_of" mi W0 W1 W2 V7 o7 W3 V8)
  (c_time_of:codeIn K o7 "time_of" = true)
  (k_time_of:KI K c4)
  (Z3:NI K "times_by" a6)
  (Z4:LK K a6 M0 L7 "times_by" "times_by" mj M1 M2 M3 L8 h9 M4 L9)
  (Z5:codeIn K h9 "times_by" = true)
  (Z6:KI K a6)
  (a_dues:NI K "dues" x2)
  (l_dues:LK K x2 oc_dues od_dues "dues" "dues" ml kV_dues dc_dues pm_dues an_dues W4 ct_dues sl_dues)
  (c_dues:codeIn K W4 "dues" = true)
  (k_dues:KI K x2)
  (s4:NI K "rows_between" i)
  (s5:LK K i l2 k9 "rows_between" "rows_between" mq l3 l4 l5 l0 Y l6 l1)
  (s6:codeIn K Y "rows_between" = true)
  (s7:KI K i)
  (i6:NI K "check_calendar" b)
  (i7:LK K b f5 f2 "check_calendar" "check_calendar" mu f6 f7 f8 f3 x f9 f4)
  (i8:codeIn K x "check_calendar" = true)
  (i9:KI K b)
  (Z7:NI K "calendar" a7)
  (Z8:LK K a7 M8 M5 "calendar" "calendar" mv M9 N0 N1 M6 i0 N2 M7)
  (Z9:codeIn K i0 "calendar" = true)
  (k_calendar:KI K a7)
  (s8:NI K "idle_stretch" j)
  (s9:LK K j m0 l7 "idle_stretch" "idle_stretch" mw m1 m2 m3 l8 Z m4 l9)
  (t0:codeIn K Z "idle_stretch" = true)
  (t1:KI K j)
  (a_many_at:NI K "many_at" c5)
  (l_many_at:LK K c5 W8 W5 "many_at" "many_at" mx W9 X0 X1 W6 o8 X2 W7)
  (c_many_at:codeIn K o8 "many_at" = true)
  (k_many_at:KI K c5)
  (a_busiest:NI K "busiest" c6)
  (l_busiest:LK K c6 X6 X3 "busiest" "busiest" my X7 X8 X9 X4 o9 Y0 X5)
  (c_busiest:codeIn K o9 "busiest" = true)
  (k_busiest:KI K c6)
  (a_next_due:NI K "next_due" a8)
  (l_next_due:LK K a8 N6 N3 "next_due" "next_due" mz N7 N8 N9 N4 i1 O0 N5)
  (c_next_due:codeIn K i1 "next_due" = true)
  (k_next_due:KI K a8)
  (t2:NI K "_law_cell_at" k)
  (t3:LK K k m8 m5 "_law_cell_at" "_law_cell_at" mB m9 n0 n1 m6 a0 n2 m7)
  (t4:codeIn K a0 "_law_cell_at" = true)
  (t5:KI K k)
  (I3:NI K "_law_mixed" y)
  (I4:LK K y x6 x3 "_law_mixed" "_law_mixed" mC x7 x8 x9 x4 c7 y0 x5)
  (I5:codeIn K c7 "_law_mixed" = true)
  (I6:KI K y)
  (Q0:NI K "_law_draw" N)
  (Q1:LK K N D8 D5 "_law_draw" "_law_draw" mD D9 E0 E1 D6 d5 E2 D7)
  (Q2:codeIn K d5 "_law_draw" = true)
  (Q3:KI K N)
  (Q4:NI K "_law_pick" O)
  (Q5:LK K O E6 E3 "_law_pick" "_law_pick" mE E7 E8 E9 E4 d6 F0 E5)
  (Q6:codeIn K d6 "_law_pick" = true)
  (Q7:KI K O)
  (Q8:NI K "_law_zone" R)
  (Q9:LK K R F4 F1 "_law_zone" "_law_zone" mF F5 F6 F7 F2 d7 F8 F3)
  (R0:codeIn K d7 "_law_zone" = true)
  (R1:KI K R)
  (R2:NI K "_law_plan" S)
  (R3:LK K S G2 F9 "_law_plan" "_law_plan" mG G3 G4 G5 G0 d8 G6 G1)
  (R4:codeIn K d8 "_law_plan" = true)
  (R5:KI K S)
  (a_law:NI K "law" O1)
  (l_law:LK K O1 oc_law od_law "law" "law" jl kV_law dc_law pm_law an_law O2 ct_law sl_law)
  (c_law:codeIn K O2 "law" = true)
  (k_law:KI K O1)
  (v1_:NV K "LAST_MOMENT" (9999) t1_)
  (v8_:NV K "LAST_HOUR" (23) t6_)
  (v3_:NV K "LEAST_AHEAD" (-12) t2_)
  (v4_:NV K "MOST_AHEAD" (14) t4_)
  (v2_:NV K "MOST_SHIFTS" (6) t0_)
  (v7_:NV K "MOST_STEP" (999) t8_)
  (v5_:NV K "MOST_DEEDS" (6) t5_)
  (v0_:NV K "MOST_WITHIN" (999) t3_)
  (v6_:NV K "DAY_HOURS" (24) t7_)
  (z3_:NZ K "ANY_ZONE")
  (z2_:NZ K "NO_DEEDS")
  (z12_:NZ K "all")
  (z7_:NZ K "bool")
  (z1_:NZ K "enumerate")
  (z17_:NZ K "int")
  (z0_:NZ K "isinstance")
  (z13_:NZ K "len")
  (z8_:NZ K "list")
  (z14_:NZ K "max")
  (z10_:NZ K "min")
  (z6_:NZ K "range")
  (z15_:NZ K "set")
  (z4_:NZ K "sorted")
  (z11_:NZ K "str")
  (z9_:NZ K "sum")
  (z5_:NZ K "tuple")
  (z16_:NZ K "zip")
  (a_Due:NI K "DueError" D_)
  (x_Due:excIn K D_ nO "ValueError.__new__" = true)
  (x_tab:zT K D_ BC=true) :
  ∃fd:FuncData,(∀(s:Shared) (v:Value),BindsTo s fd ⟨[v],[]⟩ [("_law_script",v)])/\∀base:Heap,K.In base->base.Ns mainGlobals mg->aA l.prog w K mg base (bD l.prog w) 10 fa fd ["_law_script"] (xa K):=by
 have e:=hfa.symm.trans (mg_of X G a_law);cases e;have p0:=bT (st:=lC) Y2 Y3 Y4;have D_is_whole:FD K mg "is_whole" lC ["thing","least","most"] _ _:=⟨p0,mg_of X G Y1,p0.binds (by walk_at "b")⟩;have c8:=bT (st:=lD) y2 y3 y4;have z3:FD K mg "is_tuple_of" lD ["thing","length"] _ _:=⟨c8,mg_of X G y1,c8.binds (by walk_at "b")⟩;have p1:=bT (st:=lE) Y6 Y7 Y8;have D_is_ahead:FD K mg "is_ahead" lE ["thing"] _ _:=⟨p1,mg_of X G Y5,p1.binds (by walk_at "b")⟩;have j0:=bT (st:=lF) O4 O5 O6;have R6:FD K mg "is_moment" lF ["thing"] _ _:=⟨j0,mg_of X G O3,j0.binds (by walk_at "b")⟩;have d9:=bT (st:=lG) G8 G9 H0;have I7:FD K mg "are_shifts" lG ["thing"] _ _:=⟨d9,mg_of X G G7,d9.binds (by walk_at "b")⟩;have z4:=bT (st:=lH) l_is_zone c_is_zone k_is_zone;have D_is_zone:FD K mg "is_zone" lH ["thing"] _ _:=⟨z4,mg_of X G a_is_zone,z4.binds (by walk_at "b")⟩;have p2:=bT (st:=lI) Z0 Z1 Z2;have D_has_word:FD K mg "has_word" lI ["thing","word","length"] _ _:=⟨p2,mg_of X G Y9,p2.binds (by walk_at "b")⟩;have z5:=bT (st:=lJ) l_is_plan c_is_plan k_is_plan;have D_is_plan:FD K mg "is_plan" lJ ["thing"] _ _:=⟨z5,mg_of X G a_is_plan,z5.binds (by walk_at "b")⟩;have z6:=bT (st:=lK) l_is_late c_is_late k_is_late;have D_is_late:FD K mg "is_late" lK ["thing"] _ _:=⟨z6,mg_of X G a_is_late,z6.binds (by walk_at "b")⟩;have z7:=bT (st:=lL) l_is_deed c_is_deed k_is_deed;have D_is_deed:FD K mg "is_deed" lL ["thing"] _ _:=⟨z7,mg_of X G a_is_deed,z7.binds (by walk_at "b")⟩;have j1:=bT (st:=lM) O8 O9 P0;have R7:FD K mg "are_deeds" lM ["thing"] _ _:=⟨j1,mg_of X G O7,j1.binds (by walk_at "b")⟩;have e0:=bT (st:=lN) H2 H3 H4;have I8:FD K mg "check_zone" lN ["thing"] _ _:=⟨e0,mg_of X G H1,e0.binds (by walk_at "b")⟩;have e1:=bT (st:=lO) H6 H7 H8;have I9:FD K mg "check_plan" lO ["thing"] _ _:=⟨e1,mg_of X G H5,e1.binds (by walk_at "b")⟩;have b2:=bT (st:=lP) s1 s2 s3;have t6:FD K mg "check_moment" lP ["thing"] _ _:=⟨b2,mg_of X G s0,b2.binds (by walk_at "b")⟩;have a1:=bT (st:=lQ) n4 n5 n6;have o1:FD K mg "check_stretch" lQ ["first","last"] _ _:=⟨a1,mg_of X G n3,a1.binds (by walk_at "b")⟩;have c9:=bT (st:=lT) y6 y7 y8;have z8:FD K mg "check_deeds" lT ["thing"] _ _:=⟨c9,mg_of X G y5,c9.binds (by walk_at "b")⟩;have F_shown:=bT (st:=lU) l_shown c_shown k_shown;have D_shown:FD K mg "shown" lU ["zone","moment"] _ _:=⟨F_shown,mg_of X G a_shown,F_shown.binds (by walk_at "b")⟩;have j2:=bT (st:=lV) P2 P4 P5;have R8:FD K mg "stretches" lV ["zone"] _ _:=⟨j2,mg_of X G P1,j2.binds (by walk_at "b")⟩;have d0:=bT (st:=lW) z0 z1 z2;have z9:FD K mg "is_ahead_of" lW ["moment","end"] _ _:=⟨d0,mg_of X G y9,d0.binds (by walk_at "b")⟩;have a2:=bT (st:=lZ) n8 n9 o0;have o2:FD K mg "first_showing" lZ ["zone","hours"] _ _:=⟨a2,mg_of X G n7,a2.binds (by walk_at "b")⟩;have B:=bT (st:=me) i3 i4 i5;have j3:FD K mg "furthest_shown" me ["zone","moment"] _ _:=⟨B,mg_of X G i2,B.binds (by walk_at "b")⟩;have j4:=bT (st:=mf) P7 P8 P9;have R9:FD K mg "first_day" mf ["zone","hour"] _ _:=⟨j4,mg_of X G P6,j4.binds (by walk_at "b")⟩;have e2:=bT (st:=mh) I0 I1 I2;have J0:FD K mg "daily_time" mh ["zone","hour","count"] _ _:=⟨e2,mg_of X G H9,e2.binds (by walk_at "b")⟩;have A0:=bT (st:=mi) l_time_of c_time_of k_time_of;have D_time_of:FD K mg "time_of" mi ["zone","plan","count"] _ _:=⟨A0,mg_of X G a_time_of,A0.binds (by walk_at "b")⟩;have p3:=bT (st:=mj) Z4 Z5 Z6;have D_times_by:FD K mg "times_by" mj ["zone","plan","moment"] _ _:=⟨p3,mg_of X G Z3,p3.binds (by walk_at "b")⟩;have F_dues:=bT (st:=ml) l_dues c_dues k_dues;have D_dues:FD K mg "dues" ml ["zone","plan","first","last"] _ _:=⟨F_dues,mg_of X G a_dues,F_dues.binds (by walk_at "b")⟩;have b3:=bT (st:=mq) s5 s6 s7;have t7:FD K mg "rows_between" mq ["zone","deeds","first","last"] _ _:=⟨b3,mg_of X G s4,b3.binds (by walk_at "b")⟩;have D:=bT (st:=mu) i7 i8 i9;have j5:FD K mg "check_calendar" mu ["zone","deeds","first","last"] _ _:=⟨D,mg_of X G i6,D.binds (by walk_at "b")⟩;have p4:=bT (st:=mv) Z8 Z9 k_calendar;have D_calendar:FD K mg "calendar" mv ["zone","deeds","first","last"] _ _:=⟨p4,mg_of X G Z7,p4.binds (by walk_at "b")⟩;have b4:=bT (st:=mw) s9 t0 t1;have t8:FD K mg "idle_stretch" mw ["zone","deeds","first","last"] _ _:=⟨b4,mg_of X G s8,b4.binds (by walk_at "b")⟩;have A1:=bT (st:=mx) l_many_at c_many_at k_many_at;have D_many_at:FD K mg "many_at" mx ["zone","deeds","first","last"] _ _:=⟨A1,mg_of X G a_many_at,A1.binds (by walk_at "b")⟩;have A2:=bT (st:=my) l_busiest c_busiest k_busiest;have D_busiest:FD K mg "busiest" my ["zone","deeds","first","last","wide"] _ _:=⟨A2,mg_of X G a_busiest,A2.binds (by walk_at "b")⟩;have p5:=bT (st:=mz) l_next_due c_next_due k_next_due;have D_next_due:FD K mg "next_due" mz ["zone","deeds","moment"] _ _:=⟨p5,mg_of X G a_next_due,p5.binds (by walk_at "b")⟩;have b5:=bT (st:=mB) t3 t4 t5;have t9:FD K mg "_law_cell_at" mB ["_law_script","_law_k"] _ _:=⟨b5,mg_of X G t2,b5.binds (by walk_at "b")⟩;have e3:=bT (st:=mC) I4 I5 I6;have J1:FD K mg "_law_mixed" mC ["_law_script","_law_k","_law_many"] _ _:=⟨e3,mg_of X G I3,e3.binds (by walk_at "b")⟩;have j6:=bT (st:=mD) Q1 Q2 Q3;have S0:FD K mg "_law_draw" mD ["_law_script","_law_town","_law_many"] _ _:=⟨j6,mg_of X G Q0,j6.binds (by walk_at "b")⟩;have j7:=bT (st:=mE) Q5 Q6 Q7;have S1:FD K mg "_law_pick" mE ["_law_script","_law_town","_law_some"] _ _:=⟨j7,mg_of X G Q4,j7.binds (by walk_at "b")⟩;have j8:=bT (st:=mF) Q9 R0 R1;have S2:FD K mg "_law_zone" mF ["_law_script","_law_town","_law_wide"] _ _:=⟨j8,mg_of X G Q8,j8.binds (by walk_at "b")⟩;have j9:=bT (st:=mG) R3 R4 R5;have S3:FD K mg "_law_plan" mG ["_law_script","_law_town","_law_wide"] _ _:=⟨j9,mg_of X G R2,j9.binds (by walk_at "b")⟩;have F_law:=bT (st:=jl) l_law c_law k_law;have D_law:FD K mg "law" jl ["_law_script"] _ _:=⟨F_law,mg_of X G a_law,F_law.binds (by walk_at "b")⟩;have T:Tx K mg:={
  d00:=⟨_,_,D_is_whole⟩
  d01:=⟨_,_,z3⟩
  d02:=⟨_,_,D_is_ahead⟩
  d03:=⟨_,_,R6⟩
  d04:=⟨_,_,I7⟩
  d05:=⟨_,_,D_is_zone⟩
  d06:=⟨_,_,D_has_word⟩
  d07:=⟨_,_,D_is_plan⟩
  d08:=⟨_,_,D_is_late⟩
  d09:=⟨_,_,D_is_deed⟩
  d0a:=⟨_,_,R7⟩
  d0b:=⟨_,_,I8⟩
  d0c:=⟨_,_,I9⟩
  d0d:=⟨_,_,t6⟩
  d0e:=⟨_,_,o1⟩
  d0f:=⟨_,_,z8⟩
  d0g:=⟨_,_,D_shown⟩
  d0h:=⟨_,_,R8⟩
  d0i:=⟨_,_,z9⟩
  d0j:=⟨_,_,o2⟩
  d0k:=⟨_,_,j3⟩
  d0l:=⟨_,_,R9⟩
  d0m:=⟨_,_,J0⟩
  d0n:=⟨_,_,D_time_of⟩
  d0o:=⟨_,_,D_times_by⟩
  d0p:=⟨_,_,D_dues⟩
  d0q:=⟨_,_,t7⟩
  d0r:=⟨_,_,j5⟩
  d0s:=⟨_,_,D_calendar⟩
  d0t:=⟨_,_,t8⟩
  d0u:=⟨_,_,D_many_at⟩
  d0v:=⟨_,_,D_busiest⟩
  d0w:=⟨_,_,D_next_due⟩
  d0x:=⟨_,_,t9⟩
  d0y:=⟨_,_,J1⟩
  d0z:=⟨_,_,S0⟩
  d10:=⟨_,_,S1⟩
  d11:=⟨_,_,S2⟩
  d12:=⟨_,_,S3⟩
  d13:=⟨_,mg_of X G v1_⟩
  d14:=⟨_,mg_of X G v8_⟩
  d15:=⟨_,mg_of X G v3_⟩
  d16:=⟨_,mg_of X G v4_⟩
  d17:=⟨_,mg_of X G v2_⟩
  d18:=⟨_,mg_of X G v7_⟩
  d19:=⟨_,mg_of X G v5_⟩
  d1a:=⟨_,mg_of X G v0_⟩
  d1b:=⟨_,mg_of X G v6_⟩
  d1c:=mg_none_of X G z12_
  d1d:=mg_none_of X G z7_
  d1e:=mg_none_of X G z1_
  d1f:=mg_none_of X G z17_
  d1g:=mg_none_of X G z0_
  d1h:=mg_none_of X G z13_
  d1i:=mg_none_of X G z8_
  d1j:=mg_none_of X G z14_
  d1k:=mg_none_of X G z10_
  d1l:=mg_none_of X G z6_
  d1m:=mg_none_of X G z15_
  d1n:=mg_none_of X G z4_
  d1o:=mg_none_of X G z11_
  d1p:=mg_none_of X G z9_
  d1q:=mg_none_of X G z5_
  d1r:=mg_none_of X G z16_
  xt0:=⟨D_,⟨⟨mg_of X G a_Due,a_Due,x_Due⟩,x_tab,fun c C e=>mg_of X G e⟩⟩
 }
 exact⟨fnOf "law" "law" (kl jl) (jt jl) (bE jl) .none kV_law dc_law pm_law an_law O2 ct_law,fun s v=>.of_eq rfl,fun base _ _=>(Of _ _ _ T D_law).imp fun vs H Q E h=>Pt (LZ (mg_none_of X G z3_) (mg_none_of X G z2_) H) (fun ns hn=>Ps hn) h⟩
theorem law_walk{l:PySem.W.OpenLaw}{q:Program}{b:List Str}{i:(Str->Option Value)->Heap->Prop}{e:World->Heap->Prop}{d:DefRec}{K:Params->Frag}(j:l.most=some 63)(c:d.params.defaults=[])
  (m:∀(w:World) (h:Heap),e w h->(K w.params).In h)
  (F:∀(w:World) (mg:Str->Option Value) (g:Addr) (h:Heap),(K w.params).In h->h.Ns mainGlobals mg->mg d.name=some (.ref g)->
   ∃fd:FuncData,(∀(s:Shared) (u:Value),BindsTo s fd ⟨[u],[]⟩ [("_law_script",u)])/\∀base:Heap,(K w.params).In base->base.Ns mainGlobals mg->aA l.prog w (K w.params) mg base (bD l.prog w) 10 g fd ["_law_script"] (xa (K w.params))) :
  PySem.W.WalkO q b i e l.row.toRowW d [] (fun f vs=>PySem.call f vs):=by
 refine L2.walk_of (n:=63) (k:=10) (x:="_law_script") (CX:=fun w=>bD l.prog w) (sp:=fun w=>xa (K w.params)) j (by decide) c ⟨rfl,by decide,by decide⟩ m F (fun w H a v p r t=>?hsp) fun _ _ _ _ _ ⟨_,_,_,_,_,_,_,_,_,z⟩=>z;refine⟨a,v,rfl,⟨p,?_⟩,fun _=>rfl⟩;rcases t with(h1 | h1) | h1
 ·rcases r a with h2 | ⟨o,y,h2⟩
  ·rw[h2] at h1;cases h1
  ·rw[h2] at h1;cases h1
 ·exact .inl h1
 ·exact .inr h1
end K3
namespace PySem.W.Fast
def tw2299505446426934911:=()
def tw8847994841162826391:=()
def tw5943565748753562287:=()
def tw15596968149859062354:=()
def tw7255385805590027892:=()
def tw7533279215306079272:=()
def tw15009850039638509595:=()
def tw10951274627324802947:=()
def tw6020492051423206895:=()
def tw10221898318742556691:=()
def tw13360519429577937938:=()
def tw1197231730965417736:=()
def tw4930694848917484476:=()
def tw10607386332018352811:=()
def tw8484869800282813354:=()
def tw8299518894712649080:=()
def tw11191494835199356568:=()
def tw5981556396565871483:=()
def tw12559552107933025118:=()
def tw10393187336906241727:=()
def tw1457625857010904699:=()
def tw13298692170943747296:=()
def tw10562409479788807829:=()
def tw7689408292195362149:=()
def tw16600396720658511524:=()
def tw6918246640608258359:=()
def tw869777990867091451:=()
def tw8599436054956697541:=()
def tw17246726649937759702:=()
def tw13444562621744322024:=()
def tw1229063857587040545:=()
def tw14793681041105559240:=()
def tw7463251590781291719:=()
def tw4725770355902890795:=()
def tw16323003904612889138:=()
def tw3809019257136526985:=()
def tw8895170772454390581:=()
def tw5687810588694584700:=()
def tw12367283291030489536:=()
def tw15702044910927067935:=()
def tw12012001609708082763:=()
def tw8077524371888573635:=()
def tw12564784693708121395:=()
def tw322332841531229327:=()
def tw7856930184090044704:=()
def tw15120001158745541971:=()
def tw8107636078503656658:=()
def tw2920277240220624746:=()
def tw15564234819658853471:=()
def tw10521114013219398830:=()
def tw13646518125051268826:=()
def tw2833843345886929398:=()
def tw17812132060630197869:=()
def tw1512033143887856756:=()
def tw18154366975096661633:=()
def tw7769689748268613964:=()
def tw18437826566101510774:=()
def tw13777036199192894052:=()
def tw12562868506693369359:=()
def tw14153989545637077236:=()
def tw10126890357099874014:=()
def tw11399188532949484228:=()
def tw11736875777447640824:=()
def tw1191664587673600584:=()
def tw13096497893541778029:=()
def tw13297772628256734496:=()
def tw13371314179554658252:=()
def tw13480303245915290688:=()
def tw13905929562205098832:=()
def tw14477907446627736679:=()
def tw14507532765060475277:=()
def tw1513937212315496669:=()
def tw15473740254120675700:=()
def tw15867659842579497250:=()
def tw16309515639202503573:=()
def tw16532182531869279066:=()
def tw16875529987794465271:=()
def tw17026906489462914782:=()
def tw17141969466402311695:=()
def tw17689078105074341405:=()
def tw18089558217133168924:=()
def tw2283700932690608244:=()
def tw2455906645745028895:=()
def tw2943613617953613089:=()
def tw3270232742430209799:=()
def tw3314537531888313138:=()
def tw3474779085036612471:=()
def tw3572719060573729452:=()
def tw3829061415067268464:=()
def tw4221685967276702461:=()
def tw4441462994125693473:=()
def tw4621524294184646417:=()
def tw5463549519789527987:=()
def tw625356689059297755:=()
def tw6393736683813593821:=()
def tw6403895461635073041:=()
def tw692628765520157627:=()
def tw71232753898835769:=()
def tw7155044567749069211:=()
def tw8014551139049802819:=()
def tw8196778742972249357:=()
def tw8343303027633379628:=()
def tw913365470343098498:=()
def tw9394620067708157312:=()
end PySem.W.Fast
open PySem PySem.W PyProof.Rows
set_option maxRecDepth 100000 in
set_option maxHeartbeats 0 in
theorem PySem.Challenge.cw_duehall_k39_whole_windows_of_one_holds : PySem.Challenge.rw_duehall_k39_whole_windows_of_one.Holds := by
  w_on;o_law;k_head;(case hw => w_witness2)
  k_fill
  refine K3.law_walk (l := PySem.Challenge.rw_duehall_k39_whole_windows_of_one) rfl rfl (fun w h Y => PySem.W.kIn_of Y) ?F
  case F =>
    intro w mg fa h KX G hmg
    refine' K3.all_mk KX G hmg ?a_is_whole ?l_is_whole ?c_is_whole ?k_is_whole ?a_is_tuple_of ?l_is_tuple_of ?c_is_tuple_of ?k_is_tuple_of ?a_is_ahead ?l_is_ahead ?c_is_ahead ?k_is_ahead ?a_is_moment ?l_is_moment ?c_is_moment ?k_is_moment ?a_are_shifts ?l_are_shifts ?c_are_shifts ?k_are_shifts ?a_is_zone ?l_is_zone ?c_is_zone ?k_is_zone ?a_has_word ?l_has_word ?c_has_word ?k_has_word ?a_is_plan ?l_is_plan ?c_is_plan ?k_is_plan ?a_is_late ?l_is_late ?c_is_late ?k_is_late ?a_is_deed ?l_is_deed ?c_is_deed ?k_is_deed ?a_are_deeds ?l_are_deeds ?c_are_deeds ?k_are_deeds ?a_check_zone ?l_check_zone ?c_check_zone ?k_check_zone ?a_check_plan ?l_check_plan ?c_check_plan ?k_check_plan ?a_check_moment ?l_check_moment ?c_check_moment ?k_check_moment ?a_check_stretch ?l_check_stretch ?c_check_stretch ?k_check_stretch ?a_check_deeds ?l_check_deeds ?c_check_deeds ?k_check_deeds ?a_shown ?l_shown ?c_shown ?k_shown ?a_stretches ?l_stretches ?c_stretches ?k_stretches ?a_is_ahead_of ?l_is_ahead_of ?c_is_ahead_of ?k_is_ahead_of ?a_first_showing ?l_first_showing ?c_first_showing ?k_first_showing ?a_furthest_shown ?l_furthest_shown ?c_furthest_shown ?k_furthest_shown ?a_first_day ?l_first_day ?c_first_day ?k_first_day ?a_daily_time ?l_daily_time ?c_daily_time ?k_daily_time ?a_time_of ?l_time_of ?c_time_of ?k_time_of ?a_times_by ?l_times_by ?c_times_by ?k_times_by ?a_dues ?l_dues ?c_dues ?k_dues ?a_rows_between ?l_rows_between ?c_rows_between ?k_rows_between ?a_check_calendar ?l_check_calendar ?c_check_calendar ?k_check_calendar ?a_calendar ?l_calendar ?c_calendar ?k_calendar ?a_idle_stretch ?l_idle_stretch ?c_idle_stretch ?k_idle_stretch ?a_many_at ?l_many_at ?c_many_at ?k_many_at ?a_busiest ?l_busiest ?c_busiest ?k_busiest ?a_next_due ?l_next_due ?c_next_due ?k_next_due ?a__law_cell_at ?l__law_cell_at ?c__law_cell_at ?k__law_cell_at ?a__law_mixed ?l__law_mixed ?c__law_mixed ?k__law_mixed ?a__law_draw ?l__law_draw ?c__law_draw ?k__law_draw ?a__law_pick ?l__law_pick ?c__law_pick ?k__law_pick ?a__law_zone ?l__law_zone ?c__law_zone ?k__law_zone ?a__law_plan ?l__law_plan ?c__law_plan ?k__law_plan ?a_law ?l_law ?c_law ?k_law ?v1_ ?v8_ ?v3_ ?v4_ ?v2_ ?v7_ ?v5_ ?v0_ ?v6_ ?z3_ ?z2_ ?z12_ ?z7_ ?z1_ ?z17_ ?z0_ ?z13_ ?z8_ ?z14_ ?z10_ ?z6_ ?z15_ ?z4_ ?z11_ ?z9_ ?z5_ ?z16_ ?a_Due ?x_Due ?x_tab
    (case a_is_whole|l_is_whole|c_is_whole|k_is_whole|a_is_tuple_of|l_is_tuple_of|c_is_tuple_of|k_is_tuple_of|a_is_ahead|l_is_ahead|c_is_ahead|k_is_ahead|a_is_moment|l_is_moment|c_is_moment|k_is_moment|a_are_shifts|l_are_shifts|c_are_shifts|k_are_shifts|a_is_zone|l_is_zone|c_is_zone|k_is_zone|a_has_word|l_has_word|c_has_word|k_has_word|a_is_plan|l_is_plan|c_is_plan|k_is_plan|a_is_late|l_is_late|c_is_late|k_is_late|a_is_deed|l_is_deed|c_is_deed|k_is_deed|a_are_deeds|l_are_deeds|c_are_deeds|k_are_deeds|a_check_zone|l_check_zone|c_check_zone|k_check_zone|a_check_plan|l_check_plan|c_check_plan|k_check_plan|a_check_moment|l_check_moment|c_check_moment|k_check_moment|a_check_stretch|l_check_stretch|c_check_stretch|k_check_stretch|a_check_deeds|l_check_deeds|c_check_deeds|k_check_deeds|a_shown|l_shown|c_shown|k_shown|a_stretches|l_stretches|c_stretches|k_stretches|a_is_ahead_of|l_is_ahead_of|c_is_ahead_of|k_is_ahead_of|a_first_showing|l_first_showing|c_first_showing|k_first_showing|a_furthest_shown|l_furthest_shown|c_furthest_shown|k_furthest_shown|a_first_day|l_first_day|c_first_day|k_first_day|a_daily_time|l_daily_time|c_daily_time|k_daily_time|a_time_of|l_time_of|c_time_of|k_time_of|a_times_by|l_times_by|c_times_by|k_times_by|a_dues|l_dues|c_dues|k_dues|a_rows_between|l_rows_between|c_rows_between|k_rows_between|a_check_calendar|l_check_calendar|c_check_calendar|k_check_calendar|a_calendar|l_calendar|c_calendar|k_calendar|a_idle_stretch|l_idle_stretch|c_idle_stretch|k_idle_stretch|a_many_at|l_many_at|c_many_at|k_many_at|a_busiest|l_busiest|c_busiest|k_busiest|a_next_due|l_next_due|c_next_due|k_next_due|a__law_cell_at|l__law_cell_at|c__law_cell_at|k__law_cell_at|a__law_mixed|l__law_mixed|c__law_mixed|k__law_mixed|a__law_draw|l__law_draw|c__law_draw|k__law_draw|a__law_pick|l__law_pick|c__law_pick|k__law_pick|a__law_zone|l__law_zone|c__law_zone|k__law_zone|a__law_plan|l__law_plan|c__law_plan|k__law_plan|a_law|l_law|c_law|k_law|v1_|v8_|v3_|v4_|v2_|v7_|v5_|v0_|v6_|z3_|z2_|z12_|z7_|z1_|z17_|z0_|z13_|z8_|z14_|z10_|z6_|z15_|z4_|z11_|z9_|z5_|z16_|a_Due => (first | unfold K3.LK | unfold K3.NI | unfold K3.NV | unfold K3.NZ | unfold K3.KI | skip);k_is)
    (case x_Due|x_tab => first | kernel_rfl | rfl)
