import PyProof.Rows.All
import Wide.All
import OpenK.AllK
import Wide.FinOn
import Lean
import PyProof.EqAt
import PyProof.EqKinds
import PyProof.TupleCall
import PySem.Challenge.RW_duehall_k11_two_halls
noncomputable section
set_option Elab.async false
set_option linter.all false
set_option maxRecDepth 100000
set_option compiler.extract_closed false
local macro_rules | `(tactic|lia)=>`(tactic|first|lia(splits:=9)|omega)
theorem aj:type_of% @PySem.wpAny_bind:=@PySem.wpAny_bind
theorem bd:type_of% @PySem.wpAny_pure:=@PySem.wpAny_pure
theorem bn:type_of% @PySem.Heap.get?_push_of_some:=@PySem.Heap.get?_push_of_some
theorem bv:type_of% @PySem.Heap.lt_size:=@PySem.Heap.lt_size
theorem bG:type_of% @Nat.le_refl:=@Nat.le_refl
theorem aT:type_of% @List.mem_append_right:=@List.mem_append_right
theorem aR:type_of% @List.mem_append_left:=@List.mem_append_left
theorem bC:type_of% @List.mem_cons_of_mem:=@List.mem_cons_of_mem
open PySem.W (instObj Frag plainGet findIn emptyDict keepIn mroIn kitOne kia_one fnOf codeIn nsIn callWith_K excIn clsIn mg_of mg_none_of)
theorem Zq(_:0=0:=by rfl):0=0:=rfl
theorem Zr(_:0=0:=by decide):0=0:=rfl
theorem Zs(_:Nat->0=0:=by intro _;rfl):0=0:=rfl
namespace L2
open PySem PySem.Spec PyProof.Rows
abbrev bf:=Sum Int Str
noncomputable def mE:bf->Value->Bool
 |.inl k,v=>Value.isInt k v
 |.inr x,v=>Value.isStrOf x v
noncomputable def Fh(w:World):bf->Int
 |.inl k=>hashInt k
 |.inr x=>hashStr w x
theorem jl:∀{k v},mE k v=true->(∃i t,k=Sum.inl i/\v=Value.int i t)\/(∃x t,k=Sum.inr x/\v=Value.str x t)
 |.inl i,v,h=>by obtain⟨t,e⟩:=Value.isInt_shape (k:=i) (v:=v) h;exact .inl ⟨i,t,rfl,e⟩
 |.inr x,v,h=>by obtain⟨t,e⟩:=Value.isStrOf_shape (x:=x) (v:=v) h;exact .inr ⟨x,t,rfl,e⟩
theorem Fi(i t):mE (.inl i) (.int i t)=true:=by simp[mE,Value.isInt]
theorem Fj(x t):mE (.inr x) (.str x t)=true:=by simp[mE,Value.isStrOf]
theorem Fk(a b):decide ((Sum.inl a:bf)=Sum.inl b)=(a==b):=by
 by_cases e:a=b
 .subst e;simp
 .have h:¬ (Sum.inl a:bf)=Sum.inl b:=fun q=>e (Sum.inl.inj q);rw[decide_eq_false h];exact(beq_eq_false_iff_ne.mpr e).symm
theorem Fm(a b):decide ((Sum.inr a:bf)=Sum.inr b)=decide (a=b):=by
 by_cases e:a=b
 .subst e;simp
 .have h:¬ (Sum.inr a:bf)=Sum.inr b:=fun q=>e (Sum.inr.inj q);rw[decide_eq_false h,decide_eq_false e]
theorem Fo(a b):decide ((Sum.inl a:bf)=Sum.inr b)=false:=decide_eq_false (fun q=>nomatch q)
theorem Fp(a b):decide ((Sum.inr a:bf)=Sum.inl b)=false:=decide_eq_false (fun q=>nomatch q)
def gw(prog:Program)(w:World):PySem.KeyKind prog w bf where
 is:=mE
 hash:=Fh w
 inj:=fun v a b ha hb=>by
  rcases jl ha with⟨i,t,rfl,rfl⟩ |⟨x,t,rfl,rfl⟩
  .rcases jl hb with⟨j,u,rfl,e⟩ |⟨y,u,rfl,e⟩
   .injection e with e1 _;rw[e1]
   .exact nomatch e
  .rcases jl hb with⟨j,u,rfl,e⟩ |⟨y,u,rfl,e⟩
   .exact nomatch e
   .injection e with e1 _;rw[e1]
 byValue:=fun k v h=>by rcases jl h with⟨i,t,rfl,rfl⟩ |⟨x,t,rfl,rfl⟩<;>rfl
 pyHash:=fun hv h=>by
  rcases jl hv with⟨i,t,rfl,rfl⟩ |⟨x,t,rfl,rfl⟩
  .exact wpAny_pyHash_int h
  .exact wpAny_pyHash_str h
 eqBool:=fun hu hv h=>by
  rcases jl hu with⟨i,t,rfl,rfl⟩ |⟨x,t,rfl,rfl⟩
  .rcases jl hv with⟨j,u,rfl,rfl⟩ |⟨y,u,rfl,rfl⟩
   .rw[Fk]at h;exact wpAny_eqBool_int h
   .rw[Fo]at h;exact SeqAt.EqAt.int_str i t y u _ _ _ _ h
  .rcases jl hv with⟨j,u,rfl,rfl⟩ |⟨y,u,rfl,rfl⟩
   .rw[Fp]at h;exact SeqAt.EqAt.str_int x t j u _ _ _ _ h
   .rw[Fm]at h;exact wpAny_eqBool_str h
 «strs»:=fun k x t v h=>by
  rcases jl h with⟨i,u,rfl,e⟩ |⟨y,u,rfl,e⟩
  .exact nomatch e
  .injection e with e1 _
   subst e1;cases v<;>rfl
theorem Fq(a w i t):(gw a w).is (.inl i) (.int i t)=true:=Fi i t
theorem Fs(a w x t):(gw a w).is (.inr x) (.str x t)=true:=Fj x t
inductive V where
 |non |bl (b:Bool) |int (i:Int) |str (x:Str) |byt (b:Array UInt8) |flt (b:UInt64) |ref (a:Addr) |ty (n:String)
 deriving DecidableEq
def bq:V->Value->Prop
 |.non,u=>u=Value.none
 |.bl b,u=>u=Value.bool b
 |.int i,u=>∃t,u=Value.int i t
 |.str x,u=>∃t,u=Value.str x t
 |.byt b,u=>∃t,u=Value.bytes b t
 |.flt b,u=>∃t,u=Value.float b t
 |.ref a,u=>u=Value.ref a
 |.ty n,u=>u=Value.type n
abbrev bi:List V->List Value->Prop:=Paired bq
theorem bi.length(r:bi a b):a.length=b.length:=Paired.length r
theorem bi.get:∀{a b}{i:Nat}{x},bi a b->a[i]? = some x->∃u,b[i]? = some u/\bq x u
 |_,_,_,_,.nil,e=>by simp at e
 |_,_,0,_,.cons r _,e=>by simp at e;subst e;exact⟨_,rfl,r⟩
 |_,_,i+1,x,.cons _ t,e=>by obtain⟨u,h1,h2⟩:=bi.get (i:=i) (x:=x) t (by simpa using e);exact⟨u,by simpa using h1,h2⟩
theorem bi.set(r:bq x u):∀{a b} i,bi a b->bi (a.set i x) (b.set i u)
 |_,_,_,.nil=>.nil
 |_,_,0,.cons _ t=>.cons r t
 |_,_,i+1,.cons q t=>.cons q (bi.set r i t)
theorem bi.append:∀{a b c d},bi a c->bi b d->bi (a++b) (c++d)
 |_,_,_,_,.nil,s=>s
 |_,_,_,_,.cons r t,s=>.cons r (bi.append t s)
theorem bi.take:∀{a b} n,bi a b->bi (a.take n) (b.take n)
 |_,_,0,_=>.nil
 |_,_,_+1,.nil=>.nil
 |_,_,n+1,.cons r t=>.cons r (bi.take n t)
theorem bi.drop:∀{a b} n,bi a b->bi (a.drop n) (b.drop n)
 |_,_,0,r=>r
 |_,_,_+1,.nil=>.nil
 |_,_,n+1,.cons _ t=>bi.drop n t
def gx:Option V->Option Value->Prop
 |some v,some u=>bq v u
 |none,none=>True
 |_,_=>False
def KV{κ:Type}:List (κ×V)->List (κ×Value)->Prop:=Paired fun(p:κ×V) (q:κ×Value)=>p.1=q.1/\bq p.2 q.2
noncomputable def kV:bf->V
 |.inl i=>.int i
 |.inr x=>.str x
inductive HO where
 |lst (xs:List V)
 |tup (xs:List V)
 |dK (kvs:List (bf×V)) |dT (kvs:List (List bf×V))
 |set (S:Int->Bool) (n:Nat)
 |ins (C dx:Addr) (fs:List (Str×V))
 |own (x:Addr)
 |xd (fs:List (Str×V))
 |met (f x:Addr)
 |rng (lo hi:Int)
 |frz (o:Obj) (u:HO)
 |tbl (ps:Array Value)
 |ext (φ:Heap->Prop)
abbrev Hp:=Addr->Option HO
noncomputable def aB(H:Hp)(a:Addr)(o:HO):Hp:=fun b=>if b=a then some o else H b
theorem bP:aB H a o a=some o:=by unfold aB;rw[if_pos rfl]
theorem aV(h:b≠a):aB H a o b=H b:=by unfold aB;rw[if_neg h]
theorem Ft{H:Hp}(h:H a=some o)(c:H b=some u)(d:o≠u):a≠b:=by intro e;subst e;rw[h]at c;exact d (Option.some.inj c)
theorem il{H:Hp}(h:H a=some o)(c:H b=none):a≠b:=by intro e;subst e;rw[h]at c;cases c
section
variable(P:Program)(w:World)
def cI(H:Hp)(h:Heap)(a:Addr):HO->Prop
 |.lst d=>d.length<=sizeLine/\∃(b:List Value) (n:Nat),bi d b/\h.get? a=some { cls:=.type "list",data:=.seq b.toArray n }
 |.tup d=>d.length<=sizeLine/\∃b:List Value,bi d b/\IsTup h a b.toArray
 |.dK c=>c.length<=sizeLine/\(a==sysModules)=false/\∃i,KV c i/\h.DictOf (gw P w) a i
 |.dT c=>c.length<=sizeLine/\(a==sysModules)=false/\∃d:List (List bf×Addr×Value),
   Paired (fun(p:List bf×V) (q:List bf×Addr×Value)=>p.1=q.1/\H q.2.1=some (.tup (p.1.map kV))/\bq p.2 q.2.2) c d/\
   ∃o j m,h.get? a=some o/\o.ExactDict/\o.data=.dict j m/\j.toList=d.map (entryOfKey (tupleKind (gw P w)))/\(d.map (·.1)).Nodup
 |.set S n=>h.SetOf (intKind P w) a S n
 |.ins C g fs=>H g=some (.own a)/\fs.length<=1000/\g≠a/\h.get? a=some (instObj C g)/\
   ∃e,h.Ns1 g e/\(∀f,gx (fs.lookup f) (e f))/\PySem.Within e (fs.map (·.1))
 |.own _=>∃o,h.get? a=some o
 |.xd fs=>∃e,h.Ns1 a e/\∀f,gx (fs.lookup f) (e f)
 |.rng lo r=>∃t u v,h.get? a=some { cls:=.type "range",data:=.fields #[.int lo t,.int r u,.int 1 v] }
 |.frz o u=>h.get? a=some o/\cI H h a u
 |.tbl s=>h.get? a=some { cls:=.none,data:=.fields s }
 |.met f x=>h.get? a=some (PySem.W.methodObj (.ref f) (.ref x))
 |.ext φ=>φ h/\(∃o,h.get? a=some o)/\∀k l:Heap,φ k->(∀o,k.get? a=some o->l.get? a=some o)->φ l
def bH(H:Hp)(h:Heap):Prop:=∀a o,H a=some o->cI P w H h a o
end
theorem cI.lt(x:cI P w H h a o):a<h.objs.size:=by
 cases o with
 |lst c=>obtain⟨_,_,_,_,e⟩:=x;exact bv e
 |tup c=>obtain⟨_,_,_,p⟩:=x;exact p.lt
 |dK b=>obtain⟨_,_,_,_,o,_,_,e,_⟩:=x;exact bv e
 |dT b=>obtain⟨_,_,_,_,o,_,_,e,_⟩:=x;exact bv e
 |set S n=>obtain⟨o,_,_,_,e,_⟩:=x;exact bv e
 |ins C d fs=>obtain⟨_,_,_,e,_⟩:=x;exact bv e
 |own y=>obtain⟨_,e⟩:=x;exact bv e
 |xd fs=>obtain⟨_,⟨_,_,_,e,_⟩,_⟩:=x;exact bv e
 |rng lo g=>obtain⟨_,_,_,e⟩:=x;exact bv e
 |frz ob u=>obtain⟨e,_⟩:=x;exact bv e
 |tbl i=>exact bv (show h.get? a=some _ from x)
 |met f y=>exact bv (show h.get? a=some _ from x)
 |ext φ=>obtain⟨_,⟨_,e⟩,_⟩:=x;exact bv e
theorem Paired.mapP:∀{c:List α}{d},Paired F c d->(∀a b,F a b->G a b)->Paired G c d
 |_,_,.nil,_=>.nil
 |_,_,.cons r t,f=>.cons (f _ _ r) (Paired.mapP t f)
theorem cI.stay(x:cI P w H h a o)(k:∀b u,(b=a\/H b=some (.own a))->h.get? b=some u->h'.get? b=some u)
  (L:∀b,H b=some (.own a)->Z b=some (.own a)) (E:∀b m,H b=some (.tup m)->Z b=some (.tup m)):cI P w Z h' a o:=by
 induction o with
 |lst m=>obtain⟨z,l,n,r,e⟩:=x;exact⟨z,l,n,r,k _ _ (.inl rfl) e⟩
 |tup m=>obtain⟨z,l,r,g,e,c⟩:=x;exact⟨z,l,r,g,k _ _ (.inl rfl) e,c⟩
 |dK s=>obtain⟨z,y,G,r,g,i,j,e,c⟩:=x;exact⟨z,y,G,r,g,i,j,k _ _ (.inl rfl) e,c⟩
 |dT s=>obtain⟨z,y,m,r,g,i,j,e,c⟩:=x;exact⟨z,y,m,Paired.mapP r fun p q z=>⟨z.1,E _ _ z.2.1,z.2.2⟩,g,i,j,k _ _ (.inl rfl) e,c⟩
 |set S n=>obtain⟨g,i,j,t,e,c⟩:=x;exact⟨g,i,j,t,k _ _ (.inl rfl) e,c⟩
 |ins C M fs=>obtain⟨d,z,ne,e,A,⟨B,i,j,I,c⟩,r⟩:=x;exact⟨L _ d,z,ne,k _ _ (.inl rfl) e,A,⟨B,i,j,k _ _ (.inr d) I,c⟩,r⟩
 |own y=>obtain⟨g,e⟩:=x;exact⟨g,k _ _ (.inl rfl) e⟩
 |xd fs=>obtain⟨A,⟨B,i,j,e,c⟩,r⟩:=x;exact⟨A,⟨B,i,j,k _ _ (.inl rfl) e,c⟩,r⟩
 |rng lo N=>obtain⟨t,u,v,e⟩:=x;exact⟨t,u,v,k _ _ (.inl rfl) e⟩
 |frz g u J=>obtain⟨e,q⟩:=x;exact⟨k _ _ (.inl rfl) e,J q⟩
 |tbl D=>have e:h.get? a=some { cls:=.none,data:=.fields D }:=x;show h'.get? a=some { cls:=.none,data:=.fields D };exact k a _ (.inl rfl) e
 |met f y=>have e:h.get? a=some (PySem.W.methodObj (.ref f) (.ref y)):=x;show h'.get? a=some (PySem.W.methodObj (.ref f) (.ref y));exact k a _ (.inl rfl) e
 |ext φ=>obtain⟨p,⟨o,e⟩,st⟩:=x;exact⟨st _ _ p fun o q=>k _ _ (.inl rfl) q,⟨o,k _ _ (.inl rfl) e⟩,st⟩
theorem bH.lt(x:bH P w H h)(e:H a=some o):a<h.objs.size:=(x a o e).lt
theorem bH.fresh{a:Addr}(x:bH P w H h)(e:h.objs.size<=a):H a=none:=by
 cases q:H a with
 |none=>rfl
 |some u=>exact absurd (Nat.lt_of_lt_of_le (x.lt q) e) (Nat.lt_irrefl _)
theorem bH.kept(x:bH P w H h)(k:∀b u,h.get? b=some u->h'.get? b=some u):bH P w H h':=fun a o e=>(x a o e).stay (fun b u _ q=>k b u q) (fun _ q=>q) fun _ _ q=>q
theorem bH.laid{a:Addr}(x:bH P w H h)(k:∀b u,h.get? b=some u->h'.get? b=some u)(f:h.objs.size<=a)(new:cI P w (aB H a o) h' a o):bH P w (aB H a o) h':=fun b u e=>by
 have d:=x.fresh f
 by_cases hb:b=a
 .subst hb;rw[bP]at e;cases e;exact new
 .rw[aV hb]at e;exact(x b u e).stay (fun c v _ q=>k c v q) (fun c q=>by rw[aV (il q d)];exact q) fun c g q=>by rw[aV (il q d)];exact q
def Rd(H:Hp)(a:Addr)(u:HO):Prop:=H a=some u\/∃o,H a=some (.frz o u)
theorem Rd.ok(r:Rd H a u)(x:bH P w H h):cI P w H h a u:=by
 rcases r with r |⟨o,r⟩
 .exact x a u r
 .obtain⟨_,q⟩:=x a _ r;exact q
def oq:Option HO->Prop
 |some (.lst _)=>True
 |some (.dK _)=>True
 |some (.dT _)=>True
 |some (.set _ _)=>True
 |some (.ins _ _ _)=>True
 |some (.ext _)=>True
 |_=>False
theorem bH.write(ok:bH P w H h)(g:oq (H x))(m:e=x\/H e=some (.own x))(k:∀b u,b≠e->h.get? b=some u->Y.get? b=some u)(l:∃u,Y.get? e=some u)
  (new:cI P w (aB H x X) Y x X):bH P w (aB H x X) Y:=fun b u q=>by
 have d:∀c y,H c=some (.own y)->c≠x:=fun c y r z=>by subst z;rw[r]at g;exact g
 have f:∀c i,H c=some (.tup i)->c≠x:=fun c i r z=>by subst z;rw[r]at g;exact g
 by_cases hb:b=x
 .subst hb;rw[bP]at q;cases q;exact new
 .rw[aV hb]at q
  by_cases a:b=e
  .have n:H b=some (.own x):=by
    rcases m with z |z
    .exact absurd (a.trans z) hb
    .rw[a];exact z
   rw[q]at n;cases n;obtain⟨v,o⟩:=l;exact⟨v,by rw[a];exact o⟩
  .refine(ok b u q).stay (fun c v j r=>k c v ?_ r) (fun c r=>by rw[aV (d c b r)];exact r) fun c i r=>by rw[aV (f c i r)];exact r
   rcases j with rfl |j
   .exact a
   .rintro rfl;rcases m with z |z
    .exact d c b j z
    .rw[j]at z;cases z;exact hb rfl
structure Un (fs ex:List Addr) (H H':Hp) (h h':Heap):Prop where
 keep:∀b o,h.get? b=some o->H b=none->b∉fs->b∉ex->h'.get? b=some o
 slot:∀b o,h.get? b=some o->H b=none->b∈fs->b∉ex->∃sl,h'.get? b=some { o with slots:=sl }
 free:∀b o,h.get? b=some o->H b=none->b∉ex->H' b=none
 there:∀b o,h.get? b=some o->b∉ex->∃o',h'.get? b=some o'
 tups:∀b xs,H b=some (.tup xs)->H' b=some (.tup xs)
 frzs:∀b o u,H b=some (.frz o u)->H' b=some (.frz o u)
 tbls:∀b ps,H b=some (.tbl ps)->∃more,H' b=some (.tbl (ps++more))
theorem Un.any(u:Un fs ex H T h h1)(q:h.get? b=some c)(n:H b=none)(d:b∉ex):∃f,h1.get? b=some { c with slots:=f }:=by
 by_cases hb:b∈fs
 .exact u.slot b c q n hb d
 .exact⟨c.slots,u.keep b c q n hb d⟩
theorem Un.kept(k:∀b u,h.get? b=some u->h'.get? b=some u):Un fs ex H H h h':=
 ⟨fun b c q _ _ _=>k b c q,fun b c q _ _ _=>⟨c.slots,k b c q⟩,fun _ _ _ n _=>n,fun b c q _=>⟨c,k b c q⟩,fun _ _ q=>q,fun _ _ _ q=>q,fun _ d q=>⟨#[],by rw[q];simp⟩⟩
theorem Un.refl:Un fs ex H H h h:=Un.kept fun _ _ q=>q
theorem Un.laid{h:Heap}{a:Addr}(k:∀b u,h.get? b=some u->h'.get? b=some u)(hp:h.objs.size<=a)(hn:H a=none):Un fs ex H (aB H a o) h h' where
 keep:=fun b u q _ _ _=>k b u q
 slot:=fun b u q _ _ _=>⟨u.slots,k b u q⟩
 free:=fun b u q n _=>by rw[aV (Nat.ne_of_lt (Nat.lt_of_lt_of_le (bv q) hp))];exact n
 there:=fun b u q _=>⟨u,k b u q⟩
 tups:=fun b xs q=>by rw[aV (il q hn)];exact q
 frzs:=fun b u xs q=>by rw[aV (il q hn)];exact q
 tbls:=fun b ps q=>⟨#[],by rw[aV (il q hn),q];simp⟩
theorem Un.write(d:oq (H x))(j:e=x\/H e=some (.own x))(k:∀b u,b≠e->h.get? b=some u->h'.get? b=some u)(f:∃u,h'.get? e=some u):Un fs ex H (aB H x o) h h':=by
 have i:∀b,H b=none->b≠x:=fun b n z=>by subst z;rw[n]at d;exact d
 have hb:∀b,H b=none->b≠e:=fun b n z=>by
  subst z;rcases j with r |r
  .exact i b n r
  .rw[n]at r;cases r
 have g:∀b u,H b=some u->¬ oq (some u)->b≠x:=fun b u q l z=>by subst z;rw[q]at d;exact l d
 refine⟨fun b u q n _ _=>k b u (hb b n) q,fun b u q n _ _=>⟨u.slots,k b u (hb b n) q⟩,fun b u q n _=>by rw[aV (i b n)];exact n,fun b u q _=>?_,
  fun b m q=>by rw[aV (g b _ q fun z=>z)];exact q,fun b u m q=>by rw[aV (g b _ q fun z=>z)];exact q,fun b p q=>⟨#[],by rw[aV (g b _ q fun z=>z),q];simp⟩⟩
 by_cases c:b=e
 .subst c;exact f
 .exact⟨u,k b u c q⟩
noncomputable def qo(h:Heap)(H:Hp):List Addr:=(List.range h.objs.size).filter fun a=>(H a).isSome
def jn(h:Heap)(H:Hp):Heap:=PySem.W.hideAll h (qo h H)
theorem Fu(h H):(jn h H).objs.size=h.objs.size:=PySem.W.hideAll_size _ _
theorem Fv(e:h.get? b=some o)(n:H b=none):(jn h H).get? b=some o:=
 PySem.W.hideAll_get _ e fun a=>by have q:(H b).isSome=true:=(List.mem_filter.mp a).2;rw[n]at q;simp at q
theorem Fw(e:(jn h H).get? b=some o):h.get? b=some o/\H b=none:=by
 have a:h.get? b=some o:=PySem.W.of_hideAll (qo h H) e;refine⟨a,?_⟩;cases q:H b with
 |none=>rfl
 |some x=>have c:b∈qo h H:=List.mem_filter.mpr ⟨List.mem_range.mpr (bv a),by simp[q]⟩;have z:(jn h H).get? b=none:=PySem.W.hideAll_none (qo h H) c;rw[z]at e;cases e
structure Mod (K:Frag) (mg:Str->Option Value) (base:Heap):Prop where
 kin:K.In base
 glob:base.Ns mainGlobals mg
 blt:∃mb,base.Ns builtinsNs mb/\∀x:Str,x≠"__name__"->mb x=bootBuiltins x
 nolimit:base.NoLimit
structure Cx where
 prog:Program
 w:World
 K:Frag
 mg:Str->Option Value
 base:Heap
 A:Around
 N:List Str
 s₀:Shared
 H₀:Hp
 env:Env
 outer:List Env
 stack:List Env
 ex:List Addr
 fn:Str->Bool
 calm:Bool
 pn:List (Addr×Obj)
 xe:Value->Shared->Prop
noncomputable def bN(l:List Env):List Addr:=l.filterMap (·.frame)
abbrev Cx.fs(X:Cx):List Addr:=bN X.outer
def qp(a:Scope)(x:Str):Prop:=a.names.lookup x=some .local\/a.names.lookup x=some .cell\/a.names.lookup x=some .free
def gy(a:Scope)(x:Str):Prop:=a.names.lookup x=some .local\/a.names.lookup x=some .cell
def Fy(a:Env)(h:Heap)(m:Str->Option Value)(x:Str)(u:Value):Prop:=
 (a.kindOf x=some .local/\m x=some u)\/((a.kindOf x=some .cell\/a.kindOf x=some .free)/\∃c,a.cells.lookup x=some c/\h.IsCell c (some u))
structure Cx.Ok (X:Cx):Prop where
 mod:Mod X.K X.mg X.base
 kind:X.env.scope.kind=.function
 glob:X.env.globals=mainGlobals
 blt:X.env.builtins=builtinsNs
 above:X.s₀.heap.objs.size<=X.env.locals
 inj:∀x y c,X.env.cells.lookup x=some c->X.env.cells.lookup y=some c->x=y
 has:∀x,(X.env.kindOf x=some .cell\/X.env.kindOf x=some .free)->∃c,X.env.cells.lookup x=some c
 cab:∀x c,X.fn x=true->X.env.cells.lookup x=some c->X.s₀.heap.objs.size<=c
 hd:X.calm=true->X.A.handled=none
 frames:X.A.frames=some X.stack
 stk:X.stack=X.outer\/(X.stack=X.env::X.outer/\X.env.frame=some X.env.locals)
 exf:∀b∈X.ex,b≠X.env.locals/\∀x c,X.env.cells.lookup x=some c->c≠b
 bs:∀b o,X.base.get? b=some o->X.s₀.heap.get? b=some o/\X.H₀ b=none
 bsz:X.base.objs.size<=X.s₀.heap.objs.size
 noex:∀b o,X.base.get? b=some o->b∉X.ex
 exfs:∀b∈X.ex,b∉X.fs
 funs:X.s₀.heap.FunFrames X.base X.outer
 frf:∀b∈X.fs,X.H₀ b=none
structure Inv (X:Cx) (pins:List (Addr×Obj)) (Y:List (Option V)) (H:Hp) (s:Shared):Prop where
 ok:X.Ok
 os:s.os=X.s₀.os
 bare:AllBare s.gens
 base:Un X.fs X.ex X.H₀ H X.s₀.heap s.heap
 loc:∃m,s.heap.Ns X.env.locals m/\∀(i:Nat) (x:Str) (v:V),X.N[i]? = some x->Y[i]? = some (some v)->qp X.env.scope x->∃u,bq v u/\Fy X.env s.heap m x u
 cell:∀x c,X.env.cells.lookup x=some c->∃v,s.heap.IsCell c v
 free:H X.env.locals=none
 freeC:∀x c,X.env.cells.lookup x=some c->H c=none
 pin:∀p∈X.pn++pins,s.heap.get? p.1=some p.2/\H p.1=none/\p.1≠X.env.locals/\p.1∉X.fs/\∀v,p.2.data≠.cell v
 hok:bH X.prog X.w H s.heap
 len:Y.length=X.N.length
theorem Cx.Ok.nofr{X:Cx}(ok:X.Ok)(e:X.base.get? b=some o):b∉X.fs:=fun a=>by have:=(ok.funs.mem a).1;rw[e]at this;cases this
theorem Inv.bs(I:Inv X R Y H s):∀b o,X.base.get? b=some o->s.heap.get? b=some o/\H b=none:=fun b o e=>⟨I.base.keep b o (I.ok.bs b o e).1 (I.ok.bs b o e).2 (I.ok.nofr e) (I.ok.noex b o e),I.base.free b o (I.ok.bs b o e).1 (I.ok.bs b o e).2 (I.ok.noex b o e)⟩
theorem Inv.bk(I:Inv X R Y H s):∀b o,X.base.get? b=some o->s.heap.get? b=some o:=fun b o e=>(I.bs b o e).1
theorem Inv.mod(I:Inv X R Y H s):Mod X.K X.mg X.base:=I.ok.mod
theorem Inv.kIn(I:Inv X R Y H s):X.K.In s.heap:=I.ok.mod.kin.keeps I.bk
theorem Inv.lt(I:Inv X R Y H s):X.env.locals<s.heap.objs.size:=let⟨_,a,_⟩:=I.loc;a.lt
theorem Inv.sz(I:Inv X R Y H s):X.s₀.heap.objs.size<=s.heap.objs.size:=Nat.le_trans I.ok.above (Nat.le_of_lt I.lt)
theorem Inv.nofs(I:Inv X R Y H s){a:Addr}(h:s.heap.objs.size<=a):a∉X.fs:=fun b=>by obtain⟨_,o,c,_⟩:=I.ok.funs.mem b;exact absurd (Nat.lt_of_lt_of_le (bv c) (Nat.le_trans I.sz h)) (Nat.lt_irrefl _)
theorem Inv.cne(I:Inv X R Y H s):∀x c,X.env.cells.lookup x=some c->c≠X.env.locals:=fun x c e z=>by obtain⟨v,o,ho,hd⟩:=I.cell x c e;obtain⟨m,⟨d,f,g,a,b,_⟩,_⟩:=I.loc;rw[z,a]at ho;cases ho;rw[b]at hd;cases hd
theorem Inv.funs(I:Inv X R Y H s):s.heap.FunFrames X.base X.outer:=by
 have all:∀(l:List Env),(∀b∈bN l,b∈X.fs)->X.s₀.heap.FunFrames X.base l->s.heap.FunFrames X.base l:=by
  intro l
  induction l with
  |nil=>intro _ _;trivial
  |cons env r g=>intro f h;obtain⟨i,⟨L,o,a,j,ho,hd⟩,k⟩:=h;have c:L∈X.fs:=f L (by unfold bN;rw[List.filterMap_cons,a];exact List.mem_cons_self);obtain⟨m,e⟩:=I.base.slot L o ho (I.ok.frf L c) c fun z=>I.ok.exfs L z c;exact⟨i,⟨L,_,a,j,e,hd⟩,g (fun b d=>f b (by unfold bN;rw[List.filterMap_cons,a];exact bC _ d)) k⟩
 exact all X.outer (fun _ d=>d) I.ok.funs
theorem Inv.stack(I:Inv X R Y H s):s.heap.FunFrames X.base X.stack:=by
 rcases I.ok.stk with e |⟨e,a⟩
 .rw[e];exact I.funs
 .rw[e];obtain⟨m,b,_⟩:=I.loc;refine .cons (by rw[I.ok.kind];decide) a b ?_ I.funs;exact Heap.get?_none_of_le (Nat.le_trans I.ok.bsz I.ok.above)
theorem Inv.stkSub(I:Inv X R Y H s):∀b∈bN X.stack,b∈X.env.locals::X.fs:=fun b a=>by
 rcases I.ok.stk with e |⟨e,c⟩
 .rw[e]at a;exact bC _ a
 .rw[e]at a;unfold bN at a;rw[List.filterMap_cons,c]at a;exact a
theorem Inv.stkFree(I:Inv X R Y H s):∀b∈bN X.stack,H b=none:=fun b a=>by
 rcases List.mem_cons.mp (I.stkSub b a) with e |a
 .rw[e];exact I.free
 .obtain⟨_,o,c,_⟩:=I.ok.funs.mem a;exact I.base.free b o c (I.ok.frf b a) fun z=>I.ok.exfs b z a
theorem Inv.step{ch:List Addr}(I:Inv X R Y H s)
  (f:∀b∈ch,(b∈X.ex\/X.s₀.heap.objs.size<=b)/\b≠X.env.locals/\(∀x c,X.env.cells.lookup x=some c->c≠b)/\∀p∈X.pn++R,p.1≠b)
  (keep:∀b o,b≠X.env.locals->b∉X.fs->b∉ch->s.heap.get? b=some o->H b=none->h'.get? b=some o)
  (slot:∀b o,b≠X.env.locals->b∈X.fs->b∉ch->s.heap.get? b=some o->H b=none->∃N,h'.get? b=some { o with slots:=N }) (free:∀b o,b∉ch->s.heap.get? b=some o->H b=none->O b=none)
  (there:∀b o,b∉ch->s.heap.get? b=some o->∃B,h'.get? b=some B)
  (E:∀b y,H b=some (.tup y)->O b=some (.tup y)) (G:∀b o u,H b=some (.frz o u)->O b=some (.frz o u)) (J:∀b L,H b=some (.tbl L)->∃more,O b=some (.tbl (L++more)))
  (ns:∀m,s.heap.Ns X.env.locals m->h'.Ns X.env.locals m) (Q:bH X.prog X.w O h') (Z:AllBare g') :
  Inv X R Y O { s with heap:=h',gens:=g',drawn:=d',toks:=t' }:=by
 have C:∀b o,X.s₀.heap.get? b=some o->b≠X.env.locals:=fun b o e=>Nat.ne_of_lt (Nat.lt_of_lt_of_le (bv e) I.ok.above);have j:∀b o,X.s₀.heap.get? b=some o->b∉X.ex->b∉ch:=fun b o e a A=>by
  rcases(f b A).1 with z |z
  .exact a z
  .exact absurd (Nat.lt_of_lt_of_le (bv e) z) (Nat.lt_irrefl _)
 have g:∀x c,X.env.cells.lookup x=some c->∀v,s.heap.IsCell c v->h'.IsCell c v:=fun x c e v ⟨o,ho,hd⟩=>by
  have h:c∉ch:=fun z=>(f c z).2.2.1 x c e rfl
  by_cases S:c∈X.fs
  .obtain⟨N,q⟩:=slot c o (I.cne x c e) S h ho (I.freeC x c e);exact⟨_,q,hd⟩
  .exact⟨o,keep c o (I.cne x c e) S h ho (I.freeC x c e),hd⟩
 refine⟨I.ok,I.os,Z,⟨fun b o e n A a=>?_,fun b o e n A a=>?_,fun b o e n a=>?_,fun b o e a=>?_,fun b y e=>E b y (I.base.tups b y e),fun b o y e=>G b o y (I.base.frzs b o y e),fun b L e=>?_⟩,?_,fun x c e=>?_,?_,fun x c e=>?_,fun p T=>?_,Q,I.len⟩
 .exact keep b o (C b o e) A (j b o e a) (I.base.keep b o e n A a) (I.base.free b o e n a)
 .obtain⟨N,t⟩:=I.base.slot b o e n A a;obtain⟨M,D⟩:=slot b _ (C b o e) A (j b o e a) t (I.base.free b o e n a);exact⟨M,D⟩
 .obtain⟨B,t⟩:=I.base.there b o e a;exact free b B (j b o e a) t (I.base.free b o e n a)
 .obtain⟨B,t⟩:=I.base.there b o e a;exact there b B (j b o e a) t
 .obtain⟨m1,t⟩:=I.base.tbls b L e;obtain⟨m2,D⟩:=J b _ t;exact⟨m1++m2,by rw[D,Array.append_assoc]⟩
 .obtain⟨m,hn,hl⟩:=I.loc;refine⟨m,ns m hn,fun i x v t D e3=>?_⟩;obtain⟨u,r,l⟩:=hl i x v t D e3;refine⟨u,r,?_⟩;rcases l with l |⟨k,c,e,z⟩
  .exact .inl l
  .exact .inr ⟨k,c,e,g x c e _ z⟩
 .obtain⟨v,z⟩:=I.cell x c e;exact⟨v,g x c e v z⟩
 .obtain⟨m,⟨o,_,_,ho,_⟩,_⟩:=I.loc;exact free _ o (fun z=>(f _ z).2.1 rfl) ho I.free
 .obtain⟨v,o,ho,hd⟩:=I.cell x c e;exact free c o (fun z=>(f c z).2.2.1 x c e rfl) ho (I.freeC x c e)
 .obtain⟨e,n,ne,U,d⟩:=I.pin p T;have h:p.1∉ch:=fun z=>(f p.1 z).2.2.2 p T rfl;exact⟨keep p.1 p.2 ne U h e n,free p.1 p.2 h e n,ne,U,d⟩
theorem Inv.un(I:Inv X R Y H s)(u:Un X.fs [] H O s.heap h')(f:bH X.prog X.w O h'):Inv X R Y O { s with heap:=h',toks:=t' }:=by
 obtain⟨m,⟨o,k,l,ho,r⟩,_⟩:=id I.loc;obtain⟨t,h⟩:=u.any ho I.free (by simp);exact I.step (g':=s.gens) (d':=s.drawn) (ch:=[]) (fun _ z=>nomatch z) (fun b o _ g _ e n=>u.keep b o e n g (by simp)) (fun b o _ g _ e n=>u.slot b o e n g (by simp)) (fun b o _ e n=>u.free b o e n (by simp)) (fun b o _ e=>u.there b o e (by simp)) u.tups u.frzs u.tbls (fun p i=>by
  obtain⟨q,c,d,a,j⟩:=i;rw[ho]at a;cases a;exact⟨_,c,d,h,j⟩) f I.bare
theorem Inv.call(I:Inv X R Y H s)(u:Un (bN X.stack) ch H O s.heap h')(j:bH X.prog X.w O h')(k:AllBare g')
  (d:∀b∈ch,(b∈X.ex\/X.s₀.heap.objs.size<=b)/\b≠X.env.locals/\(∀x c,X.env.cells.lookup x=some c->c≠b)/\∀p∈X.pn++R,p.1≠b) :
  Inv X R Y O { s with heap:=h',gens:=g',drawn:=d',toks:=t' }:=by
 obtain⟨m,⟨o,v,y,ho,r⟩,_⟩:=id I.loc;obtain⟨C,g⟩:=u.any ho I.free fun z=>(d _ z).2.1 rfl;exact I.step (ch:=ch) d (fun b o g t a e n=>u.keep b o e n (fun z=>(List.mem_cons.mp (I.stkSub b z)).elim g t) a) (fun b o _ _ a e n=>u.any e n a) (fun b o a e n=>u.free b o e n a) (fun b o a e=>u.there b o e a) u.tups u.frzs u.tbls (fun A l=>by
  obtain⟨B,h,i,f,q⟩:=l;rw[ho]at f;cases f;exact⟨_,h,i,g,q⟩) j k
theorem Inv.turned(I:Inv X R Y H s)(k:∀b o,b≠it->s.heap.get? b=some o->h'.get? b=some o)(g:H it=none)(f:it≠X.env.locals)
  (l:it∈X.ex\/X.s₀.heap.objs.size<=it) (t:∀x c,X.env.cells.lookup x=some c->c≠it) (w:∀p∈X.pn++R,p.1≠it):Inv X R Y H { s with heap:=h',toks:=t' }:=by
 have d:∀b u,H b=some u->b≠it:=fun b u e z=>by rw[z,g]at e;cases e
 refine I.step (g':=s.gens) (d':=s.drawn) (ch:=[it]) (fun b y=>?_) (fun b o _ _ a e _=>k b o (fun z=>a (by simp[z])) e) (fun b o _ _ a e _=>⟨o.slots,k b o (fun z=>a (by simp[z])) e⟩) (fun _ _ _ _ n=>n)
  (fun b o a e=>⟨o,k b o (fun z=>a (by simp[z])) e⟩) (fun _ _ e=>e) (fun _ _ _ e=>e) (fun b A e=>⟨#[],by rw[e];simp⟩) (fun m h=>?_) (fun b u e=>?_) I.bare
 .have e:b=it:=by simpa using y
  subst e;exact⟨l,f,t,w⟩
 .obtain⟨o,i,j,ho,r⟩:=h;exact⟨o,i,j,k _ o (Ne.symm f) ho,r⟩
 .refine(I.hok b u e).stay (fun c v a q=>k c v ?_ q) (fun _ q=>q) fun _ _ q=>q;rcases a with z |z
  .rw[z];exact d b u e
  .exact d c _ z
theorem Inv.tok(I:Inv X R Y H s)(t):Inv X R Y H { s with toks:=t }:=I.un (h':=s.heap) (t':=t) Un.refl I.hok
theorem Inv.kept(I:Inv X R Y H s)(k:∀b u,s.heap.get? b=some u->h'.get? b=some u):Inv X R Y H { s with heap:=h',toks:=t' }:=I.un (Un.kept k) (I.hok.kept k)
theorem Inv.laid{a:Addr}(I:Inv X R Y H s)(k:∀b u,s.heap.get? b=some u->h'.get? b=some u)(c:s.heap.objs.size<=a)(new:cI X.prog X.w (aB H a o) h' a o) :
  Inv X R Y (aB H a o) { s with heap:=h',toks:=t' }:=I.un (Un.laid k c (I.hok.fresh c)) (I.hok.laid k c new)
theorem Inv.write(I:Inv X R Y H s)(c:oq (H x))(d:e=x\/H e=some (.own x))(k:∀b u,b≠e->s.heap.get? b=some u->h'.get? b=some u)(a:∃u,h'.get? e=some u)
  (new:cI X.prog X.w (aB H x o) h' x o):Inv X R Y (aB H x o) { s with heap:=h',toks:=t' }:=I.un (Un.write c d k a) (I.hok.write c d k a new)
theorem Inv.pins_of(I:Inv X R Y H s)(h:∀p∈pins',s.heap.get? p.1=some p.2/\H p.1=none/\p.1≠X.env.locals/\p.1∉X.fs/\∀v,p.2.data≠.cell v):Inv X pins' Y H s:=
 ⟨I.ok,I.os,I.bare,I.base,I.loc,I.cell,I.free,I.freeC,fun p a=>(List.mem_append.mp a).elim (fun z=>I.pin p (aR _ z)) (h p),I.hok,I.len⟩
theorem tj{N:List Str}(c:N.Nodup){j:Nat}(a:N[i]? = some x)(b:N[j]? = some x):i=j:=by obtain⟨f,d⟩:=List.getElem?_eq_some_iff.mp a;obtain⟨g,e⟩:=List.getElem?_eq_some_iff.mp b;exact(List.getElem_inj c).mp (d.trans e.symm)
theorem wV(I:Inv X R Y H s)(hN:X.N.Nodup)(T:X.N[i]? = some x)(B:gy X.env.scope x)(r:bq v u)
  (h:∀s',Inv X R (Y.set i (some v)) H s'->(∃a,Heap.SameBut a s.heap s'.heap/\(a=X.env.locals\/X.env.cells.lookup x=some a))->Q () s') (hf:X.fn x=true\/X.env.scope.names.lookup x=some .local:=by first |exact .inl rfl |exact .inr rfl |assumption):wpAny M A (storeName X.env x u) Q E s:=by
 obtain⟨m,hn,hl⟩:=id I.loc;have U:(X.env.scope.kind==.class||(X.env.scope.kind==.module&&X.env.locals != X.env.globals))=false:=by rw[I.ok.kind];rfl
 have Z:i<Y.length:=by rw[I.len];exact(List.getElem?_eq_some_iff.mp T).1
 have cne:=I.cne;have g:∀{a:Addr}{h':Heap},(∃o,s.heap.get? a=some o/\H a=none)->Heap.SameBut a s.heap h'->bH X.prog X.w H h':=fun {a h'} ha f b ob e=>by
  obtain⟨_,_,C⟩:=ha;refine(I.hok b ob e).stay (fun c w' t q=>(f.2 c ?_).trans q) (fun _ q=>q) fun _ _ q=>q;rintro rfl;rcases t with rfl |t
  .rw[C]at e;cases e
  .rw[C]at t;cases t
 rcases B with G |G
 .refine wpAny_storeName_local G hn (fun h' a4 f=>?_) U;obtain⟨oL,_,_,a5,_⟩:=id hn;refine h _ ⟨I.ok,I.os,I.bare,⟨fun b o e n S B=>?_,fun b o e n S B=>?_,I.base.free,fun b o e B=>?_,I.base.tups,I.base.frzs,I.base.tbls⟩,⟨_,a4,fun j y v' l D e3=>?_⟩,fun y c e=>?_,I.free,I.freeC,fun p hp=>?_,g ⟨oL,a5,I.free⟩ f,by simpa using I.len⟩ ⟨_,f,.inl rfl⟩
  .exact(f.2 b (Nat.ne_of_lt (Nat.lt_of_lt_of_le (bv e) I.ok.above))).trans (I.base.keep b o e n S B)
  .obtain⟨sl,l⟩:=I.base.slot b o e n S B;exact⟨sl,(f.2 b (Nat.ne_of_lt (Nat.lt_of_lt_of_le (bv e) I.ok.above))).trans l⟩
  .obtain⟨o',l⟩:=I.base.there b o e B;exact⟨o',(f.2 b (Nat.ne_of_lt (Nat.lt_of_lt_of_le (bv e) I.ok.above))).trans l⟩
  .by_cases J:j=i
   .subst J;rw[T]at l;cases l;rw[List.getElem?_set_self Z]at D;cases D;exact⟨u,r,.inl ⟨G,by simp⟩⟩
   .rw[List.getElem?_set_ne (Ne.symm J)]at D;obtain⟨u',r',q⟩:=hl j y v' l D e3;refine⟨u',r',?_⟩;rcases q with⟨k,e⟩ |⟨k,c,e,z⟩
    .refine .inl ⟨k,?_⟩;have:y≠x:=fun e=>J (tj hN l (e▸T));simp[this,e]
    .exact .inr ⟨k,c,e,z.sameBut f (cne y c e)⟩
  .obtain⟨w',z⟩:=I.cell y c e;exact⟨w',z.sameBut f (cne y c e)⟩
  .obtain⟨e,n,ne,nf,d⟩:=I.pin p hp;exact⟨(f.2 p.1 ne).trans e,n,ne,nf,d⟩
 .have L:X.fn x=true:=by
   rcases hf with z |z
   .exact z
   .rw[z]at G;cases G
  obtain⟨c,t⟩:=I.ok.has x (.inl G);obtain⟨w',z⟩:=I.cell x c t;refine wpAny_storeName_cell I.ok.kind G t z (fun h' a0 f=>?_);obtain⟨oc,a1,a2⟩:=id z;refine h { s with heap:=h' } ⟨I.ok,I.os,I.bare,⟨fun b o e n S B=>?_,fun b o e n S B=>?_,I.base.free,fun b o e B=>?_,I.base.tups,I.base.frzs,I.base.tbls⟩,⟨m,hn.sameBut f (Ne.symm (cne x c t)),fun j y v' l D e3=>?_⟩,fun y c' e=>?_,I.free,I.freeC,fun p hp=>?_,g ⟨oc,a1,I.freeC x c t⟩ f,by simpa using I.len⟩ ⟨c,f,.inr t⟩
  .exact(f.2 b (Nat.ne_of_lt (Nat.lt_of_lt_of_le (bv e) (I.ok.cab x c L t)))).trans (I.base.keep b o e n S B)
  .obtain⟨sl,l⟩:=I.base.slot b o e n S B;exact⟨sl,(f.2 b (Nat.ne_of_lt (Nat.lt_of_lt_of_le (bv e) (I.ok.cab x c L t)))).trans l⟩
  .obtain⟨o',l⟩:=I.base.there b o e B;exact⟨o',(f.2 b (Nat.ne_of_lt (Nat.lt_of_lt_of_le (bv e) (I.ok.cab x c L t)))).trans l⟩
  .by_cases J:j=i
   .subst J;rw[T]at l;cases l;rw[List.getElem?_set_self Z]at D;cases D;exact⟨u,r,.inr ⟨.inl G,c,t,a0⟩⟩
   .rw[List.getElem?_set_ne (Ne.symm J)]at D;obtain⟨u',r',q⟩:=hl j y v' l D e3;refine⟨u',r',?_⟩;rcases q with q |⟨k,c',e,z'⟩
    .exact .inl q
    .refine .inr ⟨k,c',e,z'.sameBut f ?_⟩;rintro rfl;exact J (tj hN l (I.ok.inj _ _ _ e t▸T))
  .by_cases a3:c' = c
   .subst a3;exact⟨_,a0⟩
   .obtain⟨w2,z2⟩:=I.cell y c' e;exact⟨w2,z2.sameBut f a3⟩
  .obtain⟨e,n,ne,nf,d⟩:=I.pin p hp;refine⟨(f.2 p.1 ?_).trans e,n,ne,nf,d⟩;intro q;rw[q,a1]at e;have q':oc=p.2:=Option.some.inj e;exact d w' (by rw[<-q'];exact a2)
theorem tm(I:Inv X R Y H s)(b:X.N.Nodup)(c:X.N[i]? = some x)(d:gy X.env.scope x)(r:bq v u)
  (h:∀a,Inv X R (Y.set i (some v)) H a->Q () a) (e:X.fn x=true\/X.env.scope.names.lookup x=some .local:=by first |exact .inl rfl |exact .inr rfl |assumption):wpAny M A (storeName X.env x u) Q E s:=
 wV I b c d r (fun a f _=>h a f) e
theorem Inv.call'(I:Inv X R Y H s)(k:a.os=s.os)(u:Un (bN X.stack) ch H O s.heap a.heap)(f:bH X.prog X.w O a.heap)(g:AllBare a.gens)
  (d:∀b∈ch,(b∈X.ex\/X.s₀.heap.objs.size<=b)/\b≠X.env.locals/\(∀x c,X.env.cells.lookup x=some c->c≠b)/\∀p∈X.pn++R,p.1≠b):Inv X R Y O a:=by
 obtain⟨h',h,i,t',j⟩:=a;have e:j = s.os:=k;subst e;exact I.call (g':=h) (t':=t') (d':=i) u f g d
abbrev XK:=Value->Option Addr->Hp->Prop
abbrev St:=List (Option V)
abbrev VK:=V->Hp->Prop
abbrev TE:=St->Hp->VK->Prop
abbrev TT:=St->Hp->(Bool->Hp->Prop)->Prop
abbrev TA:=St->Hp->(List V->Hp->Prop)->Prop
structure eU where
 nx:St->Hp->Prop
 rt:VK
 bk:St->Hp->Prop:=fun _ _=>False
 ct:St->Hp->Prop:=fun _ _=>False
abbrev TS:=eU->St->Hp->Prop
def EP(X:Cx)(a:List (Addr×Obj))(Y:St)(Q:VK)(u:Value)(c:Shared):Prop:=∃v b,Inv X a Y b c/\bq v u/\Q v b
def TP(X:Cx)(a:List (Addr×Obj))(Y:St)(Q:Bool->Hp->Prop)(b:Bool)(d:Shared):Prop:=∃c,Inv X a Y c d/\Q b c
def AP(X:Cx)(a:List (Addr×Obj))(Y:St)(Q:List V->Hp->Prop)(d:List Value)(e:Shared):Prop:=∃b c,Inv X a Y c e/\bi b d/\Q b c
def SP(X:Cx)(a:List (Addr×Obj))(D:eU)(f:Flow)(d:Shared):Prop:=
 match f with
 |.next=>∃c b,Inv X a c b d/\D.nx c b
 |.brk=>∃c b,Inv X a c b d/\D.bk c b
 |.cont=>∃c b,Inv X a c b d/\D.ct c b
 |.ret u=>∃v c b,Inv X a c b d/\bq v u/\D.rt v b
def PE(X:Cx)(e:Expr)(t:TE):Prop:=
 ∀(a:List (Addr×Obj)) (s:Shared) (Y:St) (H:Hp) (Q:VK),Inv X a Y H s->t Y H Q->wpAny (model X.prog X.w) X.A (eval e X.env) (EP X a Y Q) X.xe s
def PT(X:Cx)(e:Expr)(t:TT):Prop:=
 ∀(a:List (Addr×Obj)) (s:Shared) (Y:St) (H:Hp) (Q:Bool->Hp->Prop),Inv X a Y H s->t Y H Q->wpAny (model X.prog X.w) X.A (isTrue e X.env (eval e X.env)) (TP X a Y Q) X.xe s
def PW(X:Cx)(e:Expr)(t:TT):Prop:=
 ∀(whole:Sem Value) (a:List (Addr×Obj)) (s:Shared) (Y:St) (H:Hp) (Q:Bool->Hp->Prop),Inv X a Y H s->t Y H Q->wpAny (model X.prog X.w) X.A (isTrue e X.env whole) (TP X a Y Q) X.xe s
theorem PW.pt(h:PW X e t):PT X e t:=h _
def PA(X:Cx)(b:List Expr)(t:TA):Prop:=
 ∀(pos:Pos) (a:List (Addr×Obj)) (s:Shared) (Y:St) (H:Hp) (Q:List V->Hp->Prop),Inv X a Y H s->t Y H Q->wpAny (model X.prog X.w) X.A (spliced (backTo pos (starEach b X.env))) (AP X a Y Q) X.xe s
def PS(X:Cx)(st:Stmt)(t:TS):Prop:=
 ∀(a:List (Addr×Obj)) (s:Shared) (Y:St) (H:Hp) (D:eU),Inv X a Y H s->t D Y H->wpAny (model X.prog X.w) X.A (exec st X.env) (SP X a D) X.xe s
def PSs(X:Cx)(st:List Stmt)(t:TS):Prop:=
 ∀(a:List (Addr×Obj)) (s:Shared) (Y:St) (H:Hp) (D:eU),Inv X a Y H s->t D Y H->wpAny (model X.prog X.w) X.A (execs st X.env) (SP X a D) X.xe s
theorem aQ{t:Sem α}{Q b}(h:wpAny M A t Q E s)(c:∀a s,Q a s->b a s):wpAny M A t b E s:=wpAny_mono h c fun _ _ x=>x
def bw(i:Nat):TE:=fun Y H Q=>∃v,Y[i]? = some (some v)/\Q v H
def tC(v:V):TE:=fun _ H Q=>Q v H
theorem Fz{X:Cx}{pos}(j:X.N[i]? = some x)(k:qp X.env.scope x)(hd:autoParam ((x==("__debug__":Str))=false) Zr._auto_1)(f:autoParam ((x==("__classdict__":Str))=false) Zr._auto_1):PE X (.Name x pos) (bw i):=by
 intro d s Y H Q I h;obtain⟨v,e,h⟩:=h;obtain⟨m,n,o⟩:=I.loc;obtain⟨u,r,l⟩:=o i x v j e k;have fin:EP X d Y Q u s:=⟨v,H,I,r,h⟩
 rcases l with⟨b,p⟩ |⟨b,c,g,a⟩
 .exact wpAny_Name (wpAny_loadName_local I.ok.kind b n p fin) hd
 .rcases b with b |b
  .exact wpAny_Name (wpAny_loadName_cell I.ok.kind b g a fin) hd
  .exact wpAny_Name (wpAny_loadName_free I.ok.kind b g a fin f) hd
theorem tp:PE X (.Constant (.int i) j pos) (tC (.int i)):=fun _ _ _ H _ I h=>wpAny_Constant_int ⟨.int i,H,I.tok _,⟨_,rfl⟩,h⟩
theorem FC:PE X (.Constant (.bool b) j pos) (tC (.bl b)):=fun _ _ _ H _ I h=>Constant_bool ⟨.bl b,H,I,rfl,h⟩
theorem tq:PE X (.Constant .none j pos) (tC .non):=fun _ _ _ H _ I h=>Constant_none ⟨.non,H,I,rfl,h⟩
theorem wW:PE X (.Constant (.str x) j pos) (tC (.str x)):=fun _ _ _ H _ I h=>Calls.Constant_str ⟨.str x,H,I.tok _,⟨_,rfl⟩,h⟩
def Gl(X:Cx)(x:Str):Prop:=X.env.kindOf x=some .globalImplicit
theorem lx{Y:St}(I:Inv X a Y H s)(b:Gl X x)(c:X.mg x=some u)(h:Q u s)
  (hd:autoParam ((x==("__debug__":Str))=false) Zr._auto_1):wpAny (model X.prog X.w) X.A (eval (.Name x pos) X.env) Q E s:=
 Calls.Name_function_global I.ok.kind b (Calls.loadGlobal_global (by rw[I.ok.glob];exact I.mod.glob.keeps I.bk) c h) hd
theorem jo{E}{Y:St}{pos}(I:Inv X a Y H s)(b:Gl X x)(c:X.mg x=none)(d:bootBuiltins x=some u)(h:Q u s)
  (e:autoParam (x≠"__name__") Zr._auto_1) (hd:autoParam ((x==("__debug__":Str))=false) Zr._auto_1):wpAny (model X.prog X.w) X.A (eval (.Name x pos) X.env) Q E s:=by
 obtain⟨f,h1,h2⟩:=I.mod.blt;exact Calls.Name_function_global I.ok.kind b (Calls.loadGlobal_builtin (by rw[I.ok.glob];exact I.mod.glob.keeps I.bk) c (by rw[I.ok.blt];exact h1.keeps I.bk) ((h2 x e).trans d) h) hd
theorem wX(a:Gl X x)(b:X.mg x=some u)(r:bq v u)(hd:autoParam ((x==("__debug__":Str))=false) Zr._auto_1):PE X (.Name x pos) (tC v):=
 fun _ _ _ H _ I h=>lx I a b ⟨v,H,I,r,h⟩ hd
theorem jq{pos}(a:Gl X x)(b:X.mg x=none)(c:bootBuiltins x=some u)(r:bq v u)(d:autoParam (x≠"__name__") Zr._auto_1)(hd:autoParam ((x==("__debug__":Str))=false) Zr._auto_1):PE X (.Name x pos) (tC v):=
 fun _ _ _ H _ I h=>jo I a b c ⟨v,H,I,r,h⟩ d hd
def tB(t:TE):TT:=fun Y H Q=>t Y H fun x d=>∃c,x=.bl c/\Q c d
theorem FF(h:PE X e t)(f:autoParam (∀whole,isTrue e X.env whole=(do let v <-whole;standAt e.pos;holding [v] (truthy v))) Zs._auto_1):PT X e (tB t):=by intro c s Y H Q I g;refine isTrue_plain (aQ (h c s Y H _ I g) fun v l ⟨x,i,I1,j,k⟩=>?_) (f _);obtain⟨d,rfl,q⟩:=k;cases j;exact wpAny_truthy_bool ⟨i,I1,q⟩
def FH(t u:TT):TT:=fun Y H Q=>t Y H fun c d=>if c=true then u Y d Q else Q false d
def FJ(t u:TT):TT:=fun Y H Q=>t Y H fun c d=>if c=true then Q true d else u Y d Q
def FK(t:TT):TT:=fun Y H Q=>t Y H fun c d=>Q (!c) d
theorem FL(f:PT X a J):PW X (.BoolOp .And [a] pos) J:=by
 intro g d s Y H Q I h;refine isTrue_and (aQ (f d s Y H Q I h) fun c i e=>?_);cases c with
 |true=>exact isTrue_and_nil e
 |false=>exact e
theorem FP(f:PT X a J):PW X (.BoolOp .Or [a] pos) J:=by
 intro g d s Y H Q I h;refine isTrue_or (aQ (f d s Y H Q I h) fun c i e=>?_);cases c with
 |false=>exact isTrue_or_nil e
 |true=>exact e
theorem FQ(g:PT X a J)(k:PW X (.BoolOp .And (b::rest) pos) G):PW X (.BoolOp .And (a::b::rest) pos) (FH J G):=by
 intro i d s Y H Q I h;refine isTrue_and (aQ (g d s Y H _ I h) fun c j ⟨e,I1,f⟩=>?_);cases c with
 |true=>exact k i d j Y e Q I1 f
 |false=>exact⟨e,I1,f⟩
theorem FR(g:PT X a J)(k:PW X (.BoolOp .Or (b::rest) pos) G):PW X (.BoolOp .Or (a::b::rest) pos) (FJ J G):=by
 intro i d s Y H Q I h;refine isTrue_or (aQ (g d s Y H _ I h) fun c j ⟨e,I1,f⟩=>?_);cases c with
 |true=>exact⟨e,I1,f⟩
 |false=>exact k i d j Y e Q I1 f
theorem FT(e:PT X a J):PT X (.UnaryOp .Not a pos) (FK J):=by intro d s Y H Q I h;exact isTrue_not (e d s Y H (fun c f=>Q (!c) f) I h)
def FU(M L:TE):TE:=fun Y H Q=>M Y H fun x d=>∃c,x=.bl c/\if c=true then L Y d Q else Q (.bl false) d
def FV(M L:TE):TE:=fun Y H Q=>M Y H fun x d=>∃c,x=.bl c/\if c=true then Q (.bl true) d else L Y d Q
def FY(M:TE):TE:=fun Y H Q=>M Y H fun x d=>∃c,x=.bl c/\Q (.bl (!c)) d
theorem FZ(h:PE X a t):PE X (.BoolOp op [a] pos) t:=fun c s Y H Q I d=>BoolOp_one (h c s Y H Q I d)
theorem Ga(i:PE X a M)(l:PE X (.BoolOp .And (b::rest) pos) L):PE X (.BoolOp .And (a::b::rest) pos) (FU M L):=by
 intro d s Y H Q I h;refine BoolOp_and (aQ (i d s Y H _ I h) fun v j e=>?_);obtain⟨x,g,I1,k,f⟩:=e;obtain⟨c,rfl,f⟩:=f;cases k;refine wpAny_truthy_bool ?_;cases c with
 |true=>exact l d j Y g Q I1 f
 |false=>exact⟨.bl false,g,I1,rfl,f⟩
theorem Gb(i:PE X a M)(l:PE X (.BoolOp .Or (b::rest) pos) L):PE X (.BoolOp .Or (a::b::rest) pos) (FV M L):=by
 intro d s Y H Q I h;refine BoolOp_or (aQ (i d s Y H _ I h) fun v j e=>?_);obtain⟨x,g,I1,k,f⟩:=e;obtain⟨c,rfl,f⟩:=f;cases k;refine wpAny_truthy_bool ?_;cases c with
 |false=>exact l d j Y g Q I1 f
 |true=>exact⟨.bl true,g,I1,rfl,f⟩
theorem Gc(g:PE X a M):PE X (.UnaryOp .Not a pos) (FY M):=by intro d s Y H Q I h;refine UnaryOp_ (aQ (g d s Y H _ I h) fun v k e=>?_);obtain⟨x,i,I1,j,f⟩:=e;obtain⟨c,rfl,f⟩:=f;cases j;exact not_of (wpAny_truthy_bool ⟨.bl (!c),i,I1,rfl,f⟩)
def Gd(t:TT)(M L:TE):TE:=fun Y H Q=>t Y H fun c d=>if c=true then M Y d Q else L Y d Q
theorem Ge(j:PT X c J)(k:PE X a M)(l:PE X b L):PE X (.IfExp c a b pos) (Gd J M L):=by
 intro e s Y H Q I h;refine wpAny_IfExp (aQ (j e s Y H _ I h) fun d f ⟨g,I1,i⟩=>?_);cases d with
 |true=>exact k e f Y g Q I1 i
 |false=>exact l e f Y g Q I1 i
def cT(K:Frag)(H:Hp)(a:Addr)(c:List V):Prop:=
 Rd H a (.lst c)\/
  ∃(o:Obj) (b:Array Value) (n:Nat),K.lookup a=some o/\o.cls=.type "list"/\o.dict=none/\o.data=.seq b n/\b.size<=sizeLine/\bi c b.toList
def fW(K:Frag)(H:Hp)(a:Addr)(c:List V):Prop:=
 Rd H a (.tup c)\/
  ∃(o:Obj) (b:Array Value) (n:Nat),K.lookup a=some o/\o.cls=.type "tuple"/\o.data=.seq b n/\b.size<=sizeLine/\bi c b.toList
noncomputable def Gf:Value->Option V
 |.none=>some .non
 |.bool b=>some (.bl b)
 |.int i _=>some (.int i)
 |.str x _=>some (.str x)
 |.bytes b _=>some (.byt b)
 |.float b _=>some (.flt b)
 |.ref a=>some (.ref a)
 |.type n=>some (.ty n)
 |_=>none
theorem bq.abs(r:bq x u):Gf u=some x:=by
 cases x with
 |non=>cases r;rfl
 |bl _=>cases r;rfl
 |int _=>obtain⟨t,rfl⟩:=r;rfl
 |str _=>obtain⟨t,rfl⟩:=r;rfl
 |byt _=>obtain⟨t,rfl⟩:=r;rfl
 |flt _=>obtain⟨t,rfl⟩:=r;rfl
 |ref _=>cases r;rfl
 |ty _=>cases r;rfl
theorem bq.inj(r:bq x u)(q:bq y u):x=y:=Option.some.inj (r.abs.symm.trans q.abs)
theorem bi.inj:∀{a b c},bi a c->bi b c->a=b
 |_,_,_,.nil,.nil=>rfl
 |_,_,_,.cons r t,.cons d t'=>by rw[r.inj d,bi.inj t t']
theorem cT.of{K}(h:H a=some (.lst N)):cT K H a N:=.inl (.inl h)
theorem Inv.list{Y:St}(I:Inv X Q Y H s)(h:cT X.K H a N):∃b,bi N b/\PlainL s.heap a b.toArray/\N.length<=sizeLine:=by
 rcases h with h |⟨o,b,n,c,d,hd,f,g,r⟩
 .obtain⟨z,b,n,r,e⟩:=h.ok I.hok;exact⟨b,r,⟨_,n,e,rfl,rfl,rfl⟩,z⟩
 .refine⟨b.toList,r,⟨o,n,I.kIn a o c,d,hd,by simpa using f⟩,?_⟩;have e:=r.length;simp only[Array.length_toList]at e;lia
theorem Inv.tuple{Y:St}(I:Inv X Q Y H s)(h:fW X.K H a N):∃b,bi N b/\IsTup s.heap a b.toArray/\N.length<=sizeLine:=by
 rcases h with h |⟨o,b,n,c,d,f,g,r⟩
 .obtain⟨z,b,r,p⟩:=h.ok I.hok;exact⟨b,r,p,z⟩
 .refine⟨b.toList,r,⟨o,I.kIn a o c,d,n,by simpa using f⟩,?_⟩;have e:=r.length;simp only[Array.length_toList]at e;lia
theorem Inv.list_inj{Y:St}(I:Inv X Q Y H s)(h:cT X.K H a N)(i:cT X.K H a E):N=E:=by
 obtain⟨c,r,⟨o,n,e,_,_,d⟩,_⟩:=I.list h;obtain⟨b,j,⟨l,m,f,_,_,g⟩,_⟩:=I.list i;rw[e]at f;cases f;rw[d]at g;injection g with k _
 have:c=b:=by simpa using congrArg Array.toList k
 subst this;exact r.inj j
theorem Inv.tuple_inj{Y:St}(I:Inv X Q Y H s)(h:fW X.K H a N)(i:fW X.K H a E):N=E:=by
 obtain⟨c,r,⟨o,e,_,n,d⟩,_⟩:=I.tuple h;obtain⟨b,j,⟨l,f,_,m,g⟩,_⟩:=I.tuple i;rw[e]at f;cases f;rw[d]at g;injection g with k _
 have:c=b:=by simpa using congrArg Array.toList k
 subst this;exact r.inj j
def Gg:TS:=fun D Y H=>D.nx Y H
def Gh(t u:TS):TS:=fun D Y H=>t { D with nx:=u D } Y H
theorem Gi:PSs X [] Gg:=fun _ _ Y H _ I h=>wpAny_execs_nil ⟨Y,H,I,h⟩
theorem Gj{st:Stmt}(i:PS X st t)(j:PSs X rest u):PSs X (st::rest) (Gh t u):=by
 intro a s Y H D I h;refine wpAny_execs_cons (aQ (i a s Y H { D with nx:=u D } I h) fun f b q=>?_);cases f with
 |next=>obtain⟨c,d,g,q⟩:=q;exact j a b c d D g q
 |ret v=>exact q
 |brk=>exact q
 |cont=>exact q
theorem Gk{st:Stmt}(b:PS X st t):PSs X [st] t:=by
 intro a s Y H D I h;refine wpAny_execs_cons (aQ (b a s Y H D I h) fun f c q=>?_);cases f with
 |next=>exact wpAny_execs_nil q
 |ret v=>exact q
 |brk=>exact q
 |cont=>exact q
theorem Inv.quiet{Y:St}(I:Inv X a Y H s):interactive X.env=false:=by simp[interactive,I.ok.kind]
def Gm(C:TE):TS:=fun D Y H=>C Y H fun _ a=>D.nx Y a
theorem mF(c:PE X e C)(d:autoParam (swapsWith e none pos.line X.env=pure false) Zq._auto_1):PS X (.Expr e pos) (Gm C):=by intro a s Y H D I h;exact wpAny_Expr_any (aQ (c a s Y H _ I h) fun v i b=>by obtain⟨x,f,I1,j,g⟩:=b;exact⟨Y,f,I1,g⟩) I.quiet d
def Gn(C:TE):TS:=fun D Y H=>C Y H D.rt
theorem wY(b:PE X e C):PS X (.Return (some e) pos) (Gn C):=by intro a s Y H D I h;exact wpAny_Return_some (aQ (b a s Y H _ I h) fun v g ⟨x,c,I1,d,f⟩=>⟨x,Y,c,I1,d,f⟩)
def Go(c:TT)(t u:TS):TS:=fun D Y H=>c Y H fun b a=>if b=true then t D Y a else u D Y a
theorem Gp(l:PT X c g)(m:PSs X a t)(n:PSs X b u):PS X (.If c a b pos) (Go g t u):=by
 intro f s Y H D I h;refine wpAny_If (aQ (l f s Y H _ I h) fun d i ⟨j,I1,k⟩=>?_);cases d with
 |true=>exact m f i Y j D I1 k
 |false=>exact n f i Y j D I1 k
abbrev TG:=V->St->Hp->(St->Hp->Prop)->Prop
abbrev jr:=List V->St->Hp->(St->Hp->Prop)->Prop
def PG(X:Cx)(target:Expr)(t:TG):Prop:=
 ∀(a:List (Addr×Obj)) (s:Shared) (Y:St) (H:Hp) (v:V) (u:Value) (Q:St->Hp->Prop),Inv X a Y H s->bq v u->t v Y H Q->
  wpAny (model X.prog X.w) X.A (assign target X.env u) (fun _ d=>∃b c,Inv X a b c d/\Q b c) X.xe s
def PGs(X:Cx)(f:List Expr)(t:jr):Prop:=
 ∀(a:List (Addr×Obj)) (s:Shared) (Y:St) (H:Hp) (b:List V) (c:List Value) (Q:St->Hp->Prop),Inv X a Y H s->bi b c->t b Y H Q->
  wpAny (model X.prog X.w) X.A (assignInOrder ((assignEach f X.env).map (·.2)) c) (fun _ g=>∃d e,Inv X a d e g/\Q d e) X.xe s
abbrev tt:=V->V->V->Hp->(Hp->Prop)->Prop
def wZ(X:Cx)(t:tt):Prop:=
 ∀(a:List (Addr×Obj)) (s:Shared) (Y:St) (H:Hp) (o i v:V) (b c u:Value) (Q:Hp->Prop),Inv X a Y H s->bq o b->bq i c->bq v u->t o i v H Q->
  wpAny (model X.prog X.w) X.A (setItem b c u) (fun _ e=>∃d,Inv X a Y d e/\Q d) X.xe s
section
variable{X:Cx}{pos:Pos}
def qr(i:Nat):TG:=fun v Y H Q=>Q (Y.set i (some v)) H
theorem Gq(b:X.N.Nodup)(c:X.N[i]? = some x)(d:gy X.env.scope x)(e:X.fn x=true\/X.env.scope.names.lookup x=some .local:=by first |exact .inl rfl |exact .inr rfl |assumption):PG X (.Name x pos) (qr i):=by intro a s Y H v u Q I r h;exact wpAny_assign_Name (tm I b c d r (fun g f=>⟨_,H,f,h⟩) e)
def Gr:jr:=fun a Y H Q=>a=[]/\Q Y H
def Gs(t:TG)(u:jr):jr:=fun a Y H Q=>∃v r,a=v::r/\t v Y H fun b c=>u r b c Q
theorem Gu:PGs X [] Gr:=by intro a s Y H b c Q I r h;obtain⟨e,h⟩:=h;subst e;cases r;exact assignInOrder_nil ⟨Y,H,I,h⟩
theorem Gv(l:PG X e t)(m:PGs X b u)
  (c:autoParam ((assignEach (e::b) X.env).map (·.2)=assign e X.env::(assignEach b X.env).map (·.2)) Zq._auto_1):PGs X (e::b) (Gs t u):=by
 intro a s Y H n o Q I r h;obtain⟨v,p,d,h⟩:=h;subst d;cases r with
 |cons r f=>rw[c];refine assignInOrder_cons (aQ (l a s Y H _ _ _ I r h) fun _ g ⟨i,j,I1,k⟩=>?_);exact m a g i j _ _ Q I1 f k
def Gw(K:Frag)(n:Nat)(t:jr):TG:=fun v Y H Q=>∃a b,v=.ref a/\fW K H a b/\b.length=n/\t b Y H Q
theorem Gx{k}(j:X.calm=true)(h:PGs X d t)
  (l:autoParam ((assignEach d X.env).length=n) Zq._auto_1) (f:autoParam ((assignEach d X.env).findIdx? (·.1)=none) Zq._auto_1):PG X (.Tuple d k pos) (Gw X.K n t):=by
 intro c s Y H v u Q I r g;obtain⟨a,m,p,q,w,g⟩:=g;subst p;cases r;obtain⟨x,i,y,B⟩:=I.tuple q;refine assign_Tuple_tuple (I.ok.hd j) y (by simp[l,<-w,i.length]) f fun z A=>?_;have I1:Inv X c Y H { s with heap:=z }:=I.kept (t':=s.toks) fun b o e=>A b o (Nat.ne_of_lt (bv e)) e;exact h c _ Y H m _ Q I1 (by simpa using i) g
def fJ(d e:TE)(t:tt):TG:=fun v Y H Q=>d Y H fun o a=>e Y a fun i b=>t o i v b fun c=>Q Y c
theorem xa(L:PE X o g)(k:PE X i j)(l:wZ X t)
  (m:autoParam (∀v,assign (.Subscript o i pos) X.env v=(do
   let b <-holding [v] (eval o X.env);let c <-holding [v,b] (eval i X.env)
   standAt pos
   holding [v,b,c] (setItem b c v)
   release [v,b,c] [])) Zs._auto_1):PG X (.Subscript o i pos) (fJ g j t):=by
 intro a s Y H v u Q I r h;rw[m];refine aj (wpAny_holding (aQ (L a s Y H _ I h) fun b n d=>?_));obtain⟨x,p,I1,q,w⟩:=d;refine aj (wpAny_holding (aQ (k a n Y p _ I1 w) fun c z e=>?_));obtain⟨y,A,B,C,D⟩:=e;refine aj (wpAny_standAt (aj (wpAny_holding (aQ (l a z Y A x y v b c u _ B q C r D) fun _ M f=>?_))));obtain⟨E,G,J⟩:=f;exact wpAny_release ⟨Y,E,G,J⟩
def tu(a:TE)(g:TG):TS:=fun D Y H=>a Y H fun x b=>g x Y b D.nx
theorem xb(f:PE X e d)(i:PG X b g)(j:autoParam (swapsWithSole [b] e pos.line X.env=pure false) Zq._auto_1)(k:autoParam (swappedStores [b] e X.env=pure none) Zq._auto_1)
  (p:autoParam ((assignEach [b] X.env).map (·.2)=[assign b X.env]) Zq._auto_1):PS X (.Assign [b] e pos) (tu d g):=by
 intro a s Y H D I h;refine wpAny_Assign_stores (aQ (f a s Y H _ I h) fun v l c=>?_) j k;obtain⟨x,m,I1,n,o⟩:=c;rw[p];exact aQ (i a l Y m x v _ I1 n o) fun _ r q=>q
theorem xc(f:X.N.Nodup)(g:X.N[i]? = some x)(j:gy X.env.scope x)(k:PE X e d)(l:autoParam (swapsWith e (some (.Name x a)) pos.line X.env=pure false) Zq._auto_1)(m:X.fn x=true\/X.env.scope.names.lookup x=some .local:=by first |exact .inl rfl |exact .inr rfl |assumption) :
  PS X (.Assign [.Name x a] e pos) (tu d (qr i)):=by
 intro b s Y H D I h;refine wpAny_Assign_Name (aQ (k b s Y H _ I h) fun v r c=>?_) l;obtain⟨y,n,I1,o,p⟩:=c;exact tm I1 f g j o (fun t q=>⟨_,n,q,p⟩) m
end
structure It where
 go:Nat->Hp->Prop
 yld:Nat->Hp->V->Hp->Prop
 stop:Nat->Hp->Prop
def gY(X:Cx)(a:List (Addr×Obj))(H:Hp)(b:Addr):Prop:=
 H b=none/\b≠X.env.locals/\b∉X.fs/\(b∈X.ex\/X.s₀.heap.objs.size<=b)/\(∀x c,X.env.cells.lookup x=some c->c≠b)/\∀p∈X.pn++a,p.1≠b
theorem Inv.fpOk{Y:St}{b:Addr}(I:Inv X a Y H s)(d:s.heap.objs.size<=b)(g:f b=none):gY X a f b:=by
 refine⟨g,Nat.ne_of_gt (Nat.lt_of_lt_of_le I.lt d),I.nofs d,.inr (Nat.le_trans I.sz d),fun x c e z=>?_,fun p h z=>?_⟩
 .obtain⟨v,q⟩:=I.cell x c e;exact absurd (Nat.lt_of_lt_of_le q.lt (by rw[z];exact d)) (Nat.lt_irrefl _)
 .exact absurd (Nat.lt_of_lt_of_le (bv (I.pin p h).1) (by rw[z];exact d)) (Nat.lt_irrefl _)
structure gz (P:Program) (w:World) (K:Frag) (tg:Expr) (J:It) (fp:List Addr) (it:Addr) (tn:Nat->Heap->Prop):Prop where
 mem:it∈fp
 obj:∀i h,tn i h->∀b∈fp,∃o,h.get? b=some o/\∀v,o.data≠.cell v
 keep:∀i h h',tn i h->(∀b∈fp,∀o,h.get? b=some o->h'.get? b=some o)->tn i h'
 item:∀(X:Cx),X.prog=P->X.w=w->X.K=K->X.calm=true->∀(i:Nat) (pins:List (Addr×Obj)) (s:Shared) (Y:St) (H:Hp) (E:Value->Shared->Prop),Inv X pins Y H s->(∀b∈fp,gY X pins H b)->tn i s.heap->J.go i H->
  wpAny (model P w) X.A (pyNext (.ref it)) (fun r s1=>∃u,r=some u/\
   wpAny (model P w) X.A (letOwnedTupleGo tg (.ref it) u) (fun _ s2=>∃x H',Inv X pins Y H' s2/\bq x u/\J.yld i H x H'/\tn (i+1) s2.heap/\∀b∈fp,H' b=none) E s1) E s
 done:∀(X:Cx),X.prog=P->X.w=w->X.K=K->X.calm=true->∀(i:Nat) (pins:List (Addr×Obj)) (s:Shared) (Y:St) (H:Hp) (E:Value->Shared->Prop),Inv X pins Y H s->(∀b∈fp,gY X pins H b)->tn i s.heap->J.stop i H->
  wpAny (model P w) X.A (pyNext (.ref it)) (fun r s1=>r=none/\Inv X pins Y H s1) E s
 self:∀(A:Around) (i:Nat) (s:Shared) (Q:Value->Shared->Prop) (E:Value->Shared->Prop),tn i s.heap->Q (.ref it) s->wpAny (model P w) A (pyIter (.ref it)) Q E s
abbrev TI:=St->Hp->(It->Hp->Prop)->Prop
def xf(X:Cx)(a:List (Addr×Obj))(Y:St)(h:Expr)(R:It->Hp->Prop)(c:Value)(e:Shared):Prop:=
 ∃(it:Addr) (f:List Addr) (g:Nat->Heap->Prop) (J:It) (d:Hp),c=.ref it/\Inv X a Y d e/\gz X.prog X.w X.K h J f it g/\g 0 e.heap/\(∀b∈f,gY X a d b)/\R J d
def PI(X:Cx)(b iter:Expr)(c:TI):Prop:=
 ∀(a:List (Addr×Obj)) (s:Shared) (Y:St) (H:Hp) (R:It->Hp->Prop),Inv X a Y H s->c Y H R->
  wpAny (model X.prog X.w) X.A (eval iter X.env) (fun v d=>wpAny (model X.prog X.w) X.A (pyIter v) (xf X a Y b R) X.xe d) X.xe s
theorem tw(f:s.heap.get? it=some o)(d:o.cls=.type n)(hd:o.data=.fields c)
    (e:["enumerate","zip","dict_itemiterator","dict_reverseitemiterator","odict_iterator","itertools.zip_longest","itertools.pairwise"].contains n=false) (a:Q () s):wpAny M A (letOwnedTupleGo b (.ref it) u) Q E s:=by
  unfold letOwnedTupleGo;cases b<;>first
    |exact bd a
    | (cases u<;>first
        |exact bd a
        | (refine aj (wpAny_load f ?_)
           rw[d,hd];show wpAny M A (if (["enumerate","zip","dict_itemiterator","dict_reverseitemiterator","odict_iterator","itertools.zip_longest","itertools.pairwise"].contains n&&c[0]?==some (rawInt _))=true then _ else _) Q E s;rw[if_neg (by intro h;rw[e,Bool.false_and]at h;cases h)];exact bd a))
noncomputable def tx(K:Frag)(a:Addr):It:=
 ⟨fun i H=>∃b x,cT K H a b/\b[i]? = some x,fun i H x c=>c = H/\∀b,cT K H a b->b[i]? = some x,fun i H=>∃b,cT K H a b/\b.length<=i⟩
noncomputable def tz(K:Frag)(a:Addr):It:=
 ⟨fun i H=>∃b x,fW K H a b/\b[i]? = some x,fun i H x c=>c = H/\∀b,fW K H a b->b[i]? = some x,fun i H=>∃b,fW K H a b/\b.length<=i⟩
noncomputable def qt(lo:Int)(n:Nat):It:=⟨fun i _=>i<n,fun i H x a=>a = H/\x=.int (lo+i),fun i _=>n<=i⟩
theorem Gy{K}(a it):gz P w K tg (tx K a) [it] it (fun i h=>h.IsListIter it a i) where
 mem:=by simp
 obj:=fun i h st b hb=>by
  have e:b=it:=by simpa using hb
  subst e;obtain⟨o,e,c,d⟩:=st;exact⟨o,e,fun v z=>by rw[d]at z;cases z⟩
 keep:=fun i h h' st k=>st.at fun o e=>k it (by simp) o e
 item:=by intro X hP hw hK hc i pins s Y H E I hf st hg;subst hP hw hK;obtain⟨xs,x,hq,hx⟩:=hg;obtain⟨its,rv,p,hz⟩:=I.list hq;obtain⟨u,hu,ru⟩:=rv.get hx;obtain⟨f0,f1,f2,f3,f4,f5⟩:=hf it (by simp);refine wpAny_pyNext_list_item st p.isList (x:=u) (by simpa using hu) fun h' st' sb=>?_;have I1:Inv X pins Y H { s with heap:=h' }:=I.turned (t':=s.toks) (fun b o hb e=>(sb.2 b hb).trans e) f0 f1 f3 f4 f5;obtain⟨o,e,c,d⟩:=id st';exact⟨u,rfl,tw (s:={ s with heap:=h' }) e c d (by decide) ⟨x,H,I1,ru,⟨rfl,fun ys hy=>by rw[I.list_inj hy hq];exact hx⟩,st',fun b hb=>(hf b hb).1⟩⟩
 done:=by intro X hP hw hK hc i pins s Y H E I hf st hg;subst hP hw hK;obtain⟨xs,hq,hx⟩:=hg;obtain⟨its,rv,p,hz⟩:=I.list hq;obtain⟨f0,f1,f2,f3,f4,f5⟩:=hf it (by simp);have hl:=rv.length;exact wpAny_pyNext_list_end (I.ok.hd hc) st p.isList (by simp;lia) fun h' eb=>⟨rfl,I.turned (t':=s.toks) (fun b o hb e=>eb b o hb e) f0 f1 f3 f4 f5⟩
 self:=fun _ _ _ _ _ st h=>wpAny_pyIter_listiter st h
theorem Gz{K}(a it):gz P w K tg (tz K a) [it] it (fun i h=>h.IsTupleIter it a i) where
 mem:=by simp
 obj:=fun i h st b hb=>by
  have e:b=it:=by simpa using hb
  subst e;obtain⟨o,e,c,d⟩:=st;exact⟨o,e,fun v z=>by rw[d]at z;cases z⟩
 keep:=fun i h h' st k=>st.at fun o e=>k it (by simp) o e
 item:=by intro X hP hw hK hc i pins s Y H E I hf st hg;subst hP hw hK;obtain⟨xs,x,hq,hx⟩:=hg;obtain⟨its,rv,p,hz⟩:=I.tuple hq;obtain⟨u,hu,ru⟩:=rv.get hx;obtain⟨f0,f1,f2,f3,f4,f5⟩:=hf it (by simp);refine wpAny_pyNext_tuple_item st (show s.heap.IsTuple a its.toArray from p) (x:=u) (by simpa using hu) fun h' st' sb=>?_;have I1:Inv X pins Y H { s with heap:=h' }:=I.turned (t':=s.toks) (fun b o hb e=>(sb.2 b hb).trans e) f0 f1 f3 f4 f5;obtain⟨o,e,c,d⟩:=id st';exact⟨u,rfl,tw (s:={ s with heap:=h' }) e c d (by decide) ⟨x,H,I1,ru,⟨rfl,fun ys hy=>by rw[I.tuple_inj hy hq];exact hx⟩,st',fun b hb=>(hf b hb).1⟩⟩
 done:=by intro X hP hw hK hc i pins s Y H E I hf st hg;subst hP hw hK;obtain⟨xs,hq,hx⟩:=hg;obtain⟨its,rv,p,hz⟩:=I.tuple hq;obtain⟨f0,f1,f2,f3,f4,f5⟩:=hf it (by simp);have hl:=rv.length;exact wpAny_pyNext_tuple_end (I.ok.hd hc) st (show s.heap.IsTuple a its.toArray from p) (by simp;lia) fun h' eb=>⟨rfl,I.turned (t':=s.toks) (fun b o hb e=>eb b o hb e) f0 f1 f3 f4 f5⟩
 self:=fun _ _ _ _ _ st h=>wpAny_pyIter_tupleiter st h
theorem GA{K}(it lo n):gz P w K tg (qt lo n) [it] it (fun i h=>IsRangeIter h it (lo+(i:Nat) * 1) ((n:Int) - (i:Nat)) 1) where
 mem:=by simp
 obj:=fun i h st b hb=>by
  have e:b=it:=by simpa using hb
  subst e;exact⟨_,st,fun v z=>by
   have z':Data.fields _=Data.cell v:=z;cases z'⟩
 keep:=fun i h h' st k=>k it (by simp) _ st
 item:=by intro X hP hw hK hc i pins s Y H E I hf st hg;subst hP hw hK;obtain⟨f0,f1,f2,f3,f4,f5⟩:=hf it (by simp);have W:=Walks.range (prog:=X.prog) (w:=X.w) (I.ok.hd hc) it lo 1 n;refine W.item i s _ _ hg st fun v h' tk hv st' kk=>?_;obtain⟨t,rfl⟩:=hv;have I1:Inv X pins Y H { s with heap:=h',toks:=tk }:=I.turned (fun b o hb e=>kk b o (by simpa using hb) e) f0 f1 f3 f4 f5;refine⟨_,rfl,tw (s:={ s with heap:=h',toks:=tk }) (n:="range_iterator") st' rfl rfl (by decide) ⟨.int (lo+i),H,I1,⟨t,?_⟩,⟨rfl,rfl⟩,st',fun b hb=>(hf b hb).1⟩⟩;rw[Int.mul_one]
 done:=by intro X hP hw hK hc i pins s Y H E I hf st hg;subst hP hw hK;obtain⟨f0,f1,f2,f3,f4,f5⟩:=hf it (by simp);exact wpAny_pyNext_range_end (I.ok.hd hc) st (by have:n<=i:=hg;lia) fun h' eb=>⟨rfl,I.turned (t':=s.toks) (fun b o hb e=>eb b o hb e) f0 f1 f3 f4 f5⟩
 self:=fun _ _ _ _ _ st h=>wpAny_pyIter_rangeiter st h
def GB(K:Frag)(c:TE):TI:=fun Y H R=>c Y H fun x b=>∃a,x=.ref a/\(∃d,cT K b a d)/\R (tx K a) b
def GC(K:Frag)(c:TE):TI:=fun Y H R=>c Y H fun x b=>∃a,x=.ref a/\(∃d,fW K b a d)/\R (tz K a) b
theorem GD(i:PE X l g):PI X B l (GB X.K g):=by
 intro c s Y H R I h;refine aQ (i c s Y H _ I h) fun v f d=>?_;obtain⟨x,j,I1,k,m⟩:=d;obtain⟨a,e,⟨u,n⟩,q⟩:=m;subst e;cases k;obtain⟨r,w,p,y⟩:=I1.list n;refine wpAny_pyIter_list p.isList ?_;refine⟨f.heap.objs.size,[f.heap.objs.size],_,_,j,rfl,I1.kept (t':=f.toks) fun b o e=>bn _ e,Gy a _,⟨_,Heap.get?_push_size _ rfl,rfl,rfl⟩,fun b t=>?_,q⟩;have e:b=f.heap.objs.size:=by simpa using t
 subst e;exact I1.fpOk (bG _) (I1.hok.fresh (bG _))
theorem GG(j:PE X l i):PI X B l (GC X.K i):=by
 intro c s Y H R I h;refine aQ (j c s Y H _ I h) fun v d f=>?_;obtain⟨x,k,I1,m,n⟩:=f;obtain⟨a,e,⟨u,r⟩,q⟩:=n;subst e;cases m;obtain⟨g,w,p,y⟩:=I1.tuple r;refine wpAny_pyIter_tuple (show d.heap.IsTuple a g.toArray from p) ?_;refine⟨d.heap.objs.size,[d.heap.objs.size],_,_,k,rfl,I1.kept (t':=d.toks) fun b o e=>bn _ e,Gz a _,⟨_,Heap.get?_push_size _ rfl,rfl,rfl⟩,fun b t=>?_,q⟩;have e:b=d.heap.objs.size:=by simpa using t
 subst e;exact I1.fpOk (bG _) (I1.hok.fresh (bG _))
theorem GI{Y:St}{lo }(I:Inv X c Y H s)(i:-(2 ^ 62)<=lo)(j:lo<2 ^ 62)(k:-(2 ^ 62)<=a)(f:a<2 ^ 62)
  (q:R (qt lo (a - lo).toNat) H):wpAny (model X.prog X.w) X.A (pyIter (.ref s.heap.objs.size)) (xf X c Y B R) E { s with heap:=s.heap.push { cls:=.type "range",data:=.fields #[.int lo t,.int a u,.int 1 v] },toks:=d }:=by
 refine wpAny_pyIter_range (IsRange.new ..) (small_one i j k f) ?_;have I1:Inv X c Y H { s with heap:=s.heap.push { cls:=.type "range",data:=.fields #[.int lo t,.int a u,.int 1 v] },toks:=d }:=I.kept fun b o e=>bn _ e;refine⟨(s.heap.push { cls:=.type "range",data:=.fields #[.int lo t,.int a u,.int 1 v] }).objs.size,[(s.heap.push { cls:=.type "range",data:=.fields #[.int lo t,.int a u,.int 1 v] }).objs.size],_,_,H,rfl,
  I1.kept (t':=d) fun b o e=>bn _ e,GA _ lo (a - lo).toNat,?_,fun b l=>?_,q⟩
 .have g:lo+((0:Nat):Int) * 1=lo:=by simp
  have h:(((a - lo).toNat:Nat):Int) - ((0:Nat):Int)=Builtin.Range.rangeSize lo a 1:=by rw[rangeSize_one];split<;>lia
  show IsRangeIter _ _ (lo+((0:Nat):Int) * 1) ((((a - lo).toNat:Nat):Int) - ((0:Nat):Int)) 1;rw[g,h];exact Heap.get?_push_size _ rfl
 .have e:b=(s.heap.push { cls:=.type "range",data:=.fields #[.int lo t,.int a u,.int 1 v] }).objs.size:=by simpa using l
  subst e;exact I1.fpOk (bG _) (I1.hok.fresh (bG _))
def GJ(a:TA):TI:=fun Y H R=>a Y H fun b c=>∃j:Int,b=[.int j]/\-(2 ^ 62)<=j/\j<2 ^ 62/\R (qt 0 j.toNat) c
theorem GK(g:Gl X "range")(i:X.mg "range" = none)(k:PA X [a] f)(l:autoParam (starEach [a] X.env=[(false,eval a X.env)]) Zq._auto_1):PI X B (.Call (.Name "range" p) [a] [] pos) (GJ f):=by
 intro b s Y H R I h;refine Call_ (jo I g i boot_range (PyProof.Rows.callWith_type1 (aQ (k pos b s Y H _ I h) fun u v c=>?_) l rfl));obtain⟨w,x,I1,m,d⟩:=c;obtain⟨j,e,d,n,q⟩:=d;subst e;cases m with
 |cons r o=>cases o;obtain⟨t,rfl⟩:=r;exact call_range_1 (GI I1 (by lia) (by lia) d n (by simpa using q))
def GL(d:TI)(g:TG)(e:TS):TS:=fun D Y H=>d Y H fun J f=>∃W:Nat->Nat->St->Hp->Prop,(∃m,W 0 m Y f)/\∀i m Y H,W i m Y H->
 (J.stop i H/\D.nx Y H)\/(J.go i H/\∃N:St->Hp->Prop,(∀b a,N b a->∃c,c<m/\W (i+1) c b a)/\∀x a,J.yld i H x a->g x Y a fun h j=>e { D with nx:=N,ct:=N,bk:=D.nx } h j)
noncomputable def ot(a:List Addr)(h:Heap):List (Addr×Obj):=a.filterMap fun b=>(h.get? b).map fun o=>(b,o)
theorem qu(c:b∈a)(e:h.get? b=some o):(b,o)∈ot a h:=List.mem_filterMap.mpr ⟨b,c,by rw[e];rfl⟩
theorem GN(c:p∈ot a h):p.1∈a/\h.get? p.1=some p.2:=by
 obtain⟨b,hb,e⟩:=List.mem_filterMap.mp c;cases q:h.get? b with
 |none=>rw[q]at e;cases e
 |some o=>rw[q]at e;have d:(b,o)=p:=Option.some.inj e;subst d;exact⟨hb,q⟩
theorem Inv.pinned{Y:St}(I:Inv X a Y H s)(h:∀b∈c,gY X a H b)(k:∀b∈c,∃o,s.heap.get? b=some o/\∀v,o.data≠.cell v):Inv X (a++ot c s.heap) Y H s:=
 I.pins_of fun p i=>(List.mem_append.mp i).elim (fun z=>I.pin p (aT _ z)) fun z=>by obtain⟨g,e⟩:=GN z;obtain⟨j,f1,f2,_⟩:=h p.1 g;obtain⟨o,f,d⟩:=k p.1 g;rw[e]at f;cases f;exact⟨e,j,f1,f2,d⟩
theorem Inv.unpinned{Y:St}(I:Inv X (a++c) Y H s):Inv X a Y H s:=I.pins_of fun p b=>I.pin p (aT _ (aR _ b))
theorem GO(z:PassesOwn (model X.prog X.w) X.A X.env X.xe)(hc:X.calm=true)(hi:PI X B iter wi)(hg:PG X B g)(p:PSs X body tb)
  (hs:autoParam (∀x,foldedSetIterable iter X.env x=pure x) Zs._auto_1):PS X (.For B iter body [] pos) (GL wi g tb):=by
 intro a s Y H D I h;refine wpAny_For (aQ (hi a s Y H _ I h) fun v s1 h1=>aQ h1 fun a3 s2 h2=>?_) hs;obtain⟨it,C,tn,J,H2,e,I2,T,a0,f2,W,⟨m0,w0⟩,turn⟩:=h2;subst e;have c:∀{q:Hp},(∀b∈C,q b=none)->∀b∈C,gY X a q b:=fun hn b p=>⟨hn b p,(f2 b p).2⟩
 refine codeAny_forLoop_any (fun n s'=>∃i E q,Inv X a E q s'/\tn i s'.heap/\(∀b∈C,q b=none)/\W i n E q) ?_ m0 ⟨0,Y,H2,I2,a0,fun b p=>(f2 b p).1,w0⟩;rintro n s3 ⟨i,G,Z,I3,L,M,w3⟩;rcases turn i n G Z w3 with⟨stop,qn⟩ |⟨go,N,hN,step⟩
 .refine wpAny_passesOwn z (aQ (T.done X rfl rfl rfl hc i a s3 G Z X.xe I3 (c M) L stop) fun r s4 O=>?_);obtain⟨hr,I4⟩:=O;subst hr;exact wpAny_execs_nil ⟨G,Z,I4,qn⟩
 .refine wpAny_passesOwn z (aQ (T.item X rfl rfl rfl hc i a s3 G Z X.xe I3 (c M) L go) fun r s4 Q=>?_);obtain⟨u,hr,h4⟩:=Q;subst hr;refine wpAny_passesOwn z (aQ h4 fun _ s5 R=>?_);obtain⟨x,H5,I5,r5,y5,y,a1⟩:=R;have a2:=I5.pinned (c a1) (T.obj _ _ y);refine wpAny_passesOwn z (aQ (hg _ s5 G H5 x u _ a2 r5 (step x H5 y5)) fun _ s6 S=>?_);obtain⟨Y6,H6,I6,q6⟩:=S;refine wpAny_passesOwn z (aQ (p _ s6 Y6 H6 _ I6 q6) fun f s7 t=>?_);have again:∀{j:St}{k:Hp},Inv X (a++ot C s5.heap) j k s7->N j k->∃m,m<n/\∃i E q,Inv X a E q s7/\tn i s7.heap/\(∀b∈C,q b=none)/\W i m E q:=fun {j k} l U=>by obtain⟨m',hm,w7⟩:=hN j k U;refine⟨m',hm,i+1,j,k,l.unpinned,T.keep _ _ _ y fun b p o e=>(l.pin (b,o) (aT _ (aT _ (qu p e)))).1,fun b p=>?_,w7⟩;obtain⟨o,e,d⟩:=T.obj _ _ y b p;exact(l.pin (b,o) (aT _ (aT _ (qu p e)))).2.1
  cases f with
  |next=>obtain⟨j,k,l,U⟩:=t;exact again l U
  |cont=>obtain⟨j,k,l,U⟩:=t;exact again l U
  |brk=>obtain⟨j,k,l,t⟩:=t;exact⟨j,k,l.unpinned,t⟩
  |ret v=>obtain⟨x7,j,k,l,r7,t⟩:=t;exact⟨x7,j,k,l.unpinned,r7,t⟩
abbrev R2:=V->V->Hp->VK->Prop
def cU(X:Cx)(f:Value->Value->Sem Value)(r:R2):Prop:=
 ∀(a:List (Addr×Obj)) (s:Shared) (Y:St) (H:Hp) (x y:V) (v u:Value) (Q:VK),Inv X a Y H s->bq x v->bq y u->r x y H Q->
  wpAny (model X.prog X.w) X.A (f v u) (EP X a Y Q) X.xe s
def tE(X:Cx)(f:Value->Sem Value)(r:V->Hp->VK->Prop):Prop:=
 ∀(a:List (Addr×Obj)) (s:Shared) (Y:St) (H:Hp) (x:V) (v:Value) (Q:VK),Inv X a Y H s->bq x v->r x H Q->
  wpAny (model X.prog X.w) X.A (f v) (EP X a Y Q) X.xe s
def gZ(X:Cx)(f:Value)(r:List V->Hp->VK->Prop):Prop:=
 ∀(a:List (Addr×Obj)) (s:Shared) (Y:St) (H:Hp) (b:List V) (c:List Value) (Q:VK),Inv X a Y H s->bi b c->r b H Q->
  wpAny (model X.prog X.w) X.A (call f c) (EP X a Y Q) X.xe s
def ou(r:R2)(a b:TE):TE:=fun Y H Q=>a Y H fun x c=>b Y c fun y d=>r x y d Q
def GP(r:V->Hp->VK->Prop)(a:TE):TE:=fun Y H Q=>a Y H fun x b=>r x b Q
def rI(C:Int->Int->Prop)(g:Int->Int->V):R2:=fun x y H Q=>∃i j,x=.int i/\y=.int j/\C i j/\Q (g i j) H
def iI(g:Int->Int->V):R2:=fun x y H Q=>∃i j,x=.int i/\y=.int j/\Q (g i j) H
def rU(g:Int->V):V->Hp->VK->Prop:=fun x H Q=>∃i,x=.int i/\Q (g i) H
theorem tF(j:PE X a D)(C:PE X b z){Y:St}{R:V->V->Hp->Prop}(I:Inv X d Y H s)
  (h:D Y H fun x i=>z Y i fun y e=>R x y e) {f:Value->Value->Sem Value}
  (k:∀v u g x y e,Inv X d Y e g->bq x v->bq y u->R x y e->wpAny (model X.prog X.w) X.A (f v u) Q X.xe g) :
  wpAny (model X.prog X.w) X.A (eval a X.env) (fun v l=>wpAny (model X.prog X.w) X.A (eval b X.env) (fun u m=>wpAny (model X.prog X.w) X.A (f v u) Q X.xe m) X.xe l) X.xe s:=by
 refine aQ (j d s Y H _ I h) fun v n ⟨x,i,I1,o,q⟩=>?_;refine aQ (C d n Y i _ I1 q) fun u g ⟨y,e,r,t,B⟩=>?_;exact k v u g x y e r o t B
theorem GQ(l:cU X (binaryOp op) r)(e:PE X a D)(m:PE X b z):PE X (.BinOp a op b pos) (ou r D z):=by intro d s Y H Q I h;exact wpAny_BinOp (tF e m I h fun v u f x y g i j k q=>l d f Y g x y v u Q i j k q)
theorem GR(l:tE X (unaryOp op) r)(f:PE X a D):PE X (.UnaryOp op a pos) (GP r D):=by intro d s Y H Q I h;exact UnaryOp_ (aQ (f d s Y H _ I h) fun v g e=>by obtain⟨x,i,I1,j,k⟩:=e;exact l d g Y i x v Q I1 j k)
theorem tG{g:Int->Int->Int}
  (rule:∀i j  t u  s  Q  E,C i j->Q (.int (g i j) s.toks) { s with toks:=s.toks+1 }->wpAny (model X.prog X.w) X.A (f (.int i t) (.int j u)) Q E s) :
  cU X f (rI C fun i j=>.int (g i j)):=by
 intro d s Y H x y v u Q I e k h;obtain⟨i,j,rfl,rfl,l,q⟩:=h;obtain⟨t,rfl⟩:=e;obtain⟨t',rfl⟩:=k;exact rule i j t t' s _ _ l ⟨.int (g i j),H,I.tok _,⟨_,rfl⟩,q⟩
theorem xg{g:Int->Int->Int}
  (rule:∀i j  t u  s  Q  E,Q (.int (g i j) s.toks) { s with toks:=s.toks+1 }->wpAny (model X.prog X.w) X.A (f (.int i t) (.int j u)) Q E s) :
  cU X f (iI fun i j=>.int (g i j)):=by
 intro d s Y H x y v u Q I e k h;obtain⟨i,j,rfl,rfl,q⟩:=h;obtain⟨t,rfl⟩:=e;obtain⟨t',rfl⟩:=k;exact rule i j t t' s _ _ ⟨.int (g i j),H,I.tok _,⟨_,rfl⟩,q⟩
theorem tH{g:Int->Int->Bool}
  (rule:∀i j  t u  s  Q  E,Q (.bool (g i j)) s->wpAny (model X.prog X.w) X.A (f (.int i t) (.int j u)) Q E s) :
  cU X f (iI fun i j=>.bl (g i j)):=by
 intro d s Y H x y v u Q I e k h;obtain⟨i,j,rfl,rfl,q⟩:=h;obtain⟨t,rfl⟩:=e;obtain⟨t',rfl⟩:=k;exact rule i j t t' s _ _ ⟨.bl (g i j),H,I,rfl,q⟩
def tI(i j:Int):Prop:=0<j/\j<1073741824
def ow(i j:Int):Prop:=(-(2 ^ 64)<i/\i<2 ^ 64)\/(-(2 ^ 64)<j/\j<2 ^ 64)
theorem ow.ok(h:ow i j):IntMulOk i j:=by
 rcases h with⟨h1,h2⟩ |⟨h1,h2⟩
 .exact .of_left (intBits_le_64 h1 h2)
 .exact .of_right (intBits_le_64 h1 h2)
theorem GS:cU X (binaryOp .Add) (iI fun i j=>.int (i+j)):=xg fun _ _ _ _ _ _ _ q=>add_int q
theorem GU:cU X (binaryOp .Sub) (iI fun i j=>.int (i - j)):=xg fun _ _ _ _ _ _ _ q=>sub_int q
theorem GV:cU X (binaryOp .Mult) (rI ow fun i j=>.int (i * j)):=tG fun _ _ _ _ _ _ _ d q=>mul_int q d.ok
theorem GW:cU X (binaryOp .FloorDiv) (rI tI fun i j=>.int (i / j)):=tG fun i j _ _ _ _ _ d q=>by have h1:(0:Int)<j:=d.1;have h2:j<1073741824:=d.2;exact floordiv_int (by lia) (by rw[Int.fdiv_eq_ediv_of_nonneg i (by lia)];exact q) (.inl (PyProof.noPylong_small (by lia)))
theorem GX:cU X (binaryOp .Mod) (rI (fun _ j=>0<j) fun i j=>.int (i % j)):=tG fun i j _ _ _ _ _ d q=>by have h1:(0:Int)<j:=d;exact mod_int' (by lia) (by rw[Int.fmod_eq_emod_of_nonneg i (by lia)];exact q)
theorem GY{g:Int->Int}
  (rule:∀i  t  s  Q  E,Q (.int (g i) s.toks) { s with toks:=s.toks+1 }->wpAny (model X.prog X.w) X.A (f (.int i t)) Q E s) :
  tE X f (rU fun i=>.int (g i)):=by
 intro d s Y H x v Q I e h;obtain⟨i,rfl,q⟩:=h;obtain⟨t,rfl⟩:=e;exact rule i t s _ _ ⟨.int (g i),H,I.tok _,⟨_,rfl⟩,q⟩
theorem GZ:tE X (unaryOp .USub) (rU fun i=>.int (-i)):=GY fun _ _ _ _ _ q=>neg_int q
theorem xh{Y:St}(I:Inv X d Y H s)(q:Q (.bl k) H)(e:k=f):EP X d Y Q (.bool f) s:=by subst e;exact⟨.bl k,H,I,rfl,q⟩
theorem xi:cU X (compareOp .Lt) (iI fun i j=>.bl (decide (i<j))):=tH fun _ _ _ _ _ _ _ q=>lt_int q
theorem qv:cU X (compareOp .LtE) (iI fun i j=>.bl (decide (i<=j))):=tH fun _ _ _ _ _ _ _ q=>le_int q
theorem xj:cU X (compareOp .Gt) (iI fun i j=>.bl (decide (j<i))):=tH fun _ _ _ _ _ _ _ q=>gt_int q
theorem xk:cU X (compareOp .Is) (fun x y H Q=>y=.non/\Q (.bl (decide (x=.non))) H):=by
 intro d s Y H x y v u Q I e f h;obtain⟨rfl,q⟩:=h;cases f;refine is_none_gen (xh I q ?_);cases x<;>first
  |(cases e;rfl)
  |(obtain⟨t,rfl⟩:=e;rfl)
theorem xl:cU X (compareOp .IsNot) (fun x y H Q=>y=.non/\Q (.bl (!decide (x=.non))) H):=by
 intro d s Y H x y v u Q I e f h;obtain⟨rfl,q⟩:=h;cases f;refine isnot_none_gen (xh I q ?_);cases x<;>first
  |(cases e;rfl)
  |(obtain⟨t,rfl⟩:=e;rfl)
theorem bz(b)(h:autoParam (op≠.In) Zr._auto_1)(f:autoParam (op≠.NotIn) Zr._auto_1):behindInMarks op b=false:=by
 have d:(op==CmpOp.In)=false:=by cases op<;>first |rfl |exact absurd rfl h
 have e:(op==CmpOp.NotIn)=false:=by cases op<;>first |rfl |exact absurd rfl f
 cases b<;>simp[behindInMarks,d,e]
theorem Ha(o:cU X (compareOp op) r)(e:PE X a A)(p:PE X b n)(f:behindInMarks op b=false):PE X (.Compare a [op] [b] pos) (ou r A n):=by intro d s Y H Q I h;exact wpAny_Compare1 (tF e p I h fun v u g x y i j k l q=>o d g Y i x y v u Q j k l q) f
def Hb(t:TE):TT:=fun Y H Q=>t Y H fun x d=>∃k,x=.bl k/\Q k d
theorem xm(J:cU X (compareOp op) r)(f:PE X a A)(L:PE X b n)(g:behindInMarks op b=false):PT X (.Compare a [op] [b] pos) (Hb (ou r A n)):=by
 intro d s Y H Q I h;refine wpAny_isTrue_Compare1 (aQ (f d s Y H _ I h) fun v i ⟨x,j,I1,l,o⟩=>aQ (L d i Y j _ I1 o) fun u p ⟨y,q,t,w,B⟩=>
  aQ (J d p Y q x y v u _ t l w B) fun c M ⟨z,C,D,E,k,e,G⟩=>?_) g
 subst e;cases E;exact wpAny_truthy_bool ⟨C,D,G⟩
def Hc(r e:R2)(A n m:TE):TE:=fun Y H Q=>A Y H fun x f=>n Y f fun y g=>r x y g fun z d=>∃k,z=.bl k/\
 (if k=true then m Y d fun h i=>e y h i Q else Q (.bl false) d)
theorem Hd(ho:cU X (compareOp op) r)(i:cU X (compareOp g) j)(t:PE X a A)(hb:PE X b n)(w:PE X c m)
  (B:lastMarks [op,g] [b,c]=false:=by with_unfolding_all rfl):PE X (.Compare a [op,g] [b,c] pos) (Hc r j A n m):=by
 intro f s Y H Q I h;refine Compare_chain (aQ (t f s Y H _ I h) fun v C ⟨x,D,I1,E,G⟩=>chain_link (aQ (hb f C Y D _ I1 G) fun u J ⟨y,L,M,l,N⟩=>
  aQ (ho f J Y L x y v u _ M E l N) fun d O ⟨z,o,p,R,k,e,q⟩=>?_)) B
 subst e;cases R;refine wpAny_truthy_bool ?_;cases k with
 |false=>exact ite_ff ⟨.bl false,o,p,rfl,q⟩
 |true=>exact ite_tt (chain_last (aQ (w f O Y o _ p q) fun S T ⟨z',U,Z,r4,q4⟩=>i f T Y U y z' u S Q Z l r4 q4))
theorem eE:(sizeLine:Nat)<2 ^ 63:=by rw[sizeLine_eq];decide
theorem di(r:bi [x] d):∃u,d=[u]/\bq x u:=by
 cases r with
 |cons e f=>cases f;exact⟨_,rfl,e⟩
theorem fX(r:bi [x,y] d):∃u e,d=[u,e]/\bq x u/\bq y e:=by
 cases r with
 |cons f g=>
  cases g with
  |cons h i=>cases i;exact⟨_,_,rfl,f,h⟩
theorem tK(g:X.calm=true):gZ X (.builtin "max") (fun e H Q=>∃i j,e=[.int i,.int j]/\Q (.int (if j>i then j else i)) H):=by
 intro f s Y H e l Q I r h;obtain⟨i,j,rfl,q⟩:=h;obtain⟨u,o,rfl,⟨t,rfl⟩,⟨t',rfl⟩⟩:=fX r;refine max_two_ints (I.ok.hd g) fun p v k=>⟨_,H,I.kept k,?_,q⟩
 by_cases d:j>i
 .rw[if_pos d,if_pos d];exact⟨_,rfl⟩
 .rw[if_neg d,if_neg d];exact⟨_,rfl⟩
structure fK (h:Heap) (x dx C:Addr) (mA:Str->Option Value):Prop where
 obj:h.get? x=some (instObj C dx)
 ns:h.Ns1 dx mA
 ne:dx≠x
theorem He{h:Heap}(n:h.Ns1 c d):∃f,h.get? c=some f/\∀name,PySem.W.lookIn name f=some (d name):=by
 obtain⟨o,g,m,ho,hd,i,_,j⟩:=n;refine⟨o,ho,fun name=>?_⟩;have e:=j name;unfold nsFind findBy at e;rw[<-Array.find?_toList]at e;unfold PySem.W.lookIn;rw[hd];dsimp only;split
 .rename_i y q;rw[q]at e;exact congrArg some e
 .rename_i q;rw[q]at e;have a:g.toList.any (·.refKey)=false:=by rw[List.any_eq_false];intro y k;obtain⟨z,t,b⟩:=i y (Array.mem_toList_iff.mp k);simp[DictEntry.refKey,b]
  have l:¬ g.toList.any (·.refKey)=true:=by rw[a];exact Bool.false_ne_true
  rw[if_neg l];exact congrArg some e
theorem fK.look(I:fK h x b C c):∃a,PySem.W.InstAt h x (instObj C b) C (some a)/\∀name,PySem.W.lookIn name a=some (c name):=
 let⟨a,ho,d⟩:=He I.ns
 ⟨a,⟨I.obj,rfl,rfl,ho⟩,d⟩
theorem Hf{K:Frag}(X:K.In s.heap)(I:fK s.heap x q C l)(b:plainGet K C name=true)(g:PySem.W.hasDictIn K C=true)
  (c:findIn K (.ref C) name=some none) (d:l name=some v) (a:PySem.W.handedIn v=true) (h:Q v { s with toks:=s.toks+1 }) :
  wpAny (model prog w) A (getAttr (.ref x) name expr) Q E s:=by
 obtain⟨i,J,e⟩:=I.look;exact PySem.W.get_value X J (PySem.W.plainGet_of b).1 (PySem.W.findObj_own g c rfl (by rw[e,d])) a h
theorem Hg{K:Frag}(X:K.In s.heap)(I:fK s.heap x q C l)(a:plainGet K C name=true)
  (b:findIn K (.ref C) name=some (some (.ref f))) (c:PySem.W.isFn K (.ref f)=true) (d:l name=none) (h:Q (.ref f,[.ref x]) s) :
  wpAny (model prog w) A (getMethod (.ref x) name i) Q E s:=by
 obtain⟨e,J,g⟩:=I.look;exact PySem.W.method_fn X J (PySem.W.plainGet_of a).1 (PySem.W.plainGet_of a).2 b (beq_iff_eq.mp c) (by show(PySem.W.lookIn name e).map (·.isSome)=some false;rw[g,d];rfl) h
theorem Hh{K:Frag}(X:K.In s.heap)(I:fK s.heap x q C l)
  (n:findIn K (.ref C) "__setattr__" = some (some (.builtin "object.__setattr__"))) (o:PySem.W.plainOver K C=true) (p:PySem.W.takerIn K C name=some none) (H:PySem.W.hasDictIn K C=true)
  (t:PySem.Within l m) (u:m.length<=sizeLine)
  (h:∀e,fK e x q C (fun y=>if y=name then some v else l y)->Heap.SameBut q s.heap e->Q () { s with heap:=e,toks:=s.toks+2 }) :
  wpAny (model prog w) A (setAttr (.ref x) name v) Q E s:=by
 obtain⟨L,J,M⟩:=I.look;refine PySem.W.set_plain X J n (PySem.W.osa_open (s:={ s with toks:=s.toks+1 }) (r:=none) X J o p fun b=>?_);obtain⟨N,z,g⟩:=PySem.W.any_some H;have B:s.heap.get? x=some ⟨.ref C,some q,.plain,#[]⟩:=I.obj;refine aj (bd (aj (aj (wpAny_loadPart B (aj (PySem.W.Looks.here (s:={ s with toks:=s.toks+1 }) (PySem.W.looks_clsIn X z) ?_))))));rw[g];refine bd (a:=some q) (aj (bd (aj ?_)));refine wpAny_nsSet1 (s:={ s with toks:=s.toks+1 }) I.ns fun e c d=>?_;obtain⟨O,D,G,i,j,k⟩:=c.count (PySem.Within.cons name v t);refine aj (wpAny_lookBehind i (by rw[j];exact pastItsLine_dict (Nat.le_trans k (by rw[List.length_cons];lia))) ?_);exact bd (h _ ⟨(d.2 _ (Ne.symm I.ne)).trans I.obj,c,I.ne⟩ d)
theorem Hi{s:Shared}{K:Frag}(X:K.In s.heap)(c:PySem.W.makesIn K C=true)
  (e:findIn K (.ref C) "__init__" = some (some (.ref f))) (i:PySem.W.typeIn K (.ref f)=some (.type "function"))
  (h:codeAny (model prog w) (A.under (.builtin "type.__call__" ⟨.ref C::a,b⟩)) (.call (.ref f) ⟨.ref (s.heap.objs.size+1)::a,b⟩) (PySem.W.InitBack (s.heap.objs.size+1) R)
   { s with heap:=(s.heap.push emptyDict).push (instObj C s.heap.objs.size) }) :
  codeAny (model prog w) A (.call (.ref C) ⟨a,b⟩) R s:=by
 obtain⟨j,g,d,t,os⟩:=s;exact PySem.W.make_core (PySem.W.makes_of X c) (PySem.W.looks_findIn X e) (fun self=>PySem.W.bind_fn X self i) (.inl rfl) h
noncomputable def cM(f:Str)(v:V):List (Str×V)->List (Str×V)
 |[]=>[(f,v)]
 |(g,x)::r=>if g=f then(g,v)::r else(g,x)::cM f v r
theorem xn(f g v):∀fs,(cM f v fs).lookup g=if g=f then some v else fs.lookup g
 |[]=>by
  show List.lookup g [(f,v)]=_
  by_cases h:g=f
  .have hb:(g==f)=true:=beq_iff_eq.mpr h;simp only[List.lookup,hb,if_pos h]
  .have hb:(g==f)=false:=beq_eq_false_iff_ne.mpr h;simp only[List.lookup,hb,if_neg h]
 | (k,x)::r=>by
  have b:=xn f g v r;rw[show cM f v ((k,x)::r)=(if k=f then(k,v)::r else(k,x)::cM f v r) from rfl]
  by_cases a:k=f
  .rw[if_pos a]
   by_cases h:g=k
   .have hb:(g==k)=true:=beq_iff_eq.mpr h;simp only[List.lookup,hb,if_pos (h.trans a)]
   .have hb:(g==k)=false:=beq_eq_false_iff_ne.mpr h;simp only[List.lookup,hb,if_neg (fun e:g=f=>h (e.trans a.symm))]
  .rw[if_neg a]
   by_cases h:g=k
   .have hb:(g==k)=true:=beq_iff_eq.mpr h;simp only[List.lookup,hb,if_neg (fun e:g=f=>a (h.symm.trans e))]
   .have hb:(g==k)=false:=beq_eq_false_iff_ne.mpr h;simp only[List.lookup,hb];exact b
theorem tL(f v):∀fs,f∈(cM f v fs).map (·.1)/\∀g,g∈fs.map (·.1)->g∈(cM f v fs).map (·.1)
 |[]=>⟨by simp[cM],fun g h=>by simp at h⟩
 | (k,x)::r=>by
  obtain⟨b,c⟩:=tL f v r;rw[show cM f v ((k,x)::r)=(if k=f then(k,v)::r else(k,x)::cM f v r) from rfl]
  by_cases a:k=f
  .rw[if_pos a];subst a;exact⟨by simp,fun g h=>by simpa using h⟩
  .rw[if_neg a];refine⟨?_,fun g h=>?_⟩
   .rw[List.map_cons];exact bC _ b
   .rw[List.map_cons]at h ⊢;rcases List.mem_cons.mp h with e |e
    .exact List.mem_cons.mpr (.inl e)
    .exact bC _ (c g e)
theorem xo(f v):∀fs,(cM f v fs).length<=fs.length+1
 |[]=>by simp[cM]
 | (k,x)::r=>by
  have b:=xo f v r;rw[show cM f v ((k,x)::r)=(if k=f then(k,v)::r else(k,x)::cM f v r) from rfl]
  by_cases a:k=f
  .rw[if_pos a,List.length_cons,List.length_cons];lia
  .rw[if_neg a,List.length_cons,List.length_cons];lia
theorem gx.some_of(r:gx (some v) o):∃u,o=some u/\bq v u:=by
 cases o with
 |none=>exact(show False from r).elim
 |some u=>exact⟨u,rfl,r⟩
theorem gx.none_of(r:gx none o):o=none:=by
 cases o with
 |none=>rfl
 |some u=>exact(show False from r).elim
theorem Hj(r:bq v u):PySem.W.handedIn u=true:=by
 cases v with
 |non=>cases(show u=Value.none from r);rfl
 |bl b=>cases(show u=Value.bool b from r);rfl
 |int i=>obtain⟨t,e⟩:=(show ∃t,u=Value.int i t from r);cases e;rfl
 |str x=>obtain⟨t,e⟩:=(show ∃t,u=Value.str x t from r);cases e;rfl
 |byt b=>obtain⟨t,e⟩:=(show ∃t,u=Value.bytes b t from r);cases e;rfl
 |flt b=>obtain⟨t,e⟩:=(show ∃t,u=Value.float b t from r);cases e;rfl
 |ref a=>cases(show u=Value.ref a from r);rfl
 |ty n=>cases(show u=Value.type n from r);rfl
theorem qw(c:bH P w H h)(e:H a=some (.ins C I fs)):∃b,fK h a I C b/\(∀f,gx (fs.lookup f) (b f))/\PySem.Within b (fs.map (·.1))/\fs.length<=1000/\H I=some (.own a):=by
 obtain⟨d,z,ne,ob,b,n,r,q⟩:=(show cI P w H h a (.ins C I fs) from c a _ e)
 exact⟨b,⟨ob,n,ne⟩,r,q,z,d⟩
structure cF (K:Frag) (C:Addr):Prop where
 pg:plainGet K C Str.empty=true
 hd:PySem.W.hasDictIn K C=true
 po:PySem.W.plainOver K C=true
 sa:findIn K (.ref C) "__setattr__" = some (some (.builtin "object.__setattr__"))
theorem cF.get{K}(c:cF K C)(f):plainGet K C f=true:=c.pg
def cG(K:Frag)(C:Addr)(f:Str):Prop:=findIn K (.ref C) f=some none
theorem cG.taker{K}(n:cG K C f):PySem.W.takerIn K C f=some none:=by unfold PySem.W.takerIn;rw[show findIn K (.ref C) f=some none from n];rfl
structure gA (K:Frag) (C:Addr) (m:Str) (f:Addr):Prop where
 at_:findIn K (.ref C) m=some (some (.ref f))
 fn:PySem.W.isFn K (.ref f)=true
 kp:keepIn K (.ref f)=true
theorem xp{Y:St}(I:Inv X i Y H s)(e:H a=some (.ins C d fs))(c:cF X.K C)(n:cG X.K C f)(l:fs.lookup f=some v)
  (h:∀u g,Inv X i Y H g->bq v u->Q u g):wpAny (model X.prog X.w) A (getAttr (.ref a) f b) Q E s:=by
 obtain⟨j,O,r,_,_,_⟩:=qw I.hok e;obtain⟨u,k,ru⟩:=gx.some_of (v:=v) (o:=j f) (by rw[<-l];exact r f);exact Hf I.kIn O (c.get f) c.hd n k (Hj ru) (h u _ (I.tok _) ru)
theorem tM{Y:St}(I:Inv X i Y H s)(e:H a=some (.ins C d fs))(c:cF X.K C)(k:gA X.K C m g)(l:fs.lookup m=none)
  (h:Q (.ref g,[.ref a]) s):wpAny (model X.prog X.w) A (getMethod (.ref a) m n) Q E s:=by
 obtain⟨b,O,r,_,_,_⟩:=qw I.hok e;have j:b m=none:=gx.none_of (by rw[<-l];exact r m);exact Hg I.kIn O (c.get m) k.at_ k.fn j h
theorem xq{Y:St}(I:Inv X i Y H s)(e:H a=some (.ins C d fs))(c:cF X.K C)(n:cG X.K C f)(N:fs.length<1000)(t:bq y u)
  (h:∀k,Inv X i Y (aB H a (.ins C d (cM f y fs))) k->Q () k):wpAny (model X.prog X.w) A (setAttr (.ref a) f u) Q E s:=by
 obtain⟨l,O,r,m,_,p⟩:=qw I.hok e;have B:(fs.map (·.1)).length<=sizeLine:=by rw[List.length_map,sizeLine_eq];lia
 refine Hh I.kIn O c.sa c.po n.taker c.hd m B fun D j G=>h _ ?_;have hd:∃o,D.get? d=some o:=let⟨o,_,_,J,_⟩:=j.ns;⟨o,J⟩;refine I.write (x:=a) (e:=d) (by rw[e];exact True.intro) (.inr p) (fun b q M z=>(G.2 b M).trans z) hd ?_;refine⟨by rw[aV O.ne];exact p,?_,O.ne,j.obj,_,j.ns,fun g=>?_,fun g L=>?_⟩
 .have:=xo f y fs;lia
 .show gx ((cM f y fs).lookup g) (if g=f then some u else l g);rw[xn]
  by_cases q:g=f
  .rw[if_pos q,if_pos q];exact t
  .rw[if_neg q,if_neg q];exact r g
 .by_cases q:g=f
  .rw[q];exact(tL f y fs).1
  .refine(tL f y fs).2 g (m g fun z=>L ?_);show(if g=f then some u else l g)=none;rw[if_neg q];exact z
theorem Inv.made{Y:St}(I:Inv X i Y H s):Inv X i Y (aB (aB H s.heap.objs.size (.own (s.heap.objs.size+1))) (s.heap.objs.size+1) (.ins C s.heap.objs.size []))
  { s with heap:=(s.heap.push emptyDict).push (instObj C s.heap.objs.size) }:=by
 have c:(s.heap.push emptyDict).get? s.heap.objs.size=some emptyDict:=Heap.get?_push_size s.heap rfl;have g:((s.heap.push emptyDict).push (instObj C s.heap.objs.size)).get? (s.heap.objs.size+1)=some (instObj C s.heap.objs.size):=by
  have:=Heap.get?_push_size (s.heap.push emptyDict) (o:=instObj C s.heap.objs.size) rfl
  rwa [Heap.size_push]at this
 have h:(s.heap.push emptyDict).Ns s.heap.objs.size (fun _=>none):=⟨emptyDict,#[],_,c,rfl,(fun e j=>absurd j (by simp)),fun _=>rfl⟩
 have I1:=I.laid (a:=s.heap.objs.size) (o:=.own (s.heap.objs.size+1)) (h':=s.heap.push emptyDict) (t':=s.toks) (fun b u q=>bn _ q) (bG _) ⟨_,c⟩;refine I1.laid (a:=s.heap.objs.size+1) (o:=.ins C s.heap.objs.size []) (t':=s.toks) (fun b u q=>bn _ q) (Nat.le_of_eq (Heap.size_push _ _)) ?_;have ne:s.heap.objs.size≠s.heap.objs.size+1:=Nat.ne_of_lt (Nat.lt_succ_self _);refine⟨by rw[aV ne,bP],Nat.zero_le _,ne,g,fun _=>none,(Heap.Ns1.of_empty h).at fun o q=>bn _ q,fun _=>True.intro,fun y k=>absurd rfl k⟩
theorem Hk(j:attributeBase e f c (eval e c)=eval e c)
  (h:wpAny (model b w) A (eval e c) (fun o g=>wpAny (model b w) A (getAttr o f true) Q E g) E s):wpAny (model b w) A (eval (.Attribute e f pos) c) Q E s:=
 Attribute_any_ h (by rw[arm_eval_Attribute,j])
def Hm(K:Frag)(c:TE)(f:Str):TE:=fun Y H Q=>c Y H fun x b=>∃a C d fs v,x=.ref a/\b a=some (.ins C d fs)/\cF K C/\cG K C f/\fs.lookup f=some v/\Q v b
def Hn(K:Frag)(d e:TE)(f:Str):TS:=fun D Y H=>e Y H fun y g=>d Y g fun x b=>∃a C c fs,x=.ref a/\b a=some (.ins C c fs)/\cF K C/\cG K C f/\fs.length<1000/\
 D.nx Y (aB b a (.ins C c (cM f y fs)))
def xr(X:Cx)(op:Operator)(rd:V->V->Hp->VK->Prop):Prop:=
 ∀(a:List (Addr×Obj)) (s:Shared) (Y:St) (H:Hp) (x y:V) (u v:Value) (Q:VK),Inv X a Y H s->bq x u->bq y v->rd x y H Q->wpAny (model X.prog X.w) X.A (inplaceOp op u v) (EP X a Y Q) X.xe s
def Ho(K:Frag)(g h:TE)(rd:V->V->Hp->VK->Prop)(f:Str):TS:=fun D Y H=>g Y H fun x d=>∃a C i fs v,x=.ref a/\d a=some (.ins C i fs)/\cF K C/\cG K C f/\fs.lookup f=some v/\
 h Y d fun y j=>rd v y j fun z e=>∃c b,e a=some (.ins C c b)/\b.length<1000/\D.nx Y (aB e a (.ins C c (cM f z b)))
theorem iJ(i:PE X e g)(t:attributeBase e f X.env (eval e X.env)=eval e X.env):PE X (.Attribute e f pos) (Hm X.K g f):=by intro b s Y H Q I h;refine Hk t (aQ (i b s Y H _ I h) fun u w d=>?_);obtain⟨x,j,I1,k,a,C,y,fs,v,ex,m,c,n,l,q⟩:=d;subst ex;obtain rfl:u=Value.ref a:=k;exact xp I1 m c n l fun z A p ru=>⟨v,j,p,ru,q⟩
theorem qx(i:PE X o g)(j:PE X value tv)(k:swapsWith value (some (.Attribute o f r)) pos.line X.env=pure false):PS X (.Assign [.Attribute o f r] value pos) (Hn X.K g tv f):=by intro b s Y H D I h;refine plainObj_wpAny_Assign_Attribute (aQ (j b s Y H _ I h) fun u m ⟨y,p,I1,t,q⟩=>aQ (i b m Y p _ I1 q) fun v G d=>?_) k;obtain⟨x,J,w,z,a,C,L,fs,ex,A,c,n,l,B⟩:=d;subst ex;obtain rfl:v=Value.ref a:=z;exact xq w A c n l t fun M E=>⟨Y,_,E,B⟩
theorem Hq(m:PE X o g)(p:PE X value tv)(j:xr X op rd):PS X (.AugAssign (.Attribute o f tpos) op value pos) (Ho X.K g tv rd f):=by intro b s Y H D I h;refine wpAny_AugAssign_AttributeAny (aQ (m b s Y H _ I h) fun t s1 d=>?_);obtain⟨x,w,I1,A,a,C,dx,fs,v,ex,B,c,n,l,q⟩:=d;subst ex;obtain rfl:t=Value.ref a:=A;refine xp I1 B c n l fun u E G ru=>aQ (p b E Y w _ G q) fun J L ⟨y,M,N,O,Q⟩=>aQ (j b L Y M v y u J _ N ru O Q) fun w4 s4 i=>?_;obtain⟨z,H3,R,S,T,U,k,Z,q4⟩:=i;exact xq R k c n Z S fun s5 I5=>⟨Y,_,I5,q4⟩
def Hr:V->V->Hp->VK->Prop:=fun x y H Q=>∃i j,x=.int i/\y=.int j/\Q (.int (i+j)) H
theorem Hs:xr X .Add Hr:=by
 rintro a s Y H x y u v Q I b c ⟨i,j,rfl,rfl,q⟩;obtain⟨t,rfl⟩:=(show ∃t,u=Value.int i t from b)
 obtain⟨t',rfl⟩:=(show ∃t',v=Value.int j t' from c)
 exact PyProof.Rows.iadd_int ⟨.int (i+j),H,I.tok _,⟨_,rfl⟩,q⟩
inductive dA (K:Frag) (H:Hp):V->Value->Prop where
 |non:dA K H .non (.type "NoneType")
 |bl (x:Bool):dA K H (.bl x) (.type "bool")
 |int (i:Int):dA K H (.int i) (.type "int")
 |str (x:Str):dA K H (.str x) (.type "str")
 |flt (x:UInt64):dA K H (.flt x) (.type "float")
 |lst {a:Addr}{xs:List V}(e:H a=some (.lst xs)):dA K H (.ref a) (.type "list")
 |frz {a:Addr}{o:Obj}{xs:List V}(e:H a=some (.frz o (.lst xs))):dA K H (.ref a) (.type "list")
 |tup {a:Addr}{xs:List V}(e:H a=some (.tup xs)):dA K H (.ref a) (.type "tuple")
 |dK {a:Addr}{kvs:List (bf×V)}(e:H a=some (.dK kvs)):dA K H (.ref a) (.type "dict")
 |dT {a:Addr}{kvs:List (List bf×V)}(e:H a=some (.dT kvs)):dA K H (.ref a) (.type "dict")
 |ins {a C dx:Addr}{fs:List (Str×V)}(e:H a=some (.ins C dx fs)) (cl:cF K C) (ha:findIn K (.ref C) "__class__" = some (some (.builtin "object.__class__")))
   (hn:PySem.W.specialIn K (.builtin "object.__class__") "__get__" = some (some (.builtin "getset_descriptor.__get__"))) (htk:PySem.W.takesIn K (.builtin "object.__class__")=some true)
   (hm:mroIn K C (.type "object")=some true):dA K H (.ref a) (.ref C)
theorem ox{Y:St}(I:Inv X pins Y H s)(d:bq x u)(G:dA X.K H x t)(e:kitOne X.K t c=some b)(h:∀l,Q (.bool b) { s with toks:=l }) :
  wpAny (model X.prog X.w) A (call (.builtin "isinstance") [u,c]) Q E s:=by
 cases G with
 |non=>cases(show u=Value.none from d);exact kia_one PySem.W.kitx_none I.kIn True.intro e (fun z=>nomatch z) h
 |bl y=>cases(show u=Value.bool y from d);exact kia_one PySem.W.kitx_bool I.kIn True.intro e (fun z=>nomatch z) h
 |int i=>obtain⟨t,q⟩:=(show ∃t,u=Value.int i t from d);cases q;exact kia_one PySem.W.kitx_int I.kIn True.intro e (fun z=>nomatch z) h
 |str y=>obtain⟨t,q⟩:=(show ∃t,u=Value.str y t from d);cases q;exact kia_one PySem.W.kitx_str I.kIn True.intro e (fun z=>nomatch z) h
 |flt y=>obtain⟨t,q⟩:=(show ∃t,u=Value.float y t from d);cases q;exact kia_one PySem.W.kitx_float I.kIn True.intro e (fun z=>nomatch z) h
 | @lst a j f=>
  cases(show u=Value.ref a from d);obtain⟨_,_,n,_,h1⟩:=(show cI X.prog X.w H s.heap a (.lst j) from I.hok a _ f)
  exact kia_one PySem.W.kitx_list I.kIn ⟨_,h1,rfl⟩ e (fun z=>nomatch z) h
 | @frz a ob j f=>
  cases(show u=Value.ref a from d);obtain⟨_,_,_,n,_,h1⟩:=(show cI X.prog X.w H s.heap a (.frz ob (.lst j)) from I.hok a _ f)
  exact kia_one PySem.W.kitx_list I.kIn ⟨_,h1,rfl⟩ e (fun z=>nomatch z) h
 | @tup a j f=>
  cases(show u=Value.ref a from d);obtain⟨_,_,_,p⟩:=(show cI X.prog X.w H s.heap a (.tup j) from I.hok a _ f)
  obtain⟨o,h1,h2,_⟩:=p;exact kia_one PySem.W.kitx_tuple I.kIn ⟨o,h1,h2⟩ e (fun z=>nomatch z) h
 | @dK a g f=>
  cases(show u=Value.ref a from d);obtain⟨_,_,L,_,p⟩:=(show cI X.prog X.w H s.heap a (.dK g) from I.hok a _ f)
  obtain⟨o,m,r,h1,h2,_⟩:=p;exact kia_one PySem.W.kitx_dict I.kIn ⟨o,h1,h2.1⟩ e (fun z=>nomatch z) h
 | @dT a g f=>
  cases(show u=Value.ref a from d);obtain⟨_,_,j,_,o,m,r,h1,h2,_⟩:=(show cI X.prog X.w H s.heap a (.dT g) from I.hok a _ f)
  exact kia_one PySem.W.kitx_dict I.kIn ⟨o,h1,h2.1⟩ e (fun z=>nomatch z) h
 | @ins a C M fs f cl v B k D=>cases(show u=Value.ref a from d);obtain⟨N,O,_⟩:=qw I.hok f;obtain⟨R,J,_⟩:=O.look;exact kia_one (PySem.W.kitx_own (cl.get _) cl.hd v B k D) I.kIn J e (fun z=>nomatch z) h
structure ba (k:Nat) (A:Around):Prop where
 hd:A.handled=none
 dp:A.depth+3 * k+5<recursionLimit
 un:A.units+16 * k+200<cLine
theorem ba.mono(r:ba k A)(h:j<=k):ba j A:=⟨r.hd,by have:=r.dp;lia,by have:=r.un;lia⟩
theorem ba.deeper(r:ba (k+1) A)(a):ba k (A.deeper a):=
 ⟨r.hd,by have:=r.dp;show A.depth+1+3 * k+5<_;lia,by have:=r.un;show A.units+3+16 * k+200<_;lia⟩
theorem Ht{A:Around}:(A.under (.builtin "type.__call__" ⟨.ref C::a,b⟩)).depth=A.depth+1:=by first |rfl |simp[Around.under,Code.weight,Code.isCreation,Code.isGuard,Code.isCaller,Code.frames,Code.isFrame,guardIds]
theorem Hu{A:Around}:(A.under (.builtin "type.__call__" ⟨.ref C::a,b⟩)).units=A.units+1:=by first |rfl |simp[Around.under,Code.cUnits,Code.frames,Code.isFrame]
theorem ba.make(r:ba (k+1) A)(C a b):ba k (A.under (.builtin "type.__call__" ⟨.ref C::a,b⟩)):=
 ⟨r.hd,by have:=r.dp;rw[Ht];lia,by have:=r.un;rw[Hu];lia⟩
theorem ba.depth(r:ba k A):A.depth<recursionLimit:=by have:=r.dp;lia
theorem ba.units(r:ba k A):A.units+64<cLine:=by have:=r.un;lia
def xu:TA:=fun _ H Q=>Q [] H
def xv(a:TE)(b:TA):TA:=fun Y H Q=>a Y H fun x c=>b Y c fun d e=>Q (x::d) e
theorem dj:PA X [] xu:=fun _ _ _ _ H Q I h=>Calls.spliced_nil ⟨[],H,I,.nil,h⟩
theorem cJ(d:PE X e te)(f:PA X es t)(g:autoParam (starEach (e::es) X.env=(false,eval e X.env)::starEach es X.env) Zq._auto_1):PA X (e::es) (xv te t):=by intro pos a s Y H Q I h;rw[g];show wpAny _ _ (spliced ((false,eval e X.env)::backTo pos (starEach es X.env))) _ _ s;refine Calls.spliced_cons (aQ (d a s Y H _ I h) fun u i b=>?_);obtain⟨x,j,I1,k,l⟩:=b;exact aQ (f pos a i Y j _ I1 l) fun r v c=>by obtain⟨m,n,o,p,q⟩:=c;exact⟨x::m,n,o,.cons k p,q⟩
def Hv(t:TA):TE:=fun Y H Q=>t Y H fun a b=>a.length<=sizeLine/\∀p,b p=none->Q (.ref p) (aB b p (.tup a))
def Hw(t:TA):TE:=fun Y H Q=>t Y H fun a b=>a.length<=sizeLine/\∀p,b p=none->Q (.ref p) (aB b p (.lst a))
theorem xw(h:PA X es t):PE X (.Tuple es f pos) (Hv t):=by intro a s Y H Q I g;refine wpAny_Tuple_spliced (aQ (h pos a s Y H _ I g) fun i c ⟨j,d,I1,r,z,q⟩=>⟨by rw[<-r.length];exact z,?_⟩);have k:d c.heap.objs.size=none:=I1.hok.fresh (bG _);refine⟨.ref c.heap.objs.size,aB d c.heap.objs.size (.tup j),I1.laid (t':=c.toks) (fun b u e=>bn _ e) (bG _) ?_,rfl,q _ k⟩;exact⟨z,i,r,⟨_,Heap.get?_push_size _ rfl,rfl,_,rfl⟩⟩
theorem jY(h:PA X es t):PE X (.List es pos) (Hw t):=by intro a s Y H Q I f;refine wpAny_List_spliced (aQ (h pos a s Y H _ I f) fun g c ⟨i,d,I1,r,z,q⟩=>⟨by rw[<-r.length];exact z,?_⟩);have j:d c.heap.objs.size=none:=I1.hok.fresh (bG _);refine⟨.ref c.heap.objs.size,aB d c.heap.objs.size (.lst i),I1.laid (t':=c.toks) (fun b u e=>bn _ e) (bG _) ?_,rfl,q _ j⟩;exact⟨z,g,0,r,Heap.get?_push_size _ rfl⟩
abbrev Sp:=List V->Hp->VK->XK->Prop
abbrev fL:=List Env->Hp->Shared->XK->Value->Shared->Prop
structure ed (P:Program) (w:World) (K:Frag) (mg:Str->Option Value) (base:Heap) (A:Around) (outer:List Env) (s:Shared) (H:Hp):Prop where
 frames:A.frames=some outer
 mod:Mod K mg base
 bs:∀b o,base.get? b=some o->s.heap.get? b=some o/\H b=none
 bsz:base.objs.size<=s.heap.objs.size
 funs:s.heap.FunFrames base outer
 frf:∀b∈bN outer,H b=none
 hok:bH P w H s.heap
 bare:AllBare s.gens
def CE(a:List Env)(P:Program)(w:World)(H:Hp)(s:Shared)(Q:VK)(u:Value)(b:Shared):Prop:=
 ∃v c,b.os=s.os/\AllBare b.gens/\Un (bN a) [] H c s.heap b.heap/\bH P w c b.heap/\bq v u/\Q v c
def CR(c:fL)(a:List Env)(P:Program)(w:World)(H:Hp)(s:Shared)(Q:VK)(E:XK)(r:Result)(b:Shared):Prop:=
 match r with
 |.ok (.ret u)=>CE a P w H s Q u b
 |.ok _=>False
 |.error e=>c a H s E e b
structure bJ (P:Program) (w:World) (K:Frag) (mg:Str->Option Value) (base:Heap) (CX:fL) (k:Nat) (f:Addr) (fd:FuncData) (ps:List Str) (sp:Sp):Prop where
 len:∀vs H Q E,sp vs H Q E->vs.length=ps.length
 run:∀(A:Around) (outer:List Env) (s:Shared) (H:Hp) (args:Args) (us:List Value) (vs:List V) (Q:VK) (E:XK),ba k A->ed P w K mg base A outer s H->BindsTo s fd args (ps.zip us)->bi vs us->sp vs H Q E->
  codeAny (model P w) A (.call (.ref f) args) (CR CX outer P w H s Q E) s
theorem bJ.imp{K}(F:bJ P w K i base d k f fd e g)
  (h:∀b H Q E,c b H Q E->g b H Q E):bJ P w K i base d k f fd e c:=
 ⟨fun b H Q E q=>F.len b H Q E (h _ _ _ _ q),fun A a s H args j b Q E l m p n o=>F.run A a s H args j b Q E l m p n (h _ _ _ _ o)⟩
theorem ed.make{K}(e:ed P w K b base A a s H)(C c)(d) :
  ed P w K b base (A.under (.builtin "type.__call__" ⟨.ref C::c,d⟩)) a s H:=⟨by first |exact e.frames |(simpa[Around.under,Code.envs,Code.isFrame,pushEnvs] using e.frames),e.mod,e.bs,e.bsz,e.funs,e.frf,e.hok,e.bare⟩
theorem Inv.env0{Y:St}(I:Inv X pins Y H s):ed X.prog X.w X.K X.mg X.base X.A X.stack s H:=
 ⟨I.ok.frames,I.ok.mod,I.bs,Nat.le_trans I.ok.bsz I.sz,I.stack,I.stkFree,I.hok,I.bare⟩
theorem Inv.after{Y:St}(I:Inv X pins Y H s)(h:CE X.stack X.prog X.w H s Q u s'):EP X pins Y Q u s':=by obtain⟨v,c,os,bare,un,hok,r,q⟩:=h;obtain⟨e,g,d,t,a⟩:=s';obtain rfl:a = s.os:=os;exact⟨v,c,I.call (h':=e) (g':=g) (d':=d) (t':=t) (ch:=[]) un hok bare (fun b z=>absurd z (by simp)),r,q⟩
def fM(K:Frag)(fd:FuncData)(b:List Str)(c:List Value):Prop:=
 ∀(s:Shared) (a:List Value),K.In s.heap->(a++c).length=b.length->BindsTo s fd ⟨a,[]⟩ (b.zip (a++c))
theorem fM.all{K}(h:∀a,a.length=b.length->bindArgs fd ⟨a,[]⟩=pure (b.zip a)):fM K fd b []:=fun s a _ c=>by rw[List.append_nil]at c ⊢;exact .of_eq (h a c)
structure Mk (K:Frag) (C f:Addr):Prop where
 makes:PySem.W.makesIn K C=true
 init:findIn K (.ref C) "__init__" = some (some (.ref f))
 fn:PySem.W.isFn K (.ref f)=true
 kp:keepIn K (.ref C)=true
def PK(X:Cx)(b:List Keyword)(t:TA):Prop:=
 ∀(pos:Pos) (a:List (Addr×Obj)) (s:Shared) (Y:St) (H:Hp) (Q:List V->Hp->Prop),Inv X a Y H s->t Y H Q->wpAny (model X.prog X.w) X.A (evalAll ((backToKw pos (keywordEach b X.env)).map (·.2))) (AP X a Y Q) X.xe s
theorem Hx:PK X [] xu:=fun _ _ _ _ H Q I h=>wpAny_evalAll_nil ⟨[],H,I,.nil,h⟩
theorem Hy(b:PE X e te)(c:PK X kws t):PK X (⟨nm,e,kpos⟩::kws) (xv te t):=by intro pos a s Y H Q I h;show wpAny _ _ (evalAll ((do let v <-eval e X.env;standAt pos;pure v)::(backToKw pos (keywordEach kws X.env)).map (·.2))) _ _ s;refine wpAny_evalAll_cons (aj (aQ (b a s Y H _ I h) fun u d ⟨x,g,I1,i,j⟩=>aj (wpAny_standAt (bd ?_))));exact aQ (c pos a d Y g _ I1 j) fun y z ⟨l,n,q,r,w⟩=>⟨x::l,n,q,.cons i r,w⟩
structure bA (N P:List Str) (sc:Scope):Prop where
 kind:sc.kind=.function
 co:sc.isCoroutine=false
 gen:sc.isGenerator=false
 nd:N.Nodup
 pre:N.take P.length=P
 par:∀x∈P,sc.names.lookup x=some .local\/sc.names.lookup x=some .cell
 nofree:∀y∈sc.names,y.2≠.free
theorem xx{kindOf}:∀{binds m},(∀v,(x,v)∉binds)->bindL kindOf binds m x=m x
 |[],_,_=>rfl
 | (n,v)::r,m,h=>by
  unfold bindL;rw[xx fun w a=>h w (bC _ a)];split
  .have:x≠n:=by rintro rfl;exact h v List.mem_cons_self
   simp[this]
  .rfl
theorem xy{kindOf}:∀{binds m},(∀v,(x,v)∉binds)->bindC kindOf binds m x=m x
 |[],_,_=>rfl
 | (n,v)::r,m,h=>by
  unfold bindC;rw[xy fun w a=>h w (bC _ a)];split
  .rfl
  .have:x≠n:=by rintro rfl;exact h v List.mem_cons_self
   simp[this]
theorem xz{kindOf}:∀{P:List Str}{a}{i:Nat}{m},P.Nodup->P[i]? = some x->a[i]? = some v->kindOf x=some .local->
  bindL kindOf (P.zip a) m x=some v
 |[],_,_,_,_,h,_,_=>by simp at h
 |_::_,[],_,_,_,_,h,_=>by simp at h
 |p::P,w::a,0,m,nd,h1,h2,b=>by simp at h1 h2;subst h1;subst h2;show bindL kindOf ((p,w)::P.zip a) m p=_;unfold bindL;rw[xx fun v c=>(List.nodup_cons.mp nd).1 (List.of_mem_zip c).1,if_pos b];simp
 |p::P,w::a,i+1,m,nd,h1,h2,b=>by show bindL kindOf ((p,w)::P.zip a) m x=_;unfold bindL;exact xz (i:=i) (List.nodup_cons.mp nd).2 (by simpa using h1) (by simpa using h2) b
theorem xA{kindOf}:∀{P:List Str}{a}{i:Nat}{m},P.Nodup->P[i]? = some x->a[i]? = some v->kindOf x≠some .local->
  bindC kindOf (P.zip a) m x=some v
 |[],_,_,_,_,h,_,_=>by simp at h
 |_::_,[],_,_,_,_,h,_=>by simp at h
 |p::P,w::a,0,m,nd,h1,h2,b=>by simp at h1 h2;subst h1;subst h2;show bindC kindOf ((p,w)::P.zip a) m p=_;unfold bindC;rw[xy fun v c=>(List.nodup_cons.mp nd).1 (List.of_mem_zip c).1,if_neg b];simp
 |p::P,w::a,i+1,m,nd,h1,h2,b=>by show bindC kindOf ((p,w)::P.zip a) m x=_;unfold bindC;exact xA (i:=i) (List.nodup_cons.mp nd).2 (by simpa using h1) (by simpa using h2) b
noncomputable def start(N:List Str)(a:List V):St:=a.map some++List.replicate (N.length - a.length) none
noncomputable def gB(CX:fL)(P:Program)(w:World)(K:Frag)(mg:Str->Option Value)(base:Heap)(N:List Str)(qual:Str)(scope:Scope)(f:Addr)(cd:Value)(A:Around)(outer:List Env)(s:Shared)(H:Hp)(E:XK):Cx where
 prog:=P
 w:=w
 K:=K
 mg:=mg
 base:=base
 A:=A.deeper (envOfC qual scope s.heap.objs.size f cd)
 N:=N
 s₀:=s
 H₀:=H
 env:=envOfC qual scope s.heap.objs.size f cd
 outer:=outer
 stack:=envOfC qual scope s.heap.objs.size f cd::outer
 ex:=[]
 calm:=true
 fn:=fun _=>true
 pn:=[]
 xe:=fun e s'=>wpAny (model P w) (A.deeper (envOfC qual scope s.heap.objs.size f cd)) (leaving (envOfC qual scope s.heap.objs.size f cd) e) (fun _ s''=>CX outer H s E e s'') (fun e' s''=>CX outer H s E e' s'') s'
theorem xB{a:Scope}(h:a.names.lookup x=some .cell):∃c,(cellsFrom n a.names []).lookup x=some c:=by have q:=PySem.W.cellsFrom_some a.names n [] (.inl h);exact Option.isSome_iff_exists.mp q
theorem xD{K}
  (S:bA N m d) (hd:A.handled=none) (l:ed P w K L base A g s H) (X:o.length=m.length) (r:bi o J)
  (x:InCallC s s.heap.objs.size (bindL (envOfC qual d s.heap.objs.size f cd).kindOf (m.zip J) fun _=>none) (cellsFrom (s.heap.objs.size+1) d.names []) (bindC (envOfC qual d s.heap.objs.size f cd).kindOf (m.zip J) fun _=>none) M) :
  Inv (gB CX P w K L base N qual d f cd A g s H E) [] (start N o) H M:=by
 have R:m.length<=N.length:=by have:=congrArg List.length S.pre;rw[List.length_take]at this;lia
 obtain⟨I,Y,rfl,O⟩:=x.done;have t:∀b:Addr,b∉(gB CX P w K L base N qual d f cd A g s H E).ex:=fun b z=>absurd (show b∈([]:List Addr) from z) (by simp);refine⟨⟨l.mod,S.kind,rfl,rfl,bG _,fun y z c I j=>?_,fun y B=>?_,fun y c _ h=>?_,fun _=>hd,Around.frames_deeper l.frames,.inr ⟨rfl,rfl⟩,fun b z=>absurd z (t b),l.bs,l.bsz,fun b _ _=>t b,fun b z=>absurd z (t b),l.funs,l.frf⟩,
  rfl,l.bare,Un.kept O,⟨_,x.toInCall.ns,fun i y v I j Z=>?_⟩,fun y c h=>⟨_,x.cell y c h⟩,l.hok.fresh (bG _),fun y c h=>?_,fun p C=>absurd (show p∈([]:List (Addr×Obj)) from C) (by simp),l.hok.kept O,?_⟩
 .exact name_of_addr x.apart (PySem.mem_of_lookup I) (PySem.mem_of_lookup j)
 .have B:d.names.lookup y=some .cell\/d.names.lookup y=some .free:=B;rcases B with B |B
  .exact xB B
  .exact absurd rfl (S.nofree _ (PySem.mem_of_lookup B))
 .exact Nat.le_of_lt (x.above y c (PySem.mem_of_lookup h))
 .have G:i<o.length:=by
   unfold start at j
   by_cases G:i<o.length
   .exact G
   .rw[List.getElem?_append_right (by simpa using G)]at j;rw[List.getElem?_replicate]at j;split at j<;>cases j
  have T:o[i]? = some v:=by
   unfold start at j;rw[List.getElem?_append_left (by simpa using G),List.getElem?_map]at j;cases e:o[i]? with
   |none=>rw[e]at j;cases j
   |some a=>rw[e]at j;cases j;rfl
  obtain⟨u,Q,U⟩:=r.get T;have C:m[i]? = some y:=by rw[<-S.pre,List.getElem?_take_of_lt (by lia)];exact I
  have D:m.Nodup:=by rw[<-S.pre];exact S.nd.sublist (List.take_sublist _ _)
  refine⟨u,U,?_⟩;rcases S.par y (List.mem_of_getElem? C) with k |k
  .exact .inl ⟨k,xz D C Q k⟩
  .obtain⟨c,e⟩:=xB (n:=s.heap.objs.size+1) k;refine .inr ⟨.inl k,c,e,?_⟩;have q:=x.cell y c e;rw[xA D C Q (by show d.names.lookup y≠_;rw[k];decide)]at q;exact q
 .exact l.hok.fresh (Nat.le_of_lt (x.above y c (PySem.mem_of_lookup h)))
 .unfold start;show _=N.length;rw[List.length_append,List.length_map,List.length_replicate];lia
theorem Hz{K}{kV }
  (lk:K.lookup f=some ⟨oc,od,.func (fnOf name d h body a dV kV z pm an g ct),O⟩) (T:codeIn K g d=true) (S:bA N G a)
  (len:∀i H Q E,R i H Q E->i.length=G.length)
  (l:∀A  c  s  H  i  Q  E,ba k (A.deeper (envOfC d a s.heap.objs.size f g))->R i H Q E->
   ∃t,PSs (gB D P w K M base N d a f g A c s H E) body t/\t { nx:=fun _ j=>Q .non j,rt:=Q } (start N i) H) :
  bJ P w K M base D (k+1) f (fnOf name d h body a dV kV z pm an g ct) G R:=by
 refine⟨len,fun A c s H args us i Q E U B hb r C=>?_⟩;have hl:=len _ _ _ _ C;have KX:K.In s.heap:=B.mod.kin.keeps fun b o e=>(B.bs b o e).1;have X:s.heap.NoLimit:=B.mod.nolimit.keeps fun b o e=>(B.bs b o e).1;have m:∀y∈G.zip us,a.names.lookup y.1=some .local\/(a.names.lookup y.1=some .cell/\((cellsFrom (s.heap.objs.size+1) a.names []).lookup y.1).isSome=true):=fun⟨n,v⟩ hy=>by
  rcases S.par n (List.of_mem_zip hy).1 with q |q
  .exact .inl q
  .exact .inr ⟨q,PySem.W.cellsFrom_some _ _ _ (.inl q)⟩
 refine codeAny_call_function U.depth (KX _ _ lk) rfl S.co S.gen rfl (PySem.W.codeRec_of KX T) (hb _ _ _ _ ?_);refine wpAny_newFunctionEnv_cells S.kind m fun a0 he s1 x=>?_;subst he;refine⟨X.keeps x.toInCall.keep,codeAny_func ?_⟩;obtain⟨t,ht,hq⟩:=l A c s H i Q E (U.deeper _) C;have I:Inv (gB D P w K M base N d a f g A c s H E) [] (start N i) H s1:=xD S U.hd B hl r x;refine wpAny_mono (ht [] s1 (start N i) H _ I hq) (fun fl Y p=>?_) fun e Y p=>p;have fin:∀{L:St}{j:Hp}{v:V}{u:Value},Inv (gB D P w K M base N d a f g A c s H E) [] L j Y->bq v u->Q v j->CE c P w H s Q u Y:=
  fun {L j v u} J Z q=>⟨v,j,J.os,J.bare,J.base,J.hok,Z,q⟩
 cases fl with
 |ret u=>obtain⟨v,L,j,J,Z,q⟩:=p;exact fin J Z q
 |next=>obtain⟨L,j,J,q⟩:=p;exact fin (v:=V.non) (u:=Value.none) J rfl q
 |brk=>obtain⟨_,_,_,q⟩:=p;exact False.elim q
 |cont=>obtain⟨_,_,_,q⟩:=p;exact False.elim q
def tN(r:List V->Hp->VK->Prop)(t:TA):TE:=fun Y H Q=>t Y H fun a b=>r a b Q
theorem mG{p:Pos}{pos:Pos}{id:String}(f:gZ X (.builtin id) r)(g:Gl X x)(i:X.mg x=none)(j:bootBuiltins x=some (.builtin id))(k:PA X (e::es) t)(l:autoParam (x≠"__name__") Zr._auto_1)(c:autoParam ((x==("__debug__":Str))=false) Zr._auto_1)
  (m:autoParam (starEach (e::es) X.env=(false,eval e X.env)::starEach es X.env) Zq._auto_1) (d:autoParam ((backTo pos (starEach es X.env)).any (·.1)=false) Zq._auto_1):PE X (.Call (.Name x p) (e::es) [] pos) (tN r t):=by
 intro a s Y H Q I h;refine wpAny_Call_Name_kw (jo I g i j ?_ l c);exact PyProof.Rows.callWith_builtin1 (aQ (k pos a s Y H _ I h) fun n o b=>by obtain⟨q,u,I1,v,w⟩:=b;exact f a o Y u q n Q I1 v w) m d
theorem tO{p:Pos}{pos:Pos}(d:gZ X (.type T) r)(f:Gl X x)(g:X.mg x=none)(i:bootBuiltins x=some (.type T))(j:PA X (e::es) t)(k:autoParam (x≠"__name__") Zr._auto_1)(b:autoParam ((x==("__debug__":Str))=false) Zr._auto_1)
  (l:autoParam (starEach (e::es) X.env=(false,eval e X.env)::starEach es X.env) Zq._auto_1) (c:autoParam ((backTo pos (starEach es X.env)).any (·.1)=false) Zq._auto_1):PE X (.Call (.Name x p) (e::es) [] pos) (tN r t):=by
 intro a s Y H Q I h;refine wpAny_Call_Name_kw (jo I f g i ?_ k b);exact PyProof.Rows.callWith_type1 (aQ (j pos a s Y H _ I h) fun m n ⟨o,q,I1,u,v⟩=>d a n Y q o m Q I1 u v) l c
end L2
namespace HT
open PySem PyProof.Rows
noncomputable def lexLt:List Int->List Int->Bool
 |[],[]=>false
 |[],_::_=>true
 |_::_,[]=>false
 |x::a,y::b=>if x=y then lexLt a b else decide (x<y)
theorem HA(x y a b):lexLt (x::a) (y::b)=if x=y then lexLt a b else decide (x<y):=rfl
theorem HB:lexLt [] []=false:=rfl
theorem HD(y a):lexLt [] (y::a)=true:=rfl
theorem HE(x a):lexLt (x::a) []=false:=rfl
theorem HF(A s a t c u):∃e,SeqAt.EqAt A s (.int a t) (.int c u) e/\(e=true↔a=c):=
 ⟨(a==c),SeqAt.EqAt.int_int a t c u,by simp⟩
theorem HG(A s a t c u b w E Q)(h:Q (.bool (decide (a<c))) s) :
  wpAny (model b w) A (richCompare .Lt (.int a t) (.int c u)) Q E s:=
 (PyProof.Rows.lt_int h:wpAny (model b w) A (compareOp .Lt (.int a t) (.int c u)) Q E s)
section
open PySem.SeqAt
open PySem.AutoSeq1 (wpAny_loadPart')
open PySem.MeetsSeq PySem.MeetsSeq2 PySem.MeetsSeq3
theorem HH(l b)(items f)(n Y dd M sl N L E)(T:IntsAre items.toList L)(U:IntsAre f.toList E) :
  Meets (Builtin.«tuple.__lt__» ⟨[.ref l,.ref b],[]⟩)
   (fun _ R s=>s.heap.get? l=some { cls:=.type "tuple",dict:=dd,data:=.seq items n,slots:=sl }/\s.heap.get? b=some { cls:=.type "tuple",dict:=M,data:=.seq f Y,slots:=N }/\
    R (.ok (.ret (.bool (lexLt L E)))) s):=
 .of_wp fun v w A R s h=>by
  obtain⟨G,g,d,H,os⟩:=s;obtain⟨Z,hb,h⟩:=h;have f2:=AutoSeq1.sub_tuple_tuple;have z1:items.size=L.length:=by rw[<-T.length];simp
  have z2:f.size=E.length:=by rw[<-U.length];simp
  wp_walk using wpAny_loadPart' Z,wpAny_loadPart' hb,wpAny_forIn_list _ (fun rest b O=>b.1=none/\O = ⟨G,g,d,H,os⟩/\∃(I J:List Value) (j k:List Int),rest=I.zip J/\
   IntsAre I j/\IntsAre J k/\j.length+f.size=k.length+items.size/\R (.ok (.ret (.bool (lexLt j k)))) ⟨G,g,d,H,os⟩) _
  case turn=>
   rintro⟨y,x⟩ rest b O ⟨hb',rfl,I,J,j,k,m,z,o,i,p⟩;cases z with
   |nil=>rw[List.zip_nil_left]at m;cases m
   |cons a t C=>
    cases o with
    |nil=>rw[List.zip_nil_right]at m;cases m
    |cons c u D=>
     rw[List.zip_cons_cons]at m;injection m with Q B
     injection Q with hy hx
     subst hy hx;rw[HA]at p;simp only[List.length_cons]at i;obtain⟨e,he,r⟩:=HF A.in1 ⟨G,g,d,H,os⟩ a t c u;refine aj (he v w _ _ ?_);cases e with
     |true=>
      rw[if_pos (r.mp rfl)]at p
      wp_walk
      exact⟨rfl,rfl,_,_,_,_,B,C,D,by lia,p⟩
     |false=>
      rw[if_neg (fun q=>absurd (r.mpr q) Bool.false_ne_true)]at p;have S:=HG A.in1 ⟨G,g,d,H,os⟩ a t c u v w
      wp_walk using S
      exact⟨_,rfl,by simpa using p⟩
  case fin=>
   rintro⟨b1,b2⟩ O ⟨hb',rfl,I,J,j,k,m,z,o,i,p⟩;simp only at hb';subst hb';have X:lexLt j k = decide (items.size<f.size):=by
    cases z with
    |nil=>
     cases o with
     |nil=>simp only[List.length_nil]at i;rw[HB];exact(decide_eq_false (by lia)).symm
     |cons c u hw=>simp only[List.length_nil,List.length_cons]at i;rw[HD];exact(decide_eq_true (by lia)).symm
    |cons a t X=>
     cases o with
     |nil=>simp only[List.length_nil,List.length_cons]at i;rw[HE];exact(decide_eq_false (by lia)).symm
     |cons c u hw=>rw[List.zip_cons_cons]at m;cases m
   rw[X]at p
   wp_walk
   exact⟨_,rfl,by simpa[Builtin.Tuple.tupleCompareSizes] using p⟩
  case h=>exact⟨rfl,rfl,items.toList,f.toList,L,E,rfl,T,U,by lia,h⟩
end
theorem lt_tupInts(o:IsTup s.heap l items)(u:IsTup s.heap b a)(p:IntsAre items.toList g)(q:IntsAre a.toList c)
  (r:A.units<cLine) (h:Q (.bool (lexLt g c)) s):wpAny (model prog w) A (compareOp .Lt (.ref l) (.ref b)) Q E s:=by
 obtain⟨⟨cls,dd,data,sl⟩,ho,k,n,hd⟩:=id o;obtain⟨⟨m,i,data2,j⟩,d,e,t,f⟩:=id u;simp only at k hd e f;subst k hd e f;exact richCompare_meets_room (op:=.Lt) ⟨_,ho,rfl⟩ ⟨_,d,rfl⟩ PySem.F.slot_tuple_lt PySem.F.entry_tuple_lt (PySem.F.args_tuple_lt_2 _ _) (HH l b items a n t dd i sl j g c p q)
  ⟨ho,d,show Value.bool (lexLt g c)≠Value.notImplemented/\Q (.bool (lexLt g c)) s from⟨(fun x=>nomatch x),h⟩⟩ r
noncomputable def sIx(n d:Nat):Option Int->Nat
 |none=>d
 |some v=>if v<0 then(v+(n:Int)).toNat else min v.toNat n
theorem sIx_none(n d):sIx n d none=d:=rfl
theorem sIx_nat(n d k:Nat):sIx n d (some (k:Int))=min k n:=by show(if (k:Int)<0 then((k:Int)+(n:Int)).toNat else min (k:Int).toNat n)=min k n;rw[if_neg (by lia),Int.toNat_natCast]
end HT
namespace L2
open PySem PySem.Spec PyProof.Rows
abbrev TO:=St->Hp->(Option Int->Hp->Prop)->Prop
def PO(X:Cx)(e:Option Expr)(t:TO):Prop:=
 ∀(a:List (Addr×Obj)) (s:Shared) (Y:St) (H:Hp) (Q:Option Int->Hp->Prop),Inv X a Y H s->t Y H Q->
  wpAny (model X.prog X.w) X.A (evalPart e X.env) (fun u c=>∃o b,Inv X a Y b c/\IsPart u o/\Q o b) X.xe s
def HI:TO:=fun _ H Q=>Q none H
def HJ(t:TE):TO:=fun Y H Q=>t Y H fun x a=>∃i,x=.int i/\Q (some i) a
theorem HK:PO X none HI:=by intro a s Y H Q I h;rw[evalPart_none];exact bd ⟨none,H,I,.none,h⟩
theorem HL(h:PE X e te):PO X (some e) (HJ te):=by intro a s Y H Q I c;rw[evalPart_some];refine aQ (h a s Y H _ I c) fun u j b=>?_;obtain⟨x,d,I1,f,g⟩:=b;obtain⟨i,rfl,q⟩:=g;obtain⟨t,rfl⟩:=f;exact⟨some i,d,I1,.int i t,q⟩
def xE(X:Cx)(r:V->Option Int->Option Int->Hp->VK->Prop):Prop:=
 ∀(a:List (Addr×Obj)) (s:Shared) (Y:St) (H:Hp) (x:V) (v b c:Value) (lo hi:Option Int) (d:Addr) (Q:VK),Inv X a Y H s->bq x v->s.heap.IsSliceOf d b c .none->IsPart b lo->IsPart c hi->r x lo hi H Q->
  ∃T id,typeLookup (.type T) "__getitem__" = pure (some (.builtin id))/\s.TypeIs v T/\wpAny (model X.prog X.w) X.A (getItem v (.ref d)) (EP X a Y Q) X.xe s
def HM(r:V->Option Int->Option Int->Hp->VK->Prop)(te:TE)(tl th:TO):TE:=fun Y H Q=>te Y H fun x a=>tl Y a fun l b=>th Y b fun u c=>r x l u c Q
theorem HN{lo:Option Expr}(k:xE X r)(m:PE X e te)(n:PO X lo tl)(o:PO X hi th):PE X (.Subscript e (.Slice lo hi none p2) pos) (HM r te tl th):=by intro a s Y H Q I h;refine Subscript_ (aQ (m a s Y H _ I h) fun v p d=>?_);obtain⟨x,t,I1,y,z⟩:=d;refine wpAny_Slice (aQ (n a p Y t _ I1 z) fun g B ⟨l,C,D,pl,E⟩=>aQ (o a B Y C _ D E) fun i c f=>?_);obtain⟨u,j,G,J,L⟩:=f;rw[evalPart_none];refine bd ?_;have M:Inv X a Y j { c with heap:=c.heap.push { cls:=.type "slice",data:=.fields #[g,i,.none] } }:=G.kept (t':=c.toks) fun b S q=>bn _ q;obtain⟨T,id,N,O,R⟩:=k a { c with heap:=c.heap.push { cls:=.type "slice",data:=.fields #[g,i,.none] } } Y j x v g i l u c.heap.objs.size Q M y (Heap.IsSliceOf.new ..) pl J L;show wpAny (model X.prog X.w) X.A (subscriptTail e (.Slice lo hi none p2) v (.ref c.heap.objs.size)) (EP X a Y Q) X.xe { c with heap:=c.heap.push { cls:=.type "slice",data:=.fields #[g,i,.none] } };exact tail_any (ops:=[.ref c.heap.objs.size,v]) O N R (by with_unfolding_all rfl)
def mH(a:List V)(lo hi:Option Int):List V:=(a.drop (HT.sIx a.length 0 lo)).take (HT.sIx a.length a.length hi - HT.sIx a.length 0 lo)
theorem HP(a lo hi):(mH a lo hi).length<=a.length:=by unfold mH;rw[List.length_take,List.length_drop];lia
noncomputable def cn(n:Nat)(i:Int):Option Nat:=if 0<=i then(if i<n then some i.toNat else none) else if -(n:Int)<=i then some (i+n).toNat else none
def bD{α:Type}(a:List α)(i:Int):Option α:=(cn a.length i).bind fun j=>a[j]?
theorem tP(h:cn n i=some j):seqIndex? i n=some j/\j<n/\-(n:Int)<=i/\i<n:=by
 unfold cn at h
 by_cases a:0<=i
 .rw[if_pos a]at h
  by_cases h1:i<n
  .rw[if_pos h1]at h;have e:i.toNat=j:=Option.some.inj h;exact⟨by rw[seqIndex_of a h1,e],by lia,by lia,h1⟩
  .rw[if_neg h1]at h;cases h
 .rw[if_neg a]at h
  by_cases h1:-(n:Int)<=i
  .rw[if_pos h1]at h;have e:(i+n).toNat=j:=Option.some.inj h;exact⟨by rw[seqIndex_neg (by lia) h1,e],by lia,h1,by lia⟩
  .rw[if_neg h1]at h;cases h
theorem xF(h:bD a i=some v):∃j,seqIndex? i a.length=some j/\a[j]? = some v/\j<a.length/\-(a.length:Int)<=i/\i<a.length:=by
 unfold bD at h;cases e:cn a.length i with
 |none=>rw[e]at h;cases h
 |some j=>rw[e]at h;obtain⟨c,h2,h3,b⟩:=tP e;exact⟨j,c,h,h2,h3,b⟩
def im(b:Expr):Prop:=∀o i,subscripted b false o i=operate [o,i] (getItem o i)
def jt(X:Cx)(r:R2):Prop:=
 ∀(value slice:Expr) (a:List (Addr×Obj)) (s:Shared) (Y:St) (H:Hp) (x y:V) (v u:Value) (Q:VK),Inv X a Y H s->bq x v->bq y u->r x y H Q->
  subscripted slice false v u=operate [v,u] (getItem v u)->wpAny (model X.prog X.w) X.A (subscriptTail value slice v u) (EP X a Y Q) X.xe s
def qy(X:Cx)(id:String)(r:V->List V->Hp->VK->Prop):Prop:=
 ∀(a:List (Addr×Obj)) (s:Shared) (Y:St) (H:Hp) (x:V) (b:List V) (v:Value) (c:List Value) (Q:VK),Inv X a Y H s->bq x v->bi b c->r x b H Q->
  wpAny (model X.prog X.w) X.A (call (.builtin id) (v::c)) (EP X a Y Q) X.xe s
theorem jt.or(h:jt X r)(i:jt X d):jt X (fun x y H Q=>r x y H Q\/d x y H Q):=by
 intro value slice c s Y H x y v u Q I e f q g;rcases q with q |q
 .exact h value slice c s Y H x y v u Q I e f q g
 .exact i value slice c s Y H x y v u Q I e f q g
theorem ly(d:jt X r)(e:PE X a ta)(m:PE X b tb)(f:im b):PE X (.Subscript a b pos) (ou r ta tb):=by intro c s Y H Q I h;exact Subscript_ (tF e m I h fun v u g x y i j k l q=>d a b c g Y i x y v u Q j k l q (f _ _))
def tQ(K:Frag):R2:=fun x y H Q=>∃p c i v,x=.ref p/\y=.int i/\cT K H p c/\bD c i=some v/\Q v H
def tR(K:Frag):R2:=fun x y H Q=>∃p c i v,x=.ref p/\y=.int i/\fW K H p c/\bD c i=some v/\Q v H
theorem lz:jt X (tQ X.K):=by
 intro value slice c s Y H x y v u Q I l m h g;obtain⟨p,E,i,z,rfl,rfl,n,o,q⟩:=h;cases l;obtain⟨t,rfl⟩:=m;obtain⟨d,r,pl,G⟩:=I.list n;obtain⟨j,h1,h2,h3,A,B⟩:=xF o;obtain⟨w,ew,e⟩:=r.get h2;have C:=r.length;have J:=eE;have fin:EP X c Y Q w s:=⟨z,H,I,e,q⟩
 by_cases k:0<=i
 .have f:i.toNat=j:=by rw[seqIndex_of k B]at h1;exact Option.some.inj h1
  exact item_listR pl.isList k (by lia) (by rw[f];simpa using ew) fin g
 .have f:(i+(d.toArray.size:Int)).toNat=j:=by rw[seqIndex_neg (by lia) A]at h1;rw[List.size_toArray,<-C];exact Option.some.inj h1
  exact subscriptTail_builtinR (x:=w) pl.isList.typeIs slot_list_getitem.lookup
   (wpAny_getItem_list_neg (Q:=fun r D=>r=w/\EP X c Y Q r D) pl.isList (by lia) (by rw[List.size_toArray]<;>lia) (by lia) (by rw[f];simpa using ew) ⟨rfl,fin⟩) g
theorem HQ:jt X (tR X.K):=by
 intro value slice c s Y H x y v u Q I e f h g;obtain⟨p,A,i,z,rfl,rfl,k,l,q⟩:=h;cases e;obtain⟨t,rfl⟩:=f;obtain⟨m,r,pl,B⟩:=I.tuple k;obtain⟨j,h1,h2,h3,C,D⟩:=xF l;obtain⟨w,ew,d⟩:=r.get h2;have n:=r.length;have E:=eE;have fin:EP X c Y Q w s:=⟨z,H,I,d,q⟩
 exact subscriptTail_builtinR (x:=w) pl.typeIs slot_tuple_getitem.lookup
  (getItem_tuple (j:=j) (Q:=fun r o=>r=w/\EP X c Y Q r o) pl (by lia) (by lia) (by rw[List.size_toArray,<-n];exact h1) (by simpa using ew) ⟨rfl,fin⟩) g
theorem HR(c:List Value)(n j u):Obj.mapSeq (·.setIfInBounds j u) { cls:=.type "list",data:=.seq c.toArray n } = { cls:=.type "list",data:=.seq (c.set j u).toArray n }:=by simp[Obj.mapSeq]
theorem Inv.lst{Y:St}(I:Inv X d Y H s)(h:H p=some (.lst f)) :
  ∃(c:List Value) (n:Nat),bi f c/\s.heap.get? p=some { cls:=.type "list",data:=.seq c.toArray n }/\f.length<=sizeLine:=by
 obtain⟨z,c,n,r,e⟩:=I.hok p _ h;exact⟨c,n,r,e,z⟩
theorem Inv.lstUpd{Y:St}{g :List Value}(I:Inv X d Y H s)(h:H p=some (.lst l))
  (o:s.heap.get? p=some { cls:=.type "list",data:=.seq g.toArray n }) (k:f { cls:=.type "list",data:=.seq g.toArray n } = { cls:=.type "list",data:=.seq c.toArray j }) (r:bi i c) (m:i.length<=sizeLine) (t) :
  Inv X d Y (aB H p (.lst i)) { s with heap:=s.heap.update p f,toks:=t }:=by
 have e:(s.heap.update p f).get? p=some { cls:=.type "list",data:=.seq c.toArray j }:=by rw[Heap.get?_update_self f o (by rw[k]<;>rfl),k]
 refine I.write (x:=p) (e:=p) (by rw[h];trivial) (.inl rfl) (fun b u v q=>(Heap.get?_update_other _ _ (Ne.symm v)).trans q) ⟨_,e⟩ ?_;exact⟨m,c,j,r,e⟩
def HS:V->V->V->Hp->(Hp->Prop)->Prop:=fun o i v H Q=>∃p c k j,o=.ref p/\i=.int k/\H p=some (.lst c)/\cn c.length k=some j/\Q (aB H p (.lst (c.set j v)))
theorem xG:wZ X HS:=by
 intro c s Y H o i v E G u Q I y z A h;obtain⟨p,B,k,j,rfl,rfl,l,C,q⟩:=h;cases y;obtain⟨t,rfl⟩:=z;obtain⟨d,n,r,ho,D⟩:=I.lst l;obtain⟨e,h2,h3,m⟩:=tP C;have f:=r.length;have J:=eE;have w:Inv X c Y (aB H p (.lst (B.set j v))) { s with heap:=s.heap.update p (Obj.mapSeq (·.setIfInBounds j u)) }:=
  I.lstUpd l ho (HR d n j u) (r.set A j) (by rw[List.length_set];exact D) s.toks
 by_cases x:0<=k
 .have g:k.toNat=j:=by rw[seqIndex_of x m]at e;exact Option.some.inj e
  exact PySem.W.ki_setAt ho x (by lia) (by rw[List.size_toArray,<-f];exact m) (by rw[g];exact⟨_,w,q⟩)
 .have g:(k+(d.toArray.size:Int)).toNat=j:=by rw[seqIndex_neg (by lia) h3]at e;rw[List.size_toArray,<-f];exact Option.some.inj e
  exact PySem.W.ki_setBack ho (by lia) (by rw[List.size_toArray,<-f];exact h3) (by lia) (by rw[g];exact⟨_,w,q⟩)
theorem HU(lo c n):(sliceBounds lo c none n).1=((HT.sIx n 0 lo:Nat):Int)/\(sliceBounds lo c none n).2.1=((HT.sIx n n c:Nat):Int)/\(sliceBounds lo c none n).2.2=1:=by
 refine⟨?_,?_,rfl⟩
 .cases lo with
  |none=>simp[sliceBounds,HT.sIx]
  |some i=>
   simp only[sliceBounds,HT.sIx,Option.getD_none,show(1:Int)>0 by decide,if_true]
   by_cases h:i<0
   .simp only[h,if_true]<;>lia
   .simp only[h,if_false]<;>lia
 .cases c with
  |none=>simp[sliceBounds,HT.sIx]
  |some i=>
   simp only[sliceBounds,HT.sIx,Option.getD_none,show(1:Int)>0 by decide,if_true]
   by_cases h:i<0
   .simp only[h,if_true]<;>lia
   .simp only[h,if_false]<;>lia
theorem HV(c:List Value)(lo d):slicePick c.toArray lo d none=((c.drop (HT.sIx c.length 0 lo)).take (HT.sIx c.length c.length d - HT.sIx c.length 0 lo)).toArray:=by obtain⟨e,h2,h3⟩:=HU lo d c.toArray.size;unfold slicePick;rw[e,h2,h3];simp only[sliceRange_one,pick_run,List.size_toArray]<;>rfl
def HW(K:Frag):V->Option Int->Option Int->Hp->VK->Prop:=fun x lo d H Q=>∃a c,x=.ref a/\cT K H a c/\∀p,H p=none->Q (.ref p) (aB H p (.lst (mH c lo d)))
theorem HX:xE X (HW X.K):=by intro f s Y H x v t u lo e w Q I i j p k h;obtain⟨a,c,rfl,l,q⟩:=h;cases i;obtain⟨m,r,g,n⟩:=I.list l;have d:=r.length;refine⟨"list",_,slot_list_getitem.lookup,g.isList.typeIs,?_⟩;refine wpAny_getItem_list_slice g.isList j p k .none (by simp) ?_ (by rw[List.size_toArray]<;>lia);rw[HV,<-d];refine⟨.ref s.heap.objs.size,_,I.laid (t':=s.toks) (o:=.lst (mH c lo e)) (fun b y q=>bn _ q) (bG _) ?_,rfl,q _ (I.hok.fresh (bG _))⟩;exact⟨Nat.le_trans (HP c lo e) n,_,0,(r.drop (HT.sIx c.length 0 lo)).take (HT.sIx c.length c.length e - HT.sIx c.length 0 lo),Heap.get?_push_size _ rfl⟩
noncomputable def ip:V->Bool
 |.non=>true
 |.bl _=>true
 |.int _=>true
 |.str _=>true
 |_=>false
noncomputable def eF:V->V->Bool
 |.non,.non=>true
 |.bl a,.bl b=>a==b
 |.bl a,.int b=>(if a then 1 else 0)==b
 |.int a,.bl b=>a==(if b then 1 else 0)
 |.int a,.int b=>a==b
 |.str a,.str b=>a==b
 |_,_=>false
theorem HY(d:bq y u)(c:bq x v)(f:ip y=true)(e:ip x=true):SeqAt.EqAt A s u v (eF y x):=by
 cases y with
 |non=>
  cases d;cases x with
  |non=>cases c;exact SeqAt.EqAt.same _
  |bl b=>cases c;exact SeqAt.EqAt.none_bool b
  |int b=>obtain⟨t,rfl⟩:=c;exact SeqAt.EqAt.none_int b t
  |str b=>obtain⟨t,rfl⟩:=c;exact SeqAt.EqAt.none_str b t
  |_=>exact absurd (show false=true from e) Bool.false_ne_true
 |bl a=>
  cases d;cases x with
  |non=>cases c;exact SeqAt.EqAt.bool_none a
  |bl b=>cases c;exact SeqAt.EqAt.bool_bool a b
  |int b=>obtain⟨t,rfl⟩:=c;exact SeqAt.EqAt.bool_int a b t
  |str b=>obtain⟨t,rfl⟩:=c;exact SeqAt.EqAt.bool_str a b t
  |_=>exact absurd (show false=true from e) Bool.false_ne_true
 |int a=>
  obtain⟨t',rfl⟩:=d;cases x with
  |non=>cases c;exact SeqAt.EqAt.int_none a t'
  |bl b=>cases c;exact SeqAt.EqAt.int_bool a t' b
  |int b=>obtain⟨t,rfl⟩:=c;exact SeqAt.EqAt.int_int a t' b t
  |str b=>obtain⟨t,rfl⟩:=c;exact SeqAt.EqAt.int_str a t' b t
  |_=>exact absurd (show false=true from e) Bool.false_ne_true
 |str a=>
  obtain⟨t',rfl⟩:=d;cases x with
  |non=>cases c;exact SeqAt.EqAt.str_none a t'
  |bl b=>cases c;exact SeqAt.EqAt.str_bool a t' b
  |int b=>obtain⟨t,rfl⟩:=c;exact SeqAt.EqAt.str_int a t' b t
  |str b=>obtain⟨t,rfl⟩:=c;exact SeqAt.EqAt.str_str a t' b t
  |_=>exact absurd (show false=true from e) Bool.false_ne_true
 |_=>exact absurd (show false=true from f) Bool.false_ne_true
theorem lA:gZ X (.builtin "len") (fun i H Q=>∃p d,i=[.ref p]/\(cT X.K H p d\/fW X.K H p d)/\Q (.int d.length) H):=by
 intro j s Y H i m Q I r h;obtain⟨p,d,rfl,e,q⟩:=h;obtain⟨u,rfl,k⟩:=di r;cases k;have n:=eE;rcases e with e |e
 .obtain⟨f,g,pl,l⟩:=I.list e;have c:=g.length;exact Calls.call_len_list pl.isList (by simp only[List.size_toArray]<;>lia) ⟨.int d.length,H,I.tok _,⟨s.toks+1,by rw[List.size_toArray,c]⟩,q⟩
 .obtain⟨f,g,pl,l⟩:=I.tuple e;have c:=g.length;exact len_tuple pl (by simp only[List.size_toArray]<;>lia) ⟨.int d.length,H,I.tok _,⟨s.toks+1,by rw[List.size_toArray,c]⟩,q⟩
theorem HZ:gZ X (.type "list") (fun y H Q=>∃p f,y=[.ref p]/\(cT X.K H p f\/fW X.K H p f)/\∀l,H l=none->Q (.ref l) (aB H l (.lst f))):=by
 intro j s Y H y B Q I r h;obtain⟨p,f,rfl,k,q⟩:=h;obtain⟨u,rfl,A⟩:=di r;cases A;have fin:∀(c:List Value),bi f c->f.length<=sizeLine->∀(d:Heap) (g:Nat),(∀b z,s.heap.get? b=some z->d.get? b=some z)->
   d.get? s.heap.objs.size=some { cls:=.type "list",dict:=none,data:=.seq c.toArray g,slots:=#[] }->EP X j Y Q (.ref s.heap.objs.size) { s with heap:=d }:=fun c i m d g v e=>
  ⟨.ref s.heap.objs.size,_,I.laid (t':=s.toks) v (bG _) (show cI X.prog X.w _ d _ (.lst f) from⟨m,c,g,i,e⟩),rfl,q _ (I.hok.fresh (bG _))⟩
 rcases k with k |k
 .obtain⟨c,i,pl,m⟩:=I.list k;have t:=i.length;obtain⟨o,ho,x,n,hd⟩:=pl.isList;exact call_list_seq p (.inl rfl) ho x hd (fun d g v e=>fin c i m d g v e) (by simp only[List.size_toArray]<;>lia)
 .obtain⟨c,i,pl,m⟩:=I.tuple k;have t:=i.length;obtain⟨o,ho,x,n,hd⟩:=pl;exact call_list_seq p (.inr rfl) ho x hd (fun d g v e=>fin c i m d g v e) (by simp only[List.size_toArray]<;>lia)
theorem tS:gZ X (.type "tuple") (fun k H Q=>∃p f,k=[.ref p]/\((cT X.K H p f/\∀l,H l=none->Q (.ref l) (aB H l (.tup f)))\/(fW X.K H p f/\Q (.ref p) H))):=by
 intro c s Y H k y Q I r h;obtain⟨p,f,rfl,h⟩:=h;obtain⟨u,rfl,t⟩:=di r;cases t;rcases h with⟨i,q⟩ |⟨i,q⟩
 .obtain⟨d,j,pl,m⟩:=I.list i;have n:=j.length;refine call_tuple_list pl.isList (fun g x=>?_) (by simp only[List.size_toArray]<;>lia);have I1:Inv X c Y H { s with heap:=g }:=I.kept (t':=s.toks) x;have v:Inv X c Y (aB H g.objs.size (.tup f)) { s with heap:=g.push { cls:=.type "tuple",data:=.seq d.toArray } }:=
   I1.laid (t':=s.toks) (fun b o e=>bn _ e) (bG _) (show cI X.prog X.w _ _ _ (.tup f) from⟨m,d,j,IsTup.new _ _⟩)
  exact⟨.ref g.objs.size,_,v,rfl,q _ (I1.hok.fresh (bG _))⟩
 .obtain⟨d,j,pl,m⟩:=I.tuple i;exact call_tuple_same pl ⟨.ref p,H,I,rfl,q⟩
def xH(K:Frag)(T:String)(x:V)(H:Hp):Prop:=match x with
 |.str _=>T="str"
 |.int _=>T="int"
 |.ref p=>(T="list"/\∃d,cT K H p d)\/(T="tuple"/\∃o,K.lookup p=some o/\o.cls=.type "tuple"/\o.dict=none)\/
   (T="dict"/\((∃c,H p=some (.dK c))\/∃c,H p=some (.dT c)))\/(T="set"/\∃S n,H p=some (.set S n))
 |_=>False
theorem Ia{Y:St}(I:Inv X f Y H s)(r:bq x v)(g:xH X.K T x H) :
  s.TypeIs v T/\∀a,v=.ref a->∃k,s.heap.get? a=some k/\k.dict=none:=by
 cases x with
 |str z=>obtain⟨t,rfl⟩:=r;cases(show T="str" from g);exact⟨typeIs_str s z t,fun _ e=>nomatch e⟩
 |int i=>obtain⟨t,rfl⟩:=r;cases(show T="int" from g);exact⟨typeIs_int s i t,fun _ e=>nomatch e⟩
 |ref p=>
  cases r;rcases g with⟨rfl,u,l⟩ |⟨rfl,o,d,m,hd⟩ |⟨rfl,d⟩ |⟨rfl,S,n,d⟩
  .obtain⟨q,_,pl,_⟩:=I.list l;refine⟨pl.isList.typeIs,fun a e=>?_⟩;cases e;obtain⟨o,n,e,c,hd,_⟩:=pl;exact⟨o,e,hd⟩
  .refine⟨⟨o,I.kIn p o d,m⟩,fun a e=>?_⟩;cases e;exact⟨o,I.kIn _ o d,hd⟩
  .have z:∃o,s.heap.get? p=some o/\o.ExactDict:=by
    rcases d with⟨h,d⟩ |⟨h,d⟩
    .obtain⟨_,_,_,_,o,_,_,e,ex,_⟩:=I.hok p _ d;exact⟨o,e,ex⟩
    .obtain⟨_,_,_,_,o,_,_,e,ex,_⟩:=I.hok p _ d;exact⟨o,e,ex⟩
   obtain⟨o,e,ex⟩:=z;refine⟨⟨o,e,ex.1⟩,fun a j=>?_⟩;cases j;exact⟨o,e,ex.2.1⟩
  .obtain⟨o,_,_,_,e,ex,_⟩:=I.hok p _ d;refine⟨⟨o,e,ex.1⟩,fun a j=>?_⟩;cases j;exact⟨o,e,ex.2.1⟩
 |_=>exact False.elim g
def Ib(K:Frag)(T:String)(r:V->List V->Hp->VK->Prop)(f:TE)(t:TA):TE:=fun Y H Q=>f Y H fun x c=>xH K T x c/\t Y c fun d e=>r x d e Q
theorem mJ{apos:Pos}{cpos:Pos}{id:String}(L:PlainAttrs T)(slot:Slot T name id)(l:typeOf (.builtin id)=pure (.type "method_descriptor"))(p:qy X id r)(M:PE X o to)(q:PA X (e::es) t)
  (f:autoParam (attributeBase o name X.env (eval o X.env)=eval o X.env) Zq._auto_1)
  (i:autoParam (((backTo cpos (starEach (e::es) X.env)).all (fun x=>!x.1)&&(backToKw cpos (keywordEach [] X.env)).all (fun x=>x.1.isSome)
   && decide ((e::es).length+([]:List Keyword).length+(if ([]:List Keyword).isEmpty then 0 else 1)<30))=true) Zq._auto_1)
  (g:autoParam ((apos.endLine==cpos.line)=true) Zq._auto_1) (u:autoParam (starEach (e::es) X.env=(false,eval e X.env)::starEach es X.env) Zq._auto_1) (d:autoParam ((backTo cpos (starEach es X.env)).any (·.1)=false) Zq._auto_1) :
  PE X (.Call (.Attribute o name apos) (e::es) [] cpos) (Ib X.K T r to t):=by
 intro c s Y H Q I h;refine wpAny_Call_method_late f i g rfl (aQ (M c s Y H _ I h) fun v w j=>?_);obtain⟨x,y,I1,m,ty,z⟩:=j;obtain⟨N,h2⟩:=Ia I1 m ty;refine⟨T,id,L,slot,l,N,h2,?_⟩;have n:=q cpos c w Y y _ I1 z;rw[u]at n ⊢;refine Calls.callWith_builtin (by show(false||(backTo cpos (starEach es X.env)).any (·.1))=false;rw[d]<;>rfl) (Calls.evalArgs_plain ?_);exact aQ n fun A B k=>by obtain⟨C,D,E,G,J⟩:=k;exact p c B Y D x C v A Q E m G J
def xI(X:Cx)(id:String)(r:V->List V->Hp->VK->Prop):Prop:=
 ∀(a:List (Addr×Obj)) (s:Shared) (Y:St) (H:Hp) (x:V) (b:List V) (v:Value) (c:List Value) (Q:VK),Inv X a Y H s->bq x v->bi b c->r x b H Q->
  wpAny (model X.prog X.w) X.A (call (.builtin id) (v::c)) (EP X a Y Q) X.xe s
theorem bi.one:∀{x a},bi [x] a->∃u,a=[u]/\bq x u
 |_,_,.cons r .nil=>⟨_,rfl,r⟩
theorem bi.rep(h:bi a b):∀k,bi (List.replicate k a).flatten (List.replicate k b).flatten
 |0=>.nil
 |k+1=>by rw[List.replicate_succ,List.replicate_succ,List.flatten_cons,List.flatten_cons];exact bi.append h (bi.rep h k)
theorem xJ(a):∀k (b:List Value),
  List.foldl (fun c d=>c++d) b.toArray (List.replicate k a.toArray)=(b++(List.replicate k a).flatten).toArray
 |0,b=>by simp
 |k+1,b=>by
  have e:b.toArray++a.toArray=(b++a).toArray:=by simp
  have f:(b++a)++(List.replicate k a).flatten=b++(List.replicate (k+1) a).flatten:=by rw[List.replicate_succ,List.flatten_cons,List.append_assoc]
  rw[<-f,<-xJ a k (b++a),<-e,List.replicate_succ,List.foldl_cons]
theorem Inv.lset{Y:St}{a :List Value}(I:Inv X pins Y H s)(c:H l=some (.lst xs))
  (e:s.heap.get? l=some { cls:=.type "list",data:=.seq a.toArray n }) (d:f a.toArray=its'.toArray) (g:bi ys its') (h:ys.length<=sizeLine) :
  Inv X pins Y (aB H l (.lst ys)) { s with heap:=s.heap.update l (Obj.mapSeq f),toks:=t' }:=by
 have q:=PySem.IsL.update e f;rw[d]at q;refine I.write (x:=l) (e:=l) (by rw[c];exact trivial) (.inl rfl) (fun k u j i=>(Heap.get?_update_other s.heap (Obj.mapSeq f) (Ne.symm j)).trans i) ⟨_,q⟩ ?_;exact⟨h,its',_,g,q⟩
theorem Inv.lnew{Y:St}(I:Inv X pins Y H s)(c:bi ys a)(d:ys.length<=sizeLine) :
  Inv X pins Y (aB H s.heap.objs.size (.lst ys)) { s with heap:=s.heap.push { cls:=.type "list",data:=.seq a.toArray },toks:=t' }:=
 I.laid (fun _ _ q=>bn _ q) (bG _) ⟨d,a,0,c,Heap.get?_push_size _ rfl⟩
theorem Inv.fresh{Y:St}(I:Inv X pins Y H s):H s.heap.objs.size=none:=I.hok.fresh (bG _)
theorem Inv.lstM{Y:St}(I:Inv X pins Y H s)(c:H l=some (.lst xs)):xs.length<=sizeLine/\∃(a:List Value) (n:Nat),bi xs a/\xs.length=a.length/\s.heap.get? l=some { cls:=.type "list",data:=.seq a.toArray n }:=by obtain⟨z,a,n,r,e⟩:=I.hok l _ c;exact⟨z,a,n,r,r.length,e⟩
theorem xK(h:n<=sizeLine):Builtin.List.listTooLong n=false:=by unfold Builtin.List.listTooLong;exact decide_eq_false (by lia)
def Ie:V->List V->Hp->VK->Prop:=fun x b H Q=>∃l a y,x=.ref l/\b=[y]/\H l=some (.lst a)/\a.length<sizeLine/\Q .non (aB H l (.lst (a++[y])))
theorem qz:xI X "list.append" Ie:=by intro b s Y H x g v i Q I d f h;obtain⟨l,j,y,rfl,rfl,c,k,q⟩:=h;cases d;obtain⟨u,rfl,ru⟩:=f.one;obtain⟨z,a,n,r,m,e⟩:=I.lstM c;refine call_meets F.slot_list_append ⟨_,e,rfl⟩ F.entry_list_append (F.args_list_append_2 _ _) (PySem.list_append l a.toArray n u (by rw[List.size_toArray];lia)) ⟨e,?_⟩;refine⟨.non,_,I.lset (its':=a++[u]) c e (by simp) (r.append (.cons ru .nil)) ?_,rfl,q⟩;rw[List.length_append,List.length_singleton];lia
def Ig:V->List V->Hp->VK->Prop:=fun x d H Q=>∃l b a c,x=.ref l/\d=[.ref b]/\H l=some (.lst a)/\H b=some (.lst c)/\a.length+c.length<=sizeLine/\Q .non (aB H l (.lst (a++c)))
theorem Ih:xI X "list.extend" Ig:=by
 intro g s Y H x w v y Q I j k h;obtain⟨l,b,A,B,rfl,rfl,i,hB,C,q⟩:=h;cases j;obtain⟨u,rfl,ru⟩:=k.one;cases ru;obtain⟨z,c,n,r,D,e⟩:=I.lstM i;obtain⟨E,a,m,o,p,t⟩:=I.lstM hB;have f:c.toArray.size+a.toArray.size<=sizeLine:=by rw[List.size_toArray,List.size_toArray];lia
 have d:¬ (!c.toArray.isEmpty&&Builtin.List.listTooLong (c.toArray.size+a.toArray.size))=true:=by rw[xK f,Bool.and_false];exact Bool.false_ne_true
 refine call_meets F.slot_list_extend ⟨_,e,rfl⟩ F.entry_list_extend (F.args_list_extend_2 _ _)
  (AutoSeq1.list_extend_list_list_0 l c.toArray n b a.toArray m d (by rw[List.size_toArray];lia) (by lia)) ⟨e,t,?_⟩
 refine⟨.non,_,I.lset (its':=c++a) i e (by simp) (r.append o) ?_,rfl,q⟩;rw[List.length_append];lia
def xL:R2:=fun x y H Q=>∃l b a c,x=.ref l/\y=.ref b/\H l=some (.lst a)/\H b=some (.lst c)/\a.length+c.length<=sizeLine/\∀p,H p=none->Q (.ref p) (aB H p (.lst (a++c)))
theorem Ii:cU X (binaryOp .Add) xL:=by
 intro d s Y H x y v u Q I f g h;obtain⟨l,b,p,t,rfl,rfl,i,hB,w,q⟩:=h;cases f;cases g;obtain⟨z,c,n,r,A,e⟩:=I.lstM i;obtain⟨B,a,C,j,k,m⟩:=I.lstM hB;refine PySem.P.add_list e m ?_ (by rw[List.size_toArray,List.size_toArray];lia);have o:c.toArray++a.toArray=(c++a).toArray:=by simp
 rw[o];exact⟨.ref _,_,I.lnew (t':=s.toks) (r.append j) (by rw[List.length_append];lia),rfl,q _ I.fresh⟩
def xM:R2:=fun x y H Q=>∃l k a,x=.ref l/\y=.int k/\H l=some (.lst a)/\-(2 ^ 63)<=k/\k<2 ^ 63/\a.length * k.toNat<=sizeLine/\
 ∀p,H p=none->Q (.ref p) (aB H p (.lst (List.replicate k.toNat a).flatten))
theorem Ij{α:Type}(a:List α)(k):(List.replicate k a).flatten.length=k * a.length:=by
 induction k with
 |zero=>simp
 |succ k b=>rw[List.replicate_succ,List.flatten_cons,List.length_append,b,Nat.succ_mul,Nat.add_comm]
theorem Ik:cU X (binaryOp .Mult) xM:=by
 intro p s Y H x y v u Q I A B h;obtain⟨l,k,J,rfl,rfl,C,h1,h2,w,q⟩:=h;cases A;obtain⟨t,rfl⟩:=B;obtain⟨z,b,n,r,D,e⟩:=I.lstM C;have d:b.toArray.size * k.toNat<=sizeLine:=by rw[List.size_toArray,<-D];exact w
 have f:¬ b.toArray.size * k.toNat>(2 ^ 63 - 1) / 8:=by
  have:(sizeLine:Nat)<=(2 ^ 63 - 1) / 8:=by decide
  lia
 have g:¬ (!Builtin.List.listFitsIndex k)=true:=by rw[fitsIndex_both h1 h2];exact Bool.false_ne_true
 have c:¬ Builtin.List.listTooLong (b.toArray.size * k.toNat)=true:=by rw[xK d];exact Bool.false_ne_true
 have i:List.foldl (fun j o=>j++o) #[] (List.replicate (if b.toArray.isEmpty=true then 0 else k.toNat) b.toArray)=(List.replicate k.toNat b).flatten.toArray:=by
  have E:∀m:Nat,List.foldl (fun j o=>j++o) #[] (List.replicate m b.toArray)=(List.replicate m b).flatten.toArray:=fun m=>by have:=xJ b m [];rw[List.nil_append]at this;exact this
  rw[E];cases b with
  |nil=>simp
  |cons a L=>rw[if_neg (by simp)]
 refine wpAny_binaryOp_repeat_ref (T:="list") (U:="int") (by decide) ⟨_,e,rfl⟩ (fun G=>typeIs_int G k t) noFill_list_mul F.fills_int_mul F.slot_int_rmul repeat_list F.slot_int_index.lookup
  (call_meets F.slot_int_rmul (typeIs_int s k t) F.entry_int_rmul (F.args_int_rmul_2 _ _) (int___rmul___int_list k t l b.toArray n)
   ⟨e,rfl,⟨_,e,rfl⟩,call_meets F.slot_list_mul ⟨_,e,rfl⟩ F.entry_list_mul (F.args_list_mul_2 _ _) (AutoListH.list___mul___list_int_3 l b.toArray n k t g f c) ⟨e,?_⟩⟩)
 rw[i];exact⟨.ref _,_,I.lnew (t':=s.toks) (r.rep k.toNat) (by rw[Ij,Nat.mul_comm];exact w),rfl,q _ I.fresh⟩
end L2
namespace Att
open PySem PySem.W PySem.Calls PyProof.Rows
theorem Il:∀c  d,WellAll P h d (c.map WData.int)->IntsAre d c:=by
 intro c
 induction c with
 |nil=>intro d w;rw[List.map_nil]at w;cases w;exact .nil
 |cons n c e=>
  intro d w;rw[List.map_cons]at w;cases w with
  |cons a b=>cases a;exact .cons _ _ (e _ b)
theorem Im{l:OpenLaw}(s:l.most=some n)
  (e:l.row.toRowW.claim.pre args=true) (k:WellAll P h c args) :
  ∃a o b,c=[Value.ref a]/\args=[WData.list (b.map WData.int)]/\h.get? a=some { cls:=.type "list",data:=.seq o.toArray }/\IntsAre o b/\b.length<=n:=by
 have m:WShape.hasAll [] args [.list .int]=true:=(pre_splitW e).1;have p:l.pre.holds [] { args:=args }=true:=(pre_splitW e).2;obtain⟨d,r,rfl,h1,h2⟩:=hasAllW_cons m;obtain rfl:=hasAllW_nil h2;obtain⟨u,rfl,h3⟩:=hasW_list h1;obtain⟨b,rfl⟩:=items_int h3;have f:b.length<=n:=by
  unfold OpenLaw.pre at p;have i:(WTm.not (.lt (.lit (.int (n:Int))) (.len (.arg 0)))).holds [] { args:=[.list (b.map .int)] }=true:=by have i:=(holds_andW p).1;rw[s]at i;exact i
  have j:=condW_of i (w_not (w_lt w_lit (w_len_list (w_arg rfl))));rw[List.length_map]at j;refine Nat.le_of_not_lt fun q=>?_;have t:(n:Int)<((b.length:Nat):Int):=by lia
  first
   |(rw[decide_eq_true t]at j;exact absurd j (by decide))
   |(simp at j;lia)
 cases k with
 |cons w1 w2=>
  cases w2;cases w1 with
  |list ho g=>exact⟨_,_,b,rfl,rfl,ho,Il b _ g,f⟩
theorem Io(l:OpenLaw)(args):l.row.toRowW.claim.post args (.bool true) args=true:=
 postW_of (r:=l.row.toRowW) (X:=(true==true))
  (show WShape.has [] (.bool true) .bool=true by first |rfl |decide |simp[WShape.has,WShape.arms,WShape.armsAll])
  (show(WTm.eq .res (.lit (.bool true))).value [] { args:=args,res:=some (.bool true),after:=args }=some (.bool (true==true)) from w_eq_bool (w_res rfl) w_lit) rfl
theorem attach_call{l:OpenLaw}
  (J:l.most=some n) (v:d.params.defaults=[])
  (call:∀w  B c  t x  i  o  pm p e  a  h  u,
   Ground q b [] C w B t x c.heap->D w c.heap->
   c.heap.get? i=some o->o.data=.func (docDef d.name d.params d.body d.scope pm p e)->c.heap.CodeRec p d.name->t d.name=some (.ref i)->
   c.heap.get? a=some { cls:=.type "list",data:=.seq h.toArray }->IntsAre h u->u.length<=n->c.gens = #[]->
   codeAny (model l.prog w) callerA (.call (.ref i) ⟨[.ref a],[]⟩) (fun r s=>r=.ok (.ret (.bool true))/\OldK c.heap s.heap/\s.os=c.os/\AllBare s.gens) c) :
  WalkO q b C D l.row.toRowW d [] (fun f h=>PySem.call f h):=by
 intro w B c t x G L i o pm p e dV kV Y hd y E z M args H as j I N A O;obtain rfl:dV=.none:=Dflts.none E v;obtain rfl:kV=.none:=Dflts.noKw E;obtain⟨a,h,u,rfl,rfl,k,g,m⟩:=Im J j A;refine enter_call (codeAny_mono (call w B c t x i o pm p e a h u G L Y (fd_plain hd) y z k g m M) fun r s Q=>?_);obtain⟨rfl,h2,h3,T⟩:=Q;exact⟨.inl ⟨.bool true,.bool true,[],rfl,fun _=>rfl,.bool true,Io l _,fun _=>⟨List.Pairwise.nil,fun _ U=>(nomatch U)⟩⟩,h2,h3,T⟩
end Att
namespace L2
open PySem PySem.Spec PyProof.Rows
theorem xN:∀{a b},IntsAre a b->bi (b.map V.int) a
 |_,_,.nil=>.nil
 |_,_,.cons n t h=>.cons ⟨t,rfl⟩ (xN h)
def tT(H:Hp):Prop:=∀b,H b=none\/∃o a,H b=some (.frz o (.lst a))
theorem Ip{K}
  (Z:K.In c.heap) (t:c.heap.Ns mainGlobals I) (g:c.heap.Ns builtinsNs N) (Q:∀x:Str,x≠"__name__"->N x=bootBuiltins x) (y:c.heap.NoLimit) (hg:c.gens = #[])
  (M:c.heap.get? a=some { cls:=.type "list",data:=.seq l.toArray }) (hi:IntsAre l J) (hl:J.length<=sizeLine) (hr:ba k callerA)
  (F:∀base,K.In base->base.Ns mainGlobals I->bJ P w K I base X k O fd [x] Y) (p:∀s  u,BindsTo s fd ⟨[u],[]⟩ [(x,u)])
  (hsp:∀H,tT H->cT K H a (J.map V.int)->Y [.ref a] H (fun v _=>v=.bl true) fun _ _ _=>False)
  (R:∀H e i,X [] H c (fun _ _ _=>False) e i->False) :
  codeAny (model P w) callerA (.call (.ref O) ⟨[.ref a],[]⟩) (fun r i=>r=.ok (.ret (.bool true))/\OldK c.heap i.heap/\i.os=c.os/\AllBare i.gens) c:=by
 have rv:=xN hi;have A:=hi.length;have core:∀H:Hp,tT H->cT K H a (J.map V.int)->bH P w H c.heap->(∀b,H b≠none->b=a)->(H a≠none->K.lookup a=none)->
   codeAny (model P w) callerA (.call (.ref O) ⟨[.ref a],[]⟩) (fun r i=>r=.ok (.ret (.bool true))/\OldK c.heap i.heap/\i.os=c.os/\AllBare i.gens) c:=by
  intro H hO hS L hA hK;have f:∀{b:Addr}{o:Obj},c.heap.get? b=some o->H b=none->(jn c.heap H).get? b=some o:=fun e n=>Fv e n;have S:∀{b:Addr}{o:Obj}{B:Array DictEntry}{C:Nat},c.heap.get? b=some o->o.data=.dict B C->H b=none:=fun {b o B C} e d=>by
   cases q:H b with
   |none=>rfl
   |some u=>have T:b=a:=hA b (by rw[q];simp);subst T;rw[M]at e;cases e;have d':Data.seq l.toArray _=Data.dict B C:=d;cases d'
  have j:∀{b:Addr}{m:Str->Option Value},c.heap.Ns b m->(jn c.heap H).Ns b m:=fun {b m} D=>by obtain⟨o,B,C,e,d,r⟩:=D;exact⟨o,B,C,f e (S e d),d,r⟩
  have E:K.In (jn c.heap H):=fun b o e=>f (Z b o e) (by
   cases q:H b with
   |none=>rfl
   |some u=>
    have T:b=a:=hA b (by rw[q];simp);subst T;rw[hK (by rw[q];simp)]at e;cases e)
  have hM:Mod K I (jn c.heap H):=⟨E,j t,⟨N,j g,Q⟩,let⟨mc,h1,h2⟩:=y;⟨mc,j h1,h2⟩⟩
  have e0:ed P w K I (jn c.heap H) callerA [] c H:=⟨rfl,hM,fun b o e=>Fw e,Nat.le_of_eq (Fu _ _),trivial,fun b g=>absurd (show b∈([]:List Addr) from g) (by simp),L,.of_eq hg⟩
  refine codeAny_mono ((F _ E (j t)).run callerA [] c H ⟨[.ref a],[]⟩ [.ref a] [.ref a] _ _ hr e0 (p c (.ref a)) (.cons rfl .nil) (hsp H hO hS)) fun r i h=>?_;cases r with
  |error e=>exact(R H e i h).elim
  |ok fl=>
   cases fl with
   |next=>exact False.elim h
   |brk=>exact False.elim h
   |cont=>exact False.elim h
   |ret u=>
    obtain⟨v,H',os,bare,un,G,r',q⟩:=h;have q':v=.bl true:=q;subst q';obtain rfl:u=Value.bool true:=r';refine⟨rfl,OldK.of_keep fun b o e=>?_,os,bare⟩;cases q:H b with
    |none=>exact un.keep b o e q (by intro z;exact absurd (show b∈([]:List Addr) from z) (by simp)) (by simp)
    |some u=>
     rcases hO b with z |⟨ob,xs,z⟩
     .rw[q]at z;cases z
     .have z2:=un.frzs b ob _ z;obtain⟨e1,_⟩:=L b _ z;obtain⟨e2,_⟩:=G b _ z2;rw[e]at e1;cases e1;exact e2
 cases U:K.lookup a with
 |some o=>have e:=Z a o U;rw[M]at e;cases e;refine core (fun _=>none) (fun _=>.inl rfl) (.inr ⟨_,l.toArray,_,U,rfl,rfl,rfl,by rw[List.size_toArray,A];exact hl,by simpa using rv⟩) (fun b u z=>by have z':(none:Option HO)=some u:=z;cases z') (fun b z=>absurd rfl z) fun z=>absurd rfl z
 |none=>
  refine core (fun b=>if b=a then some (.frz { cls:=.type "list",data:=.seq l.toArray } (.lst (J.map V.int))) else none) (fun b=>?_) (.inl (.inr ⟨{ cls:=.type "list",data:=.seq l.toArray },if_pos rfl⟩)) (fun b u z=>?_) (fun b z=>?_) fun _=>U
  .by_cases g:b=a
   .exact .inr ⟨_,_,if_pos g⟩
   .exact .inl (if_neg g)
  .by_cases g:b=a
   .have z':=(if_pos g).symm.trans z;cases z';subst g;exact⟨M,by rw[List.length_map];exact hl,l,_,rv,M⟩
   .have z':=(if_neg g).symm.trans z;cases z'
  .by_cases g:b=a
   .exact g
   .exact absurd (if_neg g) z
theorem walk_of{l:PySem.W.OpenLaw}{K:Params->Frag}{CX:World->fL}{sp:World->Sp}
  (L:l.most=some n) (y:n<=sizeLine) (z:d.params.defaults=[]) (M:ba k callerA)
  (N:∀w  h,D w h->(K w.params).In h)
  (F:∀w  m  r  h,(K w.params).In h->h.Ns mainGlobals m->m d.name=some (.ref r)->
   ∃fd,(∀s  u,BindsTo s fd ⟨[u],[]⟩ [(x,u)])/\
    ∀base,(K w.params).In base->base.Ns mainGlobals m->bJ l.prog w (K w.params) m base (CX w) k r fd [x] (sp w))
  (hsp:∀w  H  a (t:List Int),t.length<=n->tT H->cT (K w.params) H a (t.map V.int)->sp w [.ref a] H (fun v _=>v=.bl true) fun _ _ _=>False)
  (A:∀w  H  s  e  B,CX w [] H s (fun _ _ _=>False) e B->False) :
  PySem.W.WalkO q i J D l.row.toRowW d [] (fun f E=>PySem.call f E):=by
 refine Att.attach_call L z fun w s₀ O m mb r o pm cd Q a E t G R ho hd S C p j c U=>?_;have I:=N w _ R;obtain⟨fd,hb,X⟩:=F w m r _ I G.T.g C;exact Ip I G.T.g G.T.b G.T.builtins G.T.nolimit U p j (Nat.le_trans c y) M X hb (fun H Y Z=>hsp w H a t c Y Z) fun H e B=>A w H O e B
noncomputable def eV(s:Stmt)(j:Nat):Stmt:=match s with
 |.ClassDef _ _ _ body _ _ _ _ _ _ _=>body.getD j (.Pass ⟨0,0,0,0⟩)
 |_=>.Pass ⟨0,0,0,0⟩
noncomputable def ju(s:Stmt):Arguments:=match s with
 |.FunctionDef _ a _ _ _ _ _ _ _ _=>a
 |_=>{ posonlyargs:=[],args:=[],vararg:=none,kwonlyargs:=[],kw_defaults:=[],kwarg:=none,defaults:=[] }
noncomputable def gC(s:Stmt):List Stmt:=match s with
 |.FunctionDef _ _ b _ _ _ _ _ _ _=>b
 |_=>[]
noncomputable def cZ(s:Stmt):Scope:=match s with
 |.FunctionDef _ _ _ _ _ _ a _ _ _=>a
 |_=>{ kind:=.function,names:=[],isGenerator:=false,isCoroutine:=false }
structure lB (K:Frag) (x qual:Str) (st:Stmt) (f:Addr) (fd:FuncData):Prop where
 ex:∃(oc:Value) (od:Option Addr) (kV doc pm:Value) (an:Option Addr) (cdv ct:Value) (osl:Array (Option Value)),
  fd=fnOf x qual (ju st) (gC st) (cZ st) .none kV doc pm an cdv ct/\K.lookup f=some ⟨oc,od,.func fd,osl⟩/\codeIn K cdv qual=true
 kp:keepIn K (.ref f)=true
theorem lB.binds{K:Frag}{st}(F:lB K x a st f fd)
  (h:∀kV b pm  e  c i  g,g.length=d.length->bindArgs (fnOf x a (ju st) (gC st) (cZ st) .none kV b pm e c i) ⟨g,[]⟩=pure (d.zip g)):fM K fd d []:=by
 obtain⟨l,m,kV,b,pm,e,c,i,j,rfl,lk,k⟩:=F.ex;exact .all (h kV b pm e c i)
theorem oy{K:Frag}{st}{kV }(l:K.lookup f=some ⟨i,j,.func (fnOf x a (ju st) (gC st) (cZ st) .none kV d pm g b h),e⟩)
  (c:codeIn K b a=true) (k:keepIn K (.ref f)=true):lB K x a st f (fnOf x a (ju st) (gC st) (cZ st) .none kV d pm g b h):=⟨⟨i,j,kV,d,pm,g,b,h,e,rfl,l,c⟩,k⟩
theorem xO(a:ba k A):A.units+1<cLine:=Nat.lt_of_le_of_lt (Nat.add_le_add_left (by decide:1<=64) _) a.units
section
variable{X:Cx}
theorem pv(i){pos}(b:autoParam (X.N[i]? = some x) Zq._auto_1)(c:qp X.env.scope x:=by first |exact Or.inl rfl |exact Or.inr (Or.inl rfl) |exact Or.inr (Or.inr rfl))(hd:autoParam ((x==("__debug__":Str))=false) Zr._auto_1)
  (a:autoParam ((x==("__classdict__":Str))=false) Zr._auto_1):PE X (.Name x pos) (bw i):=Fz b c hd a
end
theorem eI{B:Prop}(h:B):if false=true then A else B:=by rw[if_neg Bool.false_ne_true];exact h
theorem eJ{B:Prop}(h:A):if true=true then A else B:=by rw[if_pos rfl];exact h
def bQ(H a:Hp):Prop:=∀b o,H b=some o->a b=some o
theorem bQ.seq{K}(e:bQ H b)(h:cT K H a c):cT K b a c:=by
 rcases h with(h |⟨o,h⟩) |h
 .exact .inl (.inl (e _ _ h))
 .exact .inl (.inr ⟨o,e _ _ h⟩)
 .exact .inr h
end L2
set_option maxHeartbeats 4000000
namespace L2
open PySem PySem.Spec PyProof.Rows
section
variable{κ:Type}[DecidableEq κ]
noncomputable def iK(a:List (κ×V))(k:κ):Option V:=(a.find? fun b=>decide (b.1=k)).map (·.2)
noncomputable def fi(a:List (κ×V))(k:κ)(v:V):List (κ×V):=
 if (a.any fun b=>decide (b.1=k))=true then a.map (fun b=>if b.1=k then(b.1,v) else b) else a++[(k,v)]
theorem tU{p:κ×V}(e:p.1=k):iK (p::r) k=some p.2:=by simp[iK,List.find?_cons,e]
theorem tV{p:κ×V}(e:¬ p.1=k):iK (p::r) k=iK r k:=by simp[iK,List.find?_cons,e]
theorem qA(k):∀a:List (κ×V),(a.any fun b=>decide (b.1=k))=(iK a k).isSome
 |[]=>rfl
 |p::r=>by
  rw[List.any_cons]
  by_cases e:p.1=k
  .simp only[tU e,decide_eq_true e,Bool.true_or,Option.isSome_some]
  .rw[tV e,decide_eq_false e,Bool.false_or];exact qA k r
theorem xP(a)(k:κ)(v):(fi a k v).length<=a.length+1:=by
 unfold fi;split
 .rw[List.length_map];lia
 .rw[List.length_append,List.length_cons,List.length_nil];lia
theorem Iq{a:List (κ×V)}(v)(h:iK a k=none):fi a k v=a++[(k,v)]:=by unfold fi;rw[qA,h];exact if_neg (by decide)
theorem gx.isSome_eq(r:gx o u):o.isSome=u.isSome:=by
 cases o with
 |none=>cases u with
  |none=>rfl
  |some _=>exact(show False from r).elim
 |some _=>cases u with
  |none=>exact(show False from r).elim
  |some _=>rfl
theorem KV.any(r:KV a c)(k:κ):(a.any fun b=>decide (b.1=k))=c.any fun b=>decide (b.1=k):=by
 unfold KV at r
 induction r with
 |nil=>rfl
 |cons h t d=>rw[List.any_cons,List.any_cons,d,h.1]
theorem KV.repl(r:KV b d)(k:κ)(f:bq y u) :
  KV (b.map fun a=>if a.1=k then(a.1,y) else a) (d.map fun a=>if a.1=k then(a.1,u) else a):=by
 unfold KV at r ⊢
 induction r with
 |nil=>exact .nil
 | @cons p q i j h t g=>
  rw[List.map_cons,List.map_cons];refine .cons ?_ g;obtain⟨c,h2⟩:=h
  by_cases e:p.1=k
  .rw[if_pos e,if_pos (c.symm.trans e)];exact⟨c,f⟩
  .rw[if_neg e,if_neg (fun z=>e (c.trans z))];exact⟨c,h2⟩
theorem KV.put(r:KV a b)(k:κ)(c:bq y u):KV (fi a k y) (stored b k u):=by
 unfold fi stored;rw[r.any k]
 by_cases e:(b.any fun d=>decide (d.1=k))=true
 .rw[if_pos e,if_pos e];exact r.repl k c
 .rw[if_neg e,if_neg e];exact Paired.snoc r ⟨rfl,c⟩
theorem KV.length{a:List (κ×V)}(r:KV a b):a.length=b.length:=Paired.length r
end
theorem xQ(r:bq (kV k) u):(gw P w).is k u=true:=by
 cases k with
 |inl i=>obtain⟨t,e⟩:=(show ∃t,u=Value.int i t from r);subst e;exact Fq P w i t
 |inr x=>obtain⟨t,e⟩:=(show ∃t,u=Value.str x t from r);subst e;exact Fs P w x t
theorem xR:∀{a b},bi (a.map kV) b->ItemsAre (gw P w) a b
 |[],_,r=>by rw[List.map_nil]at r;cases r;exact .nil
 |k::a,_,r=>by
  rw[List.map_cons]at r;cases r with
  |cons h t=>exact .cons (xQ h) (xR t)
abbrev KT(H:Hp):List (List bf×V)->List (List bf×Addr×Value)->Prop:=Paired fun p q=>p.1=q.1/\H q.2.1=some (.tup (p.1.map kV))/\bq p.2 q.2.2
theorem KT.val(r:KT H a f)(k):gx (iK a k) ((atKey f k).map (·.2)):=by
 induction r with
 |nil=>exact True.intro
 | @cons p q j c h t i=>
  obtain⟨g,_,h2⟩:=h
  by_cases e:p.1=k
  .have d:q.1=k:=g.symm.trans e;have b:atKey (q::c) k=some q.2:=by simp[atKey,List.find?_cons,d]
   rw[tU e,b];exact h2
  .have d:¬ q.1=k:=fun z=>e (g.trans z);have b:atKey (q::c) k=atKey c k:=by simp[atKey,List.find?_cons,d]
   rw[tV e,b];exact i
theorem KT.repl(r:KT H a d)(k)(f:bq y u) :
  KT H (a.map fun c=>if c.1=k then(c.1,y) else c) (d.map (putAt k u)):=by
 induction r with
 |nil=>exact .nil
 | @cons p q i j h t g=>
  rw[List.map_cons,List.map_cons];refine .cons ?_ g;obtain⟨b,h2,h3⟩:=h;unfold putAt
  by_cases e:p.1=k
  .rw[if_pos e,if_pos (b.symm.trans e)];exact⟨b,h2,f⟩
  .rw[if_neg e,if_neg (fun z=>e (b.trans z))];exact⟨b,h2,h3⟩
theorem KT.put(r:KT H a c)(k)(g:H b=some (.tup (k.map kV)))(d:bq y u) :
  KT H (fi a k y) (storedH c k b u):=by
 have e:(a.any fun f=>decide (f.1=k))=(atKey c k).isSome:=by rw[qA,(r.val k).isSome_eq,Option.isSome_map]
 unfold fi storedH;rw[e]
 by_cases q:(atKey c k).isSome=true
 .rw[if_pos q,if_pos q];exact r.repl k d
 .rw[if_neg q,if_neg q];exact Paired.snoc r ⟨rfl,g,d⟩
theorem KT.keeps(r:KT H a d)(f:∀b e,H b=some (.tup e)->c b=some (.tup e)):KT c a d:=
 Paired.mapP r fun _ _ z=>⟨z.1,f _ _ z.2.1,z.2.2⟩
theorem xS(ok:bH P w H h)(e:Rd H a u):cI P w H h a u:=e.ok ok
theorem Ir(ok:bH P w H h)(e:Rd H a (.dK b)):b.length<=sizeLine/\(a==sysModules)=false/\∃c,KV b c/\h.DictOf (gw P w) a c:=
 show cI P w H h a (.dK b) from xS ok e
theorem Iu(ok:bH P w H h)(e:H a=some (.dK b)):b.length<=sizeLine/\(a==sysModules)=false/\∃c,KV b c/\h.DictOf (gw P w) a c:=Ir ok (.inl e)
theorem xT(ok:bH P w H h)(e:H a=some (.tup (b.map kV))):(tupleKind (gw P w)).is h b a:=by
 obtain⟨_,c,r,o,h1,h2,n,h3⟩:=(show cI P w H h a (.tup (b.map kV)) from ok a _ e)
 exact⟨o,c.toArray,n,h1,h2,h3,by simpa using xR r⟩
theorem Iw(ok:bH P w H h)(e:Rd H a (.dT b)):b.length<=sizeLine/\(a==sysModules)=false/\
  ∃d,KT H b d/\h.DictOfH (tupleKind (gw P w)) a d:=by
 obtain⟨z,y,d,r,o,g,i,h1,h2,h3,j,k⟩:=(show cI P w H h a (.dT b) from xS ok e)
 refine⟨z,y,d,r,o,g,i,h1,h2,h3,j,fun x c=>?_,k⟩;have all:∀{l:List (List bf×V)}{m:List (List bf×Addr×Value)},KT H l m->∀x∈m,(tupleKind (gw P w)).is h x.1 x.2.1:=by
  intro l m q
  induction q with
  |nil=>intro x c;exact nomatch c
  | @cons p q s u f t n=>
   intro x c;rcases List.mem_cons.mp c with e |c
   .subst e;exact xT ok (by rw[<-f.1];exact f.2.1)
   .exact n x c
 exact all r x c
theorem Ix(ok:bH P w H h)(e:H a=some (.dT b)):b.length<=sizeLine/\(a==sysModules)=false/\
  ∃c,KT H b c/\h.DictOfH (tupleKind (gw P w)) a c:=Iw ok (.inl e)
def lC(H:Hp)(a:Addr)(y v:V)(d:Hp):Prop:=
 (∃c k,H a=some (.dK c)/\y=kV k/\c.length<sizeLine/\d = aB H a (.dK (fi c k v)))\/
 ∃c k b,H a=some (.dT c)/\y=.ref b/\H b=some (.tup (k.map kV))/\c.length<sizeLine/\d = aB H a (.dT (fi c k v))
theorem lC.k{k}(e:H a=some (.dK b))(c:b.length<sizeLine):lC H a (kV k) v (aB H a (.dK (fi b k v))):=.inl ⟨b,k,e,rfl,c,rfl⟩
theorem lC.t{k}(e:H a=some (.dT c))(d:H b=some (.tup (k.map kV)))(f:c.length<sizeLine) :
  lC H a (.ref b) v (aB H a (.dT (fi c k v))):=.inr ⟨c,k,b,e,rfl,d,f,rfl⟩
theorem Inv.big{Y:St}(I:Inv X pins Y H s):sysModules<s.heap.objs.size:=by have h:mainGlobals<s.heap.objs.size:=(I.mod.glob.keeps I.bk).lt;exact Nat.lt_trans (by decide) h
theorem xW{Y:St}(I:Inv X pins Y H s)(f:oq (H a))(g:Heap.SameBut a s.heap c)(h:∃q,c.get? a=some q)(new:cI X.prog X.w (aB H a d) c a d) :
  Inv X pins Y (aB H a d) { s with heap:=c,toks:=t' }:=
 I.write (x:=a) (e:=a) f (.inl rfl) (fun b q i z=>(g.2 b i).trans z) h new
theorem Iy(z:b.length<=sizeLine)(hd:(a==sysModules)=false)(rel:KV b c)(f:d.DictOf (gw P w) a c) :
  cI P w e d a (.dK b):=⟨z,hd,c,rel,f⟩
theorem Iz{Y:St}(M:A.units+1<cLine)(I:Inv X pins Y H s)(g:lC H a y v x)(B:bq y u)(C:bq v r)(h:∀D,Inv X pins Y x D->Q () D) :
  wpAny (model X.prog X.w) A (setItem (.ref a) u r) Q E s:=by
 rcases g with⟨d,k,e,j,l,m⟩ |⟨d,k,b,e,j,G,l,m⟩
 .subst j m;obtain⟨z,hd,N,rel,dd⟩:=Iu I.hok e;have n:N.length<=sizeLine:=by rw[<-rel.length];exact z
  have p:(fi d k v).length<=sizeLine:=by have:=xP d k v;lia
  refine wpAny_setItem_pairs (hsz:=n) (xQ B) dd fun J f t=>h _ ?_;have O:∃q,J.get? a=some q:=let⟨q,_,_,i,_⟩:=f;⟨q,i⟩;exact xW I (by rw[e];exact True.intro) t O (Iy p hd (rel.put k C) f)
 .subst j m;cases(show u=Value.ref b from B);obtain⟨z,hd,R,rel,dd⟩:=Ix I.hok e;have n:R.length<=sizeLine:=by rw[<-Paired.length rel];exact z
  have p:(fi d k v).length<=sizeLine:=by have:=xP d k v;lia
  refine wpAny_setItem_heap (hsz:=n) (tupleKind_room_in1 M) (xT I.hok G) dd fun J f t=>h _ ?_;obtain⟨q,S,T,i,h2,h3,U,_,Z⟩:=f;refine xW I (by rw[e];exact True.intro) t ⟨q,i⟩ ⟨p,hd,_,(rel.put k G C).keeps fun c ys L=>?_,q,S,T,i,h2,h3,U,Z⟩;rw[aV (Ft L e (fun z=>nomatch z))];exact L
def IA(c h d:TE):TS:=fun D Y H=>d Y H fun v e=>c Y e fun x f=>h Y f fun y g=>∃a b,x=.ref a/\lC g a y v b/\D.nx Y b
theorem IB(d:X.A.units+1<cLine)(M:PE X o td)(f:PE X i ty)(j:PE X value tv)(k:swapsWith value (some (.Subscript o i pos')) pos.line X.env=pure false) :
  PS X (.Assign [.Subscript o i pos'] value pos) (IA td ty tv):=by
 intro b s Y H D I h;refine wpAny_Assign_Subscript (aQ (j b s Y H _ I h) fun r l ⟨v,m,I1,n,p⟩=>aQ (M b l Y m _ I1 p) fun u q ⟨x,t,w,z,B⟩=>aQ (f b q Y t _ w B) fun N O c=>?_) k;obtain⟨y,Q,C,E,a,G,ex,g,J⟩:=c;subst ex;obtain rfl:u=Value.ref a:=z;exact Iz d C g E n fun R L=>⟨Y,G,L,J⟩
theorem IC(h:Heap)(a:sysModules<h.objs.size):cI P w H (h.push { cls:=.type "dict",data:=.dict #[] }) h.objs.size (.dT []):=
 ⟨Nat.zero_le _,beq_eq_false_iff_ne.mpr (Ne.symm (Nat.ne_of_lt a)),[],.nil,_,#[],0,Heap.get?_push_size _ rfl,⟨rfl,rfl,rfl⟩,rfl,rfl,List.nodup_nil⟩
def ID:TE:=fun _ H Q=>∀p,H p=none->Q (.ref p) (aB H p (.dT []))
theorem IE:PE X (.Dict [] [] pos) ID:=fun b s Y H Q I h=>wpAny_Dict_empty ⟨.ref s.heap.objs.size,_,I.laid (a:=s.heap.objs.size) (o:=.dT []) (t':=s.toks) (fun _ _ q=>bn _ q) (bG _) (IC s.heap I.big),rfl,h _ (I.hok.fresh (bG _))⟩
noncomputable def dI(b:Env):List (Str×NameKind)->List (Str×Addr)->List (Str×Addr)
 |[],a=>a
 |(n,k)::r,a=>if k==.free then dI b r ((n,(b.cells.lookup n).getD 0)::a) else dI b r a
theorem xX(d):∀b  e,(∀y∈b,y.2=.free->(d.cells.lookup y.1).isSome=true)->
  (forIn b e fun(x:Str×NameKind) (g:List (Str×Addr))=>if (x.2==NameKind.free)=true then(do let c <-cellOf d x.1;pure (ForInStep.yield ((x.1,c)::g))) else(pure (ForInStep.yield g):Sem (ForInStep (List (Str×Addr)))))=pure (dI d b e)
 |[],e,_=>rfl
 | (n,k)::r,e,h=>by
  have i:=fun a=>xX d r a fun y l=>h y (bC _ l);rw[List.forIn_cons];unfold dI
  by_cases f:(k==NameKind.free)=true
  .obtain⟨c,j⟩:=Option.isSome_iff_exists.mp (h (n,k) List.mem_cons_self (by simpa using f));simp only[f,if_true];have:cellOf d n=pure c:=by unfold cellOf;rw[j]
   rw[this,j];exact i _
  .simp only[f];exact i _
theorem xY(h:∀y∈a.names,y.2=.free->(b.cells.lookup y.1).isSome=true):closureFor a b=pure (dI b a.names []):=by have e:=xX b a.names [] h;unfold closureFor;exact congrArg (fun m=>m >>= pure) e
theorem tW:∀{a f c},(∀y∈a,y.2=.free->(b.cells.lookup y.1).isSome=true)->
  (∀c,f.lookup x=some c->b.cells.lookup x=some c)->(dI b a f).lookup x=some c->b.cells.lookup x=some c
 |[],_,_,_,g,h=>g _ h
 | (n,k)::r,f,c,i,g,h=>by
  unfold dI at h
  by_cases j:(k==NameKind.free)=true
  .rw[if_pos j]at h;refine tW (fun y l=>i y (bC _ l)) (fun o e=>?_) h;rw[List.lookup_cons]at e;cases m:x==n with
   |true=>
    rw[m]at e;have:x=n:=by simpa using m
    subst this;obtain⟨d,hd⟩:=Option.isSome_iff_exists.mp (i (x,k) List.mem_cons_self (by simpa using j));rw[hd]at e ⊢;exact e
   |false=>rw[m]at e;exact g _ e
  .rw[if_neg j]at h;exact tW (fun y l=>i y (bC _ l)) g h
theorem qC:∀{a acc},((x,NameKind.free)∈a\/(acc.lookup x).isSome=true)->((dI env a acc).lookup x).isSome=true
 |[],_,h=>by rcases h with h |h;cases h;exact h
 | (n,k)::r,acc,h=>by
  unfold dI
  by_cases b:(k==NameKind.free)=true
  .rw[if_pos b];refine qC ?_;rw[List.lookup_cons];cases c:x==n with
   |true=>exact .inr rfl
   |false=>
    rcases h with h |h
    .rcases List.mem_cons.mp h with e |h
     .cases e;simp at c
     .exact .inl h
    .exact .inr h
  .rw[if_neg b];refine qC ?_;rcases h with h |h
   .rcases List.mem_cons.mp h with e |h
    .cases e;simp at b
    .exact .inl h
   .exact .inr h
noncomputable abbrev fN(a:Env):Str×NameKind->Str×NameKind:=fun(n,k)=>if (k==NameKind.free&&a.scope.kind==.function&&a.kindOf n==some .cell) then(n,NameKind.cell) else(n,k)
theorem tY:∀{a:List (Str×NameKind)}{x}{k},a.lookup x=some k->
  (a.map (fN env)).lookup x=some k\/(k=.free/\(a.map (fN env)).lookup x=some .cell)
 |[],_,_,h=>by simp at h
 | (n,k)::r,x,f,h=>by
  have g:=@tY env r x f;rw[List.map_cons];have e:fN env (n,k)=(n,k)\/(k=.free/\fN env (n,k)=(n,.cell)):=by
   by_cases c:(k==NameKind.free&&env.scope.kind==.function&&env.kindOf n==some .cell)=true
   .refine .inr ⟨?_,if_pos c⟩;cases k<;>first |rfl |(simp at c)
   .exact .inl (if_neg c)
  cases b:x==n with
  |true=>
   simp only[List.lookup_cons,b]at h;cases h;rcases e with e |⟨d,e⟩
   .rw[e];exact .inl (by simp only[List.lookup_cons,b])
   .rw[e];exact .inr ⟨d,by simp only[List.lookup_cons,b]⟩
  |false=>simp only[List.lookup_cons,b]at h;rcases e with e |⟨d,e⟩<;>(rw[e];simp only[List.lookup_cons,b];exact g h)
theorem xZ:∀{a:List (Str×NameKind)}{x},a.lookup x=none->(a.map (fN env)).lookup x=none
 |[],_,_=>rfl
 | (n,k)::r,x,h=>by
  have d:=@xZ env r x;rw[List.map_cons];have e:fN env (n,k)=(n,k)\/fN env (n,k)=(n,.cell):=by
   by_cases c:(k==NameKind.free&&env.scope.kind==.function&&env.kindOf n==some .cell)=true
   .exact .inr (if_pos c)
   .exact .inl (if_neg c)
  cases b:x==n with
  |true=>simp only[List.lookup_cons,b]at h;cases h
  |false=>simp only[List.lookup_cons,b]at h;rcases e with e |e<;>(rw[e];simp only[List.lookup_cons,b];exact d h)
theorem IF(I:Nat->Shared->Prop)
  (turn:∀n s,I n s->wpAny (model prog w) A (pyNext it) (fun r j=>match r with
   |none=>R (.ok .next) j
   |some v=>wpAny (model prog w) A (letOwnedTupleGo target it v) (fun _ i=>wpAny (model prog w) A (assign target a v) (fun _ o=>
     wpAny (model prog w) A (forIn f true fun c r=>if r=true then do let ok <-isTrue c a (eval c a);pure (ForInStep.yield ok) else pure (ForInStep.yield r)) (fun ok k=>
      if ok=true then wpAny (model prog w) A (eval e a) (fun x p=>
       wpAny (model prog w) A (call (.builtin "list.append") [g,x]) (fun _ q=>∃m,m<n/\I m q) (fun _ _=>False) p) (fun _ _=>False) k
      else ∃m,m<n/\I m k) (fun _ _=>False) o) (fun _ _=>False) i) (fun _ _=>False) j) (fun _ _=>False) s)
  (n) (h:I n s) :
  codeAny (model prog w) A (.compLoop (.ListComp e [⟨target,iter,f,0⟩] d pos) 0 it g a) R s:=by
 refine codeAny_loop rfl I (fun n s y=>?_) n h;show wpAny _ A ((compTurn (.ListComp e [⟨target,iter,f,0⟩] d pos) 0 it g a).onRaise (fun x=>do noteFrame x a;theTreesLotGoes x)) _ _ s;refine wpAny_noted (wpAny_noRaise ?_);rw[compTurn_list];refine aj (wpAny_standAt (aj (wpAny_mono (turn n s y) (fun r j t=>?_) fun _ _ b=>b)));cases r with
 |none=>exact bd t
 |some v=>
  refine aj (wpAny_mono t (fun _ i l=>?_) fun _ _ b=>b);refine aj (wpAny_mono l (fun _ o z=>aj (wpAny_mono z (fun ok k u=>?_) fun _ _ b=>b)) fun _ _ b=>b);cases ok with
  |false=>exact bd ⟨rfl,u⟩
  |true=>exact aj (aj (wpAny_mono u (fun x p B=>aj (wpAny_mono B (fun _ q C=>bd (bd ⟨rfl,C⟩)) fun _ _ b=>b)) fun _ _ b=>b))
theorem qD:∀a  n  b,((x,NameKind.cell)∉a)->(cellsFrom n a b).lookup x=b.lookup x
 |[],_,_,_=>rfl
 | (y,k)::r,n,b,h=>by
  unfold cellsFrom;have c:(x,NameKind.cell)∉r:=fun z=>h (bC _ z);split
  .rename_i d;rw[qD r _ _ c,List.lookup_cons];have:(x==y)=false:=by
    cases e:x==y with
    |false=>rfl
    |true=>exact absurd (by rw[eq_of_beq e,<-eq_of_beq d];exact List.mem_cons_self) h
   rw[this]
  .exact qD r _ _ c
theorem tZ:∀a (h:Heap)  b,(cellsFrom h.objs.size a b).lookup x=some c->b.lookup x=some c\/(h.objs.size<=c/\(x,NameKind.cell)∈a/\(pushCells h a).IsCell c none)
 |[],_,_,e=>.inl e
 | (y,k)::r,h,b,e=>by
  unfold cellsFrom at e;unfold pushCells;split at e
  .rename_i d;rw[if_pos d];have sz:(h.push { cls:=.type "cell",data:=.cell none }).objs.size=h.objs.size+1:=Heap.size_push ..;rw[<-sz]at e;rcases tZ r _ _ e with z |⟨f,g,i⟩
   .rw[List.lookup_cons]at z;split at z
    .rename_i j;cases z;refine .inr ⟨bG _,?_,⟨_,pushCells_keeps r _ _ _ (Heap.get?_push_size _ rfl),rfl⟩⟩;rw[eq_of_beq j,<-eq_of_beq d];exact List.mem_cons_self
    .exact .inl z
   .exact .inr ⟨by rw[sz]at f;lia,bC _ g,i⟩
  .rename_i d;rw[if_neg d];rcases tZ r _ _ e with z |⟨f,g,i⟩
   .exact .inl z
   .exact .inr ⟨f,bC _ g,i⟩
theorem ua:∀a  n  b,(x,NameKind.cell)∈a->(cellsFrom n a b).lookup x=some c->n<=c
 | (y,k)::r,n,b,f,e=>by
  unfold cellsFrom at e
  by_cases d:(x,NameKind.cell)∈r
  .split at e
   .have:=ua r _ _ d e;lia
   .exact ua r _ _ d e
  .rcases List.mem_cons.mp f with z |z
   .cases z;rw[if_pos (by rfl),qD r _ _ d,List.lookup_cons,beq_self_eq_true]at e;cases e;exact bG _
   .exact absurd z d
theorem ub:∀a  n  b,((x,NameKind.cell)∈a\/(b.lookup x).isSome=true)->((cellsFrom n a b).lookup x).isSome=true
 |[],_,_,h=>by rcases h with h |h;cases h;exact h
 | (y,k)::r,n,b,h=>by
  unfold cellsFrom;split
  .rename_i c;refine ub r _ _ ?_;rcases h with h |h
   .rcases List.mem_cons.mp h with z |z
    .cases z;right;rw[List.lookup_cons,beq_self_eq_true];rfl
    .exact .inl z
   .right;rw[List.lookup_cons];split
    .rfl
    .exact h
  .rename_i c;refine ub r _ _ ?_;rcases h with h |h
   .rcases List.mem_cons.mp h with z |z
    .cases z;exact absurd rfl c
    .exact .inl z
   .exact .inr h
theorem uc{c:Addr}{lo:Nat}:∀i (n:Nat) (d:List (Str×Addr)),(∀x y c,lo<=c->d.lookup x=some c->d.lookup y=some c->x=y)->(∀x c,d.lookup x=some c->c<n)->lo<=c->(cellsFrom n i d).lookup x=some c->(cellsFrom n i d).lookup y=some c->x=y
 |[],_,_,h,_,l,g,f=>h _ _ _ l g f
 | (z,k)::r,n,d,h,hb,l,g,f=>by
  unfold cellsFrom at g f;split at g
  .rename_i j;rw[if_pos j]at f;refine uc r (n+1) ((z,n)::d) (fun x y c l g f=>?_) (fun x c e=>?_) l g f
   .rw[List.lookup_cons]at g f;split at g<;>split at f
    .rename_i a _ b;rw[eq_of_beq a,eq_of_beq b]
    .cases g;exact absurd (hb _ _ f) (Nat.lt_irrefl _)
    .cases f;exact absurd (hb _ _ g) (Nat.lt_irrefl _)
    .exact h _ _ _ l g f
   .rw[List.lookup_cons]at e;split at e
    .cases e;exact Nat.lt_succ_self _
    .exact Nat.lt_succ_of_lt (hb _ _ e)
  .rename_i j;rw[if_neg j]at f;exact uc r n d h hb l g f
theorem IG
  (h:Q { scope,locals:=s.heap.objs.size,globals,cells:=cellsFrom (s.heap.objs.size+1) scope.names cl,qual,func:=none,code:=a.code,frame:=a.frame,builtins:=a.builtins } { s with heap:=pushCells (s.heap.push { cls:=.type "dict",data:=.dict #[] }) scope.names }) :
  wpAny M A (newFunctionEnv scope globals cl [] qual none .none (some a)) Q E s:=by
 simp only[newFunctionEnv,Option.isSome_some,if_true];refine aj (wpAny_alloc ?_);refine aj (wpAny_layCells _ (fun name kind cells=>by cases b:kind==NameKind.cell<;>simp[b]) _ _ _ _ ?_);rw[show({ s with heap:=s.heap.push { cls:=.type "dict",data:=.dict #[] } }:Shared).heap.objs.size=s.heap.objs.size+1 from Heap.size_push ..];exact aj (bd (bd h))
abbrev bU(X:Cx)(scope:Scope)(N':List Str)(C:Addr)(fp:List Addr)(s₂:Shared)(H₂:Hp)(pl:List (Addr×Obj)):Cx where
 prog:=X.prog
 w:=X.w
 K:=X.K
 mg:=X.mg
 base:=X.base
 A:=X.A
 N:=N'
 s₀:=s₂
 H₀:=H₂
 env:=compEnvC scope (cellsFrom (C+1) scope.names (dI X.env scope.names [])) C X.env
 outer:=X.stack
 stack:=X.stack
 ex:=fp
 fn:=fun y=>scope.names.lookup y==some .cell
 calm:=X.calm
 pn:=X.pn++pl
 xe:=fun _ _=>False
structure al (X:Cx) (scope:Scope) (own capN:List Str) (caps:List Nat):Prop where
 kind:scope.kind=.function
 one:∀y∈scope.names,scope.names.lookup y.1=some y.2
 free:∀y∈scope.names,y.2=.free->X.env.kindOf y.1=some .cell\/X.env.kindOf y.1=some .free
 loc:∀y∈scope.names,y.2=.local->scope.names.lookup y.1=some .local
 caps:caps.map (fun j=>X.N[j]?)=capN.map some
 capf:∀x∈capN,scope.names.lookup x=some .free
noncomputable def ej(own:List Str)(a:List Nat)(Y:St):St:=own.map (fun _=>none)++a.map (fun j=>(Y[j]?).getD none)
theorem al.cells{caps:List Nat}(S:al X scope own capN caps)(ok:X.Ok):∀y∈scope.names,y.2=.free->(X.env.cells.lookup y.1).isSome=true:=fun y a b=>by obtain⟨c,d⟩:=ok.has y.1 (S.free y a b);rw[d];rfl
theorem al.cl{caps:List Nat}(S:al X scope own capN caps)(ok:X.Ok)(h:(dI X.env scope.names []).lookup x=some c):X.env.cells.lookup x=some c:=
 tW (S.cells ok) (fun _ e=>by simp at e) h
theorem IH{Y:St}{C:Addr}{fp:List Addr}(S:al X scope own capN caps)(I:Inv X f Y H₂ B)
  (hf:∀b∈fp,gY X f H₂ b) (M:∀b∈fp,b<B.heap.objs.size) (t:B.heap.objs.size<=C) (O:∀b o,B.heap.get? b=some o->L.get? b=some o) (hn:L.Ns C m) (Q:∀x c,(cellsFrom (C+1) scope.names (dI X.env scope.names [])).lookup x=some c->(dI X.env scope.names []).lookup x=some c\/(C+1<=c/\L.IsCell c none)) :
  Inv (bU X scope (own++capN) C fp B H₂ f) [] (ej own caps Y) H₂ { B with heap:=L,toks:=tk }:=by
 have cl:=fun {x:Str}{c:Addr}=>S.cl (x:=x) (c:=c) I.ok;have lt:∀{x:Str}{c:Addr},X.env.cells.lookup x=some c->c<B.heap.objs.size:=fun e=>by obtain⟨v,q⟩:=I.cell _ _ e;exact q.lt
 have D:∀{x:Str}{c:Addr},X.env.cells.lookup x=some c->C+1<=c->False:=fun e z=>absurd (Nat.lt_of_lt_of_le (lt e) (Nat.le_trans t (Nat.le_of_succ_le z))) (Nat.lt_irrefl _);have a:∀{x:Str}{c:Addr},(cellsFrom (C+1) scope.names (dI X.env scope.names [])).lookup x=some c->X.env.cells.lookup x=some c\/(C+1<=c/\L.IsCell c none):=fun {x c} e=>(Q x c e).imp (fun z=>cl z) fun z=>z;have r:∀x,((relabel scope X.env).names.lookup x=some .cell\/(relabel scope X.env).names.lookup x=some .free)->scope.names.lookup x=some .free\/scope.names.lookup x=some .cell:=fun x H=>by
  cases e:scope.names.lookup x with
  |none=>have z:(relabel scope X.env).names.lookup x=none:=xZ (env:=X.env) e;rw[z]at H;rcases H with q |q<;>cases q
  |some k=>
   rcases tY (env:=X.env) e with z |⟨z,_⟩
   .have z':(relabel scope X.env).names.lookup x=some k:=z;rw[z']at H;rcases H with q |q
    .cases q;exact .inr rfl
    .cases q;exact .inl rfl
   .rw[z];exact .inl rfl
 have stk:∀b,b≠X.env.locals->b∉X.fs->b∉bN X.stack:=fun b J g z=>(List.mem_cons.mp (I.stkSub b z)).elim J g;refine⟨⟨I.ok.mod,S.kind,I.ok.glob,I.ok.blt,t,fun x y c J g=>?inj,fun x H=>?_,fun x c h e=>?cab,I.ok.hd,I.ok.frames,.inl rfl,fun b A=>⟨?_,fun x c h=>?exf⟩,
   I.bs,Nat.le_trans I.ok.bsz I.sz,fun b o e A=>?_,fun b A=>stk b (hf b A).2.1 (hf b A).2.2.1,I.stack,I.stkFree⟩,
  rfl,I.bare,Un.kept O,⟨m,hn,fun i x v J g h3=>?_⟩,fun x c h=>?_,I.hok.fresh t,fun x c h=>?frc,fun p hp=>?_,I.hok.kept O,?_⟩
 case inj=>
  rcases a J with R |⟨R,_⟩<;>rcases a g with z2 |⟨z2,_⟩
  .exact I.ok.inj x y c R z2
  .exact(D R z2).elim
  .exact(D z2 R).elim
  .exact uc (lo:=C+1) scope.names (C+1) (dI X.env scope.names []) (fun x y c l e _=>(D (cl e) l).elim) (fun x c e=>Nat.lt_succ_of_le (Nat.le_trans (Nat.le_of_lt (lt (cl e))) t)) R J g
 case cab=>have e1:=eq_of_beq (show(scope.names.lookup x==some NameKind.cell)=true from h);have:=ua scope.names (C+1) (dI X.env scope.names []) (PySem.mem_of_lookup e1) e;exact Nat.le_trans t (Nat.le_of_succ_le this)
 case exf=>
  rcases a h with z |⟨z,_⟩
  .exact(hf b A).2.2.2.2.1 x c z
  .exact Ne.symm (Nat.ne_of_lt (Nat.lt_of_lt_of_le (M b A) (Nat.le_trans t (Nat.le_of_succ_le z))))
 case frc=>
  rcases a h with z |⟨z,_⟩
  .exact I.freeC x c z
  .exact I.hok.fresh (Nat.le_trans t (Nat.le_of_succ_le z))
 .refine Option.isSome_iff_exists.mp (ub scope.names (C+1) (dI X.env scope.names []) ?_);rcases r x H with q |q
  .exact .inr (qC (env:=X.env) (.inl (PySem.mem_of_lookup q)))
  .exact .inl (PySem.mem_of_lookup q)
 .exact Nat.ne_of_lt (Nat.lt_of_lt_of_le (M b A) t)
 .rcases(hf b A).2.2.2.1 with z |z
  .exact I.ok.noex b o e z
  .exact absurd (Nat.lt_of_lt_of_le (bv (I.ok.bs b o e).1) z) (Nat.lt_irrefl _)
 .
  have hi:own.length<=i:=by
   refine Nat.le_of_not_lt fun a1=>?_;unfold ej at g;rw[List.getElem?_append_left (by simpa using a1),List.getElem?_map]at g;cases q:own[i]? with
   |none=>rw[q]at g;cases g
   |some y=>rw[q]at g;cases g
  have T:capN[i - own.length]? = some x:=by
   have:(own++capN)[i]? = some x:=J
   rwa [List.getElem?_append_right hi]at this
  have U:(caps.map (fun j=>(Y[j]?).getD none))[i - own.length]? = some (some v):=by
   unfold ej at g
   rwa [List.getElem?_append_right (by simpa using hi),List.length_map]at g
  rw[List.getElem?_map]at U;obtain⟨j,hj,s⟩:=Option.map_eq_some_iff.mp U;have hX:X.N[j]? = some x:=by have q:=congrArg (fun l=>l[i - own.length]?) S.caps;simp only[List.getElem?_map,hj,T,Option.map_some]at q;exact Option.some.inj q
  have hY:Y[j]? = some (some v):=by
   cases q:Y[j]? with
   |none=>rw[q]at s;cases s
   |some z=>rw[q]at s;simp at s;rw[s]
  have E:=S.capf x (List.mem_of_getElem? T);have w:(x,NameKind.free)∈scope.names:=PySem.mem_of_lookup E;have Z:=S.free _ w rfl;obtain⟨m',a3,hl⟩:=I.loc;obtain⟨u,ru,l⟩:=hl j x v hX hY (Z.elim (fun q=>.inr (.inl q)) fun q=>.inr (.inr q));refine⟨u,ru,.inr ⟨?_,?_⟩⟩
  .rcases tY (env:=X.env) E with z |⟨_,z⟩
   .exact .inr z
   .exact .inl z
  .rcases l with⟨l,_⟩ |⟨_,c,hc,G⟩
   .have l':X.env.kindOf x=some .local:=l;rcases Z with q |q<;>(rw[l']at q;cases q)
   .obtain⟨c',a0⟩:=Option.isSome_iff_exists.mp (qC (env:=X.env) (acc:=[]) (.inl w));have:=cl a0;rw[hc]at this;cases this;obtain⟨o,ho,hd⟩:=G;have nc:(x,NameKind.cell)∉scope.names:=fun z=>by have:=S.one _ z;rw[E]at this;cases this
    exact⟨c,(qD scope.names (C+1) (dI X.env scope.names []) nc).trans a0,o,O c o ho,hd⟩
 .rcases a h with z |⟨_,z⟩
  .obtain⟨v,o,ho,hd⟩:=I.cell x c z;exact⟨v,o,O c o ho,hd⟩
  .exact⟨_,z⟩
 .have a2:p∈X.pn++f:=by simpa using hp
  obtain⟨e,n,ne,nf,d⟩:=I.pin p a2;exact⟨O _ _ e,n,Nat.ne_of_lt (Nat.lt_of_lt_of_le (bv e) t),stk p.1 ne nf,d⟩
 .unfold ej;have hl:=congrArg List.length S.caps;simp only[List.length_map]at hl;show(own.map (fun _=>(none:Option V))++caps.map (fun j=>(Y[j]?).getD none)).length=(own++capN).length;rw[List.length_append,List.length_append,List.length_map,List.length_map,hl]
def mK(X:Cx)(b:List Expr)(t:TT):Prop:=
 ∀(a:List (Addr×Obj)) (s:Shared) (Y:St) (H:Hp) (Q:Bool->Hp->Prop),Inv X a Y H s->t Y H Q->
  wpAny (model X.prog X.w) X.A (forIn b true fun c r=>if r=true then do let ok <-isTrue c X.env (eval c X.env);pure (ForInStep.yield ok) else pure (ForInStep.yield r)) (TP X a Y Q) X.xe s
def II:TT:=fun _ H Q=>Q true H
theorem IJ:mK X [] II:=fun _ _ _ H _ I h=>wpAny_tests_nil ⟨H,I,h⟩
theorem IK(h:PT X c t):mK X [c] t:=fun a s Y H Q I q=>wpAny_tests_one (h a s Y H Q I q)
def jZ(own:List Str)(d:List Nat)(k:TI)(g:TG)(l:TT)(n:TE):TE:=fun Y H Q=>k Y H fun J o=>∃W:Nat->Nat->List V->St->Hp->Prop,(∃m,W 0 m [] (ej own d Y) o)/\∀i m a f H,W i m a f H->
 (J.stop i H/\a.length<=sizeLine/\∀p,H p=none->Q (.ref p) (aB H p (.lst a)))\/
 (J.go i H/\∀x h,J.yld i H x h->g x f h fun e q=>l e q fun b j=>if b=true then n e j fun y r=>a.length<sizeLine/\∃c,c<m/\W (i+1) c (a++[y]) e r else ∃c,c<m/\W (i+1) c a e j)
theorem ya{Y:St}{RR:Value->Addr->Result->Shared->Prop}(S:al X scope own capN caps)(hc:X.calm=true)(hi:PI X tg iter wi)
  (c5:∀C E s₂ H₂ pl,PG (bU X scope (own++capN) C E s₂ H₂ pl) tg g/\mK (bU X scope (own++capN) C E s₂ H₂ pl) ifs tc/\PE (bU X scope (own++capN) C E s₂ H₂ pl) elt te)
  (I:Inv X f Y H s) (h:jZ own caps wi g tc te Y H Q)
  (c6:∀D C  s'  M  m,Inv X f Y M s'->gY X f M C->s'.heap.Ns C m->Q (.ref D) M->RR (.ref D) C (.ok .next) s') :
  wpAny (model X.prog X.w) X.A (eval iter X.env) (fun x s₁=>wpAny (model X.prog X.w) X.A (pyIter x) (fun it s₂=>wpAny (model X.prog X.w) X.A (newList []) (fun b4 s₃=>
   wpAny (model X.prog X.w) X.A (newFunctionEnv scope X.env.globals (dI X.env scope.names []) [] X.env.qual none .none (some X.env)) (fun a8 s₄=>
    codeAny (model X.prog X.w) X.A (.compStart (.ListComp elt [⟨tg,iter,ifs,0⟩] scope pos) 0 it b4 { a8 with scope:=relabel scope X.env }) (RR b4 a8.locals) s₄) X.xe s₃) X.xe s₂) X.xe s₁) X.xe s:=by
 refine aQ (hi f s Y H _ I h) fun v s1 h1=>aQ h1 fun d3 B h2=>?_;obtain⟨it,E,tn,J,Z,e,I2,T,b1,f2,W,⟨m0,w0⟩,turn⟩:=h2;subst e;have a0:∀b∈E,b<B.heap.objs.size:=fun b t=>by obtain⟨o,e,_⟩:=T.obj _ _ b1 b t;exact bv e
 refine wpAny_newObj_type (IG ?_);dsimp only;generalize a4:B.heap.push { cls:=.type "list",dict:=none,data:=.seq ([]:List Value).toArray }=G;have hC:G.objs.size=B.heap.objs.size+1:=by rw[<-a4,Heap.size_push]
 have l:B.heap.objs.size<=G.objs.size:=by rw[hC];exact Nat.le_succ _
 have a5:B.heap.objs.size≠G.objs.size:=by rw[hC];exact Nat.ne_of_lt (Nat.lt_succ_self _)
 have below:∀b,b<B.heap.objs.size->b≠G.objs.size:=fun b t=>by rw[hC];exact Nat.ne_of_lt (Nat.lt_succ_of_lt t)
 have b5:(G.push { cls:=.type "dict",data:=.dict #[] }).objs.size=G.objs.size+1:=Heap.size_push ..;have L:∀x c,(cellsFrom (G.objs.size+1) scope.names (dI X.env scope.names [])).lookup x=some c->(dI X.env scope.names []).lookup x=some c\/(G.objs.size+1<=c/\(pushCells (G.push { cls:=.type "dict",data:=.dict #[] }) scope.names).IsCell c none):=fun x c e=>by rw[<-b5]at e ⊢;exact(tZ scope.names _ _ e).imp (fun z=>z) fun b6=>by obtain⟨z1,_,z2⟩:=b6;exact⟨z1,z2⟩
 have a1:(pushCells (G.push { cls:=.type "dict",data:=.dict #[] }) scope.names).Ns G.objs.size (fun _=>none):=(Heap.Ns.new G (.type "dict")).keeps (pushCells_keeps _ _);have old:∀b o,B.heap.get? b=some o->(pushCells (G.push { cls:=.type "dict",data:=.dict #[] }) scope.names).get? b=some o:=fun b o e=>pushCells_keeps _ _ b o (bn _ (a4▸bn _ e));have a2:(pushCells (G.push { cls:=.type "dict",data:=.dict #[] }) scope.names).get? B.heap.objs.size=some { cls:=.type "list",dict:=none,data:=.seq ([]:List Value).toArray }:=pushCells_keeps _ _ _ _ (bn _ (a4▸Heap.get?_push_size _ rfl));generalize pushCells (G.push { cls:=.type "dict",data:=.dict #[] }) scope.names=h₁ at L a1 old a2 ⊢;generalize c7:G.objs.size=C at a1 a5 l below L ⊢;generalize j:B.heap.objs.size=D at a2 a5 ⊢;clear a4 hC c7 b5 G;obtain⟨hg,ht,he⟩:=c5 C E B Z f;have Ic:Inv (bU X scope (own++capN) C E B Z f) [] (ej own caps Y) Z { B with heap:=h₁,toks:=B.toks }:=IH S I2 f2 a0 (by rw[j];rw[j]at l;exact l) old a1 L;have a6:∀x c,(cellsFrom (C+1) scope.names (dI X.env scope.names [])).lookup x=some c->c≠D:=fun x c e z=>by
  rcases L x c e with e |⟨e,_⟩
  .obtain⟨v,q⟩:=I2.cell x c (S.cl I2.ok e);exact absurd q.lt (by rw[z,j];exact Nat.lt_irrefl _)
  .rw[j]at l;exact absurd (Nat.lt_of_le_of_lt l (Nat.lt_of_lt_of_le (Nat.lt_succ_self C) e)) (by rw[z];exact Nat.lt_irrefl _)
 have a7:D∉bN X.stack:=fun z=>by
  rcases List.mem_cons.mp (I2.stkSub D z) with q |q
  .exact absurd I2.lt (by rw[<-q,j];exact Nat.lt_irrefl _)
  .exact I2.nofs (by rw[j];exact bG _) q
 have a3:∀p∈X.pn++f,p.1≠D:=fun p N z=>absurd (bv (I2.pin p N).1) (by rw[z,j];exact Nat.lt_irrefl _);have a9:∀{Y':St}{M:Hp}{s':Shared}{O:List Value}{k:Nat},Inv (bU X scope (own++capN) C E B Z f) [] Y' M s'->s'.heap.get? D=some { cls:=.type "list",data:=.seq O.toArray k }->M D=none->
   Inv (bU X scope (own++capN) C E B Z f) [(D,{ cls:=.type "list",data:=.seq O.toArray k })] Y' M s':=fun J e n=>J.pins_of fun p N=>by
  obtain rfl:=List.mem_singleton.mp N;exact⟨e,n,a5,a7,fun v z=>by cases z⟩
 have b2:∀{M:Hp}{o:Obj},(∀b∈E,M b=none)->∀b∈E,gY (bU X scope (own++capN) C E B Z f) [(D,o)] M b:=fun hn b t=>by
  obtain⟨f0,f1,c8,f3,f4,f5⟩:=f2 b t;refine⟨hn b t,Nat.ne_of_lt (Nat.lt_of_lt_of_le (a0 b t) (by rw[j];rw[j]at l;exact l)),fun z=>(List.mem_cons.mp (I2.stkSub b z)).elim f1 c8,.inl t,fun x c e=>?cl,fun p N=>?_⟩
  case cl=>
   rcases L x c e with e |⟨e,_⟩
   .exact f4 x c (S.cl I2.ok e)
   .exact Ne.symm (Nat.ne_of_lt (Nat.lt_of_lt_of_le (a0 b t) (Nat.le_trans (by rw[j];rw[j]at l;exact l) (Nat.le_of_succ_le e))))
  rcases List.mem_append.mp N with N |N
  .exact f5 p N
  .obtain rfl:=List.mem_singleton.mp N;intro z;have z':D=b:=z;exact absurd (a0 b t) (by rw[<-z',j];exact Nat.lt_irrefl _)
 have b0:codeAny (model X.prog X.w) X.A (.compLoop (.ListComp elt [⟨tg,iter,ifs,0⟩] scope pos) 0 (.ref it) (.ref D) (compEnvC scope (cellsFrom (C+1) scope.names (dI X.env scope.names [])) C X.env)) (RR (.ref D) C) { B with heap:=h₁,toks:=B.toks }:=by
  refine IF (fun n s'=>∃i ys O k Y' M,Inv (bU X scope (own++capN) C E B Z f) [(D,{ cls:=.type "list",data:=.seq O.toArray k })] Y' M s'/\tn i s'.heap/\(∀b∈E,M b=none)/\bi ys O/\W i n ys Y' M) ?_ m0
   ⟨0,[],[],0,_,Z,a9 Ic a2 (I2.hok.fresh (by rw[j];exact bG _)),T.keep _ _ _ b1 fun b _ o e=>old b o e,fun b t=>(f2 b t).1,.nil,w0⟩
  rintro n s3 ⟨i,ys,O,k,Y3,H3,I3,b7,b8,r3,w3⟩;rcases turn i n ys Y3 H3 w3 with⟨stop,hz,qn⟩ |⟨go,step⟩
  .refine aQ (T.done (bU X scope (own++capN) C E B Z f) rfl rfl rfl hc i _ s3 Y3 H3 _ I3 (b2 b8) b7 stop) fun r s4 b9=>?_;obtain⟨hr,R⟩:=b9;subst hr;obtain⟨eD,nD,_⟩:=R.pin (D,_) (aT _ (List.mem_singleton.mpr rfl));have U:H3 D=none:=nD;have I5:Inv X f Y (aB H3 D (.lst ys)) s4:=by
    refine I2.call' (ch:=E) R.os ⟨R.base.keep,R.base.slot,fun b o e n hx=>?_,R.base.there,fun b xs e=>?_,fun b o u e=>?_,fun b ps e=>?_⟩ (fun b u e=>?_) R.bare fun b t=>⟨(f2 b t).2.2.2.1,(f2 b t).2.1,(f2 b t).2.2.2.2.1,(f2 b t).2.2.2.2.2⟩
    .rw[aV (by intro z;exact absurd (bv e) (by rw[z,j];exact Nat.lt_irrefl _))];exact R.base.free b o e n hx
    .have q:=R.base.tups b xs e;rw[aV (il q U)];exact q
    .have q:=R.base.frzs b o u e;rw[aV (il q U)];exact q
    .obtain⟨more,q⟩:=R.base.tbls b ps e;exact⟨more,by rw[aV (il q U)];exact q⟩
    .by_cases t:b=D
     .subst t;rw[bP]at e;cases e;exact⟨hz,O,k,r3,eD⟩
     .rw[aV t]at e;exact(R.hok b u e).stay (fun _ _ _ q=>q) (fun c q=>by rw[aV (il q U)];exact q) fun c xs q=>by rw[aV (il q U)];exact q
   obtain⟨m,hm,_⟩:=R.loc;exact c6 D C s4 _ m I5 (I2.fpOk (by rw[j];rw[j]at l;exact l) (by rw[aV (Ne.symm a5)];exact R.free)) hm (qn D U)
  .refine aQ (T.item (bU X scope (own++capN) C E B Z f) rfl rfl rfl hc i _ s3 Y3 H3 _ I3 (b2 b8) b7 go) fun r s4 c0=>?_;obtain⟨u,hr,h4⟩:=c0;subst hr;refine aQ h4 fun _ s5 c1=>?_;obtain⟨x,H5,I5,r5,y5,b3,c9⟩:=c1;have d0:=I5.pinned (b2 c9) (T.obj _ _ b3);refine aQ (hg _ s5 Y3 H5 x u _ d0 r5 (step x H5 y5)) fun _ s6 c2=>?_;obtain⟨Y6,H6,I6,q6⟩:=c2;refine aQ (ht _ s6 Y6 H6 _ I6 q6) fun ok s7 c3=>?_;obtain⟨H7,I7,q7⟩:=c3;have eg:∀{Y8:St}{H8:Hp}{s8:Shared},Inv (bU X scope (own++capN) C E B Z f) ([(D,{ cls:=.type "list",data:=.seq O.toArray k })]++ot E s5.heap) Y8 H8 s8->tn (i+1) s8.heap/\(∀b∈E,H8 b=none):=fun {Y8 H8 s8} I8=>by refine⟨T.keep _ _ _ b3 fun b t o e=>(I8.pin (b,o) (aT _ (aT _ (qu t e)))).1,fun b t=>?_⟩;obtain⟨o,e,d⟩:=T.obj _ _ b3 b t;exact(I8.pin (b,o) (aT _ (aT _ (qu t e)))).2.1
   cases ok with
   |false=>obtain⟨m',hm,w7⟩:=q7;obtain⟨t7,n7⟩:=eg I7;exact⟨m',hm,i+1,ys,O,k,Y6,H7,I7.unpinned,t7,n7,r3,w7⟩
   |true=>
    refine aQ (he _ s7 Y6 H7 _ I7 q7) fun u8 s8 c4=>?_;obtain⟨y,H8,I8,r8,hz,m',hm,w8⟩:=c4;obtain⟨t8,n8⟩:=eg I8;have I9:=I8.unpinned;obtain⟨eD,nD,d1,d4,_⟩:=I9.pin (D,_) (aT _ (List.mem_singleton.mpr rfl));have hl:=r3.length;refine call_meets F.slot_list_append ⟨_,eD,rfl⟩ F.entry_list_append (F.args_list_append_2 _ _) (PySem.list_append D O.toArray k u8 (by rw[List.size_toArray];lia)) ⟨eD,?_⟩;have q:=PySem.IsL.update eD (fun a=>a.push u8);have e2:O.toArray.push u8=(O++[u8]).toArray:=by simp
    rw[e2]at q;have keep:∀b o,b≠D->s8.heap.get? b=some o->(s8.heap.update D (Obj.mapSeq fun a=>a.push u8)).get? b=some o:=fun b o t e=>(Heap.get?_update_other s8.heap _ (Ne.symm t)).trans e;have d2:Inv (bU X scope (own++capN) C E B Z f) [] Y6 H8 { s8 with heap:=s8.heap.update D (Obj.mapSeq fun a=>a.push u8) }:=by refine(I9.pins_of (pins':=[]) fun p N=>absurd N (by simp)).turned (t':=s8.toks) (it:=D) keep nD d1 (.inr (by rw[j];exact bG _)) a6 fun p N=>?_;exact a3 p (by simpa using N)
    exact⟨m',hm,i+1,ys++[y],O++[u8],_,Y6,H8,a9 d2 q nD,T.keep _ _ _ t8 fun b t o e=>keep b o (by intro z;exact absurd (a0 b t) (by rw[z,j];exact Nat.lt_irrefl _)) e,n8,r3.append (.cons r8 .nil),w8⟩
 exact codeAny_compStart_list b0 (wpAny_noRaise (T.self _ 0 _ _ _ (T.keep _ _ _ b1 fun b _ o e=>old b o e) b0))
theorem qE(S:al X scope own capN caps)(n:X.calm=true)(p:PI X tg iter wi)
  (a:∀C c d i k,PG (bU X scope (own++capN) C c d i k) tg g/\mK (bU X scope (own++capN) C c d i k) ifs tc/\PE (bU X scope (own++capN) C c d i k) elt te)
  (r:autoParam (∀x,foldedSetIterable iter X.env x=pure x) Zs._auto_1):PE X (.ListComp elt [⟨tg,iter,ifs,0⟩] scope pos) (jZ own caps wi g tc te):=by
 intro l s Y H Q I h;rw[eval_ListComp];refine wpAny_comprehension_free (use:=none) rfl r (xY (S.cells I.ok)) S.kind S.loc ?_;refine ya S n p a I h fun D C t u m v f w q=>⟨m,w,fun z j=>?_⟩
 exact⟨.ref D,u,v.turned (t':=t.toks) (it:=C) (fun b o y e=>(j.2 b y).trans e) f.1 f.2.1 f.2.2.2.1 f.2.2.2.2.1 f.2.2.2.2.2,rfl,q⟩
theorem IL{c}(B:X.N.Nodup)(j:X.N[i]? = some y)(E:gy X.env.scope y)(S:al X scope own capN caps)(G:X.calm=true)(J:PI X tg iter wi)
  (k:∀C l n p w,PG (bU X scope (own++capN) C l n p w) tg g/\mK (bU X scope (own++capN) C l n p w) ifs tc/\PE (bU X scope (own++capN) C l n p w) elt te)
  (r:autoParam (swapsWith (.ListComp elt [⟨tg,iter,ifs,0⟩] scope pos) (some (.Name y py)) c.line X.env=pure true) Zq._auto_1)
  (L:autoParam (∀x,foldedSetIterable iter X.env x=pure x) Zs._auto_1) (M:X.fn y=true\/X.env.scope.names.lookup y=some .local:=by first |exact .inl rfl |exact .inr rfl |assumption) :
  PS X (.Assign [.Name y py] (.ListComp elt [⟨tg,iter,ifs,0⟩] scope pos) c) (tu (jZ own caps wi g tc te) (qr i)):=by
 intro d s Y H D I h;rw[exec_Assign_Name_used _ _ _ _ r];refine aj (wpAny_standAt (aj ?_));show wpAny _ X.A (do let _ <-comprehension (.ListComp elt [⟨tg,iter,ifs,0⟩] scope pos) scope X.env _ (newList []) false (eval iter X.env) (some (assign (.Name y py) X.env))) _ _ s;refine aj (wpAny_mono (wpAny_comprehension_free (use:=some (assign (.Name y py) X.env)) (Q:=fun _ t=>SP X d D .next t) rfl L (xY (S.cells I.ok)) S.kind S.loc ?_) (fun _ t O=>bd (bd O)) fun _ _ e=>e);refine ya S G J k I h fun Da C t R m T f U q=>?_;show wpAny _ X.A (assign (.Name y py) X.env (.ref Da)) _ _ _;refine wpAny_assign_Name (wV T B j E (v:=.ref Da) rfl (fun Z I2 ⟨a,sb,ha⟩=>⟨m,?_,fun h' u=>?_⟩) M)
 .refine U.sameBut sb ?_;rcases ha with z |z
  .rw[z];exact f.2.1
  .exact Ne.symm (f.2.2.2.2.1 y a z)
 .exact⟨_,R,I2.turned (t':=Z.toks) (it:=C) (fun b o hb e=>(u.2 b hb).trans e) f.1 f.2.1 f.2.2.2.1 f.2.2.2.2.1 f.2.2.2.2.2,q⟩
end L2
namespace L2
open PySem
theorem IM(h:Q (s.heap.get? a) s):wpAny M A (loadIfAlive a) Q E s:=by intro Γ p b;unfold loadIfAlive;rw[Sem.wp_loadIfAlive];exact bd h Γ p b
abbrev fj(h:Heap)(z TI TO:Addr)(a f1:Value):Prop:=
 h.get? z=some { cls:=.type "zip",dict:=none,data:=.fields #[a,f1,.bool false,.ref TI,.ref TO],slots:=#[] }
abbrev dJ(h:Heap)(T:Addr)(a b c:Value):Prop:=h.get? T=some { cls:=.type "tuple",data:=.seq #[a,b,c] }
theorem ud(e:dJ s.heap T a b c)
  (h:∀d,d.get? T=some { cls:=.type "tuple",data:=.seq ((#[a,b,c]:Array Value).setIfInBounds k x) }->Heap.SameBut T s.heap d->Q () { s with heap:=d }) :
  wpAny (model prog w) A (updateSeq T (·.setIfInBounds k x)) Q E s:=by
 refine wpAny_updateSeq e rfl (h _ ?_ (Heap.SameBut.update ..));rw[Heap.get?_update_self _ e rfl];simp[Obj.mapSeq]
theorem IP{TI TO }{Q:Value->Shared->Prop}
  (nd:[z,TI,TO,n,r,B].Nodup) (hl:∀l∈[l1,l2,l3],∀j∈[z,TI,TO,n,r,B],l≠j)
  (hz:fj s.heap z TI TO .none (.bool false)) (a6:dJ s.heap TI (.ref n) (.ref r) (.ref B)) (a7:dJ s.heap TO a b c)
  (h1:s.heap.IsListIter n l1 k) (h2:s.heap.IsListIter r l2 k) (h3:s.heap.IsListIter B l3 k) (a8:s.heap.IsList l1 xs) (a9:s.heap.IsList l2 ys) (b0:s.heap.IsList l3 zs)
  (hx:xs[k]? = some x) (hy:ys[k]? = some y) (hv:zs[k]? = some v)
  (hQ:∀H,fj H z TI TO (rawInt s.heap.objs.size) (.bool false)->dJ H TO x y v->H.IsListIter n l1 (k+1)->H.IsListIter r l2 (k+1)->H.IsListIter B l3 (k+1)->dJ H s.heap.objs.size x y v->H.objs.size=s.heap.objs.size+1->
   (∀c o,c∉[z,TO,n,r,B]->s.heap.get? c=some o->H.get? c=some o)->Q (.ref s.heap.objs.size) { s with heap:=H }) :
  wpAny (model prog w) A (Builtin.«zip.__next__» ⟨[.ref z],[]⟩) (fun fin s'=>∃v,fin=.done (.ret v)/\Q v s') E s:=by
 simp only[List.nodup_cons,List.mem_cons,List.not_mem_nil,or_false,not_or,not_false_eq_true,and_true,List.nodup_nil]at nd;obtain⟨⟨c0,C,z1,z2,z3⟩,⟨b9,c6,c7,c8⟩,⟨I,J,L⟩,⟨a0,a1⟩,a2⟩:=nd;have n1:∀j∈[z,TI,TO,n,r,B],l1≠j:=hl l1 (by simp);have n2:∀j∈[z,TI,TO,n,r,B],l2≠j:=hl l2 (by simp);have n3:∀j∈[z,TI,TO,n,r,B],l3≠j:=hl l3 (by simp);show wpAny _ _ (field (.ref z) 2 >>= _) _ _ _;refine aj (wpAny_field hz rfl (x:=.bool false) rfl ?_);show wpAny _ _ (field (.ref z) 3 >>= _) _ _ _;refine aj (wpAny_field hz rfl (x:=.ref TI) rfl ?_);refine aj (wpAny_seqItems a6 rfl ?_);show wpAny _ _ (Builtin.SmallTypes.ownedTupleIsFree (.ref z) >>= _) _ _ _;refine aj ?_;unfold Builtin.SmallTypes.ownedTupleIsFree;refine aj (wpAny_field hz rfl (x:=.none) rfl (bd ?_));simp only[if_true];refine aj (wpAny_rule ?_);refine aj (wpAny_field hz rfl (x:=.ref TO) rfl ?_);refine aj (wpAny_setField_rec hz (by simp) fun h₁ U d=>?_)
 replace U:fj h₁ z TI TO .ellipsis (.bool false):=U
 refine aj ?_;simp only[List.zipIdx_cons,List.zipIdx_nil,List.forIn_cons,List.forIn_nil];refine aj (aj (wpAny_onRaise ?_));show wpAny _ _ (Builtin.SmallTypes.nextOf (.ref n) >>= _) _ _ _;refine aj (wpAny_nextOf_list_item (h1.extBut d.extBut (Ne.symm z1)) (a8.extBut d.extBut (n1 z (by simp))) hx fun h₂ b1 f=>bd ?_);have N:dJ h₂ TO a b c:=f.extBut _ _ I (d.extBut _ _ (Ne.symm C) a7);refine aj (wpAny_seqItems N rfl ?_);refine aj (ud N fun h₃ D g=>?_)
 replace D:dJ h₃ TO x b c:=D
 refine aj (wpAny_letGo (bd ?_));refine aj (aj (wpAny_onRaise ?_));show wpAny _ _ (Builtin.SmallTypes.nextOf (.ref r) >>= _) _ _ _;refine aj (wpAny_nextOf_list_item (((h2.extBut d.extBut (Ne.symm z2)).extBut f.extBut (Ne.symm a0)).extBut g.extBut (Ne.symm J))
  (((a9.extBut d.extBut (n2 z (by simp))).extBut f.extBut (n2 n (by simp))).extBut g.extBut (n2 TO (by simp))) hy fun h₄ b2 i=>bd ?_)
 have O:dJ h₄ TO x b c:=i.extBut _ _ J D;refine aj (wpAny_seqItems O rfl ?_);refine aj (ud O fun h₅ G m=>?_)
 replace G:dJ h₅ TO x y c:=G
 refine aj (wpAny_letGo (bd ?_));refine aj (aj (wpAny_onRaise ?_));show wpAny _ _ (Builtin.SmallTypes.nextOf (.ref B) >>= _) _ _ _;refine aj (wpAny_nextOf_list_item (((((h3.extBut d.extBut (Ne.symm z3)).extBut f.extBut (Ne.symm a1)).extBut g.extBut (Ne.symm L)).extBut i.extBut (Ne.symm a2)).extBut m.extBut (Ne.symm L))
  (((((b0.extBut d.extBut (n3 z (by simp))).extBut f.extBut (n3 n (by simp))).extBut g.extBut (n3 TO (by simp))).extBut i.extBut (n3 r (by simp))).extBut m.extBut (n3 TO (by simp))) hv fun h₆ b3 t=>bd ?_)
 have R:dJ h₆ TO x y c:=t.extBut _ _ L G;refine aj (wpAny_seqItems R rfl ?_);refine aj (ud R fun h p u=>?_)
 replace p:dJ h TO x y v:=p
 refine aj (wpAny_letGo (bd (bd ?_)));refine aj (wpAny_seqItems p rfl ?_);refine aj (wpAny_newTuple ?_);have b4:∀c o,c∉[z,TO,n,r,B]->s.heap.get? c=some o->h.get? c=some o:=fun c o hc e=>by simp only[List.mem_cons,List.not_mem_nil,or_false,not_or]at hc;obtain⟨c1,c2,c3,c4,c5⟩:=hc;exact u.extBut _ _ c2 (t.extBut _ _ c5 (m.extBut _ _ c2 (i.extBut _ _ c4 (g.extBut _ _ c2 (f.extBut _ _ c3 (d.extBut _ _ c1 e))))))
 have a3:h.objs.size=s.heap.objs.size:=by rw[u.1,t.1,m.1,i.1,g.1,f.1,d.1]
 have a4:fj h z TI TO .ellipsis (.bool false):=u.extBut _ _ C (t.extBut _ _ z3 (m.extBut _ _ C (i.extBut _ _ z2 (g.extBut _ _ C (f.extBut _ _ z1 U)))));have b5:h.IsListIter n l1 (k+1):=((((b1.extBut g.extBut (Ne.symm I)).extBut i.extBut a0).extBut m.extBut (Ne.symm I)).extBut t.extBut a1).extBut u.extBut (Ne.symm I);have b6:h.IsListIter r l2 (k+1):=((b2.extBut m.extBut (Ne.symm J)).extBut t.extBut a2).extBut u.extBut (Ne.symm J);have b7:h.IsListIter B l3 (k+1):=b3.extBut u.extBut (Ne.symm L);have S:z<h.objs.size:=bv a4;show wpAny _ _ (Builtin.SmallTypes.ownedTupleHandOut (.ref z) (.ref h.objs.size) >>= _) _ _ _;refine aj ?_;unfold Builtin.SmallTypes.ownedTupleHandOut;have b8:fj (h.push { cls:=.type "tuple",data:=.seq #[x,y,v] }) z TI TO .ellipsis (.bool false):=bn _ a4;refine aj (wpAny_setField_rec b8 (by simp) fun h₉ X Y=>?_)
 replace X:fj h₉ z TI TO (rawInt h.objs.size) (.bool false):=X
 refine wpAny_setField_rec X (by simp) fun hA M Z=>?_
 replace M:fj hA z TI TO (rawInt h.objs.size) (.bool false):=M
 have up:∀c o,c≠z->h.get? c=some o->hA.get? c=some o:=fun c o c1 e=>Z.extBut _ _ c1 (Y.extBut _ _ c1 (bn _ e));have a5:dJ hA h.objs.size x y v:=Z.extBut _ _ (Nat.ne_of_gt S) (Y.extBut _ _ (Nat.ne_of_gt S) (Heap.get?_push_size _ rfl));have T:hA.objs.size=h.objs.size+1:=by rw[Z.1,Y.1,Heap.size_push]
 rw[a3]at M a5 T;refine bd ⟨_,rfl,?_⟩;show Q (.ref h.objs.size) _;rw[a3];exact hQ hA M (up _ _ (Ne.symm C) p) (b5.at fun o e=>up _ o (Ne.symm z1) e) (b6.at fun o e=>up _ o (Ne.symm z2) e) (b7.at fun o e=>up _ o (Ne.symm z3) e) a5 T fun c o hc e=>up c o (fun q=>hc (by simp[q])) (b4 c o hc e)
theorem yb{TI TO T:Addr}(b:f1=.bool false\/f1=.bool true)(a:fj s.heap z TI TO (rawInt T) f1)(h:s.heap.get? T=some g)
  (f:∀c,fj c z TI TO (rawInt T) (.bool true)->Heap.SameBut z s.heap c->Q false { s with heap:=c }):wpAny (model prog w) A (Builtin.SmallTypes.ownedTupleIsFree (.ref z)) Q E s:=by
 unfold Builtin.SmallTypes.ownedTupleIsFree;refine aj (wpAny_field a rfl (x:=rawInt T) rfl ?_);show wpAny _ _ (loadIfAlive (Int.toNat T) >>= _) _ _ _;refine aj (IM ?_);rw[Int.toNat_natCast,h];show wpAny _ _ (field (.ref z) 1 >>= _) _ _ _;refine aj (wpAny_field a rfl (x:=f1) rfl ?_);rcases b with rfl |rfl
 .show wpAny _ _ (setField (.ref z) 1 (.bool true) >>= _) _ _ _;exact aj (wpAny_setField_rec a (by simp) fun i d e=>bd (f i d e))
 .exact bd (f s.heap a (Heap.SameBut.refl ..))
theorem IQ{TI TO T:Addr}{Q:Value->Shared->Prop}
  (nd:[z,TI,TO,d,g,h].Nodup) (G:∀l∈[p,q,r],∀j∈[z,TI,TO,d,g,h],l≠j) (H:f1=.bool false\/f1=.bool true)
  (I:fj s.heap z TI TO (rawInt T) f1) (hT:s.heap.get? T=some oT) (J:dJ s.heap TI (.ref d) (.ref g) (.ref h))
  (h1:s.heap.IsListIter d p k) (h2:s.heap.IsListIter g q k) (h3:s.heap.IsListIter h r k) (L:s.heap.IsList p Y) (M:s.heap.IsList q Z) (N:s.heap.IsList r zs)
  (hx:Y[k]? = some x) (hy:Z[k]? = some y) (hv:zs[k]? = some v)
  (hQ:∀m,fj m z TI TO (rawInt T) (.bool true)->m.IsListIter d p (k+1)->m.IsListIter g q (k+1)->m.IsListIter h r (k+1)->dJ m s.heap.objs.size x y v->m.objs.size=s.heap.objs.size+1->
   (∀c o,c∉[z,d,g,h]->s.heap.get? c=some o->m.get? c=some o)->Q (.ref s.heap.objs.size) { s with heap:=m }) :
  wpAny (model prog w) A (Builtin.«zip.__next__» ⟨[.ref z],[]⟩) (fun fin s'=>∃v,fin=.done (.ret v)/\Q v s') E s:=by
 simp only[List.nodup_cons,List.mem_cons,List.not_mem_nil,or_false,not_or,not_false_eq_true,and_true,List.nodup_nil]at nd;obtain⟨⟨a1,a2,z1,z2,z3⟩,⟨a0,a3,a4,a5⟩,⟨a6,a7,a8⟩,⟨t,u⟩,B⟩:=nd;have n1:∀j∈[z,TI,TO,d,g,h],p≠j:=G p (by simp);have n2:∀j∈[z,TI,TO,d,g,h],q≠j:=G q (by simp);have O:∀j∈[z,TI,TO,d,g,h],r≠j:=G r (by simp);show wpAny _ _ (field (.ref z) 2 >>= _) _ _ _;refine aj (wpAny_field I rfl (x:=.bool false) rfl ?_);show wpAny _ _ (field (.ref z) 3 >>= _) _ _ _;refine aj (wpAny_field I rfl (x:=.ref TI) rfl ?_);refine aj (wpAny_seqItems J rfl ?_);show wpAny _ _ (Builtin.SmallTypes.ownedTupleIsFree (.ref z) >>= _) _ _ _;refine aj (yb H I hT fun h₁ R a=>?_);simp only[Bool.false_eq_true,if_false];refine aj ?_;simp only[List.forIn_toArray,List.forIn_cons,List.forIn_nil];refine aj (aj (wpAny_holding ?_));show wpAny _ _ (Builtin.SmallTypes.nextOf (.ref d) >>= _) _ _ _;refine aj (wpAny_nextOf_list_item (h1.extBut a.extBut (Ne.symm z1)) (L.extBut a.extBut (n1 z (by simp))) hx fun h₂ S b=>bd (bd ?_));refine aj (aj (wpAny_holding ?_));show wpAny _ _ (Builtin.SmallTypes.nextOf (.ref g) >>= _) _ _ _;refine aj (wpAny_nextOf_list_item ((h2.extBut a.extBut (Ne.symm z2)).extBut b.extBut (Ne.symm t)) ((M.extBut a.extBut (n2 z (by simp))).extBut b.extBut (n2 d (by simp))) hy fun h₃ U f=>bd (bd ?_));refine aj (aj (wpAny_holding ?_));show wpAny _ _ (Builtin.SmallTypes.nextOf (.ref h) >>= _) _ _ _;refine aj (wpAny_nextOf_list_item (((h3.extBut a.extBut (Ne.symm z3)).extBut b.extBut (Ne.symm u)).extBut f.extBut (Ne.symm B)) (((N.extBut a.extBut (O z (by simp))).extBut b.extBut (O d (by simp))).extBut f.extBut (O g (by simp))) hv fun C X i=>bd (bd (bd ?_)));show wpAny _ _ (newTuple [x,y,v] >>= _) _ _ _;refine aj (wpAny_newTuple ?_);refine bd ⟨_,rfl,?_⟩;have n:C.objs.size=s.heap.objs.size:=by rw[i.1,f.1,b.1,a.1]
 show Q (.ref C.objs.size) { s with heap:=C.push { cls:=.type "tuple",data:=.seq #[x,y,v] } };have up:∀c o,c∉[z,d,g,h]->s.heap.get? c=some o->C.get? c=some o:=fun c o D e=>by simp only[List.mem_cons,List.not_mem_nil,or_false,not_or]at D;obtain⟨c1,c2,c3,c4⟩:=D;exact i.extBut _ _ c4 (f.extBut _ _ c3 (b.extBut _ _ c2 (a.extBut _ _ c1 e)))
 rw[n];refine hQ _ (bn _ (i.extBut _ _ z3 (f.extBut _ _ z2 (b.extBut _ _ z1 R)))) (((S.extBut f.extBut t).extBut i.extBut u).at fun o e=>bn _ e) ((U.extBut i.extBut B).at fun o e=>bn _ e)
  (X.at fun o e=>bn _ e) ?_ (by rw[Heap.size_push,n]) fun c o D e=>bn _ (up c o D e)
 rw[<-n];exact Heap.get?_push_size _ rfl
theorem IR{TI TO T:Addr}(hh:A.handled=none)
  (v:[z,TI,TO,a,f,g].Nodup) (B:∀l∈[d,l2,l3],∀j∈[z,TI,TO,a,f,g],l≠j) (h:f1=.bool false\/f1=.bool true)
  (i:fj s.heap z TI TO (rawInt T) f1) (C:s.heap.get? T=some y) (m:dJ s.heap TI (.ref a) (.ref f) (.ref g))
  (h1:s.heap.IsListIter a d k) (n:s.heap.IsList d t) (D:t[k]? = none)
  (G:∀p e,(∀c o,c∉[z,a]->s.heap.get? c=some o->p.get? c=some o)->(∃o,p.get? e=some o/\o.cls=.type "StopIteration")->E (.ref e) { s with heap:=p }) :
  wpAny (model prog w) A (Builtin.«zip.__next__» ⟨[.ref z],[]⟩) Q E s:=by
 simp only[List.nodup_cons,List.mem_cons,List.not_mem_nil,or_false,not_or,not_false_eq_true,and_true,List.nodup_nil]at v;obtain⟨⟨H,I,J,z2,z3⟩,⟨u,L,M,N⟩,⟨O,R,S⟩,⟨U,X⟩,Y⟩:=v;have Z:∀j∈[z,TI,TO,a,f,g],d≠j:=B d (by simp);show wpAny _ _ (field (.ref z) 2 >>= _) _ _ _;refine aj (wpAny_field i rfl (x:=.bool false) rfl ?_);show wpAny _ _ (field (.ref z) 3 >>= _) _ _ _;refine aj (wpAny_field i rfl (x:=.ref TI) rfl ?_);refine aj (wpAny_seqItems m rfl ?_);show wpAny _ _ (Builtin.SmallTypes.ownedTupleIsFree (.ref z) >>= _) _ _ _;refine aj (yb h i C fun h₁ a0 b=>?_);simp only[Bool.false_eq_true,if_false];refine aj ?_;simp only[List.forIn_toArray,List.forIn_cons,List.forIn_nil];refine aj (aj (wpAny_holding ?_));show wpAny _ _ (Builtin.SmallTypes.nextOf (.ref a) >>= _) _ _ _;refine aj (wpAny_nextOf_list_end hh (h1.extBut b.extBut (Ne.symm J)) (n.extBut b.extBut (Z z (by simp))) D fun h₂ e q he=>?_);refine G h₂ e (fun c o r x=>?_) he;simp only[List.mem_cons,List.not_mem_nil,or_false,not_or]at r;exact q _ _ r.2 (b.extBut _ _ r.1 x)
structure Z3 (h:Heap) (z TI TO i1 i2 i3 l1 l2 l3:Addr) (xs ys zs:Array Value) (S:Addr) (i:Nat):Prop where
 zrec:∃(f0 f1:Value),fj h z TI TO f0 f1/\(f1=.bool false\/f1=.bool true)/\((i=0/\f0=.none/\f1=.bool false)\/(0<i/\∃(T:Addr) (oT:Obj),f0=rawInt T/\h.get? T=some oT/\T∉[S,z,TO,i1,i2,i3]))
 ti:dJ h TI (.ref i1) (.ref i2) (.ref i3)
 to:∃a b c,dJ h TO a b c
 h1:h.IsListIter i1 l1 i
 h2:h.IsListIter i2 l2 i
 h3:h.IsListIter i3 l3 i
 l1:h.IsList l1 xs
 l2:h.IsList l2 ys
 l3:h.IsList l3 zs
def qF(h:Heap)(n:Addr)(b c d:Array Value)(a:List Value):Prop:=
 ∀(j:Nat) (v:Value),a[j]? = some v->∃(T:Addr) (x y u:Value),v=Value.ref T/\n<=T/\dJ h T x y u/\b[j]? = some x/\c[j]? = some y/\d[j]? = some u
theorem IS{TI TO }
  (D:[z,TI,TO,f,g,h].Nodup) (Y:∀l∈[u,B,C],∀j∈[z,TI,TO,f,g,h],l≠j) (st:Z3 s.heap z TI TO f g h u B C R U X S i) (hS:S<s.heap.objs.size)
  (hx:R[i]? = some x) (hy:U[i]? = some y) (hv:X[i]? = some v)
  (hQ:∀k,Z3 k z TI TO f g h u B C R U X S (i+1)->dJ k s.heap.objs.size x y v->k.objs.size=s.heap.objs.size+1->(∀c o,c∉[z,TO,f,g,h]->s.heap.get? c=some o->k.get? c=some o)->Q (some (.ref s.heap.objs.size)) { s with heap:=k }) :
  wpAny (model prog w) A (pyNext (.ref z)) Q E s:=by
 obtain⟨⟨f0,f1,N,Z,hf⟩,ti,⟨a,b,c,to⟩,h1,h2,h3,m,n,p⟩:=st;have hT:s.TypeIs (.ref z) "zip":=⟨_,N,rfl⟩
 have lt:∀{c o},s.heap.get? c=some o->s.heap.objs.size≠c:=fun e=>Nat.ne_of_gt (bv e);have new:s.heap.objs.size∉[S,z,TO,f,g,h]:=by simp only[List.mem_cons,List.not_mem_nil,or_false,not_or];exact⟨Nat.ne_of_gt hS,lt N,lt to,(by obtain⟨_,e,_⟩:=h1;exact lt e),(by obtain⟨_,e,_⟩:=h2;exact lt e),(by obtain⟨_,e,_⟩:=h3;exact lt e)⟩
 have sub:∀l∈[u,B,C],l∉[z,TO,f,g,h]:=fun l hm z'=>by simp only[List.mem_cons,List.not_mem_nil,or_false]at z';rcases z' with q |q |q |q |q<;>exact Y l hm _ (by simp) q
 have G:TI∉[z,TO,f,g,h]:=by simp only[List.nodup_cons,List.mem_cons,List.not_mem_nil,or_false,not_or,not_false_eq_true,and_true,List.nodup_nil]at D;obtain⟨⟨H,I,z1,z2,z3⟩,⟨r,J,L,M⟩,_⟩:=D;simp only[List.mem_cons,List.not_mem_nil,or_false,not_or];exact⟨Ne.symm H,r,J,L,M⟩
 unfold pyNext;refine aj (wpAny_attempt (wpAny_callSpecial?_slot (name:=Str.ofString "__next__") hT F.slot_zip_next (wpAny_call_entry F.slot_zip_next hT F.entry_zip_next ?_ (F.args_zip_next_1 _))));rcases hf with⟨hi,rfl,rfl⟩ |⟨hi,T,oT,rfl,eT,nT⟩
 .refine IP D Y N ti to h1 h2 h3 m n p hx hy hv fun k a1 a2 a3 a4 a5 O a7 t=>bd ?_;exact hQ k ⟨⟨_,_,a1,.inl rfl,.inr ⟨Nat.succ_pos _,_,_,rfl,O,new⟩⟩,t _ _ G ti,⟨_,_,_,a2⟩,a3,a4,a5,m.at fun o e=>t _ o (sub u (by simp)) e,n.at fun o e=>t _ o (sub B (by simp)) e,p.at fun o e=>t _ o (sub C (by simp)) e⟩ O a7 t
 .refine IQ D Y Z N eT ti h1 h2 h3 m n p hx hy hv fun k a1 a3 a4 a5 O a7 t=>bd ?_;have d:∀c o,c∉[z,TO,f,g,h]->s.heap.get? c=some o->k.get? c=some o:=fun c o hc e=>t c o (fun q=>hc (by simp only[List.mem_cons,List.not_mem_nil,or_false]at q ⊢;rcases q with q |q |q |q<;>simp[q])) e;have a0:TO∉[z,f,g,h]:=by simp only[List.nodup_cons,List.mem_cons,List.not_mem_nil,or_false,not_or,not_false_eq_true,and_true,List.nodup_nil]at D;obtain⟨⟨H,I,z1,z2,z3⟩,⟨r,J,L,M⟩,⟨a9,b0,b1⟩,_⟩:=D;simp only[List.mem_cons,List.not_mem_nil,or_false,not_or];exact⟨Ne.symm I,a9,b0,b1⟩
  refine hQ k ⟨⟨_,_,a1,.inr rfl,.inr ⟨Nat.succ_pos _,_,_,rfl,d T oT (fun q=>nT (bC _ q)) eT,nT⟩⟩,d _ _ G ti,⟨a,b,c,t _ _ a0 to⟩,a3,a4,a5,m.at fun o e=>d _ o (sub u (by simp)) e,n.at fun o e=>d _ o (sub B (by simp)) e,p.at fun o e=>d _ o (sub C (by simp)) e⟩ O a7 d
theorem IT{TI TO }(O:A.handled=none)
  (R:[z,TI,TO,d,f,g].Nodup) (y:∀l∈[r,t,u],∀j∈[z,TI,TO,d,f,g],l≠j) (st:Z3 s.heap z TI TO d f g r t u n v x S i) (U:0<i) (B:n[i]? = none)
  (C:∀h,(∀c o,c∉[z,d]->s.heap.get? c=some o->h.get? c=some o)->Q none { s with heap:=h }) :
  wpAny (model prog w) A (pyNext (.ref z)) Q E s:=by
 obtain⟨⟨X,f1,p,k,D⟩,ti,⟨a,b,c,to⟩,h1,h2,h3,m,G,H⟩:=st;have q:s.TypeIs (.ref z) "zip":=⟨_,p,rfl⟩
 rcases D with⟨I,_⟩ |⟨_,T,Y,rfl,J,Z⟩
 .omega
 .unfold pyNext;refine aj (wpAny_attempt (wpAny_callSpecial?_slot (name:=Str.ofString "__next__") q F.slot_zip_next
   (wpAny_call_entry F.slot_zip_next q F.entry_zip_next (IR O R y k p J ti h1 m B fun h e L M=>?_) (F.args_zip_next_1 _))))
  obtain⟨o,ho,N⟩:=M;refine aj (wpAny_isInstance (T:="StopIteration") (b:=true) ⟨o,ho,N⟩ isSubtype_stop ?_);exact bd (C _ L)
theorem Z3.keep{TI TO }(st:Z3 h z TI TO d f g r s t v x y S i)(B:S∉[z,TI,TO,d,f,g,r,s,t])(k:∀b o,b≠S->h.get? b=some o->u.get? b=some o) :
  Z3 u z TI TO d f g r s t v x y S i:=by
 simp only[List.mem_cons,List.not_mem_nil,or_false,not_or]at B;obtain⟨D,E,G,H,I,J,L,M,N⟩:=B;obtain⟨⟨O,f1,Q,j,l⟩,ti,⟨a,b,c,to⟩,h1,h2,h3,m,n,p⟩:=st;refine⟨⟨O,f1,k _ _ (Ne.symm D) Q,j,?_⟩,k _ _ (Ne.symm E) ti,⟨a,b,c,k _ _ (Ne.symm G) to⟩,h1.at fun o e=>k _ o (Ne.symm H) e,h2.at fun o e=>k _ o (Ne.symm I) e,h3.at fun o e=>k _ o (Ne.symm J) e,m.at fun o e=>k _ o (Ne.symm L) e,n.at fun o e=>k _ o (Ne.symm M) e,p.at fun o e=>k _ o (Ne.symm N) e⟩;rcases l with l |⟨U,T,X,e,Y,C⟩
 .exact .inl l
 .exact .inr ⟨U,T,X,e,k _ _ (fun q=>C (by simp[q])) Y,C⟩
noncomputable abbrev dk(a:Array Value)(v:Value)(c:Nat):Nat:=if (a.push v).size==a.size then c else c+1
theorem IU{TI TO }(hh:A.handled=none)
  (nd:[z,TI,TO,p,D,E].Nodup) (hl:∀l∈[l1,l2,l3],∀j∈[z,TI,TO,p,D,E],l≠j) (hS:S∉[z,TI,TO,p,D,E,l1,l2,l3]) (I:∀j∈[S,z,TI,TO,p,D,E],j<n₀)
  (e2:L.size=h.size) (e3:M.size=h.size) (a6:0<h.size) (hn:h.size<=sizeLine) (res) :
  ∀k i  s  a  c,h.size - i=k->i<=h.size->Z3 s.heap z TI TO p D E l1 l2 l3 h L M S i->n₀<=s.heap.objs.size->s.heap.get? S=some { cls:=.type "list",dict:=none,data:=.seq a.toArray c,slots:=#[] }->a.length=i->qF s.heap n₀ h L M a->
  (∀n d c',(∀b o,b∉[S,z,TO,p,D,E]->s.heap.get? b=some o->n.get? b=some o)->n.get? S=some { cls:=.type "list",dict:=none,data:=.seq d.toArray c',slots:=#[] }->d.length=h.size->qF n n₀ h L M d->R (.ok (.ret res)) { s with heap:=n })->
  codeAny (model prog w) A (.builtin "list.extend.loop" ⟨[.ref S,.ref z,res],[]⟩) R s:=by
 intro k
 induction k with
 |zero=>
  intro i s a c hk hi st r B f tr hR;have N:i=h.size:=by lia
  refine codeAny_builtin F.entry_extend_loop ?_;rw[Around.under_plainId F.plain_extend_loop _];show wpAny _ A.in1 (pyNext (.ref z) >>= _) _ _ s;have nS:S∉[z,p]:=fun q=>hS (by simp only[List.mem_cons,List.not_mem_nil,or_false]at q ⊢;rcases q with q |q<;>simp[q]);refine aj (IT hh nd hl st (by lia) (by rw[N];exact Array.getElem?_eq_none (bG _)) fun n g=>?_);refine bd (hR n a c (fun b o I e=>g b o (fun q=>I (by simp only[List.mem_cons,List.not_mem_nil,or_false]at q ⊢;rcases q with q |q<;>simp[q])) e) (g S _ nS B) (f.trans N) fun j v H=>?_);obtain⟨T,x,y,u,e,G,t,q⟩:=tr j v H;refine⟨T,x,y,u,e,G,g T _ (fun m=>?_) t,q⟩;simp only[List.mem_cons,List.not_mem_nil,or_false]at m;rcases m with m |m
  .exact absurd (I z (by simp)) (by rw[<-m];exact Nat.not_lt.mpr G)
  .exact absurd (I p (by simp)) (by rw[<-m];exact Nat.not_lt.mpr G)
 |succ k ih=>
  intro i s a c hk hi st r B f tr hR;have O:i<h.size:=by lia
  refine codeAny_builtin F.entry_extend_loop ?_;rw[Around.under_plainId F.plain_extend_loop _];show wpAny _ A.in1 (pyNext (.ref z) >>= _) _ _ s;refine aj (IS nd hl st (bv B) (x:=h[i]) (y:=L[i]) (v:=M[i]) (Array.getElem?_eq_getElem O) (Array.getElem?_eq_getElem (by lia)) (Array.getElem?_eq_getElem (by lia)) fun n a0 a1 Q g=>?_);have nS:S∉[z,TO,p,D,E]:=fun q=>hS (by simp only[List.mem_cons,List.not_mem_nil,or_false]at q ⊢;rcases q with q |q |q |q |q<;>simp[q]);have U:=g S _ nS B;have ha:a.toArray.size=i:=by rw[List.size_toArray];exact f
  show wpAny _ A.in1 (updateSeq S (·.push (.ref s.heap.objs.size)) >>= _) _ _ _;refine aj ?_;have old:∀b o,b≠S->n.get? b=some o->(n.update S (Obj.mapSeq (·.push (.ref s.heap.objs.size)))).get? b=some o:=fun b o I e=>(Heap.get?_update_other _ _ (Ne.symm I)).trans e;have big:∀T,n₀<=T->T∉[S,z,TO,p,D,E]:=fun T G m=>by simp only[List.mem_cons,List.not_mem_nil,or_false]at m;rcases m with m |m |m |m |m |m<;>exact absurd (I T (by rw[m];simp)) (Nat.not_lt.mpr G)
  refine wpAny_updateSeq U rfl (bd ⟨plainId_quiet F.plain_extend_loop _,ih (i+1) _ (a++[.ref s.heap.objs.size]) (dk a.toArray (.ref s.heap.objs.size) c) (by lia) O (a0.keep hS old) ?_ ?_ (by rw[List.length_append,f];rfl) ?_ fun a2 d c' X Y a3 Z=>?_⟩)
   (by rw[ha];lia) (by show(a.toArray.push _).size<=sizeLine+1;rw[Array.size_push,ha];lia)
  .show n₀<=(n.update S (Obj.mapSeq (·.push (.ref s.heap.objs.size)))).objs.size;rw[show(n.update S (Obj.mapSeq (·.push (Value.ref s.heap.objs.size)))).objs.size=n.objs.size from(Heap.SameBut.update ..).1,Q];exact Nat.le_succ_of_le r
  .have q:=Heap.get?_update_self (Obj.mapSeq (·.push (Value.ref s.heap.objs.size))) U rfl;have e:a.toArray.push (Value.ref s.heap.objs.size)=(a++[Value.ref s.heap.objs.size]).toArray:=by simp
   have q':(n.update S (Obj.mapSeq (·.push (Value.ref s.heap.objs.size)))).get? S=some { cls:=.type "list",dict:=none,data:=.seq (a.toArray.push (Value.ref s.heap.objs.size)) (dk a.toArray (Value.ref s.heap.objs.size) c),slots:=#[] }:=q;rw[e]at q';exact q'
  .intro j v H
   by_cases a4:j<a.length
   .rw[List.getElem?_append_left a4]at H;obtain⟨T,x,y,u,e,G,t,q⟩:=tr j v H;have nb:=big T G;exact⟨T,x,y,u,e,G,old T _ (fun C=>nb (by simp[C])) (g T _ (fun C=>nb (bC _ C)) t),q⟩
   .have a5:j=a.length:=by have:=(List.getElem?_eq_some_iff.mp H).1;rw[List.length_append,List.length_singleton]at this;lia
    subst a5;rw[List.getElem?_append_right (bG _),Nat.sub_self]at H;cases H;have nb:=big s.heap.objs.size r;refine⟨s.heap.objs.size,h[i],L[i],M[i],rfl,r,old _ _ (fun C=>nb (by simp[C])) a1,?_,?_,?_⟩<;>(rw[f];exact Array.getElem?_eq_getElem (by lia))
  .refine hR a2 d c' (fun b o J e=>X b o J (old b o (fun C=>J (by simp[C])) (g b o (fun C=>J (bC _ C)) e))) Y a3 Z
namespace F3
theorem zip_no_len:typeLookup (.type "zip") "__len__" = pure none:=by rw[typeLookup_type,builtinLookup_eq_fast];kernel_rfl
theorem zip_no_hint:typeLookup (.type "zip") "__length_hint__" = pure none:=by rw[typeLookup_type,builtinLookup_eq_fast];kernel_rfl
theorem typeCall_zip_3(a b c):checkTypeCall "zip" ⟨[a,b,c],[]⟩=pure ():=by kernel_rfl
theorem newCall_zip_3(a b c):checkBuiltinCall "zip.__new__" ⟨[.type "zip",a,b,c],[]⟩=pure ():=by kernel_rfl
theorem args_object_init_4(a b c d):argsOk "object.__init__" ⟨[a,b,c,d],[]⟩:=by unfold argsOk;rw[signature?_of (id:="object.__init__") (n:=['_','_','t','i','n','i','_','_']) (o:=['t','c','e','j','b','o']) (by kernel_rfl) F.owner_object];kernel_rfl
end F3
noncomputable abbrev zA(h:Heap)(a:Addr):Heap:=h.push { cls:=.type "list_iterator",data:=.fields #[.ref a,.int 0 0] }
abbrev zB(h:Heap)(a b:Addr):Heap:=(zA h a).push { cls:=.type "list_iterator",data:=.fields #[.ref b,.int 0 0] }
abbrev zC(h:Heap)(a b c:Addr):Heap:=(zB h a b).push { cls:=.type "list_iterator",data:=.fields #[.ref c,.int 0 0] }
abbrev zD(h:Heap)(a b c:Addr):Heap:=(zC h a b c).push { cls:=.type "tuple",data:=.seq #[.ref h.objs.size,.ref (zA h a).objs.size,.ref (zB h a b).objs.size] }
abbrev zE(h:Heap)(a b c:Addr):Heap:=(zD h a b c).push { cls:=.type "tuple",data:=.seq #[.none,.none,.none] }
abbrev zF(h:Heap)(a b c:Addr):Heap:=(zE h a b c).push { cls:=.type "zip",data:=.fields #[.none,.bool false,.bool false,.ref (zC h a b c).objs.size,.ref (zD h a b c).objs.size] }
theorem IV(a b c)(o p q) :
  Meets (Builtin.«zip.__new__» ⟨[.type "zip",.ref a,.ref b,.ref c],[]⟩) (fun _ R s=>s.heap.IsList a o/\s.heap.IsList b p/\s.heap.IsList c q/\
   R (.ok (.ret (.ref (zE s.heap a b c).objs.size))) { s with heap:=zF s.heap a b c }):=
 .of_wp fun t w A R s h=>by
  obtain⟨e,g,d,f,os⟩:=s;obtain⟨i,j,k,h⟩:=h;have r:=sub_zip;have l:Heap.IsList (Shared.heap ⟨e,g,d,f,os⟩) a o:=i;have m:Heap.IsList (Shared.heap ⟨e.push { cls:=.type "list_iterator",data:=.fields #[.ref a,.int 0 0] },g,d,f,os⟩) b p:=Heap.IsList.push j _;have n:Heap.IsList (Shared.heap ⟨(e.push { cls:=.type "list_iterator",data:=.fields #[.ref a,.int 0 0] }).push { cls:=.type "list_iterator",data:=.fields #[.ref b,.int 0 0] },g,d,f,os⟩) c q:=Heap.IsList.push (Heap.IsList.push k _) _
  wp_walk using wpAny_pyIter_list l,wpAny_pyIter_list m,wpAny_pyIter_list n
  exact⟨_,rfl,h⟩
theorem IW{s:Shared}(f:s.heap.IsList a q)(g:s.heap.IsList b r)(i:s.heap.IsList d t)
  (h:∀e,fj e (s.heap.objs.size+5) (s.heap.objs.size+3) (s.heap.objs.size+4) .none (.bool false)->dJ e (s.heap.objs.size+3) (.ref s.heap.objs.size) (.ref (s.heap.objs.size+1)) (.ref (s.heap.objs.size+2))->
   dJ e (s.heap.objs.size+4) .none .none .none->e.IsListIter s.heap.objs.size a 0->e.IsListIter (s.heap.objs.size+1) b 0->e.IsListIter (s.heap.objs.size+2) d 0->e.objs.size=s.heap.objs.size+6->
   (∀c o,s.heap.get? c=some o->e.get? c=some o)->Q (.ref (s.heap.objs.size+5)) { s with heap:=e }) :
  wpAny (model prog w) A (call (.type "zip") [.ref a,.ref b,.ref d]) Q E s:=by
 refine callType_new F.called_zip (by decide) (F3.typeCall_zip_3 _ _ _) (F3.newCall_zip_3 _ _ _) (fun obj=>F3.args_object_init_4 obj _ _ _) F.entry_zip_new
  (IV a b d q r t) ⟨f,g,i,?_⟩
 have j:(zA s.heap a).objs.size=s.heap.objs.size+1:=Heap.size_push ..;have k:(zB s.heap a b).objs.size=s.heap.objs.size+2:=by rw[Heap.size_push,j]
 have l:(zC s.heap a b d).objs.size=s.heap.objs.size+3:=by rw[Heap.size_push,k]
 have m:(zD s.heap a b d).objs.size=s.heap.objs.size+4:=by rw[Heap.size_push,l]
 have n:(zE s.heap a b d).objs.size=s.heap.objs.size+5:=by rw[Heap.size_push,m]
 have y:(zF s.heap a b d).objs.size=s.heap.objs.size+6:=by rw[Heap.size_push,n]
 have p:(zF s.heap a b d).get? (zE s.heap a b d).objs.size=some _:=Heap.get?_push_size _ rfl;have u:(zF s.heap a b d).get? (zD s.heap a b d).objs.size=some _:=bn _ (Heap.get?_push_size _ rfl);have v:(zF s.heap a b d).get? (zC s.heap a b d).objs.size=some _:=bn _ (bn _ (Heap.get?_push_size _ rfl));have g3:(zF s.heap a b d).get? (zB s.heap a b).objs.size=some _:=bn _ (bn _ (bn _ (Heap.get?_push_size _ rfl)));have g2:(zF s.heap a b d).get? (zA s.heap a).objs.size=some _:=bn _ (bn _ (bn _ (bn _ (Heap.get?_push_size _ rfl))));have g1:(zF s.heap a b d).get? s.heap.objs.size=some _:=bn _ (bn _ (bn _ (bn _ (bn _ (Heap.get?_push_size _ rfl)))));show _/\_;rw[l,m,n]at p;rw[j,k,l]at v;rw[m]at u;rw[k]at g3;rw[j]at g2;rw[n];exact⟨⟨_,p,rfl⟩,h _ p v u ⟨_,g1,rfl,rfl⟩ ⟨_,g2,rfl,rfl⟩ ⟨_,g3,rfl,rfl⟩ y fun c o x=>
  bn _ (bn _ (bn _ (bn _ (bn _ (bn _ x)))))⟩
theorem IX{s:Shared}{TI TO :Addr}(hh:A.handled=none)
  (nd:[z,TI,TO,k,n,p].Nodup) (hl:∀l∈[L,M,N],∀j∈[z,TI,TO,k,n,p],l≠j) (x:∀j∈[z,TI,TO,k,n,p,L,M,N],j<s.heap.objs.size)
  (y:fj s.heap z TI TO .none (.bool false)) (ti:dJ s.heap TI (.ref k) (.ref n) (.ref p)) (to:dJ s.heap TO .none .none .none)
  (h1:s.heap.IsListIter k L 0) (h2:s.heap.IsListIter n M 0) (h3:s.heap.IsListIter p N 0) (U:s.heap.IsList L g) (X:s.heap.IsList M S) (Y:s.heap.IsList N T)
  (e2:S.size=g.size) (e3:T.size=g.size) (B:0<g.size) (hn:g.size<=sizeLine)
  (hQ:∀f r c,(∀b o,b∉[z,TO,k,n,p]->s.heap.get? b=some o->f.get? b=some o)->f.get? s.heap.objs.size=some { cls:=.type "list",dict:=none,data:=.seq r.toArray c,slots:=#[] }->r.length=g.size->qF f (s.heap.objs.size+1) g S T r->
   Q (.ref s.heap.objs.size) { s with heap:=f }):wpAny (model prog w) A (call (.type "list") [.ref z]) Q E s:=by
 have C:s.heap.objs.size∉[z,TI,TO,k,n,p,L,M,N]:=fun hm=>Nat.lt_irrefl _ (x _ hm);have Z:s.heap.objs.size≠z:=fun e=>C (by simp[e]);refine callType_codes (Q₁:=fun obj s₁=>obj=.ref s.heap.objs.size/\s₁ = { s with heap:=s.heap.push { cls:=.type "list",data:=.seq #[] } }) F.called_list (F.typeCall_list_1 _) F.entry_list_init
  (code_list_new _ ⟨rfl,rfl⟩) fun obj s₁ h₁=>?_
 obtain⟨rfl,rfl⟩:=h₁;have O:(s.heap.push { cls:=.type "list",data:=.seq #[] }).get? s.heap.objs.size=some { cls:=.type "list",data:=.seq #[] }:=Heap.get?_push_size _ rfl;have t:∀f,fj f z TI TO .none (.bool false)->Shared.TypeIs { s with heap:=f } (.ref z) "zip":=fun f q=>⟨_,q,rfl⟩
 refine⟨⟨_,O,rfl⟩,F.args_list_init_2 _ _,?_⟩;have pu:∀b o,s.heap.get? b=some o->(s.heap.push { cls:=.type "list",data:=.seq #[] }).get? b=some o:=fun b o e=>bn _ e;show wpAny _ A.in1.in1 (do let old <-Builtin.List.listItems (.ref s.heap.objs.size);Builtin.List.listUpdate (.ref s.heap.objs.size) (fun _=>#[]);letGo old.toList.reverse;Builtin.List.listExtendWith (.ref s.heap.objs.size) (.ref z) .none) _ _ _;refine aj ?_;unfold Builtin.List.listItems;refine aj (wpAny_seqItems O rfl (bd ?_));show wpAny _ _ (updateSeq s.heap.objs.size (fun _=>#[]) >>= fun _=>letGo (#[]:Array Value).toList.reverse >>= fun _=>Builtin.List.listExtendWith (.ref s.heap.objs.size) (.ref z) .none) _ _ _;refine aj (wpAny_updateSeq O rfl ?_);have u:=Heap.get?_update_self (Obj.mapSeq (fun _=>(#[]:Array Value))) O rfl;refine aj (wpAny_letGo ?_);generalize D:(s.heap.push { cls:=.type "list",data:=.seq #[] }).update s.heap.objs.size (Obj.mapSeq (fun _=>(#[]:Array Value)))=i at u ⊢;have d:∀b o,s.heap.get? b=some o->i.get? b=some o:=fun b o e=>by rw[<-D];exact(Heap.get?_update_other _ _ (Nat.ne_of_gt (bv e))).trans (pu b o e)
 have Dn:i.objs.size=s.heap.objs.size+1:=by rw[<-D,show((s.heap.push { cls:=.type "list",data:=.seq #[] }).update s.heap.objs.size (Obj.mapSeq (fun _=>(#[]:Array Value)))).objs.size=(s.heap.push { cls:=.type "list",data:=.seq #[] }).objs.size from(Heap.SameBut.update ..).1,Heap.size_push]
 unfold Builtin.List.listExtendWith;refine aj (wpAny_typeOf (t _ (d _ _ y)) ?_);have g1:Builtin.List.listSameRef (.ref s.heap.objs.size) (.ref z)=false:=by simp[Builtin.List.listSameRef,Z]
 have g2:(Value.type "zip"==Value.type "list")=false:=by decide
 have g3:(Value.type "zip"==Value.type "tuple")=false:=by decide
 simp only[g1,g2,g3,Bool.or_false,Bool.false_eq_true,if_false];refine aj (wpAny_pyIter_zip (s:={ s with heap:=i }) (d _ _ y) ?_);refine aj (wpAny_holding ?_);unfold Builtin.List.listLengthHint;refine aj (wpAny_specialOf (t _ (d _ _ y)) F3.zip_no_len ?_);show wpAny _ _ (specialOf (Value.ref z) (Str.ofString "__length_hint__") >>= _) _ _ _;refine aj (wpAny_specialOf (t _ (d _ _ y)) F3.zip_no_hint ?_);refine bd ?_;show wpAny _ _ (rule "list.extend.makes-room" >>= fun _=>Builtin.List.listTouch (.ref s.heap.objs.size) >>= fun _=>
  again (.builtin "list.extend.loop" ⟨[.ref s.heap.objs.size,.ref z,.none],[]⟩)) _ _ _
 refine aj (wpAny_rule ?_);refine aj ?_;show wpAny _ _ (updateSeq s.heap.objs.size (·.push .none) >>= fun _=>updateSeq s.heap.objs.size (·.pop)) _ _ _;refine aj (wpAny_updateSeq u rfl ?_);have G:=Heap.get?_update_self (Obj.mapSeq (·.push Value.none)) u rfl;refine wpAny_updateSeq (hz:=by seq_fits) G rfl ?_;have H:=Heap.get?_update_self (Obj.mapSeq (·.pop)) G rfl;generalize I:(i.update s.heap.objs.size (Obj.mapSeq (·.push Value.none))).update s.heap.objs.size (Obj.mapSeq (·.pop))=H2 at H ⊢;have a:∀b o,s.heap.get? b=some o->H2.get? b=some o:=fun b o e=>by rw[<-I];exact(Heap.get?_update_other _ _ (Nat.ne_of_gt (bv e))).trans ((Heap.get?_update_other _ _ (Nat.ne_of_gt (bv e))).trans (d b o e))
 have Do:H2.objs.size=s.heap.objs.size+1:=by
  rw[<-I,show((i.update s.heap.objs.size (Obj.mapSeq (·.push Value.none))).update s.heap.objs.size (Obj.mapSeq (·.pop))).objs.size=(i.update s.heap.objs.size (Obj.mapSeq (·.push Value.none))).objs.size from(Heap.SameBut.update ..).1,
   show(i.update s.heap.objs.size (Obj.mapSeq (·.push Value.none))).objs.size=i.objs.size from(Heap.SameBut.update ..).1,Dn]
 refine bd ⟨plainId_quiet F.plain_extend_loop _,IU (A:=A.in1) (n₀:=s.heap.objs.size+1) (show A.in1.handled=none from hh) nd hl C (fun j R=>?_) e2 e3 B hn _ g.size 0 _ [] _ rfl (Nat.zero_le _)
  ⟨⟨_,_,a _ _ y,.inl rfl,.inl ⟨rfl,rfl,rfl⟩⟩,a _ _ ti,⟨_,_,_,a _ _ to⟩,h1.at fun o e=>a _ o e,h2.at fun o e=>a _ o e,h3.at fun o e=>a _ o e,U.at fun o e=>a _ o e,X.at fun o e=>a _ o e,Y.at fun o e=>a _ o e⟩
  (Nat.le_of_eq Do.symm) H rfl (fun j v h=>by simp at h) fun f J c' a0 a1 a2 a3=>?_⟩
 .rcases List.mem_cons.mp R with rfl |R
  .exact Nat.lt_succ_self _
  .refine Nat.lt_succ_of_lt (x j ?_);simp only[List.mem_cons,List.not_mem_nil,or_false]at R ⊢;rcases R with q |q |q |q |q |q<;>simp[q]
 .refine⟨rfl,hQ f J c' (fun b o hb e=>a0 b o (fun m=>?_) (a b o e)) a1 a2 a3⟩;rcases List.mem_cons.mp m with q |q
  .exact absurd (bv e) (by rw[q];exact Nat.lt_irrefl _)
  .exact hb q
end L2
namespace L2
open PySem PySem.Spec PyProof.Rows
theorem IY(s:bQ H b)(h:Rd H a u):Rd b a u:=h.imp (fun e=>s _ _ e) fun⟨o,e⟩=>⟨o,s _ _ e⟩
theorem yc(n:H a=none)(h:Rd H a u):False:=by rcases h with h |⟨o,h⟩<;>(rw[n]at h;cases h)
theorem IZ(h:Rd H a (.tup c))(b:Rd H a (.tup d)):c=d:=by rcases h with h |⟨o,h⟩<;>rcases b with b |⟨e,b⟩<;>(rw[h]at b;cases b<;>rfl)
noncomputable def cP:List PyData->Bool
 |[]=>true
 |.tuple _::_=>true
 |_::ds=>!ds.isEmpty&&cP ds
def mL(H:Hp)(a:Addr)(b:List V)(c:List PyData):Prop:=H a=some (.tup b)\/(∃o,H a=some (.frz o (.tup b)))/\cP c=true
theorem mL.mono(s:bQ H c)(h:mL H a d f):mL c a d f:=h.imp (fun e=>s _ _ e) fun b=>by obtain⟨⟨o,e⟩,k⟩:=b;exact⟨⟨o,s _ _ e⟩,k⟩
theorem mL.rd(h:mL H a b c):Rd H a (.tup b):=h.imp id fun z=>z.1
mutual
inductive DV (H:Hp):V->PyData->Prop where
 |non:DV H .non .none
 |bl (b:Bool):DV H (.bl b) (.bool b)
 |int (i:Int):DV H (.int i) (.int i)
 |str (x:Str):DV H (.str x) (.str x)
 |lst {a:Addr}{xs:List V}{ds:List PyData}:H a=some (.lst xs)->aC H xs ds->DV H (.ref a) (.list ds)
 |tup {a:Addr}{xs:List V}{ds:List PyData}:mL H a xs ds->aC H xs ds->DV H (.ref a) (.tuple ds)
inductive aC (H:Hp):List V->List PyData->Prop where
 |nil:aC H [] []
 |cons {x:V}{xs:List V}{d:PyData}{ds:List PyData}:DV H x d->aC H xs ds->aC H (x::xs) (d::ds)
end
mutual
theorem DV.mono(s:bQ H H'):∀{v:V}{d:PyData},DV H v d->DV H' v d
 |_,_,.non=>.non
 |_,_,.bl b=>.bl b
 |_,_,.int i=>.int i
 |_,_,.str x=>.str x
 |_,_,.lst h r=>.lst (s _ _ h) (aC.mono s r)
 |_,_,.tup h r=>.tup (h.mono s) (aC.mono s r)
theorem aC.mono(s:bQ H H'):∀{vs:List V}{ds:List PyData},aC H vs ds->aC H' vs ds
 |_,_,.nil=>.nil
 |_,_,.cons h r=>.cons (DV.mono s h) (aC.mono s r)
theorem aC.length:∀{a b},aC H a b->a.length=b.length
 |_,_,.nil=>rfl
 |_,_,.cons _ r=>congrArg (·+1) r.length
theorem aC.append:∀{a b d c},aC H a d->aC H b c->aC H (a++b) (d++c)
 |_,_,_,_,.nil,s=>s
 |_,_,_,_,.cons h r,s=>.cons h (r.append s)
theorem aC.get:∀{a b}{i:Nat}{d},aC H a b->b[i]? = some d->∃v,a[i]? = some v/\DV H v d
 |_,_,_,_,.nil,e=>by simp at e
 |_,_,0,_,.cons h _,e=>by simp at e;subst e;exact⟨_,rfl,h⟩
 |_,_,i+1,d,.cons _ r,e=>by obtain⟨v,h1,h2⟩:=r.get (i:=i) (d:=d) (by simpa using e);exact⟨v,by simpa using h1,h2⟩
theorem aC.get':∀{a b}{i:Nat}{v},aC H a b->a[i]? = some v->∃d,b[i]? = some d/\DV H v d
 |_,_,_,_,.nil,e=>by simp at e
 |_,_,0,_,.cons h _,e=>by simp at e;subst e;exact⟨_,rfl,h⟩
 |_,_,i+1,d,.cons _ r,e=>by obtain⟨v,h1,h2⟩:=r.get' (i:=i) (v:=d) (by simpa using e);exact⟨v,by simpa using h1,h2⟩
theorem aC.drop:∀{a b} n,aC H a b->aC H (a.drop n) (b.drop n)
 |_,_,0,r=>r
 |_,_,_+1,.nil=>.nil
 |_,_,n+1,.cons _ r=>r.drop n
theorem ca(h:H a=none):bQ H (aB H a o):=fun b u e=>by rw[aV (il e h)];exact e
theorem DV.tup_inv(h:DV H v (.tuple c)):∃a b,v=.ref a/\Rd H a (.tup b)/\aC H b c:=by cases h with |tup h r=>exact⟨_,_,rfl,h.rd,r⟩
theorem DV.tup_invK(h:DV H v (.tuple b))(d:cP b=false):∃a c,v=.ref a/\H a=some (.tup c)/\aC H c b:=by cases h with |tup h r=>exact⟨_,_,rfl,h.elim id (fun z=>by rw[d]at z;cases z.2),r⟩
theorem DV.lst_inv(h:DV H v (.list c)):∃a b,v=.ref a/\H a=some (.lst b)/\aC H b c:=by cases h with |lst h r=>exact⟨_,_,rfl,h,r⟩
theorem DV.int_inv(h:DV H v (.int i)):v=.int i:=by cases h;rfl
theorem DV.str_inv(h:DV H v (.str x)):v=.str x:=by cases h;rfl
theorem DV.bl_inv(h:DV H v (.bool b)):v=.bl b:=by cases h;rfl
theorem DV.non_inv(h:DV H v .none):v=.non:=by cases h;rfl
end
mutual
theorem Inv.reads(I:Inv X pins Y H s):∀{v:V}{d:PyData}{u:Value},DV H v d->bq v u->∃as,Reads s.heap u d as
 |_,_,_,.non,r=>by cases r;exact⟨_,.none⟩
 |_,_,_,.bl b,r=>by cases r;exact⟨_,.bool b⟩
 |_,_,_,.int i,r=>by obtain⟨t,rfl⟩:=r;exact⟨_,.int i t⟩
 |_,_,_,.str x,r=>by obtain⟨t,rfl⟩:=r;exact⟨_,.str x t⟩
 |_,_,_,.lst h q,r=>by cases r;obtain⟨_,its,n,rv,e⟩:=I.hok _ _ h;obtain⟨as,z⟩:=I.readsAll q rv;exact⟨_,reads_list_at e rfl rfl (by simpa using z)⟩
 |_,_,_,.tup h q,r=>by cases r;obtain⟨_,its,rv,o,e,c,n,d⟩:=h.rd.ok I.hok;obtain⟨as,z⟩:=I.readsAll q rv;exact⟨_,reads_tuple_at e c d (by simpa using z)⟩
theorem Inv.readsAll(I:Inv X pins Y H s):∀{vs:List V}{ds:List PyData}{us:List Value},aC H vs ds->bi vs us->∃as,ReadsAll s.heap us ds as
 |_,_,_,.nil,.nil=>⟨_,.nil⟩
 |_,_,_,.cons h q,.cons r rr=>by obtain⟨as,z⟩:=I.reads h r;obtain⟨bs,z'⟩:=I.readsAll q rr;exact⟨_,.cons z z'⟩
end
def ue(neg:Bool):R2:=fun x y H Q=>∃d e,DV H x d/\DV H y e/\SeqAt.shaped d=true/\SeqAt.shaped e=true/\Q (.bl (PyData.eqv d e != neg)) H
theorem yd(b:X.A.units+64<cLine):cU X (compareOp .Eq) (ue false):=by intro a s Y H x y v u Q I c f h;obtain⟨d,e,h1,h2,h3,g,q⟩:=h;obtain⟨as,i⟩:=I.reads h1 c;obtain⟨bs,j⟩:=I.reads h2 f;exact eq_dataH i j h3 g b ⟨_,H,I,by show Value.bool (PyData.eqv d e)=Value.bool (PyData.eqv d e != false);rw[Bool.bne_false],q⟩
theorem Ja(b:X.A.units+64<cLine):cU X (compareOp .NotEq) (ue true):=by intro a s Y H x y v u Q I c f h;obtain⟨d,e,h1,h2,h3,g,q⟩:=h;obtain⟨as,i⟩:=I.reads h1 c;obtain⟨bs,j⟩:=I.reads h2 f;exact ne_dataH i j h3 g b ⟨_,H,I,by show Value.bool (!PyData.eqv d e)=Value.bool (PyData.eqv d e != true);rw[Bool.bne_true],q⟩
@[simp]noncomputable def uf:PyData->String
 |.none=>"NoneType"
 |.bool _=>"bool"
 |.int _=>"int"
 |.str _=>"str"
 |.list _=>"list"
 |.tuple _=>"tuple"
 |.dict _=>"dict"
def Jb:List V->Hp->VK->Prop:=fun a H Q=>∃x d n b,a=[x,.ty n]/\DV H x d/\(∀K:Frag,kitOne K (.type (uf d)) (.type n)=some b)/\Q (.bl b) H
theorem Jc:gZ X (.builtin "isinstance") Jb:=by
 intro g s Y H k m Q I r h;obtain⟨x,d,n,b,rfl,hd,e,q⟩:=h;obtain⟨u,w,rfl,f,l⟩:=fX r;cases l;have fin:∀j,EP X g Y Q (.bool b) { s with toks:=j }:=fun j=>⟨.bl b,H,I.tok j,rfl,q⟩
 cases hd with
 |non=>exact ox I f .non (e _) fin
 |bl c=>exact ox I f (.bl c) (e _) fin
 |int i=>exact ox I f (.int i) (e _) fin
 |str z=>exact ox I f (.str z) (e _) fin
 |lst h r=>exact ox I f (.lst h) (e _) fin
 | @tup a k ds h r=>cases(show u=Value.ref a from f);obtain⟨_,_,_,p⟩:=h.rd.ok I.hok;obtain⟨o,h1,h2,_⟩:=p;exact kia_one PySem.W.kitx_tuple I.kIn ⟨o,h1,h2⟩ (e _) (fun z=>nomatch z) fin
theorem Inv.turnedNew{Y:St}{ch:List Addr}{a:Addr}(I:Inv X pins Y H s)(f:∀b∈ch,gY X pins H b)(k:∀b d,b∉ch->s.heap.get? b=some d->h'.get? b=some d)(p:s.heap.objs.size<=a)
  (there:∀b∈ch,∀d,s.heap.get? b=some d->∃l,h'.get? b=some l) (new:cI X.prog X.w (aB H a o) h' a o):Inv X pins Y (aB H a o) { s with heap:=h',toks:=t' }:=by
 have i:=I.hok.fresh p;have j:∀b u,H b=some u->b∉ch:=fun b u e z=>by rw[(f b z).1]at e;cases e
 refine I.step (g':=s.gens) (d':=s.drawn) (ch:=ch) (fun b h=>⟨(f b h).2.2.2.1,(f b h).2.1,(f b h).2.2.2.2.1,(f b h).2.2.2.2.2⟩) (fun b d _ _ g e _=>k b d g e) (fun b d _ _ g e _=>⟨d.slots,k b d g e⟩)
  (fun b d _ e n=>by rw[aV (Nat.ne_of_lt (Nat.lt_of_lt_of_le (bv e) p))];exact n) (fun b d g e=>⟨d,k b d g e⟩) (fun b x e=>ca i b _ e) (fun b d u e=>ca i b _ e) (fun b C e=>⟨#[],by rw[ca i b _ e];simp⟩) (fun m y=>?_) (fun b u e=>?_) I.bare
 .obtain⟨t,A,B,ho,r⟩:=y;exact⟨t,A,B,k _ t (fun z=>(f _ z).2.1 rfl) ho,r⟩
 .by_cases h:b=a
  .subst h;rw[bP]at e;cases e;exact new
  .rw[aV h]at e;refine(I.hok b u e).stay (fun c v g q=>k c v ?_ q) (fun c q=>ca i c _ q) fun c x q=>ca i c _ q;rcases g with z |z
   .rw[z];exact j b u e
   .exact j c _ z
def ye(K:Frag)(a:Addr):It:=
 ⟨fun i H=>∃b x,cT K H a b/\b[i]? = some x,fun i H v c=>∃T x,v=.ref T/\H T=none/\c = aB H T (.tup [.int i,x])/\∀b,cT K H a b->b[i]? = some x,fun i H=>∃b,cT K H a b/\b.length<=i⟩
theorem Jd{K}(a e it)(hne:e≠it):gz P w K (.Tuple elts kk tpos) (ye K a) [e,it] e (fun i h=>(∃old,IsEnum h e it i old)/\h.IsListIter it a i) where
 mem:=by simp
 obj:=fun i h st b hb=>by
  obtain⟨⟨old,he⟩,o,e1,c,d⟩:=st;rcases List.mem_cons.mp hb with rfl |hb
  .exact⟨_,he,fun v z=>by cases z⟩
  .obtain rfl:=List.mem_singleton.mp hb;exact⟨o,e1,fun v z=>by rw[d]at z;cases z⟩
 keep:=fun i h h' st k=>⟨st.1.elim fun old he=>⟨old,k e (by simp) _ he⟩,st.2.at fun o e'=>k it (by simp) o e'⟩
 item:=by
  intro X hP hw hK hc i pins s Y H E I hf st hg;subst hP hw hK;obtain⟨⟨old,he⟩,hit⟩:=st;obtain⟨xs,x,hq,hx⟩:=hg;obtain⟨its,rv,p,hz⟩:=I.list hq;obtain⟨u,hu,ru⟩:=rv.get hx;refine wpAny_pyNext_enum_item he hit p.isList (x:=u) (by simpa using hu) hne fun h' ho hi' hT hsz hk=>⟨_,rfl,?_⟩
  refine wpAny_letOwnedTupleGo_enum (s:={ s with heap:=h',toks:=s.toks+1 }) ho fun h2 he2 hs2=>?_;have hel:s.heap.objs.size≠e:=Nat.ne_of_gt (bv he);have k2:∀b ob,b∉[e,it]->s.heap.get? b=some ob->h2.get? b=some ob:=fun b ob hb q=>by simp only[List.mem_cons,List.not_mem_nil,or_false,not_or]at hb;exact(hs2.2 b hb.1).trans (hk b ob hb.1 hb.2 q)
  have I1:Inv X pins Y (aB H s.heap.objs.size (.tup [.int i,x])) { s with heap:=h2,toks:=s.toks+1 }:=by
   refine I.turnedNew (ch:=[e,it]) hf k2 (bG _) (fun b hb ob q=>?_) ?_
   .rcases List.mem_cons.mp hb with rfl |hb
    .exact⟨_,he2⟩
    .obtain rfl:=List.mem_singleton.mp hb;obtain⟨o,e1,_⟩:=hi';exact⟨o,(hs2.2 b (Ne.symm hne)).trans e1⟩
   .exact⟨by show 2<=sizeLine;decide,[.int i s.toks,u],.cons ⟨_,rfl⟩ (.cons ru .nil),⟨_,(hs2.2 _ hel).trans hT,rfl,_,rfl⟩⟩
  refine⟨.ref s.heap.objs.size,_,I1,rfl,⟨_,x,rfl,I.hok.fresh (bG _),rfl,fun ys hy=>by rw[I.list_inj hy hq];exact hx⟩,⟨⟨_,by simpa using he2⟩,hi'.at fun o e1=>(hs2.2 it (Ne.symm hne)).trans e1⟩,fun b hb=>?_⟩;have hb':b<s.heap.objs.size:=by
   rcases List.mem_cons.mp hb with rfl |hb
   .exact bv he
   .obtain rfl:=List.mem_singleton.mp hb;obtain⟨o,e1,_⟩:=hit;exact bv e1
  rw[aV (Nat.ne_of_lt hb')];exact(hf b hb).1
 done:=by intro X hP hw hK hc i pins s Y H E I hf st hg;subst hP hw hK;obtain⟨⟨old,he⟩,hit⟩:=st;obtain⟨xs,hq,hx⟩:=hg;obtain⟨its,rv,p,hz⟩:=I.list hq;obtain⟨f0,f1,f2,f3,f4,f5⟩:=hf it (by simp);have hl:=rv.length;exact wpAny_pyNext_enum_end (I.ok.hd hc) he hit p.isList (by simp;lia) fun h' eb=>⟨rfl,I.turned (t':=s.toks) (fun b o hb e=>eb b o hb e) f0 f1 f3 f4 f5⟩
 self:=fun _ _ _ _ _ st h=>st.1.elim fun _ he=>wpAny_pyIter_enum he h
def Je(K:Frag)(c:TA):TI:=fun Y H R=>c Y H fun d b=>∃a e,d=[.ref a]/\cT K b a e/\R (ye K a) b
theorem Jf(j:Gl X "enumerate")(k:X.mg "enumerate" = none)(m:PA X [a] g)(n:autoParam (starEach [a] X.env=[(false,eval a X.env)]) Zq._auto_1):PI X (.Tuple elts kk tpos) (.Call (.Name "enumerate" p) [a] [] pos) (Je X.K g):=by
 intro d s Y H R I h;refine Call_ (jo I j k (show bootBuiltins "enumerate" = some (.type "enumerate") by decide +kernel) (PyProof.Rows.callWith_type1 (aQ (m pos d s Y H _ I h) fun B c e=>?_) n rfl));obtain⟨C,o,I1,r,t⟩:=e;obtain⟨l,D,rfl,v,q⟩:=t;obtain⟨u,rfl,ru⟩:=di r;cases ru;obtain⟨w,E,p,G⟩:=I1.list v;refine call_enumerate_list p.isList fun x i y z A=>?_;refine wpAny_pyIter_enum (s:={ c with heap:=x }) i ?_;refine⟨c.heap.objs.size+1,[c.heap.objs.size+1,c.heap.objs.size],_,_,o,rfl,I1.kept (t':=c.toks) A,Jd l _ _ (Nat.succ_ne_self _),⟨⟨_,i⟩,y⟩,fun b f=>?_,q⟩;have hb':c.heap.objs.size<=b:=by
  rcases List.mem_cons.mp f with rfl |f
  .exact Nat.le_succ _
  .obtain rfl:=List.mem_singleton.mp f;exact bG _
 exact I1.fpOk hb' (I1.hok.fresh hb')
end L2
namespace L2.L3
open PySem PySem.Spec PyProof.Rows
noncomputable def ao(O:List Addr)(H:Hp):Hp:=fun b=>if b∈O then none else H b
theorem fY(h:H b=some o)(n:b∉O):ao O H b=some o:=by unfold ao;rw[if_neg n];exact h
theorem cV(h:ao O H b=some o):H b=some o/\b∉O:=by
 unfold ao at h
 by_cases e:b∈O
 .rw[if_pos e]at h;cases h
 .rw[if_neg e]at h;exact⟨h,e⟩
theorem jv(h:Rd (ao O H) a u):Rd H a u/\a∉O:=by
 rcases h with h |⟨o,h⟩
 .obtain⟨e,n⟩:=cV h;exact⟨.inl e,n⟩
 .obtain⟨e,n⟩:=cV h;exact⟨.inr ⟨o,e⟩,n⟩
theorem qG:bQ (ao O H) H:=fun b o h=>(cV h).1
structure aH (O:List Addr) (H:Hp) (O':List Addr) (H':Hp):Prop where
 keep:∀b o,b∉O->H b=some o->H' b=some o
 new:∀a∈O',a∈O\/H a=none
theorem aH.refl:aH O H O H:=⟨fun _ _ _ h=>h,fun _ h=>.inl h⟩
theorem aH.trans(a:aH f H1 g H2)(b:aH g H2 i j):aH f H1 i j:=by
 have k:∀c o,c∉f->H1 c=some o->c∉g:=fun c o d e z=>(a.new c z).elim d fun n=>by rw[n]at e;cases e
 refine⟨fun c o d e=>b.keep c o (k c o d e) (a.keep c o d e),fun c h=>?_⟩
 by_cases d:c∈f
 .exact .inl d
 .refine .inr ?_;cases e:H1 c with
  |none=>rfl
  |some o=>
   rcases b.new c h with z |z
   .exact absurd z (k c o d e)
   .rw[a.keep c o d e]at z;cases z
theorem aH.same(s:bQ H H'):aH O H O H':=⟨fun b o _ e=>s b o e,fun _ h=>.inl h⟩
theorem aH.hid(s:aH O H O' H'):bQ (ao O H) (ao O' H'):=fun b o e=>by
 obtain⟨a,n⟩:=cV e;refine fY (s.keep b o n a) fun z=>?_;rcases s.new b z with q |q
 .exact n q
 .rw[q]at a;cases a
theorem lD(s:bQ H H'):bQ (ao O H) (ao O H'):=(aH.same s).hid
theorem lE(s:∀a∈O',a∈O):bQ (ao O H) (ao O' H):=fun b o e=>by obtain⟨c,n⟩:=cV e;exact fY c fun z=>n (s b z)
inductive Fl where
 |d (x:PyData) |l (ds:List PyData) |m (tk:Bool) (kvs:List (PyData×PyData))
inductive Bx where
 |l (ds:List PyData) |m (tk:Bool) (kvs:List (PyData×PyData)) |o (C:Addr) (fs:List (Str×Fl)) |sd (fs:List (Str×Fl)) |ll (xs:List (List PyData)) |pr (C:Addr) (fs:List (Str×Fl)) (d:PyData) |oo (C:Addr) (fss:List (List (Str×Fl)))
inductive ae where
 |dat (d:PyData)
 |own (io:Bool) (b:Bx)
 |scr (ns:List Int)
 |exc (c:Str)
 |vw (b:Bx)
abbrev ag:=List (Option ae)
structure Fx where
 H₀:Hp
 A₀:List Addr
 O₀:List Addr
 I₀:Nat->Addr
def iM(K:Frag)(H:Hp)(a:Addr)(c:List Int):Prop:=c.length<=63/\((∃o,H a=some (.frz o (.lst (c.map V.int))))\/
 ∃(o:Obj) (b:Array Value) (n:Nat),K.lookup a=some o/\o.cls=.type "list"/\o.dict=none/\o.data=.seq b n/\b.size<=sizeLine/\bi (c.map V.int) b.toList)
theorem iM.sq{K}(h:iM K H a b):cT K H a (b.map V.int):=h.2.elim (fun⟨o,e⟩=>.inl (.inr ⟨o,e⟩)) .inr
theorem iM.mono{K}(h:iM K H a d)(k:∀o u,H a=some (.frz o u)->c a=some (.frz o u)):iM K c a d:=⟨h.1,h.2.imp (fun b=>by obtain⟨o,e⟩:=b;exact⟨o,k _ _ e⟩) id⟩
def Jg(K:Frag)(a:Addr)(c:Str)(h:Heap):Prop:=∃C o,nsIn K mainGlobals c=some (some (.ref C))/\h.get? a=some o/\o.cls=.ref C
noncomputable def iq:bf->PyData
 |.inl i=>.int i
 |.inr x=>.str x
def qH(a:List bf):PyData:=.tuple (a.map iq)
def jw(G H:Hp)(a:Addr):Bool->List (PyData×PyData)->Prop
 |false,b=>∃c:List (bf×V),H a=some (.dK c)/\Paired (fun(p:bf×V) (q:PyData×PyData)=>iq p.1=q.1/\DV G p.2 q.2) c b
 |true,b=>∃c:List (List bf×V),H a=some (.dT c)/\Paired (fun(p:List bf×V) (q:PyData×PyData)=>qH p.1=q.1/\DV G p.2 q.2) c b
def fZ(G H:Hp)(v:V):Fl->List Addr->Prop
 |.d x,b=>b=[]/\DV G v x
 |.l ds,b=>∃a e,v=.ref a/\b=[a]/\H a=some (.lst e)/\aC G e ds
 |.m f c,b=>∃a,v=.ref a/\b=[a]/\jw G H a f c
inductive bo (G H:Hp):List (Str×V)->List (Str×Fl)->List (List Addr)->Prop where
 |nil:bo G H [] [] []
 |cons {n:Str}{v:V}{f:Fl}{fp:List Addr}{gs:List (Str×V)}{fs:List (Str×Fl)}{fps:List (List Addr)}:fZ G H v f fp->bo G H gs fs fps->bo G H ((n,v)::gs) ((n,f)::fs) (fp::fps)
def ka(G H:Hp)(b:Addr)(c:List PyData):Prop:=∃a,H b=some (.lst a)/\aC G a c
def ug(G H:Hp)(C b:Addr)(fs:List (Str×Fl))(e:List Addr):Prop:=∃c d a,e=b::c::a.flatten/\H b=some (.ins C c d)/\H c=some (.own b)/\bo G H d fs a
inductive aW (G H:Hp) (C:Addr):List Addr->List (List (Str×Fl))->List (List Addr)->Prop where
 |nil:aW G H C [] [] []
 |cons {b:Addr}{fs:List (Str×Fl)}{fp:List Addr}{bs:List Addr}{fss:List (List (Str×Fl))}{fps:List (List Addr)}:ug G H C b fs fp->aW G H C bs fss fps->aW G H C (b::bs) (fs::fss) (fp::fps)
def ee(G H:Hp)(a:Addr):Bx->List Addr->Prop
 |.l ds,c=>c=[a]/\∃g,H a=some (.lst g)/\aC G g ds
 |.m k i,c=>c=[a]/\jw G H a k i
 |.o C fs,c=>∃f e b,c=a::f::b.flatten/\H a=some (.ins C f e)/\H f=some (.own a)/\bo G H e fs b
 |.sd fs,c=>∃e b,c=a::b.flatten/\H a=some (.dK (e.map fun p=>(Sum.inr p.1,p.2)))/\bo G H e fs b
 |.ll g,c=>∃bs:List Addr,c=a::bs/\H a=some (.lst (bs.map V.ref))/\Paired (ka G H) bs g
 |.pr C fs d,c=>∃h v f e b,G a=some (.tup [.ref h,v])/\c=h::f::b.flatten/\H h=some (.ins C f e)/\H f=some (.own h)/\bo G H e fs b/\DV G v d
 |.oo C j,c=>∃bs b,c=a::b.flatten/\H a=some (.lst (bs.map V.ref))/\aW G H C bs j b
def Mv:HO->Prop
 |.lst _=>True
 |.dK _=>True
 |.dT _=>True
 |.ins _ _ _=>True
 |.own _=>True
 |_=>False
def dm(K:Frag)(H:Hp)(O:List Addr)(v:V):ae->List Addr->Prop
 |.dat d,_=>DV (ao O H) v d
 |.own _ b,e=>∃a,v=.ref a/\ee (ao O H) H a b e
 |.scr ns,_=>∃a,v=.ref a/\iM K H a ns
 |.exc c,_=>∃a φ,v=.ref a/\ao O H a=some (.ext φ)/\∀h,φ h->Jg K a c h
 |.vw b,_=>∃a e,v=.ref a/\ee (ao O H) (ao O H) a b e
theorem jw.keep(h:jw G H a c b)(k:H' a=H a)(g:bQ G G'):jw G' H' a c b:=by
 cases c with
 |false=>obtain⟨d,e,p⟩:=h;exact⟨d,k.trans e,Paired.mapP p fun _ _ z=>⟨z.1,DV.mono g z.2⟩⟩
 |true=>obtain⟨d,e,p⟩:=h;exact⟨d,k.trans e,Paired.mapP p fun _ _ z=>⟨z.1,DV.mono g z.2⟩⟩
theorem jw.live(h:jw G H a c b):∃o,H a=some o/\Mv o:=by
 cases c with
 |false=>obtain⟨d,e,p⟩:=h;exact⟨_,e,trivial⟩
 |true=>obtain⟨d,e,p⟩:=h;exact⟨_,e,trivial⟩
theorem fZ.keep(h:fZ G H v f fp)(k:∀c∈fp,H' c=H c)(g:bQ G G'):fZ G' H' v f fp:=by
 cases f with
 |d x=>exact⟨h.1,DV.mono g h.2⟩
 |l ds=>obtain⟨a,j,e,b,i,n⟩:=h;exact⟨a,j,e,b,(k a (by simp[b])).trans i,aC.mono g n⟩
 |m p o=>obtain⟨a,e,b,i⟩:=h;exact⟨a,e,b,i.keep (k a (by simp[b])) g⟩
theorem fZ.live(h:fZ G H v f fp):∀c∈fp,∃o,H c=some o/\Mv o:=by
 cases f with
 |d x=>obtain⟨rfl,_⟩:=h;intro c b;cases b
 |l ds=>obtain⟨a,j,g,rfl,e,k⟩:=h;intro c b;obtain rfl:=List.mem_singleton.mp b;exact⟨_,e,trivial⟩
 |m n i=>obtain⟨a,g,rfl,e⟩:=h;intro c b;obtain rfl:=List.mem_singleton.mp b;exact e.live
theorem bo.keep(h:bo G H f fs d)(k:∀c∈d.flatten,H' c=H c)(g:bQ G G'):bo G' H' f fs d:=by
 induction h with
 |nil=>exact .nil
 |cons a b i=>exact .cons (a.keep (fun c e=>k c (by simp[e])) g) (i fun c e=>k c (by rw[List.flatten_cons];exact aT _ e))
theorem bo.live(h:bo G H f fs e):∀c∈e.flatten,∃o,H c=some o/\Mv o:=by
 induction h with
 |nil=>intro c d;cases d
 |cons a b g=>
  intro c d;rw[List.flatten_cons]at d;rcases List.mem_append.mp d with d |d
  .exact a.live c d
  .exact g c d
theorem Lls.keep(h:Paired (ka G H) bs f)(k:∀c∈bs,H' c=H c)(g:bQ G G'):Paired (ka G' H') bs f:=by
 induction h with
 |nil=>exact .nil
 |cons a b i=>obtain⟨j,e,d⟩:=a;exact .cons ⟨j,(k _ List.mem_cons_self).trans e,aC.mono g d⟩ (i fun c l=>k c (bC _ l))
theorem Lls.live(h:Paired (ka G H) bs g):∀c∈bs,∃o,H c=some o/\Mv o:=by
 induction h with
 |nil=>intro c f;cases f
 |cons a b i=>
  intro c f;obtain⟨j,e,d⟩:=a;rcases List.mem_cons.mp f with rfl |f
  .exact⟨_,e,trivial⟩
  .exact i c f
theorem aW.keep(h:aW G H C bs d b)(k:∀c∈b.flatten,H' c=H c)(g:bQ G G'):aW G' H' C bs d b:=by
 induction h with
 |nil=>exact .nil
 |cons o _ j=>obtain⟨i,l,b,rfl,m,n,f⟩:=o;exact .cons ⟨i,l,b,rfl,(k _ (by simp)).trans m,(k i (by simp)).trans n,f.keep (fun c e=>k c (by simp[e])) g⟩ (j fun c e=>k c (by rw[List.flatten_cons];exact aT _ e))
theorem aW.live(h:aW G H C bs e d):∀c∈d.flatten,∃o,H c=some o/\Mv o:=by
 induction h with
 |nil=>intro c b;cases b
 |cons o _ g=>
  obtain⟨k,l,d,rfl,i,j,f⟩:=o;intro c b;rw[List.flatten_cons]at b;rcases List.mem_append.mp b with b |b
  .rcases List.mem_cons.mp b with rfl |b
   .exact⟨_,i,trivial⟩
   .rcases List.mem_cons.mp b with rfl |b
    .exact⟨_,j,trivial⟩
    .exact f.live c b
  .exact g c b
theorem ee.keep(h:ee G H a b fp)(k:∀c∈fp,H' c=H c)(g:bQ G G'):ee G' H' a b fp:=by
 cases b with
 |l ds=>obtain⟨rfl,s,e,d⟩:=h;exact⟨rfl,s,(k a (by simp)).trans e,aC.mono g d⟩
 |m z u=>obtain⟨rfl,d⟩:=h;exact⟨rfl,d.keep (k a (by simp)) g⟩
 |o C fs=>obtain⟨p,q,i,rfl,j,r,f⟩:=h;exact⟨p,q,i,rfl,(k a (by simp)).trans j,(k p (by simp)).trans r,f.keep (fun c n=>k c (by simp[n])) g⟩
 |sd fs=>obtain⟨q,i,rfl,j,f⟩:=h;exact⟨q,i,rfl,(k a (by simp)).trans j,f.keep (fun c n=>k c (by simp[n])) g⟩
 |ll s=>obtain⟨bs,rfl,j,f⟩:=h;exact⟨bs,rfl,(k a (by simp)).trans j,Lls.keep f (fun c n=>k c (by simp[n])) g⟩
 |pr C fs d=>obtain⟨t,v,p,q,i,w,rfl,j,r,f,x⟩:=h;exact⟨t,v,p,q,i,g _ _ w,rfl,(k t (by simp)).trans j,(k p (by simp)).trans r,f.keep (fun c n=>k c (by simp[n])) g,DV.mono g x⟩
 |oo C y=>obtain⟨bs,i,rfl,j,f⟩:=h;exact⟨bs,i,rfl,(k a (by simp)).trans j,aW.keep f (fun c n=>k c (bC _ n)) g⟩
theorem ee.live(h:ee G H a b fp):∀c∈fp,∃o,H c=some o/\Mv o:=by
 cases b with
 |l ds=>obtain⟨rfl,p,e,d⟩:=h;intro c g;obtain rfl:=List.mem_singleton.mp g;exact⟨_,e,trivial⟩
 |m t q=>obtain⟨rfl,d⟩:=h;intro c g;obtain rfl:=List.mem_singleton.mp g;exact d.live
 |o C fs=>
  obtain⟨r,n,j,rfl,i,k,f⟩:=h;intro c g;rcases List.mem_cons.mp g with rfl |g
  .exact⟨_,i,trivial⟩
  .rcases List.mem_cons.mp g with rfl |g
   .exact⟨_,k,trivial⟩
   .exact f.live c g
 |sd fs=>
  obtain⟨n,j,rfl,i,f⟩:=h;intro c g;rcases List.mem_cons.mp g with rfl |g
  .exact⟨_,i,trivial⟩
  .exact f.live c g
 |ll p=>
  obtain⟨bs,rfl,i,f⟩:=h;intro c g;rcases List.mem_cons.mp g with rfl |g
  .exact⟨_,i,trivial⟩
  .exact Lls.live f c g
 |pr C fs d=>
  obtain⟨u,v,r,n,j,w,rfl,i,k,f,x⟩:=h;intro c g;rcases List.mem_cons.mp g with rfl |g
  .exact⟨_,i,trivial⟩
  .rcases List.mem_cons.mp g with rfl |g
   .exact⟨_,k,trivial⟩
   .exact f.live c g
 |oo C s=>
  obtain⟨bs,j,rfl,i,f⟩:=h;intro c g;rcases List.mem_cons.mp g with rfl |g
  .exact⟨_,i,trivial⟩
  .exact aW.live f c g
theorem dm.keep{K}(h:dm K H O v c fp)(s:aH O H j H')(k:∀b∈fp,H' b=H b)(z:∀b o u,H b=some (.frz o u)->H' b=some (.frz o u)):dm K H' j v c fp:=by
 cases c with
 |dat d=>exact DV.mono s.hid h
 |own io b=>obtain⟨a,e,q⟩:=h;exact⟨a,e,q.keep k s.hid⟩
 |scr ns=>obtain⟨a,f,q⟩:=h;exact⟨a,f,q.mono fun o u w=>z _ _ _ w⟩
 |exc c=>obtain⟨a,φ,f,g,q⟩:=h;exact⟨a,φ,f,s.hid _ _ g,q⟩
 |vw b=>obtain⟨a,i,f,q⟩:=h;exact⟨a,i,f,q.keep (fun c l=>by obtain⟨o,g,_⟩:=q.live c l;rw[g];exact s.hid _ _ g) s.hid⟩
structure bV (K:Frag) (F:Fx) (H:Hp) (Y:St) (U:ag) (W:List (List Addr)):Prop where
 at_:∀(i:Nat) (c:ae),U[i]? = some (some c)->∃v fp,Y[i]? = some (some v)/\W[i]? = some fp/\dm K H (W.flatten++F.O₀) v c fp
 nd:(W.flatten++F.O₀).Nodup
 kept:∀b o,b∉F.A₀->F.H₀ b=some o->H b=some o
 new:∀a∈W.flatten,a∈F.A₀\/F.H₀ a=none
 live:∀a∈W.flatten++F.O₀,∃o,H a=some o/\Mv o
 len:U.length=Y.length
 lw:W.length=U.length
 io:∀(i:Nat) (b:Bx),U[i]? = some (some (.own true b))->Y[i]? = some (some (.ref (F.I₀ i)))
def ay(K:Frag)(F:Fx)(H:Hp)(Y:St)(U:ag)(O:List Addr):Prop:=∃W,bV K F H Y U W/\O=W.flatten++F.O₀
theorem fO{α:Type}{l:List α}{x y}(e:(l.set i x)[j]? = some y):(j=i/\y=x/\i<l.length)\/(j≠i/\l[j]? = some y):=by
 by_cases b:j=i
 .subst b;have a:j<l.length:=by
   have:=(List.getElem?_eq_some_iff.mp e).1
   rwa [List.length_set]at this
  rw[List.getElem?_set_self a]at e;exact .inl ⟨rfl,(Option.some.inj e).symm,a⟩
 .rw[List.getElem?_set_ne (Ne.symm b)]at e;exact .inr ⟨b,e⟩
theorem ek{α:Type}{W:List (List α)}{c}{a}(h:a∈(W.set i c).flatten):a∈c\/∃j l,j≠i/\W[j]? = some l/\a∈l:=by
 obtain⟨l,f,d⟩:=List.mem_flatten.mp h;obtain⟨j,g⟩:=List.getElem?_of_mem f;rcases fO g with⟨_,rfl,_⟩ |⟨b,e⟩
 .exact .inl d
 .exact .inr ⟨j,l,b,e,d⟩
theorem bK{α:Type}{W:List (List α)}{j:Nat}{l}{a}(h:W[j]? = some l)(b:a∈l):a∈W.flatten:=List.mem_flatten.mpr ⟨l,List.mem_of_getElem? h,b⟩
theorem Jh{α:Type}{W:List (List α)}{b l}{a}(c:j≠i)(h:W[j]? = some l)(d:a∈l):a∈(W.set i b).flatten:=bK (j:=j) (by rw[List.getElem?_set_ne (Ne.symm c)];exact h) d
theorem yf{α:Type}{W:List (List α)}{b}{a}(c:i<W.length)(d:a∈b):a∈(W.set i b).flatten:=bK (j:=i) (List.getElem?_set_self c) d
theorem hJ{α:Type}:∀{W:List (List α)}{i j:Nat}{l m}{a},W.flatten.Nodup->W[i]? = some l->W[j]? = some m->i≠j->a∈l->a∉m
 |[],_,_,_,_,_,_,h,_,_,_=>by simp at h
 |w::W,0,0,_,_,_,_,_,_,d,_=>absurd rfl d
 |w::W,0,j+1,l,m,a,nd,h1,h2,_,b=>fun c=>by
  have e:w=l:=by simpa using h1
  subst e;rw[List.flatten_cons]at nd;exact(List.nodup_append.mp nd).2.2 a b a (bK (j:=j) (by simpa using h2) c) rfl
 |w::W,i+1,0,l,m,a,nd,h1,h2,_,b=>fun c=>by
  have e:w=m:=by simpa using h2
  subst e;rw[List.flatten_cons]at nd;exact(List.nodup_append.mp nd).2.2 a c a (bK (j:=i) (by simpa using h1) b) rfl
 |w::W,i+1,j+1,l,m,a,nd,h1,h2,d,b=>hJ (W:=W) (i:=i) (j:=j) (by rw[List.flatten_cons]at nd;exact(List.nodup_append.mp nd).2.1) (by simpa using h1) (by simpa using h2) (by lia) b
theorem mM{α:Type}[DecidableEq α]:∀{W:List (List α)}{i}{fp O},(W.flatten++O).Nodup->fp.Nodup->(∀a∈fp,(∀j l,j≠i->W[j]? = some l->a∉l)/\a∉O)->((W.set i fp).flatten++O).Nodup
 |[],i,fp,O,h,_,_=>by simpa using h
 |w::W,0,fp,O,h,f,hd=>by
  rw[List.set_cons_zero,List.flatten_cons,List.append_assoc];rw[List.flatten_cons,List.append_assoc]at h;refine List.nodup_append.mpr ⟨f,(List.nodup_append.mp h).2.1,fun a d b c e=>?_⟩;subst e;rcases List.mem_append.mp c with c |c
  .obtain⟨l,g,k⟩:=List.mem_flatten.mp c;obtain⟨j,m⟩:=List.getElem?_of_mem g;exact(hd a d).1 (j+1) l (by lia) (by simpa using m) k
  .exact(hd a d).2 c
 |w::W,i+1,fp,O,h,f,hd=>by
  rw[List.set_cons_succ,List.flatten_cons,List.append_assoc];rw[List.flatten_cons,List.append_assoc]at h;obtain⟨o,h2,h3⟩:=List.nodup_append.mp h;have n:=mM (W:=W) (i:=i) (fp:=fp) (O:=O) h2 f fun a d=>⟨fun j l m e=>(hd a d).1 (j+1) l (by lia) (by simpa using e),(hd a d).2⟩
  refine List.nodup_append.mpr ⟨o,n,fun a d b c e=>?_⟩;subst e;rcases List.mem_append.mp c with c |c
  .rcases ek c with c |⟨j,l,m,e,g⟩
   .exact(hd a c).1 0 w (by lia) (by simp) d
   .exact h3 a d a (aR _ (bK e g)) rfl
  .exact h3 a d a (aT _ c) rfl
section
variable{K:Frag}{F:Fx}{H H':Hp}{Y:St}{U:ag}{O O':List Addr}{W:List (List Addr)}
theorem bV.nofrz(st:bV K F H Y U W)(h:b∈W.flatten++F.O₀):H b≠some (.frz o u):=fun z=>by obtain⟨a,e,m⟩:=st.live b h;rw[z]at e;cases e;exact m
theorem bV.put(st:bV K F H Y U W)(r:i<U.length)
  (keep:∀j l b,j≠i->W[j]? = some l->b∈l->H' b=H b) (f:∀b∈F.O₀,H' b=H b) (frz:∀b o,b∉W.flatten++F.O₀->H b=some o->H' b=some o)
  (C:fp.Nodup) (ap:∀a∈fp,(∀j l,j≠i->W[j]? = some l->a∉l)/\a∉F.O₀) (new:∀a∈fp,a∈W.flatten\/H a=none) (s:∀a∈fp,∃o,H' a=some o/\Mv o)
  (A:aH (W.flatten++F.O₀) H ((W.set i fp).flatten++F.O₀) H'->dm K H' ((W.set i fp).flatten++F.O₀) v c fp) (t:∀b,c=.own true b->v=.ref (F.I₀ i)) :
  bV K F H' (Y.set i (some v)) (U.set i (some c)) (W.set i fp)/\aH (W.flatten++F.O₀) H ((W.set i fp).flatten++F.O₀) H':=by
 have k:aH (W.flatten++F.O₀) H ((W.set i fp).flatten++F.O₀) H':=⟨frz,fun a h=>by
  rcases List.mem_append.mp h with h |h
  .rcases ek h with h |⟨j,l,_,e,n⟩
   .exact(new a h).imp (aR _) id
   .exact .inl (aR _ (bK e n))
  .exact .inl (aT _ h)⟩
 have B:∀b o u,H b=some (.frz o u)->H' b=some (.frz o u):=fun b o u e=>frz b _ (fun z=>st.nofrz z e) e;have x:i<W.length:=by rw[st.lw];exact r
 refine⟨⟨fun j d e=>?_,mM st.nd C ap,fun b o p e=>?_,fun a h=>?_,fun a h=>?_,by rw[List.length_set,List.length_set,st.len],by rw[List.length_set,List.length_set,st.lw],fun j b e=>?_⟩,k⟩
 .rcases fO e with⟨rfl,g,_⟩ |⟨m,g⟩
  .cases g;exact⟨v,fp,List.getElem?_set_self (by rw[<-st.len];exact r),List.getElem?_set_self x,A k⟩
  .obtain⟨w,l,h1,h2,h3⟩:=st.at_ j d g;exact⟨w,l,by rw[List.getElem?_set_ne (Ne.symm m)];exact h1,by rw[List.getElem?_set_ne (Ne.symm m)];exact h2,h3.keep k (fun b D=>keep j l b m h2 D) B⟩
 .have g:=st.kept b o p e
  by_cases y:b∈F.O₀
  .rw[f b y];exact g
  .refine frz b o (fun z=>?_) g;rcases List.mem_append.mp z with z |z
   .rcases st.new b z with q |q
    .exact p q
    .rw[q]at e;cases e
   .exact y z
 .rcases ek h with h |⟨j,l,_,e,n⟩
  .rcases new a h with q |q
   .exact st.new a q
   .by_cases p:a∈F.A₀
    .exact .inl p
    .refine .inr ?_;cases e:F.H₀ a with
     |none=>rfl
     |some o=>rw[st.kept a o p e]at q;cases q
  .exact st.new a (bK e n)
 .rcases List.mem_append.mp h with h |h
  .rcases ek h with h |⟨j,l,m,e,n⟩
   .exact s a h
   .obtain⟨o,h1,h2⟩:=st.live a (aR _ (bK e n));exact⟨o,by rw[keep j l a m e n];exact h1,h2⟩
  .obtain⟨o,h1,h2⟩:=st.live a (aT _ h);exact⟨o,by rw[f a h];exact h1,h2⟩
 .rcases fO e with⟨rfl,g,_⟩ |⟨m,g⟩
  .rw[List.getElem?_set_self (by rw[<-st.len];exact r),t b (Option.some.inj g).symm]
  .rw[List.getElem?_set_ne (Ne.symm m)];exact st.io j b g
theorem bV.grow(st:bV K F H Y U W)(s:bQ H H'):bV K F H' Y U W where
 at_:=fun i c e=>let⟨v,fp,h1,h2,h3⟩:=st.at_ i c e;⟨v,fp,h1,h2,h3.keep (.same s) (fun b hb=>by
  obtain⟨o,e1,_⟩:=st.live b (aR _ (bK h2 hb));rw[e1];exact s _ _ e1) fun b o u e=>s _ _ e⟩
 nd:=st.nd
 kept:=fun b o n e=>s b o (st.kept b o n e)
 new:=st.new
 live:=fun a h=>let⟨o,e,m⟩:=st.live a h;⟨o,s _ _ e,m⟩
 len:=st.len
 lw:=st.lw
 io:=st.io
theorem ay.grow(st:ay K F H Y U O)(s:bQ H H'):ay K F H' Y U O:=let⟨W,h,e⟩:=st;⟨W,h.grow s,e⟩
theorem ay.nofree(st:ay K F H Y U O):∀p,H p=none->p∉O:=fun p a z=>by obtain⟨W,h,rfl⟩:=st;obtain⟨o,e,_⟩:=h.live p z;rw[a]at e;cases e
theorem ay.lenE(st:ay K F H Y U O):U.length=Y.length:=let⟨_,h,_⟩:=st;h.len
theorem ay.dat(st:ay K F H Y U O){i:Nat}(e:U[i]? = some (some (.dat d))):∃v,Y[i]? = some (some v)/\DV (ao O H) v d:=by obtain⟨W,h,rfl⟩:=st;obtain⟨v,a,h1,h2,h3⟩:=h.at_ i _ e;exact⟨v,h1,h3⟩
theorem ay.scr(st:ay K F H Y U O){i:Nat}(e:U[i]? = some (some (.scr b))):∃a,Y[i]? = some (some (.ref a))/\iM K H a b:=by obtain⟨W,h,rfl⟩:=st;obtain⟨v,c,h1,h2,a,rfl,h3⟩:=h.at_ i _ e;exact⟨a,h1,h3⟩
theorem ay.set(st:ay K F H Y U O)(h:DV (ao O H) v d):ay K F H (Y.set i (some v)) (U.set i (some (.dat d))) O:=by
 obtain⟨W,st,rfl⟩:=st;refine⟨W,⟨fun j c e=>?_,st.nd,st.kept,st.new,st.live,by rw[List.length_set,List.length_set,st.len],by rw[List.length_set,st.lw],fun j b e=>?_⟩,rfl⟩
 rotate_left
 .rcases fO e with⟨rfl,a,_⟩ |⟨g,a⟩
  .cases a
  .rw[List.getElem?_set_ne (Ne.symm g)];exact st.io j b a
 rcases fO e with⟨rfl,a,f⟩ |⟨g,a⟩
 .cases a;obtain⟨k,m⟩:∃k,W[j]? = some k:=⟨W[j]'(by rw[st.lw];exact f),List.getElem?_eq_getElem _⟩
  exact⟨v,k,List.getElem?_set_self (by rw[<-st.len];exact f),m,h⟩
 .obtain⟨w,l,h1,h2,h3⟩:=st.at_ j c a;exact⟨w,l,by rw[List.getElem?_set_ne (Ne.symm g)];exact h1,h2,h3⟩
theorem ay.box(st:ay K F H Y U O)(e:U[i]? = some (some (.own io b))):∃a m,Y[i]? = some (some (.ref a))/\ee (ao O H) H a b m/\(∀c∈m,c∈O)/\
  ∀H'  t  f,(∀c o,c∉m->H c=some o->H' c=some o)->f.Nodup->(∀c∈f,c∈m\/H c=none)->(∀G,(∀O',aH O H O' H'->G=ao O' H'->(∀c∈f,c∈O')->bQ (ao O H) G/\ee G H' a t f))->
   ∃O',ay K F H' Y (U.set i (some (.own io t))) O'/\aH O H O' H'/\(∀c∈O',c∈f\/c∈O):=by
 obtain⟨W,st,rfl⟩:=st;obtain⟨v,m,h1,h2,a,rfl,h3⟩:=st.at_ i _ e;have A:i<U.length:=(List.getElem?_eq_some_iff.mp e).1;have u:i<W.length:=by rw[st.lw];exact A
 refine⟨a,m,h1,h3,fun c d=>aR _ (bK h2 d),fun H' t f keep M w N=>?_⟩;have p:W.flatten.Nodup:=(List.nodup_append.mp st.nd).1;have B:∀c∈m,c∉F.O₀:=fun c d z=>(List.nodup_append.mp st.nd).2.2 c (bK h2 d) c z rfl;have D:∀j l c,j≠i->W[j]? = some l->c∈l->H' c=H c:=fun j l c n k d=>by obtain⟨o,g,_⟩:=st.live c (aR _ (bK k d));rw[g];exact keep c o (fun z=>hJ p k h2 n d z) g
 have E:∀c∈F.O₀,H' c=H c:=fun c d=>by obtain⟨o,g,_⟩:=st.live c (aT _ d);rw[g];exact keep c o (fun z=>B c z d) g
 have ap:∀c∈f,(∀j l,j≠i->W[j]? = some l->c∉l)/\c∉F.O₀:=fun c d=>by
  rcases w c d with q |q
  .exact⟨fun j l n k z=>hJ p h2 k (Ne.symm n) q z,B c q⟩
  .refine⟨fun j l _ k z=>?_,fun z=>?_⟩
   .obtain⟨o,g,_⟩:=st.live c (aR _ (bK k z));rw[q]at g;cases g
   .obtain⟨o,g,_⟩:=st.live c (aT _ z);rw[q]at g;cases g
 have frz:∀c o,c∉W.flatten++F.O₀->H c=some o->H' c=some o:=fun c o d I=>keep c o (fun z=>d (aR _ (bK h2 z))) I;have x:aH (W.flatten++F.O₀) H ((W.set i f).flatten++F.O₀) H':=⟨frz,fun c h=>by
  rcases List.mem_append.mp h with h |h
  .rcases ek h with h |⟨j,l,_,k,y⟩
   .exact(w c h).imp (fun z=>aR _ (bK h2 z)) id
   .exact .inl (aR _ (bK k y))
  .exact .inl (aT _ h)⟩
 have r:∀c∈f,c∈(W.set i f).flatten++F.O₀:=fun c d=>aR _ (yf u d);have s:=(N _ _ x rfl r).2;obtain⟨C,J⟩:=st.put (H':=H') (i:=i) (v:=.ref a) (c:=.own io t) (fp:=f) A D E frz M ap (fun c d=>(w c d).imp (fun z=>bK h2 z) id) (fun c d=>s.live c d) (fun _=>⟨a,rfl,s⟩) (fun Q z=>by cases z;have:=st.io i b e;rw[h1]at this;exact(Option.some.inj (Option.some.inj this)));have L:Y.set i (some (.ref a))=Y:=by
  apply List.ext_getElem?;intro j
  by_cases n:j=i
  .subst n;rw[List.getElem?_set_self (List.getElem?_eq_some_iff.mp h1).1,h1]
  .rw[List.getElem?_set_ne (Ne.symm n)]
 rw[L]at C;refine⟨_,⟨_,C,rfl⟩,J,fun c d=>?_⟩;rcases List.mem_append.mp d with d |d
 .rcases ek d with d |⟨j,l,_,k,y⟩
  .exact .inl d
  .exact .inr (aR _ (bK k y))
 .exact .inr (aT _ d)
theorem ay.freeze(st:ay K F H Y U O)(e:U[i]? = some (some (.own false (.l b)))) :
  ∃v O',Y[i]? = some (some v)/\ay K F H Y (U.set i (some (.dat (.list b)))) O'/\aH O H O' H/\DV (ao O' H) v (.list b):=by
 obtain⟨W,st,rfl⟩:=st;obtain⟨v,u,h1,h2,a,rfl,rfl,w,h3,o⟩:=st.at_ i _ e;have p:i<U.length:=(List.getElem?_eq_some_iff.mp e).1;have f:W.flatten.Nodup:=(List.nodup_append.mp st.nd).1;have g:a∉(W.set i []).flatten++F.O₀:=fun z=>by
  rcases List.mem_append.mp z with z |z
  .rcases ek z with z |⟨j,l,d,q,r⟩
   .cases z
   .exact hJ f h2 q (Ne.symm d) List.mem_cons_self r
  .exact(List.nodup_append.mp st.nd).2.2 a (bK h2 List.mem_cons_self) a z rfl
 have k:aH (W.flatten++F.O₀) H ((W.set i []).flatten++F.O₀) H->DV (ao ((W.set i []).flatten++F.O₀) H) (.ref a) (.list b):=fun s=>.lst (fY h3 g) (aC.mono s.hid o);obtain⟨m,n⟩:=st.put (H':=H) (i:=i) (v:=.ref a) (c:=.dat (.list b)) (fp:=[]) p (fun _ _ _ _ _ _=>rfl) (fun _ _=>rfl) (fun _ _ _ e=>e) List.nodup_nil (fun a h=>by cases h) (fun a h=>by cases h) (fun a h=>by cases h) (fun s=>k s) (fun _ z=>by cases z);have t:Y.set i (some (.ref a))=Y:=by
  apply List.ext_getElem?;intro j
  by_cases d:j=i
  .subst d;rw[List.getElem?_set_self (List.getElem?_eq_some_iff.mp h1).1,h1]
  .rw[List.getElem?_set_ne (Ne.symm d)]
 rw[t]at m;exact⟨_,_,h1,⟨_,m,rfl⟩,n,k n⟩
end
abbrev DT:=ag->(PyData->ag->Prop)->Prop
def Mn(t:DT):Prop:=∀U Q a,(∀d b,Q d b->a d b)->t U Q->t U a
def gb(K:Frag)(F:Fx)(t:DT):TE:=fun Y H Q=>∃U O,ay K F H Y U O/\t U fun d c=>∀v a b,ay K F a Y c b->aH O H b a->DV (ao b a) v d->Q v a
structure DE (X:Cx) (F:Fx) (e:Expr) (t:DT):Prop where
 mn:Mn t
 pe:PE X e (gb X.K F t)
theorem _root_.L2.PE.imp(h:PE X e t)(k:∀Y H Q,t' Y H Q->t Y H Q):PE X e t':=fun a s Y H Q I q=>h a s Y H Q I (k Y H Q q)
theorem _root_.L2.PT.imp(h:PT X e t)(k:∀Y H Q,t' Y H Q->t Y H Q):PT X e t':=fun a s Y H Q I q=>h a s Y H Q I (k Y H Q q)
theorem _root_.L2.PS.imp(h:PS X e t)(k:∀D Y H,t' D Y H->t D Y H):PS X e t':=fun a s Y H D I q=>h a s Y H D I (k D Y H q)
theorem _root_.L2.PSs.imp(h:PSs X e t)(k:∀D Y H,t' D Y H->t D Y H):PSs X e t':=fun a s Y H D I q=>h a s Y H D I (k D Y H q)
def dC(d:PyData):DT:=fun U Q=>Q d U
def dV(i:Nat):DT:=fun U Q=>(∃d,U[i]? = some (some (.dat d))/\Q d U)\/∃c,U[i]? = some (some (.own false (.l c)))/\Q (.list c) (U.set i (some (.dat (.list c))))
theorem Ji:Mn (dC d):=fun _ _ _ h q=>h _ _ q
theorem oz(h:PE X e (tC v))(hd:∀H,DV H v d):DE X F e (dC d):=
 ⟨Ji,h.imp fun Y H Q c=>by obtain⟨U,O,st,q⟩:=c;exact q v H O st .refl (hd _)⟩
theorem av:DE X F (.Constant (.int i) j pos) (dC (.int i)):=oz tp fun _=>.int i
theorem gc:DE X F (.Constant (.bool i) j pos) (dC (.bool i)):=oz FC fun _=>.bl i
theorem eK:DE X F (.Constant .none j pos) (dC .none):=oz tq fun _=>.non
theorem cw:DE X F (.Constant (.str x) j pos) (dC (.str x)):=oz wW fun _=>.str x
theorem Jj(i)(h:PE X (.Name x pos) (bw i)):DE X F (.Name x pos) (dV i):=
 ⟨fun _ _ _ k q=>q.imp (fun c=>by obtain⟨d,e,q⟩:=c;exact⟨d,e,k _ _ q⟩) fun f=>by obtain⟨d,e,q⟩:=f;exact⟨d,e,k _ _ q⟩,h.imp fun Y H Q g=>by
  obtain⟨U,O,st,q⟩:=g;rcases q with⟨d,e,q⟩ |⟨ds,e,q⟩
  .obtain⟨v,h1,h2⟩:=st.dat e;exact⟨v,h1,q v H O st .refl h2⟩
  .obtain⟨v,j,h1,h2,h3,l⟩:=st.freeze e;exact⟨v,h1,q v H j h2 h3 l⟩⟩
abbrev D2:=PyData->PyData->(PyData->Prop)->Prop
def da(f:D2)(ta tb:DT):DT:=fun U Q=>ta U fun x c=>tb c fun y g=>f x y fun d=>Q d g
structure fk (r:R2) (f:D2):Prop where
 mn:∀x y Q Q',(∀d,Q d->Q' d)->f x y Q->f x y Q'
 ok:∀(O:List Addr) (H:Hp) (u v:V) (x y:PyData) (Q:VK),(∀p,H p=none->p∉O)->DV (ao O H) u x->DV (ao O H) v y->f x y (fun d=>∀w H',bQ H H'->DV (ao O H') w d->Q w H')->r u v H Q
theorem qJ(o:fk r f)(l:Mn ta)(E:Mn tb){K}:∀Y H Q,gb K F (da f ta tb) Y H Q->ou r (gb K F ta) (gb K F tb) Y H Q:=fun Y H Q c=>by obtain⟨U,O,st,q⟩:=c;refine⟨U,O,st,l _ _ _ (fun x m n v1 G p h s t=>?_) q⟩;refine⟨m,p,h,E _ _ _ (fun y I u v z i g j A=>?_) n⟩;refine o.ok i z v1 v x y Q g.nofree (DV.mono j.hid t) A (o.mn _ _ _ _ (fun d B w C k D=>?_) u);exact B w C i (g.grow k) (s.trans (j.trans (.same k))) D
theorem oA(o:fk r f)(c:Mn ta)(i:Mn tb):Mn (da f ta tb):=fun _ _ _ k q=>c _ _ _ (fun _ _ d=>i _ _ _ (fun _ _ g=>o.mn _ _ _ _ (fun _ h=>k _ _ h) g) d) q
theorem lF(g:cU X (binaryOp op) r)(o:fk r f)(c:DE X F a ta)(d:DE X F b tb):DE X F (.BinOp a op b pos) (da f ta tb):=
 ⟨oA o c.mn d.mn,(GQ g c.pe d.pe).imp (qJ o c.mn d.mn)⟩
theorem mO(h:cU X (compareOp op) r)(o:fk r f)(c:DE X F a ta)(d:DE X F b tb)(g:behindInMarks op b=false):DE X F (.Compare a [op] [b] pos) (da f ta tb):=
 ⟨oA o c.mn d.mn,(Ha h c.pe d.pe g).imp (qJ o c.mn d.mn)⟩
theorem Jk(g:jt X r)(o:fk r f)(c:DE X F a ta)(d:DE X F b tb)(h:im b):DE X F (.Subscript a b pos) (da f ta tb):=
 ⟨oA o c.mn d.mn,(ly g c.pe d.pe h).imp (qJ o c.mn d.mn)⟩
def fI(C:Int->Int->Prop)(g:Int->Int->PyData):D2:=fun x y Q=>∃i j,x=.int i/\y=.int j/\C i j/\Q (g i j)
theorem uh(hg:∀i j H,DV H (g i j) (g' i j)):fk (rI C g) (fI C g') where
 mn:=fun _ _ _ _ k zq1a=>by obtain⟨i,j,e1,e2,c,q⟩:=zq1a;exact⟨i,j,e1,e2,c,k _ q⟩
 ok:=fun O H u v x y Q hO h1 h2 zq2a=>by obtain⟨i,j,e1,e2,c,q⟩:=zq2a;subst e1 e2;exact⟨i,j,h1.int_inv,h2.int_inv,c,q _ H (fun _ _ h=>h) (hg i j _)⟩
theorem kb(hg:∀i j H,DV H (g i j) (g' i j)):fk (iI g) (fI (fun _ _=>True) g') where
 mn:=fun _ _ _ _ k zq1a=>by obtain⟨i,j,e1,e2,c,q⟩:=zq1a;exact⟨i,j,e1,e2,c,k _ q⟩
 ok:=fun O H u v x y Q hO h1 h2 zq2a=>by obtain⟨i,j,e1,e2,_,q⟩:=zq2a;subst e1 e2;exact⟨i,j,h1.int_inv,h2.int_inv,q _ H (fun _ _ h=>h) (hg i j _)⟩
def oB(neg:Bool):D2:=fun x y Q=>SeqAt.shaped x=true/\SeqAt.shaped y=true/\Q (.bool (PyData.eqv x y != neg))
theorem ui:fk (ue neg) (oB neg) where
 mn:=fun _ _ _ _ k ⟨e1,e2,q⟩=>⟨e1,e2,k _ q⟩
 ok:=fun O H u v x y Q hO h1 h2 ⟨e1,e2,q⟩=>⟨x,y,DV.mono qG h1,DV.mono qG h2,e1,e2,q _ H (fun _ _ h=>h) (.bl _)⟩
@[simp]noncomputable def isNone:PyData->Bool
 |.none=>true
 |_=>false
def qK:D2:=fun x y Q=>y=.none/\Q (.bool (isNone x))
def uj:D2:=fun x y Q=>y=.none/\Q (.bool (!isNone x))
theorem yg(h:DV H v d):decide (v=.non)=isNone d:=by cases h<;>first |rfl |(exact decide_eq_false (fun z=>by cases z))
theorem yh:fk (fun x y H Q=>y=.non/\Q (.bl (decide (x=.non))) H) qK where
 mn:=fun _ _ _ _ k ⟨e,q⟩=>⟨e,k _ q⟩
 ok:=fun O H u v x y Q hO h1 h2 ⟨e,q⟩=>by subst e;exact⟨h2.non_inv,by rw[yg h1];exact q _ H (fun _ _ h=>h) (.bl _)⟩
theorem yi:fk (fun x y H Q=>y=.non/\Q (.bl (!decide (x=.non))) H) uj where
 mn:=fun _ _ _ _ k ⟨e,q⟩=>⟨e,k _ q⟩
 ok:=fun O H u v x y Q hO h1 h2 ⟨e,q⟩=>by subst e;exact⟨h2.non_inv,by rw[yg h1];exact q _ H (fun _ _ h=>h) (.bl _)⟩
def yj:D2:=fun x y Q=>∃c i d,x=.tuple c/\y=.int i/\bD c i=some d/\Q d
def yk:D2:=fun x y Q=>∃c i d,x=.list c/\y=.int i/\bD c i=some d/\Q d
theorem uk(h:aC H f c)(e:bD c i=some d):∃v,bD f i=some v/\DV H v d:=by
 unfold bD at e ⊢;rw[h.length];cases q:cn c.length i with
 |none=>rw[q]at e;cases e
 |some j=>rw[q]at e;exact h.get e
theorem yl{K}:fk (tR K) yj where
 mn:=fun _ _ _ _ k zq1a=>by obtain⟨ds,i,d,e1,e2,e3,q⟩:=zq1a;exact⟨ds,i,d,e1,e2,e3,k _ q⟩
 ok:=fun O H u v x y Q hO h1 h2 zq2a=>by obtain⟨ds,i,d,e1,e2,e3,q⟩:=zq2a;subst e1 e2;obtain⟨a,xs,rfl,ha,hd⟩:=h1.tup_inv;obtain⟨w,ew,hw⟩:=uk hd e3;exact⟨a,xs,i,w,rfl,h2.int_inv,.inl (jv ha).1,ew,q w H (fun _ _ h=>h) hw⟩
theorem ym{K}:fk (tQ K) yk where
 mn:=fun _ _ _ _ k zq1a=>by obtain⟨ds,i,d,e1,e2,e3,q⟩:=zq1a;exact⟨ds,i,d,e1,e2,e3,k _ q⟩
 ok:=fun O H u v x y Q hO h1 h2 zq2a=>by obtain⟨ds,i,d,e1,e2,e3,q⟩:=zq2a;subst e1 e2;obtain⟨a,xs,rfl,ha,hd⟩:=h1.lst_inv;obtain⟨w,ew,hw⟩:=uk hd e3;exact⟨a,xs,i,w,rfl,h2.int_inv,.of (cV ha).1,ew,q w H (fun _ _ h=>h) hw⟩
theorem mP(f:H p=none)(g:p∉O)(h:aC (ao O H) c d):DV (ao O (aB H p (.lst c))) (.ref p) (.list d):=
 .lst (fY bP g) (aC.mono (lD (ca f)) h)
theorem mQ(f:H p=none)(g:p∉O)(h:aC (ao O H) c d):DV (ao O (aB H p (.tup c))) (.ref p) (.tuple d):=
 .tup (.inl (fY bP g)) (aC.mono (lD (ca f)) h)
def um:D2:=fun x y Q=>∃d c,x=.list d/\y=.list c/\d.length+c.length<=sizeLine/\Q (.list (d++c))
theorem Jl:fk xL um where
 mn:=fun _ _ _ _ k zq1a=>by obtain⟨ds,es,e1,e2,e3,q⟩:=zq1a;exact⟨ds,es,e1,e2,e3,k _ q⟩
 ok:=fun O H u v x y Q hO h1 h2 zq2a=>by obtain⟨ds,es,e1,e2,e3,q⟩:=zq2a;subst e1 e2;obtain⟨a,xs,rfl,ha,hd⟩:=h1.lst_inv;obtain⟨b,ys,rfl,hb,he⟩:=h2.lst_inv;refine⟨a,b,xs,ys,rfl,rfl,(cV ha).1,(cV hb).1,by rw[hd.length,he.length];exact e3,fun p hp=>q _ _ (ca hp) (mP hp (hO p hp) (hd.append he))⟩
theorem jx{B:Prop}(h:if true=true then A else B):A:=by rw[if_pos rfl]at h;exact h
theorem jy{B:Prop}(h:if false=true then A else B):B:=by rw[if_neg Bool.false_ne_true]at h;exact h
abbrev ef:=ag->(List PyData->ag->Prop)->Prop
def qL(t:ef):Prop:=∀U Q a,(∀d b,Q d b->a d b)->t U Q->t U a
def yn(K:Frag)(F:Fx)(t:ef):TA:=fun Y H Q=>∃U O,ay K F H Y U O/\t U fun e d=>∀c a b,ay K F a Y d b->aH O H b a->aC (ao b a) c e->Q c a
structure DA (X:Cx) (F:Fx) (es:List Expr) (t:ef):Prop where
 mn:qL t
 pa:PA X es (yn X.K F t)
theorem _root_.L2.PA.imp(h:PA X e t)(k:∀Y H Q,t' Y H Q->t Y H Q):PA X e t':=fun pos a s Y H Q I q=>h pos a s Y H Q I (k Y H Q q)
def Jm:ef:=fun U Q=>Q [] U
def Jn(ta:DT)(f:ef):ef:=fun U Q=>ta U fun d g=>f g fun i h=>Q (d::i) h
theorem Jo:DA X F [] Jm:=⟨fun _ _ _ k q=>k _ _ q,dj.imp fun Y H Q d=>by obtain⟨U,O,st,q⟩:=d;exact q [] H O st .refl .nil⟩
theorem Jp(g:DE X F e ta)(h:DA X F es tA)(o:autoParam (starEach (e::es) X.env=(false,eval e X.env)::starEach es X.env) Zq._auto_1):DA X F (e::es) (Jn ta tA):=
 ⟨fun _ _ _ k q=>g.mn _ _ _ (fun _ _ i=>h.mn _ _ _ (fun _ _ j=>k _ _ j) i) q,(cJ g.pe h.pa o).imp fun Y H Q f=>by obtain⟨U,O,st,q⟩:=f;exact 
  ⟨U,O,st,g.mn _ _ _ (fun d p i v z r l s t=>⟨p,r,l,h.mn _ _ _ (fun B A j u w x m n y=>j (v::u) w x m (s.trans n) (.cons (DV.mono n.hid t) y)) i⟩) q⟩⟩
def Jq(t:ef):DT:=fun U Q=>t U fun d f=>d.length<=sizeLine/\Q (.tuple d) f
def Jr(t:ef):DT:=fun U Q=>t U fun d f=>d.length<=sizeLine/\Q (.list d) f
theorem Js(h:DA X F es tA):DE X F (.Tuple es l pos) (Jq tA):=
 ⟨fun _ _ _ k q=>h.mn _ _ _ (fun _ _ d=>⟨d.1,k _ _ d.2⟩) q,(xw h.pa).imp fun Y H Q f=>by obtain⟨U,O,st,q⟩:=f;exact 
  ⟨U,O,st,h.mn _ _ _ (fun t o d r s m g n j=>⟨by rw[j.length];exact d.1,fun p i=>d.2 _ _ m (g.grow (ca i)) (n.trans (.same (ca i))) (mQ i (g.nofree p i) j)⟩) q⟩⟩
theorem Jt(h:DA X F es tA):DE X F (.List es pos) (Jr tA):=
 ⟨fun _ _ _ k q=>h.mn _ _ _ (fun _ _ d=>⟨d.1,k _ _ d.2⟩) q,(jY h.pa).imp fun Y H Q f=>by obtain⟨U,O,st,q⟩:=f;exact 
  ⟨U,O,st,h.mn _ _ _ (fun s n d o r l g m j=>⟨by rw[j.length];exact d.1,fun p i=>d.2 _ _ l (g.grow (ca i)) (m.trans (.same (ca i))) (mP i (g.nofree p i) j)⟩) q⟩⟩
def Ju(ta:DT):DT:=fun U Q=>ta U fun d f=>∃i,d=.int i/\Q (.int (-i)) f
theorem Jv(j:DE X F a ta):DE X F (.UnaryOp .USub a pos) (Ju ta):=
 ⟨fun _ _ _ k q=>j.mn _ _ _ (fun _ _ f=>by obtain⟨i,e,q⟩:=f;exact⟨i,e,k _ _ q⟩) q,(GR GZ j.pe).imp fun Y H Q g=>by obtain⟨U,O,st,q⟩:=g;exact 
  ⟨U,O,st,j.mn _ _ _ (fun d s h v m n l o p=>by obtain⟨i,e,r⟩:=h;subst e;exact⟨i,p.int_inv,r _ m n l o (.int _)⟩) q⟩⟩
def Jw(ta:DT):DT:=fun U Q=>ta U fun d f=>∃b,d=.bool b/\Q (.bool (!b)) f
theorem Jx(j:DE X F a ta):DE X F (.UnaryOp .Not a pos) (Jw ta):=
 ⟨fun _ _ _ k q=>j.mn _ _ _ (fun _ _ f=>by obtain⟨i,e,q⟩:=f;exact⟨i,e,k _ _ q⟩) q,(Gc j.pe).imp fun Y H Q g=>by obtain⟨U,O,st,q⟩:=g;exact 
  ⟨U,O,st,j.mn _ _ _ (fun d s h v m n l o p=>by obtain⟨i,e,r⟩:=h;subst e;exact⟨i,p.bl_inv,r _ m n l o (.bl _)⟩) q⟩⟩
def Jy(ta tb:DT):DT:=fun U Q=>ta U fun d f=>∃b,d=.bool b/\if b=true then tb f Q else Q (.bool false) f
def Jz(ta tb:DT):DT:=fun U Q=>ta U fun d f=>∃b,d=.bool b/\if b=true then Q (.bool true) f else tb f Q
theorem JA(h:DE X F a ta):DE X F (.BoolOp op [a] pos) ta:=⟨h.mn,FZ h.pe⟩
theorem JB(l:DE X F a ta)(n:DE X F (.BoolOp .And (b::rest) pos) tb):DE X F (.BoolOp .And (a::b::rest) pos) (Jy ta tb):=
 ⟨fun _ _ _ k q=>l.mn _ _ _ (fun _ _ f=>by obtain⟨i,e,q⟩:=f;exact⟨i,e,by cases i<;>first |exact k _ _ q |exact n.mn _ _ _ k q⟩) q,(Ga l.pe n.pe).imp fun Y H Q g=>by obtain⟨U,O,st,q⟩:=g;exact 
  ⟨U,O,st,l.mn _ _ _ (fun d s h v t o j p u=>by
   obtain⟨i,e,r⟩:=h;subst e;refine⟨i,u.bl_inv,?_⟩;cases i with
   |true=>exact eJ ⟨s,o,j,n.mn _ _ _ (fun d C x w y z m A B=>x w y z m (p.trans A) B) (jx r)⟩
   |false=>exact eI (jy r _ t o j p (.bl _))) q⟩⟩
theorem JC(l:DE X F a ta)(n:DE X F (.BoolOp .Or (b::rest) pos) tb):DE X F (.BoolOp .Or (a::b::rest) pos) (Jz ta tb):=
 ⟨fun _ _ _ k q=>l.mn _ _ _ (fun _ _ f=>by obtain⟨i,e,q⟩:=f;exact⟨i,e,by cases i<;>first |exact k _ _ q |exact n.mn _ _ _ k q⟩) q,(Gb l.pe n.pe).imp fun Y H Q g=>by obtain⟨U,O,st,q⟩:=g;exact 
  ⟨U,O,st,l.mn _ _ _ (fun d s h v t o j p u=>by
   obtain⟨i,e,r⟩:=h;subst e;refine⟨i,u.bl_inv,?_⟩;cases i with
   |false=>exact eI ⟨s,o,j,n.mn _ _ _ (fun d C x w y z m A B=>x w y z m (p.trans A) B) (jy r)⟩
   |true=>exact eJ (jx r _ t o j p (.bl _))) q⟩⟩
def uo(p f:Int->Int->Bool)(ta tb tc:DT):DT:=fun U Q=>ta U fun x g=>tb g fun y d=>∃i j,x=.int i/\y=.int j/\if p i j=true then tc d (fun z h=>∃k,z=.int k/\Q (.bool (f j k)) h) else Q (.bool false) d
theorem JD(ho:cU X (compareOp op) (iI fun i j=>.bl (p i j)))(s:cU X (compareOp f) (iI fun i j=>.bl (M i j)))(t:DE X F a ta)(L:DE X F b tb)(A:DE X F c tc)
  (Z:lastMarks [op,f] [b,c]=false:=by with_unfolding_all rfl):DE X F (.Compare a [op,f] [b,c] pos) (uo p M ta tb tc):=
 ⟨fun _ _ _ k q=>t.mn _ _ _ (fun _ _ B=>L.mn _ _ _ (fun _ _ ⟨i,j,C,D,d⟩=>⟨i,j,C,D,by
   by_cases h:p i j=true
   .rw[if_pos h]at d ⊢;exact A.mn _ _ _ (fun _ _ g=>by obtain⟨l,e,E⟩:=g;exact⟨l,e,k _ _ E⟩) d
   .rw[if_neg h]at d ⊢;exact k _ _ d⟩) B) q,
  (Hd ho s t.pe L.pe A.pe Z).imp fun Y H Q m=>by obtain⟨U,O,st,q⟩:=m;exact 
  ⟨U,O,st,t.mn _ _ _ (fun x U1 B v H1 O1 G N d1=>⟨U1,O1,G,L.mn _ _ _ (fun y U2 n w H2 R o I S=>by
   obtain⟨i,j,C,D,d⟩:=n;subst C D;refine⟨i,j,(DV.mono I.hid d1).int_inv,S.int_inv,p i j,rfl,?_⟩
   by_cases h:p i j=true
   .rw[if_pos h]at d ⊢;exact⟨U2,R,o,A.mn _ _ _ (fun z U3 r u H3 O3 J T d3=>by obtain⟨l,e,E⟩:=r;subst e;exact⟨j,l,(DV.mono T.hid S).int_inv,d3.int_inv,E _ H3 O3 J (N.trans (I.trans T)) (.bl _)⟩) d⟩
   .rw[if_neg h]at d ⊢;exact d _ H2 R o (N.trans I) (.bl _)) B⟩) q⟩⟩
abbrev cN:=ag->(Bool->ag->Prop)->Prop
def iN(t:cN):Prop:=∀U Q a,(∀d b,Q d b->a d b)->t U Q->t U a
def jz(K:Frag)(F:Fx)(t:cN):TT:=fun Y H Q=>∃U O,ay K F H Y U O/\t U fun b d=>∀a c,ay K F a Y d c->aH O H c a->Q b a
structure DB (X:Cx) (F:Fx) (e:Expr) (t:cN):Prop where
 mn:iN t
 pt:PT X e (jz X.K F t)
def gd(ta:DT):cN:=fun U Q=>ta U fun d f=>∃b,d=.bool b/\Q b f
theorem yo(h:Mn ta):iN (gd ta):=fun _ _ _ k q=>h _ _ _ (fun _ _ ⟨b,e,d⟩=>⟨b,e,k _ _ d⟩) q
theorem yp{K}(h:Mn ta):∀Y H Q,jz K F (gd ta) Y H Q->gb K F ta Y H fun x j=>∃k,x=.bl k/\Q k j:=fun Y H Q f=>by obtain⟨U,O,st,q⟩:=f;exact 
 ⟨U,O,st,h _ _ _ (fun d r g v l m i n o=>by obtain⟨b,e,p⟩:=g;subst e;exact⟨b,o.bl_inv,p l m i n⟩) q⟩
theorem dO(h:DE X F e ta)(d:autoParam (∀whole,isTrue e X.env whole=(do let v <-whole;standAt e.pos;holding [v] (truthy v))) Zs._auto_1):DB X F e (gd ta):=⟨yo h.mn,(FF h.pe d).imp (yp h.mn)⟩
theorem lG(i:cU X (compareOp op) r)(o:fk r f)(d:DE X F a ta)(g:DE X F b tb)(h:behindInMarks op b=false):DB X F (.Compare a [op] [b] pos) (gd (da f ta tb)):=
 ⟨yo (oA o d.mn g.mn),(xm i d.pe g.pe h).imp fun Y H Q q=>qJ o d.mn g.mn Y H _ (yp (oA o d.mn g.mn) Y H Q q)⟩
def JE(t:cN):cN:=fun U Q=>t U fun b d=>Q (!b) d
theorem JF(h:DB X F a tA):DB X F (.UnaryOp .Not a pos) (JE tA):=⟨fun _ _ _ k q=>h.mn _ _ _ (fun _ _ q=>k _ _ q) q,(FT h.pt).imp fun Y H Q d=>by obtain⟨U,O,st,q⟩:=d;exact⟨U,O,st,h.mn _ _ _ (fun b m g i j f l=>g i j f l) q⟩⟩
structure DW (X:Cx) (F:Fx) (e:Expr) (t:cN):Prop where
 mn:iN t
 pw:PW X e (jz X.K F t)
theorem _root_.L2.PW.imp(h:PW X e t)(k:∀Y H Q,t' Y H Q->t Y H Q):PW X e t':=fun f d s Y H Q I q=>h f d s Y H Q I (k Y H Q q)
theorem DW.db(h:DW X F e t):DB X F e t:=⟨h.mn,h.pw.pt⟩
def JG(t u:cN):cN:=fun U Q=>t U fun b d=>if b=true then u d Q else Q false d
def JH(t u:cN):cN:=fun U Q=>t U fun b d=>if b=true then Q true d else u d Q
theorem JI(h:DB X F a tA):DW X F (.BoolOp .And [a] pos) tA:=⟨h.mn,FL h.pt⟩
theorem JK(h:DB X F a tA):DW X F (.BoolOp .Or [a] pos) tA:=⟨h.mn,FP h.pt⟩
theorem JL{tB:cN}(g:DB X F a tA)(i:DW X F (.BoolOp .And (b::rest) pos) tB):DW X F (.BoolOp .And (a::b::rest) pos) (JG tA tB):=
 ⟨fun _ _ _ k q=>g.mn _ _ _ (fun b _ q=>by cases b<;>first |exact k _ _ q |exact i.mn _ _ _ k q) q,(FQ g.pt i.pw).imp fun Y H Q d=>by obtain⟨U,O,st,q⟩:=d;exact 
  ⟨U,O,st,g.mn _ _ _ (fun b n j o l f m=>by
   cases b with
   |true=>exact eJ ⟨n,l,f,i.mn _ _ _ (fun b u p r s h t=>p r s h (m.trans t)) (jx j)⟩
   |false=>exact eI (jy j o l f m)) q⟩⟩
theorem JM{tB:cN}(g:DB X F a tA)(i:DW X F (.BoolOp .Or (b::rest) pos) tB):DW X F (.BoolOp .Or (a::b::rest) pos) (JH tA tB):=
 ⟨fun _ _ _ k q=>g.mn _ _ _ (fun b _ q=>by cases b<;>first |exact k _ _ q |exact i.mn _ _ _ k q) q,(FR g.pt i.pw).imp fun Y H Q d=>by obtain⟨U,O,st,q⟩:=d;exact 
  ⟨U,O,st,g.mn _ _ _ (fun b n j o l f m=>by
   cases b with
   |false=>exact eI ⟨n,l,f,i.mn _ _ _ (fun b u p r s h t=>p r s h (m.trans t)) (jy j)⟩
   |true=>exact eJ (jx j o l f m)) q⟩⟩
def JN(t:cN)(ta tb:DT):DT:=fun U Q=>t U fun b d=>if b=true then ta d Q else tb d Q
theorem JO(i:DB X F c tA)(j:DE X F a ta)(r:DE X F b tb):DE X F (.IfExp c a b pos) (JN tA ta tb):=
 ⟨fun _ _ _ k q=>i.mn _ _ _ (fun b _ q=>by cases b<;>first |exact j.mn _ _ _ k q |exact r.mn _ _ _ k q) q,(Ge i.pt j.pe r.pe).imp fun Y H Q g=>by obtain⟨U,O,st,q⟩:=g;exact 
  ⟨U,O,st,i.mn _ _ _ (fun b s t y u h w=>by
   cases b with
   |true=>exact eJ ⟨s,u,h,j.mn _ _ _ (fun d x l v m n f o p=>l v m n f (w.trans o) p) (jx t)⟩
   |false=>exact eI ⟨s,u,h,r.mn _ _ _ (fun d x l v m n f o p=>l v m n f (w.trans o) p) (jy t)⟩) q⟩⟩
abbrev DN:=List PyData->(PyData->Prop)->Prop
structure jA (r:List V->Hp->VK->Prop) (f:DN):Prop where
 mn:∀xs Q Q',(∀d,Q d->Q' d)->f xs Q->f xs Q'
 ok:∀(O:List Addr) (H:Hp) (vs:List V) (xs:List PyData) (Q:VK),(∀p,H p=none->p∉O)->aC (ao O H) vs xs->f xs (fun d=>∀w H',bQ H H'->DV (ao O H') w d->Q w H')->r vs H Q
def oC(f:DN)(t:ef):DT:=fun U Q=>t U fun b a=>f b fun d=>Q d a
theorem yq{K}(o:jA r f)(h:qL tA):∀Y H Q,gb K F (oC f tA) Y H Q->tN r (yn K F tA) Y H Q:=fun Y H Q a=>by obtain⟨U,O,st,q⟩:=a;exact 
 ⟨U,O,st,h _ _ _ (fun u v i j k c b l m=>o.ok c k j u Q b.nofree m (o.mn _ _ _ (fun d n w s g t=>n w s c (b.grow g) (l.trans (.same g)) t) i)) q⟩
theorem yr(o:jA r f)(h:qL tA):Mn (oC f tA):=fun _ _ _ k q=>h _ _ _ (fun _ _ a=>o.mn _ _ _ (fun _ b=>k _ _ b) a) q
theorem iO{pos:Pos}{p:Pos}{id:String}(d:gZ X (.builtin id) r)(o:jA r f)(g:Gl X x)(h:X.mg x=none)(i:bootBuiltins x=some (.builtin id))(a:DA X F (e::es) tA)(j:autoParam (x≠"__name__") Zr._auto_1)(b:autoParam ((x==("__debug__":Str))=false) Zr._auto_1)
  (k:autoParam (starEach (e::es) X.env=(false,eval e X.env)::starEach es X.env) Zq._auto_1) (c:autoParam ((backTo pos (starEach es X.env)).any (·.1)=false) Zq._auto_1):DE X F (.Call (.Name x p) (e::es) [] pos) (oC f tA):=
 ⟨yr o a.mn,(mG d g h i a.pa j b k c).imp (yq o a.mn)⟩
theorem yt{pos:Pos}{p:Pos}(d:gZ X (.type T) r)(o:jA r f)(g:Gl X x)(h:X.mg x=none)(i:bootBuiltins x=some (.type T))(a:DA X F (e::es) tA)(j:autoParam (x≠"__name__") Zr._auto_1)(b:autoParam ((x==("__debug__":Str))=false) Zr._auto_1)
  (k:autoParam (starEach (e::es) X.env=(false,eval e X.env)::starEach es X.env) Zq._auto_1) (c:autoParam ((backTo pos (starEach es X.env)).any (·.1)=false) Zq._auto_1):DE X F (.Call (.Name x p) (e::es) [] pos) (oC f tA):=
 ⟨yr o a.mn,(tO d g h i a.pa j b k c).imp (yq o a.mn)⟩
def yu(n:String)(a:DT):DT:=fun U Q=>a U fun d c=>∃b,(∀K:Frag,kitOne K (.type (uf d)) (.type n)=some b)/\Q (.bool b) c
theorem kc{pos:Pos}{p:Pos}(m:Gl X "isinstance")(n:X.mg "isinstance" = none)(h:DE X F e ta)(o:PE X (.Name x p2) (tC (.ty T)))
  (l:autoParam (starEach [e,.Name x p2] X.env=(false,eval e X.env)::starEach [.Name x p2] X.env) Zq._auto_1) (g:autoParam (starEach [.Name x p2] X.env=(false,eval (.Name x p2) X.env)::starEach [] X.env) Zq._auto_1) (i:autoParam ((backTo pos (starEach [.Name x p2] X.env)).any (·.1)=false) Zq._auto_1) :
  DE X F (.Call (.Name "isinstance" p) [e,.Name x p2] [] pos) (yu T ta):=
 ⟨fun _ _ _ k q=>h.mn _ _ _ (fun _ _ a=>by obtain⟨b,e,q⟩:=a;exact⟨b,e,k _ _ q⟩) q,
  (mG Jc m n (show bootBuiltins "isinstance" = some (.builtin "isinstance") by decide +kernel) (cJ h.pe (cJ o dj g) l) (by decide) (by decide) l i).imp fun Y H Q c=>by obtain⟨U,O,st,q⟩:=c;exact 
  ⟨U,O,st,h.mn _ _ _ (fun d y f v r s j t u=>by obtain⟨b,e,w⟩:=f;exact⟨v,d,T,b,rfl,DV.mono qG u,e,w _ r s j t (.bl b)⟩) q⟩⟩
structure eW (g:Heap) (H:Hp) (h:Heap) (a:Addr) (C:Value) (fl:Option Value):Prop where
 gh:∀b o,g.get? b=some o->∃o',h.get? b=some o'
 lo:g.get? a=none
 un:H a=none
 ob:∃oe vs a0,h.get? a=some oe/\oe.cls=C/\oe.data=.fields vs/\vs[0]? = some a0/\
  ((fl=none/\vs[1]? = some .none)\/∃T oT ts f,fl=some f/\vs[1]? = some (.ref T)/\g.get? T=none/\H T=none/\T≠a/\h.get? T=some oT/\oT.data=.fields ts/\ts[3]? = some f)
structure Ch (g:Heap) (H:Hp) (fs:List Addr) (h h':Heap):Prop where
 keep:∀b o,h.get? b=some o->((∃o',g.get? b=some o')\/H b≠none)->b∉fs->h'.get? b=some o
 slot:∀b o,b∈fs->h.get? b=some o->∃sl,h'.get? b=some { o with slots:=sl }
 there:∀b o,h.get? b=some o->∃o',h'.get? b=some o'
theorem Ch.refl:Ch g H fs h h:=⟨fun _ _ e _ _=>e,fun b o _ e=>⟨o.slots,e⟩,fun b o e=>⟨o,e⟩⟩
theorem Ch.trans(x:Ch g H fs h h1)(y:Ch g H fs h1 h2):Ch g H fs h h2 where
 keep:=fun b o e q n=>y.keep b o (x.keep b o e q n) q n
 slot:=fun b o m e=>let⟨_,e1⟩:=x.slot b o m e;let⟨sl,e2⟩:=y.slot b _ m e1;⟨sl,e2⟩
 there:=fun b o e=>let⟨o1,e1⟩:=x.there b o e;y.there b o1 e1
theorem bH.some_of(k:bH P w H h)(e:h.get? b=none):H b=none:=by
 cases q:H b with
 |none=>rfl
 |some u=>
  exfalso;have x:=k b u q;have:∀(u:HO),cI P w H h b u->∃o,h.get? b=some o:=by
   intro u
   induction u with
   |lst z=>exact fun d=>by obtain⟨_,_,_,_,e⟩:=d;exact⟨_,e⟩
   |tup z=>exact fun g=>by obtain⟨_,_,_,o,e,_⟩:=g;exact⟨_,e⟩
   |dK t=>exact fun i=>by obtain⟨_,_,_,_,o,_,_,e,_⟩:=i;exact⟨_,e⟩
   |dT t=>exact fun j=>by obtain⟨_,_,_,_,o,_,_,e,_⟩:=j;exact⟨_,e⟩
   |set S n=>exact fun l=>by obtain⟨o,_,_,_,e,_⟩:=l;exact⟨_,e⟩
   |ins C A fs=>exact fun m=>by obtain⟨_,_,_,e,_⟩:=m;exact⟨_,e⟩
   |own y=>exact fun p=>by obtain⟨_,e⟩:=p;exact⟨_,e⟩
   |xd fs=>exact fun r=>by obtain⟨_,⟨_,_,_,e,_⟩,_⟩:=r;exact⟨_,e⟩
   |rng lo B=>exact fun s=>by obtain⟨_,_,_,e⟩:=s;exact⟨_,e⟩
   |frz ob u _=>exact fun a=>by obtain⟨e,_⟩:=a;exact⟨_,e⟩
   |tbl D=>exact fun e=>⟨_,e⟩
   |met f y=>exact fun e=>⟨_,e⟩
   |ext φ=>exact fun c=>by obtain⟨_,⟨_,e⟩,_⟩:=c;exact⟨_,e⟩
  obtain⟨o,v⟩:=this u x;rw[e]at v;cases v
theorem yv{h :Heap}:∀{l},(∀b∈bN l,a.get? b=none)->h.FunFrames base l->h.FunFrames a l
 |[],_,_=>trivial
 |c::r,hb,⟨f,⟨L,o,d,_,ho,hd⟩,g⟩=>by
  have e:bN (c::r)=L::bN r:=by unfold bN;rw[List.filterMap_cons,d]
  exact⟨f,⟨L,o,d,hb L (by rw[e];exact List.mem_cons_self),ho,hd⟩,yv (fun b h=>hb b (by rw[e];exact bC _ h)) g⟩
theorem yw{L:Addr}(y:A.frames=some (env::outer))(B:s.heap.FunFrames base (env::outer))(hf:env.frame=some L)(hk:∀b,s.heap.get? b=none->H b=none)
  (gh:∀b o,g.get? b=some o->∃i,s.heap.get? b=some i) (lo:g.get? a=none) (un:H a=none) (he:s.heap.get? a=some u) (hc:u.cls=C) (hd:u.data=.fields v) (D:1<v.size) (h0:v[0]? = some R)
  (h:∀f,Ch g H (bN (env::outer)) s.heap f->eW g H f a C (some (rawInt L))->Q () { s with heap:=f }) :
  wpAny M A (do let x <-frameOf env;let pl <-entryPlaceOf L d;let b <-EntryCells.newEntry head x .none (rawInt L) .none pl;setField (.ref a) 1 b) Q E s:=by
 refine wpAny_entryW (base:=PySem.W.hideAll s.heap (a::bN (env::outer))) y (yv (fun b m=>PySem.W.hideAll_none _ (bC _ m)) B) hf he (fun b o e=>PySem.W.of_hideAll _ e) (PySem.W.hideAll_none _ List.mem_cons_self) hd D h0 fun f k=>?_;obtain⟨k1,k2,k3,k4⟩:=k;obtain⟨G,I,T,oT,S,U,⟨e2,J⟩,e3,e4,X,Y,Z,e8,e9⟩:=k3;have p:∀b o,b∈bN (env::outer)->s.heap.get? b=some o->∃p,f.get? b=some { o with slots:=p }:=fun b o m e=>by obtain⟨_,i,c,N⟩:=B.mem m;rw[e]at c;cases c;exact k4 b o e N
 have kp:∀b o,s.heap.get? b=some o->b≠a->b∉bN (env::outer)->f.get? b=some o:=fun b o e r t=>k1 b o (PySem.W.hideAll_get _ e fun z=>(List.mem_cons.mp z).elim r t);have hT:g.get? T=none/\H T=none:=by
  cases q:s.heap.get? T with
  |some o=>
   exfalso
   by_cases j:T∈bN (env::outer)
   .obtain⟨_,i,c,N⟩:=B.mem j;rw[q]at c;cases c;obtain⟨O,l⟩:=p T o j q;rw[Z]at l;cases l;exact N S e8
   .rw[PySem.W.hideAll_get _ q (fun z=>(List.mem_cons.mp z).elim Y j)]at X;cases X
  |none=>
   refine⟨?_,hk T q⟩;cases q2:g.get? T with
   |none=>rfl
   |some o=>obtain⟨i,c⟩:=gh T o q2;rw[q]at c;cases c
 have ch:Ch g H (bN (env::outer)) s.heap f:=⟨fun b o e q n=>kp b o e (fun z=>?_) n,fun b o m e=>p b o m e,fun b o e=>?_⟩
 .refine h f ch ⟨fun b o e=>?_,lo,un,G,I,R,U,e2.trans hc,e3,J,.inr ⟨T,oT,S,_,rfl,e4,hT.1,hT.2,Y,Z,e8,e9⟩⟩;obtain⟨i,c⟩:=gh b o e;exact ch.there b i c
 .subst z;rcases q with⟨i,q⟩ |q
  .rw[lo]at q;cases q
  .exact q un
 .by_cases t:b∈bN (env::outer)
  .obtain⟨O,c⟩:=p b o t e;exact⟨_,c⟩
  .by_cases r:b=a
   .subst r;exact⟨_,U⟩
   .exact⟨o,kp b o e r t⟩
theorem JP{h:Heap}(i:h.FunFrames base l)(j:h.get? T=some d)(hd:d.data=.fields e):(h.update T f).FunFrames base l:=
 i.of_keeps fun b o c k=>⟨o,by rw[Heap.get?_update_other _ _ (fun z=>k e (by subst z;rw[j]at c;cases c;exact hd))];exact c,rfl⟩
theorem yx(j:h.get? T=some c)(hd:c.data=.fields i)(k:g.get? T=none)(l:H T=none)(d:T∉fs):Ch g H fs h (h.update T (Obj.mapFields f)):=by
 have self:(h.update T (Obj.mapFields f)).get? T=some (c.mapFields f):=Heap.get?_update_self _ j (Obj.isFreed_of_fields (Obj.data_mapFields hd f));refine⟨fun b o e q n=>?_,fun b o m e=>⟨o.slots,?_⟩,fun b o e=>?_⟩
 .rw[Heap.get?_update_other _ _ (fun z=>?_)]
  .exact e
  .subst z;rcases q with⟨p,q⟩ |q
   .rw[k]at q;cases q
   .exact q l
 .rw[Heap.get?_update_other _ _ (fun z=>d (by rw[z];exact m))];exact e
 .by_cases z:b=T
  .subst z;exact⟨_,self⟩
  .exact⟨o,by rw[Heap.get?_update_other _ _ (Ne.symm z)];exact e⟩
theorem yy{L:Addr}(k:A.frames=some (env::outer))(t:s.heap.FunFrames base (env::outer))(u:env.frame=some L)(J:∀b,s.heap.get? b=none->H b=none)(x:eW g H s.heap a C fl)
  (h:∀l,Ch g H (bN (env::outer)) s.heap l->eW g H l a C (some (rawInt L))->Q () { s with heap:=l }):wpAny M A (noteFrame (.ref a) env) Q E s:=by
 obtain⟨I,lo,un,N,R,S,m,v,hd,y,U⟩:=x;unfold noteFrame;simp only[u];rcases U with⟨_,h1⟩ |⟨T,X,O,f,_,h1,n,p,r,j,c,h3⟩
 .refine aj (wpAny_field m hd h1 ?_);rw[if_neg (by decide)];exact yw k t u J I lo un m v hd (Array.getElem?_eq_some_iff.mp h1).1 y h
 .refine aj (wpAny_field m hd h1 ?_);rw[if_pos (show(Value.ref T != Value.none)=true from by simp)];refine aj (wpAny_field j c h3 ?_)
  by_cases d:(f==rawInt L)=true
  .rw[if_pos d];have e:f=rawInt L:=by simpa using d
   subst e;exact bd (h s.heap .refl ⟨I,lo,un,N,R,S,m,v,hd,y,.inr ⟨T,X,O,_,rfl,h1,n,p,r,j,c,h3⟩⟩)
  .rw[if_neg d];refine aj (wpAny_setField j c (Array.getElem?_eq_some_iff.mp h3).1 ?_);have B:T∉bN (env::outer):=fun z=>by obtain⟨_,D,i,Y⟩:=t.mem z;rw[j]at i;cases i;exact Y O c
   have G:=yx (g:=g) (H:=H) (f:=(·.setIfInBounds 3 Value.none)) j c n p B;refine yw (s:={ s with heap:=s.heap.update T (Obj.mapFields (·.setIfInBounds 3 Value.none)) }) k (JP t j c) u (fun b e=>?_) (fun b o e=>?_) lo un ?_ v hd (Array.getElem?_eq_some_iff.mp h1).1 y fun l ch Z=>h l (G.trans ch) Z
   .refine J b ?_;cases q:s.heap.get? b with
    |none=>rfl
    |some o=>obtain⟨D,i⟩:=G.there b o q;rw[show({ s with heap:=s.heap.update T (Obj.mapFields (·.setIfInBounds 3 Value.none)) }:Shared).heap=s.heap.update T (Obj.mapFields (·.setIfInBounds 3 Value.none)) from rfl]at e;rw[e]at i;cases i
   .obtain⟨D,i⟩:=I b o e;exact G.there b D i
   .show(s.heap.update T _).get? a=some N;rw[Heap.get?_update_other _ _ r];exact m
theorem uq(m)(n:∀b∈fs,∃o,s.heap.get? b=some o/\∀p,o.data≠.fields p)(x:eW g H s.heap a C (some fv))
  (h:∀q,Ch g H fs s.heap q->eW g H q a C (some (m.elim Value.none fun f=>rawInt f))->Q () { s with heap:=q }):wpAny M A (setFlight (.ref a) m) Q E s:=by
 obtain⟨S,lo,un,y,p,B,t,D,hd,G,I⟩:=x;rcases I with⟨z,_⟩ |⟨T,U,J,f,_,h1,d,i,j,l,c,h3⟩
 .cases z
 .unfold setFlight;refine aj (wpAny_field t hd h1 ?_);rw[if_pos (show(Value.ref T != Value.none)=true from by simp)];have r:T∉fs:=fun z=>by obtain⟨o,u,N⟩:=n T z;rw[l]at u;cases u;exact N J c
  have k:=(Array.getElem?_eq_some_iff.mp h3).1;have v:=yx (g:=g) (H:=H) (f:=(·.setIfInBounds 3 (m.elim Value.none fun f=>rawInt f))) l c d i r;refine wpAny_setField l c k (h _ v ⟨fun b o e=>?_,lo,un,y,p,B,?_,D,hd,G,.inr ⟨T,_,_,_,rfl,h1,d,i,j,Heap.get?_update_self _ l (Obj.isFreed_of_fields (Obj.data_mapFields c _)),Obj.data_mapFields c _,?_⟩⟩)
  .obtain⟨O,R⟩:=S b o e;exact v.there b O R
  .rw[Heap.get?_update_other _ _ j];exact t
  .simp[k]
theorem ur{h:Heap}(c:h.FunFrames base l):∀b∈bN l,∃o,h.get? b=some o/\∀d,o.data≠.fields d:=fun b f=>let⟨_,o,e,n⟩:=c.mem f;⟨o,e,n⟩
theorem Ch.frames(c:Ch g H fs h d)(f:∀b∈bN l,b∈fs)(j:h.FunFrames base l):d.FunFrames base l:=by
 induction l with
 |nil=>trivial
 |cons env r k=>
  obtain⟨m,⟨L,o,i,n,ho,hd⟩,p⟩:=j;have e:bN (env::r)=L::bN r:=by unfold bN;rw[List.filterMap_cons,i]
  obtain⟨u,q⟩:=c.slot L o (f L (by rw[e];exact List.mem_cons_self)) ho;exact⟨m,⟨L,_,i,n,q,hd⟩,k (fun b t=>f b (by rw[e];exact bC _ t)) p⟩
theorem yz(c:A.frames=some (env::outer))(e:s.heap.FunFrames base (env::outer))(i:env.frame=some L)(j:∀b,s.heap.get? b=none->H b=none)(x:eW g H s.heap a C fl)
  (h:∀d,Ch g H (bN (env::outer)) s.heap d->eW g H d a C (some .none)->Q () { s with heap:=d }):wpAny M A (leaving env (.ref a)) Q E s:=by
 unfold leaving;refine aj (yy c e i j x fun n f k=>?_);refine uq (s:={ s with heap:=n }) (fs:=bN (env::outer)) none (ur (f.frames (fun _ h=>h) e)) k fun o l m=>h o (f.trans l) m
structure kd (X:Cx) (pins:List (Addr×Obj)) (g:Heap):Prop where
 s0:∀b o,X.s₀.heap.get? b=some o->b∉X.ex->∃o',g.get? b=some o'
 loc:∃o,g.get? X.env.locals=some o
 cell:∀x c,X.env.cells.lookup x=some c->∃o,g.get? c=some o
 pin:∀p∈X.pn++pins,∃o,g.get? p.1=some o
theorem _root_.L2.Inv.cov{Y:St}(I:Inv X pins Y H s):kd X pins s.heap:=by
 refine⟨fun b o e n=>I.base.there b o e n,?_,fun x c e=>?_,fun p a=>⟨_,(I.pin p a).1⟩⟩
 .obtain⟨m,⟨o,d,f,ho,_⟩,_⟩:=I.loc;exact⟨o,ho⟩
 .obtain⟨v,o,ho,_⟩:=I.cell x c e;exact⟨o,ho⟩
theorem _root_.L2.Inv.stkIn{Y:St}(I:Inv X pins Y H s)(h:b∉bN X.stack):b∉X.fs:=by
 rcases I.ok.stk with e |⟨e,a⟩
 .rw[e]at h;exact h
 .rw[e]at h;unfold bN at h;rw[List.filterMap_cons,a]at h;exact fun z=>h (bC _ z)
theorem _root_.L2.Inv.stkOut{Y:St}(I:Inv X pins Y H s)(h:b∉X.fs)(a:b≠X.env.locals):b∉bN X.stack:=fun z=>(List.mem_cons.mp (I.stkSub b z)).elim a h
theorem JQ{h h':Heap}(k:∀o,h.get? a=some o->∃b,h'.get? a=some { o with slots:=b })(c:h.Ns a m):h'.Ns a m:=by obtain⟨o,d,e,ho,hd,r⟩:=c;obtain⟨b,f⟩:=k o ho;exact⟨_,d,e,f,hd,r⟩
theorem _root_.L2.Inv.ch{Y:St}(I:Inv X pins Y H s)(C:kd X pins g)(c:Ch g H (bN X.stack) s.heap h'):Inv X pins Y H { s with heap:=h' }:=by
 have M:∀b o,s.heap.get? b=some o->H b≠none->h'.get? b=some o:=fun b o e n=>c.keep b o e (.inr n) fun z=>n (I.stkFree b z);have G:∀x a,X.env.cells.lookup x=some a->∀o,s.heap.get? a=some o->∃A,h'.get? a=some A/\A.data=o.data:=fun x a e o h=>by
  by_cases t:a∈bN X.stack
  .obtain⟨T,y⟩:=c.slot a o t h;exact⟨_,y,rfl⟩
  .exact⟨o,c.keep a o h (.inl (C.cell x a e)) t,rfl⟩
 refine⟨I.ok,I.os,I.bare,⟨fun b o e n B w=>?_,fun b o e n B w=>?_,fun b o e n w=>I.base.free b o e n w,fun b o e w=>?_,I.base.tups,I.base.frzs,I.base.tbls⟩,?_,fun x a e=>?_,I.free,I.freeC,fun p J=>?_,fun b u e=>?_,I.len⟩
 .have y:=I.base.keep b o e n B w;refine c.keep b o y (.inl (C.s0 b o e w)) (I.stkOut B fun z=>?_);have j:=I.ok.above;have f:b<X.s₀.heap.objs.size:=bv e;rw[z]at f;exact Nat.lt_irrefl _ (Nat.lt_of_lt_of_le f j)
 .obtain⟨T,y⟩:=I.base.slot b o e n B w
  by_cases t:b∈bN X.stack
  .obtain⟨E,N⟩:=c.slot b _ t y;exact⟨E,N⟩
  .exact absurd B (I.stkIn t)
 .obtain⟨O,y⟩:=I.base.there b o e w;exact c.there b O y
 .obtain⟨m,Q,R⟩:=I.loc;refine⟨m,JQ (fun o h=>?_) Q,fun i x v j f D=>?_⟩
  .by_cases t:X.env.locals∈bN X.stack
   .exact c.slot _ o t h
   .exact⟨o.slots,c.keep _ o h (.inl C.loc) t⟩
  .obtain⟨u,r,l⟩:=R i x v j f D;refine⟨u,r,?_⟩;rcases l with l |⟨k,a,e,o,h,hd⟩
   .exact .inl l
   .obtain⟨A,j,f⟩:=G x a e o h;exact .inr ⟨k,a,e,A,j,f.trans hd⟩
 .obtain⟨v,o,h,hd⟩:=I.cell x a e;obtain⟨A,j,f⟩:=G x a e o h;exact⟨v,A,j,f.trans hd⟩
 .obtain⟨j,f,D,L,S⟩:=I.pin p J;exact⟨c.keep _ _ j (.inl (C.pin p J)) (I.stkOut L D),f,D,L,S⟩
 .refine(I.hok b u e).stay (fun d v hd q=>M d v q ?_) (fun _ q=>q) fun _ _ q=>q;rcases hd with rfl |hd
  .rw[e];exact fun z=>by cases z
  .rw[hd];exact fun z=>by cases z
def cx(P:Program)(w:World):fL:=fun b H s E e c=>∃a C d,e=.ref a/\c.os=s.os/\AllBare c.gens/\Un (bN b) [] H d s.heap c.heap/\bH P w d c.heap/\eW s.heap d c.heap a C (some .none)/\E C none d
structure JR (X:Cx) (pins:List (Addr×Obj)) (Y:St) (H:Hp) (s:Shared) (e:Value) (c:Str):Prop where
 inv:Inv X pins Y H s
 ex:∃a C g fl,e=.ref a/\kd X pins g/\eW g H s.heap a C fl/\X.mg c=some C
noncomputable def glob(x:Str):Option PyData:=if x="ANY_ZONE" then some (.tuple [.int 0,.tuple []]) else if x="NO_DEEDS" then some (.tuple []) else none
noncomputable def gf:HO->Bool
 |.tup _=>true
 |.frz _ (.tup _)=>true
 |_=>false
theorem JS(h:gf u=true):¬ Mv u:=fun m=>by
 cases u with
 |tup _=>exact m
 |frz _ _=>exact m
 |_=>cases h
def oD(H:Hp):Hp:=fun b=>match H b with
 |some u=>if gf u=true then some u else none
 |none=>none
theorem JT(h:oD H b=some o):gf o=true/\H b=some o:=by
 unfold oD at h;split at h
 .rename_i u e;split at h
  .rename_i t;cases h;exact⟨t,e⟩
  .cases h
 .cases h
theorem JU(t:gf u=true)(h:H b=some u):oD H b=some u:=by unfold oD;rw[h];exact if_pos t
def GH(a:Str->Option Value)(H:Hp):Prop:=∀x d u,glob x=some d->a x=some u->∃v,bq v u/\DV (oD H) v d
def GF(a:Str->Option Value)(F:Fx):Prop:=GH a fun b=>if b∈F.A₀ then none else F.H₀ b
theorem GH.mono(g:GH c H)(k:∀b u,gf u=true->H b=some u->a b=some u):GH c a:=fun x d u i j=>by obtain⟨v,r,f⟩:=g x d u i j;exact⟨v,r,DV.mono (fun b o e=>by obtain⟨t,h⟩:=JT e;exact JU t (k b o t h)) f⟩
theorem GF.at{K}(g:GF a F)(st:ay K F H Y U O):GH a H:=GH.mono g fun b d t e=>by
 obtain⟨W,st,rfl⟩:=st;split at e
 .cases e
 .rename_i c;exact st.kept b _ c e
theorem GH.frame(g:GH d H)(h:∀a∈A,∃o,H a=some o/\Mv o):GF d ⟨H,A,O,io⟩:=GH.mono g fun b f t e=>by show(if b∈A then none else H b)=_;rw[if_neg,e];intro z;obtain⟨o,c,m⟩:=h b z;rw[e]at c;cases c;exact JS t m
theorem GF.into{K}(g:GF b F)(st:ay K F H Y U O):GF b ⟨H,[],c,io⟩:=(g.at st).frame fun a h=>by cases h
def dc(X:Cx)(F:Fx)(E:Str->ag->Prop):Prop:=GF X.mg F/\∀(pins:List (Addr×Obj)) (Y:St) (H:Hp) (s:Shared) (e:Value) (c:Str) (U:ag) (O:List Addr),JR X pins Y H s e c->ay X.K F H Y U O->E c U->X.xe e s
theorem eW.weak(x:eW g H h a C j)(k:∀b o,c.get? b=some o->∃d,g.get? b=some d):eW c H h a C j:=by
 have l:∀b,g.get? b=none->c.get? b=none:=fun b e=>by
  cases q:c.get? b with
  |none=>rfl
  |some o=>obtain⟨d,i⟩:=k b o q;rw[e]at i;cases i
 obtain⟨A,lo,un,m,n,p,r,t,hd,u,v⟩:=x;refine⟨fun b o e=>let⟨d,i⟩:=k b o e;A b d i,l a lo,un,m,n,p,r,t,hd,u,v.imp id ?_⟩;rintro⟨T,w,y,f,h1,h2,h3,z⟩;exact⟨T,w,y,f,h1,h2,l T h3,z⟩
theorem _root_.L2.Inv.flies{Y:St}(I:Inv X pins Y H s)(h:cx X.prog X.w X.stack H s E e f):∃a C c,e=.ref a/\Inv X pins Y c f/\kd X pins s.heap/\eW s.heap c f.heap a C (some .none)/\E C none c:=by obtain⟨a,C,c,j,os,bare,un,hok,ex,q⟩:=h;obtain⟨k,g,d,t,i⟩:=f;obtain rfl:i = s.os:=os;exact⟨a,C,c,j,I.call (h':=k) (g':=g) (d':=d) (t':=t) (ch:=[]) un hok bare (fun b z=>absurd z (by simp)),I.cov,ex,q⟩
theorem JV{K}
  (v:GF l F) (x:∀c C p y r B,l c=some C->ay K F r y p B->n c p->E C none r):dc (gB (cx P w) P w K l base N i d f j A h s H E) F n:=by
 refine⟨v,?_⟩;intro t Y k D e c U O ⟨I,a,C,g,R,G,u,ex,L⟩ st q;subst G;have M:(A.deeper (envOfC i d s.heap.objs.size f j)).frames=some (envOfC i d s.heap.objs.size f j::h):=I.ok.frames;have hb:∀b,D.heap.get? b=none->k b=none:=fun b z=>bH.some_of I.hok z;have stk:bN (envOfC i d s.heap.objs.size f j::h)=s.heap.objs.size::bN h:=rfl;refine yz (base:=base) M I.stack rfl hb ex fun S ch m=>?_;have J:=I.ch u ch;refine⟨a,C,k,rfl,J.os,J.bare,J.base,J.hok,m.weak fun b o Q=>u.s0 b o Q (by intro z;cases z),x c C U Y k O L st q⟩
noncomputable def Fx.plus(F:Fx)(a:List Addr):Fx:={ F with O₀:=a++F.O₀ }
theorem Fx.plus_plus{F:Fx}:(F.plus l).plus m=F.plus (m++l):=by unfold Fx.plus;simp
structure gi (K:Frag) (F:Fx) (H:Hp) (Y:St) (U:ag) (O:List Addr) (v:V) (c:ae) (fp:List Addr):Prop where
 st:ay K (F.plus fp) H Y U O
 at_:dm K H O v c fp
 new:∀a∈fp,a∈F.A₀\/F.H₀ a=none
theorem eX(h:∀a∈O',a∈O):aH O H O' H:=⟨fun _ _ _ e=>e,fun a z=>.inl (h a z)⟩
theorem bV.less{K:Frag}(st:bV K F H Y U W)(d:b.H₀=F.H₀)(f:b.A₀=F.A₀)(g:b.I₀=F.I₀)(m:b.O₀.Sublist F.O₀):bV K b H Y U W:=by have sub:(W.flatten++b.O₀).Sublist (W.flatten++F.O₀):=List.Sublist.append (List.Sublist.refl _) m;have mem:∀a∈W.flatten++b.O₀,a∈W.flatten++F.O₀:=fun a h=>sub.subset h;refine⟨fun i c e=>?_,st.nd.sublist sub,by rw[d,f];exact st.kept,by rw[d,f];exact st.new,fun a h=>st.live a (mem a h),st.len,st.lw,by rw[g];exact st.io⟩;obtain⟨v,fp,j,k,l⟩:=st.at_ i c e;exact⟨v,fp,j,k,l.keep (eX mem) (fun _ _=>rfl) (fun _ _ _ e=>e)⟩
theorem ay.unplus{K:Frag}(st:ay K (F.plus fp) H Y U O):∃O',ay K F H Y U O'/\aH O H O' H/\(∀a∈fp,a∉O'):=by
 obtain⟨W,st,rfl⟩:=st;have b:bV K F H Y U W:=st.less rfl rfl rfl (List.sublist_append_right _ _);refine⟨_,⟨W,b,rfl⟩,eX fun a h=>?_,fun a d z=>?_⟩
 .rcases List.mem_append.mp h with h |h
  .exact aR _ h
  .exact aT _ (aT _ h)
 .have nd:(W.flatten++(fp++F.O₀)).Nodup:=st.nd;obtain⟨_,e,f⟩:=List.nodup_append.mp nd;rcases List.mem_append.mp z with z |z
  .exact f a z a (aR _ d) rfl
  .exact(List.nodup_append.mp e).2.2 a d a z rfl
theorem gi.drop{K:Frag}(r:gi K F H Y U O v c fp):∃O',ay K F H Y U O'/\aH O H O' H:=let⟨O',h1,h2,_⟩:=r.st.unplus;⟨O',h1,h2⟩
@[simp]noncomputable def frz:ae->Option PyData
 |.dat d=>some d
 |.own _ (.l ds)=>some (.list ds)
 |_=>none
theorem gi.frz{K:Frag}(r:gi K F H Y U O v c fp)(e:frz c=some d):∃O',ay K F H Y U O'/\aH O H O' H/\DV (ao O' H) v d:=by
 obtain⟨O',h1,h2,h3⟩:=r.st.unplus;refine⟨O',h1,h2,?_⟩;have f:=r.at_;cases c with
 |dat x=>cases e;exact DV.mono h2.hid f
 |scr ns=>cases e
 |exc c=>cases e
 |vw c=>cases e
 |own io b=>
  cases b with
  |l ds=>cases e;obtain⟨a,rfl,rfl,i,g,h⟩:=f;exact .lst (fY g (h3 a (by simp))) (aC.mono h2.hid h)
  |m _ _=>cases e
  |o _ _=>cases e
  |sd _=>cases e
  |ll _=>cases e
  |pr _ _ _=>cases e
  |oo _ _=>cases e
theorem JW{K:Frag}(st:ay K F H Y U O)(h:DV (ao O H) v d):gi K F H Y U O v (.dat d) []:=⟨st,h,fun a h=>by cases h⟩
theorem ay.put1{K:Frag}{io:Bool}(st:ay K (F.plus fp) H Y U O)(s:dm K H O v c fp)(new:∀a∈fp,a∈F.A₀\/F.H₀ a=none)(n:i<U.length)(o:∀b,c=.own true b->v=.ref (F.I₀ i)) :
  ∃O',ay K F H (Y.set i (some v)) (U.set i (some c)) O'/\aH O H O' H:=by
 obtain⟨W,st,rfl⟩:=st;have nd:(W.flatten++(fp++F.O₀)).Nodup:=st.nd;obtain⟨t,u,r⟩:=List.nodup_append.mp nd;obtain⟨x,y,A⟩:=List.nodup_append.mp u;have p:i<W.length:=by rw[st.lw];exact n
 have sub:∀a∈(W.set i fp).flatten++F.O₀,a∈W.flatten++(fp++F.O₀):=fun a h=>by
  rcases List.mem_append.mp h with h |h
  .rcases ek h with h |⟨j,l,_,e,q⟩
   .exact aT _ (aR _ h)
   .exact aR _ (bK e q)
  .exact aT _ (aT _ h)
 have f:=eX (H:=H) sub;refine⟨_,⟨W.set i fp,⟨fun j d e=>?_,mM (List.nodup_append.mpr ⟨t,y,fun a k b B=>r a k b (aT _ B)⟩) x fun a k=>⟨fun j l _ e z=>r a (bK e z) a (aR _ k) rfl,fun z=>A a k a z rfl⟩,st.kept,fun a h=>?_,fun a h=>st.live a (sub a h),by rw[List.length_set,List.length_set,st.len],by rw[List.length_set,List.length_set,st.lw],fun j b e=>?_⟩,rfl⟩,f⟩
 .rcases fO e with⟨rfl,g,_⟩ |⟨m,g⟩
  .cases g;exact⟨v,fp,List.getElem?_set_self (by rw[<-st.len];exact n),List.getElem?_set_self p,s.keep f (fun _ _=>rfl) (fun _ _ _ e=>e)⟩
  .obtain⟨w,l,h1,h2,h3⟩:=st.at_ j d g;exact⟨w,l,by rw[List.getElem?_set_ne (Ne.symm m)];exact h1,by rw[List.getElem?_set_ne (Ne.symm m)];exact h2,h3.keep f (fun _ _=>rfl) (fun _ _ _ e=>e)⟩
 .rcases ek h with h |⟨j,l,_,e,q⟩
  .exact new a h
  .exact st.new a (bK e q)
 .rcases fO e with⟨rfl,g,_⟩ |⟨m,g⟩
  .rw[List.getElem?_set_self (by rw[<-st.len];exact n),o b (Option.some.inj g).symm]
  .rw[List.getElem?_set_ne (Ne.symm m)];exact st.io j b g
theorem ay.take{K:Frag}(st:ay K F H Y U O)(e:U[i]? = some (some (.own io b))):∃a fp O',Y[i]? = some (some (.ref a))/\ay K (F.plus fp) H Y (U.set i none) O'/\ee (ao O' H) H a b fp/\aH O H O' H/\aH O' H O H/\(∀a∈fp,a∈F.A₀\/F.H₀ a=none)/\(io=true->a=F.I₀ i):=by
 obtain⟨W,st,rfl⟩:=st;obtain⟨v,fp,h1,h2,a,rfl,h3⟩:=st.at_ i _ e;have G:i<U.length:=(List.getElem?_eq_some_iff.mp e).1;have I:i<W.length:=by rw[st.lw];exact G
 obtain⟨D,J,L⟩:=List.nodup_append.mp st.nd;have E:∀x∈(W.set i []).flatten++(fp++F.O₀),x∈W.flatten++F.O₀:=fun x h=>by
  rcases List.mem_append.mp h with h |h
  .rcases ek h with h |⟨j,l,_,g,m⟩
   .cases h
   .exact aR _ (bK g m)
  .rcases List.mem_append.mp h with h |h
   .exact aR _ (bK h2 h)
   .exact aT _ h
 have M:∀x∈W.flatten++F.O₀,x∈(W.set i []).flatten++(fp++F.O₀):=fun x h=>by
  rcases List.mem_append.mp h with h |h
  .obtain⟨l,m,f⟩:=List.mem_flatten.mp h;obtain⟨j,n⟩:=List.getElem?_of_mem m
   by_cases s:j=i
   .subst s;rw[h2]at n;cases n;exact aT _ (aR _ f)
   .exact aR _ (Jh s n f)
  .exact aT _ (aT _ h)
 have t:fp.Nodup:=by
  have:∀{W:List (List Addr)}{i:Nat}{l:List Addr},W.flatten.Nodup->W[i]? = some l->l.Nodup:=fun {W i l} R m=>R.sublist (by
   have:=List.mem_of_getElem? m;exact List.sublist_flatten_of_mem this)
  exact this D h2
 have u:((W.set i []).flatten++(fp++F.O₀)).Nodup:=by
  have q:((W.set i []).flatten++([]++F.O₀)).Nodup:=mM (fp:=[]) (O:=F.O₀) st.nd List.nodup_nil (fun a h=>by cases h);obtain⟨A,_,B⟩:=List.nodup_append.mp q;refine List.nodup_append.mpr ⟨A,List.nodup_append.mpr ⟨t,J,fun x f y o z=>L x (bK h2 f) y o z⟩,fun x f y o z=>?_⟩;subst z;rcases List.mem_append.mp o with o |o
  .rcases ek f with f |⟨j,l,n,g,m⟩
   .cases f
   .exact hJ D h2 g (Ne.symm n) o m
  .exact B x f x o rfl
 have p:=eX (H:=H) E;have k:=eX (H:=H) M;refine⟨a,fp,_,h1,⟨W.set i [],⟨fun j d g=>?_,u,st.kept,fun x h=>?_,fun x h=>st.live x (E x h),by rw[List.length_set,st.len],by rw[List.length_set,List.length_set,st.lw],fun j N g=>?_⟩,rfl⟩,h3.keep (fun _ _=>rfl) p.hid,p,k,fun x f=>st.new x (bK h2 f),fun C=>?_⟩
 .rcases fO g with⟨rfl,r,_⟩ |⟨n,r⟩
  .cases r
  .obtain⟨w,l,A,Q,B⟩:=st.at_ j d r;exact⟨w,l,A,by rw[List.getElem?_set_ne (Ne.symm n)];exact Q,B.keep p (fun _ _=>rfl) (fun _ _ _ e=>e)⟩
 .rcases ek h with h |⟨j,l,_,g,m⟩
  .cases h
  .exact st.new x (bK g m)
 .rcases fO g with⟨rfl,r,_⟩ |⟨n,r⟩
  .cases r
  .exact st.io j N r
 .subst C;have:=st.io i b e;rw[h1]at this;cases this;rfl
theorem ay.swap{K:Frag}{F:Fx}(st:ay K (F.plus L) H Y U O)(keep:∀b o,b∉L->H b=some o->H' b=some o)(D:L'.Nodup)(new:∀a∈L',a∈L\/H a=none)(t:∀a∈L,a∈F.A₀\/F.H₀ a=none)(l:∀a∈L',∃o,H' a=some o/\Mv o) :
  ∃O',ay K (F.plus L') H' Y U O'/\aH O H O' H'/\(∀a∈L',a∈O')/\(∀a∈O',a∈L'\/a∈O/\a∉L)/\∀a∈O,a∉L->a∈O':=by
 obtain⟨W,st,rfl⟩:=st;have m:(W.flatten++(L++F.O₀)).Nodup:=st.nd;obtain⟨w,x,p⟩:=List.nodup_append.mp m;obtain⟨E,y,A⟩:=List.nodup_append.mp x;have wl:∀a∈W.flatten,a∉L:=fun a h z=>p a h a (aR _ z) rfl;have ol:∀a∈F.O₀,a∉L:=fun a h z=>A a z a h rfl;have j:∀a∈W.flatten++F.O₀,∃o,H a=some o/\Mv o:=fun a h=>st.live a (by
  rcases List.mem_append.mp h with h |h
  .exact aR _ h
  .exact aT _ (aT _ h))
 have kp:∀a∈W.flatten++F.O₀,H' a=H a:=fun a h=>by obtain⟨o,e,_⟩:=j a h;rw[e];exact keep a o ((List.mem_append.mp h).elim (wl a) (ol a)) e
 have ap:∀a∈L',a∉W.flatten++F.O₀:=fun a h z=>by
  rcases new a h with q |q
  .rcases List.mem_append.mp z with z |z
   .exact wl a z q
   .exact ol a z q
  .obtain⟨o,e,_⟩:=j a z;rw[q]at e;cases e
 have f:aH (W.flatten++(L++F.O₀)) H (W.flatten++(L'++F.O₀)) H':=⟨fun b o d e=>keep b o (fun z=>d (aT _ (aR _ z))) e,fun a h=>by
  rcases List.mem_append.mp h with h |h
  .exact .inl (aR _ h)
  .rcases List.mem_append.mp h with h |h
   .exact(new a h).imp (fun z=>aT _ (aR _ z)) id
   .exact .inl (aT _ (aT _ h))⟩
 have B:∀b o u,H b=some (.frz o u)->H' b=some (.frz o u):=fun b o u e=>keep b _ (fun z=>st.nofrz (aT _ (aR _ z)) e) e;refine⟨_,⟨W,⟨fun i c e=>?_,?_,fun b o d e=>?_,st.new,fun a h=>?_,st.len,st.lw,st.io⟩,rfl⟩,f,fun a h=>aT _ (aR _ h),fun a h=>?_,fun a h C=>?_⟩
 .obtain⟨v,fp,h1,h2,h3⟩:=st.at_ i c e;exact⟨v,fp,h1,h2,h3.keep f (fun b d=>kp b (aR _ (bK h2 d))) B⟩
 .refine List.nodup_append.mpr ⟨w,List.nodup_append.mpr ⟨D,y,fun a k b d z=>?_⟩,fun a k b d z=>?_⟩
  .subst z;exact ap a k (aT _ d)
  .subst z;rcases List.mem_append.mp d with d |d
   .exact ap a d (aR _ k)
   .exact p a k a (aT _ d) rfl
 .have g:=st.kept b o d e
  by_cases r:b∈L
  .rcases t b r with q |q
   .exact absurd q d
   .have s:F.H₀ b=some o:=e;rw[q]at s;cases s
  .exact keep b o r g
 .rcases List.mem_append.mp h with h |h
  .obtain⟨o,g,n⟩:=j a (aR _ h);exact⟨o,by rw[kp a (aR _ h)];exact g,n⟩
  .rcases List.mem_append.mp h with h |h
   .exact l a h
   .obtain⟨o,g,n⟩:=j a (aT _ h);exact⟨o,by rw[kp a (aT _ h)];exact g,n⟩
 .rcases List.mem_append.mp h with h |h
  .exact .inr ⟨aR _ h,wl a h⟩
  .rcases List.mem_append.mp h with h |h
   .exact .inl h
   .exact .inr ⟨aT _ (aT _ h),ol a h⟩
 .rcases List.mem_append.mp h with h |h
  .exact aR _ h
  .rcases List.mem_append.mp h with h |h
   .exact absurd h C
   .exact aT _ (aT _ h)
abbrev hU:=ag->(ae->ag->Prop)->Prop
def yA(t:hU):Prop:=∀U Q a,(∀c b,Q c b->a c b)->t U Q->t U a
def uu(K:Frag)(F:Fx)(t:hU):TE:=fun Y H Q=>∃U O,ay K F H Y U O/\t U fun c d=>∀v a b e,gi K F a Y d b v c e->aH O H b a->Q v a
structure DO (X:Cx) (F:Fx) (e:Expr) (t:hU):Prop where
 mn:yA t
 pe:PE X e (uu X.K F t)
def JX(t:hU):DT:=fun U Q=>t U fun c a=>∃d,frz c=some d/\Q d a
theorem DO.de(h:DO X F e to):DE X F e (JX to):=
 ⟨fun _ _ _ k q=>h.mn _ _ _ (fun _ _ a=>by obtain⟨d,e,q⟩:=a;exact⟨d,e,k _ _ q⟩) q,h.pe.imp fun Y H Q ⟨U,O,st,q⟩=>⟨U,O,st,h.mn _ _ _ (fun c m b v g n o r s=>by
  obtain⟨d,e,q⟩:=b;obtain⟨i,f,j,l⟩:=r.frz e;exact q v g i f (s.trans j) l) q⟩⟩
abbrev eL:=PyData->ag->(ag->Prop)->Prop
def mR(K:Frag)(F:Fx)(t:eL):TG:=fun v Y H Q=>∃U O d,ay K F H Y U O/\DV (ao O H) v d/\t d U fun e=>∀b a c,ay K F a b e c->aH O H c a->Q b a
structure DG (X:Cx) (F:Fx) (tg:Expr) (t:eL):Prop where
 mn:∀d U Q Q',(∀U',Q U'->Q' U')->t d U Q->t d U Q'
 pg:PG X tg (mR X.K F t)
abbrev ke:=List PyData->ag->(ag->Prop)->Prop
def JY(K:Frag)(F:Fx)(t:ke):jr:=fun e Y H Q=>∃U O d,ay K F H Y U O/\aC (ao O H) e d/\t d U fun f=>∀b a c,ay K F a b f c->aH O H c a->Q b a
structure oE (X:Cx) (F:Fx) (tg:List Expr) (t:ke):Prop where
 mn:∀d U Q Q',(∀U',Q U'->Q' U')->t d U Q->t d U Q'
 pg:PGs X tg (JY X.K F t)
theorem _root_.L2.PG.imp(h:PG X e t)(k:∀v Y H Q,t' v Y H Q->t v Y H Q):PG X e t':=fun a s Y H v u Q I r q=>h a s Y H v u Q I r (k v Y H Q q)
theorem _root_.L2.PGs.imp(h:PGs X e t)(k:∀v Y H Q,t' v Y H Q->t v Y H Q):PGs X e t':=fun a s Y H v u Q I r q=>h a s Y H v u Q I r (k v Y H Q q)
def gN(i:Nat):eL:=fun d U Q=>Q (U.set i (some (.dat d)))
theorem JZ(h:PG X (.Name x pos) (qr i)):DG X F (.Name x pos) (gN i):=⟨fun _ _ _ _ k q=>k _ q,h.imp fun v Y H Q a=>by obtain⟨U,O,d,st,hd,q⟩:=a;exact q _ H O (st.set hd) .refl⟩
def Ka:ke:=fun a U Q=>a=[]/\Q U
def Kb(t:eL)(u:ke):ke:=fun b U Q=>∃d r,b=d::r/\t d U fun a=>u r a Q
theorem Kc:oE X F [] Ka:=⟨fun _ _ _ _ k q=>⟨q.1,k _ q.2⟩,Gu.imp fun b Y H Q a=>by
 obtain⟨U,O,ds,st,hd,e,q⟩:=a;subst e;cases hd;exact⟨rfl,q _ H O st .refl⟩⟩
theorem Kd(h:DG X F e t)(i:oE X F es ts)(l:autoParam ((assignEach (e::es) X.env).map (·.2)=assign e X.env::(assignEach es X.env).map (·.2)) Zq._auto_1):oE X F (e::es) (Kb t ts):=
 ⟨fun _ _ _ _ k a=>by obtain⟨d,r,e,q⟩:=a;exact⟨d,r,e,h.mn _ _ _ _ (fun _ c=>i.mn _ _ _ _ k c) q⟩,(Gv h.pg i.pg l).imp fun y Y H Q b=>by
  obtain⟨U,O,ds,st,hd,d,r,e,q⟩:=b;subst e;cases hd with
  |cons hd m=>
   exact⟨_,_,rfl,U,O,d,st,hd,h.mn _ _ _ _ (fun n c z A o f j=>⟨n,o,r,f,aC.mono j.hid m,i.mn _ _ _ _ (fun B p s u v g w=>p s u v g (j.trans w)) c⟩) q⟩⟩
def Ke(n:Nat)(t:ke):eL:=fun d U Q=>∃a,d=.tuple a/\a.length=n/\t a U Q
theorem Kf{pos:Pos}{k }(j:X.calm=true)(h:oE X F es ts)(m:autoParam ((assignEach es X.env).length=n) Zq._auto_1)(f:autoParam ((assignEach es X.env).findIdx? (·.1)=none) Zq._auto_1):DG X F (.Tuple es k pos) (Ke n ts):=
 ⟨fun _ _ _ _ k b=>by obtain⟨g,e,l,q⟩:=b;exact⟨g,e,l,h.mn _ _ _ _ k q⟩,(Gx j h.pg m f).imp fun v Y H Q c=>by
  obtain⟨U,O,d,st,hd,g,e,l,q⟩:=c;subst e;obtain⟨a,o,rfl,p,i⟩:=hd.tup_inv;exact⟨a,o,rfl,.inl (jv p).1,by rw[i.length];exact l,U,O,g,st,i,q⟩⟩
structure el where
 nx:ag->Prop
 rt:ae->ag->Prop
 bk:ag->Prop:=fun _=>False
 ct:ag->Prop:=fun _=>False
abbrev em:=el->ag->Prop
structure fP (K:Frag) (F:Fx) (O:List Addr) (H:Hp) (D:eU) (DD:el):Prop where
 nx:∀Y' H' U' O',ay K F H' Y' U' O'->aH O H O' H'->DD.nx U'->D.nx Y' H'
 rt:∀v Y' H' c U' O' fp,gi K F H' Y' U' O' v c fp->aH O H O' H'->DD.rt c U'->D.rt v H'
 bk:∀Y' H' U' O',ay K F H' Y' U' O'->aH O H O' H'->DD.bk U'->D.bk Y' H'
 ct:∀Y' H' U' O',ay K F H' Y' U' O'->aH O H O' H'->DD.ct U'->D.ct Y' H'
theorem fP.later{K}(f:fP K F O H D e)(s:aH O H b d):fP K F b d D e:=
 ⟨fun Y H U O st a q=>f.nx Y H U O st (s.trans a) q,fun v Y H c U O g r a q=>f.rt v Y H c U O g r (s.trans a) q,fun Y H U O st a q=>f.bk Y H U O st (s.trans a) q,fun Y H U O st a q=>f.ct Y H U O st (s.trans a) q⟩
def yB(K:Frag)(F:Fx)(t:em):TS:=fun D Y H=>∃U O a,ay K F H Y U O/\t a U/\fP K F O H D a
def DS(X:Cx)(F:Fx)(s:Stmt)(t:em):Prop:=PS X s (yB X.K F t)
def gD(X:Cx)(F:Fx)(s:List Stmt)(t:em):Prop:=PSs X s (yB X.K F t)
def Kg:em:=fun D U=>D.nx U
def Kh(t u:em):em:=fun D U=>t { D with nx:=fun a=>u D a } U
theorem Ki:gD X F [] Kg:=Gi.imp fun D Y H a=>by obtain⟨U,O,b,st,q,f⟩:=a;exact f.nx Y H U O st .refl q
theorem Kj{st:Stmt}(j:DS X F st t)(k:gD X F rest u):gD X F (st::rest) (Kh t u):=
 (Gj j k).imp fun D Y H a=>by obtain⟨U,O,c,s,q,f⟩:=a;exact⟨U,O,_,s,q,⟨fun l m d g b h i=>⟨d,g,c,b,i,f.later h⟩,f.rt,f.bk,f.ct⟩⟩
theorem Kk{st:Stmt}(h:DS X F st t):gD X F [st] t:=Gk h
def uv(te:DT)(tg:eL):em:=fun D U=>te U fun d a=>tg d a D.nx
theorem Kl{pos:Pos}(h:X.N.Nodup)(j:X.N[i]? = some x)(k:gy X.env.scope x)(g:DE X F e te)(l:autoParam (swapsWith e (some (.Name x a)) pos.line X.env=pure false) Zq._auto_1)
  (m:X.fn x=true\/X.env.scope.names.lookup x=some .local:=by first |exact .inl rfl |exact .inr rfl |assumption):DS X F (.Assign [.Name x a] e pos) (uv te (gN i)):=
 (xc h j k g.pe l m).imp fun D Y H b=>by obtain⟨U,O,w,st,q,f⟩:=b;exact⟨U,O,st,g.mn _ _ _ (fun d y n v o p c r s=>f.nx _ o _ p (c.set s) r n) q⟩
def Km(te:DT):em:=fun D U=>te U fun d a=>D.rt (.dat d) a
theorem Kn(c:DE X F e te):DS X F (.Return (some e) pos) (Km te):=
 (wY c.pe).imp fun D Y H a=>by obtain⟨U,O,m,st,q,f⟩:=a;exact⟨U,O,st,c.mn _ _ _ (fun d g h v i j b k l=>f.rt v Y i (.dat d) g j [] (JW b l) k h) q⟩
def Ko(to:hU):em:=fun D U=>to U fun c a=>D.rt c a
theorem Kp(b:DO X F e to):DS X F (.Return (some e) pos) (Ko to):=
 (wY b.pe).imp fun D Y H a=>by obtain⟨U,O,l,st,q,f⟩:=a;exact⟨U,O,st,b.mn _ _ _ (fun c d g v h i j r k=>f.rt v Y h c d i j r k g) q⟩
def Kq(i:Nat)(to:hU):em:=fun D U=>to U fun c a=>i<a.length/\(∀b,c≠.own true b)/\D.nx (a.set i (some c))
theorem Kr{pos:Pos}(j:X.N.Nodup)(k:X.N[i]? = some x)(l:gy X.env.scope x)(h:DO X F e to)(m:autoParam (swapsWith e (some (.Name x a)) pos.line X.env=pure false) Zq._auto_1)
  (n:X.fn x=true\/X.env.scope.names.lookup x=some .local:=by first |exact .inl rfl |exact .inr rfl |assumption):DS X F (.Assign [.Name x a] e pos) (Kq i to):=
 (xc j k l h.pe m n).imp fun D Y H ⟨U,O,C,st,q,f⟩=>⟨U,O,st,h.mn _ _ _ (fun c E d v o G I r p=>by
  obtain⟨s,w,y⟩:=d;obtain⟨A,g,B⟩:=ay.put1 (io:=true) r.st r.at_ r.new s (fun b z=>absurd z (w b));exact f.nx _ o _ A g (p.trans B) y) q⟩
def Ks(to:hU):em:=fun D U=>to U fun _ a=>D.nx a
theorem Kt(b:DO X F e to)(d:autoParam (swapsWith e none pos.line X.env=pure false) Zq._auto_1):DS X F (.Expr e pos) (Ks to):=
 (mF b.pe d).imp fun D Y H ⟨U,O,j,st,q,f⟩=>⟨U,O,st,b.mn _ _ _ (fun c k g v l m n r h=>by
  obtain⟨o,a,i⟩:=r.drop;exact f.nx _ _ _ _ a (h.trans i) g) q⟩
def Ku(tc:cN)(t u:em):em:=fun D U=>tc U fun b a=>if b=true then t D a else u D a
theorem Kv(g:DB X F c tc)(m:gD X F a t)(n:gD X F b u):DS X F (.If c a b pos) (Ku tc t u):=
 (Gp g.pt m n).imp fun D Y H ⟨U,O,h,st,q,f⟩=>⟨U,O,st,g.mn _ _ _ (fun b i j o k d l=>by
  cases b with
  |true=>exact eJ ⟨i,k,h,d,jx j,f.later l⟩
  |false=>exact eI ⟨i,k,h,d,jy j,f.later l⟩) q⟩
inductive uw where
 |rt (c:ae) (outs:List Bx) |ex (c:Str) (outs:List Bx) |bad
abbrev FM:=List ae->uw
inductive aS (K:Frag) (H:Hp) (O:List Addr):List V->List ae->List (List Addr)->Prop where
 |nil:aS K H O [] [] []
 |dat {v:V}{d:PyData}{vs:List V}{cs:List ae}{fps:List (List Addr)}:DV (ao O H) v d->aS K H O vs cs fps->aS K H O (v::vs) (.dat d::cs) ([]::fps)
 |oth {v:V}{c:ae}{vs:List V}{cs:List ae}{fps:List (List Addr)}:(∀d,c≠.dat d)->(∀io b,c≠.own io b)->dm K H O v c []->aS K H O vs cs fps->aS K H O (v::vs) (c::cs) ([]::fps)
 |own {a:Addr}{b:Bx}{fp:List Addr}{vs:List V}{cs:List ae}{fps:List (List Addr)}:ee (ao O H) H a b fp->aS K H O vs cs fps->aS K H O (.ref a::vs) (.own true b::cs) (fp::fps)
inductive aP (H:Hp) (O:List Addr):List V->List ae->List Bx->List (List Addr)->Prop where
 |nil:aP H O [] [] [] []
 |skip {v:V}{c:ae}{vs:List V}{cs:List ae}{bs:List Bx}{fps:List (List Addr)}:(∀io b,c≠.own io b)->aP H O vs cs bs fps->aP H O (v::vs) (c::cs) bs fps
 |own {a:Addr}{io:Bool}{b b':Bx}{fp:List Addr}{vs:List V}{cs:List ae}{bs:List Bx}{fps:List (List Addr)}:ee (ao O H) H a b' fp->aP H O vs cs bs fps->aP H O (.ref a::vs) (.own io b::cs) (b'::bs) (fp::fps)
structure gj (H H':Hp) (L L' O₀:List Addr):Prop where
 nd:(L'++O₀).Nodup
 live:∀a∈L',∃o,H' a=some o/\Mv o
 keep:∀b o,b∉L->H b=some o->H' b=some o
 new:∀a∈L',a∈L\/H a=none
def cW(K:Frag)(l:Str->Option Value)(f:FM):Sp:=fun k H Q E=>GH l H/\∃(i:List ae) (d:List (List Addr)) (h:List Addr),aS K H (d.flatten++h) k i d/\(d.flatten++h).Nodup/\(∀a∈d.flatten++h,∃o,H a=some o/\Mv o)/\
 match f i with
 |.rt c e=>∀v g j b,dm K g (b.flatten++j++h) v c j->aP g (b.flatten++j++h) k i e b->gj H g d.flatten (b.flatten++j) h->Q v g
 |.ex c e=>∀C g b,l c=some C->aP g (b.flatten++h) k i e b->gj H g d.flatten b.flatten h->E C none g
 |.bad=>False
theorem aS.len{K}(h:aS K H O d c b):d.length=c.length/\b.length=c.length:=by
 induction h with
 |nil=>exact⟨rfl,rfl⟩
 |dat _ _ a=>exact⟨congrArg Nat.succ a.1,congrArg Nat.succ a.2⟩
 |oth _ _ _ _ a=>exact⟨congrArg Nat.succ a.1,congrArg Nat.succ a.2⟩
 |own _ _ a=>exact⟨congrArg Nat.succ a.1,congrArg Nat.succ a.2⟩
theorem aS.get{K}(h:aS K H O d f a):∀(i:Nat)  c,f[i]? = some c->∃v g,d[i]? = some v/\a[i]? = some g/\dm K H O v c g:=by
 induction h with
 |nil=>intro i c e;simp at e
 |dat h _ b=>
  intro i c e;cases i with
  |zero=>simp at e;subst e;exact⟨_,_,rfl,rfl,h⟩
  |succ i=>exact b i c (by simpa using e)
 |oth _ _ h _ b=>
  intro i c e;cases i with
  |zero=>simp at e;subst e;exact⟨_,_,rfl,rfl,h⟩
  |succ i=>exact b i c (by simpa using e)
 |own h _ b=>
  intro i c e;cases i with
  |zero=>simp at e;subst e;exact⟨_,_,rfl,rfl,⟨_,rfl,h⟩⟩
  |succ i=>exact b i c (by simpa using e)
theorem aS.mono{K}(h:aS K H O d f a)(s:aH O H c H):aS K H c d f a:=by
 induction h with
 |nil=>exact .nil
 |dat h _ b=>exact .dat (DV.mono s.hid h) b
 |oth h1 h2 h _ b=>exact .oth h1 h2 (h.keep s (fun _ _=>rfl) (fun _ _ _ e=>e)) b
 |own h _ b=>exact .own (h.keep (fun _ _=>rfl) s.hid) b
theorem aP.mono(h:aP H O d e bs a)(s:aH O H c H):aP H c d e bs a:=by
 induction h with
 |nil=>exact .nil
 |skip h1 _ b=>exact .skip h1 b
 |own h _ b=>exact .own (h.keep (fun _ _=>rfl) s.hid) b
inductive gE where
 |nx (U:ag) |rt (c:ae) (U:ag) |bk (U:ag) |ct (U:ag) |ex (c:Str) (U:ag) |bad
abbrev SM:=ag->gE
def ck(E:Str->ag->Prop)(m:SM):em:=fun D U=>match m U with
 |.nx a=>D.nx a
 |.rt c a=>D.rt c a
 |.bk a=>D.bk a
 |.ct a=>D.ct a
 |.ex c a=>E c a
 |.bad=>False
@[simp]noncomputable def cK:List ae->ag->Option (List Bx)
 |[],_=>some []
 |.own _ _::a,some (.own true b)::U=>(cK a U).map (b::·)
 |.own _ _::_,_=>none
 |_::a,_::U=>cK a U
 |_::_,[]=>none
@[simp] def bp(n N:Nat)(m:SM):FM:=fun a=>if a.length=n then(match m (a.map some++List.replicate (N - n) none) with
 |.nx U=>(match cK a U with |some o=>.rt (.dat .none) o |none=>.bad)
 |.rt c U=>(match cK a U with |some o=>.rt c o |none=>.bad)
 |.ex c U=>(match cK a U with |some o=>.ex c o |none=>.bad)
 |_=>.bad) else .bad
theorem ux{α:Type}{l:List α}{x}{r}(h:l.drop k=x::r):l[k]? = some x/\l.drop (k+1)=r:=by
 constructor
 .rw[<-List.head?_drop,h];rfl
 .rw[<-List.drop_drop,h];rfl
theorem qM{K:Frag}(st:bV K F H Y U W):∀l  m  k  g,m.length=l.length->(∀(i:Nat) io b,l[i]? = some (.own io b)->m[i]? = some (.ref (F.I₀ (k+i))))->cK l (U.drop k)=some g->
  ∃j,aP H (W.flatten++F.O₀) m l g j/\j.flatten.Sublist (W.drop k).flatten
 |[],[],k,g,_,_,e=>by cases e;exact⟨[],.nil,by simp⟩
 |[],_::_,_,_,p,_,_=>by cases p
 |_::_,[],_,_,p,_,_=>by cases p
 |c::l,v::m,k,g,p,G,e=>by
  have t:m.length=l.length:=Nat.succ.inj p;have y:∀(i:Nat) io b,l[i]? = some (.own io b)->m[i]? = some (.ref (F.I₀ (k+1+i))):=fun i io b h=>by have:=G (i+1) io b (by simpa using h);rw[show k+1+i=k+(i+1) by lia];simpa using this
  have A:(W.drop (k+1)).flatten.Sublist (W.drop k).flatten:=by
   cases B:W.drop k with
   |nil=>rw[show W.drop (k+1)=[] from by rw[<-List.drop_drop,B];rfl];exact List.Sublist.refl _
   |cons w r=>rw[(ux B).2,List.flatten_cons];exact List.sublist_append_right _ _
  cases hd:U.drop k with
  |nil=>
   rw[hd]at e;cases c with
   |own io b=>cases e
   |dat d=>cases e
   |scr n=>cases e
   |exc n=>cases e
   |vw n=>cases e
  |cons x r=>
   obtain⟨J,h2⟩:=ux hd;rw[hd]at e;have f:(∀io b,c≠.own io b)->cK l r=some g->∃j,aP H (W.flatten++F.O₀) (v::m) (c::l) g j/\j.flatten.Sublist (W.drop k).flatten:=fun M N=>by obtain⟨j,o,s⟩:=qM st l m (k+1) g t y (by rw[h2];exact N);exact⟨j,.skip M o,s.trans A⟩
   cases c with
   |dat d=>exact f (fun _ _ z=>by cases z) e
   |scr n=>exact f (fun _ _ z=>by cases z) e
   |exc n=>exact f (fun _ _ z=>by cases z) e
   |vw n=>exact f (fun _ _ z=>by cases z) e
   |own io b=>
    cases x with
    |none=>cases e
    |some x=>
     cases x with
     |dat d=>cases e
     |scr n=>cases e
     |exc n=>cases e
     |vw n=>cases e
     |own C O=>
      cases C with
      |false=>cases e
      |true=>
       cases q:cK l r with
       |none=>simp[cK,q]at e
       |some Q=>
        simp[cK,q]at e;subst e;obtain⟨j,o,s⟩:=qM st l m (k+1) Q t y (by rw[h2];exact q);obtain⟨u,R,S,D,a,rfl,T⟩:=st.at_ k _ J;have I:=st.io k O J;rw[S]at I;have X:a=F.I₀ k:=by cases I;rfl
        have Z:=G 0 io b rfl;have E:v=.ref a:=by rw[X];simpa using Z
        subst E;refine⟨R::j,.own T o,?_⟩;cases B:W.drop k with
        |nil=>rw[<-List.head?_drop,B]at D;cases D
        |cons w wr=>obtain⟨L,w2⟩:=ux B;rw[D]at L;cases L;rw[List.flatten_cons,List.flatten_cons];rw[w2]at s;exact List.Sublist.append (List.Sublist.refl _) s
theorem mS{α:Type}(n):(List.replicate n ([]:List α)).flatten=[]:=by induction n with |zero=>rfl |succ n a=>rw[List.replicate_succ,List.flatten_cons,a];rfl
noncomputable def gF(N n:Nat)(a:List ae):ag:=a.map some++List.replicate (N - n) none
noncomputable def lH(b:List V)(i:Nat):Addr:=match b[i]? with
 |some (.ref a)=>a
 |_=>0
theorem yC{K:Frag}(q:aS K H (g.flatten++p) l j g)(s:(g.flatten++p).Nodup)(live:∀a∈g.flatten++p,∃o,H a=some o/\Mv o)(u:j.length<=N.length) :
  bV K ⟨H,g.flatten,p,lH l⟩ H (start N l) (gF N.length j.length j) (g++List.replicate (N.length - j.length) []):=by
 have n:(g++List.replicate (N.length - j.length) ([]:List Addr)).flatten=g.flatten:=by rw[List.flatten_append,mS,List.append_nil]
 obtain⟨t,l2⟩:=q.len;have get:∀(i:Nat) c,(gF N.length j.length j)[i]? = some (some c)->j[i]? = some c:=fun i c e=>by
  unfold gF at e
  by_cases h:i<j.length
  .rw[List.getElem?_append_left (by simpa using h),List.getElem?_map]at e;obtain⟨d,h1,h2⟩:=Option.map_eq_some_iff.mp e;cases h2;exact h1
  .rw[List.getElem?_append_right (by simpa using Nat.le_of_not_lt h),List.getElem?_replicate]at e;split at e<;>cases e
 have put:∀(i:Nat) v,l[i]? = some v->(start N l)[i]? = some (some v):=fun i v e=>by unfold start;rw[List.getElem?_append_left (by simpa using(List.getElem?_eq_some_iff.mp e).1),List.getElem?_map,e];rfl
 refine⟨fun i c e=>?_,by rw[n];exact s,fun _ _ _ h=>h,fun a h=>.inl (by rw[n]at h;exact h),by rw[n];exact live,?_,?_,fun i b e=>?_⟩
 .obtain⟨v,r,h1,h2,h3⟩:=q.get i c (get i c e);exact⟨v,r,put i v h1,by rw[List.getElem?_append_left (List.getElem?_eq_some_iff.mp h2).1];exact h2,by rw[n];exact h3⟩
 .unfold gF start;rw[List.length_append,List.length_append,List.length_map,List.length_map,List.length_replicate,List.length_replicate,t]
 .unfold gF;rw[List.length_append,List.length_append,List.length_map,List.length_replicate,List.length_replicate,l2]
 .obtain⟨v,r,h1,h2,a,rfl,h3⟩:=q.get i _ (get i _ e);rw[put i _ h1];show _=some (some (V.ref (lH l i)));unfold lH;rw[h1]
theorem aS.ios{K:Frag}(h:aS K H O c g d):∀(i:Nat) io b,g[i]? = some (.own io b)->c[i]? = some (.ref (lH c (0+i))):=fun i io b e=>by obtain⟨v,j,h1,_,a,rfl,_⟩:=h.get i _ e;rw[Nat.zero_add];unfold lH;rw[h1]
theorem uy{K:Frag}{st:Stmt}(Fn:lB K x qual st f fd)(S:bA N ps (cZ st))(hN:ps.length<=N.length)
  (a0:∀y  A  t  s  H  E  F  Z,ba k (A.deeper (envOfC qual (cZ st) s.heap.objs.size f y))->dc (gB (cx P w) P w K mg base N qual (cZ st) f y A t s H E) F Z->
   gD (gB (cx P w) P w K mg base N qual (cZ st) f y A t s H E) F (gC st) (ck Z m)):bJ P w K mg base (cx P w) (k+1) f fd ps (cW K mg (bp ps.length N.length m)):=by
 obtain⟨oc,od,kV,a4,pm,an,y,ct,a5,rfl,lk,a1⟩:=Fn.ex;have G:∀B H Q E,cW K mg (bp ps.length N.length m) B H Q E->B.length=ps.length:=fun B H Q E L=>by
  obtain⟨_,l,u,O₀,M,_,_,q⟩:=L;rw[M.len.1];unfold bp at q
  by_cases h:l.length=ps.length
  .exact h
  .rw[if_neg h]at q;exact q.elim
 refine Hz lk a1 S G fun A t s H B Q E hr O=>?_;have a6:=G B H Q E O;obtain⟨gh,l,u,O₀,M,nd,live,q⟩:=O;obtain⟨l1,l2⟩:=M.len;have R:l.length=ps.length:=by lia
 let F:Fx:=⟨H,u.flatten,O₀,lH B⟩
 have T:=yC (N:=N) M nd live (by lia);have fin:∀{X:St}{j:Hp}{n:ag}{J:List Addr}{fp:List Addr}{g:List Bx},ay K (F.plus fp) j X n J->(∀a∈fp,a∈F.A₀\/F.H₀ a=none)->cK l n = some g->∃d,aP j (d.flatten++fp++O₀) B l g d/\gj H j u.flatten (d.flatten++fp) O₀/\aH J j (d.flatten++fp++O₀) j:=by
  rintro X j n J fp g ⟨W,p,rfl⟩ a2 ho;obtain⟨d,o,sb⟩:=qM p l B 0 g l1 (fun i io b e=>M.ios i io b e) ho;have Y:d.flatten.Sublist W.flatten:=sb;have sub:(d.flatten++fp++O₀).Sublist (W.flatten++(fp++O₀)):=by rw[List.append_assoc];exact List.Sublist.append Y (List.Sublist.refl _)
  have D:aH (W.flatten++(fp++O₀)) j (d.flatten++fp++O₀) j:=eX fun a h=>sub.subset h;refine⟨d,o.mono D,⟨p.nd.sublist sub,fun a h=>p.live a (sub.subset (aR _ h)),fun b o hb e=>p.kept b o hb e,fun a h=>?_⟩,D⟩;rcases List.mem_append.mp h with h |h
  .exact p.new a (Y.subset h)
  .exact a2 a h
 have a3:bp ps.length N.length m l=(match m (gF N.length ps.length l) with
  |.nx U=>(match cK l U with |some o=>.rt (.dat .none) o |none=>.bad)
  |.rt c U=>(match cK l U with |some o=>.rt c o |none=>.bad)
  |.ex c U=>(match cK l U with |some o=>.ex c o |none=>.bad)
  |_=>.bad):=by unfold bp gF;rw[if_pos R]
 rw[a3]at q;rw[R]at T;let Z:Str->ag->Prop:=fun c n=>∃g,cK l n = some g/\∀C j d,mg c=some C->aP j (d.flatten++O₀) B l g d->gj H j u.flatten d.flatten O₀->E C none j;refine⟨_,a0 y A t s H E F Z hr (JV (gh.frame fun a h=>live a (aR _ h)) fun c C n X j J I p ⟨g,ho,k⟩=>?_),?_⟩
 .obtain⟨d,o,b,_⟩:=fin (fp:=[]) p (fun a h=>by cases h) ho;rw[List.append_nil]at o b;exact k C j d I o b
 .refine⟨gF N.length ps.length l,_,⟨fun n=>∃g,cK l n = some g/\∀j d,aP j (d.flatten++[]++O₀) B l g d->gj H j u.flatten (d.flatten++[]) O₀->Q .non j,fun c n=>∃g,cK l n = some g/\∀v j fp d,dm K j (d.flatten++fp++O₀) v c fp->aP j (d.flatten++fp++O₀) B l g d->gj H j u.flatten (d.flatten++fp) O₀->Q v j,fun _=>False,fun _=>False⟩,⟨_,T,rfl⟩,?_,?_⟩
  .unfold ck;cases I:m (gF N.length ps.length l) with
   |nx n=>
    rw[I]at q;cases ho:cK l n with
    |none=>simp[ho]at q
    |some g=>simp only[ho]at q;exact⟨g,ho,fun j d o b=>q .non j [] d .non o b⟩
   |rt c n=>
    rw[I]at q;cases ho:cK l n with
    |none=>simp[ho]at q
    |some g=>simp only[ho]at q;exact⟨g,ho,q⟩
   |ex c n=>
    rw[I]at q;cases ho:cK l n with
    |none=>simp[ho]at q
    |some g=>simp only[ho]at q;exact⟨g,ho,q⟩
   |bk n=>rw[I]at q;exact q
   |ct n=>rw[I]at q;exact q
   |bad=>rw[I]at q;exact q
  .refine⟨fun X j n J p s' ⟨g,ho,k⟩=>?_,fun v X j c n J fp r s' ⟨g,ho,k⟩=>?_,fun _ _ _ _ _ _ z=>z.elim,fun _ _ _ _ _ _ z=>z.elim⟩
   .obtain⟨d,o,b,_⟩:=fin (fp:=[]) p (fun a h=>by cases h) ho;exact k j d o b
   .obtain⟨d,o,b,D⟩:=fin r.st r.new ho;exact k v j fp d (r.at_.keep D (fun _ _=>rfl) (fun _ _ _ e=>e)) o b
inductive AX where
 |d (x:PyData) |s (j:Nat)
inductive cQ (Y:St) (G:Hp):List V->List AX->Prop where
 |nil:cQ Y G [] []
 |d {v:V}{x:PyData}{vs:List V}{as:List AX}:DV G v x->cQ Y G vs as->cQ Y G (v::vs) (.d x::as)
 |s {v:V}{j:Nat}{vs:List V}{as:List AX}:Y[j]? = some (some v)->cQ Y G vs as->cQ Y G (v::vs) (.s j::as)
abbrev gG:=ag->(List AX->ag->Prop)->Prop
def yD(t:gG):Prop:=∀U Q a,(∀d b,Q d b->a d b)->t U Q->t U a
def Kw(K:Frag)(F:Fx)(t:gG):TA:=fun Y H Q=>∃U O,ay K F H Y U O/\t U fun as d=>∀c a b,ay K F a Y d b->aH O H b a->cQ Y (ao b a) c as->Q c a
structure DX (X:Cx) (F:Fx) (es:List Expr) (t:gG):Prop where
 mn:yD t
 pa:PA X es (Kw X.K F t)
def Kx:gG:=fun U Q=>Q [] U
def Ky(te:DT)(t:gG):gG:=fun U Q=>te U fun d a=>t a fun as b=>Q (.d d::as) b
def Kz(j:Nat)(t:gG):gG:=fun U Q=>(∃c,U[j]? = some (some c))/\t U fun as a=>Q (.s j::as) a
theorem KA:DX X F [] Kx:=⟨fun _ _ _ k q=>k _ _ q,dj.imp fun Y H Q a=>by obtain⟨U,O,st,q⟩:=a;exact q [] H O st .refl .nil⟩
theorem KB(b:DE X F e te)(c:DX X F es tX)(m:autoParam (starEach (e::es) X.env=(false,eval e X.env)::starEach es X.env) Zq._auto_1):DX X F (e::es) (Ky te tX):=
 ⟨fun _ _ _ k q=>b.mn _ _ _ (fun _ _ f=>c.mn _ _ _ (fun _ _ g=>k _ _ g) f) q,(cJ b.pe c.pa m).imp fun Y H Q a=>by obtain⟨U,O,st,q⟩:=a;exact 
  ⟨U,O,st,b.mn _ _ _ (fun d n f v z o h r s=>⟨n,o,h,c.mn _ _ _ (fun as A g t u w i l y=>g (v::t) u w i (r.trans l) (.d (DV.mono l.hid s) y)) f⟩) q⟩⟩
theorem KC(i:PE X (.Name x p) (bw j))(d:DX X F es tX)(l:autoParam (starEach (.Name x p::es) X.env=(false,eval (.Name x p) X.env)::starEach es X.env) Zq._auto_1):DX X F (.Name x p::es) (Kz j tX):=
 ⟨fun _ _ _ k a=>by obtain⟨h,q⟩:=a;exact⟨h,d.mn _ _ _ (fun _ _ f=>k _ _ f) q⟩,(cJ i d.pa l).imp fun Y H Q b=>by
  obtain⟨U,O,st,⟨c,m⟩,q⟩:=b;obtain⟨W,h,rfl⟩:=id st;obtain⟨v,w,h1,h2,h3⟩:=h.at_ j c m;exact⟨v,h1,U,_,st,d.mn _ _ _ (fun as y f n o r g t u=>f (v::n) o r g t (.s h1 u)) q⟩⟩
@[simp]noncomputable def gH(U:ag):List AX->Option (List ae×List (Nat×Bool))
 |[]=>some ([],[])
 |.d x::as=>(match gH U as with |some (e,a)=>some (.dat x::e,a) |none=>none)
 |.s j::as=>(match gH U as with
  |some (e,a)=>(match U[j]? with
   |some (some (.own io b))=>if a.any (fun p=>p.1==j) then none else some (.own true b::e,(j,io)::a)
   |some (some c)=>some (c::e,a)
   |_=>none)
  |none=>none)
@[simp]noncomputable def eZ:List (Nat×Bool)->ag->ag
 |[],U=>U
 |(j,_)::r,U=>(eZ r U).set j none
@[simp]noncomputable def eg:List (Nat×Bool)->List Bx->ag->ag
 |(j,io)::r,b::bs,U=>eg r bs (U.set j (some (.own io b)))
 |_,_,U=>U
theorem qN:(eZ a U).length=U.length:=by
 induction a with
 |nil=>rfl
 |cons p r b=>obtain⟨j,io⟩:=p;rw[eZ,List.length_set,b]
theorem KD(h:∀p∈a,p.1≠i):(eZ a U)[i]? = U[i]?:=by
 induction a with
 |nil=>rfl
 |cons p r b=>obtain⟨j,io⟩:=p;rw[eZ,List.getElem?_set_ne (h (j,io) List.mem_cons_self),b fun q c=>h q (bC _ c)]
inductive fb (Y:St) (F:Fx) (n:Nat):List V->List ae->List (Nat×Bool)->Prop where
 |nil:fb Y F n [] [] []
 |skip {v:V}{c:ae}{vs:List V}{cs:List ae}{js:List (Nat×Bool)}:(∀io b,c≠.own io b)->fb Y F n vs cs js->fb Y F n (v::vs) (c::cs) js
 |own {a:Addr}{io:Bool}{b:Bx}{j:Nat}{vs:List V}{cs:List ae}{js:List (Nat×Bool)}:Y[j]? = some (some (.ref a))->(io=true->a=F.I₀ j)->j<n->fb Y F n vs cs js->fb Y F n (.ref a::vs) (.own true b::cs) ((j,io)::js)
section
variable{K:Frag}{F:Fx}{H H':Hp}{Y:St}{U:ag}{O O':List Addr}
theorem qO(st:ay K F H Y U O):∀as  l  t  u,gH U as=some (t,u)->cQ Y (ao O H) l as->
  ∃f O',ay K (F.plus f.flatten) H Y (eZ u U) O'/\aS K H O' l t f/\aH O H O' H/\aH O' H O H/\(∀a∈f.flatten,a∈F.A₀\/F.H₀ a=none)/\fb Y F U.length l t u
 |[],l,t,u,e,h=>by cases e;cases h;refine⟨[],O,st,.nil,.refl,.refl,?_,.nil⟩;intro a h;cases h
 |.d x::as,l,t,u,e,h=>by
  cases h with
  |d y G=>
   unfold gH at e;cases q:gH U as with
   |none=>rw[q]at e;cases e
   |some p=>obtain⟨k,g⟩:=p;rw[q]at e;simp only[Option.some.injEq,Prod.mk.injEq]at e;obtain⟨T,X⟩:=e;obtain⟨f,O',m,r,o,B,C,D⟩:=qO st as _ k g q G;subst T X;exact⟨[]::f,O',m,.dat (DV.mono o.hid y) r,o,B,C,.skip (fun _ _ z=>by cases z) D⟩
 |.s j::as,l,t,u,e,h=>by
  cases h with
  | @s v _ l _ y G=>
   unfold gH at e;cases q:gH U as with
   |none=>rw[q]at e;cases e
   |some p=>
    obtain⟨k,g⟩:=p;rw[q]at e;obtain⟨f,O',m,r,o,B,C,D⟩:=qO st as _ k g q G;cases w:U[j]? with
    |none=>rw[w]at e;cases e
    |some Z=>
     cases Z with
     |none=>rw[w]at e;cases e
     |some c=>
      rw[w]at e;obtain⟨W,I,J⟩:=id st;obtain⟨E,a0,h1,h2,h3⟩:=I.at_ j c w;rw[y]at h1;have ev:E = v:=by cases h1;rfl
      subst ev;rw[<-J]at h3;have other:(∀io b,c≠.own io b)->∃f O',ay K (F.plus f.flatten) H Y (eZ g U) O'/\aS K H O' (E::l) (c::k) f/\aH O H O' H/\aH O' H O H/\(∀a∈f.flatten,a∈F.A₀\/F.H₀ a=none)/\fb Y F U.length (E::l) (c::k) g:=fun N=>by
       refine⟨[]::f,O',m,?_,o,B,C,.skip N D⟩;cases c with
       |dat d=>exact .dat (DV.mono o.hid h3) r
       |own io b=>exact absurd rfl (N io b)
       |scr ns=>exact .oth (fun _ z=>by cases z) (fun _ _ z=>by cases z) (dm.keep (c:=.scr ns) (fp:=[]) h3 o (fun _ _=>rfl) (fun _ _ _ e=>e)) r
       |exc n=>exact .oth (fun _ z=>by cases z) (fun _ _ z=>by cases z) (dm.keep (c:=.exc n) (fp:=[]) h3 o (fun _ _=>rfl) (fun _ _ _ e=>e)) r
       |vw n=>exact .oth (fun _ z=>by cases z) (fun _ _ z=>by cases z) (dm.keep (c:=.vw n) (fp:=[]) h3 o (fun _ _=>rfl) (fun _ _ _ e=>e)) r
      cases c with
      |dat d=>simp only[Option.some.injEq,Prod.mk.injEq]at e;rw[<-e.1,<-e.2];exact other (fun _ _ z=>by cases z)
      |scr ns=>simp only[Option.some.injEq,Prod.mk.injEq]at e;rw[<-e.1,<-e.2];exact other (fun _ _ z=>by cases z)
      |exc n=>simp only[Option.some.injEq,Prod.mk.injEq]at e;rw[<-e.1,<-e.2];exact other (fun _ _ z=>by cases z)
      |vw n=>simp only[Option.some.injEq,Prod.mk.injEq]at e;rw[<-e.1,<-e.2];exact other (fun _ _ z=>by cases z)
      |own io b=>
       by_cases L:g.any (fun p=>p.1==j)=true
       .simp only[if_pos L]at e;cases e
       .simp only[if_neg L,Option.some.injEq,Prod.mk.injEq]at e;rw[<-e.1,<-e.2];have M:∀p∈g,p.1≠j:=fun p hp z=>L (List.any_eq_true.mpr ⟨p,hp,by simp[z]⟩);obtain⟨a,fp,O2,Q,R,t3,S,t5,t6,t7⟩:=m.take (i:=j) (io:=io) (b:=b) (by rw[KD M];exact w);rw[y]at Q;have ev:E = .ref a:=by cases Q;rfl
        subst ev;rw[Fx.plus_plus]at R;refine⟨fp::f,O2,R,.own t3 (r.mono S),o.trans S,t5.trans B,fun x A=>?_,.own y t7 (List.getElem?_eq_some_iff.mp w).1 D⟩;rcases List.mem_append.mp A with A |A
        .exact t6 x A
        .exact C x A
theorem qP(u:fb Y F n m o p):∀{d e U O},U.length=n->ay K (F.plus (e.flatten++fp)) H Y U O->aP H O m o d e->(∀a∈e.flatten,a∈F.A₀\/F.H₀ a=none)->
  ∃O',ay K (F.plus fp) H Y (eg p d U) O'/\aH O H O' H:=by
 induction u with
 |nil=>intro d e U O h st f k;cases f;exact⟨O,st,.refl⟩
 |skip g _ q=>
  intro d e U O h st f k;cases f with
  |skip _ f=>exact q h st f k
  |own _ _=>exact absurd rfl (g _ _)
 | @own a io b j m o p h1 h2 h3 u q=>
  intro d e U O h st f k;cases f with
  |skip g _=>exact absurd rfl (g _ _)
  | @own _ _ _ A f1 _ _ bs B hb f=>
   have r:ay K ((F.plus (B.flatten++fp)).plus f1) H Y U O:=by rw[Fx.plus_plus,<-List.append_assoc];exact st
   obtain⟨G,l,w⟩:=ay.put1 (io:=true) (c:=.own io A) (v:=.ref a) (i:=j) r ⟨a,rfl,hb⟩ (fun x s=>k x (by rw[List.flatten_cons];exact aR _ s)) (by rw[h];exact h3) (fun b z=>by cases z;rw[h2 rfl];rfl);have C:Y.set j (some (.ref a))=Y:=by
    apply List.ext_getElem?;intro i
    by_cases y:i=j
    .subst y;rw[List.getElem?_set_self (List.getElem?_eq_some_iff.mp h1).1,h1]
    .rw[List.getElem?_set_ne (Ne.symm y)]
   rw[C]at l;obtain⟨D,t,E⟩:=q (by rw[List.length_set];exact h) l (f.mono w) (fun x s=>k x (by rw[List.flatten_cons];exact aT _ s));exact⟨D,t,w.trans E⟩
end
def gk(f:FM)(E:Str->ag->Prop)(Q:ae->ag->Prop)(as:List AX)(U:ag):Prop:=match gH U as with
 |some (d,b)=>(match f d with
  |.rt c a=>Q c (eg b a (eZ b U))
  |.ex c a=>E c (eg b a (eZ b U))
  |.bad=>False)
 |none=>False
def uz(f:FM)(E:Str->ag->Prop)(t:gG):hU:=fun U Q=>t U fun as a=>gk f E Q as a
theorem yE(h:∀c d,Q c d->b c d)(q:gk f E Q as U):gk f E b as U:=by
 unfold gk at q ⊢;split
 .rename_i i j e;rw[e]at q;simp only at q;split
  .rename_i a;rw[a]at q;exact h _ _ q
  .rename_i a;rw[a]at q;exact q
  .rename_i a;rw[a]at q;exact q
 .rename_i e;rw[e]at q;exact q
theorem uA{Y:St}(hx:dc X F E)(G:bJ X.prog X.w X.K X.mg X.base (cx X.prog X.w) k g fd ps (cW X.K X.mg f))(hr:ba k X.A)(hb:fM X.K fd ps [])
  (I:Inv X m Y H s) (r:bi vs us) (st:ay X.K F H Y U O) (ax:cQ Y (ao O H) vs as) (q:gk f E QC as U) (hQ:∀c L,QC c L->∀v b S M,gi X.K F b Y L S v c M->aH O H S b->Q v b) :
  wpAny (model X.prog X.w) X.A (call (.ref g) us) (EP X m Y Q) X.xe s:=by
 unfold gk at q;cases hc:gH U as with
 |none=>rw[hc]at q;exact q.elim
 |some p=>
  obtain⟨cs,js⟩:=p;rw[hc]at q;simp only at q;obtain⟨i,O2,T,ar,s1,a6,nw,ja⟩:=qO st as vs cs js hc ax;obtain⟨W,y,Z⟩:=id T;have a2:(W.flatten++(i.flatten++F.O₀)).Nodup:=y.nd;have l:∀a,a∈O2↔a∈i.flatten++(W.flatten++F.O₀):=fun a=>by
   rw[Z];show a∈W.flatten++(i.flatten++F.O₀)↔_;simp only[List.mem_append];constructor
   .rintro(h |h |h)<;>simp[h]
   .rintro(h |h |h)<;>simp[h]
  have perm:(i.flatten++(W.flatten++F.O₀)).Perm (W.flatten++(i.flatten++F.O₀)):=by rw[<-List.append_assoc,<-List.append_assoc];exact List.Perm.append_right _ List.perm_append_comm
  have a0:(i.flatten++(W.flatten++F.O₀)).Nodup:=perm.nodup_iff.mpr a2;have a3:aH O2 H (i.flatten++(W.flatten++F.O₀)) H:=eX fun a h=>(l a).mpr h;have N:∀(b:Hp) (n:List Addr) (a:Addr),(a∈n++(W.flatten++F.O₀))->a∈n\/(a∈O2/\a∉i.flatten):=fun b n a h=>by
   rcases List.mem_append.mp h with h |h
   .exact .inl h
   .refine .inr ⟨(l a).mpr (aT _ h),fun z=>?_⟩;exact(List.nodup_append.mp a0).2.2 a z a h rfl
  have j:∀(b:Hp) (n:List Addr),gj H b i.flatten n (W.flatten++F.O₀)->∃B,ay X.K (F.plus n) b Y (eZ js U) B/\aH O2 H B b/\∀a,a∈B↔a∈n++(W.flatten++F.O₀):=fun b n t=>by
   obtain⟨B,t1,t2,t3,t4,t5⟩:=T.swap (H':=b) (L':=n) t.keep (List.nodup_append.mp t.nd).1 t.new nw t.live;refine⟨B,t1,t2,fun a=>⟨fun h=>?_,fun h=>?_⟩⟩
   .rcases t4 a h with z |⟨z1,z2⟩
    .exact aR _ z
    .rcases List.mem_append.mp ((l a).mp z1) with z |z
     .exact absurd z z2
     .exact aT _ z
   .rcases N b n a h with z |⟨z1,z2⟩
    .exact t3 a z
    .exact t5 a z1 z2
  have r2:bi (vs++[]) (us++[]):=by rw[List.append_nil,List.append_nil];exact r
  let EX:XK:=fun C _ b=>∃c L S,X.mg c=some C/\ay X.K F b Y L S/\E c L;have sp:cW X.K X.mg f vs H Q EX:=by
   refine⟨hx.1.at st,cs,i,W.flatten++F.O₀,ar.mono a3,a0,fun a h=>?_,?_⟩
   .exact y.live a (by have:=(l a).mpr h;rw[Z]at this;exact this)
   .cases hf:f cs with
    |bad=>rw[hf]at q;exact q
    |rt c a1=>
     rw[hf]at q;simp only at q ⊢;intro v b M d a4 R t;obtain⟨B,t1,t2,t3⟩:=j b (d.flatten++M) t;have D:aH (d.flatten++M++(W.flatten++F.O₀)) b B b:=eX fun a h=>(t3 a).mp h;have J:∀a∈d.flatten++M,a∈F.A₀\/F.H₀ a=none:=fun a h=>by
      rcases t.new a h with z |z
      .exact nw a z
      .by_cases hA:a∈F.A₀
       .exact .inl hA
       .refine .inr ?_;cases e:F.H₀ a with
        |none=>rfl
        |some o=>have:=y.kept a o hA e;rw[z]at this;cases this
     have lj:(eZ js U).length=U.length:=qN;obtain⟨O4,u1,u2⟩:=qP (fp:=M) ja lj t1 (R.mono D) fun a h=>J a (aR _ h);exact hQ c _ q v b O4 M ⟨u1,a4.keep (D.trans u2) (fun _ _=>rfl) (fun _ _ _ e=>e),fun a h=>J a (aT _ h)⟩ (s1.trans (t2.trans u2))
    |ex c a1=>
     rw[hf]at q;simp only at q ⊢;intro C b d hm R t;obtain⟨B,t1,t2,t3⟩:=j b d.flatten t;have D:aH (d.flatten++(W.flatten++F.O₀)) b B b:=eX fun a h=>(t3 a).mp h;have J:∀a∈d.flatten,a∈F.A₀\/F.H₀ a=none:=fun a h=>by
      rcases t.new a h with z |z
      .exact nw a z
      .by_cases hA:a∈F.A₀
       .exact .inl hA
       .refine .inr ?_;cases e:F.H₀ a with
        |none=>rfl
        |some o=>have:=y.kept a o hA e;rw[z]at this;cases this
     have lj:(eZ js U).length=U.length:=qN;obtain⟨O4,u1,u2⟩:=qP (fp:=[]) ja lj (by rw[List.append_nil];exact t1) (R.mono D) J;exact⟨c,_,O4,hm,u1,q⟩
  have hl:(us++[]).length=ps.length:=by rw[List.append_nil,<-r.length];exact G.len _ _ _ _ sp
  refine wpAny_call (codeAny_mono (G.run X.A X.stack s H ⟨us,[]⟩ us vs Q EX hr I.env0 (by have:=hb s us I.kIn hl;rw[List.append_nil]at this;exact this) r sp) fun r s' hq=>?_);cases r with
  |error e=>obtain⟨a,C,b,e1,I',cv,ex,c,L,S,hm,a5,hE⟩:=I.flies hq;exact hx.2 m Y b s' e c L S ⟨I',a,C,s.heap,_,e1,cv,ex,hm⟩ a5 hE
  |ok fl=>
   cases fl with
   |ret u=>exact I.after hq
   |next=>exact False.elim hq
   |brk=>exact False.elim hq
   |cont=>exact False.elim hq
theorem KE{pos:Pos}{p:Pos}(N:dc X F E)(G:bJ X.prog X.w X.K X.mg X.base (cx X.prog X.w) k g fd ps (cW X.K X.mg f))(R:ba k X.A)(S:Gl X x)(T:X.mg x=some (.ref g))(Z:keepIn X.K (.ref g)=true)(hb:fM X.K fd ps [])
  (t:DX X F (e::es) tX) (u:autoParam ((x==("__debug__":Str))=false) Zr._auto_1) (he:autoParam (starEach (e::es) X.env=(false,eval e X.env)::starEach es X.env) Zq._auto_1) (y:autoParam ((backTo pos (starEach es X.env)).any (·.1)=false) Zq._auto_1) :
  DO X F (.Call (.Name x p) (e::es) [] pos) (uz f E tX):=by
 refine⟨fun U Q Q' k q=>t.mn _ _ _ (fun as b i=>yE k i) q,fun j s Y H Q I l=>?_⟩;obtain⟨U,O,st,q⟩:=l;refine wpAny_Call_Name_kw (lx I S T ?_ u);refine callWith_K (h₀:=X.base) I.ok.mod.kin Z (aQ (t.pa pos j s Y H (fun z m=>∃as b d,ay X.K F m Y b d/\aH O H d m/\cQ Y (ao d m) z as/\gk f E (fun c J=>∀v n o B,gi X.K F n Y J o v c B->aH O H o n->Q v n) as b) I ⟨U,O,st,t.mn _ _ _ (fun as b i z m d a L C=>⟨as,b,d,a,L,C,i⟩) q⟩) fun us L M=>⟨by obtain⟨_,_,I1,_⟩:=M;exact I1.kIn,?_⟩) he y;obtain⟨z,m,I1,r,as,b,d,a,D,C,i⟩:=M;exact uA N G R hb I1 r a C i fun c J h v n o B res s2=>h v n o B res (D.trans s2)
def kf(H:Hp)(O:List Addr):Prop:=∀a∈O,∃o,H a=some o/\Mv o
theorem kf.nofree(h:kf H O):∀p,H p=none->p∉O:=fun p a z=>by obtain⟨o,e,_⟩:=h p z;rw[a]at e;cases e
theorem ay.live{K}(st:ay K F H Y U O):kf H O:=by obtain⟨W,h,rfl⟩:=st;exact h.live
abbrev eh:=ag->(List PyData->ag->Prop)->Prop
def Wk(O:List Addr)(H:Hp)(J:It)(c:List PyData):Prop:=∀e b,aH O H e b->kf b e->
 (∀i d,c[i]? = some d->J.go i b/\∀x a,J.yld i b x a->bQ b a/\DV (ao e a) x d)/\J.stop c.length b
def oF(K:Frag)(F:Fx)(s:eh):TI:=fun Y H R=>∃U O,ay K F H Y U O/\s U fun b d=>∀J a c,ay K F a Y d c->aH O H c a->Wk c a J b->R J a
structure DI (X:Cx) (F:Fx) (tg iter:Expr) (s:eh):Prop where
 mn:∀U Q Q',(∀d U',Q d U'->Q' d U')->s U Q->s U Q'
 pi:PI X tg iter (oF X.K F s)
theorem _root_.L2.PI.imp(h:PI X b e t)(k:∀Y H Q,t' Y H Q->t Y H Q):PI X b e t':=fun a s Y H Q I q=>h a s Y H Q I (k Y H Q q)
def iL(te:DT):eh:=fun U Q=>te U fun d f=>∃c,d=.list c/\Q c f
def iT(te:DT):eh:=fun U Q=>te U fun d f=>∃c,d=.tuple c/\Q c f
theorem KG{K}(k:ao O H a=some (.lst c))(hd:aC (ao O H) c j):Wk O H (tx K a) j:=fun t u s ok=>by obtain⟨r,l⟩:=cV k;have h2:=s.keep a _ l r;have f:=aC.mono s.hid hd;refine⟨fun i d e=>?_,⟨c,.of h2,by rw[hd.length];exact bG _⟩⟩;obtain⟨v,g,m⟩:=f.get e;refine⟨⟨c,v,.of h2,g⟩,fun x n ⟨o,q⟩=>?_⟩;subst o;have:=q c (.of h2);rw[g]at this;cases this;exact⟨fun _ _ h=>h,m⟩
theorem KH{K}(l:Rd (ao O H) a (.tup c))(hd:aC (ao O H) c k):Wk O H (tz K a) k:=fun w m s ok=>by
 obtain⟨u,g⟩:=jv l;have h2:Rd m a (.tup c):=u.imp (fun e=>s.keep a _ g e) fun⟨o,e⟩=>⟨o,s.keep a _ g e⟩
 have f:=aC.mono s.hid hd;refine⟨fun i d e=>?_,⟨c,.inl h2,by rw[hd.length];exact bG _⟩⟩;obtain⟨v,j,n⟩:=f.get e;refine⟨⟨c,v,.inl h2,j⟩,fun x q ⟨r,t⟩=>?_⟩;subst r;have:=t c (.inl h2);rw[j]at this;cases this;exact⟨fun _ _ h=>h,n⟩
theorem KJ(h:DE X F e te):DI X F tg e (iL te):=
 ⟨fun _ _ _ k q=>h.mn _ _ _ (fun _ _ c=>by obtain⟨l,e,q⟩:=c;exact⟨l,e,k _ _ q⟩) q,(GD h.pe).imp fun Y H R f=>by obtain⟨U,O,st,q⟩:=f;exact 
  ⟨U,O,st,h.mn _ _ _ (fun d u g v m n i o r=>by
   obtain⟨l,e,s⟩:=g;subst e;obtain⟨a,t,rfl,j,hd⟩:=r.lst_inv;exact⟨a,rfl,⟨t,.of (cV j).1⟩,s _ m n i o (KG j hd)⟩) q⟩⟩
theorem KL(h:DE X F e te):DI X F tg e (iT te):=
 ⟨fun _ _ _ k q=>h.mn _ _ _ (fun _ _ c=>by obtain⟨l,e,q⟩:=c;exact⟨l,e,k _ _ q⟩) q,(GG h.pe).imp fun Y H R f=>by obtain⟨U,O,st,q⟩:=f;exact 
  ⟨U,O,st,h.mn _ _ _ (fun d u g v m n i o r=>by
   obtain⟨l,e,s⟩:=g;subst e;obtain⟨a,t,rfl,j,hd⟩:=r.tup_inv;exact⟨a,rfl,⟨t,.inl (jv j).1⟩,s _ m n i o (KH j hd)⟩) q⟩⟩
noncomputable def intsFrom(lo:Int)(n:Nat):List PyData:=(List.range n).map fun(i:Nat)=>PyData.int (lo+i)
theorem qQ(lo n):(intsFrom lo n).length=n:=by unfold intsFrom;rw[List.length_map,List.length_range]
theorem KM{lo}:Wk O H (qt lo n) (intsFrom lo n):=fun q r s ok=>by refine⟨fun i d e=>?_,by show n<=(intsFrom lo n).length;rw[qQ];exact bG _⟩;unfold intsFrom at e;rw[List.getElem?_map]at e;obtain⟨j,g,k⟩:=Option.map_eq_some_iff.mp e;obtain⟨c,f⟩:=List.getElem?_eq_some_iff.mp g;rw[List.length_range]at c;rw[List.getElem_range]at f;subst f k;exact⟨c,fun x l ⟨m,o⟩=>by subst m o;exact⟨fun _ _ h=>h,.int _⟩⟩
def yF(t:ef):eh:=fun U Q=>t U fun d c=>∃j:Int,d=[.int j]/\-(2 ^ 62)<=j/\j<2 ^ 62/\Q (intsFrom 0 j.toNat) c
theorem oG(l:Gl X "range")(m:X.mg "range" = none)(h:DA X F [a] tA)(n:autoParam (starEach [a] X.env=[(false,eval a X.env)]) Zq._auto_1):DI X F tg (.Call (.Name "range" p) [a] [] pos) (yF tA):=
 ⟨fun _ _ _ k q=>h.mn _ _ _ (fun _ _ c=>by obtain⟨j,e,h1,h2,q⟩:=c;exact⟨j,e,h1,h2,k _ _ q⟩) q,(GK l m h.pa n).imp fun Y H R f=>by obtain⟨U,O,st,q⟩:=f;exact 
  ⟨U,O,st,h.mn _ _ _ (fun y w g x o s i t u=>by
   obtain⟨j,e,h1,h2,v⟩:=g;subst e;cases u with
   |cons d r=>
    cases r;obtain rfl:=d.int_inv;exact⟨j,rfl,h1,h2,v _ o s i t KM⟩) q⟩⟩
noncomputable def numbered(c:List PyData):List PyData:=c.mapIdx fun i d=>PyData.tuple [.int i,d]
def iE(t:ef):eh:=fun U Q=>t U fun f d=>∃c,f=[.list c]/\Q (numbered c) d
theorem KN(E:Gl X "enumerate")(G:X.mg "enumerate" = none)(t:DA X F [a] tA)(I:autoParam (starEach [a] X.env=[(false,eval a X.env)]) Zq._auto_1):DI X F (.Tuple c D f) (.Call (.Name "enumerate" p) [a] [] pos) (iE tA):=
 ⟨fun _ _ _ k q=>t.mn _ _ _ (fun _ _ g=>by obtain⟨j,e,q⟩:=g;exact⟨j,e,k _ _ q⟩) q,(Jf E G t.pa I).imp fun Y H R h=>by obtain⟨U,O,st,q⟩:=h;exact 
  ⟨U,O,st,t.mn _ _ _ (fun ds U1 l vs J L u M N=>by
   obtain⟨es,e,w⟩:=l;subst e;cases N with
   |cons d r=>
    cases r;obtain⟨a,o,rfl,Q,hd⟩:=d.lst_inv;obtain⟨m,z⟩:=cV Q;refine⟨a,o,rfl,.of m,w _ J L u M fun O' H' s ok=>?_⟩;have h2:=s.keep a _ z m;have A:=aC.mono s.hid hd;refine⟨fun i d e=>?_,⟨o,.of h2,by unfold numbered;rw[List.length_mapIdx,hd.length];exact bG _⟩⟩;unfold numbered at e;rw[List.getElem?_mapIdx]at e;obtain⟨d0,S,Z⟩:=Option.map_eq_some_iff.mp e;subst Z;obtain⟨v,C,dv⟩:=A.get S;refine⟨⟨o,v,.of h2,C⟩,fun x a0 n=>?_⟩;obtain⟨T,y,w,B,q3,q4⟩:=n;subst w q3;have:=q4 o (.of h2);rw[C]at this;cases this;exact⟨ca B,mQ B (ok.nofree T B) (.cons (.int _) (.cons dv .nil))⟩) q⟩⟩
noncomputable def cb(d c:List PyData):List PyData:=(d.zip c).map fun q=>PyData.tuple [q.1,q.2]
def KO(s:eh)(g:eL)(c:em):em:=fun D U=>s U fun a e=>∃b:Nat->ag->Prop,b 0 e/\(∀i d U,a[i]? = some d->b i U->g d U fun f=>c { D with nx:=b (i+1),ct:=b (i+1),bk:=D.nx } f)/\∀U,b a.length U->D.nx U
theorem KP(hp:PassesOwn (model X.prog X.w) X.A X.env X.xe)(hc:X.calm=true)(hi:DI X F tg iter s)(hg:DG X F tg g)(hb:gD X F body tb)(hs:autoParam (∀x,foldedSetIterable iter X.env x=pure x) Zs._auto_1):DS X F (.For tg iter body [] pos) (KO s g tb):=
 (GO hp hc hi.pi hg.pg hb hs).imp fun D Y H y=>by
  obtain⟨U,O,DD,st,q,f⟩:=y;refine⟨U,O,st,hi.mn _ _ _ (fun a U1 z J N B R S wk=>?_) q⟩;obtain⟨Q,i0,step,fin⟩:=z;refine⟨fun i m T C=>∃l u,ay X.K F C T l u/\aH B N u C/\Q i l/\i<=a.length/\m=a.length - i,⟨a.length,U1,B,R,.refl,i0,Nat.zero_le _,rfl⟩,?_⟩;rintro i m T C ⟨l,u,n,Z,iv,a4,rfl⟩;obtain⟨w1,w2⟩:=wk u C Z n.live
  by_cases o:i<a.length
  .obtain⟨go,yld⟩:=w1 i a[i] (List.getElem?_eq_getElem o);refine .inr ⟨go,fun Y2 E=>∃c p,ay X.K F E Y2 c p/\aH B N p E/\Q (i+1) c,fun Y2 E G=>by obtain⟨c,p,a0,s2,a1⟩:=G;exact⟨a.length - (i+1),by lia,c,p,a0,s2,a1,o,rfl⟩,fun x E hy=>?_⟩;obtain⟨sm,dv⟩:=yld x E hy;refine⟨l,u,a[i],n.grow sm,dv,hg.mn _ _ _ _ (fun c q2 Y3 H3 O3 a2 s3=>?_) (step i a[i] l (List.getElem?_eq_getElem o) iv)⟩;have r:aH B N O3 H3:=Z.trans ((aH.same sm).trans s3);have I:∀t h j k,ay X.K F h t j k->aH O3 H3 k h->Q (i+1) j->∃c p,ay X.K F h t c p/\aH B N p h/\Q (i+1) c:=fun t h j k b L M=>⟨j,k,b,r.trans L,M⟩
   exact⟨c,O3,_,a2,q2,⟨I,fun v t h d j k a3 b L M=>f.rt v t h d j k a3 b (S.trans (r.trans L)) M,fun t h j k b L M=>f.nx t h j k b (S.trans (r.trans L)) M,I⟩⟩
  .have e:i=a.length:=by lia
   subst e;exact .inl ⟨w2,f.nx T C l u n (S.trans Z) (fin l iv)⟩
@[simp]noncomputable def qR:Option (Option ae)->Option ae
 |some (some (.dat d))=>some (.dat d)
 |some (some (.scr ns))=>some (.scr ns)
 |some (some (.vw b))=>some (.vw b)
 |_=>none
def dE(own:List Str)(a:List Nat)(U:ag):ag:=own.map (fun _=>none)++a.map fun j=>qR U[j]?
def oH(own:List Str)(f:List Nat)(s:eh)(g:eL)(l:cN)(m:DT):DT:=fun U Q=>s U fun c j=>∃e:Nat->List PyData->ag->Prop,e 0 [] (dE own f j)/\
 (∀i d a h,c[i]? = some d->e i a h->g d h fun n=>l n fun b k=>if b=true then m k fun y o=>a.length<sizeLine/\e (i+1) (a++[y]) o else e (i+1) a k)/\
 ∀a h,e c.length a h->a.length<=sizeLine/\Q (.list a) j
def kg(s:eh):Prop:=∀U Q a,(∀d b,Q d b->a d b)->s U Q->s U a
theorem uB(d:kg s):Mn (oH own caps s g tc te):=fun _ _ _ k q=>d _ _ _ (fun _ _ a=>by obtain⟨e,f,h1,h2⟩:=a;exact⟨e,f,h1,fun b c h=>⟨(h2 b c h).1,k _ _ (h2 b c h).2⟩⟩) q
theorem yG{K:Frag}{Z:Fx->Prop}(hP:∀u Y w k O2,ay K F u Y w k->Z ⟨u,[],O2,fun _=>0⟩)(hs:kg s)(hg:∀d U Q Q',(∀n,Q n->Q' n)->g d U Q->g d U Q')(ht:iN tc)(he:Mn te):∀Y  H  Q,(∃U O,ay K F H Y U O/\s U fun f w=>∃G:Nat->List PyData->ag->Prop,G 0 [] (dE own caps w)/\
   (∀i d r n,f[i]? = some d->G i r n->g d n fun U2=>tc U2 fun b L=>if b=true then te L fun y U4=>r.length<sizeLine/\G (i+1) (r++[y]) U4 else G (i+1) r L)/\
   ∀r n,G f.length r n->r.length<=sizeLine/\∀t A vs p,ay K F t Y w A->aH O H A t->aC (ao A t) vs r->t p=none->Q (.ref p) (aB t p (.lst vs)))->
  jZ own caps (oF K F s) (fun v Y H Q=>∃D,Z D/\mR K D g v Y H Q) (fun Y H Q=>∃D,Z D/\jz K D tc Y H Q) (fun Y H Q=>∃D,Z D/\gb K D te Y H Q) Y H Q:=fun Y H Q M=>by
 obtain⟨U,O,st,q⟩:=M;refine⟨U,O,st,hs _ _ _ (fun f w N J u k l s1 wk=>?_) q⟩;obtain⟨G,i0,step,fin⟩:=N;refine⟨fun i m r Y' t=>∃n A E,ay K ⟨u,[],k,fun _=>0⟩ t Y' n A/\G i E n/\aC (ao A t) r E/\i<=f.length/\m=f.length - i,⟨f.length,dE own caps w,k,[],?_,i0,.nil,Nat.zero_le _,rfl⟩,?_⟩
 .have cell:∀(i:Nat) (c:ae),(dE own caps w)[i]? = some (some c)->(∀io b,c≠.own io b)/\∃v,(ej own caps Y)[i]? = some (some v)/\dm K u k v c []:=fun i c e=>by
   unfold dE at e;unfold ej
   by_cases hi:i<own.length
   .rw[List.getElem?_append_left (by simpa using hi),List.getElem?_map]at e;cases h:own[i]? with
    |none=>rw[h]at e;cases e
    |some y=>rw[h]at e;cases e
   .rw[List.getElem?_append_right (by simpa using Nat.le_of_not_lt hi),List.length_map,List.getElem?_map]at e;rw[List.getElem?_append_right (by simpa using Nat.le_of_not_lt hi),List.length_map,List.getElem?_map];obtain⟨j,h1,h2⟩:=Option.map_eq_some_iff.mp e;rw[h1];show _/\∃v,some ((Y[j]?).getD none)=some (some v)/\_;cases h3:w[j]? with
    |none=>rw[h3]at h2;cases h2
    |some o=>
     cases o with
     |none=>rw[h3]at h2;cases h2
     |some c'=>
      rw[h3]at h2;obtain⟨W,I,rfl⟩:=id l;obtain⟨v,fp,e1,_,R⟩:=I.at_ j c' h3;rw[e1];cases c' with
      |dat d=>cases h2;exact⟨(fun _ _ z=>by cases z),v,rfl,R⟩
      |scr ns=>cases h2;exact⟨(fun _ _ z=>by cases z),v,rfl,R⟩
      |own _ _=>cases h2
      |exc _=>cases h2
      |vw b=>cases h2;exact⟨(fun _ _ z=>by cases z),v,rfl,R⟩
  obtain⟨W,I,a0⟩:=id l;have ln:(dE own caps w).length=(ej own caps Y).length:=by unfold dE ej;simp
  have fl:(List.replicate (dE own caps w).length ([]:List Addr)).flatten++k=k:=by rw[mS];rfl
  refine⟨List.replicate (dE own caps w).length [],⟨fun i c e=>?_,by show(_++k).Nodup;rw[fl,a0];exact I.nd,fun _ _ _ h=>h,fun a h=>?_,by show kf u (_++k);rw[fl];exact l.live,ln,by simp,fun i b e=>absurd rfl ((cell i _ e).1 true b)⟩,fl.symm⟩
  .obtain⟨_,v,e1,R⟩:=cell i c e;refine⟨v,[],e1,?_,by show dm K u (_++k) v c [];rw[fl];exact R⟩;rw[List.getElem?_replicate,if_pos (List.getElem?_eq_some_iff.mp e).1]
  .rw[mS]at h;cases h
 .rintro i m r Y' t ⟨n,A,E,B,iv,dv,hi,rfl⟩;have sm:bQ u t:=fun b o e=>by obtain⟨W',h',_⟩:=id B;exact h'.kept b o (by simp) e
  have a1:aH k u A t:=⟨fun b o _ e=>sm b o e,fun a h=>by
   obtain⟨W',h',rfl⟩:=id B;rcases List.mem_append.mp h with h |h
   .exact(h'.new a h).elim (fun z=>absurd z (by simp)) .inr
   .exact .inl h⟩
  have S:∀a∈k,a∈A:=fun a h=>by obtain⟨W',h',rfl⟩:=id B;exact aT _ h
  obtain⟨w1,w2⟩:=wk A t a1 B.live
  by_cases C:i<f.length
  .obtain⟨go,yld⟩:=w1 i f[i] (List.getElem?_eq_getElem C);refine .inr ⟨go,fun x H2 hy=>?_⟩;obtain⟨T,dx⟩:=yld x H2 hy;refine⟨⟨u,[],k,fun _=>0⟩,hP _ _ _ _ _ l,n,A,f[i],B.grow T,dx,hg _ _ _ _ (fun U2 q2 Y3 H3 O3 a2 s3=>?_) (step i f[i] E n (List.getElem?_eq_getElem C) iv)⟩;refine⟨⟨u,[],k,fun _=>0⟩,hP _ _ _ _ _ l,U2,O3,a2,ht _ _ _ (fun b L q3 H4 O4 X s4=>?_) q2⟩;have d4:aC (ao O4 H4) r E:=aC.mono s4.hid (aC.mono s3.hid (aC.mono (lD T) dv));cases b with
   |false=>exact eI ⟨f.length - (i+1),by lia,L,O4,E,X,jy q3,d4,C,rfl⟩
   |true=>refine eJ ⟨⟨u,[],k,fun _=>0⟩,hP _ _ _ _ _ l,L,O4,X,he _ _ _ (fun y U4 q4 v H5 O5 a3 s5 dy=>?_) (jx q3)⟩;refine⟨by rw[d4.length];exact q4.1,f.length - (i+1),by lia,U4,O5,E++[y],a3,q4.2,(aC.mono s5.hid d4).append (.cons dy .nil),C,rfl⟩
  .have e:i=f.length:=by lia
   subst e;obtain⟨hz,q⟩:=fin E n iv;exact .inl ⟨w2,by rw[dv.length];exact hz,fun p hp=>q t k r p (l.grow sm) (s1.trans (.same sm)) (aC.mono (lE S) dv) hp⟩
theorem yH{K:Frag}{i:Fx->Prop}(t:∀k Y l u w,ay K F k Y l u->i ⟨k,[],w,fun _=>0⟩)(m:kg s)(x:∀d U Q n,(∀c,Q c->n c)->g d U Q->g d U n)(y:iN tc)(A:Mn te):∀Y H Q,gb K F (oH own caps s g tc te) Y H Q->
  jZ own caps (oF K F s) (fun v Y H Q=>∃a,i a/\mR K a g v Y H Q) (fun Y H Q=>∃a,i a/\jz K a tc Y H Q) (fun Y H Q=>∃a,i a/\gb K a te Y H Q) Y H Q:=fun Y H Q z=>by
 obtain⟨U,O,st,q⟩:=z;refine yG t m x y A Y H Q ⟨U,O,st,m _ _ _ (fun B l z=>?_) q⟩;obtain⟨C,D,step,fin⟩:=z;exact⟨C,D,step,fun r c h=>⟨(fin r c h).1,fun J E L p f G I j=>(fin r c h).2 (.ref p) _ E (f.grow fun b o e=>ca j _ _ e) (G.trans (.same fun b o e=>ca j _ _ e)) (mP j (f.nofree p j) I)⟩⟩
def mT(X:Cx)(F:Fx)(a:List Expr)(t:cN):Prop:=iN t/\mK X a (jz X.K F t)
def KQ:cN:=fun U Q=>Q true U
theorem KR:mT X F [] KQ:=⟨fun _ _ _ k q=>k _ _ q,fun a s Y H Q I b=>by obtain⟨U,O,st,q⟩:=b;exact IJ a s Y H Q I (q H O st .refl)⟩
theorem KS(h:DB X F c t):mT X F [c] t:=⟨h.mn,IK h.pt⟩
theorem KU(k:GF X.mg F)(S:al X scope own capN caps)(l:X.calm=true)(j:DI X F tg iter s)
  (c:∀C d e f h b,GF X.mg b->DG (bU X scope (own++capN) C d e f h) b tg g/\mT (bU X scope (own++capN) C d e f h) b ifs tc/\DE (bU X scope (own++capN) C d e f h) b elt te)
  (m:autoParam (∀x,foldedSetIterable iter X.env x=pure x) Zs._auto_1):DE X F (.ListComp elt [⟨tg,iter,ifs,0⟩] scope pos) (oH own caps s g tc te):=by
 have t:Fx:=F;obtain⟨n,o,p⟩:=c 0 [] (PySem.start X.prog).1 (fun _=>none) [] F k;refine⟨uB j.mn,(qE S l j.pi (fun C d e f h=>⟨fun a s Y H v u Q I r ⟨b,i,q⟩=>(c C d e f h b i).1.pg a s Y H v u Q I r q,fun a s Y H Q I ⟨b,i,q⟩=>(c C d e f h b i).2.1.2 a s Y H Q I q,fun a s Y H Q I ⟨b,i,q⟩=>(c C d e f h b i).2.2.pe a s Y H Q I q⟩) m).imp (yH (fun _ _ _ _ _ st=>k.into st) j.mn n.mn o.1 p.mn)⟩
theorem KW{e}(z:X.N.Nodup)(n:X.N[i]? = some y)(A:gy X.env.scope y)(w:GF X.mg F)(S:al X scope own capN caps)(B:X.calm=true)(o:DI X F tg iter s)
  (c:∀C h j k l b,GF X.mg b->DG (bU X scope (own++capN) C h j k l) b tg g/\mT (bU X scope (own++capN) C h j k l) b ifs tc/\DE (bU X scope (own++capN) C h j k l) b elt te)
  (p:autoParam (swapsWith (.ListComp elt [⟨tg,iter,ifs,0⟩] scope pos) (some (.Name y py)) e.line X.env=pure true) Zq._auto_1)
  (E:autoParam (∀x,foldedSetIterable iter X.env x=pure x) Zs._auto_1) (G:X.fn y=true\/X.env.scope.names.lookup y=some .local:=by first |exact .inl rfl |exact .inr rfl |assumption) :
  DS X F (.Assign [.Name y py] (.ListComp elt [⟨tg,iter,ifs,0⟩] scope pos) e) (uv (oH own caps s g tc te) (gN i)):=by
 obtain⟨J,L,M⟩:=c 0 [] (PySem.start X.prog).1 (fun _=>none) [] F w;refine(IL z n A S B o.pi (fun C h j k l=>⟨fun a s Y H v u Q I r ⟨b,m,q⟩=>(c C h j k l b m).1.pg a s Y H v u Q I r q,fun a s Y H Q I ⟨b,m,q⟩=>(c C h j k l b m).2.1.2 a s Y H Q I q,fun a s Y H Q I ⟨b,m,q⟩=>(c C h j k l b m).2.2.pe a s Y H Q I q⟩) p E G).imp
  fun D Y H ⟨U,O,DD,st,q,f⟩=>yH (fun _ _ _ _ _ st=>w.into st) o.mn J.mn L.1 M.mn Y H _ ⟨U,O,st,uB o.mn _ _ _ (fun d U1 R v T Z t s1 d1=>f.nx _ T _ Z (t.set d1) s1 R) q⟩
end L2.L3
namespace L2
open PySem PySem.Spec PyProof.Rows
theorem Inv.track{Y:St}(I:Inv X pins Y H s)(f:gY X pins H a)(new:cI X.prog X.w (aB H a o) s.heap a o):Inv X pins Y (aB H a o) s:=by
 have g:=f.1;refine I.step (h':=s.heap) (g':=s.gens) (d':=s.drawn) (t':=s.toks) (ch:=[a]) (fun b h=>by obtain rfl:=List.mem_singleton.mp h;exact⟨f.2.2.2.1,f.2.1,f.2.2.2.2.1,f.2.2.2.2.2⟩) (fun b d _ _ _ e _=>e) (fun b d _ _ _ e _=>⟨d.slots,e⟩)
  (fun b d i _ n=>by rw[aV (fun z=>i (by simp[z]))];exact n) (fun b d _ e=>⟨d,e⟩) (fun b j e=>ca g b _ e) (fun b d u e=>ca g b _ e) (fun b l e=>⟨#[],by rw[ca g b _ e];simp⟩) (fun m k=>k) (fun b u e=>?_) I.bare
 by_cases h:b=a
 .subst h;rw[bP]at e;cases e;exact new
 .rw[aV h]at e;exact(I.hok b u e).stay (fun _ _ _ q=>q) (fun c q=>ca g c _ q) fun c j q=>ca g c _ q
theorem oI(r:bi [x,y,z] a):∃u v w,a=[u,v,w]/\bq x u/\bq y v/\bq z w:=by
 cases r with
 |cons b r=>cases r with
  |cons c r=>cases r with
   |cons d r=>cases r;exact⟨_,_,_,rfl,b,c,d⟩
def KY(t:TA):TE:=fun Y H Q=>t Y H fun n d=>∃k l m e g h,n=[.ref k,.ref l,.ref m]/\d k=some (.lst e)/\d l=some (.lst g)/\d m=some (.lst h)/\g.length=e.length/\h.length=e.length/\0<e.length/\
 ∀p f (j:List Addr),bQ d f->d p=none->f p=some (.lst (j.map V.ref))->j.length=e.length->(∀(i:Nat) (q:Addr),j[i]? = some q->∃x y z,e[i]? = some x/\g[i]? = some y/\h[i]? = some z/\d q=none/\f q=some (.tup [x,y,z]))->Q (.ref p) f
theorem yI:∀{acc},(∀(j:Nat)  w,acc[j]? = some w->∃T,w=Value.ref T)->∃d:List Addr,acc=d.map Value.ref
 |[],_=>⟨[],rfl⟩
 |v::r,h=>by obtain⟨T,e⟩:=h 0 v rfl;obtain⟨d,f⟩:=yI (acc:=r) fun j w e=>h (j+1) w (by simpa using e);exact⟨T::d,by rw[f,e];rfl⟩
theorem KZ(t:qF h n f g i d):∃k:List Addr,d=k.map Value.ref:=
 yI fun j w e=>by obtain⟨T,_,_,_,e,_⟩:=t j w e;exact⟨T,e⟩
theorem La{pos:Pos}{p1:Pos}(hc:X.calm=true)(c2:Gl X "list")(c3:X.mg "list" = none)(c4:Gl X "zip")(c5:X.mg "zip" = none)(ha:PA X [a,b,c] t)
  (he:autoParam (starEach [.Call (.Name "zip" p2) [a,b,c] [] pos2] X.env=[(false,eval (.Call (.Name "zip" p2) [a,b,c] [] pos2) X.env)]) Zq._auto_1)
  (hs:autoParam (starEach [a,b,c] X.env=(false,eval a X.env)::starEach [b,c] X.env) Zq._auto_1) (c6:autoParam ((backTo pos2 (starEach [b,c] X.env)).any (·.1)=false) Zq._auto_1) :
  PE X (.Call (.Name "list" p1) [.Call (.Name "zip" p2) [a,b,c] [] pos2] [] pos) (KY t):=by
 intro g s Y H Q I h;refine wpAny_Call_Name_kw (jo I c2 c3 (show bootBuiltins "list" = some (.type "list") by decide +kernel) ?_ (by decide) (by decide));refine PyProof.Rows.callWith_type1 ?_ (by rw[he];rfl) rfl;rw[he];show wpAny _ _ (spliced [(false,eval (.Call (.Name "zip" p2) [a,b,c] [] pos2) X.env)]) _ _ s;refine Calls.spliced_cons ?_;refine wpAny_Call_Name_kw (jo I c4 c5 boot_zip ?_ (by decide) (by decide));refine PyProof.Rows.callWith_type1 (aQ (ha pos2 g s Y H _ I h) fun us d U=>?_) hs c6;obtain⟨vs,B,I1,r1,q1⟩:=U;obtain⟨l1,l2,l3,A,R,S,rfl,h1,N,h3,e2,e3,e6,q⟩:=q1;obtain⟨u1,u2,u3,rfl,c7,c8,c9⟩:=oI r1;cases c7;cases c8;cases c9;obtain⟨z1,Z,n1,a0,g1⟩:=I1.hok _ _ h1;obtain⟨z2,a6,n2,a7,g2⟩:=I1.hok _ _ N;obtain⟨z3,a8,n3,a9,g3⟩:=I1.hok _ _ h3;have L1:d.heap.IsList l1 Z.toArray:=⟨_,g1,rfl,_,rfl⟩
 have b0:d.heap.IsList l2 a6.toArray:=⟨_,g2,rfl,_,rfl⟩
 have b1:d.heap.IsList l3 a8.toArray:=⟨_,g3,rfl,_,rfl⟩
 have b2:=a0.length;have e7:=a7.length;have e8:=a9.length;refine IW L1 b0 b1 fun v hz d0 d1 uW d2 d3 d4 hk=>?_;refine Calls.spliced_nil ?_;have b3:l1<d.heap.objs.size:=bv g1;have b4:l2<d.heap.objs.size:=bv g2;have b5:l3<d.heap.objs.size:=bv g3;have nd:[d.heap.objs.size+5,d.heap.objs.size+3,d.heap.objs.size+4,d.heap.objs.size,d.heap.objs.size+1,d.heap.objs.size+2].Nodup:=by generalize d.heap.objs.size=n;simp only[List.nodup_cons,List.mem_cons,List.not_mem_nil,or_false,not_or,not_false_eq_true,and_true,List.nodup_nil];refine⟨⟨?_,?_,?_,?_,?_⟩,⟨?_,?_,?_,?_⟩,⟨?_,?_,?_⟩,⟨?_,?_⟩,?_⟩<;>exact(by intro e;exact absurd (show(_:Nat)=_ from e) (by lia))
 have ge:∀j∈[d.heap.objs.size+5,d.heap.objs.size+3,d.heap.objs.size+4,d.heap.objs.size,d.heap.objs.size+1,d.heap.objs.size+2],d.heap.objs.size<=j:=fun j w=>by
  simp only[List.mem_cons,List.not_mem_nil,or_false]at w;rcases w with rfl |rfl |rfl |rfl |rfl |rfl
  .exact Nat.le_add_right _ _
  .exact Nat.le_add_right _ _
  .exact Nat.le_add_right _ _
  .exact bG _
  .exact Nat.le_add_right _ _
  .exact Nat.le_add_right _ _
 have I2:Inv X g Y B { d with heap:=v }:=I1.kept (t':=d.toks) hk;refine IX (s:={ d with heap:=v }) (I1.ok.hd hc) nd (fun l hl j w=>?_) (fun j w=>?_) hz d0 d1 uW d2 d3 (L1.at fun o e=>hk _ _ e) (b0.at fun o e=>hk _ _ e) (b1.at fun o e=>hk _ _ e)
  (by simp only[List.size_toArray];lia) (by simp only[List.size_toArray];lia) (by simp only[List.size_toArray];lia) (by simp only[List.size_toArray];lia) fun N e9 cc uX hS hl tr=>?_
 .simp only[List.mem_cons,List.not_mem_nil,or_false]at hl;rcases hl with rfl |rfl |rfl
  .exact Nat.ne_of_lt (Nat.lt_of_lt_of_le b3 (ge j w))
  .exact Nat.ne_of_lt (Nat.lt_of_lt_of_le b4 (ge j w))
  .exact Nat.ne_of_lt (Nat.lt_of_lt_of_le b5 (ge j w))
 .show j<v.objs.size;rw[d4];simp only[List.mem_cons,List.not_mem_nil,or_false]at w;generalize d.heap.objs.size=n at *;rcases w with rfl |rfl |rfl |rfl |rfl |rfl |rfl |rfl |rfl
  .exact Nat.lt_succ_self _
  .exact Nat.add_lt_add_left (show(3:Nat)<6 by decide) _
  .exact Nat.add_lt_add_left (show(4:Nat)<6 by decide) _
  .exact Nat.lt_add_of_pos_right (by decide)
  .exact Nat.add_lt_add_left (show(1:Nat)<6 by decide) _
  .exact Nat.add_lt_add_left (show(2:Nat)<6 by decide) _
  .exact Nat.lt_of_lt_of_le b3 (Nat.le_add_right _ _)
  .exact Nat.lt_of_lt_of_le b4 (Nat.le_add_right _ _)
  .exact Nat.lt_of_lt_of_le b5 (Nat.le_add_right _ _)
 .
  have kp:∀b ob,d.heap.get? b=some ob->N.get? b=some ob:=fun b ob e=>uX b ob (fun z=>absurd (ge b (by
   simp only[List.mem_cons,List.not_mem_nil,or_false]at z ⊢;rcases z with z |z |z |z |z<;>simp[z])) (Nat.not_le.mpr (bv e))) (hk b ob e)
  have I3:Inv X g Y B { d with heap:=N }:=I1.kept (t':=d.toks) kp;obtain⟨f,C⟩:=KZ tr;have big:∀b,v.objs.size<=b->gY X g B b:=fun b O=>I2.fpOk O (I2.hok.fresh O);have D:f.length=A.length:=by have:=congrArg List.length C;rw[List.length_map]at this;rw[<-this,hl,List.size_toArray];exact b2.symm
  have vq:∀f:List Addr,bi (f.map V.ref) (f.map Value.ref):=fun f=>by
   induction f with
   |nil=>exact .nil
   |cons q r ih=>exact .cons rfl ih
  have I4:Inv X g Y (aB B v.objs.size (.lst (f.map V.ref))) { d with heap:=N }:=I3.track (big _ (bG _)) ⟨by rw[List.length_map,D];exact z1,_,_,vq f,by rw[<-C];exact hS⟩;have all:∀k,k<=f.length->∃u,bQ B u/\Inv X g Y u { d with heap:=N }/\u v.objs.size=some (.lst (f.map V.ref))/\(∀b,v.objs.size<b->u b=none\/∃row,u b=some (.tup row))/\
    ∀(i:Nat) (q:Addr),i<k->f[i]? = some q->∃x y z,A[i]? = some x/\R[i]? = some y/\S[i]? = some z/\B q=none/\u q=some (.tup [x,y,z]):=fun k=>by
   induction k with
   |zero=>exact fun _=>⟨_,ca (big _ (bG _)).1,I4,bP,fun b O=>.inl (by rw[aV (Nat.ne_of_gt O)];exact(big b (Nat.le_of_lt O)).1),fun i q h=>absurd h (Nat.not_lt_zero _)⟩
   |succ k ih=>
    intro b6;obtain⟨u,sm,J,hp,E,m⟩:=ih (Nat.le_of_succ_le b6);have b7:k<f.length:=b6;have G:f[k]? = some f[k]:=List.getElem?_eq_getElem b7;obtain⟨T,x',y',u',eT,hT,b8,ex,ey,eu⟩:=tr k (.ref f[k]) (by rw[C,List.getElem?_map,G];rfl);cases eT;have p:v.objs.size<f[k]:=hT;have kx:k<A.length:=by rw[<-D];exact b7
    have vx:A[k]? = some A[k]:=List.getElem?_eq_getElem kx;have vy:R[k]? = some (R[k]'(by lia)):=List.getElem?_eq_getElem (by lia);have vz:S[k]? = some (S[k]'(by lia)):=List.getElem?_eq_getElem (by lia);obtain⟨w1,d5,d6⟩:=a0.get vx;obtain⟨w2,d7,d8⟩:=a7.get vy;obtain⟨w3,d9,e0⟩:=a9.get vz;have e1:x' = w1:=by simp only[List.getElem?_toArray]at ex;rw[d5]at ex;exact(Option.some.inj ex).symm
    have e4:y' = w2:=by simp only[List.getElem?_toArray]at ey;rw[d7]at ey;exact(Option.some.inj ey).symm
    have e5:u' = w3:=by simp only[List.getElem?_toArray]at eu;rw[d9]at eu;exact(Option.some.inj eu).symm
    subst e1 e4 e5;have rel:bi [A[k],R[k]'(by lia),S[k]'(by lia)] [x',y',u']:=.cons d6 (.cons d8 (.cons e0 .nil));have b9:B f[k]=none:=(big _ (Nat.le_of_lt p)).1;rcases E f[k] p with hn |⟨row,hr⟩
    .refine⟨aB u f[k] (.tup [A[k],R[k]'(by lia),S[k]'(by lia)]),fun b o e=>ca hn _ _ (sm b o e),J.track ⟨hn,(big _ (Nat.le_of_lt p)).2⟩ ⟨by show 3<=sizeLine;decide,_,rel,⟨_,b8,rfl,_,rfl⟩⟩,
      by rw[aV (Nat.ne_of_lt p)];exact hp,fun b O=>?_,fun i q L M=>?_⟩
     .by_cases e:b=f[k]
      .subst e;exact .inr ⟨_,bP⟩
      .rw[aV e];exact E b O
     .rcases Nat.lt_succ_iff_lt_or_eq.mp L with L |rfl
      .obtain⟨x,y,z,a1,a2,a3,a4,a5⟩:=m i q L M;exact⟨x,y,z,a1,a2,a3,a4,ca hn _ _ a5⟩
      .rw[G]at M;cases M;exact⟨_,_,_,vx,vy,vz,b9,bP⟩
    .have same:row=[A[k],R[k]'(by lia),S[k]'(by lia)]:=by
      obtain⟨_,c0,rv,o,eo,co,n,dn⟩:=J.hok _ _ hr;have c1:N.get? f[k]=some o:=eo;rw[b8]at c1;cases c1;have d':(#[x',y',u']:Array Value)=c0.toArray:=by injection dn
      have:c0=[x',y',u']:=by have:=congrArg Array.toList d';simpa using this.symm
      subst this;exact rv.inj rel
     refine⟨u,sm,J,hp,E,fun i q L M=>?_⟩;rcases Nat.lt_succ_iff_lt_or_eq.mp L with L |rfl
     .exact m i q L M
     .rw[G]at M;cases M;exact⟨_,_,_,vx,vy,vz,b9,by rw[hr,same]⟩
  obtain⟨u,sm,J,hp,_,m⟩:=all f.length (bG _);exact⟨.ref v.objs.size,u,J,rfl,q v.objs.size u f sm (big _ (bG _)).1 hp D fun i qq e=>m i qq (List.getElem?_eq_some_iff.mp e).1 e⟩
theorem Lb(E:X.calm=true):gZ X (.builtin "all") (fun p H Q=>∃(l:Addr) (bs:List Bool),p=[.ref l]/\H l=some (.lst (bs.map V.bl))/\Q (.bl (bs.all id)) H):=by
 intro y s Y H p U Q I r h;obtain⟨l,bs,rfl,G,q⟩:=h;obtain⟨u,rfl,ru⟩:=di r;cases ru;obtain⟨z,d,n,B,e⟩:=I.hok _ _ G;have L:s.heap.IsList l d.toArray:=⟨_,e,rfl,_,rfl⟩
 have f:l<s.heap.objs.size:=bv e;have len:=B.length;rw[List.length_map]at len;refine call_all_walk (wpAny_pyIter_list L ?_);refine⟨s.heap.objs.size,_,_,_,_,_,fun i=>bs.getD i true,rfl,Walks.list (A:=X.A.in1) (show X.A.in1.handled=none from I.ok.hd E) s.heap.objs.size l (Nat.ne_of_lt f) d.toArray,⟨⟨_,Heap.get?_push_size _ rfl,rfl,rfl⟩,L.push _⟩,?_,fun Z tk J=>?_⟩
 .intro i v M N E' O k;have g:d[i]? = some v:=by simpa using O
  have f:i<bs.length:=by rw[len];exact(List.getElem?_eq_some_iff.mp g).1
  obtain⟨w,C,m⟩:=B.get (i:=i) (x:=.bl bs[i]) (by rw[List.getElem?_map,List.getElem?_eq_getElem f];rfl);rw[g]at C;cases C;cases m;refine wpAny_truthy_bool ?_;have:bs.getD i true=bs[i]:=by simp[List.getD,f]
  have k:N (bs.getD i true) M:=k;rw[this]at k;exact k
 .have R:(List.range d.toArray.size).all (fun i=>bs.getD i true)=bs.all id:=by
   rw[List.size_toArray,<-len];rw[Bool.eq_iff_iff,List.all_eq_true,List.all_eq_true];constructor
   .intro h b T;obtain⟨i,g,rfl⟩:=List.getElem_of_mem T;have:=h i (List.mem_range.mpr g);simpa[List.getD,g] using this
   .intro h i g;have j:=List.mem_range.mp g;have:=h bs[i] (List.getElem_mem j);simpa[List.getD,j] using this
  rw[R];exact⟨.bl (bs.all id),H,I.kept fun b o D=>J b o (fun S=>absurd (bv D) (by rw[List.mem_singleton.mp S];exact Nat.lt_irrefl _)) (bn _ D),rfl,q⟩
end L2
namespace L2.L3
open PySem PySem.Spec PyProof.Rows
def yJ:DN:=fun b Q=>∃a,(b=[.list a]\/b=[.tuple a])/\Q (.int a.length)
theorem oJ{K}:jA (fun xs H Q=>∃p ys,xs=[.ref p]/\(cT K H p ys\/fW K H p ys)/\Q (.int ys.length) H) yJ where
 mn:=fun _ _ _ k ⟨ds,e,q⟩=>⟨ds,e,k _ q⟩
 ok:=fun O H vs xs Q hO hd ⟨ds,e,q⟩=>by
  rcases e with rfl |rfl
  .cases hd with
   |cons d r=>cases r;obtain⟨a,ys,rfl,ha,hy⟩:=d.lst_inv;exact⟨a,ys,rfl,.inl (.of (cV ha).1),by rw[hy.length];exact q _ H (fun _ _ h=>h) (.int _)⟩
  .cases hd with
   |cons d r=>cases r;obtain⟨a,ys,rfl,ha,hy⟩:=d.tup_inv;exact⟨a,ys,rfl,.inr (.inl (jv ha).1),by rw[hy.length];exact q _ H (fun _ _ h=>h) (.int _)⟩
theorem uC(h:aC H c [a,b]):∃x y,c=[x,y]/\DV H x a/\DV H y b:=by cases h with |cons d r=>cases r with |cons e r=>cases r;exact⟨_,_,rfl,d,e⟩
theorem jB(h:aC H b [a]):∃x,b=[x]/\DV H x a:=by cases h with |cons d r=>cases r;exact⟨_,rfl,d⟩
theorem uD(h:aC H f [a,b,c]):∃x y z,f=[x,y,z]/\DV H x a/\DV H y b/\DV H z c:=by cases h with |cons d r=>cases r with |cons g r=>cases r with |cons e r=>cases r;exact⟨_,_,_,rfl,d,g,e⟩
def yK:DN:=fun a Q=>∃i j:Int,a=[.int i,.int j]/\Q (.int (max i j))
theorem uE:jA (fun xs H Q=>∃i j,xs=[.int i,.int j]/\Q (.int (if j>i then j else i)) H) yK where
 mn:=fun _ _ _ k zq1a=>by obtain⟨i,j,e,q⟩:=zq1a;exact⟨i,j,e,k _ q⟩
 ok:=fun O H vs xs Q hO hd zq2a=>by
  obtain⟨i,j,e,q⟩:=zq2a;subst e;obtain⟨x,y,rfl,h1,h2⟩:=uC hd;have e:(if j>i then j else i)=max i j:=by split<;>lia
  exact⟨i,j,by rw[h1.int_inv,h2.int_inv],by rw[e];exact q _ H (fun _ _ h=>h) (.int _)⟩
def yL:DN:=fun b Q=>(∃a,b=[.list a]/\Q (.tuple a))\/∃a,b=[.tuple a]/\Q (.tuple a)
theorem yM{K}:jA (fun xs H Q=>∃p ys,xs=[.ref p]/\((cT K H p ys/\∀l,H l=none->Q (.ref l) (aB H l (.tup ys)))\/(fW K H p ys/\Q (.ref p) H))) yL where
 mn:=fun _ _ _ k q=>q.imp (fun⟨i,e,q⟩=>⟨i,e,k _ q⟩) fun⟨i,e,q⟩=>⟨i,e,k _ q⟩
 ok:=fun O H vs xs Q hO hd q=>by
  rcases q with⟨ds,e,q⟩ |⟨ds,e,q⟩
  .subst e;obtain⟨x,rfl,h1⟩:=jB hd;obtain⟨a,ys,rfl,ha,hy⟩:=h1.lst_inv;exact⟨a,ys,rfl,.inl ⟨.of (cV ha).1,fun p hp=>q _ _ (ca hp) (mQ hp (hO p hp) hy)⟩⟩
  .subst e;obtain⟨x,rfl,h1⟩:=jB hd;obtain⟨a,ys,e,ha,hy⟩:=h1.tup_inv;subst e;exact⟨a,ys,rfl,.inr ⟨.inl (jv ha).1,q _ H (fun _ _ h=>h) h1⟩⟩
def yN:DN:=fun a Q=>∃bs:List Bool,a=[.list (bs.map .bool)]/\Q (.bool (bs.all id))
theorem yO:∀{bs:List Bool}{a},aC H a (bs.map PyData.bool)->a=bs.map V.bl
 |[],_,h=>by cases h;rfl
 |b::r,_,h=>by
  cases h with
  |cons d q=>rw[d.bl_inv,yO q];rfl
theorem Lc:jA (fun xs H Q=>∃(l:Addr) (bs:List Bool),xs=[.ref l]/\H l=some (.lst (bs.map V.bl))/\Q (.bl (bs.all id)) H) yN where
 mn:=fun _ _ _ k ⟨bs,e,q⟩=>⟨bs,e,k _ q⟩
 ok:=fun O H vs xs Q hO hd ⟨bs,e,q⟩=>by subst e;obtain⟨x,rfl,h1⟩:=jB hd;obtain⟨a,ys,rfl,ha,hy⟩:=h1.lst_inv;exact⟨a,bs,rfl,by rw[(cV ha).1,yO hy],q _ H (fun _ _ h=>h) (.bl _)⟩
noncomputable def oK(as bs a:List PyData):List PyData:=(as.zip (bs.zip a)).map fun q=>PyData.tuple [q.1,q.2.1,q.2.2]
def yP(t:ef):DT:=fun U Q=>t U fun c b=>∃as bs a,c=[.list as,.list bs,.list a]/\bs.length=as.length/\a.length=as.length/\0<as.length/\Q (.list (oK as bs a)) b
theorem yQ:∀{H a b},a.length=b.length->(∀(i:Nat) v d,a[i]? = some v->b[i]? = some d->DV H v d)->aC H a b
 |_,[],[],_,_=>.nil
 |_,[],_::_,e,_=>by cases e
 |_,_::_,[],e,_=>by cases e
 |H,v::a,d::b,e,h=>.cons (h 0 v d rfl rfl) (yQ (by simpa using e) fun i c f g j=>h (i+1) c f (by simpa using g) (by simpa using j))
theorem Ld{pos:Pos}{p1:Pos}(hc:X.calm=true)(t:Gl X "list")(u:X.mg "list" = none)(w:Gl X "zip")(A:X.mg "zip" = none)(B:DA X F [a,b,c] tA)
  (he:autoParam (starEach [.Call (.Name "zip" p2) [a,b,c] [] pos2] X.env=[(false,eval (.Call (.Name "zip" p2) [a,b,c] [] pos2) X.env)]) Zq._auto_1)
  (hs:autoParam (starEach [a,b,c] X.env=(false,eval a X.env)::starEach [b,c] X.env) Zq._auto_1) (C:autoParam ((backTo pos2 (starEach [b,c] X.env)).any (·.1)=false) Zq._auto_1) :
  DE X F (.Call (.Name "list" p1) [.Call (.Name "zip" p2) [a,b,c] [] pos2] [] pos) (yP tA):=
 ⟨fun _ _ _ k q=>B.mn _ _ _ (fun _ _ g=>by obtain⟨x,y,z,e,h1,h2,h3,q⟩:=g;exact⟨x,y,z,e,h1,h2,h3,k _ _ q⟩) q,(La hc t u w A B.pa he hs C).imp fun Y H Q h=>by obtain⟨U,O,st,q⟩:=h;exact 
  ⟨U,O,st,B.mn _ _ _ (fun ds U1 j vs H1 D l s1 E=>by
   obtain⟨as,bs,cs,e,l1,l2,l3,q1⟩:=j;subst e;obtain⟨x,y,z,rfl,h1,h2,h3⟩:=uD E;obtain⟨a1,xs,rfl,G,n⟩:=h1.lst_inv;obtain⟨a2,ys,rfl,I,S⟩:=h2.lst_inv;obtain⟨a3,zs,rfl,J,T⟩:=h3.lst_inv;refine⟨a1,a2,a3,xs,ys,zs,rfl,(cV G).1,(cV I).1,(cV J).1,by rw[n.length,S.length];exact l1,by rw[n.length,T.length];exact l2,by rw[n.length];exact l3,fun p H2 qs L hp M hl o=>?_⟩;have Z:∀b,H1 b=none->b∉D:=l.nofree;refine q1 _ H2 D (l.grow L) (s1.trans (.same L)) (.lst (fY M (Z p hp)) (yQ ?_ fun i v d e1 N=>?_))
   .unfold oK;rw[List.length_map,List.length_map,List.length_zip,List.length_zip,hl,n.length];lia
   .rw[List.getElem?_map]at e1;obtain⟨qq,e3,e4⟩:=Option.map_eq_some_iff.mp e1;subst e4;obtain⟨x,y,z,g1,g2,g3,g4,g5⟩:=o i qq e3;unfold oK at N;rw[List.getElem?_map]at N;obtain⟨⟨d0,E,d2⟩,e5,e6⟩:=Option.map_eq_some_iff.mp N;subst e6;obtain⟨e7,e8⟩:=List.getElem?_zip_eq_some.mp e5;obtain⟨e9,R⟩:=List.getElem?_zip_eq_some.mp e8;obtain⟨dx,k1,k2⟩:=n.get' g1;obtain⟨dy,k3,k4⟩:=S.get' g2;obtain⟨dz,k5,k6⟩:=T.get' g3;have r:as[i]? = some d0:=e7;have s:bs[i]? = some E:=e9;have f:cs[i]? = some d2:=R;rw[k1]at r;rw[k3]at s;rw[k5]at f;cases r;cases s;cases f;have m:=lD (O:=D) L;exact .tup (.inl (fY g5 (Z qq g4))) (.cons (DV.mono m k2) (.cons (DV.mono m k4) (.cons (DV.mono m k6) .nil)))) q⟩⟩
def yR(te:DT)(k:Nat):DT:=fun U Q=>te U fun d g=>∃f,d=.list f/\Q (.list (f.drop k)) g
theorem Le{k :Nat}(o:DE X F e te):DE X F (.Subscript e (.Slice (some (.Constant (.int (k:Int)) j A)) none none s) pos) (yR te k):=
 ⟨fun _ _ _ k q=>o.mn _ _ _ (fun _ _ f=>by obtain⟨r,e,q⟩:=f;exact⟨r,e,k _ _ q⟩) q,(HN HX o.pe (HL tp) HK).imp fun Y H Q g=>by obtain⟨U,O,st,q⟩:=g;exact 
  ⟨U,O,st,o.mn _ _ _ (fun d B i v C t l u w=>by
   obtain⟨r,e,x⟩:=i;subst e;obtain⟨a,m,rfl,y,z⟩:=w.lst_inv;refine⟨(k:Int),rfl,a,m,rfl,.of (cV y).1,fun p n=>x _ _ t (l.grow (ca n)) (u.trans (.same (ca n))) (mP n (l.nofree p n) ?_)⟩;have:mH m (some (k:Int)) none=m.drop k:=by
    unfold mH;rw[HT.sIx_none,HT.sIx_nat]
    by_cases h:k<=m.length
    .rw[Nat.min_eq_left h,List.take_of_length_le (by rw[List.length_drop];exact bG _)]
    .rw[Nat.min_eq_right (by lia),List.drop_of_length_le (bG _),List.drop_of_length_le (by lia)];simp
   rw[this];exact z.drop k) q⟩⟩
def yS(i:Nat):DT:=fun U Q=>∃d,U[i]? = some (some (.scr d))/\(d.length<=63->Q (.int d.length) U)
theorem yT{F:Fx}{pos:Pos}{p:Pos}(n:Gl X "len")(o:X.mg "len" = none)(h:PE X (.Name x p1) (bw i))(l:autoParam (starEach [.Name x p1] X.env=(false,eval (.Name x p1) X.env)::starEach [] X.env) Zq._auto_1)(g:autoParam ((backTo pos (starEach [] X.env)).any (·.1)=false) Zq._auto_1) :
  DE X F (.Call (.Name "len" p) [.Name x p1] [] pos) (yS i):=
 ⟨fun _ _ _ k d=>by obtain⟨j,e,q⟩:=d;exact⟨j,e,fun h=>k _ _ (q h)⟩,(mG lA n o PySem.boot_len (cJ h dj l) (by decide) (by decide) l g).imp fun Y H Q f=>by
  obtain⟨U,O,st,j,e,q⟩:=f;obtain⟨s,r,m⟩:=st.scr e;refine⟨_,r,s,j.map V.int,rfl,.inl m.sq,?_⟩;rw[List.length_map];exact q m.1 _ H O st .refl (.int _)⟩
def yU(i:Nat)(te:DT):DT:=fun U Q=>∃f,U[i]? = some (some (.scr f))/\te U fun d g=>∃k n,d=.int k/\bD f k=some n/\Q (.int n) g
theorem Lf{g:α->β}{l}{n}(h:bD l k=some n):bD (l.map g) k=some (g n):=by
 unfold bD at h ⊢;rw[List.length_map];cases q:cn l.length k with
 |none=>rw[q]at h;cases h
 |some j=>rw[q]at h;show(l.map g)[j]? = some (g n);rw[List.getElem?_map];have h:l[j]? = some n:=h;rw[h];rfl
theorem yV(h:PE X (.Name x p1) (bw i))(s:DE X F e te)(t:im e):DE X F (.Subscript (.Name x p1) e pos) (yU i te):=
 ⟨fun _ _ _ k f=>by obtain⟨r,e,q⟩:=f;exact⟨r,e,s.mn _ _ _ (fun _ _ g=>by obtain⟨G,n,v,y,q⟩:=g;exact⟨G,n,v,y,k _ _ q⟩) q⟩,(ly lz h s.pe t).imp fun Y H Q j=>by
  obtain⟨U,O,st,r,e,q⟩:=j;obtain⟨E,I,t⟩:=st.scr e;refine⟨_,I,U,O,st,s.mn _ _ _ (fun d N l w C J A D L=>?_) q⟩;obtain⟨k,n,v,y,M⟩:=l;subst v;have B:iM X.K C E r:=t.mono fun o u q=>D.keep _ _ (fun z=>by obtain⟨R,e,m⟩:=st.live _ z;rw[q]at e;cases e;exact m) q;exact⟨E,r.map V.int,k,.int n,rfl,L.int_inv,B.sq,Lf y,M _ C J A D (.int _)⟩⟩
def Lg(K:Frag):R2:=fun x y H Q=>∃a b d,x=.ref a/\y=.ref b/\cT K H a (d.map V.int)/\H b=some (.lst [])/\Q (.bl (decide (d=[]))) H
theorem yW:∀{d:List Int}{f},bi (d.map V.int) f->∃as,ReadsAll h f (d.map PyData.int) as
 |[],_,r=>by cases r;exact⟨_,.nil⟩
 |n::d,_,r=>by
  cases r with
  |cons g r=>obtain⟨t,rfl⟩:=g;obtain⟨as,q⟩:=yW r;exact⟨_,.cons (.int n t) q⟩
theorem Lh(l:X.A.units+64<cLine):cU X (compareOp .Eq) (Lg X.K):=by
 intro g s Y H x y v u Q I m t h;obtain⟨a,b,d,rfl,rfl,h1,h2,q⟩:=h;cases m;cases t;obtain⟨w,z,⟨o,n,e,B,_,C⟩,L⟩:=I.list h1;obtain⟨_,j,M,f,D⟩:=I.hok _ _ h2;cases f;obtain⟨as,E⟩:=yW (h:=s.heap) z;have G:PyData.eqv (.list (d.map .int)) (.list [])=decide (d=[]):=by cases d<;>rfl
 refine eq_dataH (reads_list_at e B C (by simpa using E)) (reads_list_at (xs:=[]) D rfl rfl .nil) ?_ (by decide) l (by rw[G];exact⟨.bl _,H,I,rfl,q⟩);unfold SeqAt.shaped;have J:PyData.canLay0 (.list (d.map .int))=true:=by
  have:∀d:List Int,PyData.canLayAll0 (d.map .int)=true:=fun d=>by
   induction d with
   |nil=>rfl
   |cons n r k=>rw[List.map_cons];simp only[PyData.canLayAll0,PyData.canLay0,k,Bool.and_self]
  simp only[PyData.canLay0,this]
 have dp:PyData.depth (.list (d.map .int))<=64:=by
  have:∀d:List Int,PyData.depthAll (d.map .int)<=1:=fun d=>by
   induction d with
   |nil=>simp[PyData.depthAll]
   |cons n r k=>rw[List.map_cons];simp only[PyData.depthAll,PyData.depth];lia
  have:=this d;simp only[PyData.depth];lia
 rw[J,Bool.true_and];exact decide_eq_true dp
def yX(i:Nat):cN:=fun U Q=>∃d,U[i]? = some (some (.scr d))/\Q (decide (d=[])) U
theorem Li(m:X.A.units+64<cLine)(h:PE X (.Name x p1) (bw i)):DB X F (.Compare (.Name x p1) [.Eq] [.List [] l] pos) (yX i):=
 ⟨fun _ _ _ k d=>by obtain⟨j,e,q⟩:=d;exact⟨j,e,k _ _ q⟩,(xm (Lh m) h (jY dj) (bz _)).imp fun Y H Q f=>by
  obtain⟨U,O,st,j,e,q⟩:=f;obtain⟨r,n,o⟩:=st.scr e;refine⟨_,n,Nat.zero_le _,fun p g=>⟨r,p,j,rfl,rfl,(ca g).seq o.sq,bP,_,rfl,q _ O (st.grow (ca g)) (.same (ca g))⟩⟩⟩
structure FD (K:Frag) (mg:Str->Option Value) (x:Str) (st:Stmt) (ps:List Str) (g:Addr) (fd:FuncData):Prop where
 fn:lB K x x st g fd
 mgf:mg x=some (.ref g)
 b:fM K fd ps []
section
variable{X:Cx}{scope:Scope}{own capN:List Str}{caps:List Nat}
theorem al.of(h1:autoParam (scope.kind=.function) Zq._auto_1)(h2:autoParam ((scope.names.all fun y=>scope.names.lookup y.1==some y.2)=true) Zq._auto_1)
  (h3:autoParam ((scope.names.all fun y=>y.2 != .free||(X.env.kindOf y.1==some .cell||X.env.kindOf y.1==some .free))=true) Zq._auto_1)
  (h4:autoParam ((scope.names.all fun y=>y.2 != .local||scope.names.lookup y.1==some .local)=true) Zq._auto_1) (h5:autoParam (caps.map (fun j=>X.N[j]?)=capN.map some) Zq._auto_1)
  (h6:autoParam ((capN.all fun x=>scope.names.lookup x==some .free)=true) Zq._auto_1):al X scope own capN caps where
 kind:=h1
 one:=fun y hy=>eq_of_beq (List.all_eq_true.mp h2 y hy)
 free:=fun y hy e=>by
  have:=List.all_eq_true.mp h3 y hy;rw[e]at this;rw[Bool.or_eq_true]at this;rcases this with z |z
  .exact absurd z (by decide)
  .rw[Bool.or_eq_true]at z;exact z.imp (fun z=>eq_of_beq z) fun z=>eq_of_beq z
 loc:=fun y hy e=>by
  have:=List.all_eq_true.mp h4 y hy;rw[e]at this;rw[Bool.or_eq_true]at this;rcases this with z |z
  .exact absurd z (by decide)
  .exact eq_of_beq z
 caps:=h5
 capf:=fun x hx=>eq_of_beq (List.all_eq_true.mp h6 x hx)
end
abbrev qI(g:Int->Int->Int):D2:=fI (fun _ _=>True) fun i j=>.int (g i j)
abbrev qB(g:Int->Int->Bool):D2:=fI (fun _ _=>True) fun i j=>.bool (g i j)
theorem Lj(d:DE X F a ta)(f:DE X F b tb):DE X F (.BinOp a .Add b pos) (da (qI fun i j=>i+j) ta tb):=lF GS (kb fun _ _ _=>.int _) d f
theorem Lk(d:DE X F a ta)(f:DE X F b tb):DE X F (.BinOp a .Sub b pos) (da (qI fun i j=>i - j) ta tb):=lF GU (kb fun _ _ _=>.int _) d f
theorem Ll(d:DE X F a ta)(f:DE X F b tb):DE X F (.BinOp a .Mult b pos) (da (fI ow fun i j=>.int (i * j)) ta tb):=lF GV (uh fun _ _ _=>.int _) d f
theorem Lm(d:DE X F a ta)(f:DE X F b tb):DE X F (.BinOp a .FloorDiv b pos) (da (fI tI fun i j=>.int (i / j)) ta tb):=lF GW (uh fun _ _ _=>.int _) d f
theorem Ln(d:DE X F a ta)(f:DE X F b tb):DE X F (.BinOp a .Mod b pos) (da (fI (fun _ j=>0<j) fun i j=>.int (i % j)) ta tb):=lF GX (uh fun _ _ _=>.int _) d f
theorem Lo(d:DE X F a ta)(f:DE X F b tb):DE X F (.BinOp a .Add b pos) (da um ta tb):=lF Ii Jl d f
theorem Lp(d:DE X F a ta)(f:DE X F b tb):DE X F (.Compare a [.Lt] [b] pos) (da (qB fun i j=>decide (i<j)) ta tb):=mO xi (kb fun _ _ _=>.bl _) d f (bz _)
theorem Lq(d:DE X F a ta)(f:DE X F b tb):DE X F (.Compare a [.LtE] [b] pos) (da (qB fun i j=>decide (i<=j)) ta tb):=mO qv (kb fun _ _ _=>.bl _) d f (bz _)
theorem Lr(d:DE X F a ta)(f:DE X F b tb):DE X F (.Compare a [.Gt] [b] pos) (da (qB fun i j=>decide (j<i)) ta tb):=mO xj (kb fun _ _ _=>.bl _) d f (bz _)
theorem Ls(d:DE X F a ta)(f:DE X F b tb):DB X F (.Compare a [.Lt] [b] pos) (gd (da (qB fun i j=>decide (i<j)) ta tb)):=lG xi (kb fun _ _ _=>.bl _) d f (bz _)
theorem Lu(d:DE X F a ta)(f:DE X F b tb):DB X F (.Compare a [.LtE] [b] pos) (gd (da (qB fun i j=>decide (i<=j)) ta tb)):=lG qv (kb fun _ _ _=>.bl _) d f (bz _)
theorem Lv(d:DE X F a ta)(f:DE X F b tb):DB X F (.Compare a [.Gt] [b] pos) (gd (da (qB fun i j=>decide (j<i)) ta tb)):=lG xj (kb fun _ _ _=>.bl _) d f (bz _)
theorem Lw(d:X.A.units+64<cLine)(f:DE X F a ta)(g:DE X F b tb):DE X F (.Compare a [.Eq] [b] pos) (da (oB false) ta tb):=mO (yd d) ui f g (bz _)
theorem Lx(d:X.A.units+64<cLine)(f:DE X F a ta)(g:DE X F b tb):DB X F (.Compare a [.Eq] [b] pos) (gd (da (oB false) ta tb)):=lG (yd d) ui f g (bz _)
theorem Lz(d:X.A.units+64<cLine)(f:DE X F a ta)(g:DE X F b tb):DB X F (.Compare a [.NotEq] [b] pos) (gd (da (oB true) ta tb)):=lG (Ja d) ui f g (bz _)
theorem LA(d:DE X F a ta)(f:DE X F b tb):DE X F (.Compare a [.Is] [b] pos) (da qK ta tb):=mO xk yh d f (bz _)
theorem LB(d:DE X F a ta)(f:DE X F b tb):DB X F (.Compare a [.Is] [b] pos) (gd (da qK ta tb)):=lG xk yh d f (bz _)
theorem LC(d:DE X F a ta)(f:DE X F b tb):DB X F (.Compare a [.IsNot] [b] pos) (gd (da uj ta tb)):=lG xl yi d f (bz _)
theorem LF(d:DE X F a ta)(h:DE X F b tb)(f:DE X F c tc)(g:lastMarks [.LtE,.LtE] [b,c]=false:=by with_unfolding_all rfl):DE X F (.Compare a [.LtE,.LtE] [b,c] pos) (uo (fun i j=>decide (i<=j)) (fun i j=>decide (i<=j)) ta tb tc):=JD qv qv d h f g
theorem dP(d:Gl X x)(f:X.mg x=some (.int i t))(hd:autoParam ((x==("__debug__":Str))=false) Zr._auto_1):DE X F (.Name x pos) (dC (.int i)):=oz (v:=.int i) (wX d f ⟨t,rfl⟩ hd) fun _=>.int i
mutual
theorem yY:∀(d:PyData),d.canLay0=true->PyData.eqv d d=true
 |.none,_=>rfl
 |.bool b,_=>by simp[PyData.eqv]
 |.int i,_=>by simp[PyData.eqv]
 |.str s,_=>by simp[PyData.eqv]
 |.list xs,h=>by rw[PyData.eqv];exact uF xs (by simpa[PyData.canLay0] using h)
 |.tuple xs,h=>by rw[PyData.eqv];exact uF xs (by simpa[PyData.canLay0] using h)
 |.dict kvs,h=>by simp[PyData.canLay0]at h
theorem uF:∀(ds:List PyData),PyData.canLayAll0 ds=true->PyData.eqvAll ds ds=true
 |[],_=>rfl
 |x::xs,h=>by simp only[PyData.canLayAll0,Bool.and_eq_true]at h;rw[PyData.eqvAll,yY x h.1,uF xs h.2];rfl
theorem yZ(h:SeqAt.shaped d=true):PyData.eqv d d=true:=yY d (SeqAt.canLay_of_shaped h)
end
theorem za:∀{e:List Int}{c},aC H c (e.map PyData.int)->c=e.map V.int
 |[],_,h=>by cases h;rfl
 |b::r,_,h=>by
  cases h with
  |cons d q=>rw[d.int_inv,za q];rfl
def uG:D2:=fun x y Q=>∃c k,x=.list c/\y=.int k/\(-(2 ^ 63)<=k/\k<2 ^ 63/\c.length * k.toNat<=sizeLine)/\Q (.list (List.replicate k.toNat c).flatten)
theorem zb(r:aC H c d):∀k,aC H (List.replicate k c).flatten (List.replicate k d).flatten
 |0=>.nil
 |k+1=>by rw[List.replicate_succ,List.replicate_succ,List.flatten_cons,List.flatten_cons];exact r.append (zb r k)
theorem LG:fk xM uG where
 mn:=fun _ _ _ _ k zq1a=>by obtain⟨ds,n,e1,e2,e3,q⟩:=zq1a;exact⟨ds,n,e1,e2,e3,k _ q⟩
 ok:=fun O H u v x y Q hO h1 h2 zq2a=>by obtain⟨ds,k,e1,e2,⟨e3,e4,e5⟩,q⟩:=zq2a;subst e1 e2;obtain⟨a,xs,rfl,ha,hd⟩:=h1.lst_inv;refine⟨a,k,xs,rfl,h2.int_inv,(cV ha).1,e3,e4,by rw[hd.length];exact e5,fun p hp=>q _ _ (ca hp) (mP hp (hO p hp) (zb hd _))⟩
theorem LH(c:DE X F a ta)(d:DE X F b tb):DE X F (.BinOp a .Mult b pos) (da uG ta tb):=lF Ik LG c d
end L2.L3
namespace L2
open PySem PySem.Spec PyProof.Rows
def zc:List V->Hp->VK->Prop:=fun c H Q=>∃(l:Addr) (b:List Int),c=[.ref l]/\H l=some (.lst (b.map V.int))/\b≠[]/\∀M,M∈b->(∀a,a∈b->a<=M)->Q (.int M) H
theorem LJ(J:X.calm=true):gZ X (.builtin "max") zc:=by
 intro y s Y H Z us Q I r h;obtain⟨l,ns,rfl,M,f,q⟩:=h;obtain⟨u,rfl,ru⟩:=di r;cases ru;obtain⟨z,d,n,B,e⟩:=I.hok _ _ M;have L:s.heap.IsList l d.toArray:=⟨_,e,rfl,_,rfl⟩
 have c:l<s.heap.objs.size:=bv e;have len:=B.length;rw[List.length_map]at len;have N:0<ns.length:=List.length_pos_iff.mpr f;have at_:∀(i:Nat) (v:Value),d.toArray[i]? = some v->∃t,v=.int (ns.getD i 0) t:=by
  intro i v O;have C:d[i]? = some v:=by simpa using O
  have c:i<ns.length:=by rw[len];exact(List.getElem?_eq_some_iff.mp C).1
  obtain⟨w,D,g⟩:=B.get (i:=i) (x:=.int ns[i]) (by rw[List.getElem?_map,List.getElem?_eq_getElem c];rfl);rw[C]at D;cases D;cases g;rename_i k m;refine⟨k,m.trans ?_⟩
  congr 1
  simp[List.getD,c]
 refine call_max_walk (wpAny_pyIter_list L ?_);refine⟨s.heap.objs.size,_,_,_,_,_,_,rfl,Walks.list (A:=X.A.in1) (show X.A.in1.handled=none from I.ok.hd J) s.heap.objs.size l (Nat.ne_of_lt c) d.toArray,⟨⟨_,Heap.get?_push_size _ rfl,rfl,rfl⟩,L.push _⟩,?_,?_,CmpOf.ints_gt (fun i=>ns.getD i 0) at_,fun v h' tk E R=>?_⟩
 .intro b p;rcases List.mem_cons.mp p with rfl |p
  .show _<(s.heap.push _).objs.size;rw[Heap.size_push];exact Nat.lt_succ_self _
  .rw[List.mem_singleton.mp p];show _<(s.heap.push _).objs.size;rw[Heap.size_push];exact Nat.lt_succ_of_lt c
 .rw[List.size_toArray,<-len];exact N
 .rw[List.size_toArray,<-len]at E;obtain⟨t,rfl⟩:=at_ _ _ E;obtain⟨h1,h2⟩:=argBest_gt (fun i=>ns.getD i 0) (ns.length - 1);refine⟨.int _,H,I.kept fun b o G=>R b o (fun S=>absurd (bv G) (by rw[List.mem_singleton.mp S];exact Nat.lt_irrefl _)) (bn _ G),⟨_,rfl⟩,q _ ?_ fun a T=>?_⟩
  .rw[PySem.getD_at (by lia)];exact List.getElem_mem _
  .obtain⟨j,U,rfl⟩:=List.getElem_of_mem T;have:=h2 j (by lia);simp only[PySem.getD_at U]at this;exact this
end L2
namespace L2.L3
open PySem PySem.Spec PyProof.Rows
def zd:DN:=fun c Q=>∃b:List Int,c=[.list (b.map .int)]/\b≠[]/\∀M,M∈b->(∀a,a∈b->a<=M)->Q (.int M)
theorem LL:jA zc zd where
 mn:=fun _ _ _ k zq1a=>by obtain⟨bs,e,h,q⟩:=zq1a;exact⟨bs,e,h,fun M h1 h2=>k _ (q M h1 h2)⟩
 ok:=fun O H vs xs Q hO hd zq2a=>by obtain⟨ns,e,h,q⟩:=zq2a;subst e;obtain⟨x,rfl,h1⟩:=jB hd;obtain⟨a,ys,rfl,ha,hy⟩:=h1.lst_inv;exact⟨a,ns,rfl,by rw[(cV ha).1,za hy],h,fun M h1 h2=>q M h1 h2 _ H (fun _ _ h=>h) (.int _)⟩
inductive fm (α:Type) where
 |ok (a:α) (U:ag) |ex (c:Str) (U:ag) |bad
@[simp]noncomputable def fm.bind{α β:Type}(o:fm α)(k:α->ag->fm β):fm β:=match o with
 |.ok a U=>k a U
 |.ex c U=>.ex c U
 |.bad=>.bad
@[simp]noncomputable def lift{α:Type}(o:Option α)(U:ag):fm α:=match o with
 |some a=>.ok a U
 |none=>.bad
abbrev XM(α:Type):=ag->fm α
def wp{α:Type}(E:Str->ag->Prop)(m:XM α):ag->(α->ag->Prop)->Prop:=fun U Q=>match m U with
 |.ok a b=>Q a b
 |.ex c b=>E c b
 |.bad=>False
theorem aD:∀U (Q e:α->ag->Prop),(∀d b,Q d b->e d b)->wp E m U Q->wp E m U e:=fun U Q e k q=>by
 unfold wp at q ⊢;generalize m U=o at q ⊢;cases o with
 |ok a b=>exact k _ _ q
 |ex c b=>exact q
 |bad=>exact q
theorem bY{k:α->XM β}(h:wp E (fun U=>(m U).bind k) U Q):wp E m U fun a b=>wp E (k a) b Q:=by
 unfold wp at h ⊢;unfold fm.bind at h;simp only at h;generalize m U=o at h ⊢;cases o with
 |ok a b=>exact h
 |ex c b=>exact h
 |bad=>exact h
theorem dB{o:Option α}(h:wp E (lift o) U Q):∃a,o=some a/\Q a U:=by
 unfold wp lift at h;cases o with
 |some a=>exact⟨a,rfl,h⟩
 |none=>exact h.elim
theorem DE.imp(h:DE X F e t)(f:Mn t')(k:∀U Q,t' U Q->t U Q):DE X F e t':=⟨f,h.pe.imp fun Y H Q d=>by obtain⟨U,O,st,q⟩:=d;exact⟨U,O,st,k U _ q⟩⟩
theorem DO.imp(h:DO X F e t)(f:yA t')(k:∀U Q,t' U Q->t U Q):DO X F e t':=⟨f,h.pe.imp fun Y H Q d=>by obtain⟨U,O,st,q⟩:=d;exact⟨U,O,st,k U _ q⟩⟩
theorem DA.imp(h:DA X F es t)(f:qL t')(k:∀U Q,t' U Q->t U Q):DA X F es t':=⟨f,h.pa.imp fun Y H Q d=>by obtain⟨U,O,st,q⟩:=d;exact⟨U,O,st,k U _ q⟩⟩
theorem DX.imp(h:DX X F es t)(f:yD t')(k:∀U Q,t' U Q->t U Q):DX X F es t':=⟨f,h.pa.imp fun Y H Q d=>by obtain⟨U,O,st,q⟩:=d;exact⟨U,O,st,k U _ q⟩⟩
theorem DB.imp(h:DB X F e t)(f:iN t')(k:∀U Q,t' U Q->t U Q):DB X F e t':=⟨f,h.pt.imp fun Y H Q d=>by obtain⟨U,O,st,q⟩:=d;exact⟨U,O,st,k U _ q⟩⟩
theorem DW.imp(h:DW X F e t)(f:iN t')(k:∀U Q,t' U Q->t U Q):DW X F e t':=⟨f,h.pw.imp fun Y H Q d=>by obtain⟨U,O,st,q⟩:=d;exact⟨U,O,st,k U _ q⟩⟩
theorem gD.imp(h:gD X F d t)(k:∀D U,t' D U->t D U):gD X F d t':=PSs.imp h fun D Y H g=>by obtain⟨U,O,i,st,q,f⟩:=g;exact⟨U,O,i,st,k i U q,f⟩
theorem DS.imp(h:DS X F s t)(k:∀D U,t' D U->t D U):DS X F s t':=PS.imp h fun D Y H d=>by obtain⟨U,O,g,st,q,f⟩:=d;exact⟨U,O,g,st,k g U q,f⟩
abbrev FE(X:Cx)(F:Fx)(E:Str->ag->Prop)(e:Expr)(m:XM PyData):Prop:=DE X F e (wp E m)
abbrev FO(X:Cx)(F:Fx)(E:Str->ag->Prop)(e:Expr)(m:XM ae):Prop:=DO X F e (wp E m)
abbrev FB(X:Cx)(F:Fx)(E:Str->ag->Prop)(e:Expr)(m:XM Bool):Prop:=DB X F e (wp E m)
abbrev FW(X:Cx)(F:Fx)(E:Str->ag->Prop)(e:Expr)(m:XM Bool):Prop:=DW X F e (wp E m)
abbrev FA(X:Cx)(F:Fx)(E:Str->ag->Prop)(es:List Expr)(m:XM (List PyData)):Prop:=DA X F es (wp E m)
abbrev FX(X:Cx)(F:Fx)(E:Str->ag->Prop)(es:List Expr)(m:XM (List AX)):Prop:=DX X F es (wp E m)
abbrev FI(X:Cx)(F:Fx)(E:Str->ag->Prop)(d iter:Expr)(m:XM (List PyData)):Prop:=DI X F d iter (wp E m)
abbrev GM:=PyData->ag->Option ag
def eM(g:GM):eL:=fun d U Q=>match g d U with
 |some f=>Q f
 |none=>False
abbrev FG(X:Cx)(F:Fx)(d:Expr)(g:GM):Prop:=DG X F d (eM g)
abbrev FS(X:Cx)(F:Fx)(E:Str->ag->Prop)(s:Stmt)(m:SM):Prop:=DS X F s (ck E m)
abbrev ir(X:Cx)(F:Fx)(E:Str->ag->Prop)(s:List Stmt)(m:SM):Prop:=gD X F s (ck E m)
@[simp]noncomputable def xC(d:PyData):XM PyData:=fun U=>.ok d U
@[simp]noncomputable def xV(i:Nat):XM PyData:=fun U=>match U[i]? with
 |some (some (.dat d))=>.ok d U
 |some (some (.own false (.l ds)))=>.ok (.list ds) (U.set i (some (.dat (.list ds))))
 |_=>.bad
theorem aa(h:DE X F e (dC d)):FE X F E e (xC d):=h.imp aD fun _ _ q=>q
theorem LM(h:DE X F e (dV i)):FE X F E e (xV i):=h.imp aD fun U Q q=>by
 unfold wp xV at q;unfold dV;cases h:U[i]? with
 |none=>rw[h]at q;exact q.elim
 |some o=>
  rw[h]at q;cases o with
  |none=>exact q.elim
  |some c=>
   cases c with
   |dat d=>exact .inl ⟨d,rfl,q⟩
   |scr n=>exact q.elim
   |exc n=>exact q.elim
   |vw n=>exact q.elim
   |own io f=>
    cases io with
    |true=>exact q.elim
    |false=>
     cases f with
     |l ds=>exact .inr ⟨ds,rfl,q⟩
     |m _ _=>exact q.elim
     |o _ _=>exact q.elim
     |sd _=>exact q.elim
     |ll _=>exact q.elim
     |pr _ _ _=>exact q.elim
     |oo _ _=>exact q.elim
@[simp] def ai(g:PyData->PyData->Option PyData)(a b:XM PyData):XM PyData:=fun U=>(a U).bind fun x d=>(b d).bind fun y=>lift (g x y)
def F2(f:D2)(g:PyData->PyData->Option PyData):Prop:=∀x y d Q,g x y=some d->Q d->f x y Q
theorem gl(k:F2 f g)(h:DE X F e (da f (wp E i) (wp E j))):FE X F E e (ai g i j):=h.imp aD fun U Q q=>by refine aD _ _ _ (fun x p l=>?_) (bY q);refine aD _ _ _ (fun y r m=>?_) (bY l);obtain⟨d,n,o⟩:=dB m;exact k x y d _ n o
@[simp] def be(m:XM PyData):XM Bool:=fun U=>(m U).bind fun d=>lift (match d with |.bool b=>some b |_=>none)
theorem ze(q:wp E (be m) U Q):gd (wp E m) U Q:=aD _ _ _ (fun d i g=>by
 obtain⟨b,f,h⟩:=dB g;cases d with
 |bool j=>cases f;exact⟨_,rfl,h⟩
 |_=>cases f) (bY q)
theorem lI(k:F2 f g)(h:DB X F e (gd (da f (wp E i) (wp E j)))):FB X F E e (be (ai g i j)):=h.imp aD fun U Q q=>by have l:=ze q;refine aD _ _ _ (fun x r m=>?_) (bY l);refine aD _ _ _ (fun y s n=>?_) (bY m);obtain⟨d,o,p⟩:=dB n;exact k x y d _ o p
theorem dQ(h:DB X F e (gd (wp E m))):FB X F E e (be m):=h.imp aD fun U Q q=>ze q
@[simp]noncomputable def gI(g:Int->Int->PyData):PyData->PyData->Option PyData:=fun x y=>match x,y with
 |.int i,.int j=>some (g i j)
 |_,_=>none
@[simp]noncomputable def oM(C:Int->Int->Bool)(g:Int->Int->PyData):PyData->PyData->Option PyData:=fun x y=>match x,y with
 |.int i,.int j=>if C i j=true then some (g i j) else none
 |_,_=>none
theorem kh:F2 (fI (fun _ _=>True) g) (gI g):=fun x y d Q e q=>by
 unfold gI at e;split at e
 .cases e;exact⟨_,_,rfl,rfl,trivial,q⟩
 .cases e
theorem uH(h:∀i j,C i j=true->P i j):F2 (fI P g) (oM C g):=fun x y d Q e q=>by
 unfold oM at e;split at e
 .split at e
  .rename_i f;cases e;exact⟨_,_,rfl,rfl,h _ _ f,q⟩
  .cases e
 .cases e
noncomputable def ki(i j:Int):Bool:=(decide (-(2 ^ 64)<i)&&decide (i<2 ^ 64))||(decide (-(2 ^ 64)<j)&&decide (j<2 ^ 64))
noncomputable def mU(_ j:Int):Bool:=decide (0<j)&&decide (j<1073741824)
noncomputable def kj(_ j:Int):Bool:=decide (0<j)
theorem LN(i j)(h:ki i j=true):ow i j:=by unfold ki at h;simp only[Bool.or_eq_true,Bool.and_eq_true,decide_eq_true_eq]at h;exact h
theorem LO(i j)(h:mU i j=true):tI i j:=by unfold mU at h;simp only[Bool.and_eq_true,decide_eq_true_eq]at h;exact h
theorem LP(i j)(h:kj i j=true):0<j:=by unfold kj at h;simpa using h
noncomputable def aM(neg:Bool):PyData->PyData->Option PyData:=fun x y=>if (SeqAt.shaped x&&SeqAt.shaped y)=true then some (.bool (PyData.eqv x y != neg)) else none
theorem uI:F2 (oB neg) (aM neg):=fun x y d Q e q=>by
 unfold aM at e;split at e
 .rename_i h;cases e;exact⟨(Bool.and_eq_true_iff.mp h).1,(Bool.and_eq_true_iff.mp h).2,q⟩
 .cases e
@[simp] def ko:PyData->PyData->Option PyData:=fun x y=>match y with |.none=>some (.bool (isNone x)) |_=>none
@[simp] def hV:PyData->PyData->Option PyData:=fun x y=>match y with |.none=>some (.bool (!isNone x)) |_=>none
theorem zf:F2 qK ko:=fun x y d Q e q=>by
 unfold ko at e;split at e
 .cases e;exact⟨rfl,q⟩
 .cases e
theorem zg:F2 uj hV:=fun x y d Q e q=>by
 unfold hV at e;split at e
 .cases e;exact⟨rfl,q⟩
 .cases e
@[simp]noncomputable def mV:PyData->PyData->Option PyData:=fun x y=>match x,y with
 |.list ds,.list es=>if ds.length+es.length<=sizeLine then some (.list (ds++es)) else none
 |_,_=>none
theorem LQ:F2 um mV:=fun x y d Q e q=>by
 unfold mV at e;split at e
 .split at e
  .rename_i h;cases e;exact⟨_,_,rfl,rfl,h,q⟩
  .cases e
 .cases e
@[simp]noncomputable def qS:PyData->PyData->Option PyData:=fun x y=>match x,y with
 |.list ds,.int k=>if (decide (-(2 ^ 63)<=k)&&decide (k<2 ^ 63)&&decide (ds.length * k.toNat<=sizeLine))=true then some (.list (List.replicate k.toNat ds).flatten) else none
 |_,_=>none
theorem LR:F2 uG qS:=fun x y d Q e q=>by
 unfold qS at e;split at e
 .split at e
  .rename_i h;cases e;simp only[Bool.and_eq_true,decide_eq_true_eq]at h;exact⟨_,_,rfl,rfl,⟨h.1.1,h.1.2,h.2⟩,q⟩
  .cases e
 .cases e
@[simp] def uJ(a:XM PyData):XM PyData:=fun U=>(a U).bind fun d=>lift (match d with |.int i=>some (.int (-i)) |_=>none)
theorem zh(h:FE X F E a f):FE X F E (.UnaryOp .USub a pos) (uJ f):=(Jv h).imp aD fun U Q q=>aD _ _ _ (fun d l j=>by
 obtain⟨y,g,k⟩:=dB j;cases d with
 |int i=>cases g;exact⟨i,rfl,k⟩
 |_=>cases g) (bY q)
@[simp] def zi(a:XM PyData):XM PyData:=fun U=>(a U).bind fun d=>lift (match d with |.bool b=>some (.bool (!b)) |_=>none)
theorem LS(h:FE X F E a f):FE X F E (.UnaryOp .Not a pos) (zi f):=(Jx h).imp aD fun U Q q=>aD _ _ _ (fun d k i=>by
 obtain⟨y,g,j⟩:=dB i;cases d with
 |bool b=>cases g;exact⟨b,rfl,j⟩
 |_=>cases g) (bY q)
@[simp]noncomputable def zj(b:XM PyData)(d:PyData):XM PyData:=fun f=>match d with
 |.bool true=>b f
 |.bool false=>.ok (.bool false) f
 |_=>.bad
@[simp]noncomputable def zk(b:XM PyData)(d:PyData):XM PyData:=fun f=>match d with
 |.bool true=>.ok (.bool true) f
 |.bool false=>b f
 |_=>.bad
@[simp] def fc(a b:XM PyData):XM PyData:=fun U=>(a U).bind (zj b)
@[simp] def uK(a b:XM PyData):XM PyData:=fun U=>(a U).bind (zk b)
theorem fo(i:FE X F E a h)(j:FE X F E (.BoolOp .And (b::rest) pos) f):FE X F E (.BoolOp .And (a::b::rest) pos) (fc h f):=(JB i j).imp aD fun U Q q=>aD _ _ _ (fun d l g=>by
 cases d with
 |bool b=>cases b with
  |true=>exact⟨true,rfl,eJ g⟩
  |false=>exact⟨false,rfl,eI g⟩
 |_=>exact g.elim) (bY (k:=zj f) q)
theorem zl(i:FE X F E a h)(j:FE X F E (.BoolOp .Or (b::rest) pos) f):FE X F E (.BoolOp .Or (a::b::rest) pos) (uK h f):=(JC i j).imp aD fun U Q q=>aD _ _ _ (fun d l g=>by
 cases d with
 |bool b=>cases b with
  |true=>exact⟨true,rfl,eJ g⟩
  |false=>exact⟨false,rfl,eI g⟩
 |_=>exact g.elim) (bY (k:=zk f) q)
theorem gJ(h:FE X F E a d):FE X F E (.BoolOp op [a] pos) d:=JA h
@[simp] def uL(p f:Int->Int->Bool)(a b c:XM PyData):XM PyData:=fun U=>(a U).bind fun x g=>(b g).bind fun y d=>match x,y with
 |.int i,.int j=>if p i j=true then(c d).bind (fun z=>lift (match z with |.int k=>some (.bool (f j k)) |_=>none)) else .ok (.bool false) d
 |_,_=>.bad
theorem LU(h:DE X F e (uo p l (wp E o) (wp E r) (wp E n))):FE X F E e (uL p l o r n):=h.imp aD fun U Q q=>by
 refine aD _ _ _ (fun x w t=>?_) (bY q);refine aD _ _ _ (fun y A f=>?_) (bY t);unfold wp at f;cases x with
 |int i=>cases y with
  |int j=>
   refine⟨i,j,rfl,rfl,?_⟩
   by_cases g:p i j=true
   .simp only[if_pos g]at f;rw[if_pos g];refine aD _ _ _ (fun z B u=>?_) (bY (m:=n) (k:=fun z=>lift (match z with |.int k=>some (PyData.bool (l j k)) |_=>none)) f);obtain⟨d,s,v⟩:=dB u;cases z with
    |int k=>cases s;exact⟨k,rfl,v⟩
    |_=>cases s
   .simp only[if_neg g]at f;rw[if_neg g];exact f
  |_=>exact f.elim
 |_=>exact f.elim
@[simp] def fQ(a:XM Bool):XM Bool:=fun U=>(a U).bind fun b d=>.ok (!b) d
theorem gm(h:FB X F E a f):FB X F E (.UnaryOp .Not a pos) (fQ f):=(JF h).imp aD fun U Q q=>aD _ _ _ (fun d g i=>i) (bY (k:=fun b g=>.ok (!b) g) q)
@[simp] def qT(a b:XM Bool):XM Bool:=fun U=>(a U).bind fun x d=>if x=true then b d else .ok false d
@[simp] def iP(a b:XM Bool):XM Bool:=fun U=>(a U).bind fun x d=>if x=true then .ok true d else b d
theorem zm(h:FB X F E a d):FW X F E (.BoolOp .And [a] pos) d:=JI h
theorem lJ(h:FB X F E a d):FW X F E (.BoolOp .Or [a] pos) d:=JK h
theorem zn(j:FB X F E a h)(l:FW X F E (.BoolOp .And (b::rest) pos) f):FW X F E (.BoolOp .And (a::b::rest) pos) (qT h f):=(JL j l).imp aD fun U Q q=>aD _ _ _ (fun d g i=>by
 cases d with
 |true=>exact eJ i
 |false=>exact eI i) (bY (k:=fun x g=>if x=true then f g else .ok false g) q)
theorem lK(j:FB X F E a h)(l:FW X F E (.BoolOp .Or (b::rest) pos) f):FW X F E (.BoolOp .Or (a::b::rest) pos) (iP h f):=(JM j l).imp aD fun U Q q=>aD _ _ _ (fun d g i=>by
 cases d with
 |true=>exact eJ i
 |false=>exact eI i) (bY (k:=fun x g=>if x=true then .ok true g else f g) q)
theorem jC(h:FW X F E e d):FB X F E e d:=h.db
@[simp] def mW{α:Type}(t:XM Bool)(a b:XM α):XM α:=fun U=>(t U).bind fun x d=>if x=true then a d else b d
theorem oO{mt}(j:FB X F E c mt)(l:FE X F E a f)(m:FE X F E b g):FE X F E (.IfExp c a b pos) (mW mt f g):=(JO j l m).imp aD fun U Q q=>aD _ _ _ (fun d h i=>by
 cases d with
 |true=>exact eJ i
 |false=>exact eI i) (bY (k:=fun x h=>if x=true then f h else g h) q)
@[simp]noncomputable def aX:XM (List PyData):=fun U=>.ok [] U
@[simp] def aq(a:XM PyData)(r:XM (List PyData)):XM (List PyData):=fun U=>(a U).bind fun d f=>(r f).bind fun h g=>.ok (d::h) g
theorem bt:FA X F E [] aX:=Jo.imp aD fun _ _ q=>q
theorem LV(l:FE X F E e i)(m:FA X F E es h)(n:autoParam (starEach (e::es) X.env=(false,eval e X.env)::starEach es X.env) Zq._auto_1):FA X F E (e::es) (aq i h):=(Jp l m n).imp aD fun U Q q=>aD _ _ _ (fun d j o=>aD _ _ _ (fun g f p=>p) (bY (k:=fun g f=>.ok (d::g) f) o)) (bY (k:=fun d j=>(h j).bind fun g f=>.ok (d::g) f) q)
@[simp] def dq(a:XM (List PyData)):XM PyData:=fun U=>(a U).bind fun d=>lift (if d.length<=sizeLine then some (.tuple d) else none)
@[simp] def fq(a:XM (List PyData)):XM PyData:=fun U=>(a U).bind fun d=>lift (if d.length<=sizeLine then some (.list d) else none)
theorem dD(h:FA X F E es g):FE X F E (.Tuple es i pos) (dq g):=(Js h).imp aD fun U Q q=>aD _ _ _ (fun m l j=>by
 obtain⟨d,f,k⟩:=dB j;split at f
 .rename_i h;cases f;exact⟨h,k⟩
 .cases f) (bY q)
theorem gn(h:FA X F E es g):FE X F E (.List es pos) (fq g):=(Jt h).imp aD fun U Q q=>aD _ _ _ (fun l k i=>by
 obtain⟨d,f,j⟩:=dB i;split at f
 .rename_i h;cases f;exact⟨h,j⟩
 .cases f) (bY q)
@[simp] def eP(g:List PyData->Option PyData)(a:XM (List PyData)):XM PyData:=fun U=>(a U).bind fun d=>lift (g d)
def FN(f:DN)(g:List PyData->Option PyData):Prop:=∀h d Q,g h=some d->Q d->f h Q
theorem hZ(j:FN f g)(h:DE X F e (oC f (wp E i))):FE X F E e (eP g i):=h.imp aD fun U Q q=>aD _ _ _ (fun n o k=>by
 obtain⟨d,l,m⟩:=dB k;exact j n d _ l m) (bY q)
@[simp]noncomputable def iQ:List PyData->Option PyData:=fun d=>match d with
 |[.list ds]=>some (.int ds.length)
 |[.tuple ds]=>some (.int ds.length)
 |_=>none
theorem oP:FN yJ iQ:=fun f d Q e q=>by
 unfold iQ at e;split at e
 .cases e;exact⟨_,.inl rfl,q⟩
 .cases e;exact⟨_,.inr rfl,q⟩
 .cases e
@[simp]noncomputable def oQ:List PyData->Option PyData:=fun d=>match d with
 |[.int i,.int j]=>some (.int (max i j))
 |_=>none
theorem uM:FN yK oQ:=fun f d Q e q=>by
 unfold oQ at e;split at e
 .cases e;exact⟨_,_,rfl,q⟩
 .cases e
@[simp]noncomputable def qU:List PyData->Option PyData:=fun d=>match d with
 |[.list ds]=>some (.tuple ds)
 |[.tuple ds]=>some (.tuple ds)
 |_=>none
theorem zo:FN yL qU:=fun f d Q e q=>by
 unfold qU at e;split at e
 .cases e;exact .inl ⟨_,rfl,q⟩
 .cases e;exact .inr ⟨_,rfl,q⟩
 .cases e
noncomputable def ints?:List PyData->Option (List Int)
 |[]=>some []
 |.int i::r=>(ints? r).map (i::·)
 |_::_=>none
noncomputable def bools?:List PyData->Option (List Bool)
 |[]=>some []
 |.bool i::r=>(bools? r).map (i::·)
 |_::_=>none
theorem zp:∀{g f},ints? g=some f->g=f.map .int
 |[],_,e=>by cases e;rfl
 |d::r,f,e=>by
  cases d with
  |int i=>
   cases q:ints? r with
   |none=>simp[ints?,q]at e
   |some l=>simp[ints?,q]at e;subst e;rw[zp q];rfl
  |_=>cases e
theorem zq:∀{g f},bools? g=some f->g=f.map .bool
 |[],_,e=>by cases e;rfl
 |d::r,f,e=>by
  cases d with
  |bool i=>
   cases q:bools? r with
   |none=>simp[bools?,q]at e
   |some l=>simp[bools?,q]at e;subst e;rw[zq q];rfl
  |_=>cases e
theorem LW(d):ints? (d.map .int)=some d:=by
 induction d with
 |nil=>rfl
 |cons i r f=>simp[ints?,f]
def mY:List PyData->Option PyData:=fun d=>match d with
 |[.list ds]=>(bools? ds).map fun bs=>.bool (bs.all id)
 |_=>none
theorem LX:FN yN mY:=fun h d Q e q=>by
 unfold mY at e;split at e
 .obtain⟨bs,f,g⟩:=Option.map_eq_some_iff.mp e;rw[zq f];subst g;exact⟨bs,rfl,q⟩
 .cases e
noncomputable def uN:List Int->Option Int
 |[]=>none
 |i::r=>some (r.foldl max i)
theorem LY(r:List Int):∀i,i<=r.foldl max i/\(∀a∈r,a<=r.foldl max i)/\(r.foldl max i=i\/r.foldl max i∈r):=by
 induction r with
 |nil=>intro i;exact⟨Int.le_refl _,fun a h=>(by cases h),.inl rfl⟩
 |cons j r f=>
  intro i;obtain⟨d,h2,h3⟩:=f (max i j);refine⟨Int.le_trans (Int.le_max_left _ _) d,fun a h=>?_,?_⟩
  .rcases List.mem_cons.mp h with rfl |h
   .exact Int.le_trans (Int.le_max_right _ _) d
   .exact h2 a h
  .rcases h3 with h3 |h3
   .rw[List.foldl_cons,h3];rcases Int.le_total i j with q |q
    .exact .inr (by rw[Int.max_eq_right q];exact List.mem_cons_self)
    .exact .inl (Int.max_eq_left q)
   .exact .inr (bC _ h3)
def mZ:List PyData->Option PyData:=fun d=>match d with
 |[.list ds]=>((ints? ds).bind uN).map .int
 |_=>none
theorem LZ:∀j d (Q:PyData->Prop),mZ j=some d->Q d->∃f,j=[.list (f.map .int)]/\f≠[]/\∃M,d=.int M/\M∈f/\(∀a∈f,a<=M):=fun o d Q e q=>by
 unfold mZ at e;split at e
 .obtain⟨M,k,l⟩:=Option.map_eq_some_iff.mp e;obtain⟨f,m,g⟩:=Option.bind_eq_some_iff.mp k;cases f with
  |nil=>cases g
  |cons i r=>
   cases g;obtain⟨n,h2,h3⟩:=LY r i;refine⟨i::r,by rw[zp m],by simp,_,l.symm,?_,fun a h=>?_⟩
   .rcases h3 with h3 |h3
    .rw[h3];exact List.mem_cons_self
    .exact bC _ h3
   .rcases List.mem_cons.mp h with rfl |h
    .exact n
    .exact h2 a h
 .cases e
theorem Ma:FN zd mZ:=fun k d Q e q=>by obtain⟨l,h1,h2,M,h3,g,h⟩:=LZ k d Q e q;refine⟨l,h1,h2,fun f i j=>?_⟩;have:f = M:=Int.le_antisymm (h f i) (j M g);rw[this,<-h3];exact q
@[simp]noncomputable def qV(i:Nat):XM PyData:=fun U=>match U[i]? with
 |some (some (.scr ns))=>if ns.length<=63 then .ok (.int ns.length) U else .bad
 |_=>.bad
@[simp] def qW(i:Nat)(a:XM PyData):XM PyData:=fun U=>match U[i]? with
 |some (some (.scr ns))=>(a U).bind fun d=>lift (match d with |.int k=>(bD ns k).map .int |_=>none)
 |_=>.bad
@[simp]noncomputable def uO(i:Nat):XM Bool:=fun U=>match U[i]? with
 |some (some (.scr ns))=>.ok (decide (ns=[])) U
 |_=>.bad
theorem zr(h:DE X F e (yS i)):FE X F E e (qV i):=h.imp aD fun U Q q=>by
 unfold wp qV at q;cases h:U[i]? with
 |none=>rw[h]at q;exact q.elim
 |some o=>
  rw[h]at q;cases o with
  |none=>exact q.elim
  |some c=>
   cases c with
   |scr ns=>
    simp only at q
    by_cases d:ns.length<=63
    .rw[if_pos d]at q;exact⟨ns,h,fun _=>q⟩
    .rw[if_neg d]at q;exact q.elim
   |_=>exact q.elim
theorem zt(h:DE X F e (yU i (wp E f))):FE X F E e (qW i f):=h.imp aD fun U Q q=>by
 unfold wp qW at q;cases h:U[i]? with
 |none=>rw[h]at q;exact q.elim
 |some o=>
  rw[h]at q;cases o with
  |none=>exact q.elim
  |some c=>
   cases c with
   |scr ns=>
    refine⟨ns,h,aD _ _ _ (fun d s j=>?_) (bY (m:=f) (k:=fun d=>lift (match d with |.int k=>(bD ns k).map PyData.int |_=>none)) q)⟩;obtain⟨y,g,l⟩:=dB j;cases d with
    |int k=>obtain⟨n,p,r⟩:=Option.map_eq_some_iff.mp g;subst r;exact⟨k,n,rfl,p,l⟩
    |_=>cases g
   |_=>exact q.elim
theorem Mb(h:DB X F e (yX i)):FB X F E e (uO i):=h.imp aD fun U Q q=>by
 unfold wp uO at q;cases h:U[i]? with
 |none=>rw[h]at q;exact q.elim
 |some o=>
  rw[h]at q;cases o with
  |none=>exact q.elim
  |some c=>
   cases c with
   |scr ns=>exact⟨ns,h,q⟩
   |_=>exact q.elim
@[simp]noncomputable def aE(i:Nat):GM:=fun d U=>some (U.set i (some (.dat d)))
theorem Mc(h:DG X F e (gN i)):FG X F e (aE i):=⟨fun d U Q g k q=>k _ q,h.pg.imp fun v Y H Q f=>by obtain⟨U,O,d,st,hd,q⟩:=f;exact⟨U,O,d,st,hd,q⟩⟩
abbrev jD:=List PyData->ag->Option ag
def ng(g:jD):ke:=fun d U Q=>match g d U with
 |some f=>Q f
 |none=>False
abbrev qX(X:Cx)(F:Fx)(d:List Expr)(g:jD):Prop:=oE X F d (ng g)
@[simp]noncomputable def fr:jD:=fun d U=>match d with |[]=>some U |_=>none
@[simp] def cD(t:GM)(u:jD):jD:=fun g U=>match g with |d::r=>(t d U).bind fun f=>u r f |[]=>none
theorem Md:∀d U  Q f,(∀h,Q h->f h)->eM g d U Q->eM g d U f:=fun d U Q f k q=>by
 unfold eM at q ⊢;generalize g d U=o at q ⊢;cases o with
 |some h=>exact k _ q
 |none=>exact q
theorem zu:∀d U  Q f,(∀h,Q h->f h)->ng g d U Q->ng g d U f:=fun d U Q f k q=>by
 unfold ng at q ⊢;generalize g d U=o at q ⊢;cases o with
 |some h=>exact k _ q
 |none=>exact q
theorem oR:qX X F [] fr:=⟨zu,Kc.pg.imp fun v Y H Q ⟨U,O,d,st,hd,q⟩=>⟨U,O,d,st,hd,by
 unfold ng fr at q;cases d with
 |nil=>exact⟨rfl,q⟩
 |cons _ _=>exact q.elim⟩⟩
theorem ia(j:FG X F e g)(k:qX X F es f)(i:autoParam ((assignEach (e::es) X.env).map (·.2)=assign e X.env::(assignEach es X.env).map (·.2)) Zq._auto_1):qX X F (e::es) (cD g f):=⟨zu,(Kd j k i).pg.imp fun v Y H Q ⟨U,O,d,st,hd,q⟩=>⟨U,O,d,st,hd,by
 unfold ng cD at q;cases d with
 |nil=>exact q.elim
 |cons d r=>
  refine⟨d,r,rfl,?_⟩;unfold eM;simp only at q;cases h:g d U with
  |none=>rw[h]at q;exact q
  |some l=>rw[h]at q;exact q⟩⟩
@[simp]noncomputable def ft(n:Nat)(t:jD):GM:=fun d U=>match d with |.tuple ds=>if ds.length=n then t ds U else none |_=>none
theorem oS{pos:Pos}{k }(j:X.calm=true)(h:qX X F es i)(l:autoParam ((assignEach es X.env).length=n) Zq._auto_1)(f:autoParam ((assignEach es X.env).findIdx? (·.1)=none) Zq._auto_1):FG X F (.Tuple es k pos) (ft n i):=⟨Md,(Kf j h l f).pg.imp fun v Y H Q ⟨U,O,d,st,hd,q⟩=>⟨U,O,d,st,hd,by
 unfold eM ft at q;cases d with
 |tuple ds=>
  simp only at q
  by_cases g:ds.length=n
  .rw[if_pos g]at q;exact⟨ds,rfl,g,q⟩
  .rw[if_neg g]at q;exact q.elim
 |_=>exact q.elim⟩⟩
@[simp]noncomputable def aG:XM (List AX):=fun U=>.ok [] U
@[simp] def au(a:XM PyData)(r:XM (List AX)):XM (List AX):=fun U=>(a U).bind fun d f=>(r f).bind fun as g=>.ok (.d d::as) g
@[simp] def aY(j:Nat)(r:XM (List AX)):XM (List AX):=fun U=>match U[j]? with
 |some (some _)=>(r U).bind fun as d=>.ok (.s j::as) d
 |_=>.bad
theorem aK:FX X F E [] aG:=KA.imp aD fun _ _ q=>q
theorem Me(j:FE X F E e g)(l:FX X F E es h)(n:autoParam (starEach (e::es) X.env=(false,eval e X.env)::starEach es X.env) Zq._auto_1):FX X F E (e::es) (au g h):=(KB j l n).imp aD fun U Q q=>aD _ _ _ (fun d i o=>aD _ _ _ (fun r f p=>p) (bY (k:=fun as f=>fm.ok (AX.d d::as) f) o)) (bY (m:=g) (k:=fun d i=>(h i).bind fun as f=>fm.ok (AX.d d::as) f) q)
theorem Mf(g:PE X (.Name x p) (bw j))(i:FX X F E es d)(l:autoParam (starEach (.Name x p::es) X.env=(false,eval (.Name x p) X.env)::starEach es X.env) Zq._auto_1):FX X F E (.Name x p::es) (aY j d):=(KC g i l).imp aD fun U Q q=>by
 unfold wp aY at q;cases h:U[j]? with
 |none=>rw[h]at q;exact q.elim
 |some o=>
  rw[h]at q;cases o with
  |none=>exact q.elim
  |some c=>exact⟨⟨c,h⟩,aD _ _ _ (fun as f n=>n) (bY (m:=d) (k:=fun as f=>fm.ok (AX.s j::as) f) (show wp E (fun U=>(d U).bind fun as f=>fm.ok (AX.s j::as) f) U Q from q))⟩
@[simp] def kq(f:FM)(as:List AX):XM ae:=fun U=>match gH U as with
 |some (h,g)=>(match f h with
  |.rt c d=>.ok c (eg g d (eZ g U))
  |.ex c d=>.ex c (eg g d (eZ g U))
  |.bad=>.bad)
 |none=>.bad
@[simp] def aO(f:FM)(a:XM (List AX)):XM ae:=fun U=>(a U).bind (kq f)
theorem zv(h:DO X F e (uz g E (wp E j))):FO X F E e (aO g j):=h.imp aD fun U Q q=>aD _ _ _ (fun as m d=>by
 unfold wp kq at d;unfold gk;cases l:gH m as with
 |none=>rw[l]at d;exact d
 |some p=>
  obtain⟨n,o⟩:=p;rw[l]at d;simp only at d ⊢;cases i:g n with
  |rt c f=>rw[i]at d;exact d
  |ex c f=>rw[i]at d;exact d
  |bad=>rw[i]at d;exact d) (bY (k:=kq g) q)
@[simp] def aL(a:XM ae):XM PyData:=fun U=>(a U).bind fun c=>lift (frz c)
theorem aU(h:FO X F E e d):FE X F E e (aL d):=h.de.imp aD fun U Q q=>aD _ _ _ (fun c g f=>dB f) (bY q)
@[simp]noncomputable def bL:SM:=fun U=>.nx U
@[simp]noncomputable def aA(m k:SM):SM:=fun U=>match m U with
 |.nx d=>k d
 |o=>o
theorem bS:ir X F E [] bL:=Ki.imp fun _ _ q=>q
theorem en{st:Stmt}(d:FS X F E st m)(f:ir X F E rest k):ir X F E (st::rest) (aA m k):=(Kj d f).imp fun D U q=>by
 show ck E m _ U;unfold ck aA at q;unfold ck;generalize m U=o at q ⊢;cases o with
 |nx g=>exact q
 |_=>exact q
theorem dt{st:Stmt}(h:FS X F E st m):ir X F E [st] m:=Kk h
@[simp]noncomputable def eN{α:Type}(o:fm α)(k:α->ag->gE):gE:=match o with
 |.ok a U=>k a U
 |.ex c U=>.ex c U
 |.bad=>.bad
theorem fR{m}{k:α->SM}(q:ck E (fun U=>eN (m U) k) D U):wp E m U fun a d=>ck E (k a) D d:=by
 unfold ck eN at q;unfold wp;simp only at q;generalize m U=o at q ⊢;cases o with
 |ok a d=>exact q
 |ex c d=>exact q
 |bad=>exact q
@[simp]noncomputable def uP(o:Option ag):gE:=match o with
 |some U=>.nx U
 |none=>.bad
@[simp] def bO(m:XM PyData)(g:GM):SM:=fun U=>eN (m U) fun d f=>uP (g d f)
theorem zw(q:ck E (bO m g) D U):uv (wp E m) (eM g) D U:=aD _ _ _ (fun d h f=>by
 unfold ck uP at f;unfold eM;simp only at f;generalize g d h=o at f ⊢;cases o with
 |some i=>exact f
 |none=>exact f) (fR (k:=fun d h=>uP (g d h)) q)
theorem zx{pos:Pos}(f:X.N.Nodup)(g:X.N[i]? = some x)(h:gy X.env.scope x)(j:FE X F E e m)(k:autoParam (swapsWith e (some (.Name x d)) pos.line X.env=pure false) Zq._auto_1)
  (l:X.fn x=true\/X.env.scope.names.lookup x=some .local:=by first |exact .inl rfl |exact .inr rfl |assumption):FS X F E (.Assign [.Name x d] e pos) (bO m (aE i)):=(Kl f g h j k l).imp fun D U q=>zw q
@[simp]noncomputable def uQ(i:Nat)(c:ae):SM:=fun d=>if i<d.length then(match c with |.own true _=>.bad |c=>.nx (d.set i (some c))) else .bad
@[simp] def fu(i:Nat)(m:XM ae):SM:=fun U=>eN (m U) (uQ i)
theorem Mg{pos:Pos}(j:X.N.Nodup)(l:X.N[i]? = some x)(n:gy X.env.scope x)(o:FO X F E e m)(p:autoParam (swapsWith e (some (.Name x g)) pos.line X.env=pure false) Zq._auto_1)
  (r:X.fn x=true\/X.env.scope.names.lookup x=some .local:=by first |exact .inl rfl |exact .inr rfl |assumption):FS X F E (.Assign [.Name x g] e pos) (fu i m):=(Kr j l n o p r).imp fun D U q=>aD _ _ _ (fun c s f=>by
 unfold ck uQ at f
 by_cases h:i<s.length
 .simp only[if_pos h]at f;cases c with
  |own io b=>cases io with
   |true=>exact f.elim
   |false=>exact⟨h,(fun _ z=>by cases z),f⟩
  |dat d=>exact⟨h,(fun _ z=>by cases z),f⟩
  |scr d=>exact⟨h,(fun _ z=>by cases z),f⟩
  |exc d=>exact⟨h,(fun _ z=>by cases z),f⟩
  |vw d=>exact⟨h,(fun _ z=>by cases z),f⟩
 .simp only[if_neg h]at f) (fR (k:=uQ i) q)
@[simp] def bu(m:XM PyData):SM:=fun U=>eN (m U) fun d f=>.rt (.dat d) f
@[simp] def dR(m:XM ae):SM:=fun U=>eN (m U) fun c d=>.rt c d
@[simp] def iu(m:XM ae):SM:=fun U=>eN (m U) fun _ d=>.nx d
theorem Mh(g:FE X F E e m):FS X F E (.Return (some e) pos) (bu m):=(Kn g).imp fun D U q=>aD _ _ _ (fun c f h=>h) (fR (k:=fun d f=>.rt (.dat d) f) q)
theorem nh(g:FO X F E e m):FS X F E (.Return (some e) pos) (dR m):=(Kp g).imp fun D U q=>aD _ _ _ (fun c f h=>h) (fR (k:=fun d f=>.rt d f) q)
theorem Mi(f:FO X F E e m)(g:autoParam (swapsWith e none pos.line X.env=pure false) Zq._auto_1):FS X F E (.Expr e pos) (iu m):=(Kt f g).imp fun D U q=>aD _ _ _ (fun c d h=>h) (fR (k:=fun _ d=>.nx d) q)
@[simp] def bI(t:XM Bool)(a b:SM):SM:=fun U=>eN (t U) fun x d=>if x=true then a d else b d
theorem oU{mt}(m:FB X F E d mt)(n:ir X F E l f)(o:ir X F E i g):FS X F E (.If d l i pos) (bI mt f g):=(Kv m n o).imp fun D U q=>aD _ _ _ (fun x h j=>by
 cases x with
 |true=>exact eJ j
 |false=>exact eI j) (fR (k:=fun x h=>if x=true then f h else g h) q)
noncomputable def cE(d n:String):Option Bool:=if d=n then some true else
 if d="bool"/\n="int" then some true else
 if (d="int"\/d="bool"\/d="str"\/d="list"\/d="tuple"\/d="NoneType")/\(n="int"\/n="bool"\/n="str"\/n="list"\/n="tuple") then some false else none
theorem Mj(h:cE d n=some b)(K):kitOne K (.type d) (.type n)=some b:=by
 unfold cE at h;split at h
 .rename_i e;cases h;subst e;unfold kitOne;rw[if_pos (by simp)]
 .split at h
  .rename_i e;cases h;obtain⟨rfl,rfl⟩:=e;rfl
  .rename_i a c;split at h
   .rename_i e;cases h;obtain⟨f,g⟩:=e;rcases f with rfl |rfl |rfl |rfl |rfl |rfl<;>rcases g with rfl |rfl |rfl |rfl |rfl<;>first |rfl |(exact absurd rfl a) |(exact absurd ⟨rfl,rfl⟩ c)
   .cases h
@[simp] def jE(n:String)(a:XM PyData):XM PyData:=fun U=>(a U).bind fun d=>lift ((cE (uf d) n).map .bool)
theorem kt(h:DE X F e (yu n (wp E f))):FE X F E e (jE n f):=h.imp aD fun U Q q=>aD _ _ _ (fun d m g=>by
 obtain⟨y,i,j⟩:=dB g;obtain⟨b,k,l⟩:=Option.map_eq_some_iff.mp i;subst l;exact⟨b,Mj k,j⟩) (bY q)
noncomputable def df(g:GM)(b:SM):List PyData->SM
 |[],U=>.nx U
 |d::r,U=>(match g d U with
  |some h=>(match b h with
   |.nx f=>df g b r f
   |.ct f=>df g b r f
   |.bk f=>.nx f
   |o=>o)
  |none=>.bad)
@[simp] def ib(s:XM (List PyData))(g:GM)(b:SM):SM:=fun U=>eN (s U) (df g b)
theorem Ml(t:PassesOwn (model X.prog X.w) X.A X.env X.xe)(u:X.calm=true)(f:FI X F E n iter s)(v:FG X F n g)(G:ir X F E body l)(y:autoParam (∀x,foldedSetIterable iter X.env x=pure x) Zs._auto_1):FS X F E (.For n iter body [] pos) (ib s g l):=
 (KP t u f v G y).imp fun D U q=>aD _ _ _ (fun j p z=>by
  refine⟨fun i U=>ck E (df g l (j.drop i)) D U,z,fun i d U hd f=>?_,fun U h=>?_⟩
  .have e:j.drop i=d::j.drop (i+1):=by obtain⟨r,B⟩:=List.getElem?_eq_some_iff.mp hd;rw[<-B];exact List.drop_eq_getElem_cons r
   simp only[e]at f;unfold ck df at f;unfold eM;generalize g d U=o at f ⊢;cases o with
   |none=>exact f
   |some p=>
    show ck E l _ p;simp only at f;unfold ck;generalize l p=C at f ⊢;cases C with
    |nx m=>exact f
    |ct m=>exact f
    |bk m=>exact f
    |rt c m=>exact f
    |ex c m=>exact f
    |bad=>exact f
  .simp only[List.drop_length]at h;exact h) (fR (k:=df g l) q)
@[simp] def lL(a:XM PyData):XM (List PyData):=fun U=>(a U).bind fun d=>lift (match d with |.list ds=>some ds |_=>none)
@[simp] def ku(a:XM PyData):XM (List PyData):=fun U=>(a U).bind fun d=>lift (match d with |.tuple ds=>some ds |_=>none)
theorem DI.imp(h:DI X F g iter t)(l:∀U Q i,(∀d j,Q d j->i d j)->t' U Q->t' U i)(k:∀U Q,t' U Q->t U Q):DI X F g iter t':=⟨l,h.pi.imp fun Y H Q f=>by obtain⟨U,O,st,q⟩:=f;exact⟨U,O,st,k U _ q⟩⟩
theorem uR(h:FE X F E e f):FI X F E i e (lL f):=(KJ h).imp aD fun U Q q=>aD _ _ _ (fun d l j=>by
 obtain⟨y,g,k⟩:=dB j;cases d with
 |list ds=>cases g;exact⟨_,rfl,k⟩
 |_=>cases g) (bY q)
theorem lM(h:FE X F E e f):FI X F E i e (ku f):=(KL h).imp aD fun U Q q=>aD _ _ _ (fun d l j=>by
 obtain⟨y,g,k⟩:=dB j;cases d with
 |tuple ds=>cases g;exact⟨_,rfl,k⟩
 |_=>cases g) (bY q)
@[simp] def gK(g:List PyData->Option (List PyData))(a:XM (List PyData)):XM (List PyData):=fun U=>(a U).bind fun d=>lift (g d)
@[simp] def cf:List PyData->Option (List PyData):=fun d=>match d with
 |[.int j]=>if (decide (-(2 ^ 62)<=j)&&decide (j<2 ^ 62))=true then some (intsFrom 0 j.toNat) else none
 |_=>none
theorem oV(h:DI X F f e (yF (wp E g))):FI X F E f e (gK cf g):=h.imp aD fun U Q q=>aD _ _ _ (fun l k i=>by
 obtain⟨y,d,j⟩:=dB i;unfold cf at d;split at d
 .split at d
  .rename_i h;cases d;simp only[Bool.and_eq_true,decide_eq_true_eq]at h;exact⟨_,rfl,h.1,h.2,j⟩
  .cases d
 .cases d) (bY q)
@[simp] def lN:List PyData->Option (List PyData):=fun d=>match d with
 |[.list ds]=>some (numbered ds)
 |_=>none
theorem Mm(h:DI X F f e (iE (wp E g))):FI X F E f e (gK lN g):=h.imp aD fun U Q q=>aD _ _ _ (fun l k i=>by
 obtain⟨y,d,j⟩:=dB i;unfold lN at d;split at d
 .cases d;exact⟨_,rfl,j⟩
 .cases d) (bY q)
noncomputable def cp(g:GM)(t:XM Bool)(m:XM PyData):List PyData->List PyData->ag->Option (List PyData)
 |[],f,_=>some f
 |d::r,f,U=>(match g d U with
  |some i=>(match t i with
   |.ok true h=>(match m h with
    |.ok y j=>if f.length<sizeLine then cp g t m r (f++[y]) j else none
    |_=>none)
   |.ok false h=>cp g t m r f h
   |_=>none)
  |none=>none)
@[simp] def jF(own:Nat)(d:List Nat)(U:ag):ag:=List.replicate own none++d.map fun j=>qR U[j]?
@[simp] def zy(own:Nat)(d:List Nat)(g:GM)(t:XM Bool)(m:XM PyData)(f:List PyData):XM PyData:=fun h=>lift ((cp g t m f [] (jF own d h)).bind fun i=>if i.length<=sizeLine then some (.list i) else none) h
@[simp] def jG(own:Nat)(d:List Nat)(s:XM (List PyData))(g:GM)(t:XM Bool)(m:XM PyData):XM PyData:=fun U=>(s U).bind (zy own d g t m)
abbrev cX:Str->ag->Prop:=fun _ _=>False
theorem zG(q:wp E (jG own.length j s g t m) U Q):oH own j (wp E s) (eM g) (wp cX t) (wp cX m) U Q:=aD _ _ _ (fun l r G=>by
 obtain⟨y,H,A⟩:=dB (o:=(cp g t m l [] (jF own.length j r)).bind fun p=>if p.length<=sizeLine then some (PyData.list p) else none) (U:=r) (E:=E) (Q:=Q) G;obtain⟨n,I,u⟩:=Option.bind_eq_some_iff.mp H;have B:n.length<=sizeLine/\y=.list n:=by
  split at u
  .rename_i h;cases u;exact⟨h,rfl⟩
  .cases u
 have J:dE own j r=jF own.length j r:=by unfold dE jF;rw[List.map_const']
 refine⟨fun i p U=>cp g t m (l.drop i) p U=some n,by rw[J];exact I,fun i d p U hd f=>?_,fun p U h=>?_⟩
 .have e:l.drop i=d::l.drop (i+1):=by obtain⟨v,L⟩:=List.getElem?_eq_some_iff.mp hd;rw[<-L];exact List.drop_eq_getElem_cons v
  simp only[e]at f;unfold cp at f;unfold eM;cases C:g d U with
  |none=>rw[C]at f;cases f
  |some M=>
   rw[C]at f;simp only at f ⊢;unfold wp;cases w:t M with
   |ex c D=>rw[w]at f;cases f
   |bad=>rw[w]at f;cases f
   |ok b D=>
    rw[w]at f;cases b with
    |false=>exact eI f
    |true=>
     refine eJ ?_;simp only at f ⊢;cases z:m D with
     |ex c N=>rw[z]at f;cases f
     |bad=>rw[z]at f;cases f
     |ok O N=>
      rw[z]at f;simp only at f ⊢;split at f
      .rename_i h;exact⟨h,f⟩
      .cases f
 .simp only[List.drop_length]at h;have:p=n:=by unfold cp at h;exact Option.some.inj h
  subst this;rw[B.2]at A;exact⟨B.1,A⟩) (bY (k:=zy own.length j g t m) q)
abbrev lO(X:Cx)(F:Fx)(E:Str->ag->Prop)(d:List Expr)(m:XM Bool):Prop:=mT X F d (wp E m)
noncomputable def du:XM Bool:=fun U=>.ok true U
theorem kv:lO X F E [] du:=⟨aD,fun d s Y H Q I f=>by obtain⟨U,O,st,q⟩:=f;exact KR.2 d s Y H Q I ⟨U,O,st,q⟩⟩
theorem zH(h:FB X F E c d):lO X F E [c] d:=KS h
theorem qY(w:GF X.mg F)(S:al X d own f h)(y:X.calm=true)(z:own.length=n)(A:FI X F E l iter s)
  (o:∀C p r u v k,GF X.mg k->FG (bU X d (own++f) C p r u v) k l g/\lO (bU X d (own++f) C p r u v) k cX j t/\FE (bU X d (own++f) C p r u v) k cX i m)
  (B:autoParam (∀x,foldedSetIterable iter X.env x=pure x) Zs._auto_1):FE X F E (.ListComp i [⟨l,iter,j,0⟩] d pos) (jG n h s g t m):=by
 subst z;exact(KU w S y A o B).imp aD fun U Q q=>zG q
theorem zI{j}(H:X.N.Nodup)(r:X.N[i]? = some y)(I:gy X.env.scope y)(J:GF X.mg F)(S:al X f own capN caps)(L:X.calm=true)(M:own.length=n)(O:FI X F E o iter s)
  (u:∀C v w z B p,GF X.mg p->FG (bU X f (own++capN) C v w z B) p o g/\lO (bU X f (own++capN) C v w z B) p cX l t/\FE (bU X f (own++capN) C v w z B) p cX k m)
  (A:autoParam (swapsWith (.ListComp k [⟨o,iter,l,0⟩] f pos) (some (.Name y py)) j.line X.env=pure true) Zq._auto_1)
  (R:autoParam (∀x,foldedSetIterable iter X.env x=pure x) Zs._auto_1) (T:X.fn y=true\/X.env.scope.names.lookup y=some .local:=by first |exact .inl rfl |exact .inr rfl |assumption) :
  FS X F E (.Assign [.Name y py] (.ListComp k [⟨o,iter,l,0⟩] f pos) j) (bO (jG n caps s g t m) (aE i)):=by
 subst M;exact(KW H r I J S L O u A R T).imp fun D U q=>by have Y:=zw q;exact uB (s:=wp E s) aD U _ _ (fun d G h=>h) (zG (Q:=fun d G=>eM (aE i) d G D.nx) Y)
theorem ay.fresh{K:Frag}(st:ay K F H Y U O)(c:H p=none)(d:Mv o):∃O',ay K (F.plus [p]) (aB H p o) Y U O'/\aH O H O' (aB H p o):=by obtain⟨O',h1,h2,_⟩:=ay.swap (L:=[]) (L':=[p]) (H':=aB H p o) (F:=F) st (fun b u _ e=>ca c b u e) (by simp) (fun a h=>.inr (by obtain rfl:=List.mem_singleton.mp h;exact c)) (fun a h=>by cases h) (fun a h=>by obtain rfl:=List.mem_singleton.mp h;exact⟨o,bP,d⟩);exact⟨O',h1,h2⟩
theorem ay.new1{K:Frag}(st:ay K F H Y U O)(c:H p=none):∀a∈[p],a∈F.A₀\/F.H₀ a=none:=fun a h=>by
 obtain rfl:=List.mem_singleton.mp h
 by_cases b:a∈F.A₀
 .exact .inl b
 .refine .inr ?_;cases e:F.H₀ a with
  |none=>rfl
  |some o=>obtain⟨W,h,_⟩:=st;have:=h.kept a o b e;rw[c]at this;cases this
def Mo(t:ef):hU:=fun U Q=>t U fun d f=>d.length<=sizeLine/\Q (.own false (.l d)) f
theorem Mp(h:DA X F es j):DO X F (.List es pos) (Mo j):=
 ⟨fun _ _ _ k q=>h.mn _ _ _ (fun _ _ d=>⟨d.1,k _ _ d.2⟩) q,(jY h.pa).imp fun Y H Q f=>by obtain⟨U,O,st,q⟩:=f;exact 
  ⟨U,O,st,h.mn _ _ _ (fun y u d l v w g s m=>⟨by rw[m.length];exact d.1,fun p n=>by
   obtain⟨t,i,r⟩:=g.fresh (o:=.lst l) n trivial;exact d.2 _ _ t [p] ⟨i,⟨p,rfl,rfl,l,bP,aC.mono r.hid m⟩,g.new1 n⟩ (s.trans r)⟩) q⟩⟩
@[simp] def jH(a:XM (List PyData)):XM ae:=fun U=>(a U).bind fun d=>lift (if d.length<=sizeLine then some (.own false (.l d)) else none)
theorem ni(h:FA X F E es g):FO X F E (.List es pos) (jH g):=(Mp h).imp aD fun U Q q=>aD _ _ _ (fun l k i=>by
 obtain⟨d,f,j⟩:=dB i;split at f
 .rename_i h;cases f;exact⟨h,j⟩
 .cases f) (bY q)
@[simp]noncomputable def uS(i:Nat)(d:PyData):SM:=fun f=>match f[i]? with
 |some (some (.own io (.l ds)))=>if ds.length<sizeLine then .nx (f.set i (some (.own io (.l (ds++[d]))))) else .bad
 |_=>.bad
@[simp] def nj(i:Nat)(m:XM PyData):SM:=fun U=>match U[i]? with
 |some (some (.own _ (.l _)))=>eN (m U) (uS i)
 |_=>.bad
theorem zJ{pos:Pos}(Q:PE X (.Name x r) (bw i))(R:FE X F E e m)(z:autoParam (swapsWith (.Call (.Attribute (.Name x r) "append" apos) [e] [] g) none pos.line X.env=pure false) Zq._auto_1)
  (n:autoParam (attributeBase (.Name x r) "append" X.env (eval (.Name x r) X.env)=eval (.Name x r) X.env) Zq._auto_1)
  (t:autoParam (((backTo g (starEach [e] X.env)).all (fun x=>!x.1)&&(backToKw g (keywordEach [] X.env)).all (fun x=>x.1.isSome)&&decide (([e]:List Expr).length+([]:List Keyword).length+(if ([]:List Keyword).isEmpty then 0 else 1)<30))=true) Zq._auto_1)
  (p:autoParam ((apos.endLine==g.line)=true) Zq._auto_1) (N:autoParam (starEach [e] X.env=(false,eval e X.env)::starEach [] X.env) Zq._auto_1) (j:autoParam ((backTo g (starEach [] X.env)).any (·.1)=false) Zq._auto_1) :
  FS X F E (.Expr (.Call (.Attribute (.Name x r) "append" apos) [e] [] g) pos) (nj i m):=
 (mF (mJ PySem.F.plainAttrs_list PySem.F.slot_list_append PySem.F.type_list_append qz Q (cJ R.pe dj N) n t p N j) z).imp fun D Y H u=>by
  obtain⟨U,O,DD,st,q,f⟩:=u;unfold ck nj at q;cases A:U[i]? with
  |none=>rw[A]at q;exact q.elim
  |some o=>
   rw[A]at q;cases o with
   |none=>exact q.elim
   |some S=>
    cases S with
    |dat d=>exact q.elim
    |scr d=>exact q.elim
    |exc d=>exact q.elim
    |vw d=>exact q.elim
    |own T Z=>
     cases Z with
     |m _ _=>exact q.elim
     |o _ _=>exact q.elim
     |sd _=>exact q.elim
     |ll _=>exact q.elim
     |pr _ _ _=>exact q.elim
     |oo _ _=>exact q.elim
     |l a0=>
      obtain⟨a,fp,v,⟨_,xs,hH,_⟩,_,_⟩:=st.box A;refine⟨_,v,.inl ⟨rfl,xs,.of hH⟩,U,O,st,aD _ _ _ (fun d U1 h w H1 O1 B s1 d1=>?_) (fR (m:=m) (k:=uS i) q)⟩;unfold ck uS at h;cases h1:U1[i]? with
      |none=>rw[h1]at h;exact h.elim
      |some o=>
       rw[h1]at h;cases o with
       |none=>exact h.elim
       |some c1=>
        cases c1 with
        |dat d=>exact h.elim
        |scr d=>exact h.elim
        |exc d=>exact h.elim
        |vw d=>exact h.elim
        |own a2 b1=>
         cases b1 with
         |m _ _=>exact h.elim
         |o _ _=>exact h.elim
         |sd _=>exact h.elim
         |ll _=>exact h.elim
         |pr _ _ _=>exact h.elim
         |oo _ _=>exact h.elim
         |l ds=>
          simp only at h;obtain⟨a1,a3,y,⟨e1,C,I,hd⟩,hO,up⟩:=B.box h1;rw[v]at y;cases y;subst e1
          by_cases J:ds.length<sizeLine
          .rw[if_pos J]at h;refine⟨a,C,w,rfl,rfl,I,by rw[hd.length];exact J,?_⟩;obtain⟨O2,L,s2,_⟩:=up (aB H1 a (.lst (C++[w]))) (.l (ds++[d])) [a] (fun c o M e=>by rw[aV (by simpa using M)];exact e) (by simp) (fun c M=>.inl M) (fun G O' s hG _=>by
            subst hG;exact⟨s.hid,rfl,C++[w],bP,(aC.mono s.hid hd).append (.cons (DV.mono s.hid d1) .nil)⟩)
           exact f.nx _ _ _ _ L (s1.trans s2) h
          .rw[if_neg J]at h;exact h.elim
@[simp]noncomputable def Mq:ae->Option PyData
 |.dat (.list ds)=>some (.int ds.length)
 |.dat (.tuple ds)=>some (.int ds.length)
 |.own _ (.l ds)=>some (.int ds.length)
 |_=>none
@[simp] def uT(i:Nat):XM PyData:=fun U=>match U[i]? with
 |some (some c)=>lift (Mq c) U
 |_=>.bad
theorem Mr{F:Fx}{E:Str->ag->Prop}{pos:Pos}{p }(u:Gl X "len")(w:X.mg "len" = none)(h:PE X (.Name x k) (bw i))(t:autoParam (starEach [.Name x k] X.env=(false,eval (.Name x k) X.env)::starEach [] X.env) Zq._auto_1)(r:autoParam ((backTo pos (starEach [] X.env)).any (·.1)=false) Zq._auto_1) :
  FE X F E (.Call (.Name "len" p) [.Name x k] [] pos) (uT i):=
 ⟨aD,(mG lA u w PySem.boot_len (cJ h dj t) (by decide) (by decide) t r).imp fun Y H Q f=>by
  obtain⟨U,O,st,q⟩:=f;unfold wp uT at q;cases m:U[i]? with
  |none=>rw[m]at q;exact q.elim
  |some o=>
   rw[m]at q;cases o with
   |none=>exact q.elim
   |some y=>
    unfold lift at q;cases y with
    |scr d=>exact q.elim
    |exc d=>exact q.elim
    |vw d=>exact q.elim
    |dat d=>
     obtain⟨v,n,hd⟩:=st.dat m;cases d with
     |list ds=>obtain⟨a,g,rfl,s,j⟩:=hd.lst_inv;exact⟨_,n,a,g,rfl,.inl (.of (cV s).1),by rw[j.length];exact q _ H O st .refl (.int _)⟩
     |tuple ds=>obtain⟨a,g,rfl,s,j⟩:=hd.tup_inv;exact⟨_,n,a,g,rfl,.inr (.inl (jv s).1),by rw[j.length];exact q _ H O st .refl (.int _)⟩
     |_=>exact q.elim
    |own io b=>
     cases b with
     |l ds=>obtain⟨a,A,n,⟨_,g,z,j⟩,_,_⟩:=st.box m;exact⟨_,n,a,g,rfl,.inl (.of z),by rw[j.length];exact q _ H O st .refl (.int _)⟩
     |_=>exact q.elim⟩
noncomputable def iR:PyData->Option bf
 |.int i=>some (.inl i)
 |.str x=>some (.inr x)
 |_=>none
def iS:List PyData->Option (List bf)
 |[]=>some []
 |d::r=>(match iR d,iS r with |some k,some l=>some (k::l) |_,_=>none)
def iw:Bool->PyData->Option (List bf)
 |false,d=>(iR d).map fun k=>[k]
 |true,.tuple ds=>iS ds
 |true,_=>none
abbrev jI:=List (PyData×PyData)
def kw(a:Bool):jI->List bf->Option PyData
 |[],_=>none
 |p::r,k=>if iw a p.1=some k then some p.2 else kw a r k
def lP(a:Bool)(k:List bf)(v:PyData):jI->jI
 |[]=>[]
 |p::r=>(if iw a p.1=some k then(p.1,v) else p)::lP a k v r
def ky(b:Bool)(a:jI)(d:PyData)(k:List bf)(v:PyData):jI:=if (kw b a k).isSome=true then lP b k v a else a++[(d,v)]
theorem zK(h:DV G v d)(e:iR d=some k):v=kV k:=by
 cases d with
 |int i=>cases e;exact h.int_inv
 |str x=>cases e;exact h.str_inv
 |_=>cases e
theorem uU:iR (iq k)=some k:=by cases k<;>rfl
theorem zL(e:iR d=some k):d=iq k:=by
 cases d with
 |int i=>cases e;rfl
 |str x=>cases e;rfl
 |_=>cases e
theorem zM:∀{a},iS (a.map iq)=some a
 |[]=>rfl
 |k::r=>by show(match iR (iq k),iS (r.map iq) with |some k,some l=>some (k::l) |_,_=>none)=_;rw[uU,zM]
theorem uV:∀{b a},iS b=some a->b=a.map iq
 |[],a,e=>by cases e;rfl
 |d::r,a,e=>by
  unfold iS at e;cases h1:iR d with
  |none=>rw[h1]at e;cases e
  |some k=>
   cases h2:iS r with
   |none=>rw[h1,h2]at e;cases e
   |some l=>rw[h1,h2]at e;cases e;rw[zL h1,uV h2];rfl
theorem zN:∀{a}{b:List bf},aC G a (b.map iq)->a=b.map kV
 |[],[],_=>rfl
 |_::_,k::r,.cons h1 h2=>by rw[zK h1 uU,zN h2];rfl
theorem zO[DecidableEq κ]{R:κ->PyData->Prop}{G}{f}{inj:κ->List bf}(g:∀k d,R k d->iw f d=some (inj k))(j:∀a b,inj a=inj b->a=b) :
  ∀{i}{c:jI} k,Paired (fun(p:κ×V) (q:PyData×PyData)=>R p.1 q.1/\DV G p.2 q.2) i c->(iK i k=none/\kw f c (inj k)=none)\/∃v d,iK i k=some v/\kw f c (inj k)=some d/\DV G v d
 |[],[],k,_=>.inl ⟨rfl,rfl⟩
 |p::r,q::s,k,.cons h t=>by
  by_cases e:p.1=k
  .refine .inr ⟨p.2,q.2,tU e,?_,h.2⟩;unfold kw;rw[if_pos (by rw[g _ _ h.1,e])]
  .rw[tV e];unfold kw;rw[if_neg (by rw[g _ _ h.1];exact fun z=>e (j _ _ (Option.some.inj z)))];exact zO g j k t
theorem zP[DecidableEq κ]{R:κ->PyData->Prop}{G}{i}{inj:κ->List bf}(f:∀k d,R k d->iw i d=some (inj k))(j:∀a b,inj a=inj b->a=b){v}{x}(l:DV G v x) :
  ∀{m}{c:jI} k,Paired (fun(p:κ×V) (q:PyData×PyData)=>R p.1 q.1/\DV G p.2 q.2) m c->Paired (fun(p:κ×V) (q:PyData×PyData)=>R p.1 q.1/\DV G p.2 q.2) (m.map fun g=>if g.1=k then(g.1,v) else g) (lP i (inj k) x c)
 |[],[],k,_=>.nil
 |p::r,q::s,k,.cons h t=>by
  refine .cons ?_ (zP f j l k t);dsimp only
  by_cases e:p.1=k
  .rw[if_pos e,if_pos (by rw[f _ _ h.1,e])];exact⟨h.1,l⟩
  .rw[if_neg e,if_neg (by rw[f _ _ h.1];exact fun z=>e (j _ _ (Option.some.inj z)))];exact h
theorem zQ:∀{a b}{c:List α}{d},Paired R a b->Paired R c d->Paired R (a++c) (b++d)
 |_,_,_,_,.nil,h=>h
 |_,_,_,_,.cons h t,r=>.cons h (zQ t r)
theorem zR[DecidableEq κ]{R:κ->PyData->Prop}{G}{g}{inj:κ->List bf}(i:∀k d,R k d->iw g d=some (inj k))(j:∀a b,inj a=inj b->a=b){v}{x d}(l:DV G v x)
  {m}{c:jI}{k}(hd:R k d) (h:Paired (fun(p:κ×V) (q:PyData×PyData)=>R p.1 q.1/\DV G p.2 q.2) m c):Paired (fun(p:κ×V) (q:PyData×PyData)=>R p.1 q.1/\DV G p.2 q.2) (fi m k v) (ky g c d (inj k) x):=by
 rcases zO i j k h with⟨e,f⟩ |⟨n,o,e,f,_⟩
 .rw[Iq v e];unfold ky;rw[f,if_neg (by simp)];exact zQ h (.cons ⟨hd,l⟩ .nil)
 .unfold ky;rw[f,if_pos (by rfl)];unfold fi;rw[if_pos (by rw[qA,e];rfl)];exact zP i j l k h
theorem Ms:∀k  d,iq k=d->iw false d=some [k]:=fun k d e=>by subst e;show(iR (iq k)).map _=_;rw[uU];rfl
theorem uW:∀(a b:bf),[a]=[b]->a=b:=fun a b e=>by cases e;rfl
theorem uX:∀k  d,qH k=d->iw true d=some k:=fun k d e=>by subst e;exact zM
@[simp] def oW(a:Bool)(d:PyData):Option (List bf):=match d with
 |.tuple []=>none
 |d=>iw a d
theorem Mt(e:oW a d=some k):iw a d=some k/\d≠.tuple []:=by
 unfold oW at e;split at e
 .cases e
 .rename_i h;exact⟨e,h⟩
theorem zS:∀{ds k},iS ds=some k->ds≠[]->cP ds=false
 |[],_,_,h=>absurd rfl h
 |[d],k,e,_=>by cases d<;>first |rfl |(simp[iS,iR]at e)
 |d::f::r,k,e,_=>by
  unfold iS at e;split at e
  .rename_i g l a b;have c:=zS (ds:=f::r) b (by simp);cases d<;>first |(exact(by simpa[cP] using c)) |(exfalso;simp[iR]at a)
  .cases e
theorem Mu{kvs:jI}(h:jw G H a tk kvs)(p:bQ G H)(i:DV G y d)(j:DV G v x)(e:oW tk d=some k)(l:kvs.length<sizeLine) :
  ∃o,lC H a y v (aB H a o)/\Mv o/\∀c,bQ G c->jw c (aB H a o) a tk (ky tk kvs d k x):=by
 obtain⟨e,f⟩:=Mt e;cases tk with
 |false=>obtain⟨q,g,pr⟩:=h;obtain⟨u,m,r⟩:=Option.map_eq_some_iff.mp e;subst r;obtain rfl:=zK i m;refine⟨_,.k g (by rw[Paired.length pr];exact l),trivial,fun c s=>⟨_,bP,zR Ms uW (DV.mono s j) (zL m).symm (Paired.mapP pr fun _ _ z=>⟨z.1,DV.mono s z.2⟩)⟩⟩
 |true=>
  obtain⟨q,g,pr⟩:=h;cases d with
  |tuple ds=>obtain⟨b,w,rfl,hb,n⟩:=i.tup_invK (zS e fun z=>f (by rw[z]));rw[uV e]at n;rw[zN n]at hb;exact⟨_,.t g (p _ _ hb) (by rw[Paired.length pr];exact l),trivial,fun c s=>⟨_,bP,zR (inj:=id) uX (fun _ _ z=>z) (DV.mono s j) (show qH k=_ by unfold qH;rw[<-uV e]) (Paired.mapP pr fun _ _ z=>⟨z.1,DV.mono s z.2⟩)⟩⟩
  |_=>cases e
@[simp] def uY:List PyData->Option PyData:=fun f=>match f with
 |[.list as,.list bs,.list d]=>if bs.length=as.length/\d.length=as.length/\0<as.length then some (.list (oK as bs d)) else none
 |_=>none
theorem Mw(h:DE X F e (yP (wp E g))):FE X F E e (eP uY g):=h.imp aD fun U Q q=>aD _ _ _ (fun l k i=>by
 obtain⟨d,f,j⟩:=dB i;unfold uY at f;split at f
 .split at f
  .rename_i h;cases f;exact⟨_,_,_,rfl,h.1,h.2.1,h.2.2,j⟩
  .cases f
 .cases f) (bY q)
@[simp]noncomputable def zT(k:Nat):PyData->Option PyData:=fun d=>match d with |.list ds=>some (.list (ds.drop k)) |_=>none
@[simp] def xU(g:PyData->Option PyData)(a:XM PyData):XM PyData:=fun U=>(a U).bind fun d=>lift (g d)
theorem Mx(h:DE X F e (yR (wp E f) k)):FE X F E e (xU (zT k) f):=h.imp aD fun U Q q=>aD _ _ _ (fun d l i=>by
 obtain⟨y,g,j⟩:=dB i;cases d with
 |list ds=>cases g;exact⟨_,rfl,j⟩
 |_=>cases g) (bY q)
noncomputable abbrev oX:List Value:=[.type "ValueError",.type "Exception",.type "BaseException",.type "object"]
def uZ(h:Heap)(C:Addr):Prop:=∃c N e q bs a f sub g b n i j k l m d,h.get? C=some (excClassObj e q C N bs c a f sub g b n i j k l m "ValueError.__new__")/\h.Ns N d/\d "__init__" = none/\OwnTail h oX c
theorem va{K}(X:K.In h)(e:excIn K C oX "ValueError.__new__" = true):uZ h C:=by
 unfold excIn at e;split at e
 .rename_i j k m n;split at e
  .rename_i I o p q r s J t d a;have f:=e;simp only[Bool.and_eq_true,beq_iff_eq]at f;obtain⟨⟨⟨⟨⟨u,v⟩,g⟩,w⟩,b⟩,i⟩:=f;obtain⟨x,y,L,z,A,B,D,E,G,c,H⟩:=k;obtain⟨l⟩:=m;simp at g d a b i;subst u v g d a;exact⟨o,z,x,A,y,B,D,E,G,c,j,p,q,r,s,t,_,X _ _ n,.of_isNs (PySem.W.isNs_of_in X b),PySem.W.nsMap_none_of_in X b i,PySem.W.tail_of_in X w⟩
  .cases e
 .cases e
structure EC (K:Frag) (mg:Str->Option Value) (c:Str) (C:Addr):Prop where
 mg:mg c=some (.ref C)
 ns:nsIn K mainGlobals c=some (some (.ref C))
 ex:excIn K C oX "ValueError.__new__" = true
@[simp]noncomputable def jJ(c:Str):SM:=fun U=>.ex c U
theorem _root_.L2.Inv.madeX{Y:St}(I:Inv X a Y H s)(m:Heap.MadeExcOf s.heap c e C d):Inv X a Y H { s with heap:=c }/\kd X a s.heap/\eW s.heap H c e C none:=by have hb:∀b,s.heap.get? b=none->H b=none:=fun b z=>bH.some_of I.hok z;obtain⟨t,h1,h2,h3⟩:=m.there;refine⟨I.ch I.cov ⟨fun b o q _ _=>m.keeps b o q,fun b o _ q=>⟨o.slots,m.keeps b o q⟩,fun b o q=>⟨o,m.keeps b o q⟩⟩,I.cov,⟨fun b o q=>⟨o,m.keeps b o q⟩,m.new,hb e m.new,_,_,_,h1,rfl,rfl,rfl,.inl ⟨rfl,rfl⟩⟩⟩
theorem kz{i}{j}{np a pos k}(x:dc X F E)(hh:X.A.handled=none)(y:Gl X c)(l:EC X.K X.mg c C)(n:autoParam ((c==("__debug__":Str))=false) Zr._auto_1)
  (o:autoParam (starEach [.Constant (.str i) j k] X.env=(false,eval (.Constant (.str i) j k) X.env)::starEach [] X.env) Zq._auto_1) :
  FS X F E (.Raise (some (.Call (.Name c np) [.Constant (.str i) j k] [] a)) none pos) (jJ c):=fun b s Y H D I d=>by
 obtain⟨U,O,DD,st,q,f⟩:=d;obtain⟨z,N,B,G,bs,g,J,sub,L,p,dd,M,Q,R,S,Z,mN,hC,hN,t,T⟩:=va I.ok.mod.kin l.ex;refine wpAny_Raise_call_subU (C:=C) (nm:=B) (q:=G) (N:=N) (bs:=bs) (bm:=z) (hdct:=g) (sn:=J) (sub:=sub) (ab:=L) (col:=p) (dd:=dd) (k0:=M) (k1:=Q) (k2:=R) (k3:=S) (k5:=Z) (mN:=mN)
  PySem.F.excBase_ValueError (by decide) PySem.F.excBase_ValueError (T.hasType (by decide)) hh (by rw[o];rfl) t (lx I y l.mg ⟨rfl,?_⟩ n)
 have pa:PA X [.Constant (.str i) j k] _:=cJ (wW (X:=X)) dj o;have w:=pa a b s Y H (fun u v=>u.length=1/\v=H) I (by exact⟨rfl,rfl⟩);rw[o]at w ⊢;refine Calls.evalArgs_plain (aQ w fun us s2 h=>?_);obtain⟨u,v,I1,r,h1,h2⟩:=h;subst h2;refine⟨rfl,by show us.length<=_;rw[<-r.length,h1];decide,I1.bk _ _ hC,hN.keeps I1.bk,T.keeps I1.bk,fun h' e m=>?_⟩;obtain⟨I2,cv,ex⟩:=I1.madeX m;exact x.2 b Y _ _ _ c U O ⟨I2,e,.ref C,s2.heap,none,rfl,cv,ex,l.mg⟩ st q
noncomputable def qZ(K:Frag)(C D:Addr):Bool:=match K.lookup C with
 |some ⟨_,_,.cls a,_⟩=>a.mro.contains (.ref D)
 |_=>false
noncomputable def oY(K:Frag)(C:Addr):Bool:=findIn K (.ref C) "__getattribute__"==some (some (.builtin "BaseException.__getattribute__"))&&findIn K (.ref C) "__class__"==some (some (.builtin "object.__class__"))&&findIn K (.ref C) "__getattr__"==some none &&
 mroIn K C (.type "BaseException")==some true&&mroIn K C (.type "object")==some true
def zU(K:Frag)(D:Addr)(l:List Str):Bool:=l.all fun c=>match nsIn K mainGlobals c with
 |some (some (.ref C))=>excIn K C oX "ValueError.__new__"&&qZ K C D&&oY K C&&(kitOne K (.ref C) (.type "ValueError")==some true)&&l.all fun d=>match nsIn K mainGlobals d with
  |some (some (.ref a))=>kitOne K (.ref C) (.ref a)==some (c==d)
  |_=>false
 |_=>false
structure XT (K:Frag) (mg:Str->Option Value) (l:List Str) (D:Addr):Prop where
 top:EC K mg "DueError" D
 tab:zU K D l=true
 mgs:∀c C,nsIn K mainGlobals c=some (some (.ref C))->mg c=some (.ref C)
theorem XT.at_{K}(x:XT K b l D)(h:c∈l):∃C,EC K b c C/\qZ K C D=true/\oY K C=true/\kitOne K (.ref C) (.type "ValueError")=some true/\
  ∀d∈l,∃a,b d=some (.ref a)/\nsIn K mainGlobals d=some (some (.ref a))/\kitOne K (.ref C) (.ref a)=some (c==d):=by
 have t:=List.all_eq_true.mp x.tab c h;split at t
 .rename_i C e;simp only[Bool.and_eq_true]at t;obtain⟨⟨⟨⟨g,i⟩,j⟩,k⟩,m⟩:=t;refine⟨C,⟨x.mgs c C e,e,g⟩,i,j,by simpa using k,fun d hd=>?_⟩;have u:=List.all_eq_true.mp m d hd;split at u
  .rename_i a f;exact⟨a,x.mgs d a f,f,by simpa using u⟩
  .cases u
 .cases t
theorem My{K}
  (X:K.In h) (e:qZ K C D=true) (p:h.get? C=some (excClassObj f q C N bs d b g sub i c r j k l m n a)):(Value.ref C::d).contains (.ref D)=true:=by
 unfold qZ at e;split at e
 .rename_i o;have:=X _ _ o;rw[p]at this;cases this;exact e
 .cases e
theorem Mz{os}
  (I:uZ h C) (xd:uZ h D) (J:∀{o q N bs k a p sub r i H s u v w x c},h.get? C=some (excClassObj o q C N bs k a p sub r i H s u v w x c)->(Value.ref C::k).contains (.ref D)=true)
  (L:h.get? e=some n) (j:n.cls=.ref C) (O:Q true ⟨h,g,d,t,os⟩):wpAny M A (excMatches (.ref e) (.ref D)) Q E ⟨h,g,d,t,os⟩:=by
 obtain⟨k,N,o,q,bs,a,p,sub,r,i,H,s,u,v,w,x,mN,y,_,_,_⟩:=I;obtain⟨l,N',R,q',S,m,T,z,U,B,Y,Z,a0,a1,a2,a3,a4,G,_,_,T'⟩:=xd;have cB:(Value.ref D::l).contains (.type "BaseException")=true:=by rw[List.contains_cons,T'.hasType (X:="BaseException") (b:=true) (by decide),Bool.or_true]
 have cC:=J y;have f:=tc_notTuple;unfold excMatches
 repeat (first |(with_reducible refine wpAny_loadPart_at L ?_;rw[j]) |with_reducible refine wpAny_loadPart_at G ?_ |(with_reducible refine wpAny_isSubtype_exc G ?_;rw[cB]) |(with_reducible refine wpAny_isSubtype_exc y ?_;rw[cC]) |wp_step)
 exact O
noncomputable abbrev lQ(X:Cx)(A:Around)(b:Bool)(a:List (Addr×Obj))(c:Value->Shared->Prop):Cx:={ X with A:=A,calm:=b,pn:=a,xe:=c }
theorem _root_.L2.Inv.re{Y:St}(I:Inv X pins Y H s)(A b xe)(a:A.frames=X.A.frames)(d:b=true->A.handled=none):Inv (lQ X A b (X.pn++pins) xe) [] Y H s:=
 ⟨⟨I.ok.mod,I.ok.kind,I.ok.glob,I.ok.blt,I.ok.above,I.ok.inj,I.ok.has,I.ok.cab,d,a.trans I.ok.frames,I.ok.stk,I.ok.exf,I.ok.bs,I.ok.bsz,I.ok.noex,I.ok.exfs,I.ok.funs,I.ok.frf⟩,I.os,I.bare,I.base,I.loc,I.cell,I.free,I.freeC,fun p c=>I.pin p (by simpa using c),I.hok,I.len⟩
theorem _root_.L2.Inv.unre{Y:St}(ok:X.Ok)(I:Inv (lQ X A b (X.pn++pins) xe) pins' Y H s):Inv X pins Y H s:=
 ⟨ok,I.os,I.bare,I.base,I.loc,I.cell,I.free,I.freeC,fun p a=>I.pin p (aR _ a),I.hok,I.len⟩
theorem ra(ok:X.Ok)(h:SP (lQ X A b (X.pn++pins) xe) pins' D f d):SP X pins D f d:=by
 cases f with
 |next=>obtain⟨a,c,I,q⟩:=h;exact⟨a,c,I.unre ok,q⟩
 |brk=>obtain⟨a,c,I,q⟩:=h;exact⟨a,c,I.unre ok,q⟩
 |cont=>obtain⟨a,c,I,q⟩:=h;exact⟨a,c,I.unre ok,q⟩
 |ret u=>obtain⟨v,a,c,I,r,q⟩:=h;exact⟨v,a,c,I.unre ok,r,q⟩
theorem _root_.L2.Inv.caught{Y:St}(I:Inv X pins Y H s)(j:kd X pins g)(t:eW g H s.heap a C M):Inv X pins Y (aB H a (.ext fun h=>∃o,h.get? a=some o/\o.cls=C)) s:=by
 have l:∀b o,g.get? b=some o->b≠a:=fun b o e z=>by subst z;rw[t.lo]at e;cases e
 obtain⟨w,S,T,y,N,_⟩:=t.ob;have i:bQ H (aB H a (.ext fun h=>∃o,h.get? a=some o/\o.cls=C)):=ca t.un;refine⟨I.ok,I.os,I.bare,⟨I.base.keep,I.base.slot,fun b o e n B=>?_,I.base.there,fun b D e=>i _ _ (I.base.tups b D e),fun b o u e=>i _ _ (I.base.frzs b o u e),fun b O e=>let⟨m,q⟩:=I.base.tbls b O e;⟨m,i _ _ q⟩⟩,I.loc,I.cell,?_,fun x c e=>?_,fun p G=>?_,fun b u e=>?_,I.len⟩
 .obtain⟨r,f⟩:=j.s0 b o e B;rw[aV (l _ _ f)];exact I.base.free b o e n B
 .obtain⟨r,f⟩:=j.loc;rw[aV (l _ _ f)];exact I.free
 .obtain⟨r,f⟩:=j.cell x c e;rw[aV (l _ _ f)];exact I.freeC x c e
 .obtain⟨r,f⟩:=j.pin p G;obtain⟨J,L,h3⟩:=I.pin p G;exact⟨J,by rw[aV (l _ _ f)];exact L,h3⟩
 .by_cases z:b=a
  .subst z;rw[bP]at e;cases e;refine⟨⟨w,y,N⟩,⟨w,y⟩,fun J L ⟨o,Q,R⟩ k=>⟨o,k o Q,R⟩⟩
  .rw[aV z]at e;exact(I.hok b u e).stay (fun d v hd q=>q) (fun d q=>i _ _ q) fun d D q=>i _ _ q
theorem MA{Y:St}(I:Inv X pins Y H s)(G:X.N.Nodup)(J:X.N[i]? = some x)(a:X.env.scope.names.lookup x=some .local)
  (h:∀B,Inv X pins (Y.set i none) H B->Q () B):wpAny M A (do bindName X.env x .none;unbindBehindTheSuite X.env x pos) Q E s:=by
 obtain⟨m,C,L⟩:=id I.loc;have l:(X.env.scope.kind==.class||(X.env.scope.kind==.module&&X.env.locals != X.env.globals))=false:=by rw[I.ok.kind];rfl
 have cne:=I.cne;obtain⟨oL,_,_,O,_⟩:=id C;refine wpAny_nameGoes_keeps a C l fun h' v t f=>h _ ⟨I.ok,I.os,I.bare,⟨fun b o e n w a=>?_,fun b o e n w a=>?_,I.base.free,fun b o e a=>?_,I.base.tups,I.base.frzs,I.base.tbls⟩,⟨_,t,fun j y R g S T=>?_⟩,fun y c e=>?_,I.free,I.freeC,fun p U=>?_,fun b ob e=>?_,?_⟩
 .exact(f.2 b (Nat.ne_of_lt (Nat.lt_of_lt_of_le (bv e) I.ok.above))).trans (I.base.keep b o e n w a)
 .obtain⟨sl,g⟩:=I.base.slot b o e n w a;exact⟨sl,(f.2 b (Nat.ne_of_lt (Nat.lt_of_lt_of_le (bv e) I.ok.above))).trans g⟩
 .obtain⟨Z,g⟩:=I.base.there b o e a;exact⟨Z,(f.2 b (Nat.ne_of_lt (Nat.lt_of_lt_of_le (bv e) I.ok.above))).trans g⟩
 .rcases fO S with⟨_,z,_⟩ |⟨hj,u⟩
  .cases z
  .obtain⟨u',r',q⟩:=L j y R g u T;refine⟨u',r',?_⟩;rcases q with⟨k,e⟩ |⟨k,c,e,z⟩
   .refine .inl ⟨k,?_⟩;have:y≠x:=fun e=>hj (tj G g (e▸J));simp[this,e]
   .exact .inr ⟨k,c,e,z.sameBut f (cne y c e)⟩
 .obtain⟨D,z⟩:=I.cell y c e;exact⟨D,z.sameBut f (cne y c e)⟩
 .obtain⟨e,n,ne,nf,d⟩:=I.pin p U;exact⟨(f.2 p.1 ne).trans e,n,ne,nf,d⟩
 .refine(I.hok b ob e).stay (fun c D r q=>(f.2 c ?_).trans q) (fun _ q=>q) fun _ _ q=>q;rintro rfl;rcases r with rfl |r
  .rw[I.free]at e;cases e
  .rw[I.free]at r;cases r
 .rw[List.length_set];exact I.len
noncomputable def Fx.here(F:Fx)(H:Hp)(L:List Addr):Fx:=⟨H,L,F.O₀,F.I₀⟩
theorem bV.here{K:Frag}(st:bV K F H Y U W):bV K (F.here H W.flatten) H Y U W:=⟨st.at_,st.nd,fun _ _ _ e=>e,fun _ h=>.inl h,st.live,st.len,st.lw,st.io⟩
theorem vb{K:Frag}(st:bV K F H Y U W)(h:a∈W.flatten\/H a=none):a∈F.A₀\/F.H₀ a=none:=by
 rcases h with h |h
 .exact st.new a h
 .by_cases b:a∈F.A₀
  .exact .inl b
  .refine .inr ?_;cases e:F.H₀ a with
   |none=>rfl
   |some o=>have:=st.kept a o b e;rw[h]at this;cases this
theorem dL{K:Frag}(st:bV K F H Y U W)(c:ay K ((F.here H W.flatten).plus fp) H' Y' U' O'):ay K (F.plus fp) H' Y' U' O':=by
 obtain⟨f,h,e⟩:=c;refine⟨f,⟨h.at_,h.nd,fun b o d e=>h.kept b o (fun z=>?_) (st.kept b o d e),fun a g=>(by have q:=vb st (h.new a g);exact q),h.live,h.len,h.lw,h.io⟩,e⟩;rcases st.new b z with q |q
 .exact d q
 .rw[show F.H₀ b=some o from e]at q;cases q
theorem MB{K:Frag}{F:Fx}{W:List (List Addr)}(c:ay K (F.here H W.flatten) H' Y' U' O'):aH (W.flatten++F.O₀) H O' H':=by
 obtain⟨g,h,rfl⟩:=c;refine⟨fun b o f e=>h.kept b o (fun z=>f (aR _ z)) e,fun a d=>?_⟩;rcases List.mem_append.mp d with z |z
 .exact(h.new a z).imp (aR _) id
 .exact .inl (aT _ z)
theorem fP.here{K:Frag}(st:bV K F H Y U W)(f:fP K F O H D e):fP K (F.here H W.flatten) O H D e:=
 ⟨fun Y' H' U' O' d b q=>f.nx Y' H' U' O' (dL (fp:=[]) st d) b q,fun v Y' H' c U' O' g r b q=>f.rt v Y' H' c U' O' g ⟨dL st r.st,r.at_,fun a h=>vb st (r.new a h)⟩ b q,
  fun Y' H' U' O' d b q=>f.bk Y' H' U' O' (dL (fp:=[]) st d) b q,fun Y' H' U' O' d b q=>f.ct Y' H' U' O' (dL (fp:=[]) st d) b q⟩
theorem ay.clear{K:Frag}(st:ay K F H Y U O)(i):∃O',ay K F H Y (U.set i none) O'/\aH O H O' H:=by
 obtain⟨W,h,rfl⟩:=st;have sub:∀a∈(W.set i []).flatten,a∈W.flatten:=fun a d=>by
  rcases ek d with z |⟨j,l,_,e,m⟩
  .cases z
  .exact bK e m
 have f:aH (W.flatten++F.O₀) H ((W.set i []).flatten++F.O₀) H:=eX fun a d=>by
  rcases List.mem_append.mp d with z |z
  .exact aR _ (sub a z)
  .exact aT _ z
 refine⟨_,⟨W.set i [],⟨fun j c e=>?_,mM h.nd List.nodup_nil (fun a d=>by cases d),h.kept,fun a d=>h.new a (sub a d),fun a d=>h.live a ?_,by rw[List.length_set];exact h.len,by rw[List.length_set,List.length_set];exact h.lw,fun j b e=>?_⟩,rfl⟩,f⟩
 .rcases fO e with⟨_,z,_⟩ |⟨k,g⟩
  .cases z
  .obtain⟨v,n,h1,h2,h3⟩:=h.at_ j c g;exact⟨v,n,h1,by rw[List.getElem?_set_ne (Ne.symm k)];exact h2,h3.keep f (fun _ _=>rfl) fun _ _ _ e=>e⟩
 .rcases List.mem_append.mp d with z |z
  .exact aR _ (sub a z)
  .exact aT _ z
 .rcases fO e with⟨_,z,_⟩ |⟨k,g⟩
  .cases z
  .exact h.io j b g
noncomputable def iU(l:List Str)(i:Nat)(b e:SM):SM:=fun U=>match b U with
 |.ex c f=>if c∈l then(match e (f.set i (some (.exc c))) with |.rt d a=>.rt d (a.set i none) |_=>.bad) else .bad
 |o=>o
theorem MC{X:Cx}{np }{p}{Y:St}
  (t:XT X.K X.mg l D) (R:Gl X "DueError") (j:X.stack=X.env::X.outer) (u:X.env.frame=some X.env.locals) (S:c∈l) (J:Inv X d Y H s) (T:kd X d g) (ex:eW g H s.heap a C O) (U:X.mg c=some C)
  (h:∀v,Inv X d Y H v->eW g H v.heap a C (some .none)->codeAny (model X.prog X.w) (X.A.mark (some (.ref a))) (.handlers (.ref a) [.ExceptHandler none p (G::i) e] X.env) (fun r m=>match r with
     |.ok f=>(match p with
      |none=>Q f m
      |some n=>wpAny (model X.prog X.w) X.A (do bindName X.env n .none;unbindBehindTheSuite X.env n e) (fun _ y=>Q f y) k m)
     |.error x=>cameBackBy (model X.prog X.w) X.A X.env k x m) v) :
  wpAny (model X.prog X.w) X.A (noteFrame (.ref a) X.env) (fun _ m=>wpAny (model X.prog X.w) X.A (setFlight (.ref a) none) (fun _ y=>wpAny (model X.prog X.w) X.A (handleBy (.ref a) X.env [.ExceptHandler (some (.Name "DueError" np)) p (G::i) e]) Q k y) k m) k s:=by
 have Z:X.A.frames=some (X.env::X.outer):=by rw[J.ok.frames,j]
 have stk:s.heap.FunFrames X.base (X.env::X.outer):=by have:=J.stack;rw[j]at this;exact this
 have hb:∀b,s.heap.get? b=none->H b=none:=fun b z=>bH.some_of J.hok z;refine yy (base:=X.base) Z stk u hb ex fun h1 I x1=>?_;refine uq (s:={ s with heap:=h1 }) (fs:=bN (X.env::X.outer)) none (ur (I.frames (fun _ h=>h) stk)) x1 fun h2 c2 L=>?_;have o:Inv X d Y H { s with heap:=h2 }:=J.ch T (by rw[j];exact I.trans c2);refine wpAny_handleBy_cons (codeAny_handlers_test ?_) (by intro q;cases q);have J3:=o.re (X.A.mark (some (.ref a))) false X.xe rfl (fun z=>by cases z);refine lx (X:=lQ X (X.A.mark (some (.ref a))) false (X.pn++d) X.xe) J3 R t.top.mg ?_ (by decide);obtain⟨M,N,hu,_⟩:=t.at_ S;have eC:C=.ref M:=Option.some.inj (U.symm.trans N.mg);obtain⟨oe,vs,a0,he,B,_⟩:=L.ob;refine Mz (C:=M) (va o.kIn N.ex) (va o.kIn t.top.ex) (fun hC=>My o.kIn hu hC) he (B.trans eC) ?_;exact h _ o L
theorem ME(xt:XT X.K X.mg l D)(hg:Gl X "DueError")(y:X.stack=X.env::X.outer)(a1:X.env.frame=some X.env.locals)(hN:X.N.Nodup)(hi:X.N[i]? = some n)(hn:X.env.scope.names.lookup n=some .local)
  (hG:GF X.mg F) (hb:∀Q pn xe R,dc (lQ X X.A X.calm pn xe) Q R->PassesOwn (model X.prog X.w) X.A X.env xe->ir (lQ X X.A X.calm pn xe) Q R body mb)
  (hs:∀Q e pn xe,GF X.mg Q->ir (lQ X (X.A.mark (some e)) false pn xe) Q cX (b₀::k) mh) :
  FS X F E (.Try body [.ExceptHandler (some (.Name "DueError" np)) (some n) (b₀::k) M] [] [] pos) (iU l i mb mh):=fun b s Y H D' I S=>by
 obtain⟨U,O,DD,st,q,f⟩:=S;obtain⟨W,m,rfl⟩:=id st;have T:GF X.mg (F.here H W.flatten):=(hG.at st).frame fun a h=>m.live a (aR _ h);let R:Str->ag->Prop:=fun c Z=>c∈l/\∃d j,mh (Z.set i (some (.exc c)))=.rt d j/\DD.rt d (j.set i none);have q1:ck R mb DD U:=by
  unfold ck iU at q;unfold ck;generalize mb U=o at q ⊢;cases o with
  |ex c Z=>
   simp only at q
   by_cases G:c∈l
   .rw[if_pos G]at q;refine⟨G,?_⟩;generalize mh (Z.set i (some (.exc c)))=o2 at q ⊢;cases o2 with
    |rt d j=>exact⟨d,j,rfl,q⟩
    |_=>exact q.elim
   .rw[if_neg G]at q;exact q.elim
  |_=>exact q
 refine wpAny_Try_except ?_;refine aQ (hb (F.here H W.flatten) (X.pn++b) _ R ?_ PassesOwn.looking [] s Y H D' (I.re X.A X.calm _ rfl I.ok.hd) ⟨U,_,DD,⟨W,m.here,rfl⟩,q1,f.here m⟩) fun fw s1 h=>?_
 .refine⟨T,?_⟩;intro a2 Y' H' s' e c Z O' ⟨J1,a,C,g,fl,e1,cv,ex,hm⟩ t ⟨G,d,j,a3,hd⟩;subst e1;have J:Inv X b Y' H' s':=J1.unre I.ok;have B:kd X b g:=⟨cv.s0,cv.loc,cv.cell,fun p hp=>cv.pin p (aR _ hp)⟩
  have a4:i<Z.length:=by rw[t.lenE,J.len];exact(List.getElem?_eq_some_iff.mp hi).1
  refine MC xt hg y a1 G J B ex hm fun L J3 x3=>codeAny_handlers_suite_as ?_;have stk:L.heap.FunFrames X.base (X.env::X.outer):=by have:=J3.stack;rw[y]at this;exact this
  refine uq (s:=L) (fs:=bN (X.env::X.outer)) none (ur stk) x3 fun h4 c4 x4=>?_;have J4:Inv X b Y' H' { L with heap:=h4 }:=J3.ch B (by rw[y];exact c4);have J5:=J4.caught B x4;obtain⟨C',ec,_⟩:=xt.at_ G;have eC:C=.ref C':=Option.some.inj (hm.symm.trans ec.mg);refine tm J5 hN hi (.inl hn) (v:=.ref a) rfl (fun s5 J6=>?_) (.inr hn);have sm:=ca (o:=.ext fun h=>∃o,h.get? a=some o/\o.cls=C) ex.un;have na:a∉O':=t.nofree a ex.un;have cell:dm X.K (aB H' a (.ext fun h=>∃o,h.get? a=some o/\o.cls=C)) O' (.ref a) (.exc c) []:=⟨a,_,rfl,fY bP na,fun h a0=>by obtain⟨o,z1,z2⟩:=a0;exact⟨C',o,ec.ns,z1,z2.trans eC⟩⟩
  obtain⟨O6,a5,s6⟩:=ay.put1 (io:=false) (F:=F.here H W.flatten) (fp:=[]) (i:=i) (t.grow sm) cell (fun _ z=>by cases z) a4 (fun _ z=>by cases z);have step:aH (W.flatten++F.O₀) H O6 _:=(MB t).trans ((aH.same sm).trans s6);refine aQ (hs (F.here H W.flatten) (.ref a) (X.pn++b) _ T [] s5 _ _ ⟨fun _ _=>False,D'.rt,fun _ _=>False,fun _ _=>False⟩ (J6.re (X.A.mark (some (.ref a))) false _ rfl (fun z=>by cases z)) ⟨_,O6,⟨fun _=>False,fun d j=>DD.rt d (j.set i none),fun _=>False,fun _=>False⟩,a5,?_,?_⟩) fun fw s6 h6=>?_
  .unfold ck;rw[a3];exact hd
  .refine⟨fun _ _ _ _ _ _ z=>z.elim,fun v Y2 H2 c2 U2 O2 fp r s2 qq=>?_,fun _ _ _ _ _ _ z=>z.elim,fun _ _ _ _ _ _ z=>z.elim⟩;have r2:ay X.K (F.plus fp) H2 Y2 U2 O2:=dL m r.st;obtain⟨O3,r3,L⟩:=r2.clear i;exact f.rt v Y2 H2 c2 _ O3 fp ⟨r3,r.at_.keep L (fun _ _=>rfl) (fun _ _ _ e=>e),fun x hx=>vb m (r.new x hx)⟩ (step.trans (s2.trans L)) qq
  .cases fw with
   |next=>obtain⟨_,_,_,z⟩:=h6;exact z.elim
   |brk=>obtain⟨_,_,_,z⟩:=h6;exact z.elim
   |cont=>obtain⟨_,_,_,z⟩:=h6;exact z.elim
   |ret u=>obtain⟨v,Y7,H7,J8,r8,q8⟩:=h6;exact MA (J8.unre I.ok) hN hi hn fun s9 J9=>⟨v,_,H7,J9,r8,q8⟩
 .cases fw with
  |next=>exact wpAny_execs_nil (ra I.ok h)
  |brk=>exact ra I.ok h
  |cont=>exact ra I.ok h
  |ret u=>exact ra I.ok h
structure cH (k:Nat) (A:Around):Prop where
 dp:A.depth+3 * k+5<recursionLimit
 un:A.units+16 * k+200<cLine
theorem ba.h(r:ba k A)(v):cH k (A.mark v):=⟨r.dp,r.un⟩
theorem cH.deeper(r:cH (k+1) A)(a):cH k (A.deeper a):=
 ⟨by have:=r.dp;show A.depth+1+3 * k+5<_;lia,by have:=r.un;show A.units+3+16 * k+200<_;lia⟩
structure fe (P:Program) (w:World) (K:Frag) (mg:Str->Option Value) (base:Heap) (CX:fL) (k:Nat) (f:Addr) (fd:FuncData) (ps:List Str) (sp:Sp):Prop where
 len:∀vs H Q E,sp vs H Q E->vs.length=ps.length
 run:∀(A:Around) (outer:List Env) (s:Shared) (H:Hp) (args:Args) (us:List Value) (vs:List V) (Q:VK) (E:XK),cH k A->ed P w K mg base A outer s H->BindsTo s fd args (ps.zip us)->bi vs us->sp vs H Q E->
  codeAny (model P w) A (.call (.ref f) args) (CR CX outer P w H s Q E) s
abbrev lR(d:fL)(P:Program)(w:World)(K:Frag)(g:Str->Option Value)(base:Heap)(N:List Str)(c:Str)(a:Scope)(f:Addr)(e:Value)(A:Around)(b:List Env)(s:Shared)(H:Hp)(E:XK):Cx:=
 { gB d P w K g base N c a f e A b s H E with calm:=false }
theorem MG{K}
  (S:bA N e a) (d:ed P w K j base A b s H) (m:i.length=e.length) (r:bi i h)
  (x:InCallC s s.heap.objs.size (bindL (envOfC c a s.heap.objs.size f g).kindOf (e.zip h) fun _=>none) (cellsFrom (s.heap.objs.size+1) a.names []) (bindC (envOfC c a s.heap.objs.size f g).kindOf (e.zip h) fun _=>none) l) :
  Inv (lR k P w K j base N c a f g A b s H E) [] (start N i) H l:=by
 have n:ed P w K j base { A with handled:=none } b s H:=⟨d.frames,d.mod,d.bs,d.bsz,d.funs,d.frf,d.hok,d.bare⟩
 have I:=xD (CX:=k) (E:=E) (qual:=c) (f:=f) (cd:=g) S rfl n m r x;exact⟨⟨I.ok.mod,I.ok.kind,I.ok.glob,I.ok.blt,I.ok.above,I.ok.inj,I.ok.has,I.ok.cab,(fun z=>by cases z),I.ok.frames,I.ok.stk,I.ok.exf,I.ok.bs,I.ok.bsz,I.ok.noex,I.ok.exfs,I.ok.funs,I.ok.frf⟩,I.os,I.bare,I.base,I.loc,I.cell,I.free,I.freeC,I.pin,I.hok,I.len⟩
theorem MH{K}{dV kV }
  (lk:K.lookup f=some ⟨oc,od,.func (fnOf name d h body a dV kV z pm Z g ct),O⟩) (T:codeIn K g d=true) (S:bA N G a)
  (len:∀i H Q E,R i H Q E->i.length=G.length)
  (l:∀A  c  s  H  i  Q  E,cH k (A.deeper (envOfC d a s.heap.objs.size f g))->R i H Q E->
   ∃t,PSs (lR D P w K M base N d a f g A c s H E) body t/\t { nx:=fun _ j=>Q .non j,rt:=Q } (start N i) H) :
  fe P w K M base D (k+1) f (fnOf name d h body a dV kV z pm Z g ct) G R:=by
 refine⟨len,fun A c s H args us i Q E hr B hb r C=>?_⟩;have hl:=len _ _ _ _ C;have KX:K.In s.heap:=B.mod.kin.keeps fun b o e=>(B.bs b o e).1;have U:s.heap.NoLimit:=B.mod.nolimit.keeps fun b o e=>(B.bs b o e).1;have m:∀y∈G.zip us,a.names.lookup y.1=some .local\/(a.names.lookup y.1=some .cell/\((cellsFrom (s.heap.objs.size+1) a.names []).lookup y.1).isSome=true):=fun⟨n,v⟩ hy=>by
  rcases S.par n (List.of_mem_zip hy).1 with q |q
  .exact .inl q
  .exact .inr ⟨q,PySem.W.cellsFrom_some _ _ _ (.inl q)⟩
 refine codeAny_call_function (by have:=hr.dp;lia) (KX _ _ lk) rfl S.co S.gen rfl (PySem.W.codeRec_of KX T) (hb _ _ _ _ ?_);refine wpAny_newFunctionEnv_cells S.kind m fun a0 he s1 x=>?_;subst he;refine⟨U.keeps x.toInCall.keep,codeAny_func ?_⟩;obtain⟨t,ht,hq⟩:=l A c s H i Q E (hr.deeper _) C;have I:Inv (lR D P w K M base N d a f g A c s H E) [] (start N i) H s1:=MG S B hl r x;refine wpAny_mono (ht [] s1 (start N i) H _ I hq) (fun fl X p=>?_) fun e X p=>p;have fin:∀{L:St}{j:Hp}{v:V}{u:Value},Inv (lR D P w K M base N d a f g A c s H E) [] L j X->bq v u->Q v j->CE c P w H s Q u X:=
  fun {L j v u} J Y q=>⟨v,j,J.os,J.bare,J.base,J.hok,Y,q⟩
 cases fl with
 |ret u=>obtain⟨v,L,j,J,Y,q⟩:=p;exact fin J Y q
 |next=>obtain⟨L,j,J,q⟩:=p;exact fin (v:=V.non) (u:=Value.none) J rfl q
 |brk=>obtain⟨_,_,_,q⟩:=p;exact False.elim q
 |cont=>obtain⟨_,_,_,q⟩:=p;exact False.elim q
theorem MI{K}
  (v:GF l F) (x:∀c C p y r B,l c=some C->ay K F r y p B->n c p->E C none r):dc (lR (cx P w) P w K l base N i d f j A h s H E) F n:=by
 refine⟨v,?_⟩;intro t Y k D e c U O ⟨I,a,C,g,R,G,u,ex,L⟩ st q;subst G;have M:(A.deeper (envOfC i d s.heap.objs.size f j)).frames=some (envOfC i d s.heap.objs.size f j::h):=I.ok.frames;have hb:∀b,D.heap.get? b=none->k b=none:=fun b z=>bH.some_of I.hok z;have stk:bN (envOfC i d s.heap.objs.size f j::h)=s.heap.objs.size::bN h:=rfl;refine yz (base:=base) M I.stack rfl hb ex fun S ch m=>?_;have J:=I.ch u ch;refine⟨a,C,k,rfl,J.os,J.bare,J.base,J.hok,m.weak fun b o Q=>u.s0 b o Q (by intro z;cases z),x c C U Y k O L st q⟩
theorem MJ{K:Frag}{st:Stmt}(Fn:lB K x qual st f fd)(S:bA N ps (cZ st))(hN:ps.length<=N.length)
  (a0:∀y  A  t  s  H  E  F  Z,cH k (A.deeper (envOfC qual (cZ st) s.heap.objs.size f y))->dc (lR (cx P w) P w K mg base N qual (cZ st) f y A t s H E) F Z->
   gD (lR (cx P w) P w K mg base N qual (cZ st) f y A t s H E) F (gC st) (ck Z m)):fe P w K mg base (cx P w) (k+1) f fd ps (cW K mg (bp ps.length N.length m)):=by
 obtain⟨oc,od,kV,a4,pm,an,y,ct,a5,rfl,lk,a1⟩:=Fn.ex;have G:∀B H Q E,cW K mg (bp ps.length N.length m) B H Q E->B.length=ps.length:=fun B H Q E L=>by
  obtain⟨_,l,u,O₀,M,_,_,q⟩:=L;rw[M.len.1];unfold bp at q
  by_cases h:l.length=ps.length
  .exact h
  .rw[if_neg h]at q;exact q.elim
 refine MH lk a1 S G fun A t s H B Q E hr O=>?_;have a6:=G B H Q E O;obtain⟨gh,l,u,O₀,M,nd,live,q⟩:=O;obtain⟨l1,l2⟩:=M.len;have R:l.length=ps.length:=by lia
 let F:Fx:=⟨H,u.flatten,O₀,lH B⟩
 have T:=yC (N:=N) M nd live (by lia);have fin:∀{X:St}{j:Hp}{n:ag}{J:List Addr}{fp:List Addr}{g:List Bx},ay K (F.plus fp) j X n J->(∀a∈fp,a∈F.A₀\/F.H₀ a=none)->cK l n = some g->∃d,aP j (d.flatten++fp++O₀) B l g d/\gj H j u.flatten (d.flatten++fp) O₀/\aH J j (d.flatten++fp++O₀) j:=by
  rintro X j n J fp g ⟨W,p,rfl⟩ a2 ho;obtain⟨d,o,sb⟩:=qM p l B 0 g l1 (fun i io b e=>M.ios i io b e) ho;have Y:d.flatten.Sublist W.flatten:=sb;have sub:(d.flatten++fp++O₀).Sublist (W.flatten++(fp++O₀)):=by rw[List.append_assoc];exact List.Sublist.append Y (List.Sublist.refl _)
  have D:aH (W.flatten++(fp++O₀)) j (d.flatten++fp++O₀) j:=eX fun a h=>sub.subset h;refine⟨d,o.mono D,⟨p.nd.sublist sub,fun a h=>p.live a (sub.subset (aR _ h)),fun b o hb e=>p.kept b o hb e,fun a h=>?_⟩,D⟩;rcases List.mem_append.mp h with h |h
  .exact p.new a (Y.subset h)
  .exact a2 a h
 have a3:bp ps.length N.length m l=(match m (gF N.length ps.length l) with
  |.nx U=>(match cK l U with |some o=>.rt (.dat .none) o |none=>.bad)
  |.rt c U=>(match cK l U with |some o=>.rt c o |none=>.bad)
  |.ex c U=>(match cK l U with |some o=>.ex c o |none=>.bad)
  |_=>.bad):=by unfold bp gF;rw[if_pos R]<;>rfl
 rw[a3]at q;rw[R]at T;let Z:Str->ag->Prop:=fun c n=>∃g,cK l n = some g/\∀C j d,mg c=some C->aP j (d.flatten++O₀) B l g d->gj H j u.flatten d.flatten O₀->E C none j;refine⟨_,a0 y A t s H E F Z hr (MI (gh.frame fun a h=>live a (aR _ h)) fun c C n X j J I p ⟨g,ho,k⟩=>?_),?_⟩
 .obtain⟨d,o,b,_⟩:=fin (fp:=[]) p (fun a h=>by cases h) ho;rw[List.append_nil]at o b;exact k C j d I o b
 .refine⟨gF N.length ps.length l,_,⟨fun n=>∃g,cK l n = some g/\∀j d,aP j (d.flatten++[]++O₀) B l g d->gj H j u.flatten (d.flatten++[]) O₀->Q .non j,fun c n=>∃g,cK l n = some g/\∀v j fp d,dm K j (d.flatten++fp++O₀) v c fp->aP j (d.flatten++fp++O₀) B l g d->gj H j u.flatten (d.flatten++fp) O₀->Q v j,fun _=>False,fun _=>False⟩,⟨_,T,rfl⟩,?_,?_⟩
  .unfold ck;cases I:m (gF N.length ps.length l) with
   |nx n=>
    rw[I]at q;cases ho:cK l n with
    |none=>simp[ho]at q
    |some g=>simp only[ho]at q;exact⟨g,ho,fun j d o b=>q .non j [] d .non o b⟩
   |rt c n=>
    rw[I]at q;cases ho:cK l n with
    |none=>simp[ho]at q
    |some g=>simp only[ho]at q;exact⟨g,ho,q⟩
   |ex c n=>
    rw[I]at q;cases ho:cK l n with
    |none=>simp[ho]at q
    |some g=>simp only[ho]at q;exact⟨g,ho,q⟩
   |bk n=>rw[I]at q;exact q
   |ct n=>rw[I]at q;exact q
   |bad=>rw[I]at q;exact q
  .refine⟨fun X j n J p s' ⟨g,ho,k⟩=>?_,fun v X j c n J fp r s' ⟨g,ho,k⟩=>?_,fun _ _ _ _ _ _ z=>z.elim,fun _ _ _ _ _ _ z=>z.elim⟩
   .obtain⟨d,o,b,_⟩:=fin (fp:=[]) p (fun a h=>by cases h) ho;exact k j d o b
   .obtain⟨d,o,b,D⟩:=fin r.st r.new ho;exact k v j fp d (r.at_.keep D (fun _ _=>rfl) (fun _ _ _ e=>e)) o b
theorem MK{Y:St}(hx:dc X F E)(G:fe X.prog X.w X.K X.mg X.base (cx X.prog X.w) k g fd ps (cW X.K X.mg f))(hr:cH k X.A)(hb:fM X.K fd ps [])
  (I:Inv X m Y H s) (r:bi T L) (st:ay X.K F H Y U O) (ax:cQ Y (ao O H) T as) (q:gk f E QC as U) (hQ:∀c M,QC c M->∀v b Z N,gi X.K F b Y M Z v c N->aH O H Z b->Q v b) :
  wpAny (model X.prog X.w) X.A (call (.ref g) L) (EP X m Y Q) X.xe s:=by
 unfold gk at q;cases hc:gH U as with
 |none=>rw[hc]at q;exact q.elim
 |some p=>
  obtain⟨cs,js⟩:=p;rw[hc]at q;simp only at q;obtain⟨i,O2,a0,ar,s1,a8,nw,ja⟩:=qO st as T cs js hc ax;obtain⟨W,y,a1⟩:=id a0;have a4:(W.flatten++(i.flatten++F.O₀)).Nodup:=y.nd;have l:∀a,a∈O2↔a∈i.flatten++(W.flatten++F.O₀):=fun a=>by
   rw[a1];show a∈W.flatten++(i.flatten++F.O₀)↔_;simp only[List.mem_append];constructor
   .rintro(h |h |h)<;>simp[h]
   .rintro(h |h |h)<;>simp[h]
  have perm:(i.flatten++(W.flatten++F.O₀)).Perm (W.flatten++(i.flatten++F.O₀)):=by rw[<-List.append_assoc,<-List.append_assoc];exact List.Perm.append_right _ List.perm_append_comm
  have a2:(i.flatten++(W.flatten++F.O₀)).Nodup:=perm.nodup_iff.mpr a4;have a5:aH O2 H (i.flatten++(W.flatten++F.O₀)) H:=eX fun a h=>(l a).mpr h;have R:∀(b:Hp) (n:List Addr) (a:Addr),(a∈n++(W.flatten++F.O₀))->a∈n\/(a∈O2/\a∉i.flatten):=fun b n a h=>by
   rcases List.mem_append.mp h with h |h
   .exact .inl h
   .refine .inr ⟨(l a).mpr (aT _ h),fun z=>?_⟩;exact(List.nodup_append.mp a2).2.2 a z a h rfl
  have j:∀(b:Hp) (n:List Addr),gj H b i.flatten n (W.flatten++F.O₀)->∃B,ay X.K (F.plus n) b Y (eZ js U) B/\aH O2 H B b/\∀a,a∈B↔a∈n++(W.flatten++F.O₀):=fun b n t=>by
   obtain⟨B,t1,t2,t3,t4,t5⟩:=a0.swap (H':=b) (L':=n) t.keep (List.nodup_append.mp t.nd).1 t.new nw t.live;refine⟨B,t1,t2,fun a=>⟨fun h=>?_,fun h=>?_⟩⟩
   .rcases t4 a h with z |⟨z1,z2⟩
    .exact aR _ z
    .rcases List.mem_append.mp ((l a).mp z1) with z |z
     .exact absurd z z2
     .exact aT _ z
   .rcases R b n a h with z |⟨z1,z2⟩
    .exact t3 a z
    .exact t5 a z1 z2
  have r2:bi (T++[]) (L++[]):=by rw[List.append_nil,List.append_nil];exact r
  let EX:XK:=fun C _ b=>∃c M Z,X.mg c=some C/\ay X.K F b Y M Z/\E c M;have sp:cW X.K X.mg f T H Q EX:=by
   refine⟨hx.1.at st,cs,i,W.flatten++F.O₀,ar.mono a5,a2,fun a h=>?_,?_⟩
   .exact y.live a (by have:=(l a).mpr h;rw[a1]at this;exact this)
   .cases hf:f cs with
    |bad=>rw[hf]at q;exact q
    |rt c a3=>
     rw[hf]at q;simp only at q ⊢;intro v b N d a6 S t;obtain⟨B,t1,t2,t3⟩:=j b (d.flatten++N) t;have D:aH (d.flatten++N++(W.flatten++F.O₀)) b B b:=eX fun a h=>(t3 a).mp h;have J:∀a∈d.flatten++N,a∈F.A₀\/F.H₀ a=none:=fun a h=>by
      rcases t.new a h with z |z
      .exact nw a z
      .by_cases hA:a∈F.A₀
       .exact .inl hA
       .refine .inr ?_;cases e:F.H₀ a with
        |none=>rfl
        |some o=>have:=y.kept a o hA e;rw[z]at this;cases this
     have lj:(eZ js U).length=U.length:=qN;obtain⟨O4,u1,u2⟩:=qP (fp:=N) ja lj t1 (S.mono D) fun a h=>J a (aR _ h);exact hQ c _ q v b O4 N ⟨u1,a6.keep (D.trans u2) (fun _ _=>rfl) (fun _ _ _ e=>e),fun a h=>J a (aT _ h)⟩ (s1.trans (t2.trans u2))
    |ex c a3=>
     rw[hf]at q;simp only at q ⊢;intro C b d hm S t;obtain⟨B,t1,t2,t3⟩:=j b d.flatten t;have D:aH (d.flatten++(W.flatten++F.O₀)) b B b:=eX fun a h=>(t3 a).mp h;have J:∀a∈d.flatten,a∈F.A₀\/F.H₀ a=none:=fun a h=>by
      rcases t.new a h with z |z
      .exact nw a z
      .by_cases hA:a∈F.A₀
       .exact .inl hA
       .refine .inr ?_;cases e:F.H₀ a with
        |none=>rfl
        |some o=>have:=y.kept a o hA e;rw[z]at this;cases this
     have lj:(eZ js U).length=U.length:=qN;obtain⟨O4,u1,u2⟩:=qP (fp:=[]) ja lj (by rw[List.append_nil];exact t1) (S.mono D) J;exact⟨c,_,O4,hm,u1,q⟩
  have hl:(L++[]).length=ps.length:=by rw[List.append_nil,<-r.length];exact G.len _ _ _ _ sp
  refine wpAny_call (codeAny_mono (G.run X.A X.stack s H ⟨L,[]⟩ L T Q EX hr I.env0 (by have:=hb s L I.kIn hl;rw[List.append_nil]at this;exact this) r sp) fun r s' hq=>?_);cases r with
  |error e=>obtain⟨a,C,b,e1,I',cv,ex,c,M,Z,hm,a7,hE⟩:=I.flies hq;exact hx.2 m Y b s' e c M Z ⟨I',a,C,s.heap,_,e1,cv,ex,hm⟩ a7 hE
  |ok fl=>
   cases fl with
   |ret u=>exact I.after hq
   |next=>exact False.elim hq
   |brk=>exact False.elim hq
   |cont=>exact False.elim hq
theorem ML{pos:Pos}{p:Pos}(N:dc X F E)(G:fe X.prog X.w X.K X.mg X.base (cx X.prog X.w) k g fd ps (cW X.K X.mg f))(R:cH k X.A)(S:Gl X x)(T:X.mg x=some (.ref g))(Z:keepIn X.K (.ref g)=true)(hb:fM X.K fd ps [])
  (t:DX X F (e::es) tX) (u:autoParam ((x==("__debug__":Str))=false) Zr._auto_1) (he:autoParam (starEach (e::es) X.env=(false,eval e X.env)::starEach es X.env) Zq._auto_1) (y:autoParam ((backTo pos (starEach es X.env)).any (·.1)=false) Zq._auto_1) :
  DO X F (.Call (.Name x p) (e::es) [] pos) (uz f E tX):=by
 refine⟨fun U Q Q' k q=>t.mn _ _ _ (fun as b i=>yE k i) q,fun j s Y H Q I l=>?_⟩;obtain⟨U,O,st,q⟩:=l;refine wpAny_Call_Name_kw (lx I S T ?_ u);refine callWith_K (h₀:=X.base) I.ok.mod.kin Z (aQ (t.pa pos j s Y H (fun z m=>∃as b d,ay X.K F m Y b d/\aH O H d m/\cQ Y (ao d m) z as/\gk f E (fun c J=>∀v n o B,gi X.K F n Y J o v c B->aH O H o n->Q v n) as b) I ⟨U,O,st,t.mn _ _ _ (fun as b i z m d a L C=>⟨as,b,d,a,L,C,i⟩) q⟩) fun us L M=>⟨by obtain⟨_,_,I1,_⟩:=M;exact I1.kIn,?_⟩) he y;obtain⟨z,m,I1,r,as,b,d,a,D,C,i⟩:=M;exact MK N G R hb I1 r a C i fun c J h v n o B res s2=>h v n o B res (D.trans s2)
end L2.L3
namespace L2.L3
open PySem PySem.Spec PyProof.Rows Builtin Builtin.ObjectAttr Builtin.Getset_descriptor
theorem MM{K:Frag}{os:OsState}(X:K.In h)(e:h.get? a=some o)(f:o.cls=.ref C)(f1:findIn K (.ref C) "__getattribute__" = some (some (.builtin "BaseException.__getattribute__")))
  (f2:findIn K (.ref C) "__class__" = some (some (.builtin "object.__class__"))) (i:findIn K (.ref C) "__getattr__" = some none) (j:mroIn K C (.type "BaseException")=some true) (k:mroIn K C (.type "object")=some true)
  (q:Q (some (.ref C)) ⟨h,g,d,t+1,os⟩):wpAny (model prog w) A (getAttr? (.ref a) "__class__") Q E ⟨h,g,d,t,os⟩:=by
 have b:PySem.W.Looks (model prog w) h (typeOf (.ref a)) (.ref C):=f▸(PySem.W.Looks.ld e).andThen .now;have l:=PySem.W.looks_findIn (M:=model prog w) X f1;have L2:=PySem.W.looks_findIn (M:=model prog w) X i;have L3:=PySem.W.looks_findIn (M:=model prog w) X f2;have m:=PySem.W.looks_mroIn (M:=model prog w) X j;have c:=PySem.W.looks_mroIn (M:=model prog w) X k;have g3:=F.attrBase_ValueError.ga.bind (.ref a);unfold getAttr? getAttrBy? getAttrBy;refine aj (wpAny_mkText (aj (wpAny_attempt (wpAny_holding (aj (b.at (aj (l.at ?_))))))));show wpAny _ _ (getAttrByItsOwn _ _ _ _ _ _) _ _ _;unfold getAttrByItsOwn
 repeat (any_goals (first |assumption |with_reducible refine b.at ?_ |with_reducible refine L2.at ?_ |wp_step))
 refine codeAny_call_builtin F.attrBase_ValueError.ga.plain F.entry_bexc_ga ?_;have n:builtinKind "BaseException.__getattribute__" = some .slot:=by decide +kernel
 have p:splitId "BaseException.__getattribute__" = some ("BaseException","__getattribute__"):=by decide +kernel
 have r:=F.args_bexc_ga (.ref a) (.str "__class__" t);simp only[checkBuiltinCall,n,p];refine aj ?_;unfold isInstance
 repeat (any_goals (first |assumption |with_reducible refine b.at ?_ |with_reducible refine m.at ?_ |wp_step))
 have s:typeOf (.builtin "object.__class__")=pure (.type "getset_descriptor"):=PySem.W.KF.type_class;have u:=F.slot_gs_get.lookup;have v:=F.slot_gs_set.lookup
 repeat (any_goals (first |assumption |with_reducible refine b.at ?_ |with_reducible refine L3.at ?_ |wp_step))
 refine codeAny_call_builtin PySem.W.KF.slot_gs.plain PySem.W.KF.entry_gs (PySem.W.KF.slot_gs.check _ _ _ _ _ _ _ _ PySem.W.KF.type_class (PySem.W.KF.args_gs _ _ _) ?_);unfold Builtin.«getset_descriptor.__get__» descrGet;rw[PySem.W.dga_obj];refine aj (bd ?_);unfold descrGetter descrCheckInstance descrNameAndClass isInstance;simp only[PySem.W.KF.owner_class]
 repeat (any_goals (first |assumption |with_reducible refine b.at ?_ |with_reducible refine c.at ?_ |wp_step))
 refine⟨Code.quiet_builtin _ (by decide +kernel),codeAny_builtin PySem.W.KF.entry_class ?_⟩;unfold Builtin.«object.__class__» PySem.shownTypeOf
 repeat (any_goals (first |assumption |with_reducible refine b.at ?_ |with_reducible refine c.at ?_ |wp_step))
theorem MN{K:Frag}(f:oY K C=true)(m:(clsIn K C).isSome=true):PySem.W.KitX K (.ref a) (.ref C) (fun h=>∃o,h.get? a=some o/\o.cls=.ref C):=by
 unfold oY at f;simp only[Bool.and_eq_true,beq_iff_eq]at f;obtain⟨⟨⟨⟨f1,f2⟩,p⟩,r⟩,u⟩:=f;obtain⟨z,b⟩:=Option.isSome_iff_exists.mp m;unfold clsIn at b;split at b
 .rename_i B D G H l;refine⟨fun M h X ⟨o,c,i⟩=>i▸(PySem.W.Looks.ld c).andThen .now,fun M h X _=>?_,fun h v O x n R X j=>?_,fun {prog w A E Q s} X ⟨o,c,i⟩ k=>?_⟩
  .intro I J L N k q;unfold isType loadHead;exact aj (wpAny_loadPart (k _ _ (X _ _ l)) (bd q))
  .refine Bool.eq_false_iff.mpr fun q=>?_;have e:C=v:=Value.ref.inj (beq_iff_eq.mp q);subst e;have y:=(X _ _ l).symm.trans j;cases y
  .obtain⟨S,g,d,t,os⟩:=s;exact MM X c i f1 f2 p r u k
 .cases b
end L2.L3
namespace L2.L3
open PySem PySem.Spec PyProof.Rows
noncomputable def iV:Value->V
 |.bool b=>.bl b
 |.int i _=>.int i
 |.str x _=>.str x
 |_=>.non
theorem zV(r:bq v z)(f:ip v=true):iV z=v:=by
 cases v with
 |non=>cases r;rfl
 |bl b=>cases r;rfl
 |int i=>obtain⟨t,rfl⟩:=r;rfl
 |str i=>obtain⟨t,rfl⟩:=r;rfl
 |_=>cases f
theorem vc(e:bq y u)(f:ip y=true):∀{c a},bi c a->c.all ip=true->(∀z∈a,SeqAt.EqAt A s z u (eF (iV z) y))/\a.map iV=c
 |_,_,.nil,_=>⟨(fun _ h=>nomatch h),rfl⟩
 |_,_,.cons h t,b=>by
  rw[List.all_cons,Bool.and_eq_true]at b;obtain⟨g,h2⟩:=vc (A:=A) (s:=s) e f t b.2;refine⟨fun z d=>?_,?_⟩
  .rcases List.mem_cons.mp d with rfl |d
   .rw[zV h b.1];exact HY h e b.1 f
   .exact g z d
  .rw[List.map_cons,h2,zV h b.1]
def zW:V->List V->Hp->VK->Prop:=fun x f H Q=>∃l d y,x=.ref l/\f=[y]/\H l=some (.lst d)/\d.all ip=true/\ip y=true/\Q (.int (d.countP fun z=>eF z y:Nat)) H
theorem MO:qy X "list.count" zW:=by
 intro f s Y H x w v B Q I g i h;obtain⟨l,j,y,rfl,rfl,k,m,o,q⟩:=h;cases g;obtain⟨u,rfl,ru⟩:=i.one;obtain⟨z,d,n,r,C,e⟩:=I.lstM k;obtain⟨t,h2⟩:=vc (A:=X.A.in1) (s:=s) ru o r m;refine call_meets F.slot_list_count ⟨_,e,rfl⟩ F.entry_list_count (F.args_list_count_2 _ _) (SeqAt.list_countAt l d.toArray n none #[] u fun z=>eF (iV z) y) ⟨e,fun z p=>t z (by simpa using p),?_⟩;refine⟨.int _,H,I.tok _,⟨_,rfl⟩,?_⟩;have:d.countP (fun z=>eF (iV z) y)=j.countP fun z=>eF z y:=by rw[<-h2,List.countP_map];rfl
 rw[this];exact q
def zX:V->List V->Hp->VK->Prop:=fun x f H Q=>∃l d y,x=.ref l/\f=[y]/\H l=some (.lst d)/\d.all ip=true/\ip y=true/\(d.findIdx fun z=>eF z y)<d.length/\Q (.int (d.findIdx fun z=>eF z y:Nat)) H
theorem MP:qy X "list.index" zX:=by
 intro k s Y H x J v L Q I o p h;obtain⟨l,f,y,rfl,rfl,t,B,C,g,q⟩:=h;cases o;obtain⟨u,rfl,ru⟩:=p.one;obtain⟨z,d,n,r,M,e⟩:=I.lstM t;obtain⟨G,h2⟩:=vc (A:=X.A.in1) (s:=s) ru C r B;have gt:∀m (i:m<d.length),eF (iV d[m]) y=eF (f[m]'(by lia)) y:=fun m i=>by
  have:f[m]'(by lia)=iV d[m]:=by subst h2;simp
  rw[this]
 have big:((f.findIdx fun z=>eF z y:Nat):Int)<2 ^ 63 - 1:=by
  have:sizeLine<2 ^ 62:=by decide
  lia
 refine call_meets F.slot_list_index ⟨_,e,rfl⟩ F.entry_list_index (F.args_list_index_2 _ _) (SeqAt.list_indexAt l d.toArray n none #[] u (fun z=>eF (iV z) y) (f.findIdx fun z=>eF z y) (by rw[List.size_toArray];lia) big ?_ ?_) ⟨e,fun z D=>G z (by simpa using D),?_⟩
 .show eF (iV d[f.findIdx fun z=>eF z y]) y=true;rw[gt _ (by lia)];exact List.findIdx_getElem (w:=g)
 .intro m i h;have j:m<d.length:=by simpa using i
  show eF (iV d[m]) y=false;rw[gt m j];have:=List.not_of_lt_findIdx h;simpa using this
 .exact⟨.int _,H,I.tok _,⟨_,rfl⟩,q⟩
@[simp]noncomputable def zY:ae->Option (List PyData)
 |.dat (.list ds)=>some ds
 |.own _ (.l ds)=>some ds
 |_=>none
@[simp] def lS(U:ag)(i:Nat):Option (List PyData):=match U[i]? with
 |some (some c)=>zY c
 |_=>none
theorem zZ{K}(st:ay K F H Y U O)(h:lS U i=some k):∃p j,Y[i]? = some (some (.ref p))/\H p=some (.lst j)/\aC (ao O H) j k:=by
 unfold lS at h;split at h
 .rename_i c e;unfold zY at h;split at h
  .cases h;obtain⟨v,d,hd⟩:=st.dat e;obtain⟨p,f,rfl,l,g⟩:=hd.lst_inv;exact⟨p,f,d,(cV l).1,g⟩
  .cases h;obtain⟨p,n,d,⟨_,f,m,g⟩,_⟩:=st.box e;exact⟨p,f,d,m,g⟩
  .cases h
 .cases h
@[simp]noncomputable def oZ:PyData->Option V
 |.none=>some .non
 |.bool b=>some (.bl b)
 |.int i=>some (.int i)
 |.str x=>some (.str x)
 |_=>none
@[simp] def nk:List PyData->Option (List V)
 |[]=>some []
 |d::r=>(match oZ d,nk r with |some v,some l=>some (v::l) |_,_=>none)
theorem vd(h:DV G v d)(e:oZ d=some w):v=w/\ip v=true:=by
 cases d with
 |none=>cases e;rw[h.non_inv];exact⟨rfl,rfl⟩
 |bool b=>cases e;rw[h.bl_inv];exact⟨rfl,rfl⟩
 |int b=>cases e;rw[h.int_inv];exact⟨rfl,rfl⟩
 |str b=>cases e;rw[h.str_inv];exact⟨rfl,rfl⟩
 |_=>cases e
theorem ve:∀{f i g},aC G f g->nk g=some i->f=i/\f.all ip=true
 |[],_,[],.nil,e=>by cases e;exact⟨rfl,rfl⟩
 |v::f,_,d::g,.cons h t,e=>by
  unfold nk at e;cases h1:oZ d with
  |none=>rw[h1]at e;cases e
  |some w=>
   cases h2:nk g with
   |none=>rw[h1,h2]at e;cases e
   |some l=>rw[h1,h2]at e;cases e;obtain⟨j,f1⟩:=vd h h1;obtain⟨k,f2⟩:=ve t h2;exact⟨by rw[j,k],by rw[List.all_cons,f1,f2];rfl⟩
@[simp] def rc(f:List PyData)(y:PyData):Option PyData:=match nk f,oZ y with
 |some d,some w=>some (.int (d.countP fun z=>eF z w:Nat))
 |_,_=>none
@[simp] def rf(f:List PyData)(y:PyData):Option PyData:=match nk f,oZ y with
 |some d,some w=>if (d.findIdx fun z=>eF z w)<d.length then some (.int (d.findIdx fun z=>eF z w:Nat)) else none
 |_,_=>none
@[simp] def Aa(g:List PyData->PyData->Option PyData)(i:Nat)(d:PyData):XM PyData:=fun U=>lift (match lS U i with
 |some ds=>g ds d
 |none=>none) U
@[simp] def rg(g:List PyData->PyData->Option PyData)(i:Nat)(m:XM PyData):XM PyData:=fun U=>match lS U i with
 |some _=>(m U).bind (Aa g i)
 |none=>.bad
theorem Ab{apos f}{id}(slot:Slot "list" J id)(L:typeOf (.builtin id)=pure (.type "method_descriptor"))(hm:qy X id r)
  (hg:∀G l xs I y d z H Q,H l=some (.lst xs)->aC G xs I->DV G y d->g I d=some z->(∀u,DV G u z->Q u H)->r (.ref l) [y] H Q)
  (hv:PE X (.Name x s) (bw i)) (he:FE X F E e m)
  (j:autoParam (attributeBase (.Name x s) J X.env (eval (.Name x s) X.env)=eval (.Name x s) X.env) Zq._auto_1)
  (t:autoParam (((backTo f (starEach [e] X.env)).all (fun x=>!x.1)&&(backToKw f (keywordEach [] X.env)).all (fun x=>x.1.isSome)&&decide (([e]:List Expr).length+([]:List Keyword).length+(if ([]:List Keyword).isEmpty then 0 else 1)<30))=true) Zq._auto_1)
  (n:autoParam ((apos.endLine==f.line)=true) Zq._auto_1) (hs:autoParam (starEach [e] X.env=(false,eval e X.env)::starEach [] X.env) Zq._auto_1) (h:autoParam ((backTo f (starEach [] X.env)).any (·.1)=false) Zq._auto_1) :
  FE X F E (.Call (.Attribute (.Name x s) J apos) [e] [] f) (rg g i m):=
 ⟨aD,(mJ PySem.F.plainAttrs_list slot L hm hv (cJ he.pe dj hs) j t n hs h).imp fun Y H Q v=>by
  obtain⟨U,O,st,q⟩:=v;unfold wp rg at q;cases M:lS U i with
  |none=>rw[M]at q;exact q.elim
  |some a0=>
   rw[M]at q;obtain⟨p,N,A,R,_⟩:=zZ st M;refine⟨_,A,.inl ⟨rfl,N,.of R⟩,U,O,st,aD _ _ _ (fun d S q1 w H1 O1 B s1 d1=>?_) (bY (m:=m) (k:=Aa g i) q)⟩;obtain⟨z,D,q2⟩:=dB (o:=match lS S i with |some I=>g I d |none=>none) (U:=S) (E:=E) q1;cases h1:lS S i with
   |none=>rw[h1]at D;cases D
   |some a1=>
    rw[h1]at D;obtain⟨p',a2,C,T,Z⟩:=zZ B h1;rw[A]at C;cases C;exact hg _ _ _ _ _ _ _ _ _ T Z d1 D fun u hu=>q2 u H1 O1 B s1 hu⟩
theorem MQ:∀G l f g y d z H Q,H l=some (.lst f)->aC G f g->DV G y d->rc g d=some z->(∀u,DV G u z->Q u H)->zW (.ref l) [y] H Q:=fun G l f g y d z H Q h i j e q=>by
 unfold rc at e;split at e
 .rename_i k w h1 h2;cases e;obtain⟨rfl,f1⟩:=ve i h1;obtain⟨rfl,f2⟩:=vd j h2;exact⟨l,f,y,rfl,rfl,h,f1,f2,q _ (.int _)⟩
 .cases e
theorem MR:∀G l f g y d z H Q,H l=some (.lst f)->aC G f g->DV G y d->rf g d=some z->(∀u,DV G u z->Q u H)->zX (.ref l) [y] H Q:=fun G l f g y d z H Q h i j e q=>by
 unfold rf at e;split at e
 .rename_i m w h1 h2;split at e
  .rename_i k;cases e;obtain⟨rfl,f1⟩:=ve i h1;obtain⟨rfl,f2⟩:=vd j h2;exact⟨l,f,y,rfl,rfl,h,f1,f2,k,q _ (.int _)⟩
  .cases e
 .cases e
@[simp]noncomputable def jK(U:ag)(i:Nat):Option (Bool×List PyData):=match U[i]? with
 |some (some (.own io (.l ds)))=>some (io,ds)
 |_=>none
theorem vf(h:jK U i=some (io,d)):U[i]? = some (some (.own io (.l d))):=by
 unfold jK at h;split at h
 .rename_i e;cases h;exact e
 .cases h
@[simp] def vg(i:Nat)(d:PyData):SM:=fun f=>match jK f i,d with
 |some (io,ds),.list g=>if ds.length+g.length<=sizeLine then .nx (f.set i (some (.own io (.l (ds++g))))) else .bad
 |_,_=>.bad
@[simp] def rh(i:Nat)(m:XM PyData):SM:=fun U=>match jK U i with
 |some _=>eN (m U) (vg i)
 |none=>.bad
theorem MS{pos:Pos}(hv:PE X (.Name x n) (bw i))(he:FE X F E e m)(C:autoParam (swapsWith (.Call (.Attribute (.Name x n) "extend" apos) [e] [] g) none pos.line X.env=pure false) Zq._auto_1)
  (r:autoParam (attributeBase (.Name x n) "extend" X.env (eval (.Name x n) X.env)=eval (.Name x n) X.env) Zq._auto_1)
  (u:autoParam (((backTo g (starEach [e] X.env)).all (fun x=>!x.1)&&(backToKw g (keywordEach [] X.env)).all (fun x=>x.1.isSome)&&decide (([e]:List Expr).length+([]:List Keyword).length+(if ([]:List Keyword).isEmpty then 0 else 1)<30))=true) Zq._auto_1)
  (t:autoParam ((apos.endLine==g.line)=true) Zq._auto_1) (T:autoParam (starEach [e] X.env=(false,eval e X.env)::starEach [] X.env) Zq._auto_1) (j:autoParam ((backTo g (starEach [] X.env)).any (·.1)=false) Zq._auto_1) :
  FS X F E (.Expr (.Call (.Attribute (.Name x n) "extend" apos) [e] [] g) pos) (rh i m):=
 (mF (mJ PySem.F.plainAttrs_list PySem.F.slot_list_extend PySem.F.type_list_extend Ih hv (cJ he.pe dj T) r u t T j) C).imp fun D Y H v=>by
  obtain⟨U,O,DD,st,q,f⟩:=v;unfold ck rh at q;cases I:jK U i with
  |none=>rw[I]at q;exact q.elim
  |some p0=>
   obtain⟨a0,a1⟩:=p0;rw[I]at q;obtain⟨p,fp,y,⟨_,xs,hH,_⟩,_,_⟩:=st.box (vf I);refine⟨_,y,.inl ⟨rfl,xs,.of hH⟩,U,O,st,aD _ _ _ (fun d U1 h w H1 O1 J s1 d1=>?_) (fR (m:=m) (k:=vg i) q)⟩;unfold ck vg at h;cases h1:jK U1 i with
   |none=>rw[h1]at h;exact h.elim
   |some n=>
    obtain⟨a2,z⟩:=n;rw[h1]at h;cases d with
    |list Z=>
     simp only at h;obtain⟨p',a3,A,⟨e1,L,M,hd⟩,hO,up⟩:=J.box (vf h1);rw[y]at A;cases A;subst e1;obtain⟨b,N,rfl,hb,B⟩:=d1.lst_inv
     by_cases Q:z.length+Z.length<=sizeLine
     .rw[if_pos Q]at h;refine⟨p,b,L,N,rfl,rfl,M,(cV hb).1,by rw[hd.length,B.length];exact Q,?_⟩;obtain⟨O2,R,s2,_⟩:=up (aB H1 p (.lst (L++N))) (.l (z++Z)) [p] (fun c o S e=>by rw[aV (by simpa using S)];exact e) (by simp) (fun c S=>.inl S) (fun G O' s hG _=>by
       subst hG;exact⟨s.hid,rfl,L++N,bP,(aC.mono s.hid hd).append (aC.mono s.hid B)⟩)
      exact f.nx _ _ _ _ R (s1.trans s2) h
     .rw[if_neg Q]at h;exact h.elim
    |_=>exact h.elim
def MT(K:Frag):List V->Hp->VK->Prop:=fun d H Q=>∃a φ C w b,d=[.ref a,w]/\H a=some (.ext φ)/\(∀h,φ h->∃o,h.get? a=some o/\o.cls=.ref C)/\oY K C=true/\(clsIn K C).isSome=true/\(∀u,bq w u->kitOne K (.ref C) u=some b)/\Q (.bl b) H
theorem Ac:gZ X (.builtin "isinstance") (MT X.K):=by
 intro d s Y H l m Q I r h;obtain⟨a,φ,C,w,b,rfl,f,g,at_,cl,e,q⟩:=h;obtain⟨u,n,rfl,i,j⟩:=fX r;cases i;obtain⟨p,_,_⟩:=(show cI X.prog X.w H s.heap a (.ext φ) from I.hok a _ f)
 exact kia_one (MN at_ cl) I.kIn (g _ p) (e _ j) (fun z=>nomatch z) fun k=>⟨.bl b,H,I.tok k,rfl,q⟩
theorem Ad{K}(h:excIn K C l n=true):(clsIn K C).isSome=true:=by
 unfold excIn at h;unfold clsIn;split at h
 .rename_i e;rw[e];rfl
 .cases h
@[simp]noncomputable def nq(U:ag)(i:Nat):Option Str:=match U[i]? with
 |some (some (.exc c))=>some c
 |_=>none
theorem Ae(h:nq U i=some c):U[i]? = some (some (.exc c)):=by
 unfold nq at h;split at h
 .rename_i e;cases h;exact e
 .cases h
@[simp] def gL(i:Nat)(l:List Str)(cls:Str):XM PyData:=fun U=>match nq U i with
 |some c=>if c∈l/\cls∈l then .ok (.bool (c==cls)) U else .bad
 |none=>.bad
@[simp] def vh(i:Nat)(l:List Str):XM PyData:=fun U=>match nq U i with
 |some c=>if c∈l then .ok (.bool true) U else .bad
 |none=>.bad
theorem Af{K}{i:Nat}(st:ay K F H Y U O)(h:U[i]? = some (some (.exc c)))(f:EC K m c C):∃a φ,Y[i]? = some (some (.ref a))/\H a=some (.ext φ)/\∀h,φ h->∃o,h.get? a=some o/\o.cls=.ref C:=by obtain⟨W,g,rfl⟩:=st;obtain⟨v,n,h1,h2,a,φ,rfl,h3,j⟩:=g.at_ i _ h;refine⟨a,φ,h1,(cV h3).1,fun h p=>?_⟩;obtain⟨q,o,d,k,l⟩:=j h p;rw[f.ns]at d;cases d;exact⟨o,k,l⟩
theorem ix{F:Fx}{E:Str->ag->Prop}{pos:Pos}{p d}(w:XT X.K X.mg l D)(j:Gl X "isinstance")(k:X.mg "isinstance" = none)(G:PE X (.Name x g) (bw i))(m:Gl X cls)(n:cls∈l)(o:autoParam ((cls==("__debug__":Str))=false) Zr._auto_1)
  (y:autoParam (starEach [.Name x g,.Name cls d] X.env=(false,eval (.Name x g) X.env)::starEach [.Name cls d] X.env) Zq._auto_1) (r:autoParam (starEach [.Name cls d] X.env=(false,eval (.Name cls d) X.env)::starEach [] X.env) Zq._auto_1) (s:autoParam ((backTo pos (starEach [.Name cls d] X.env)).any (·.1)=false) Zq._auto_1) :
  FE X F E (.Call (.Name "isinstance" p) [.Name x g,.Name cls d] [] pos) (gL i l cls):=by
 obtain⟨z,A,_⟩:=w.at_ n;refine⟨aD,(mG Ac j k (show bootBuiltins "isinstance" = some (.builtin "isinstance") by decide +kernel) (cJ G (cJ (wX (v:=.ref z) m A.mg rfl o) dj r) y) (by decide) (by decide) y s).imp fun Y H Q f=>?_⟩;obtain⟨U,O,st,q⟩:=f;unfold wp gL at q;cases t:nq U i with
 |none=>rw[t]at q;exact q.elim
 |some c=>
  rw[t]at q
  by_cases h:c∈l/\cls∈l
  .simp only[if_pos h]at q;obtain⟨C,B,_,at_,_,I⟩:=w.at_ h.1;obtain⟨D2,J,N,L⟩:=I cls h.2;have M:D2=z:=by have:=A.mg.symm.trans J;cases this;rfl
   subst M;obtain⟨a,φ,h1,h2,h3⟩:=Af st (Ae t) B;exact⟨_,h1,a,φ,C,.ref D2,_,rfl,h2,h3,at_,Ad B.ex,fun u ru=>by cases ru;exact L,q _ H O st .refl (.bl _)⟩
  .simp only[if_neg h]at q
theorem MU{F:Fx}{E:Str->ag->Prop}{pos:Pos}{p }(y:XT X.K X.mg l D)(h:Gl X "isinstance")(j:X.mg "isinstance" = none)(z:PE X (.Name x g) (bw i))(k:Gl X "ValueError")(m:X.mg "ValueError" = none)
  (t:autoParam (starEach [.Name x g,.Name "ValueError" d] X.env=(false,eval (.Name x g) X.env)::starEach [.Name "ValueError" d] X.env) Zq._auto_1) (n:autoParam (starEach [.Name "ValueError" d] X.env=(false,eval (.Name "ValueError" d) X.env)::starEach [] X.env) Zq._auto_1) (o:autoParam ((backTo pos (starEach [.Name "ValueError" d] X.env)).any (·.1)=false) Zq._auto_1) :
  FE X F E (.Call (.Name "isinstance" p) [.Name x g,.Name "ValueError" d] [] pos) (vh i l):=by
 refine⟨aD,(mG Ac h j (show bootBuiltins "isinstance" = some (.builtin "isinstance") by decide +kernel) (cJ z (cJ (jq (v:=.ty "ValueError") k m (show bootBuiltins "ValueError" = some (.type "ValueError") by decide +kernel) rfl) dj n) t) (by decide) (by decide) t o).imp fun Y H Q f=>?_⟩;obtain⟨U,O,st,q⟩:=f;unfold wp vh at q;cases r:nq U i with
 |none=>rw[r]at q;exact q.elim
 |some c=>
  rw[r]at q
  by_cases s:c∈l
  .simp only[if_pos s]at q;obtain⟨C,w,_,at_,A,B⟩:=y.at_ s;obtain⟨a,φ,h1,h2,h3⟩:=Af st (Ae r) w;exact⟨_,h1,a,φ,C,.ty "ValueError",_,rfl,h2,h3,at_,Ad w.ex,fun u ru=>by cases ru;exact A,q _ H O st .refl (.bl _)⟩
  .simp only[if_neg s]at q
@[simp] def dF:=gI fun i j=>.int (i+j)
@[simp] def fJ:=gI fun i j=>.int (i - j)
@[simp] def ic:=oM ki fun i j=>.int (i * j)
@[simp] def ri:=oM mU fun i j=>.int (i / j)
@[simp] def kA:=oM kj fun i j=>.int (i % j)
@[simp] def jL:=gI fun i j=>.bool (decide (i<j))
@[simp] def nr:=gI fun i j=>.bool (decide (i<=j))
@[simp] def kB:=gI fun i j=>.bool (decide (j<i))
theorem dS(d:FE X F E a ma)(f:FE X F E b mb):FE X F E (.BinOp a .Add b pos) (ai dF ma mb):=gl kh (Lj d f)
theorem ie(d:FE X F E a ma)(f:FE X F E b mb):FE X F E (.BinOp a .Sub b pos) (ai fJ ma mb):=gl kh (Lk d f)
theorem kC(d:FE X F E a ma)(f:FE X F E b mb):FE X F E (.BinOp a .Mult b pos) (ai ic ma mb):=gl (uH LN) (Ll d f)
theorem vi(d:FE X F E a ma)(f:FE X F E b mb):FE X F E (.BinOp a .FloorDiv b pos) (ai ri ma mb):=gl (uH LO) (Lm d f)
theorem nt(d:FE X F E a ma)(f:FE X F E b mb):FE X F E (.BinOp a .Mod b pos) (ai kA ma mb):=gl (uH LP) (Ln d f)
theorem vj(d:FE X F E a ma)(f:FE X F E b mb):FE X F E (.BinOp a .Add b pos) (ai mV ma mb):=gl LQ (Lo d f)
theorem MV(d:FE X F E a ma)(f:FE X F E b mb):FE X F E (.BinOp a .Mult b pos) (ai qS ma mb):=gl LR (LH d f)
theorem Ag(d:FE X F E a ma)(f:FE X F E b mb):FE X F E (.Compare a [.Lt] [b] pos) (ai jL ma mb):=gl kh (Lp d f)
theorem MW(d:FE X F E a ma)(f:FE X F E b mb):FE X F E (.Compare a [.LtE] [b] pos) (ai nr ma mb):=gl kh (Lq d f)
theorem MX(d:FE X F E a ma)(f:FE X F E b mb):FE X F E (.Compare a [.Gt] [b] pos) (ai kB ma mb):=gl kh (Lr d f)
theorem pb(d:FE X F E a ma)(f:FE X F E b mb):FB X F E (.Compare a [.Lt] [b] pos) (be (ai jL ma mb)):=lI kh (Ls d f)
theorem vk(d:FE X F E a ma)(f:FE X F E b mb):FB X F E (.Compare a [.LtE] [b] pos) (be (ai nr ma mb)):=lI kh (Lu d f)
theorem rk(d:FE X F E a ma)(f:FE X F E b mb):FB X F E (.Compare a [.Gt] [b] pos) (be (ai kB ma mb)):=lI kh (Lv d f)
theorem nu(d:X.A.units+64<cLine)(f:FE X F E a ma)(g:FE X F E b mb):FE X F E (.Compare a [.Eq] [b] pos) (ai (aM false) ma mb):=gl uI (Lw d f g)
theorem gp(d:X.A.units+64<cLine)(f:FE X F E a ma)(g:FE X F E b mb):FB X F E (.Compare a [.Eq] [b] pos) (be (ai (aM false) ma mb)):=lI uI (Lx d f g)
theorem lT(d:X.A.units+64<cLine)(f:FE X F E a ma)(g:FE X F E b mb):FB X F E (.Compare a [.NotEq] [b] pos) (be (ai (aM true) ma mb)):=lI uI (Lz d f g)
theorem MY(d:FE X F E a ma)(f:FE X F E b mb):FE X F E (.Compare a [.Is] [b] pos) (ai ko ma mb):=gl zf (LA d f)
theorem vl(d:FE X F E a ma)(f:FE X F E b mb):FE X F E (.Compare a [.IsNot] [b] pos) (ai hV ma mb):=gl zg (mO xl yi d f (bz _))
theorem vm(d:FE X F E a ma)(f:FE X F E b mb):FB X F E (.Compare a [.Is] [b] pos) (be (ai ko ma mb)):=lI zf (LB d f)
theorem rm(d:FE X F E a ma)(f:FE X F E b mb):FB X F E (.Compare a [.IsNot] [b] pos) (be (ai hV ma mb)):=lI zg (LC d f)
theorem MZ(d:FE X F E a ma)(h:FE X F E b mb)(f:FE X F E c mc)(g:lastMarks [.LtE,.LtE] [b,c]=false:=by with_unfolding_all rfl):FE X F E (.Compare a [.LtE,.LtE] [b,c] pos) (uL (fun i j=>decide (i<=j)) (fun i j=>decide (i<=j)) ma mb mc):=LU (LF d h f g)
@[simp] def aJ:PyData->PyData->Option PyData:=fun x y=>match x,y with
 |.tuple ds,.int i=>bD ds i
 |.list ds,.int i=>bD ds i
 |_,_=>none
def Ah:D2:=fun x y Q=>yj x y Q\/yk x y Q
theorem Na{K}:fk (fun x y H Q=>tR K x y H Q\/tQ K x y H Q) Ah where
 mn:=fun x y Q Q' k h=>h.imp (yl (K:=K).mn x y Q Q' k) (ym (K:=K).mn x y Q Q' k)
 ok:=fun O H u v x y Q hO h1 h2 h=>h.imp (yl.ok O H u v x y Q hO h1 h2) (ym.ok O H u v x y Q hO h1 h2)
theorem Nb:F2 Ah aJ:=fun x y d Q e q=>by
 unfold aJ at e;split at e
 .exact .inl ⟨_,_,_,rfl,rfl,e,q⟩
 .exact .inr ⟨_,_,_,rfl,rfl,e,q⟩
 .cases e
theorem aZ(d:FE X F E a ma)(g:FE X F E b mb)(f:im b:=by intro _ _;rfl):FE X F E (.Subscript a b pos) (ai aJ ma mb):=gl Nb (Jk (jt.or HQ lz) Na d g f)
noncomputable def vn:Expr->Bool
 |.Starred ..=>true
 |_=>false
theorem vo(h:vn e=false):starEach (e::b) a=(false,eval e a)::starEach b a:=by cases e<;>first |rfl |cases h
theorem az(g:FE X F E e d)(h:FA X F E es f)(i:autoParam (vn e=false) Zq._auto_1):FA X F E (e::es) (aq d f):=LV g h (vo i)
theorem aw(g:FE X F E e d)(h:FX X F E es f)(i:autoParam (vn e=false) Zq._auto_1):FX X F E (e::es) (au d f):=Me g h (vo i)
theorem br(f:PE X (.Name x p) (bw j))(g:FX X F E es d):FX X F E (.Name x p::es) (aY j d):=Mf f g (vo rfl)
end L2.L3
namespace L2
open PySem
abbrev dU(h:Heap)(T:Addr)(a b:Value):Prop:=h.get? T=some { cls:=.type "tuple",data:=.seq #[a,b] }
end L2
namespace L2.L3
open PySem PySem.Spec PyProof.Rows
noncomputable def bM(f:Str)(v:Fl):List (Str×Fl)->List (Str×Fl)
 |[]=>[(f,v)]
 |(g,x)::r=>if g=f then(g,v)::r else(g,x)::bM f v r
noncomputable def fx:Option Fl->Bool
 |none=>true
 |some (.d _)=>true
 |_=>false
def cg(C:Addr)(U:ag)(i:Nat):Option (Bool×List (Str×Fl)):=match U[i]? with
 |some (some (.own io (.o a fs)))=>if a = C then some (io,fs) else none
 |_=>none
theorem jM(h:cg C U i=some (io,fs)):U[i]? = some (some (.own io (.o C fs))):=by
 unfold cg at h;split at h
 .rename_i e;split at h
  .rename_i a;cases h;rw[e,a]
  .cases h
 .cases h
theorem jN(h:bo G H b fs a)(f):(b.lookup f=none/\fs.lookup f=none)\/∃v x c,b.lookup f=some v/\fs.lookup f=some x/\fZ G H v x c/\c∈a:=by
 induction h with
 |nil=>exact .inl ⟨rfl,rfl⟩
 | @cons n v x c b fs a h1 h2 g=>
  by_cases e:f=n
  .subst e;exact .inr ⟨v,x,c,by simp[List.lookup],by simp[List.lookup],h1,List.mem_cons_self⟩
  .have i:(f==n)=false:=by simpa using e
   rw[List.lookup_cons,List.lookup_cons,i];rcases g with q |⟨j,k,d,l,m,o,p⟩
   .exact .inl q
   .exact .inr ⟨j,k,d,l,m,o,bC _ p⟩
theorem Ai{α:Type}:∀{W:List (List α)}{i:Nat}{l},W.flatten.Nodup->W[i]? = some l->l.Nodup
 |w::W,0,l,nd,h=>by simp only[List.getElem?_cons_zero,Option.some.injEq]at h;subst h;rw[List.flatten_cons]at nd;exact(List.nodup_append.mp nd).1
 |w::W,i+1,l,nd,h=>by rw[List.flatten_cons]at nd;exact Ai (List.nodup_append.mp nd).2.1 (by simpa using h)
theorem ay.boxN{K}(st:ay K F H Y U O)(e:U[i]? = some (some (.own io b))):∃a n,Y[i]? = some (some (.ref a))/\ee (ao O H) H a b n/\(∀c∈n,c∈O)/\n.Nodup/\
  ∀g  w  f,(∀c o,c∉n->H c=some o->g c=some o)->f.Nodup->(∀c∈f,c∈n\/H c=none)->(∀G,(∀p,aH O H p g->G=ao p g->(∀c∈f,c∈p)->bQ (ao O H) G/\ee G g a w f))->
   ∃p,ay K F g Y (U.set i (some (.own io w))) p/\aH O H p g/\(∀c∈p,c∈f\/c∈O):=by
 obtain⟨W,st,rfl⟩:=st;obtain⟨v,n,h1,h2,a,rfl,h3⟩:=st.at_ i _ e;have C:i<U.length:=(List.getElem?_eq_some_iff.mp e).1;have x:i<W.length:=by rw[st.lw];exact C
 refine⟨a,n,h1,h3,fun c d=>aR _ (bK h2 d),(Ai (List.nodup_append.mp st.nd).1 h2),fun g w f keep Q y R=>?_⟩;have s:W.flatten.Nodup:=(List.nodup_append.mp st.nd).1;have D:∀c∈n,c∉F.O₀:=fun c d z=>(List.nodup_append.mp st.nd).2.2 c (bK h2 d) c z rfl;have I:∀j l c,j≠i->W[j]? = some l->c∈l->g c=H c:=fun j l c r m d=>by obtain⟨o,k,_⟩:=st.live c (aR _ (bK m d));rw[k];exact keep c o (fun z=>hJ s m h2 r d z) k
 have J:∀c∈F.O₀,g c=H c:=fun c d=>by obtain⟨o,k,_⟩:=st.live c (aT _ d);rw[k];exact keep c o (fun z=>D c z d) k
 have ap:∀c∈f,(∀j l,j≠i->W[j]? = some l->c∉l)/\c∉F.O₀:=fun c d=>by
  rcases y c d with q |q
  .exact⟨fun j l r m z=>hJ s h2 m (Ne.symm r) q z,D c q⟩
  .refine⟨fun j l _ m z=>?_,fun z=>?_⟩
   .obtain⟨o,k,_⟩:=st.live c (aR _ (bK m z));rw[q]at k;cases k
   .obtain⟨o,k,_⟩:=st.live c (aT _ z);rw[q]at k;cases k
 have frz:∀c o,c∉W.flatten++F.O₀->H c=some o->g c=some o:=fun c o d L=>keep c o (fun z=>d (aR _ (bK h2 z))) L;have A:aH (W.flatten++F.O₀) H ((W.set i f).flatten++F.O₀) g:=⟨frz,fun c h=>by
  rcases List.mem_append.mp h with h |h
  .rcases ek h with h |⟨j,l,_,m,B⟩
   .exact(y c h).imp (fun z=>aR _ (bK h2 z)) id
   .exact .inl (aR _ (bK m B))
  .exact .inl (aT _ h)⟩
 have t:∀c∈f,c∈(W.set i f).flatten++F.O₀:=fun c d=>aR _ (yf x d);have u:=(R _ _ A rfl t).2;obtain⟨E,M⟩:=st.put (H':=g) (i:=i) (v:=.ref a) (c:=.own io w) (fp:=f) C I J frz Q ap (fun c d=>(y c d).imp (fun z=>bK h2 z) id) (fun c d=>u.live c d) (fun _=>⟨a,rfl,u⟩) (fun S z=>by cases z;have:=st.io i b e;rw[h1]at this;exact(Option.some.inj (Option.some.inj this)));have N:Y.set i (some (.ref a))=Y:=by
  apply List.ext_getElem?;intro j
  by_cases r:j=i
  .subst r;rw[List.getElem?_set_self (List.getElem?_eq_some_iff.mp h1).1,h1]
  .rw[List.getElem?_set_ne (Ne.symm r)]
 rw[N]at E;refine⟨_,⟨_,E,rfl⟩,M,fun c d=>?_⟩;rcases List.mem_append.mp d with d |d
 .rcases ek d with d |⟨j,l,_,m,B⟩
  .exact .inl d
  .exact .inr (aR _ (bK m B))
 .exact .inr (aT _ d)
theorem bo.len(h:bo G H b fs a):b.length=fs.length:=by
 induction h with
 |nil=>rfl
 |cons _ _ c=>simp[c]
theorem bo.putD(h:bo G H s fs a)(i:fx (fs.lookup f)=true)(hd:DV r v d)(g:bQ G r)(k:∀c∈a.flatten,p c=H c) :
  bo r p (cM f v s) (bM f (.d d) fs) (if (fs.lookup f).isSome=true then a else a++[[]]):=by
 induction h with
 |nil=>exact .cons ⟨rfl,hd⟩ .nil
 | @cons n w x D s fs a h1 h2 u=>
  unfold cM bM
  by_cases e:n=f
  .subst e;have A:List.lookup n ((n,x)::fs)=some x:=by simp[List.lookup]
   rw[A]at i ⊢;rw[if_pos rfl,if_pos rfl];have t:=h2.keep (H':=p) (fun c j=>k c (by simp only[List.flatten_cons,List.mem_append];exact .inr j)) g;cases x with
   |d y=>obtain⟨rfl,_⟩:=h1;exact .cons ⟨rfl,hd⟩ t
   |l ds=>cases i
   |m E B=>cases i
  .have C:(f==n)=false:=by simpa using fun z=>e z.symm
   rw[List.lookup_cons,C]at i ⊢;rw[if_neg e,if_neg e];have o:=h1.keep (H':=p) (fun c j=>k c (by simp only[List.flatten_cons,List.mem_append];exact .inl j)) g;have b:=u i fun c j=>k c (by simp only[List.flatten_cons,List.mem_append];exact .inr j);simp only at b ⊢;split
   .rename_i q;rw[if_pos q]at b;exact .cons o b
   .rename_i q;rw[if_neg q]at b;exact .cons o b
def bZ(C:Addr)(i:Nat)(f:Str):XM PyData:=fun U=>match cg C U i with
 |some (_,fs)=>(match fs.lookup f with
  |some (.d d)=>.ok d U
  |_=>.bad)
 |none=>.bad
theorem cy(cl:cF X.K C)(j:cG X.K C f)(k:PE X (.Name x p1) (bw i))(A:autoParam (attributeBase (.Name x p1) f X.env (eval (.Name x p1) X.env)=eval (.Name x p1) X.env) Zq._auto_1):FE X F E (.Attribute (.Name x p1) f pos) (bZ C i f):=
 ⟨aD,(iJ k A).imp fun Y H Q g=>by
  obtain⟨U,O,st,q⟩:=g;unfold wp bZ at q;cases ho:cg C U i with
  |none=>rw[ho]at q;exact q.elim
  |some p=>
   obtain⟨io,fs⟩:=p;rw[ho]at q;simp only at q;obtain⟨n,B,h,⟨o,r,s,D,t,G,u⟩,_,_⟩:=st.box (jM ho);rcases jN u f with⟨l1,l2⟩ |⟨v,y,w,l1,l2,l3,_⟩
   .rw[l2]at q;exact q.elim
   .rw[l2]at q;cases y with
    |d d=>exact⟨_,h,n,C,o,r,v,rfl,t,cl,j,l1,q v H O st (.refl ..) l3.2⟩
    |l ds=>exact q.elim
    |m I z=>exact q.elim⟩
def fy(C:Addr)(i:Nat)(f:Str)(d:PyData):SM:=fun U=>match cg C U i with
 |some (io,fs)=>if fs.length<1000/\fx (fs.lookup f)=true then .nx (U.set i (some (.own io (.o C (bM f (.d d) fs))))) else .bad
 |none=>.bad
def cO(C:Addr)(i:Nat)(f:Str)(m:XM PyData):SM:=fun U=>eN (m U) (fy C i f)
theorem vp(cl:cF X.K C)(L:cG X.K C f)(M:PE X (.Name x p1) (bw i))(N:FE X F E e m)(Q:autoParam (swapsWith e (some (.Attribute (.Name x p1) f h)) pos.line X.env=pure false) Zq._auto_1):FS X F E (.Assign [.Attribute (.Name x p1) f h] e pos) (cO C i f m):=
 (qx M N.pe Q).imp fun D Y H ⟨U,O,DD,st,q,R⟩=>⟨U,O,st,aD _ _ _ (fun d S g I T O1 t Z d1=>by
  unfold ck fy at g;cases ho:cg C S i with
  |none=>rw[ho]at g;exact g.elim
  |some p=>
   obtain⟨io,fs⟩:=p;rw[ho]at g;simp only at g
   by_cases j:fs.length<1000/\fx (fs.lookup f)=true
   .rw[if_pos j]at g;obtain⟨r,fp,u,⟨n,v,l,e1,e2,e3,J⟩,hO,nd,up⟩:=t.boxN (jM ho);subst e1;obtain⟨y,_⟩:n≠r/\True:=⟨fun z=>by subst z;simp at nd,trivial⟩
    refine⟨_,u,r,C,n,v,rfl,e2,cl,L,by rw[J.len];exact j.1,?_⟩;obtain⟨O3,A,s3,_⟩:=up (aB T r (.ins C n (cM f I v))) (.o C (bM f (.d d) fs)) (r::n::l.flatten) (fun c o B e=>by rw[aV (fun z=>B (by simp[z]))];exact e) nd (fun c j=>.inl j) (fun G O' s hG _=>by
     subst hG;refine⟨s.hid,n,cM f I v,if (fs.lookup f).isSome=true then l else l++[[]],?_,bP,by rw[aV y];exact e3,?_⟩
     .split
      .rfl
      .simp
     .refine J.putD j.2 (DV.mono s.hid d1) s.hid fun c j=>aV (fun z=>?_);subst z;exact absurd j (by
       have:=(List.nodup_cons.mp nd).1;exact fun w=>this (bC _ w)))
    exact R.nx _ _ _ _ A (Z.trans s3) g
   .rw[if_neg j]at g;exact g.elim) (fR (m:=m) (k:=fy C i f) q)⟩
theorem Aj(a:wp E (kq f as) d Q):gk f E Q as d:=by
 unfold wp kq at a;unfold gk;cases j:gH d as with
 |none=>rw[j]at a;exact a
 |some p=>
  obtain⟨l,n⟩:=p;rw[j]at a;simp only at a ⊢;cases h:f l with
  |rt c b=>rw[h]at a;exact a
  |ex c b=>rw[h]at a;exact a
  |bad=>rw[h]at a;exact a
def cY(f:FM)(i:Nat)(as:List AX):XM ae:=kq f (.s i::as)
def bR(C:Addr)(i:Nat)(m:Str)(f:FM)(mX:XM (List AX)):XM ae:=fun U=>match cg C U i with
 |some (_,fs)=>if fs.lookup m=none then(mX U).bind (cY f i) else .bad
 |none=>.bad
theorem Ak{pos:Pos}{apos:Pos}{pl}(hx:dc X F E)(cl:cF X.K C)(hm:gA X.K C m g)(G:bJ X.prog X.w X.K X.mg X.base (cx X.prog X.w) k g fd ps (cW X.K X.mg f))(hr:ba k X.A)(hb:fM X.K fd ps [])(hv:PE X (.Name x p1) (bw i))(ha:FX X F E (e::es) mX)
  (M:autoParam (starEach (e::es) X.env=(false,eval e X.env)::starEach es X.env) Zq._auto_1) (N:autoParam ((backTo pos (starEach es X.env)).any (·.1)=false) Zq._auto_1)
  (ht:autoParam (eval (.Call (.Attribute (.Name x p1) m apos) (e::es) [] pos) X.env=(do
   let ov <-eval (.Name x p1) X.env
   standAt apos.atName
   let(f,first) <-holding [ov] (getMethod ov m pl)
   callWith pos f first (backTo pos (starEach (e::es) X.env)) (backToKw pos (keywordEach [] X.env)))) Zq._auto_1) :
  FO X F E (.Call (.Attribute (.Name x p1) m apos) (e::es) [] pos) (bR C i m f mX):=by
 refine⟨aD,fun a s Y H Q I l=>?_⟩;obtain⟨U,O,st,q⟩:=l;unfold wp bR at q;cases ho:cg C U i with
 |none=>rw[ho]at q;exact q.elim
 |some p=>
  obtain⟨io,fs⟩:=p;rw[ho]at q;simp only at q
  by_cases R:fs.lookup m=none
  .rw[if_pos R]at q;obtain⟨b,D,n,⟨dx,gs,a2,e1,e2,e3,e4⟩,_,_⟩:=st.box (jM ho);have hg:gs.lookup m=none:=by
    rcases jN e4 m with⟨l1,_⟩ |⟨_,_,_,_,l2,_⟩
    .exact l1
    .rw[R]at l2;cases l2
   refine PySem.W.methodCall_KW (pl:=pl) (aQ (hv a s Y H (fun v o=>v=.ref b/\o=H) I ⟨_,n,rfl,rfl⟩) fun u S t=>?_) ht;obtain⟨v,o,I1,rx,ex,eH⟩:=t;subst ex eH;obtain rfl:u=Value.ref b:=rx;refine tM I1 e2 cl hm hg ?_;have q':=bY (E:=E) (m:=mX) (k:=cY f i) (U:=U) q;refine callWith_K (first:=[.ref b]) (h₀:=X.base) I.ok.mod.kin hm.kp (aQ (ha.pa pos a S Y o (fun J y=>∃as z j,ay X.K F y Y z j/\aH O o j y/\cQ Y (ao j y) J as/\gk f E (fun c U'=>∀v B L D,gi X.K F B Y U' L v c D->aH O o L B->Q v B) (.s i::as) z) I1 ⟨U,O,st,ha.mn _ _ _ (fun as z T J y j d S Z=>⟨as,z,j,d,S,Z,Aj T⟩) q'⟩) fun us s2 zz=>⟨by obtain⟨_,_,I2,_⟩:=zz;exact I2.kIn,?_⟩) M N;obtain⟨J,y,I2,r,as,z,j,d,a1,Z,T⟩:=zz;exact uA hx G hr hb I2 (vs:=V.ref b::J) (us:=Value.ref b::us) (.cons (show bq (.ref b) (.ref b) from rfl) r) d (cQ.s n Z) T fun c U' h v B L D res s2=>h v B L D res (a1.trans s2)
  .rw[if_neg R]at q;exact q.elim
def ei(C:Addr)(i:Nat)(m:Str)(f:FM):XM ae:=fun U=>match cg C U i with
 |some (_,fs)=>if fs.lookup m=none then kq f [.s i] U else .bad
 |none=>.bad
theorem Al(z:dc X F E)(cl:cF X.K C)(o:gA X.K C m g)(G:bJ X.prog X.w X.K X.mg X.base (cx X.prog X.w) k g fd ps (cW X.K X.mg f))(B:ba k X.A)(hb:fM X.K fd ps [])(D:PE X (.Name x p1) (bw i))
  (J:autoParam (eval (.Call (.Attribute (.Name x p1) m apos) [] [] pos) X.env=(do
   let r <-eval (.Name x p1) X.env
   standAt apos.atName
   let(f,first) <-holding [r] (getMethod r m pl)
   callWith pos f first (backTo pos (starEach [] X.env)) (backToKw pos (keywordEach [] X.env)))) Zq._auto_1) :
  FO X F E (.Call (.Attribute (.Name x p1) m apos) [] [] pos) (ei C i m f):=by
 refine⟨aD,fun b s Y H Q I d=>?_⟩;obtain⟨U,O,st,q⟩:=d;unfold wp ei at q;cases ho:cg C U i with
 |none=>rw[ho]at q;exact q.elim
 |some p=>
  obtain⟨io,fs⟩:=p;rw[ho]at q;simp only at q
  by_cases n:fs.lookup m=none
  .rw[if_pos n]at q;obtain⟨a,t,j,⟨dx,L,M,e1,N,e3,R⟩,_,_⟩:=st.box (jM ho);have S:L.lookup m=none:=by
    rcases jN R m with⟨l1,_⟩ |⟨_,_,_,_,l2,_⟩
    .exact l1
    .rw[n]at l2;cases l2
   refine PySem.W.methodCall_KW (pl:=pl) (aQ (D b s Y H (fun v y=>v=.ref a/\y=H) I ⟨_,j,rfl,rfl⟩) fun u s1 l=>?_) J;obtain⟨v,y,I1,T,ex,Z⟩:=l;subst ex Z;obtain rfl:u=Value.ref a:=T;refine tM I1 N cl o S ?_;refine PySem.W.callWith_K0 (first:=[.ref a]) I1.kIn o.kp ?_;exact uA (vs:=[V.ref a]) (us:=[Value.ref a]) (as:=[.s i]) z G B hb I1 (.cons (show bq (.ref a) (.ref a) from rfl) .nil) st (cQ.s j .nil) (Aj q) fun c U' h v H' O' t res s2=>h v H' O' t res s2
  .rw[if_neg n]at q;exact q.elim
noncomputable def nv(C:Addr)(f:FM)(a:List PyData):XM ae:=fun U=>match f (.own true (.o C [])::a.map .dat) with
 |.rt (.dat .none) [b]=>.ok (.own false b) U
 |.ex c _=>.ex c U
 |_=>.bad
def kD(C:Addr)(f:FM)(a:XM (List PyData)):XM ae:=fun U=>(a U).bind (nv C f)
theorem vr{K}:∀{b a},aC (ao O H) b a->aS K H O b (a.map .dat) (a.map fun _=>[])
 |_,_,.nil=>.nil
 |_,_,.cons h t=>.dat h (vr t)
theorem vt{a:Addr}{b:Bx}:∀{j:List PyData}{l}{bs}{c},aP H O l (j.map ae.dat) bs c->bs=[]/\c=[]
 |[],_,_,_,.nil=>⟨rfl,rfl⟩
 |d::j,_,_,_,.skip _ h=>vt (a:=a) (b:=b) h
theorem rn{α β:Type}:∀l:List α,(l.map fun _=>([]:List β)).flatten=[]
 |[]=>rfl
 |_::r=>by simp[rn r]
theorem vu{pos:Pos}{p:Pos}(hx:dc X F E)(M:Mk X.K C g)(G:bJ X.prog X.w X.K X.mg X.base (cx X.prog X.w) k g fd ps (cW X.K X.mg f))(hr:ba (k+1) X.A)(hg:Gl X x)(hm:X.mg x=some (.ref C))(hb:fM X.K fd ps [])(j:FA X F E (e::es) mA)
  (b4:autoParam ((x==("__debug__":Str))=false) Zr._auto_1) (he:autoParam (starEach (e::es) X.env=(false,eval e X.env)::starEach es X.env) Zq._auto_1) (b5:autoParam ((backTo pos (starEach es X.env)).any (·.1)=false) Zq._auto_1) :
  FO X F E (.Call (.Name x p) (e::es) [] pos) (kD C f mA):=by
 refine⟨aD,fun T s Y H Q I a8=>?_⟩;obtain⟨U,O,st,q⟩:=a8;refine wpAny_Call_Name_kw (lx I hg hm ?_ b4);have q':=bY (E:=E) (m:=mA) (k:=nv C f) (U:=U) q;refine callWith_K (h₀:=X.base) I.ok.mod.kin M.kp (aQ (j.pa pos T s Y H (fun vs t=>∃R Z n,ay X.K F t Y Z n/\aH O H n t/\aC (ao n t) vs R/\wp E (nv C f R) Z (fun c U'=>∀v l O' fp,gi X.K F l Y U' O' v c fp->aH O H O' l->Q v l)) I ⟨U,O,st,j.mn _ _ _ (fun R Z B vs t n D J dv=>⟨R,Z,n,D,J,dv,B⟩) q'⟩) fun us J zz=>⟨by obtain⟨_,_,I1,_⟩:=zz;exact I1.kIn,?_⟩) he b5;obtain⟨vs,t,I1,r,R,Z,n,D,b6,dv,B⟩:=zz;let EX:XK:=fun C _ l=>∃c U' O',X.mg c=some C/\ay X.K F l Y U' O'/\E c U';have h:∀x d,t x=none->t d=none->d≠x->cW X.K X.mg f (.ref x::vs) (aB (aB t d (.own x)) x (.ins C d [])) (fun v H2=>v=.non/\Q (.ref x) H2) EX:=fun x d h1 h2 a1=>by
  obtain⟨W,a2,a9⟩:=id D;have a3:∀a∈n,∃o,t a=some o/\Mv o:=fun a h=>a2.live a (by rw[<-a9];exact h);have nx:x∉n:=fun z=>by obtain⟨o,e,_⟩:=a3 x z;rw[h1]at e;cases e
  have b7:d∉n:=fun z=>by obtain⟨o,e,_⟩:=a3 d z;rw[h2]at e;cases e
  have a4:n.Nodup:=by rw[a9];exact a2.nd
  have up:∀b o,t b=some o->aB (aB t d (.own x)) x (.ins C d []) b=some o:=fun b o e=>by rw[aV (fun z=>by subst z;rw[h1]at e;cases e),aV (fun z=>by subst z;rw[h2]at e;cases e)];exact e
  have fl:(([x,d]::R.map fun _=>([]:List Addr)).flatten++n)=x::d::n:=by rw[List.flatten_cons,rn];rfl
  have hid:bQ (ao n t) (ao (x::d::n) (aB (aB t d (.own x)) x (.ins C d []))):=fun b o e=>by
   obtain⟨S,n1⟩:=cV e;refine fY (up b o S) fun z=>?_;rcases List.mem_cons.mp z with z |z
   .subst z;rw[h1]at S;cases S
   .rcases List.mem_cons.mp z with z |z
    .subst z;rw[h2]at S;cases S
    .exact n1 z
  refine⟨(hx.1.at D).mono fun b u _ e=>up b u e,.own true (.o C [])::R.map .dat,[x,d]::R.map fun _=>[],n,?_,?_,?_,?_⟩
  .rw[fl];exact .own ⟨d,[],[],rfl,bP,by rw[aV a1,bP],.nil⟩ (vr (aC.mono hid dv))
  .rw[fl];refine List.nodup_cons.mpr ⟨fun z=>?_,List.nodup_cons.mpr ⟨b7,a4⟩⟩;rcases List.mem_cons.mp z with z |z
   .exact a1 z.symm
   .exact nx z
  .rw[fl];intro a j;rcases List.mem_cons.mp j with rfl |j
   .exact⟨.ins C d [],bP,trivial⟩
   .rcases List.mem_cons.mp j with rfl |j
    .exact⟨.own x,by rw[aV a1,bP],trivial⟩
    .obtain⟨o,S,e2⟩:=a3 a j;exact⟨o,up a o S,e2⟩
  .unfold wp nv at B;have hL:([x,d]::R.map fun _=>([]:List Addr)).flatten=[x,d]:=by rw[List.flatten_cons,rn];rfl
   have b0:ay X.K (F.plus []) t Y Z n:=D;have lift:∀(l:Hp) (L':List Addr),gj (aB (aB t d (.own x)) x (.ins C d [])) l [x,d] L' n->∃N,ay X.K (F.plus L') l Y Z N/\aH n t N l/\(∀a∈L',a∈N)/\(∀a∈N,a∈L'\/a∈n)/\∀a∈L',a∈F.A₀\/F.H₀ a=none:=fun l L' y=>by
    have new1:∀a∈L',t a=none:=fun a j=>by
     rcases y.new a j with z |z
     .simp only[List.mem_cons,List.not_mem_nil,or_false]at z;rcases z with rfl |rfl
      .exact h1
      .exact h2
     .cases e:t a with
      |none=>rfl
      |some o=>rw[up a o e]at z;cases z
    obtain⟨N,t1,t2,t3,t4,_⟩:=b0.swap (L':=L') (H':=l) (fun b o _ e=>y.keep b o (fun z=>by
     simp only[List.mem_cons,List.not_mem_nil,or_false]at z;rcases z with rfl |rfl
     .rw[h1]at e;cases e
     .rw[h2]at e;cases e) (up b o e)) (List.nodup_append.mp y.nd).1 (fun a j=>.inr (new1 a j)) (fun a h=>by cases h) y.live
    refine⟨N,t1,t2,t3,fun a j=>(t4 a j).imp id (·.1),fun a j=>?_⟩
    by_cases hA:a∈F.A₀
    .exact .inl hA
    .refine .inr ?_;cases e:F.H₀ a with
     |none=>rfl
     |some o=>have:=a2.kept a o hA e;rw[new1 a j]at this;cases this
   cases hf:f (.own true (.o C [])::R.map .dat) with
   |bad=>rw[hf]at B;exact B
   |ex c a0=>rw[hf]at B;intro C' l b1 a5 b2 y;rw[hL]at y;obtain⟨N,t1,t2,t3,t4,t5⟩:=lift l [] ⟨a4,fun a h=>(by cases h),y.keep,fun a h=>(by cases h)⟩;exact⟨c,Z,N,a5,t1,B⟩
   |rt c a0=>
    rw[hf]at B;intro v l fp b1 b8 b2 y;rw[hL]at y
    match c,a0,B with
    |.dat .none,[b'],B=>
     have hv:v=.non:=DV.non_inv b8;cases b2 with
     |skip b9 _=>exact absurd rfl (b9 _ _)
     | @own _ _ _ _ a6 _ _ _ c2 b3 a7=>
      obtain⟨_,rfl⟩:=vt (a:=0) (b:=b') a7;refine⟨hv,?_⟩;simp only[List.flatten_cons,List.flatten_nil,List.append_nil]at b3 y;have c0:gj (aB (aB t d (.own x)) x (.ins C d [])) l [x,d] a6 n:=⟨by
       have n1:=y.nd;rw[List.append_assoc]at n1;obtain⟨m1,m2,m3⟩:=List.nodup_append.mp n1;exact List.nodup_append.mpr ⟨m1,a4,fun a j b hb=>m3 a j b (aT _ hb)⟩,fun a j=>y.live a (aR _ j),y.keep,fun a j=>y.new a (aR _ j)⟩
      obtain⟨N,t1,t2,t3,t4,t5⟩:=lift l a6 c0;refine B (.ref x) l N a6 ⟨t1,⟨x,rfl,b3.keep (fun _ _=>rfl) (lE fun a j=>?_)⟩,t5⟩ (b6.trans t2);rcases t4 a j with z |z
      .exact aR _ (aR _ z)
      .exact aT _ z
 have hq:=h (J.heap.objs.size+1) J.heap.objs.size (I1.hok.fresh (Nat.le_succ _)) (I1.hok.fresh (bG _)) (Nat.ne_of_lt (Nat.lt_succ_self _));have I2:=Inv.made (C:=C) I1;have r2:bi (V.ref (J.heap.objs.size+1)::vs) (Value.ref (J.heap.objs.size+1)::us):=.cons rfl r;have hl:(Value.ref (J.heap.objs.size+1)::us++[]).length=ps.length:=by have e:=r2.length;rw[G.len _ _ _ _ hq]at e;rw[List.append_nil];exact e.symm
 refine wpAny_call (Hi (f:=g) I1.kIn M.makes M.init (beq_iff_eq.mp M.fn) (codeAny_mono (G.run _ X.stack _ _ ⟨Value.ref (J.heap.objs.size+1)::us,[]⟩ (Value.ref (J.heap.objs.size+1)::us) _ _ EX (hr.make C us [])
  (I2.env0.make C us []) (by have:=hb _ (Value.ref (J.heap.objs.size+1)::us) I2.kIn hl;rw[List.append_nil]at this;exact this) r2 hq) fun r s' L=>?_))
 cases r with
 |error e=>obtain⟨a,C',l,S,I',cv,ex,c,U',O',a5,c1,hE⟩:=I2.flies L;exact hx.2 T Y l s' e c U' O' ⟨I',a,C',_,_,S,cv,ex,a5⟩ c1 hE
 |ok fl=>
  cases fl with
  |ret u=>obtain⟨v,l,I3,rv,ev,q3⟩:=I2.after L;subst ev;exact⟨rv,⟨V.ref (J.heap.objs.size+1),l,I3,rfl,q3⟩⟩
  |next=>exact False.elim L
  |brk=>exact False.elim L
  |cont=>exact False.elim L
noncomputable def vv:Fl->Bool
 |.d _=>false
 |_=>true
theorem Nc(h:fZ G H v x f)(i:vv x=true):∃b,v=.ref b/\f=[b]:=by
 cases x with
 |d _=>cases i
 |l ds=>obtain⟨a,j,c,e,_⟩:=h;exact⟨a,c,e⟩
 |m k g=>obtain⟨a,c,e,_⟩:=h;exact⟨a,c,e⟩
theorem Am(t:vv x=true):∀{o fs a},bo G H o fs a->fs.lookup f=some x->a.flatten.Nodup->
  ∃b,o.lookup f=some (.ref b)/\fZ G H (.ref b) x [b]/\b∈a.flatten/\∀i j  l,bQ G i->(∀c∈a.flatten,c≠b->j c=H c)->fZ i j (.ref b) l [b]->bo i j o (bM f l fs) a
 |_,_,_,.nil,m,_=>by cases m
 | (n,v)::o,(_,y)::fs,D::a,.cons h1 h2,m,nd=>by
  rw[List.flatten_cons]at nd;obtain⟨E,u,q⟩:=List.nodup_append.mp nd
  by_cases e:f=n
  .subst e;have w:y=x:=by simpa[List.lookup] using m
   subst w;obtain⟨b,rfl,rfl⟩:=Nc h1 t;refine⟨b,by simp[List.lookup],h1,by simp,fun i j l g k d=>?_⟩;unfold bM;rw[if_pos rfl];refine .cons d (h2.keep (fun c h=>k c (by rw[List.flatten_cons];exact aT _ h) fun z=>?_) g);exact q b (by simp) c h z.symm
  .have r:(f==n)=false:=by simpa using e
   rw[List.lookup_cons,r]at m;obtain⟨b,A,B,s,C⟩:=Am t h2 m u;refine⟨b,by rw[List.lookup_cons,r];exact A,B,by rw[List.flatten_cons];exact aT _ s,fun i j l g k d=>?_⟩;unfold bM;rw[if_neg (fun z=>e z.symm)];refine .cons (h1.keep (fun c h=>k c (by rw[List.flatten_cons];exact aR _ h) fun z=>?_) g) (C i j l g (fun c h p=>k c (by rw[List.flatten_cons];exact aT _ h) p) d);exact q c h b s z
theorem ay.fldUp{K}(st:ay K F H Y U O)(T:cg C U i=some (io,fs))(lk:fs.lookup f=some x)(w:vv x=true) :
  ∃a d h b,Y[i]? = some (some (.ref a))/\H a=some (.ins C d h)/\h.lookup f=some (.ref b)/\fZ (ao O H) H (.ref b) x [b]/\
   ∀g  j,Mv g->(∀G,bQ (ao O H) G->fZ G (aB H b g) (.ref b) j [b])->∃k,ay K F (aB H b g) Y (U.set i (some (.own io (.o C (bM f j fs))))) k/\aH O H k (aB H b g):=by
 obtain⟨a,X,n,⟨d,h,l,y,v,A,B⟩,Z,nd,up⟩:=st.boxN (jM T);subst y;have m:=nd;rw[List.nodup_cons,List.nodup_cons]at m;obtain⟨D,p,E⟩:=m;obtain⟨b,I,J,q,L⟩:=Am w B lk E;have M:a≠b:=fun z=>D (by rw[z];exact bC _ q);have N:d≠b:=fun z=>p (by rw[z];exact q);refine⟨a,d,h,b,n,v,I,J,fun g j hM Q=>?_⟩;obtain⟨k,r,R,_⟩:=up (aB H b g) (.o C (bM f j fs)) (a::d::l.flatten) (fun c o t e=>by rw[aV (fun z=>t (by rw[z];exact bC _ (bC _ q)))];exact e) nd (fun c t=>.inl t) (fun G k s S _=>by
  subst S;exact⟨s.hid,d,h,l,rfl,by rw[aV M];exact v,by rw[aV N];exact A,L _ _ j s.hid (fun c _ u=>aV u) (Q _ s.hid)⟩)
 exact⟨k,r,R⟩
def ny(C:Addr)(i:Nat)(f:Str)(d:PyData):SM:=fun U=>match cg C U i with
 |some (io,fs)=>(match fs.lookup f with
  |some (.l ds)=>if ds.length<sizeLine then .nx (U.set i (some (.own io (.o C (bM f (.l (ds++[d])) fs))))) else .bad
  |_=>.bad)
 |none=>.bad
noncomputable def eQ(U:ag)(j:Nat):Option PyData:=match U[j]? with
 |some (some (.dat d))=>some d
 |_=>none
theorem pc(h:eQ U j=some d):U[j]? = some (some (.dat d)):=by
 unfold eQ at h;split at h
 .rename_i e;cases h;exact e
 .cases h
def lU(C:Addr)(i:Nat)(f:Str)(j:Nat):SM:=fun U=>match eQ U j with
 |some d=>ny C i f d U
 |none=>.bad
theorem Nd{F:Fx}{E:Str->ag->Prop}{pos:Pos}{apos:Pos}{cpos:Pos}{fpos:Pos}(cl:cF X.K C)(S:cG X.K C f)(T:PE X (.Name x p1) (bw i))(Z:PE X (.Name y k) (bw j))(hb:autoParam (attributeBase (.Name x p1) f X.env (eval (.Name x p1) X.env)=eval (.Name x p1) X.env) Zq._auto_1)
  (B:autoParam (swapsWith (.Call (.Attribute (.Attribute (.Name x p1) f fpos) "append" apos) [.Name y k] [] cpos) none pos.line X.env=pure false) Zq._auto_1)
  (n:autoParam (attributeBase (.Attribute (.Name x p1) f fpos) "append" X.env (eval (.Attribute (.Name x p1) f fpos) X.env)=eval (.Attribute (.Name x p1) f fpos) X.env) Zq._auto_1)
  (t:autoParam (((backTo cpos (starEach [.Name y k] X.env)).all (fun x=>!x.1)&&(backToKw cpos (keywordEach [] X.env)).all (fun x=>x.1.isSome)&&decide (([.Name y k]:List Expr).length+([]:List Keyword).length+(if ([]:List Keyword).isEmpty then 0 else 1)<30))=true) Zq._auto_1)
  (o:autoParam ((apos.endLine==cpos.line)=true) Zq._auto_1) (Q:autoParam (starEach [.Name y k] X.env=(false,eval (.Name y k) X.env)::starEach [] X.env) Zq._auto_1) (h:autoParam ((backTo cpos (starEach [] X.env)).any (·.1)=false) Zq._auto_1) :
  FS X F E (.Expr (.Call (.Attribute (.Attribute (.Name x p1) f fpos) "append" apos) [.Name y k] [] cpos) pos) (lU C i f j):=
 (mF (mJ PySem.F.plainAttrs_list PySem.F.slot_list_append PySem.F.type_list_append qz (iJ T hb) (cJ Z dj Q) n t o Q h) B).imp fun D Y H u=>by
  obtain⟨U,O,DD,st,q,fD⟩:=u;unfold ck lU at q;cases r:eQ U j with
  |none=>rw[r]at q;exact q.elim
  |some d=>
   have hd:=pc r;rw[r]at q;simp only at q;unfold ny at q;cases ho:cg C U i with
   |none=>rw[ho]at q;exact q.elim
   |some p=>
    obtain⟨io,fs⟩:=p;rw[ho]at q;simp only at q;cases s:fs.lookup f with
    |none=>rw[s]at q;exact q.elim
    |some z=>
     rw[s]at q;cases z with
     |d _=>exact q.elim
     |m _ _=>exact q.elim
     |l ds=>
      simp only at q
      by_cases I:ds.length<sizeLine
      .rw[if_pos I]at q;obtain⟨a0,dx,gs,J,L,e2,q1,⟨b1,A,eb,_,R,v⟩,up⟩:=st.fldUp ho s rfl;cases eb;obtain⟨w,hw,M⟩:=st.dat hd;obtain⟨O2,N,s2⟩:=up (.lst (A++[w])) (.l (ds++[d])) trivial (fun G g=>⟨J,A++[w],rfl,rfl,bP,(aC.mono g v).append (.cons (DV.mono g M) .nil)⟩);exact⟨_,L,a0,C,dx,gs,.ref J,rfl,e2,cl,S,q1,.inl ⟨rfl,A,.of R⟩,w,hw,J,A,w,rfl,rfl,R,by rw[v.length];exact I,fD.nx _ _ _ _ N s2 q⟩
      .rw[if_neg I]at q;exact q.elim
def lV(C:Addr)(i:Nat)(f:Str)(j l:Nat)(v:PyData):SM:=fun U=>match cg C U i,eQ U j,eQ U l with
 |some (io,fs),some y,some z=>(match fs.lookup f,oW true (.tuple [y,z]) with
  |some (.m true d),some k=>if d.length<sizeLine then .nx (U.set i (some (.own io (.o C (bM f (.m true (ky true d (.tuple [y,z]) k v)) fs))))) else .bad
  |_,_=>.bad)
 |_,_,_=>.bad
def nz(C:Addr)(i:Nat)(f:Str)(j l:Nat)(m:XM PyData):SM:=fun U=>eN (m U) (lV C i f j l)
theorem Nf{pos:Pos}{fpos:Pos}{p4 r}{kx}(hu:X.A.units+1<cLine)(cl:cF X.K C)(na:cG X.K C f)(hv:PE X (.Name x p1) (bw i))(hy:PE X (.Name y w) (bw j))(hz:PE X (.Name z s) (bw l))(he:FE X F E e m)(hb:autoParam (attributeBase (.Name x p1) f X.env (eval (.Name x p1) X.env)=eval (.Name x p1) X.env) Zq._auto_1)
  (h1:autoParam (starEach [.Name y w,.Name z s] X.env=(false,eval (.Name y w) X.env)::starEach [.Name z s] X.env) Zq._auto_1) (h2:autoParam (starEach [.Name z s] X.env=(false,eval (.Name z s) X.env)::starEach [] X.env) Zq._auto_1)
  (hs:autoParam (swapsWith e (some (.Subscript (.Attribute (.Name x p1) f fpos) (.Tuple [.Name y w,.Name z s] kx p4) r)) pos.line X.env=pure false) Zq._auto_1) :
  FS X F E (.Assign [.Subscript (.Attribute (.Name x p1) f fpos) (.Tuple [.Name y w,.Name z s] kx p4) r] e pos) (nz C i f j l m):=
 (IB hu (iJ hv hb) (xw (cJ hy (cJ hz dj h2) h1)) he.pe hs).imp fun D Y H ⟨U,O,DD,st,q,fD⟩=>⟨U,O,st,aD _ _ _ (fun v N h vy H1 O1 n s1 d1=>by
  unfold ck lV at h;cases ho:cg C N i with
  |none=>rw[ho]at h;exact h.elim
  |some p=>
   obtain⟨io,fs⟩:=p;cases L:eQ N j with
   |none=>rw[ho,L]at h;exact h.elim
   |some y0=>
    cases Q:eQ N l with
    |none=>rw[ho,L,Q]at h;exact h.elim
    |some z0=>
     rw[ho,L,Q]at h;simp only at h;cases o:fs.lookup f with
     |none=>rw[o]at h;exact h.elim
     |some t=>
      rw[o]at h;cases t with
      |d _=>exact h.elim
      |l _=>exact h.elim
      |m tk B=>
       cases tk with
       |false=>exact h.elim
       |true=>
        cases R:oW true (.tuple [y0,z0]) with
        |none=>rw[R]at h;exact h.elim
        |some k=>
         rw[R]at h;simp only at h
         by_cases u:B.length<sizeLine
         .rw[if_pos u]at h;obtain⟨a0,dx,gs,S,I,e2,l1,_,_⟩:=n.fldUp ho o rfl;obtain⟨w1,T,Z⟩:=n.dat (pc L);obtain⟨w2,a2,a3⟩:=n.dat (pc Q);refine⟨_,I,a0,C,dx,gs,.ref S,rfl,e2,cl,na,l1,w1,T,w2,a2,show 2<=sizeLine by decide,fun p hp=>?_⟩;have M:bQ H1 (aB H1 p (.tup [w1,w2])):=ca hp;have a4:=n.grow M;have hd:=lD (O:=O1) M;obtain⟨a1,a7,a8,b1,J,e3,l2,⟨b2,eb,_,a5⟩,up⟩:=a4.fldUp ho o rfl;rw[I]at J;cases J;rw[M _ _ e2]at e3;cases e3;rw[l1]at l2;cases l2;cases eb;obtain⟨o',g1,mv,g2⟩:=Mu a5 qG (mQ hp (n.nofree p hp) (.cons Z (.cons a3 .nil))) (DV.mono hd d1) R u;obtain⟨O3,a6,s3⟩:=up o' (.m true (ky true B (.tuple [y0,z0]) k v)) mv (fun G g=>⟨S,rfl,rfl,g2 G g⟩);exact⟨S,_,rfl,g1,fD.nx _ _ _ _ a6 (s1.trans ((aH.same M).trans s3)) h⟩
         .rw[if_neg u]at h;exact h.elim) (fR (m:=m) (k:=lV C i f j l) q)⟩
def pd(C:Addr)(i:Nat)(f:Str)(j:Nat):XM PyData:=fun U=>match cg C U i,eQ U j with
 |some (_,fs),some (.int k)=>(match fs.lookup f with
  |some (.l ds)=>lift (bD ds k) U
  |some (.d (.list ds))=>lift (bD ds k) U
  |some (.d (.tuple ds))=>.bad
  |_=>.bad)
 |_,_=>.bad
theorem An(h:aC G l g)(e:bD g k=some d):∃v,bD l k=some v/\DV G v d:=by
 unfold bD at e ⊢;rw[h.length];cases n:cn g.length k with
 |none=>rw[n]at e;cases e
 |some j=>rw[n]at e;exact h.get e
theorem Ng{F:Fx}{E:Str->ag->Prop}{pos:Pos}{fpos:Pos}(cl:cF X.K C)(R:cG X.K C f)(Z:PE X (.Name x p1) (bw i))(hy:PE X (.Name y u) (bw j))(hb:autoParam (attributeBase (.Name x p1) f X.env (eval (.Name x p1) X.env)=eval (.Name x p1) X.env) Zq._auto_1)(hs:im (.Name y u):=by intro _ _;rfl) :
  FE X F E (.Subscript (.Attribute (.Name x p1) f fpos) (.Name y u) pos) (pd C i f j):=
 ⟨aD,(ly lz (iJ Z hb) hy hs).imp fun Y H Q r=>by
  obtain⟨U,O,st,q⟩:=r;unfold wp pd at q;cases ho:cg C U i with
  |none=>rw[ho]at q;exact q.elim
  |some p=>
   obtain⟨io,fs⟩:=p;cases z:eQ U j with
   |none=>rw[ho,z]at q;exact q.elim
   |some y0=>
    rw[ho,z]at q;cases y0 with
    |int k=>
     simp only at q;obtain⟨w,S,dw⟩:=st.dat (pc z);obtain rfl:=dw.int_inv;cases g:fs.lookup f with
     |none=>rw[g]at q;exact q.elim
     |some t=>
      rw[g]at q;cases t with
      |m _ _=>exact q.elim
      |l ds=>obtain⟨A,B,D,T,h,G,l1,⟨I,J,eb,_,L,n⟩,_⟩:=st.fldUp ho g rfl;cases eb;obtain⟨d,s,M⟩:=dB (o:=bD ds k) (U:=U) (E:=E) q;obtain⟨v,ev,N⟩:=An n s;exact⟨_,h,A,C,B,D,.ref T,rfl,G,cl,R,l1,_,S,T,J,k,v,rfl,rfl,.of L,ev,M v H O st .refl N⟩
      |d x0=>
       cases x0 with
       |list ds=>
        obtain⟨A,fp,h,⟨B,D,a1,s,G,e3,e4⟩,_,_⟩:=st.box (jM ho);rcases jN e4 f with⟨_,l2⟩ |⟨v,y1,a2,l1,l2,l3,_⟩
        .rw[g]at l2;cases l2
        .rw[g]at l2;cases l2;obtain⟨I,J,rfl,L,n⟩:=l3.2.lst_inv;obtain⟨d,s,M⟩:=dB (o:=bD ds k) (U:=U) (E:=E) q;obtain⟨v,ev,N⟩:=An n s;exact⟨_,h,A,C,B,D,.ref I,rfl,G,cl,R,l1,_,S,I,J,k,v,rfl,rfl,.of (cV L).1,ev,M v H O st .refl N⟩
       |_=>exact q.elim
    |_=>exact q.elim⟩
def lW(C:Addr)(i:Nat)(f:Str)(j:Nat)(v:PyData):SM:=fun U=>match cg C U i,eQ U j with
 |some (io,fs),some (.int k)=>(match fs.lookup f with
  |some (.l ds)=>(match cn ds.length k with
   |some n=>.nx (U.set i (some (.own io (.o C (bM f (.l (ds.set n v)) fs)))))
   |none=>.bad)
  |_=>.bad)
 |_,_=>.bad
def nB(C:Addr)(i:Nat)(f:Str)(j:Nat)(m:XM PyData):SM:=fun U=>eN (m U) (lW C i f j)
theorem vA(hd:DV G v d):∀{g j} n,aC G g j->aC G (g.set n v) (j.set n d)
 |_,_,_,.nil=>.nil
 |_,_,0,.cons _ t=>.cons hd t
 |_,_,n+1,.cons h t=>.cons h (vA hd n t)
theorem Nh{pos:Pos}{fpos:Pos}{h}(cl:cF X.K C)(Z:cG X.K C f)(hv:PE X (.Name x p1) (bw i))(hy:PE X (.Name y r) (bw j))(he:FE X F E e m)(hb:autoParam (attributeBase (.Name x p1) f X.env (eval (.Name x p1) X.env)=eval (.Name x p1) X.env) Zq._auto_1)
  (hs:autoParam (swapsWithSole [.Subscript (.Attribute (.Name x p1) f fpos) (.Name y r) h] e pos.line X.env=pure false) Zq._auto_1) (hw:autoParam (swappedStores [.Subscript (.Attribute (.Name x p1) f fpos) (.Name y r) h] e X.env=pure none) Zq._auto_1)
  (h1:autoParam ((assignEach [.Subscript (.Attribute (.Name x p1) f fpos) (.Name y r) h] X.env).map (·.2)=[assign (.Subscript (.Attribute (.Name x p1) f fpos) (.Name y r) h) X.env]) Zq._auto_1)
  (hq:autoParam (∀v,assign (.Subscript (.Attribute (.Name x p1) f fpos) (.Name y r) h) X.env v=(do
   let A <-holding [v] (eval (.Attribute (.Name x p1) f fpos) X.env);let B <-holding [v,A] (eval (.Name y r) X.env)
   standAt h
   holding [v,A,B] (setItem A B v)
   release [v,A,B] [])) Zs._auto_1) :
  FS X F E (.Assign [.Subscript (.Attribute (.Name x p1) f fpos) (.Name y r) h] e pos) (nB C i f j m):=
 (xb he.pe (xa (iJ hv hb) hy xG hq) hs hw h1).imp fun D Y H ⟨U,O,DD,st,q,fD⟩=>⟨U,O,st,aD _ _ _ (fun v S o T H1 O1 u s1 d1=>by
  unfold ck lW at o;cases ho:cg C S i with
  |none=>rw[ho]at o;exact o.elim
  |some p=>
   obtain⟨io,fs⟩:=p;cases I:eQ S j with
   |none=>rw[ho,I]at o;exact o.elim
   |some y0=>
    rw[ho,I]at o;cases y0 with
    |int k=>
     simp only at o;cases s:fs.lookup f with
     |none=>rw[s]at o;exact o.elim
     |some t=>
      rw[s]at o;cases t with
      |d _=>exact o.elim
      |m _ _=>exact o.elim
      |l ds=>
       simp only at o;cases J:cn ds.length k with
       |none=>rw[J]at o;exact o.elim
       |some n=>rw[J]at o;obtain⟨w,L,dw⟩:=u.dat (pc I);obtain rfl:=dw.int_inv;obtain⟨a0,dx,gs,M,N,e2,l1,⟨b1,Q,eb,_,hH,z⟩,up⟩:=u.fldUp ho s rfl;cases eb;obtain⟨O2,R,s2⟩:=up (.lst (Q.set n T)) (.l (ds.set n v)) trivial (fun G g=>⟨M,Q.set n T,rfl,rfl,bP,vA (DV.mono g d1) n (aC.mono g z)⟩);exact⟨_,N,a0,C,dx,gs,.ref M,rfl,e2,cl,Z,l1,_,L,M,Q,k,n,rfl,rfl,hH,by rw[z.length];exact J,fD.nx _ _ _ _ R (s1.trans s2) o⟩
    |_=>exact o.elim) (fR (m:=m) (k:=lW C i f j) q)⟩
def ro(C:Addr)(i:Nat)(f:Str)(n:Int):SM:=fun U=>match cg C U i with
 |some (io,fs)=>(match fs.lookup f with
  |some (.d (.int v))=>if fs.length<1000 then .nx (U.set i (some (.own io (.o C (bM f (.d (.int (v+n))) fs))))) else .bad
  |_=>.bad)
 |none=>.bad
theorem Ni(cl:cF X.K C)(S:cG X.K C f)(T:PE X (.Name x p1) (bw i))(Z:PE X e (fun Y H Q=>Q (.int n) H)):FS X F E (.AugAssign (.Attribute (.Name x p1) f k) .Add e pos) (ro C i f n):=
 (Hq T Z Hs).imp fun D Y H r=>by
  obtain⟨U,O,DD,st,q,fD⟩:=r;unfold ck ro at q;cases ho:cg C U i with
  |none=>rw[ho]at q;exact q.elim
  |some p=>
   obtain⟨io,fs⟩:=p;rw[ho]at q;simp only at q;cases g:fs.lookup f with
   |none=>rw[g]at q;exact q.elim
   |some t=>
    rw[g]at q;cases t with
    |l _=>exact q.elim
    |m _ _=>exact q.elim
    |d x0=>
     cases x0 with
     |int v0=>
      simp only at q
      by_cases A:fs.length<1000
      .rw[if_pos A]at q;obtain⟨u,fp,B,⟨j,y,h,e1,R,e3,I⟩,hO,nd,up⟩:=st.boxN (jM ho);subst e1;have J:j≠u:=fun z=>by subst z;simp at nd
       rcases jN I f with⟨_,l2⟩ |⟨v,y1,a1,l1,l2,l3,_⟩
       .rw[g]at l2;cases l2
       .rw[g]at l2;cases l2;obtain rfl:=l3.2.int_inv;obtain⟨O3,L,s3,_⟩:=up (aB H u (.ins C j (cM f (.int (v0+n)) y))) (.o C (bM f (.d (.int (v0+n))) fs)) (u::j::h.flatten) (fun c o M e=>by rw[aV (fun z=>M (by simp[z]))];exact e) nd (fun c N=>.inl N) (fun G O' s hG _=>by
         subst hG;refine⟨s.hid,j,cM f (.int (v0+n)) y,if (fs.lookup f).isSome=true then h else h++[[]],?_,bP,by rw[aV J];exact e3,?_⟩
         .split
          .rfl
          .simp
         .refine I.putD (by rw[g];rfl) (.int _) s.hid fun c N=>aV (fun z=>?_);subst z;exact absurd N (fun w=>(List.nodup_cons.mp nd).1 (bC _ w)))
        exact⟨_,B,u,C,j,y,_,rfl,R,cl,S,l1,v0,n,rfl,rfl,j,y,R,by rw[I.len];exact A,fD.nx _ _ _ _ L s3 q⟩
      .rw[if_neg A]at q;exact q.elim
     |_=>exact q.elim
theorem Ao:∀{i fs a},bo G H i fs a->fs.lookup f=none->bQ G b->(∀c∈a.flatten,d c=H c)->fZ b d (.ref p) y [p]->bo b d (cM f (.ref p) i) (bM f y fs) (a++[[p]])
 |_,_,_,.nil,_,_,_,h=>.cons h .nil
 | (n,v)::i,(_,z)::fs,o::a,.cons h1 h2,j,g,k,h=>by
  by_cases e:f=n
  .subst e;simp[List.lookup]at j
  .have m:(f==n)=false:=by simpa using e
   rw[List.lookup_cons,m]at j;unfold cM bM;rw[if_neg (fun z=>e z.symm),if_neg (fun z=>e z.symm)];exact .cons (h1.keep (fun c l=>k c (by rw[List.flatten_cons];exact aR _ l)) g) (Ao h2 j g (fun c l=>k c (by rw[List.flatten_cons];exact aT _ l)) h)
theorem ay.fldNew{K}(st:ay K F H Y U O)(S:cg C U i=some (io,fs))(lk:fs.lookup f=none) :
  ∃a d g,Y[i]? = some (some (.ref a))/\H a=some (.ins C d g)/\g.length=fs.length/\
   ∀p  h  y,H p=none->Mv h->(∀G,bQ (ao O H) G->fZ G (aB (aB H p h) a (.ins C d (cM f (.ref p) g))) (.ref p) y [p])->aB H p h a=some (.ins C d g)/\∃l,ay K F (aB (aB H p h) a (.ins C d (cM f (.ref p) g))) Y (U.set i (some (.own io (.o C (bM f y fs))))) l/\aH O H l (aB (aB H p h) a (.ins C d (cM f (.ref p) g))):=by
 obtain⟨a,T,n,⟨d,g,j,D,q,v,w⟩,E,nd,up⟩:=st.boxN (jM S);subst D;have m:=nd;rw[List.nodup_cons,List.nodup_cons]at m;obtain⟨r,t,I⟩:=m;have ad:d≠a:=fun z=>r (by rw[z];exact List.mem_cons_self);refine⟨a,d,g,n,q,w.len,fun p h y k X J=>?_⟩;have pa:a≠p:=fun z=>by subst z;rw[q]at k;cases k
 have A:d≠p:=fun z=>by subst z;rw[v]at k;cases k
 have L:=st.live;have B:p∉j.flatten:=fun z=>by exact absurd (E p (bC _ (bC _ z))) (st.nofree p k)
 refine⟨by rw[aV pa];exact q,?_⟩;obtain⟨l,u,M,_⟩:=up (aB (aB H p h) a (.ins C d (cM f (.ref p) g))) (.o C (bM f y fs)) (a::d::(j++[[p]]).flatten) (fun c o b e=>by
   rw[aV (fun z=>b (by simp[z])),aV (fun z=>by subst z;rw[k]at e;cases e)];exact e) (by
   rw[List.flatten_append];simp only[List.flatten_cons,List.flatten_nil,List.append_nil];refine List.nodup_cons.mpr ⟨fun z=>?_,List.nodup_cons.mpr ⟨fun z=>?_,List.nodup_append.mpr ⟨I,by simp,fun x N y Q=>?_⟩⟩⟩
   .rcases List.mem_cons.mp z with z |z
    .exact ad z.symm
    .rcases List.mem_append.mp z with z |z
     .exact r (bC _ z)
     .exact pa (List.mem_singleton.mp z)
   .rcases List.mem_append.mp z with z |z
    .exact t z
    .exact A (List.mem_singleton.mp z)
   .rw[List.mem_singleton.mp Q];exact fun z=>B (by rw[<-z];exact N)) (fun c b=>by
   rw[List.flatten_append]at b;simp only[List.flatten_cons,List.flatten_nil,List.append_nil]at b;rcases List.mem_cons.mp b with rfl |b
   .exact .inl List.mem_cons_self
   .rcases List.mem_cons.mp b with rfl |b
    .exact .inl (by simp)
    .rcases List.mem_append.mp b with b |b
     .exact .inl (bC _ (bC _ b))
     .exact .inr (by rw[List.mem_singleton.mp b];exact k)) (fun G l s R _=>by
  subst R;refine⟨s.hid,d,cM f (.ref p) g,j++[[p]],rfl,bP,by rw[aV ad,aV A];exact v,Ao w lk s.hid (fun c b=>?_) (J _ s.hid)⟩;rw[aV (fun z=>r (by rw[<-z];exact bC _ b)),aV (fun z=>B (by rw[<-z];exact b))])
 exact⟨l,u,M⟩
def lX(C:Addr)(i:Nat)(f:Str)(y:Fl):SM:=fun U=>match cg C U i with
 |some (io,fs)=>if fs.lookup f=none/\fs.length<1000 then .nx (U.set i (some (.own io (.o C (bM f y fs))))) else .bad
 |none=>.bad
theorem Nj(cl:cF X.K C)(r:cG X.K C f)(s:PE X (.Name x p1) (bw i))(t:autoParam (swapsWith (.List [] p2) (some (.Attribute (.Name x p1) f pos')) pos.line X.env=pure false) Zq._auto_1):FS X F E (.Assign [.Attribute (.Name x p1) f pos'] (.List [] p2) pos) (lX C i f (.l [])):=
 (qx s (jY dj) t).imp fun D Y H d=>by
  obtain⟨U,O,L,st,q,u⟩:=d;unfold ck lX at q;cases ho:cg C U i with
  |none=>rw[ho]at q;exact q.elim
  |some p=>
   obtain⟨io,fs⟩:=p;rw[ho]at q;simp only at q
   by_cases h:fs.lookup f=none/\fs.length<1000
   .rw[if_pos h]at q;obtain⟨o,v,w,j,y,A,B⟩:=st.fldNew ho h.1;refine⟨Nat.zero_le _,fun p k=>?_⟩;have pa:o≠p:=fun z=>by subst z;rw[y]at k;cases k
    obtain⟨J,M,n,I⟩:=B p (.lst []) (.l []) k trivial (fun G g=>⟨p,[],rfl,rfl,by rw[aV (fun z=>pa z.symm),bP],.nil⟩);exact⟨_,j,o,C,v,w,rfl,J,cl,r,by rw[A];exact h.2,u.nx _ _ _ _ n I q⟩
   .rw[if_neg h]at q;exact q.elim
theorem Nk(cl:cF X.K C)(o:cG X.K C f)(r:PE X (.Name x p1) (bw i))(s:autoParam (swapsWith (.Dict [] [] p2) (some (.Attribute (.Name x p1) f pos')) pos.line X.env=pure false) Zq._auto_1):FS X F E (.Assign [.Attribute (.Name x p1) f pos'] (.Dict [] [] p2) pos) (lX C i f (.m true [])):=
 (qx r IE s).imp fun D Y H d=>by
  obtain⟨U,O,L,st,q,t⟩:=d;unfold ck lX at q;cases ho:cg C U i with
  |none=>rw[ho]at q;exact q.elim
  |some p=>
   obtain⟨io,fs⟩:=p;rw[ho]at q;simp only at q
   by_cases h:fs.lookup f=none/\fs.length<1000
   .rw[if_pos h]at q;obtain⟨n,u,v,j,w,y,A⟩:=st.fldNew ho h.1;intro p k;have I:n≠p:=fun z=>by subst z;rw[w]at k;cases k
    obtain⟨J,M,l,B⟩:=A p (.dT []) (.m true []) k trivial (fun G g=>⟨p,rfl,rfl,[],by rw[aV (fun z=>I z.symm),bP],.nil⟩);exact⟨_,j,n,C,u,v,rfl,J,cl,o,by rw[y];exact h.2,t.nx _ _ _ _ l B q⟩
   .rw[if_neg h]at q;exact q.elim
end L2.L3
namespace L2
open PySem
theorem Ap(a d):argsOk "min" ⟨[a],[("default",d)]⟩:=by unfold argsOk;kernel_rfl
theorem Aq{s:Shared}{id}(k:builtinKind id=none)(l:plainId id=true)(n:entryFor table id=some b)(m:argsOk id ⟨args,d⟩)
  (i:wpAny (model prog w) A.in1 (b ⟨args,d⟩) (fun fin a=>match fin with
   |.done f=>(match (Except.ok f:Result) with |.ok (.ret v)=>Q v a |.ok _=>False |.error e=>E e a)
   |.again j=>j.quiet=true/\codeAny (model prog w) A j (fun r a=>match r with |.ok (.ret v)=>Q v a |.ok _=>False |.error e=>E e a) a) E s):wpAny (model prog w) A (call (.builtin id) args d) Q E s:=by
 refine wpAny_call (codeAny_call_builtin l n ?_);simp only[checkBuiltinCall,k];cases c:Manifest.signature? id with
 |none=>exact bd i
 |some g=>
  have h:Bind.checkArgs id g ⟨args,d⟩=pure ():=by simpa only[argsOk,c] using m
  simp only[h];exact bd i
theorem Nl(t:A.handled=none)(k:s.heap.IsList l #[])(p:∀c,(∀b o,s.heap.get? b=some o->c.get? b=some o)->Q d { s with heap:=c }) :
  wpAny (model prog w) A (call (.builtin "min") [.ref l] [("default",d)]) Q E s:=by
 refine Aq F.kind_min F.plain_min F.entry_min (Ap _ _) ?_;show wpAny _ A.in1 (Builtin.Builtins.bindParams "min" ["key","default"] 0 ⟨[],[("default",d)]⟩ >>= _) _ _ s;refine aj (wpAny_of_eq (show Builtin.Builtins.bindParams "min" ["key","default"] 0 ⟨[],[("default",d)]⟩=pure [none,some d] from rfl) ?_);refine aj (bd ?_);refine aj (wpAny_pyIter_list k ?_);refine aj (wpAny_newObj_type ?_);have a:(toString "min"++toString ".loop":String)="min.loop":=by decide
 rw[a];obtain⟨ol,f,g,nl,h⟩:=id k;generalize m:(s.heap.push { cls:=.type "list_iterator",data:=.fields #[.ref l,.int 0 0] })=h1;have q:h1.get? s.heap.objs.size=some { cls:=.type "list_iterator",data:=.fields #[.ref l,.int 0 0] }:=by rw[<-m];exact Heap.get?_push_size _ rfl
 have n:∀b o,s.heap.get? b=some o->h1.get? b=some o:=fun b o e=>by rw[<-m];exact bn _ e
 refine bd ⟨plainId_quiet F.plain_min_loop _,?_⟩;refine codeAny_builtin F.entry_min_loop ?_;rw[Around.under_plainId F.plain_min_loop _];have r:(h1.push { cls:=.type "list",data:=.seq #[] }).get? h1.objs.size=some { cls:=.type "list",data:=.seq #[] }:=Heap.get?_push_size _ rfl;show wpAny _ A.in1 (seqItems? (.ref h1.objs.size) >>= _) _ _ _;refine aj (wpAny_seqItems r rfl ?_);show wpAny _ A.in1 (tryCatch (pyNext (.ref s.heap.objs.size)) _ >>= _) _ _ _;refine aj (wpAny_tryCatch (wpAny_pyNext_list_end (i:=0) (l:=l) (items:=#[]) t ⟨_,bn _ q,rfl,rfl⟩ ⟨ol,bn _ (n _ _ f),g,nl,h⟩ rfl fun c j=>?_));refine aj (wpAny_rule (bd ?_));exact p c fun b o e=>j b o (Nat.ne_of_lt (bv e)) (bn _ (n b o e))
theorem Nm(hit:s.heap.IsTupleIter it t i)(d:s.heap.IsTuple t items)(e:items[i]? = some x)
  (f:∀a,a.IsTupleIter it t (i+1)->Heap.SameBut it s.heap a->Q x { s with heap:=a }):wpAny (model prog w) A (Builtin.SmallTypes.nextOf (.ref it)) Q E s:=by
 obtain⟨o,ho,g,hd⟩:=id hit;obtain⟨ol,b,_,nl,c⟩:=d;unfold Builtin.SmallTypes.nextOf;refine aj (wpAny_callSpecial?_slot (name:=Str.ofString "__next__") hit.typeIs F.slot_tuple_iterator_next (wpAny_call_entry F.slot_tuple_iterator_next hit.typeIs F.entry_tuple_iterator_next ?_ (F.args_tuple_iterator_next_1 _)));show wpAny _ _ (field (.ref it) 0 >>= _) _ _ s;refine aj (wpAny_field ho hd (x:=.ref t) rfl ?_);show wpAny _ _ (if (Value.ref t==Value.none)=true then _ else _) _ _ s;rw[if_neg (by exact Bool.false_ne_true)];show wpAny _ _ (field (.ref it) 1 >>= _) _ _ s;refine aj (wpAny_field ho hd (x:=.int i 0) rfl ?_);show wpAny _ _ (seqItems? (.ref t) >>= _) _ _ s;refine aj (wpAny_seqItems b c ?_);simp only[Int.toNat_natCast,e];refine aj (wpAny_setField ho hd (by simp) (bd ⟨x,rfl,bd (f _ ⟨_,Heap.get?_update_self _ ho (Obj.isFreed_of_fields (Obj.data_mapFields hd _)),(Obj.cls_mapFields ..).trans g,?_⟩ (Heap.SameBut.update ..))⟩));rw[Obj.data_mapFields hd];simp[rawInt]
theorem Nn(f:A.handled=none)(hit:s.heap.IsTupleIter it t i)(g:s.heap.IsTuple t items)(h:items[i]? = none)
  (j:∀b e,Heap.ExtBut it s.heap b->(∃o,b.get? e=some o/\o.cls=.type "StopIteration")->E (.ref e) { s with heap:=b }):wpAny (model prog w) A (Builtin.SmallTypes.nextOf (.ref it)) Q E s:=by
 obtain⟨o,ho,k,hd⟩:=id hit;obtain⟨ol,c,_,nl,d⟩:=g;unfold Builtin.SmallTypes.nextOf;refine aj (wpAny_callSpecial?_slot (name:=Str.ofString "__next__") hit.typeIs F.slot_tuple_iterator_next (wpAny_call_entry F.slot_tuple_iterator_next hit.typeIs F.entry_tuple_iterator_next ?_ (F.args_tuple_iterator_next_1 _)));show wpAny _ _ (field (.ref it) 0 >>= _) _ _ s;refine aj (wpAny_field ho hd (x:=.ref t) rfl ?_);show wpAny _ _ (if (Value.ref t==Value.none)=true then _ else _) _ _ s;rw[if_neg (by exact Bool.false_ne_true)];show wpAny _ _ (field (.ref it) 1 >>= _) _ _ s;refine aj (wpAny_field ho hd (x:=.int i 0) rfl ?_);show wpAny _ _ (seqItems? (.ref t) >>= _) _ _ s;refine aj (wpAny_seqItems c d ?_);simp only[Int.toNat_natCast,h];refine aj (wpAny_rule (aj (wpAny_setField ho hd (by simp) ?_)));show wpAny _ _ (newExc (.type "StopIteration") [] >>= _) _ _ _;refine aj ?_;simp only[newExc,newTuple];refine aj (wpAny_newObj_type ?_ (by size_fits));refine aj (m:=firstArgMember _ _) (wpAny_of_eq (a:=Value.none) (by first |rfl |(simp only[firstArgMember];rfl)) ?_);refine wpAny_newObj_type ?_ (by size_fits);simp only[raiseNew];refine aj (wpAny_handled ?_)
 first |rw[show A.in1.handled=none from f] |rw[f]
 exact aj (bd (wpAny_throw (j _ _ (((Heap.SameBut.update ..).extBut.push _).push _) ⟨_,Heap.get?_push_size _ rfl,rfl⟩)))
theorem Ar(hh:A.handled=none)(it l)(hne:l≠it)(items):Draws prog w A it [it,l] items.size (fun i v=>items[i]? = some v) (fun i h=>h.IsTupleIter it l i/\h.IsTuple l items) where
 live:=fun _ _ st=>let⟨o,ho,_⟩:=st.1;⟨o,ho⟩
 frame:=fun _ _ _ st hk=>⟨let⟨o,ho,r⟩:=st.1;⟨o,hk it (by simp) o ho,r⟩,let⟨o,ho,r⟩:=st.2;⟨o,hk l (by simp) o ho,r⟩⟩
 item:=fun i s Q E hi st hQ=>Nm st.1 st.2 (x:=items[i]) (by simp[hi]) fun h' hit' hs'=>hQ _ h' s.toks (by simp[hi]) ⟨hit',st.2.extBut hs'.extBut hne⟩ hs'
 done:=fun s Q E st hE=>Nn hh st.1 st.2 (by simp) hE
theorem No{TI TO }{Q:Value->Shared->Prop}(X:Draws prog w A t f1 n1 P1 T)(D2:Draws prog w A u f2 n2 P2 U)
  (nd:[z,TI,TO,t,u].Nodup) (g1:∀c∈f1,c≠z/\c≠TO/\c≠u) (g2:∀c∈f2,c≠z/\c≠TO/\c≠t) (I:IsZip s.heap z TI TO .none) (Y:dU s.heap TI (.ref t) (.ref u)) (Z:dU s.heap TO a b) (h1:T k s.heap) (h2:U k s.heap) (l1:k<n1) (l2:k<n2)
  (hQ:∀x y B tk,P1 k x->P2 k y->IsZip B z TI TO (rawInt s.heap.objs.size)->dU B TO x y->T (k+1) B->U (k+1) B->dU B s.heap.objs.size x y->B.objs.size=s.heap.objs.size+1->
   (∀c o,c∉[z,TO,t,u]->s.heap.get? c=some o->B.get? c=some o)->Q (.ref s.heap.objs.size) { s with heap:=B,toks:=tk }) :
  wpAny (model prog w) A (Builtin.«zip.__next__» ⟨[.ref z],[]⟩) (fun fin s'=>∃v,fin=.done (.ret v)/\Q v s') E s:=by
 simp only[List.nodup_cons,List.mem_cons,List.not_mem_nil,or_false,not_or,not_false_eq_true,and_true,List.nodup_nil]at nd;obtain⟨⟨a4,p,z1,z2⟩,⟨a3,a5,a6⟩,⟨a0,a1⟩,a7⟩:=nd;obtain⟨hp,g,d,a8,os⟩:=s;show wpAny _ _ (field (.ref z) 2 >>= _) _ _ _;refine aj (wpAny_field I rfl (x:=.bool false) rfl ?_);show wpAny _ _ (field (.ref z) 3 >>= _) _ _ _;refine aj (wpAny_field I rfl (x:=.ref TI) rfl ?_);refine aj (wpAny_seqItems Y rfl ?_);show wpAny _ _ (Builtin.SmallTypes.ownedTupleIsFree (.ref z) >>= _) _ _ _;refine aj ?_;unfold Builtin.SmallTypes.ownedTupleIsFree;refine aj (wpAny_field I rfl (x:=.none) rfl (bd ?_));simp only[if_true];refine aj (wpAny_rule ?_);refine aj (wpAny_field I rfl (x:=.ref TO) rfl ?_);refine aj (wpAny_setField_rec I (by simp) fun hA C h=>?_)
 replace C:IsZip hA z TI TO .ellipsis:=C
 replace h:Heap.SameBut z hp hA:=h
 refine aj ?_;simp only[List.zipIdx_cons,List.zipIdx_nil,List.forIn_cons,List.forIn_nil];refine aj (aj (wpAny_onRaise ?_));show wpAny _ _ (Builtin.SmallTypes.nextOf (.ref t) >>= _) _ _ _;refine aj (X.item k _ _ _ l1 (X.frame _ _ _ h1 fun c f o e=>h.extBut _ _ (g1 c f).1 e) fun x hB a9 px sB i=>bd ?_)
 replace i:Heap.SameBut t hA hB:=i
 have tB:dU hB TO a b:=i.extBut _ _ a0 (h.extBut _ _ (Ne.symm p) Z);refine aj (wpAny_seqItems tB rfl ?_);refine aj (wpAny_updateSeq_pair tB fun hC tC j=>?_)
 replace tC:dU hC TO x b:=tC
 replace j:Heap.SameBut TO hB hC:=j
 refine aj (wpAny_letGo (bd ?_));refine aj (aj (wpAny_onRaise ?_));show wpAny _ _ (Builtin.SmallTypes.nextOf (.ref u) >>= _) _ _ _;refine aj (D2.item k _ _ _ l2 (D2.frame _ _ _ h2 fun c f o e=>j.extBut _ _ (g2 c f).2.1 (i.extBut _ _ (g2 c f).2.2 (h.extBut _ _ (g2 c f).1 e))) fun y hD b0 py sD l=>bd ?_)
 replace l:Heap.SameBut u hC hD:=l
 have tD:dU hD TO x b:=l.extBut _ _ a1 tC;refine aj (wpAny_seqItems tD rfl ?_);refine aj (wpAny_updateSeq_pair tD fun n R m=>?_)
 replace R:dU n TO x y:=R
 replace m:Heap.SameBut TO hD n:=m
 refine aj (wpAny_letGo (bd (bd ?_)));refine aj (wpAny_seqItems R rfl ?_);refine aj (wpAny_newTuple ?_);have J:n.objs.size=hp.objs.size:=by rw[m.1,l.1,j.1,i.1,h.1]
 have L:IsZip n z TI TO .ellipsis:=m.extBut _ _ p (l.extBut _ _ z2 (j.extBut _ _ p (i.extBut _ _ z1 C)));have kF:∀c o,c∉[z,TO,t,u]->hp.get? c=some o->n.get? c=some o:=fun c o f e=>by simp only[List.mem_cons,List.not_mem_nil,or_false,not_or]at f;obtain⟨S,c2,c3,c4⟩:=f;exact m.extBut _ _ c2 (l.extBut _ _ c4 (j.extBut _ _ c2 (i.extBut _ _ c3 (h.extBut _ _ S e))))
 have M:z<n.objs.size:=bv L;show wpAny _ _ (Builtin.SmallTypes.ownedTupleHandOut (.ref z) (.ref n.objs.size) >>= _) _ _ _;refine aj ?_;unfold Builtin.SmallTypes.ownedTupleHandOut;have a2:IsZip (n.push { cls:=.type "tuple",data:=.seq #[x,y] }) z TI TO .ellipsis:=bn _ L;refine aj (wpAny_setField_rec a2 (by simp) fun hI D G=>?_)
 replace D:IsZip hI z TI TO (rawInt n.objs.size):=D
 refine wpAny_setField_rec D (by simp) fun N r H=>?_
 replace r:IsZip N z TI TO (rawInt n.objs.size):=r
 have up:∀c o,c≠z->n.get? c=some o->N.get? c=some o:=fun c o S e=>H.extBut _ _ S (G.extBut _ _ S (bn _ e));have tJ:dU N n.objs.size x y:=H.extBut _ _ (Nat.ne_of_gt M) (G.extBut _ _ (Nat.ne_of_gt M) (Heap.get?_push_size _ rfl));have O:N.objs.size=n.objs.size+1:=by rw[H.1,G.1,Heap.size_push]
 rw[J]at r tJ O;refine bd ⟨_,rfl,?_⟩;show Q (.ref n.objs.size) _;rw[J];exact hQ x y N _ px py r (up _ _ (Ne.symm p) R) (X.frame _ _ _ sB fun c f o e=>up c o (g1 c f).1 (m.extBut _ _ (g1 c f).2.1 (l.extBut _ _ (g1 c f).2.2 (j.extBut _ _ (g1 c f).2.1 e)))) (D2.frame _ _ _ sD fun c f o e=>up c o (g2 c f).1 (m.extBut _ _ (g2 c f).2.1 e)) tJ O
  fun c o f e=>up c o (fun q=>f (by simp[q])) (kF c o f e)
theorem Np{TI TO }(N:Draws prog w A t f1 M P1 Z)(D2:Draws prog w A u f2 Y P2 S2)
  (nd:[z,TI,TO,t,u].Nodup) (g1:∀c∈f1,c≠z/\c≠TO/\c≠u) (g2:∀c∈f2,c≠z/\c≠TO/\c≠t) (y:IsZip s.heap z TI TO .none) (O:dU s.heap TI (.ref t) (.ref u)) (R:dU s.heap TO a b) (h1:Z k s.heap) (h2:S2 k s.heap) (he:k=M\/k<M/\k=Y)
  (hE:∀S e tk,(∀c o,c∉[z,TO,t,u]->s.heap.get? c=some o->S.get? c=some o)->(∃o,S.get? e=some o/\o.cls=.type "StopIteration")->E (.ref e) { s with heap:=S,toks:=tk }) :
  wpAny (model prog w) A (Builtin.«zip.__next__» ⟨[.ref z],[]⟩) Q E s:=by
 simp only[List.nodup_cons,List.mem_cons,List.not_mem_nil,or_false,not_or,not_false_eq_true,and_true,List.nodup_nil]at nd;obtain⟨⟨a1,B,z1,z2⟩,⟨a0,a2,a3⟩,⟨T,a4⟩,a5⟩:=nd;obtain⟨hp,g,d,a6,os⟩:=s;show wpAny _ _ (field (.ref z) 2 >>= _) _ _ _;refine aj (wpAny_field y rfl (x:=.bool false) rfl ?_);show wpAny _ _ (field (.ref z) 3 >>= _) _ _ _;refine aj (wpAny_field y rfl (x:=.ref TI) rfl ?_);refine aj (wpAny_seqItems O rfl ?_);show wpAny _ _ (Builtin.SmallTypes.ownedTupleIsFree (.ref z) >>= _) _ _ _;refine aj ?_;unfold Builtin.SmallTypes.ownedTupleIsFree;refine aj (wpAny_field y rfl (x:=.none) rfl (bd ?_));simp only[if_true];refine aj (wpAny_rule ?_);refine aj (wpAny_field y rfl (x:=.ref TO) rfl ?_);refine aj (wpAny_setField_rec y (by simp) fun J p l=>?_)
 replace p:IsZip J z TI TO .ellipsis:=p
 replace l:Heap.SameBut z hp J:=l
 refine aj ?_;simp only[List.zipIdx_cons,List.zipIdx_nil,List.forIn_cons,List.forIn_nil];refine aj (aj (wpAny_onRaise ?_));show wpAny _ _ (Builtin.SmallTypes.nextOf (.ref t) >>= _) _ _ _;have C:=N.frame _ _ _ h1 fun c h o e=>l.extBut _ _ (g1 c h).1 e;rcases he with rfl |⟨U,rfl⟩
 .refine aj (N.done _ _ _ C fun hB e f v=>?_);obtain⟨D,m,n⟩:=v
  replace f:Heap.ExtBut t J hB:=f
  have G:IsZip hB z TI TO .ellipsis:=f _ _ z1 p;have ne:e≠z:=fun q=>by subst q;have i:hB.get? e=some D:=m;rw[G]at i;cases i;simp at n
  refine wpAny_setField_rec G (by simp) fun L _ j=>hE L e _ (fun c o h q=>?_) ⟨D,j.extBut _ _ ne m,n⟩;simp only[List.mem_cons,List.not_mem_nil,or_false,not_or]at h;exact j.extBut _ _ h.1 (f _ _ h.2.2.1 (l.extBut _ _ h.1 q))
 .refine aj (N.item k _ _ _ U C fun x hB a7 px sB f=>bd ?_)
  replace f:Heap.SameBut t J hB:=f
  have tB:dU hB TO a b:=f.extBut _ _ T (l.extBut _ _ (Ne.symm B) R);refine aj (wpAny_seqItems tB rfl ?_);refine aj (wpAny_updateSeq_pair tB fun L tC j=>?_)
  replace j:Heap.SameBut TO hB L:=j
  refine aj (wpAny_letGo (bd ?_));refine aj (aj (wpAny_onRaise ?_));show wpAny _ _ (Builtin.SmallTypes.nextOf (.ref u) >>= _) _ _ _;refine aj (D2.done _ _ _ (D2.frame _ _ _ h2 fun c h o e=>j.extBut _ _ (g2 c h).2.1 (f.extBut _ _ (g2 c h).2.2 (l.extBut _ _ (g2 c h).1 e))) fun X e r v=>?_);obtain⟨D,m,n⟩:=v
  replace r:Heap.ExtBut u L X:=r
  have H:IsZip X z TI TO .ellipsis:=r _ _ z2 (j.extBut _ _ B (f.extBut _ _ z1 p));have ne:e≠z:=fun q=>by subst q;have i:X.get? e=some D:=m;rw[H]at i;cases i;simp at n
  refine wpAny_setField_rec H (by simp) fun hF _ I=>hE hF e _ (fun c o h q=>?_) ⟨D,I.extBut _ _ ne m,n⟩;simp only[List.mem_cons,List.not_mem_nil,or_false,not_or]at h;exact I.extBut _ _ h.1 (r _ _ h.2.2.2 (j.extBut _ _ h.2.1 (f.extBut _ _ h.2.2.1 (l.extBut _ _ h.1 q))))
theorem Nq{TI TO }(u:Draws prog w A.in1 e f1 m p g)(D2:Draws prog w A.in1 f f2 n q h)
  (N:[z,TI,TO,e,f].Nodup) (g1:∀c∈f1,c≠z/\c≠TO/\c≠f) (g2:∀c∈f2,c≠z/\c≠TO/\c≠e) (r:IsZip s.heap z TI TO .none) (i:dU s.heap TI (.ref e) (.ref f)) (j:dU s.heap TO a b) (O:g k s.heap) (R:h k s.heap) (S:k<m) (T:k<n)
  (v:∀x y d l,p k x->q k y->IsZip d z TI TO (rawInt s.heap.objs.size)->dU d TO x y->g (k+1) d->h (k+1) d->dU d s.heap.objs.size x y->d.objs.size=s.heap.objs.size+1->
   (∀c o,c∉[z,TO,e,f]->s.heap.get? c=some o->d.get? c=some o)->Q (some (.ref s.heap.objs.size)) { s with heap:=d,toks:=l }) :
  wpAny (model prog w) A (pyNext (.ref z)) Q E s:=by
 have t:s.TypeIs (.ref z) "zip":=⟨_,r,rfl⟩
 unfold pyNext;exact aj (wpAny_attempt (wpAny_callSpecial?_slot (name:=Str.ofString "__next__") t F.slot_zip_next (wpAny_call_entry F.slot_zip_next t F.entry_zip_next
   (No u D2 N g1 g2 r i j O R S T fun x y d l B C D G H I J L M=>bd (v x y d l B C D G H I J L M)) (F.args_zip_next_1 _))))
theorem Nr{TI TO }(x:Draws prog w A.in1 d f1 g u n)(D2:Draws prog w A.in1 f f2 m v p)
  (G:[z,TI,TO,d,f].Nodup) (g1:∀c∈f1,c≠z/\c≠TO/\c≠f) (g2:∀c∈f2,c≠z/\c≠TO/\c≠d) (q:IsZip s.heap z TI TO .none) (h:dU s.heap TI (.ref d) (.ref f)) (i:dU s.heap TO a b) (H:n k s.heap) (I:p k s.heap) (y:k=g\/k<g/\k=m)
  (B:∀j r,(∀c o,c∉[z,TO,d,f]->s.heap.get? c=some o->j.get? c=some o)->Q none { s with heap:=j,toks:=r }):wpAny (model prog w) A (pyNext (.ref z)) Q E s:=by
 have t:s.TypeIs (.ref z) "zip":=⟨_,q,rfl⟩
 unfold pyNext;refine aj (wpAny_attempt (wpAny_callSpecial?_slot (name:=Str.ofString "__next__") t F.slot_zip_next (wpAny_call_entry F.slot_zip_next t F.entry_zip_next (Np x D2 G g1 g2 q h i H I y fun j e r C l=>?_) (F.args_zip_next_1 _))));obtain⟨o,ho,D⟩:=l;exact aj (wpAny_isInstance (T:="StopIteration") (b:=true) ⟨o,ho,D⟩ isSubtype_stop (bd (B _ _ C)))
noncomputable abbrev rp(h:Heap)(a:Addr):Heap:=h.push { cls:=.type "tuple_iterator",data:=.fields #[.ref a,.int 0 0] }
abbrev rq(h:Heap)(a b:Addr):Heap:=(rp h a).push { cls:=.type "list_iterator",data:=.fields #[.ref b,.int 0 0] }
abbrev rs(h:Heap)(a b:Addr):Heap:=(rq h a b).push { cls:=.type "tuple",data:=.seq #[.ref h.objs.size,.ref (rp h a).objs.size] }
abbrev ry(h:Heap)(a b:Addr):Heap:=(rs h a b).push { cls:=.type "tuple",data:=.seq #[.none,.none] }
abbrev nC(h:Heap)(a b:Addr):Heap:=(ry h a b).push { cls:=.type "zip",data:=.fields #[.none,.bool false,.bool false,.ref (rq h a b).objs.size,.ref (rs h a b).objs.size] }
theorem Nt(a b)(j k) :
  Meets (Builtin.«zip.__new__» ⟨[.type "zip",.ref a,.ref b],[]⟩) (fun _ R s=>s.heap.IsTuple a j/\s.heap.IsList b k/\R (.ok (.ret (.ref (ry s.heap a b).objs.size))) { s with heap:=nC s.heap a b }):=
 .of_wp fun o w A R s h=>by
  obtain⟨l,g,d,m,os⟩:=s;obtain⟨c,e,h⟩:=h;have n:=sub_zip;have f:Heap.IsTuple (Shared.heap ⟨l,g,d,m,os⟩) a j:=c;have i:Heap.IsList (Shared.heap ⟨l.push { cls:=.type "tuple_iterator",data:=.fields #[.ref a,.int 0 0] },g,d,m,os⟩) b k:=Heap.IsList.push e _
  wp_walk using wpAny_pyIter_tuple f,wpAny_pyIter_list i
  exact⟨_,rfl,h⟩
theorem Nu{s:Shared}(e:s.heap.IsTuple a l)(f:s.heap.IsList b m)
  (h:∀d,IsZip d (s.heap.objs.size+4) (s.heap.objs.size+2) (s.heap.objs.size+3) .none->dU d (s.heap.objs.size+2) (.ref s.heap.objs.size) (.ref (s.heap.objs.size+1))->
   dU d (s.heap.objs.size+3) .none .none->d.IsTupleIter s.heap.objs.size a 0->d.IsListIter (s.heap.objs.size+1) b 0->(∀c o,s.heap.get? c=some o->d.get? c=some o)->Q (.ref (s.heap.objs.size+4)) { s with heap:=d }) :
  wpAny (model prog w) A (call (.type "zip") [.ref a,.ref b]) Q E s:=by
 refine callType_new F.called_zip (by decide) (F.typeCall_zip_2 _ _) (F.newCall_zip_2 _ _) (fun obj=>F.args_object_init_3 obj _ _) F.entry_zip_new (Nt a b l m) ⟨e,f,?_⟩;have g:(rp s.heap a).objs.size=s.heap.objs.size+1:=Heap.size_push ..;have i:(rq s.heap a b).objs.size=s.heap.objs.size+2:=by rw[Heap.size_push,g]
 have j:(rs s.heap a b).objs.size=s.heap.objs.size+3:=by rw[Heap.size_push,i]
 have n:(ry s.heap a b).objs.size=s.heap.objs.size+4:=by rw[Heap.size_push,j]
 have k:(nC s.heap a b).get? (ry s.heap a b).objs.size=some _:=Heap.get?_push_size _ rfl;have p:(nC s.heap a b).get? (rs s.heap a b).objs.size=some _:=bn _ (Heap.get?_push_size _ rfl);have g3:(nC s.heap a b).get? (rq s.heap a b).objs.size=some _:=bn _ (bn _ (Heap.get?_push_size _ rfl));have g2:(nC s.heap a b).get? (rp s.heap a).objs.size=some _:=bn _ (bn _ (bn _ (Heap.get?_push_size _ rfl)));have g1:(nC s.heap a b).get? s.heap.objs.size=some _:=bn _ (bn _ (bn _ (bn _ (Heap.get?_push_size _ rfl))));show _/\_;rw[i,j,n]at k;rw[g,i]at g3;rw[j]at p;rw[g]at g2;rw[n];exact⟨⟨_,k,rfl⟩,h _ k g3 p ⟨_,g1,rfl,rfl⟩ ⟨_,g2,rfl,rfl⟩ fun c o x=>bn _ (bn _ (bn _ (bn _ (bn _ x))))⟩
end L2
namespace L2
open PySem PySem.Spec PyProof.Rows
def As(a b:Addr):It:=
 ⟨fun i H=>∃c x d y,Rd H a (.tup c)/\c[i]? = some x/\H b=some (.lst d)/\d[i]? = some y,fun i H v e=>∃T x y,v=.ref T/\H T=none/\e = aB H T (.tup [x,y])/\(∀c,Rd H a (.tup c)->c[i]? = some x)/\∀d,H b=some (.lst d)->d[i]? = some y,
  fun i H=>∃c d,Rd H a (.tup c)/\H b=some (.lst d)/\(c.length=i\/i<c.length/\d.length=i)⟩
theorem Nv{K}(a b z TI TO i1 i2)(nd:[z,TI,TO,i1,i2].Nodup) :
  gz P w K (.Tuple elts kk tpos) (As a b) [z,TI,TO,i1,i2] z (fun i h=>IsZip h z TI TO .none/\dU h TI (.ref i1) (.ref i2)/\(∃u v,dU h TO u v)/\h.IsTupleIter i1 a i/\h.IsListIter i2 b i) where
 mem:=by simp
 obj:=fun i h st c hc=>by
  obtain⟨h0,h1,⟨u,v,h2⟩,⟨o3,e3,c3,d3⟩,⟨o4,e4,c4,d4⟩⟩:=st;simp only[List.mem_cons,List.not_mem_nil,or_false]at hc;rcases hc with rfl |rfl |rfl |rfl |rfl
  .exact⟨_,h0,fun v z=>by cases z⟩
  .exact⟨_,h1,fun v z=>by cases z⟩
  .exact⟨_,h2,fun v z=>by cases z⟩
  .exact⟨_,e3,fun v z=>by rw[d3]at z;cases z⟩
  .exact⟨_,e4,fun v z=>by rw[d4]at z;cases z⟩
 keep:=fun i h h' st k=>by obtain⟨h0,h1,⟨u,v,h2⟩,h3,h4⟩:=st;exact⟨k _ (by simp) _ h0,k _ (by simp) _ h1,⟨u,v,k _ (by simp) _ h2⟩,(let⟨o,e,r⟩:=h3;⟨o,k _ (by simp) o e,r⟩),h4.at fun o e=>k _ (by simp) o e⟩
 item:=by
  intro X hP hw hK hc i pins s Y H E I hf st hg;subst hP hw hK;obtain⟨h0,h1,⟨p1,p2,h2⟩,h3,h4⟩:=st;obtain⟨xs,x,ys,y,hq1,hx,hq2,hy⟩:=hg;obtain⟨hz,its,rv,p⟩:=hq1.ok I.hok;obtain⟨u,hu,ru⟩:=rv.get hx;obtain⟨hz',jts,nn,rw',p'⟩:=I.hok _ _ hq2;obtain⟨v,hv,rv'⟩:=rw'.get hy;have e3:=h3;have e4:=h4;obtain⟨o3,e3,c3,_⟩:=e3;obtain⟨o4,e4,c4,_⟩:=e4;have nd':=nd;simp only[List.nodup_cons,List.mem_cons,List.not_mem_nil,or_false,not_or,not_false_eq_true,and_true,List.nodup_nil]at nd';obtain⟨⟨zTI,zTO,z1,z2⟩,⟨TITO,TI1,TI2⟩,⟨TO1,TO2⟩,i12⟩:=nd';have na:∀c∈[z,TI,TO,i1,i2],a≠c:=fun c hc q=>by rw[q]at hq1;exact yc (hf c hc).1 hq1
  have nb:∀c∈[z,TI,TO,i1,i2],b≠c:=fun c hc q=>by rw[q,(hf c hc).1]at hq2;cases hq2
  have hh:X.A.in1.handled=none:=I.ok.hd hc;refine Nq (Ar hh i1 a (na i1 (by simp)) its.toArray) (Draws.list hh i2 b (nb i2 (by simp)) jts.toArray) nd (fun c hc'=>?_) (fun c hc'=>?_) h0 h1 h2 ⟨h3,p⟩ ⟨h4,⟨_,p',rfl,_,rfl⟩⟩ (by simpa using(List.getElem?_eq_some_iff.mp hu).1) (by simpa using(List.getElem?_eq_some_iff.mp hv).1) fun x' y' h' tk ex ey a1 a2 a3 a4 a5 a6 a7=>⟨_,rfl,?_⟩
  .simp only[List.mem_cons,List.not_mem_nil,or_false]at hc';rcases hc' with rfl |rfl
   .exact⟨Ne.symm z1,Ne.symm TO1,i12⟩
   .exact⟨na z (by simp),na TO (by simp),na i2 (by simp)⟩
  .simp only[List.mem_cons,List.not_mem_nil,or_false]at hc';rcases hc' with rfl |rfl
   .exact⟨Ne.symm z2,Ne.symm TO2,Ne.symm i12⟩
   .exact⟨nb z (by simp),nb TO (by simp),nb i1 (by simp)⟩
  have ex':x' = u:=by simp only[List.getElem?_toArray]at ex;rw[hu]at ex;exact(Option.some.inj ex).symm
  have ey':y' = v:=by simp only[List.getElem?_toArray]at ey;rw[hv]at ey;exact(Option.some.inj ey).symm
  subst ex' ey';refine wpAny_letOwnedTupleGo_zip (s:={ s with heap:=h',toks:=tk }) a1 fun hh b1 hs2=>?_;have k2:∀c ob,c∉[z,TO,i1,i2]->s.heap.get? c=some ob->hh.get? c=some ob:=fun c ob hc q=>by have hc':=hc;simp only[List.mem_cons,List.not_mem_nil,or_false,not_or]at hc';exact(hs2.2 c hc'.1).trans (a7 c ob hc q)
  have up:∀c o,c≠z->h'.get? c=some o->hh.get? c=some o:=fun c o hc q=>(hs2.2 c hc).trans q;have I1:Inv X pins Y (aB H s.heap.objs.size (.tup [x,y])) { s with heap:=hh,toks:=tk }:=by
   refine I.turnedNew (ch:=[z,TO,i1,i2]) (t':=tk) (fun c hc=>hf c (by simp only[List.mem_cons,List.not_mem_nil,or_false]at hc ⊢;rcases hc with q |q |q |q<;>simp[q])) k2 (bG _) (fun c hc ob q=>?_) ?_
   .simp only[List.mem_cons,List.not_mem_nil,or_false]at hc;rcases hc with rfl |rfl |rfl |rfl
    .exact⟨_,b1⟩
    .exact⟨_,up _ _ (Ne.symm zTO) a2⟩
    .obtain⟨o,e1,_⟩:=a3.1;exact⟨o,up _ _ (Ne.symm z1) e1⟩
    .obtain⟨o,e1,_⟩:=a4.1;exact⟨o,up _ _ (Ne.symm z2) e1⟩
   .exact⟨by show 2<=sizeLine;decide,[_,_],.cons ru (.cons rv' .nil),⟨_,up _ _ (Nat.ne_of_gt (bv h0)) a5,rfl,_,rfl⟩⟩
  refine⟨.ref s.heap.objs.size,_,I1,rfl,⟨_,x,y,rfl,I.hok.fresh (bG _),rfl,fun zs hy'=>by rw[IZ hy' hq1];exact hx,fun zs hy'=>by rw[hq2]at hy';cases hy';exact hy⟩,
   ⟨b1,k2 _ _ (by simp only[List.mem_cons,List.not_mem_nil,or_false,not_or];exact⟨Ne.symm zTI,TITO,TI1,TI2⟩) h1,⟨_,_,up _ _ (Ne.symm zTO) a2⟩,(let⟨o,e,r⟩:=a3.1;⟨o,up _ _ (Ne.symm z1) e,r⟩),a4.1.at fun o e1=>up _ _ (Ne.symm z2) e1⟩,fun c hc=>?_⟩
  have hb':c<s.heap.objs.size:=by
   simp only[List.mem_cons,List.not_mem_nil,or_false]at hc;rcases hc with rfl |rfl |rfl |rfl |rfl
   .exact bv h0
   .exact bv h1
   .exact bv h2
   .exact bv e3
   .exact bv e4
  rw[aV (Nat.ne_of_lt hb')];exact(hf c hc).1
 done:=by
  intro X hP hw hK hc i pins s Y H E I hf st hg;subst hP hw hK;obtain⟨h0,h1,⟨p1,p2,h2⟩,h3,h4⟩:=st;obtain⟨xs,ys,hq1,hq2,hx⟩:=hg;obtain⟨hz,its,rv,p⟩:=hq1.ok I.hok;obtain⟨hz',jts,nn,rw',p'⟩:=I.hok _ _ hq2;have nd':=nd;simp only[List.nodup_cons,List.mem_cons,List.not_mem_nil,or_false,not_or,not_false_eq_true,and_true,List.nodup_nil]at nd';obtain⟨⟨zTI,zTO,z1,z2⟩,⟨TITO,TI1,TI2⟩,⟨TO1,TO2⟩,i12⟩:=nd';have l1:=rv.length;have l2:=rw'.length;have na:∀c∈[z,TI,TO,i1,i2],a≠c:=fun c hc q=>by rw[q]at hq1;exact yc (hf c hc).1 hq1
  have nb:∀c∈[z,TI,TO,i1,i2],b≠c:=fun c hc q=>by rw[q,(hf c hc).1]at hq2;cases hq2
  have hh:X.A.in1.handled=none:=I.ok.hd hc;refine Nr (Ar hh i1 a (na i1 (by simp)) its.toArray) (Draws.list hh i2 b (nb i2 (by simp)) jts.toArray) nd (fun c hc'=>?_) (fun c hc'=>?_) h0 h1 h2 ⟨h3,p⟩ ⟨h4,⟨_,p',rfl,_,rfl⟩⟩ (hx.imp (fun q=>by simp;lia) fun q=>by simp;lia) fun h' tk hk=>⟨rfl,?_⟩
  .simp only[List.mem_cons,List.not_mem_nil,or_false]at hc';rcases hc' with rfl |rfl
   .exact⟨Ne.symm z1,Ne.symm TO1,i12⟩
   .exact⟨na z (by simp),na TO (by simp),na i2 (by simp)⟩
  .simp only[List.mem_cons,List.not_mem_nil,or_false]at hc';rcases hc' with rfl |rfl
   .exact⟨Ne.symm z2,Ne.symm TO2,Ne.symm i12⟩
   .exact⟨nb z (by simp),nb TO (by simp),nb i1 (by simp)⟩
  refine I.step (g':=s.gens) (d':=s.drawn) (t':=tk) (ch:=[z,TO,i1,i2]) (fun c hc=>?_) (fun c o _ _ hc e _=>hk c o hc e) (fun c o _ _ hc e _=>⟨o.slots,hk c o hc e⟩) (fun _ _ _ _ n=>n) (fun c o hc e=>⟨o,hk c o hc e⟩) (fun _ _ e=>e) (fun _ _ _ e=>e) (fun c ps e=>⟨#[],by rw[e];simp⟩) (fun m hm=>?_) (fun c u e=>?_) I.bare
  .obtain⟨f0,f1,f2,f3,f4,f5⟩:=hf c (by simp only[List.mem_cons,List.not_mem_nil,or_false]at hc ⊢;rcases hc with q |q |q |q<;>simp[q]);exact⟨f3,f1,f4,f5⟩
  .obtain⟨oL,es,ep,ho,r⟩:=hm;refine⟨oL,es,ep,hk _ oL (fun zz=>?_) ho,r⟩;exact(hf _ (by simp only[List.mem_cons,List.not_mem_nil,or_false]at zz ⊢;rcases zz with q |q |q |q<;>simp[q])).2.1 rfl
  .have nch:∀b u,H b=some u->b∉[z,TO,i1,i2]:=fun b u e zz=>by rw[(hf b (by simp only[List.mem_cons,List.not_mem_nil,or_false]at zz ⊢;rcases zz with q |q |q |q<;>simp[q])).1]at e;cases e
   refine(I.hok c u e).stay (fun d v hd q=>hk d v ?_ q) (fun _ q=>q) fun _ _ q=>q;rcases hd with q |q
   .rw[q];exact nch c u e
   .exact nch d _ q
 self:=fun _ _ _ _ _ st h=>wpAny_pyIter_zip st.1 h
def Nw(d:TA):TI:=fun Y H R=>d Y H fun e c=>∃a b f g,e=[.ref a,.ref b]/\Rd c a (.tup f)/\c b=some (.lst g)/\R (As a b) c
theorem Nx{elts:List Expr}{kk:Nat}{tpos:Pos}{p pos}(t:Gl X "zip")(w:X.mg "zip" = none)(x:PA X [a,b] k)(y:autoParam (starEach [a,b] X.env=[(false,eval a X.env),(false,eval b X.env)]) Zq._auto_1)(d:autoParam (starEach [b] X.env=[(false,eval b X.env)]) Zq._auto_1) :
  PI X (.Tuple elts kk tpos) (.Call (.Name "zip" p) [a,b] [] pos) (Nw k):=by
 intro f s Y H R I h;refine Call_ (jo I t w boot_zip (PyProof.Rows.callWith_type1 (aQ (x pos f s Y H _ I h) fun T c ⟨U,z,I1,A,B⟩=>?_) (by rw[y,d]) (by rw[d];rfl)));obtain⟨l,m,Z,ys,rfl,C,g,q⟩:=B;obtain⟨u,v,rfl,ru,i⟩:=fX A;cases ru;cases i;obtain⟨hz,j,rv,p⟩:=C.ok I1.hok;obtain⟨D,E,nn,G,J⟩:=I1.hok _ _ g;refine Nu (show c.heap.IsTuple l j.toArray from p) ⟨_,J,rfl,_,rfl⟩ fun L o O Q S M N=>?_;refine wpAny_pyIter_zip (s:={ c with heap:=L }) o ?_;have nd:[c.heap.objs.size+4,c.heap.objs.size+2,c.heap.objs.size+3,c.heap.objs.size,c.heap.objs.size+1].Nodup:=by generalize c.heap.objs.size=n;simp only[List.nodup_cons,List.mem_cons,List.not_mem_nil,or_false,not_or,not_false_eq_true,and_true,List.nodup_nil];refine⟨⟨?_,?_,?_,?_⟩,⟨?_,?_,?_⟩,⟨?_,?_⟩,?_⟩<;>exact(by intro e;exact absurd (show(_:Nat)=_ from e) (by lia))
 refine⟨c.heap.objs.size+4,[c.heap.objs.size+4,c.heap.objs.size+2,c.heap.objs.size+3,c.heap.objs.size,c.heap.objs.size+1],_,_,z,rfl,I1.kept (t':=c.toks) N,Nv l m _ _ _ _ _ nd,⟨o,O,⟨_,_,Q⟩,S,M⟩,fun b r=>?_,q⟩;have hb':c.heap.objs.size<=b:=by
  simp only[List.mem_cons,List.not_mem_nil,or_false]at r;rcases r with rfl |rfl |rfl |rfl |rfl
  .exact Nat.le_add_right _ _
  .exact Nat.le_add_right _ _
  .exact Nat.le_add_right _ _
  .exact bG _
  .exact Nat.le_add_right _ _
 exact I1.fpOk hb' (I1.hok.fresh hb')
end L2
namespace L2.L3
open PySem PySem.Spec PyProof.Rows
def At(O:List Addr)(H:Hp)(J:It)(c:List PyData):Prop:=∀e a,aH O H e a->bQ H a->kf a e->
 (∀i d,c[i]? = some d->J.go i a/\∀x b,J.yld i a x b->bQ a b/\DV (ao e b) x d)/\J.stop c.length a
theorem Wk.S(h:Wk O H J a):At O H J a:=fun b c s _ ok=>h b c s ok
def Au(K:Frag)(F:Fx)(s:eh):TI:=fun Y H R=>∃U O,ay K F H Y U O/\s U fun b d=>∀J a c,ay K F a Y d c->aH O H c a->At c a J b->R J a
structure vB (X:Cx) (F:Fx) (tg iter:Expr) (s:eh):Prop where
 mn:kg s
 pi:PI X tg iter (Au X.K F s)
theorem DI.S(h:DI X F e iter s):vB X F e iter s:=⟨h.mn,h.pi.imp fun Y H R d=>by obtain⟨U,O,st,q⟩:=d;exact⟨U,O,st,h.mn _ _ _ (fun f j k J g i a b c=>k J g i a b c.S) q⟩⟩
@[simp]noncomputable def vC:Option (Option ae)->Option ae
 |some (some (.own _ b))=>some (.vw b)
 |some (some (.exc _))=>none
 |some o=>o
 |none=>none
def iW(own:List Str)(a:List Nat)(U:ag):ag:=own.map (fun _=>none)++a.map fun j=>vC U[j]?
mutual
@[simp]noncomputable def gM:PyData->Bool
 |.int _=>true
 |.bool _=>true
 |.none=>true
 |.str _=>true
 |.tuple ds=>nE ds
 |.list _=>false
 |.dict _=>false
@[simp]noncomputable def nE:List PyData->Bool
 |[]=>true
 |d::ds=>gM d&&nE ds
end
theorem Av:∀a,a.all gM=nE a
 |[]=>rfl
 |d::a=>by rw[List.all_cons,Av a,nE]
mutual
theorem Ny{G G':Hp}(k:∀a u,¬ Mv u->G a=some u->G' a=some u):∀{v:V}{d:PyData},DV G v d->gM d=true->DV G' v d
 |_,_,.non,_=>.non
 |_,_,.bl b,_=>.bl b
 |_,_,.int i,_=>.int i
 |_,_,.str x,_=>.str x
 |_,_,.tup h r,f=>.tup (h.imp (fun e=>k _ _ id e) fun⟨⟨o,e⟩,z⟩=>⟨⟨o,k _ _ id e⟩,z⟩) (vD k r (by simpa[gM] using f))
theorem vD{G G':Hp}(k:∀a u,¬ Mv u->G a=some u->G' a=some u):∀{vs:List V}{ds:List PyData},aC G vs ds->nE ds=true->aC G' vs ds
 |_,_,.nil,_=>.nil
 |_,_,.cons h t,f=>by rw[nE,Bool.and_eq_true]at f;exact .cons (Ny k h f.1) (vD k t f.2)
end
theorem Nz(k:∀a u,¬ Mv u->G a=some u->c a=some u)(h:aC G d b)(f:b.all gM=true):aC c d b:=vD k h (by rw[<-Av];exact f)
def vE(own:List Str)(f:List Nat)(s:eh)(g:eL)(l:cN)(m:DT):DT:=fun U Q=>s U fun c j=>∃e:Nat->List PyData->ag->Prop,e 0 [] (iW own f j)/\
 (∀i d a h,c[i]? = some d->e i a h->g d h fun n=>l n fun b k=>if b=true then m k fun y o=>a.length<sizeLine/\e (i+1) (a++[y]) o else e (i+1) a k)/\
 ∀a h,e c.length a h->a.length<=sizeLine/\a.all gM=true/\Q (.list a) j
theorem NA(d:kg s):Mn (vE own caps s g tc te):=fun _ _ _ k q=>d _ _ _ (fun _ _ a=>by obtain⟨e,f,h1,h2⟩:=a;exact⟨e,f,h1,fun b c h=>⟨(h2 b c h).1,(h2 b c h).2.1,k _ _ (h2 b c h).2.2⟩⟩) q
theorem NB{K:Frag}{PF:Fx->Prop}(hP:∀k Y D w O2,ay K F k Y D w->PF ⟨k,[],O2,fun _=>0⟩)(hs:kg s)(hg:∀d U Q Q',(∀E,Q E->Q' E)->g d U Q->g d U Q')(ht:iN tc)(he:Mn te):∀Y H Q,(∃U O,ay K F H Y U O/\vE own caps s g tc te U fun d D=>∀B,d=.list B->∀p  t  vs  w,ay K F t Y D w->aH O H w t->t p=none->aC (ao w t) vs B->Q (.ref p) (aB t p (.lst vs)))->
  jZ own caps (Au K F s) (fun v Y H Q=>∃N,PF N/\mR K N g v Y H Q) (fun Y H Q=>∃N,PF N/\jz K N tc Y H Q) (fun Y H Q=>∃N,PF N/\gb K N te Y H Q) Y H Q:=fun Y H Q T=>by
 obtain⟨U,O,st,q⟩:=T;refine⟨U,O,st,hs _ _ _ (fun f D X J k w r s1 wk=>?_) q⟩;obtain⟨Iv,i0,step,fin⟩:=X;obtain⟨W,Z,a0⟩:=id r;let V:List Addr:=(caps.map fun j=>(W[j]?).getD []).flatten;let n:List Addr:=w.filter fun a=>decide (a∉V);have sub:∀a∈n,a∈w:=fun a h=>(List.mem_filter.mp h).1;have a4:n.Nodup:=by
  have:w.Nodup:=by rw[a0];exact Z.nd
  exact this.filter _
 have a5:∀j∈caps,∀l,W[j]? = some l->∀a∈l,a∉n:=fun j hj l hl a ha z=>by have h1:=(List.mem_filter.mp z).2;simp only[decide_eq_true_eq]at h1;exact h1 (List.mem_flatten.mpr ⟨l,List.mem_map.mpr ⟨j,hj,by rw[hl];rfl⟩,ha⟩)
 have a1:∀j∈caps,∀c,vC D[j]? = some c->(∀io b,c≠.own io b)/\∃v,Y[j]? = some (some v)/\dm K k n v c []:=fun j hj c C=>by
  cases h3:D[j]? with
  |none=>rw[h3]at C;cases C
  |some o=>
   cases o with
   |none=>rw[h3]at C;cases C
   |some c'=>
    rw[h3]at C;obtain⟨v,fp,A,e0,G⟩:=Z.at_ j c' h3;rw[<-a0]at G;have I:aH w k n k:=eX sub;cases c' with
    |dat d=>cases C;exact⟨(fun _ _ z=>by cases z),v,A,dm.keep (c:=.dat d) (fp:=[]) G I (fun _ _=>rfl) fun _ _ _ e=>e⟩
    |scr ns=>cases C;exact⟨(fun _ _ z=>by cases z),v,A,dm.keep (c:=.scr ns) (fp:=[]) G I (fun _ _=>rfl) fun _ _ _ e=>e⟩
    |exc _=>cases C
    |vw b=>cases C;exact⟨(fun _ _ z=>by cases z),v,A,dm.keep (c:=.vw b) (fp:=[]) G I (fun _ _=>rfl) fun _ _ _ e=>e⟩
    |own io b=>cases C;obtain⟨a,ev,q2⟩:=G;refine⟨(fun _ _ z=>by cases z),v,A,a,fp,ev,q2.keep (fun c hc=>?_) I.hid⟩;obtain⟨o,eo,_⟩:=q2.live c hc;rw[eo];exact fY eo (a5 j hj fp e0 c hc)
 refine⟨fun i m ys Y' t=>∃E R B,ay K ⟨k,[],n,fun _=>0⟩ t Y' E R/\Iv i B E/\aC (ao R t) ys B/\i<=f.length/\m=f.length - i,⟨f.length,iW own caps D,n,[],?_,i0,.nil,Nat.zero_le _,rfl⟩,?_⟩
 .have cell:∀(i:Nat) (c:ae),(iW own caps D)[i]? = some (some c)->(∀io b,c≠.own io b)/\∃v,(ej own caps Y)[i]? = some (some v)/\dm K k n v c []:=fun i c e=>by
   unfold iW at e;unfold ej
   by_cases hi:i<own.length
   .rw[List.getElem?_append_left (by simpa using hi),List.getElem?_map]at e;cases h:own[i]? with
    |none=>rw[h]at e;cases e
    |some y=>rw[h]at e;cases e
   .rw[List.getElem?_append_right (by simpa using Nat.le_of_not_lt hi),List.length_map,List.getElem?_map]at e;rw[List.getElem?_append_right (by simpa using Nat.le_of_not_lt hi),List.length_map,List.getElem?_map];obtain⟨j,h1,C⟩:=Option.map_eq_some_iff.mp e;rw[h1];show _/\∃v,some ((Y[j]?).getD none)=some (some v)/\_;obtain⟨n1,v,A,G⟩:=a1 j (List.mem_of_getElem? h1) c C;rw[A];exact⟨n1,v,rfl,G⟩
  have ln:(iW own caps D).length=(ej own caps Y).length:=by unfold iW ej;simp
  have fl:(List.replicate (iW own caps D).length ([]:List Addr)).flatten++n=n:=by rw[mS];rfl
  refine⟨List.replicate (iW own caps D).length [],⟨fun i c e=>?_,by show(_++n).Nodup;rw[fl];exact a4,fun _ _ _ h=>h,fun a h=>?_,by show kf k (_++n);rw[fl];exact fun a ha=>r.live a (sub a ha),ln,by simp,fun i b e=>absurd rfl ((cell i _ e).1 true b)⟩,fl.symm⟩
  .obtain⟨_,v,A,G⟩:=cell i c e;refine⟨v,[],A,?_,by show dm K k (_++n) v c [];rw[fl];exact G⟩;rw[List.getElem?_replicate,if_pos (List.getElem?_eq_some_iff.mp e).1]
  .rw[mS]at h;cases h
 .rintro i m ys Y' t ⟨E,R,B,L,iv,dv,hi,rfl⟩;have S:bQ k t:=fun b o e=>by obtain⟨W',h',_⟩:=id L;exact h'.kept b o (by simp) e
  have a6:aH w k R t:=⟨fun b o _ e=>S b o e,fun a h=>by
   obtain⟨W',h',rfl⟩:=id L;rcases List.mem_append.mp h with h |h
   .exact(h'.new a h).elim (fun z=>absurd z (by simp)) .inr
   .exact .inl (sub a h)⟩
  obtain⟨w1,w2⟩:=wk R t a6 S L.live
  by_cases M:i<f.length
  .obtain⟨go,yld⟩:=w1 i f[i] (List.getElem?_eq_getElem M);refine .inr ⟨go,fun x H2 hy=>?_⟩;obtain⟨a2,dx⟩:=yld x H2 hy;refine⟨⟨k,[],n,fun _=>0⟩,hP _ _ _ _ _ r,E,R,f[i],L.grow a2,dx,hg _ _ _ _ (fun U2 q2 Y3 H3 O3 a7 s3=>?_) (step i f[i] B E (List.getElem?_eq_getElem M) iv)⟩;refine⟨⟨k,[],n,fun _=>0⟩,hP _ _ _ _ _ r,U2,O3,a7,ht _ _ _ (fun b U3 q3 H4 O4 a3 s4=>?_) q2⟩;have d4:aC (ao O4 H4) ys B:=aC.mono s4.hid (aC.mono s3.hid (aC.mono (lD a2) dv));cases b with
   |false=>exact eI ⟨f.length - (i+1),by lia,U3,O4,B,a3,jy q3,d4,M,rfl⟩
   |true=>refine eJ ⟨⟨k,[],n,fun _=>0⟩,hP _ _ _ _ _ r,U3,O4,a3,he _ _ _ (fun y U4 q4 v H5 O5 a8 s5 dy=>?_) (jx q3)⟩;refine⟨by rw[d4.length];exact q4.1,f.length - (i+1),by lia,U4,O5,B++[y],a8,q4.2,(aC.mono s5.hid d4).append (.cons dy .nil),M,rfl⟩
  .have e:i=f.length:=by lia
   subst e;obtain⟨hz,a9,q⟩:=fin B E iv;refine .inl ⟨w2,by rw[dv.length];exact hz,fun p hp=>?_⟩;have b0:k p=none:=by
    cases e:k p with
    |none=>rfl
    |some o=>rw[S p o e]at hp;cases hp
   exact q B rfl p t _ w (r.grow S) (s1.trans (.same S)) hp (Nz (fun a u nm e=>by
    obtain⟨A,_⟩:=cV e;refine fY A fun z=>?_;obtain⟨o,eo,mo⟩:=r.live a z;rw[S a o eo]at A;cases A;exact nm mo) dv a9)
@[simp] def ph(own:Nat)(a:List Nat)(U:ag):ag:=List.replicate own none++a.map fun j=>vC U[j]?
@[simp] def vF(own:Nat)(a:List Nat)(g:GM)(t:XM Bool)(m:XM PyData)(b:List PyData):XM PyData:=fun d=>lift ((cp g t m b [] (ph own a d)).bind fun c=>if c.length<=sizeLine/\c.all gM=true then some (.list c) else none) d
@[simp] def pk(own:Nat)(a:List Nat)(s:XM (List PyData))(g:GM)(t:XM Bool)(m:XM PyData):XM PyData:=fun U=>(s U).bind (vF own a g t m)
theorem NC(q:wp E (pk own.length f s g t m) U Q):vE own f (wp E s) (eM g) (wp cX t) (wp cX m) U Q:=aD _ _ _ (fun l p C=>by
 obtain⟨y,D,z⟩:=dB (o:=(cp g t m l [] (ph own.length f p)).bind fun n=>if n.length<=sizeLine/\n.all gM=true then some (PyData.list n) else none) (U:=p) (E:=E) (Q:=Q) C;obtain⟨j,G,r⟩:=Option.bind_eq_some_iff.mp D;have u:(j.length<=sizeLine/\j.all gM=true)/\y=.list j:=by
  split at r
  .rename_i h;cases r;exact⟨h,rfl⟩
  .cases r
 have H:iW own f p=ph own.length f p:=by unfold iW ph;rw[List.map_const']
 refine⟨fun i n U=>cp g t m (l.drop i) n U=some j,by rw[H];exact G,fun i d n U hd a=>?_,fun n U h=>?_⟩
 .have e:l.drop i=d::l.drop (i+1):=by obtain⟨v,I⟩:=List.getElem?_eq_some_iff.mp hd;rw[<-I];exact List.drop_eq_getElem_cons v
  simp only[e]at a;unfold cp at a;unfold eM;cases A:g d U with
  |none=>rw[A]at a;cases a
  |some J=>
   rw[A]at a;simp only at a ⊢;unfold wp;cases w:t J with
   |ex c B=>rw[w]at a;cases a
   |bad=>rw[w]at a;cases a
   |ok b B=>
    rw[w]at a;cases b with
    |false=>exact eI a
    |true=>
     refine eJ ?_;simp only at a ⊢;cases x:m B with
     |ex c L=>rw[x]at a;cases a
     |bad=>rw[x]at a;cases a
     |ok M L=>
      rw[x]at a;simp only at a ⊢;split at a
      .rename_i h;exact⟨h,a⟩
      .cases a
 .simp only[List.drop_length]at h;have:n=j:=by unfold cp at h;exact Option.some.inj h
  subst this;rw[u.2]at z;exact⟨u.1.1,u.1.2,z⟩) (bY (k:=vF own.length f g t m) q)
theorem DE.imp'(h:DE X F e t)(b:Mn t')(k:∀U Q,t' U Q->t U Q):DE X F e t':=⟨b,h.pe.imp fun Y H Q a=>by obtain⟨U,O,st,q⟩:=a;exact⟨U,O,st,k U _ q⟩⟩
def jO(C:Addr)(i:Nat)(f g:Str):XM (List PyData):=fun U=>match cg C U i with
 |some (_,fs)=>(match fs.lookup f,fs.lookup g with
  |some (.d (.tuple ds)),some (.l a)=>.ok (cb ds a) U
  |_,_=>.bad)
 |none=>.bad
theorem ND{F:Fx}{E:Str->ag->Prop}{pos:Pos}{k}{kk}{n p o c}(hg:Gl X "zip")(hm:X.mg "zip" = none)(cl:cF X.K C)(na:cG X.K C f)(Q:cG X.K C f2)(G:PE X (.Name x j) (bw i))(S:PE X (.Name x b) (bw i))
  (hb:autoParam (attributeBase (.Name x j) f X.env (eval (.Name x j) X.env)=eval (.Name x j) X.env) Zq._auto_1) (Z:autoParam (attributeBase (.Name x b) f2 X.env (eval (.Name x b) X.env)=eval (.Name x b) X.env) Zq._auto_1)
  (hs:autoParam (starEach [.Attribute (.Name x j) f o,.Attribute (.Name x b) f2 c] X.env=[(false,eval (.Attribute (.Name x j) f o) X.env),(false,eval (.Attribute (.Name x b) f2 c) X.env)]) Zq._auto_1)
  (r:autoParam (starEach [.Attribute (.Name x b) f2 c] X.env=[(false,eval (.Attribute (.Name x b) f2 c) X.env)]) Zq._auto_1) :
  vB X F (.Tuple k kk n) (.Call (.Name "zip" p) [.Attribute (.Name x j) f o,.Attribute (.Name x b) f2 c] [] pos) (wp E (jO C i f f2)):=
 ⟨aD,(Nx hg hm (cJ (iJ G hb) (cJ (iJ S Z) dj r) hs) hs r).imp fun Y H R t=>by
  obtain⟨U,O,st,q⟩:=t;unfold wp jO at q;cases ho:cg C U i with
  |none=>rw[ho]at q;exact q.elim
  |some p=>
   obtain⟨io,fs⟩:=p;rw[ho]at q;simp only at q;cases a:fs.lookup f with
   |none=>rw[a]at q;exact q.elim
   |some y1=>
    cases g:fs.lookup f2 with
    |none=>rw[a,g]at q;cases y1<;>simp only at q<;>exact q.elim
    |some y2=>
     rw[a,g]at q;obtain⟨a0,fp,u,⟨dx,gs,a4,e1,I,e3,J⟩,_,_⟩:=st.box (jM ho);cases y1 with
     |l _=>exact q.elim
     |m _ _=>exact q.elim
     |d L=>
      cases y2 with
      |d _=>cases L<;>exact q.elim
      |m _ _=>cases L<;>exact q.elim
      |l es=>
       cases L with
       |tuple ds=>
        simp only at q;rcases jN J f with⟨_,l2⟩ |⟨v1,y1,a5,l1,l2,l3,_⟩
        .rw[a]at l2;cases l2
        rw[a]at l2;cases l2;rcases jN J f2 with⟨_,A⟩ |⟨v2,y2,a6,m1,A,m3,_⟩
        .rw[g]at A;cases A
        rw[g]at A;cases A;obtain⟨a1,M,rfl,hx,hd⟩:=l3.2.tup_inv;obtain⟨b1,N,rfl,_,hy,he⟩:=m3;obtain⟨B,a7⟩:=jv hx;refine⟨_,u,a0,C,dx,gs,_,rfl,I,cl,na,l1,_,u,a0,C,dx,gs,_,rfl,I,cl,Q,m1,a1,b1,M,N,rfl,B,hy,q _ H O st .refl fun O' H' s sm ok=>?_⟩;have h2:=IY sm B;have h3:=sm _ _ hy;have a2:=aC.mono s.hid hd;have a3:=aC.mono s.hid he;refine⟨fun i d e=>?_,⟨M,N,h2,h3,?_⟩⟩
        .unfold cb at e;rw[List.getElem?_map]at e;obtain⟨⟨d0,L⟩,e1,I⟩:=Option.map_eq_some_iff.mp e;subst I;obtain⟨e3,J⟩:=List.getElem?_zip_eq_some.mp e1;obtain⟨v,G,dv⟩:=a2.get e3;obtain⟨w,hw,dw⟩:=a3.get J;refine⟨⟨M,v,N,w,h2,G,h3,hw⟩,fun x a8 D=>?_⟩;obtain⟨T,y,z,o,c,q3,q4,q5⟩:=D;subst o q3;have:=q4 M h2;rw[G]at this;cases this;have:=q5 N h3;rw[hw]at this;cases this;exact⟨ca c,mQ c (ok.nofree T c) (.cons dv (.cons dw .nil))⟩
        .unfold cb;rw[List.length_map,List.length_zip,hd.length,he.length];rcases Nat.lt_or_ge es.length ds.length with h |h
         .exact .inr ⟨by lia,by lia⟩
         .exact .inl (by lia)
       |_=>exact q.elim⟩
theorem ay.view{K}(st:ay K F H Y U O){i:Nat}(e:U[i]? = some (some (.vw b))):∃a d,Y[i]? = some (some (.ref a))/\ee (ao O H) (ao O H) a b d:=by obtain⟨W,h,rfl⟩:=st;obtain⟨v,d,h1,h2,a,c,rfl,h3⟩:=h.at_ i _ e;exact⟨a,c,h1,h3⟩
def nF(C:Addr)(U:ag)(i:Nat):Option (List (Str×Fl)):=match U[i]? with
 |some (some (.vw (.o a fs)))=>if a = C then some fs else none
 |_=>none
theorem NE(h:nF C U i=some fs):U[i]? = some (some (.vw (.o C fs))):=by
 unfold nF at h;split at h
 .rename_i e;split at h
  .rename_i a;cases h;rw[e,a]
  .cases h
 .cases h
def iX(C:Addr)(i:Nat)(f:Str):XM PyData:=fun U=>match nF C U i with
 |some fs=>(match fs.lookup f with
  |some (.d d)=>.ok d U
  |_=>.bad)
 |none=>.bad
theorem Aw(cl:cF X.K C)(e:cG X.K C f)(g:PE X (.Name x a) (bw i))(t:autoParam (attributeBase (.Name x a) f X.env (eval (.Name x a) X.env)=eval (.Name x a) X.env) Zq._auto_1):FE X F E (.Attribute (.Name x a) f pos) (iX C i f):=
 ⟨aD,(iJ g t).imp fun Y H Q b=>by
  obtain⟨U,O,st,q⟩:=b;unfold wp iX at q;cases ho:nF C U i with
  |none=>rw[ho]at q;exact q.elim
  |some fs=>
   rw[ho]at q;simp only at q;obtain⟨h,u,c,⟨j,k,n,w,o,z,p⟩⟩:=st.view (NE ho);rcases jN p f with⟨l1,l2⟩ |⟨v,y,r,l1,l2,l3,_⟩
   .rw[l2]at q;exact q.elim
   .rw[l2]at q;cases y with
    |d d=>exact⟨_,c,h,C,j,k,v,rfl,(cV o).1,cl,e,l1,q v H O st (.refl ..) l3.2⟩
    |l ds=>exact q.elim
    |m A s=>exact q.elim⟩
theorem NF{P:List PyData->ag->Prop}(q:wp E s U fun f l=>∃j,cp g t m f [] (jF own.length k l)=some j/\j.length<=sizeLine/\P j l) :
  wp E s U fun f l=>∃n:Nat->List PyData->ag->Prop,n 0 [] (dE own k l)/\
   (∀i d j r,f[i]? = some d->n i j r->eM g d r fun u=>wp cX t u fun b o=>if b=true then wp cX m o fun y v=>j.length<sizeLine/\n (i+1) (j++[y]) v else n (i+1) j o)/\
   ∀j r,n f.length j r->j.length<=sizeLine/\P j l:=aD _ _ _ (fun f l ⟨p,B,C,D⟩=>by
 have G:dE own k l=jF own.length k l:=by unfold dE jF;rw[List.map_const']
 refine⟨fun i j U=>cp g t m (f.drop i) j U=some p,by rw[G];exact B,fun i d j U hd a=>?_,fun j U h=>?_⟩
 .have e:f.drop i=d::f.drop (i+1):=by obtain⟨w,H⟩:=List.getElem?_eq_some_iff.mp hd;rw[<-H];exact List.drop_eq_getElem_cons w
  simp only[e]at a;unfold cp at a;unfold eM;cases A:g d U with
  |none=>rw[A]at a;cases a
  |some u=>
   rw[A]at a;simp only at a ⊢;unfold wp;cases x:t u with
   |ex c o=>rw[x]at a;cases a
   |bad=>rw[x]at a;cases a
   |ok b o=>
    rw[x]at a;cases b with
    |false=>exact eI a
    |true=>
     refine eJ ?_;simp only at a ⊢;cases z:m o with
     |ex c v=>rw[z]at a;cases a
     |bad=>rw[z]at a;cases a
     |ok I v=>
      rw[z]at a;simp only at a ⊢;split at a
      .rename_i h;exact⟨h,a⟩
      .cases a
 .simp only[List.drop_length]at h;have:j=p:=by unfold cp at h;exact Option.some.inj h
  subst this;exact⟨C,D⟩) q
def rz(C:Addr)(i:Nat)(f:Str)(own:Nat)(a:List Nat)(g:GM)(t:XM Bool)(m:XM PyData)(b:List PyData):SM:=fun U=>match cp g t m b [] (jF own a U),cg C U i with
 |some c,some (io,fs)=>if c.length<=sizeLine/\fs.lookup f=none/\fs.length<1000 then .nx (U.set i (some (.own io (.o C (bM f (.l c) fs))))) else .bad
 |_,_=>.bad
def vG(C:Addr)(i:Nat)(f:Str)(own:Nat)(a:List Nat)(s:XM (List PyData))(g:GM)(t:XM Bool)(m:XM PyData):SM:=fun U=>eN (s U) (rz C i f own a g t m)
theorem NG{y}(cl:cF X.K C)(na:cG X.K C f)(hv:PE X (.Name x p1) (bw i))(hG:GF X.mg F)(S:al X a own capN caps)(hc:X.calm=true)(hn:own.length=n)(hi:FI X F E N iter s)
  (o:∀C A B J M b,GF X.mg b->FG (bU X a (own++capN) C A B J M) b N g/\lO (bU X a (own++capN) C A B J M) b cX j t/\FE (bU X a (own++capN) C A B J M) b cX h m)
  (a3:autoParam (swapsWith (.ListComp h [⟨N,iter,j,0⟩] a pos) (some (.Attribute (.Name x p1) f w)) y.line X.env=pure false) Zq._auto_1)
  (hs:autoParam (∀x,foldedSetIterable iter X.env x=pure x) Zs._auto_1):FS X F E (.Assign [.Attribute (.Name x p1) f w] (.ListComp h [⟨N,iter,j,0⟩] a pos) y) (vG C i f n caps s g t m):=by
 subst hn;obtain⟨hg,ht,he⟩:=o 0 [] (PySem.start X.prog).1 (fun _=>none) [] F hG;have pe:PE X (.ListComp h [⟨N,iter,j,0⟩] a pos) (jZ own caps (oF X.K F (wp E s)) (fun v Y H Q=>∃b,GF X.mg b/\mR X.K b (eM g) v Y H Q) (fun Y H Q=>∃b,GF X.mg b/\jz X.K b (wp cX t) Y H Q) (fun Y H Q=>∃b,GF X.mg b/\gb X.K b (wp cX m) Y H Q)):=qE S hc hi.pi (fun C A B J M=>⟨fun c s Y H v u Q I r R=>by obtain⟨b,T,q⟩:=R;exact(o C A B J M b T).1.pg c s Y H v u Q I r q,fun c s Y H Q I Z=>by obtain⟨b,T,q⟩:=Z;exact(o C A B J M b T).2.1.2 c s Y H Q I q,fun c s Y H Q I a1=>by obtain⟨b,T,q⟩:=a1;exact(o C A B J M b T).2.2.pe c s Y H Q I q⟩) hs;refine(qx hv pe a3).imp fun D Y H a2=>?_;obtain⟨U,O,DD,st,q,fD⟩:=a2;refine yG (fun _ _ _ _ _ st=>hG.into st) hi.mn hg.mn ht.1 he.mn Y H _ ⟨U,O,st,NF (aD _ _ _ (fun a4 U1 e=>?_) (fR (m:=s) (k:=rz C i f own.length caps g t m) q))⟩;unfold ck rz at e;cases L:cp g t m a4 [] (jF own.length caps U1) with
 |none=>rw[L]at e;exact e.elim
 |some ys=>
  cases ho:cg C U1 i with
  |none=>rw[L,ho]at e;exact e.elim
  |some p=>
   obtain⟨io,fs⟩:=p;rw[L,ho]at e;simp only at e
   by_cases d:ys.length<=sizeLine/\fs.lookup f=none/\fs.length<1000
   .rw[if_pos d]at e;refine⟨ys,rfl,d.1,fun H' O' vs p a5 s' dv hp=>?_⟩;obtain⟨a0,dx,gs,a6,e2,hl,nw⟩:=a5.fldNew ho d.2.1;have pa:a0≠p:=fun z=>by subst z;rw[e2]at hp;cases hp
    obtain⟨h1,O3,a7,s3⟩:=nw p (.lst vs) (.l ys) hp trivial (fun G gg=>⟨p,vs,rfl,rfl,by rw[aV (fun z=>pa z.symm),bP],aC.mono gg dv⟩);exact⟨_,a6,a0,C,dx,gs,rfl,h1,cl,na,by rw[hl];exact d.2.2,fD.nx _ _ _ _ a7 (s'.trans s3) e⟩
   .rw[if_neg d]at e;exact e.elim
end L2.L3
namespace L2
open PySem PyProof.Rows
def vH(h:Heap)(a:List Value)(rows:List (List Int)):Prop:=a.length=rows.length/\∀(i:Nat) (v:Value),a[i]? = some v->∃(T:Addr) (items:Array Value) (r:List Int),v=.ref T/\IsTup h T items/\rows[i]? = some r/\IntsAre items.toList r
abbrev ig(rows:List (List Int)):Nat->Nat->Bool:=fun i j=>HT.lexLt (rows.getD i []) (rows.getD j [])
section
variable{prog:Program}{w:World}{A:Around}{R:Result->Shared->Prop}{E:Value->Shared->Prop}{s:Shared}{h0:Heap}{I l S:Addr}{its:Array Value}{rows:List (List Int)}{d:Value}
theorem NH(g:A.units<cLine)(a:vH h0 its.toList rows)(f:∀b o,h0.get? b=some o->s.heap.get? b=some o)(h:its[i]? = some u)(k:its[j]? = some v)(q:Q (.bool (ig rows i j)) s):wpAny (model prog w) A (richCompare .Lt u v) Q E s:=by
 obtain⟨T,m,r,rfl,n,p,t⟩:=a.2 i u (by simpa using h);obtain⟨c,y,z,rfl,B,C,D⟩:=a.2 j v (by simpa using k);have G:rows.getD i []=r:=by rw[List.getD_eq_getElem?_getD,p];rfl
 have H:rows.getD j []=z:=by rw[List.getD_eq_getElem?_getD,C];rfl
 unfold ig at q;rw[G,H]at q;have J:IsTup s.heap T m:=let⟨o,e,x⟩:=n;⟨o,f _ _ e,x⟩;have L:IsTup s.heap c y:=let⟨o,e,x⟩:=B;⟨o,f _ _ e,x⟩;exact(HT.lt_tupInts J L t D g q:wpAny (model prog w) A (compareOp .Lt (.ref T) (.ref c)) Q E s)
theorem NJ(hh:A.handled=none)(T:A.in1.units<cLine)(U:vH h0 its.toList rows)(L:h0.IsList l its)(X:h0.objs.size<=I)(Y:h0.objs.size<=S)(q:I≠S) :
  ∀k j  s  n  c,its.size - (j+1)=k->j+1<=its.size->(∀b o,h0.get? b=some o->s.heap.get? b=some o)->s.heap.IsListIter I l (j+1)->its[argBest (ig rows) j]? = some n->
  s.heap.get? S=some { cls:=.type "list",dict:=none,data:=.seq #[n,n] c,slots:=#[] }->
  (∀v u y,its[argBest (ig rows) (its.size - 1)]? = some v->(∀b o,h0.get? b=some o->u.get? b=some o)->R (.ok (.ret v)) { s with heap:=u,toks:=y })->
  codeAny (model prog w) A (.builtin "min.loop" ⟨[.ref I,.none,.ref S],[("default",d)]⟩) R s:=by
 have a:(toString "min"++toString ".loop":String)="min.loop":=by decide
 have M:∀{b:Addr}{o:Obj},h0.get? b=some o->b≠I:=fun e z=>by subst z;exact absurd (bv e) (Nat.not_lt.mpr X)
 have N:∀{b:Addr}{o:Obj},h0.get? b=some o->S≠b:=fun e z=>by subst z;exact absurd (bv e) (Nat.not_lt.mpr Y)
 intro k
 induction k with
 |zero=>
  intro j s n c Z hj C hit G f D;have H:j+1=its.size:=by lia
  refine codeAny_builtin F.entry_min_loop ?_;rw[Around.under_plainId F.plain_min_loop _];show wpAny _ A.in1 (seqItems? (.ref S) >>= _) _ _ s;refine aj (wpAny_seqItems f rfl ?_);show wpAny _ A.in1 (tryCatch (pyNext (.ref I)) _ >>= _) _ _ s;refine aj (wpAny_tryCatch (wpAny_pyNext_list_end hh hit (L.at fun o e=>C _ _ e) (by simp;lia) fun Q g=>?_));have h:=g S _ (Ne.symm q) f;show wpAny _ A.in1 (updateSeq S (fun _=>#[]) >>= _) _ _ _;refine aj (wpAny_updateSeq h rfl (aj (wpAny_letGo (bd ?_))));refine D n _ _ (by rw[<-H];exact G) fun b o e=>?_;exact(Heap.get?_update_other _ _ (N e)).trans (g _ _ (M e) (C _ _ e))
 |succ k O=>
  intro j s n c Z hj C hit G f D;have m:j+1<its.size:=by lia
  refine codeAny_builtin F.entry_min_loop ?_;rw[Around.under_plainId F.plain_min_loop _];show wpAny _ A.in1 (seqItems? (.ref S) >>= _) _ _ s;refine aj (wpAny_seqItems f rfl ?_);show wpAny _ A.in1 (tryCatch (pyNext (.ref I)) _ >>= _) _ _ s;refine aj (wpAny_tryCatch (wpAny_pyNext_list_item hit (L.at fun o e=>C _ _ e) (x:=its[j+1]) (by simp[m]) fun Q p g=>?_));have h:=g.extBut S _ (Ne.symm q) f;have r:∀b o,h0.get? b=some o->Q.get? b=some o:=fun b o e=>g.extBut _ _ (M e) (C _ _ e);show wpAny _ A.in1 (tryCatch (holding [its[j+1],its[j+1]] (richCompare .Lt its[j+1] n >>= _)) _ >>= _) _ _ _;refine aj (wpAny_tryCatch (wpAny_holding (aj (NH (i:=j+1) (j:=argBest (ig rows) j) T U r (by simp[m]) G ?_))));refine aj (wpAny_holding (wpAny_truthy_bool ?_));refine aj (wpAny_letGo (bd ?_));cases B:ig rows (j+1) (argBest (ig rows) j) with
  |true=>simp only[if_true];refine aj (wpAny_updateSeq h rfl (aj (wpAny_letGo ?_)));rw[a];refine bd ⟨plainId_quiet F.plain_min_loop _,O (j+1) _ its[j+1] _ (by lia) m (fun b o e=>(Heap.get?_update_other _ _ (N e)).trans (r _ _ e)) (p.at fun o e=>(Heap.get?_update_other _ _ (Ne.symm q)).trans e) (by simp only[argBest,B,if_true];simp[m]) (Heap.get?_update_self _ h rfl) fun v u y J t=>D v u y J t⟩
  |false=>simp only[Bool.false_eq_true,if_false];refine aj (wpAny_letGo ?_);rw[a];exact bd ⟨plainId_quiet F.plain_min_loop _,O (j+1) _ n c (by lia) m r p (by simp only[argBest,B,Bool.false_eq_true,if_false];exact G) h fun v u y J t=>D v u y J t⟩
theorem NK(H:A.handled=none)(t:A.in1.units<cLine)(j:s.heap.IsList l its)(u:vH s.heap its.toList rows)(k:0<its.size)(y:∀v h m,its[argBest (ig rows) (its.size - 1)]? = some v->(∀b o,s.heap.get? b=some o->h.get? b=some o)->Q v { s with heap:=h,toks:=m }) :
  wpAny (model prog w) A (call (.builtin "min") [.ref l] [("default",d)]) Q E s:=by
 refine Aq F.kind_min F.plain_min F.entry_min (Ap _ _) ?_;show wpAny _ A.in1 (Builtin.Builtins.bindParams "min" ["key","default"] 0 ⟨[],[("default",d)]⟩ >>= _) _ _ s;refine aj (wpAny_of_eq (show Builtin.Builtins.bindParams "min" ["key","default"] 0 ⟨[],[("default",d)]⟩=pure [none,some d] from rfl) ?_);refine aj (bd ?_);refine aj (wpAny_pyIter_list j ?_);refine aj (wpAny_newObj_type ?_);have a:(toString "min"++toString ".loop":String)="min.loop":=by decide
 rw[a];generalize n:(s.heap.push { cls:=.type "list_iterator",data:=.fields #[.ref l,.int 0 0] })=h1;have B:h1.get? s.heap.objs.size=some { cls:=.type "list_iterator",data:=.fields #[.ref l,.int 0 0] }:=by rw[<-n];exact Heap.get?_push_size _ rfl
 have C:∀b o,s.heap.get? b=some o->h1.get? b=some o:=fun b o e=>by rw[<-n];exact bn _ e
 have p:h1.objs.size=s.heap.objs.size+1:=by rw[<-n,Heap.size_push]
 refine bd ⟨plainId_quiet F.plain_min_loop _,?_⟩;refine codeAny_builtin F.entry_min_loop ?_;rw[Around.under_plainId F.plain_min_loop _];have q:(h1.push { cls:=.type "list",data:=.seq #[] }).get? h1.objs.size=some { cls:=.type "list",data:=.seq #[] }:=Heap.get?_push_size _ rfl;have r:∀b o,s.heap.get? b=some o->(h1.push { cls:=.type "list",data:=.seq #[] }).get? b=some o:=fun b o e=>bn _ (C b o e);show wpAny _ A.in1 (seqItems? (.ref h1.objs.size) >>= _) _ _ _;refine aj (wpAny_seqItems q rfl ?_);show wpAny _ A.in1 (tryCatch (pyNext (.ref s.heap.objs.size)) _ >>= _) _ _ _;refine aj (wpAny_tryCatch (wpAny_pyNext_list_item (i:=0) (l:=l) (items:=its) (x:=its[0]) ⟨_,bn _ B,rfl,rfl⟩ (j.at fun o e=>r _ _ e) (by simp[k]) fun J c f=>?_));have ne:s.heap.objs.size≠h1.objs.size:=by rw[p];exact Nat.ne_of_lt (Nat.lt_succ_self _)
 have g:=f.extBut _ _ (Ne.symm ne) q;have D:∀b o,s.heap.get? b=some o->J.get? b=some o:=fun b o e=>f.extBut _ _ (Nat.ne_of_lt (bv e)) (r _ _ e);show wpAny _ A.in1 (updateSeq h1.objs.size (fun _=>#[its[0],its[0]]) >>= _) _ _ _;refine aj (wpAny_updateSeq g rfl ?_);rw[a];refine bd ⟨plainId_quiet F.plain_min_loop _,NJ (h0:=s.heap) (its:=its) (rows:=rows) H t u j (bG _) (by rw[p];exact Nat.le_succ _) ne _ 0 _ its[0] _ rfl k (fun b o e=>(Heap.get?_update_other _ _ (fun z=>by subst z;exact absurd (bv e) (by rw[p];exact Nat.not_lt.mpr (Nat.le_succ _)))).trans (D _ _ e)) (c.at fun o e=>(Heap.get?_update_other _ _ (Ne.symm ne)).trans e) (by simp[argBest,k]) (Heap.get?_update_self _ g rfl) fun v h m G L=>y v h m G L⟩
end
end L2
namespace L2.L3
open PySem PySem.Spec PyProof.Rows
noncomputable def lY:List PyData->Option (List Int)
 |[]=>some []
 |.int i::r=>(lY r).map (i::·)
 |_=>none
def kE:List PyData->Option (List (List Int))
 |[]=>some []
 |.tuple ds::r=>(match lY ds,kE r with |some x,some y=>some (x::y) |_,_=>none)
 |_=>none
theorem Ax:∀{b a},lY b=some a->b=a.map PyData.int
 |[],a,h=>by cases h;rfl
 |.int i::r,a,h=>by unfold lY at h;obtain⟨m,h1,h2⟩:=Option.map_eq_some_iff.mp h;subst h2;rw[Ax h1];rfl
 |.none::_,_,h=>by cases h
 |.bool _::_,_,h=>by cases h
 |.str _::_,_,h=>by cases h
 |.list _::_,_,h=>by cases h
 |.tuple _::_,_,h=>by cases h
 |.dict _::_,_,h=>by cases h
theorem Ay:∀{b a},kE b=some a->b=a.map fun r=>PyData.tuple (r.map PyData.int)
 |[],a,h=>by cases h;rfl
 |.tuple l::r,a,h=>by
  unfold kE at h;cases h1:lY l with
  |none=>rw[h1]at h;cases h
  |some x=>
   cases h2:kE r with
   |none=>rw[h1,h2]at h;cases h
   |some y=>rw[h1,h2]at h;cases h;rw[Ay h2,Ax h1];rfl
 |.none::_,_,h=>by cases h
 |.bool _::_,_,h=>by cases h
 |.str _::_,_,h=>by cases h
 |.list _::_,_,h=>by cases h
 |.int _::_,_,h=>by cases h
 |.dict _::_,_,h=>by cases h
theorem Az:∀{b}{a:List Int},aC H b (a.map PyData.int)->b=a.map V.int
 |_,[],.nil=>rfl
 |_,n::a,.cons h t=>by rw[h.int_inv,Az t];rfl
theorem AA:∀{a b},bi (a.map V.int) b->IntsAre b a
 |[],_,.nil=>.nil
 |n::a,_,.cons r t=>by obtain⟨c,rfl⟩:=r;exact .cons n c (AA t)
def fS:List (List Int)->List Int->List Int
 |[],b=>b
 |r::a,b=>fS a (if HT.lexLt r b=true then r else b)
theorem AB(rows:List (List Int)):∀k j,j+1+k=rows.length->fS (rows.drop (j+1)) (rows.getD (argBest (ig rows) j) [])=rows.getD (argBest (ig rows) (rows.length - 1)) []
 |0,j,h=>by have e:rows.drop (j+1)=[]:=List.drop_eq_nil_of_le (by lia);rw[e,fS,show rows.length - 1=j by lia]
 |k+1,j,h=>by
  have a:j+1<rows.length:=by lia
  rw[List.drop_eq_getElem_cons a,fS,<-AB rows k (j+1) (by lia)]
  congr 1
  have b:rows.getD (j+1) []=rows[j+1]:=by rw[List.getD_eq_getElem?_getD,List.getElem?_eq_getElem a];rfl
  simp only[argBest];unfold ig;rw[b];split
  .exact b.symm
  .rfl
theorem NL{A:Around}(a:A.units+1<cLine):A.in1.units<cLine:=by
 have:A.in1.units<=A.units+1:=by first |exact bG _ |exact Nat.le_succ _
 exact Nat.lt_of_le_of_lt this a
def kG(i:Nat):XM PyData:=fun U=>match jK U i with
 |some (_,ds)=>(match kE ds with
  |some []=>.ok .none U
  |some (r::a)=>.ok (.tuple ((fS a r).map PyData.int)) U
  |none=>.bad)
 |none=>.bad
theorem NM{F:Fx}{E:Str->ag->Prop}{pos:Pos}{p:Pos}{kp:Pos}{kpos:Pos}{Z}(hu:X.A.units+1<cLine)(hc:X.calm=true)(hg:Gl X "min")(C:X.mg "min" = none)(hv:PE X (.Name x p1) (bw i))
  (a0:autoParam (starEach [.Name x p1] X.env=(false,eval (.Name x p1) X.env)::starEach [] X.env) Zq._auto_1)
  (he:autoParam (backTo pos (starEach [.Name x p1] X.env)=(false,eval (.Name x p1) X.env)::backTo pos (starEach [] X.env)) Zq._auto_1)
  (f:autoParam ((backTo pos (starEach [.Name x p1] X.env)).any (·.1)=false) Zq._auto_1)
  (D:autoParam ((backToKw pos (keywordEach [⟨some "default",.Constant .none Z kp,kpos⟩] X.env)).all (·.1.isSome)=true) Zq._auto_1)
  (a1:autoParam ((backToKw pos (keywordEach [⟨some "default",.Constant .none Z kp,kpos⟩] X.env)).any (·.1.isNone)=false) Zq._auto_1)
  (hn:autoParam ((backToKw pos (keywordEach [⟨some "default",.Constant .none Z kp,kpos⟩] X.env)).filterMap (·.1)=[("default":Str)]) Zq._auto_1) :
  FE X F E (.Call (.Name "min" p) [.Name x p1] [⟨some "default",.Constant .none Z kp,kpos⟩] pos) (kG i):=by
 refine⟨aD,fun h s Y H Q I G=>?_⟩;obtain⟨U,O,st,q⟩:=G;unfold wp kG at q;cases ho:jK U i with
 |none=>rw[ho]at q;exact q.elim
 |some pr=>
  obtain⟨io,ds⟩:=pr;rw[ho]at q;simp only at q;cases hr:kE ds with
  |none=>rw[hr]at q;exact q.elim
  |some rows=>
   rw[hr]at q;obtain⟨a,fp,a2,⟨_,xs,hH,hd⟩,_,_⟩:=st.box (vf ho);refine wpAny_Call_Name_kw (jo I hg C PyProof.Rows.boot_min ?_ (by decide) (by decide));refine PyProof.Rows.callWith_kw ?_ he f D a1;refine aQ ((cJ hv dj a0) pos h s Y H (fun J H1=>J=[.ref a]/\H1=H) I ⟨_,a2,rfl,rfl⟩) fun us s1 M=>?_;obtain⟨J,H1,I1,r1,t,y⟩:=M;subst t y;obtain⟨u,rfl,ru⟩:=di r1;cases ru;refine aQ ((Hy (nm:=some "default") (kpos:=kpos) tq Hx) pos h s1 Y H1 (fun J m=>J=[.non]/\m=H1) I1 ⟨rfl,rfl⟩) fun us s2 N=>?_;obtain⟨J,m,z,r2,t,y⟩:=N;subst t y;obtain⟨u,rfl,ru⟩:=di r2;cases ru;rw[hn];obtain⟨z1,g,n1,rv,g1⟩:=z.hok _ _ hH;have n:=Ay hr;have L:s2.heap.IsList a g.toArray:=⟨_,g1,rfl,_,rfl⟩
   cases rows with
   |nil=>subst n;cases hd;cases rv;simp only at q;refine Nl (l:=a) (d:=.none) (z.ok.hd hc) L fun h' j=>?_;exact⟨.non,m,z.kept (t':=s2.toks) j,rfl,q _ m O st .refl .non⟩
   |cons r e=>
    simp only at q;have c:g.length=(r::e).length:=by rw[<-rv.length,hd.length,n,List.length_map]
    have item:∀(k:Nat) (v:Value),g[k]? = some v->∃(T:Addr) (o:List Int) (b:List Value) (B:V),v=.ref T/\IsTup s2.heap T b.toArray/\(r::e)[k]? = some o/\IntsAre b o/\bq B v/\DV (ao O m) B (.tuple (o.map PyData.int)):=fun k v j=>by
     have R:k<(r::e).length:=by rw[<-c];exact(List.getElem?_eq_some_iff.mp j).1
     have a3:ds[k]? = some (.tuple (((r::e)[k]).map PyData.int)):=by rw[n,List.getElem?_map,List.getElem?_eq_getElem R];rfl
     obtain⟨B,a4,S⟩:=hd.get a3;obtain⟨w,hw,a5⟩:=rv.get a4;rw[j]at hw;cases hw;obtain⟨T,ys,rfl,hT,hy⟩:=S.tup_inv;obtain⟨_,b,rj,pj⟩:=(jv hT).1.ok z.hok;rw[Az hy]at rj;cases a5;exact⟨T,_,b,.ref T,rfl,pj,List.getElem?_eq_getElem R,AA rj,rfl,S⟩
    refine NK (l:=a) (its:=g.toArray) (rows:=r::e) (d:=.none) (z.ok.hd hc) (NL hu) L ⟨c,fun k v j=>by
     obtain⟨T,o,b,B,t,y,e3,e4,_,_⟩:=item k v j;exact⟨T,b.toArray,o,t,y,e3,e4⟩⟩ (by simp only[List.size_toArray];rw[c];simp) fun v h' tk hv j=>?_
    simp only[List.size_toArray,List.getElem?_toArray]at hv;obtain⟨T,o,b,B,t,y,e3,e4,e5,e6⟩:=item _ v hv;have C:=AB (r::e) e.length 0 (by simp;lia);have a6:(r::e).getD (argBest (ig (r::e)) 0) []=r:=by simp[argBest]
    rw[a6]at C;change fS e r=_ at C;rw[c]at e3;have:o=fS e r:=by rw[C,List.getD_eq_getElem?_getD,e3];rfl
    subst this;exact⟨B,m,z.kept (t':=tk) j,e5,q _ m O st .refl e6⟩
structure MD (K:Frag) (C:Addr) (m qual:Str) (st:Stmt) (ps:List Str) (g:Addr) (fd:FuncData):Prop where
 fn:lB K m qual st g fd
 mt:gA K C m g
 b:fM K fd ps []
theorem bE{N P}{a}(f:autoParam (a.kind=.function) Zq._auto_1)(g:autoParam (a.isCoroutine=false) Zq._auto_1)(h:autoParam (a.isGenerator=false) Zq._auto_1)(b:N.Nodup:=by decide +kernel)(c:autoParam (N.take P.length=P) Zq._auto_1)(d:∀x∈P,a.names.lookup x=some .local\/a.names.lookup x=some .cell:=by decide +kernel)(e:∀y∈a.names,y.2≠.free:=by decide +kernel):bA N P a:=⟨f,g,h,b,c,d,e⟩
theorem fv{X:Cx}{F:Fx}{E:Str->ag->Prop}{pos:Pos}(i)(b:autoParam (X.N[i]? = some x) Zq._auto_1)(c:qp X.env.scope x:=by first |exact Or.inl rfl |exact Or.inr (Or.inl rfl) |exact Or.inr (Or.inr rfl))(hd:autoParam ((x==("__debug__":Str))=false) Zr._auto_1)(a:autoParam ((x==("__classdict__":Str))=false) Zr._auto_1):FE X F E (.Name x pos) (xV i):=LM (Jj i (pv i b c hd a))
theorem NN{X:Cx}{F:Fx}{pos:Pos}(i)(a:X.N.Nodup)(b:autoParam (X.N[i]? = some x) Zq._auto_1)(c:gy X.env.scope x:=by first |exact Or.inl rfl |exact Or.inr rfl)(d:X.fn x=true\/X.env.scope.names.lookup x=some .local:=by first |exact .inl rfl |exact .inr rfl |assumption):FG X F (.Name x pos) (aE i):=Mc (JZ (Gq a b c d))
theorem nG{pos:Pos}{p:Pos}{st:Stmt}(d:dc X F E)(G:bJ X.prog X.w X.K X.mg X.base (cx X.prog X.w) k g fd ps (cW X.K X.mg f))(D:FD X.K X.mg x st ps g fd)(h:ba j X.A)(l:FX X F E (e::es) mX)(n:autoParam (k<=j) Zr._auto_1)(o:autoParam (Gl X x) Zq._auto_1)(a:autoParam ((x==("__debug__":Str))=false) Zr._auto_1)
  (r:autoParam (starEach (e::es) X.env=(false,eval e X.env)::starEach es X.env) Zq._auto_1) (c:autoParam ((backTo pos (starEach es X.env)).any (·.1)=false) Zq._auto_1):FO X F E (.Call (.Name x p) (e::es) [] pos) (aO f mX):=zv (KE d G (h.mono n) o D.mgf D.fn.kp D.b l a r c)
theorem rA{pos:Pos}{apos:Pos}{st:Stmt}{t}(h:dc X F E)(cl:cF X.K C)(G:bJ X.prog X.w X.K X.mg X.base (cx X.prog X.w) k g fd ps (cW X.K X.mg f))(D:MD X.K C m q st ps g fd)(l:ba j X.A)(n:PE X (.Name x p1) (bw i))(o:FX X F E (e::es) mX)(r:autoParam (k<=j) Zr._auto_1)
  (a:autoParam (starEach (e::es) X.env=(false,eval e X.env)::starEach es X.env) Zq._auto_1) (c:autoParam ((backTo pos (starEach es X.env)).any (·.1)=false) Zq._auto_1)
  (s:autoParam (eval (.Call (.Attribute (.Name x p1) m apos) (e::es) [] pos) X.env=(do
   let d <-eval (.Name x p1) X.env
   standAt apos.atName
   let(f,first) <-holding [d] (getMethod d m t)
   callWith pos f first (backTo pos (starEach (e::es) X.env)) (backToKw pos (keywordEach [] X.env)))) Zq._auto_1) :
  FO X F E (.Call (.Attribute (.Name x p1) m apos) (e::es) [] pos) (bR C i m f mX):=Ak h cl D.mt G (l.mono r) D.b n o a c s
theorem lZ{pos:Pos}{apos:Pos}{st:Stmt}{o}(c:dc X F E)(cl:cF X.K C)(G:bJ X.prog X.w X.K X.mg X.base (cx X.prog X.w) k g fd ps (cW X.K X.mg f))(D:MD X.K C m q st ps g fd)(d:ba j X.A)(h:PE X (.Name x p1) (bw i))(l:autoParam (k<=j) Zr._auto_1)
  (n:autoParam (eval (.Call (.Attribute (.Name x p1) m apos) [] [] pos) X.env=(do
   let a <-eval (.Name x p1) X.env
   standAt apos.atName
   let(f,first) <-holding [a] (getMethod a m o)
   callWith pos f first (backTo pos (starEach [] X.env)) (backToKw pos (keywordEach [] X.env)))) Zq._auto_1) :
  FO X F E (.Call (.Attribute (.Name x p1) m apos) [] [] pos) (ei C i m f):=Al c cl D.mt G (d.mono l) D.b h n
def rB(C:Addr)(i:Nat)(f:Str):XM PyData:=fun U=>match cg C U i with
 |some (_,fs)=>(match fs.lookup f with
  |some (.l ds)=>.ok (.tuple ds) U
  |_=>.bad)
 |none=>.bad
theorem NO{F:Fx}{E:Str->ag->Prop}{pos:Pos}{s a}(u:Gl X "tuple")(v:X.mg "tuple" = none)(cl:cF X.K C)(w:cG X.K C f)(y:PE X (.Name x b) (bw i))(L:autoParam (attributeBase (.Name x b) f X.env (eval (.Name x b) X.env)=eval (.Name x b) X.env) Zq._auto_1)
  (o:autoParam (starEach [.Attribute (.Name x b) f a] X.env=(false,eval (.Attribute (.Name x b) f a) X.env)::starEach [] X.env) Zq._auto_1) (j:autoParam ((backTo pos (starEach [] X.env)).any (·.1)=false) Zq._auto_1) :
  FE X F E (.Call (.Name "tuple" s) [.Attribute (.Name x b) f a] [] pos) (rB C i f):=
 ⟨aD,(tO tS u v (show bootBuiltins "tuple" = some (.type "tuple") by decide +kernel) (cJ (iJ y L) dj o) (by decide) (by decide) o j).imp fun Y H Q g=>by
  obtain⟨U,O,st,q⟩:=g;unfold wp rB at q;cases ho:cg C U i with
  |none=>rw[ho]at q;exact q.elim
  |some p=>
   obtain⟨io,fs⟩:=p;rw[ho]at q;simp only at q;cases c:fs.lookup f with
   |none=>rw[c]at q;exact q.elim
   |some t=>
    rw[c]at q;cases t with
    |d _=>exact q.elim
    |m _ _=>exact q.elim
    |l ds=>
     obtain⟨z,A,B,r,k,D,l1,⟨M,G,I,_,J,n⟩,_⟩:=st.fldUp ho c rfl;cases I;exact⟨_,k,z,C,A,B,.ref r,rfl,D,cl,w,l1,r,G,rfl,.inl ⟨.of J,fun p h=>q _ _ O (st.grow (ca h)) (.same (ca h)) (mQ h (st.nofree p h) n)⟩⟩⟩
end L2.L3
namespace L2.L3
open PySem
theorem NP(e:c "ANY_ZONE" = none)(f:c "NO_DEEDS" = none)(H):GH c H:=fun x d u a b=>by
 unfold glob at a;split at a
 .rename_i h;subst h;rw[e]at b;cases b
 .split at a
  .rename_i h;subst h;rw[f]at b;cases b
  .cases a
end L2.L3
namespace L2.L3
open PySem PySem.Spec PyProof.Rows
noncomputable def jP(U:ag)(i:Nat):Option (Bool×List (List PyData)):=match U[i]? with
 |some (some (.own io (.ll a)))=>some (io,a)
 |_=>none
theorem AC(h:jP U i=some (io,a)):U[i]? = some (some (.own io (.ll a))):=by
 unfold jP at h;split at h
 .rename_i e;cases h;exact e
 .cases h
theorem AD:∀{l:List α}{m:List β}(n:Nat),m[n]? = some x->Paired R l m->∃b,l[n]? = some b/\R b x
 |_,_,_,e,.nil=>by simp at e
 |_,_,0,e,.cons h t=>by simp at e;subst e;exact⟨_,rfl,h⟩
 |_,_,n+1,e,.cons _ t=>AD n (by simpa using e) t
theorem ay.freezeLL{K:Frag}(st:ay K F H Y U O)(e:U[i]? = some (some (.own false (.ll d)))) :
  ∃v n,Y[i]? = some (some v)/\ay K F H Y (U.set i (some (.dat (.list (d.map .list))))) n/\aH O H n H/\DV (ao n H) v (.list (d.map .list)):=by
 obtain⟨W,st,rfl⟩:=st;obtain⟨v,J,h1,h2,a,rfl,bs,rfl,h3,w⟩:=st.at_ i _ e;have y:i<U.length:=(List.getElem?_eq_some_iff.mp e).1;have o:W.flatten.Nodup:=(List.nodup_append.mp st.nd).1;have f:∀c∈a::bs,c∉(W.set i []).flatten++F.O₀:=fun c g z=>by
  rcases List.mem_append.mp z with z |z
  .rcases ek z with z |⟨j,l,k,A,B⟩
   .cases z
   .exact hJ o h2 A (Ne.symm k) g B
  .exact(List.nodup_append.mp st.nd).2.2 c (bK h2 g) c z rfl
 have p:aH (W.flatten++F.O₀) H ((W.set i []).flatten++F.O₀) H->DV (ao ((W.set i []).flatten++F.O₀) H) (.ref a) (.list (d.map .list)):=fun s=>by
  refine .lst (fY h3 (f a List.mem_cons_self)) ?_;have go:∀(b:List Addr) (m:List (List PyData)),(∀c∈b,c∈a::bs)->Paired (ka (ao (W.flatten++F.O₀) H) H) b m->aC (ao ((W.set i []).flatten++F.O₀) H) (b.map V.ref) (m.map .list):=fun b=>by
   induction b with
   |nil=>intro m _ h;cases h;exact .nil
   |cons c b C=>
    intro m q h;cases h with
    |cons h t=>obtain⟨L,D,E⟩:=h;exact .cons (.lst (fY D (f c (q c List.mem_cons_self))) (aC.mono s.hid E)) (C _ (fun x G=>q x (bC _ G)) t)
  exact go bs d (fun c g=>bC _ g) w
 obtain⟨r,u⟩:=st.put (H':=H) (i:=i) (v:=.ref a) (c:=.dat (.list (d.map .list))) (fp:=[]) y (fun _ _ _ _ _ _=>rfl) (fun _ _=>rfl) (fun _ _ _ e=>e) List.nodup_nil (fun a h=>by cases h) (fun a h=>by cases h) (fun a h=>by cases h) (fun s=>p s) (fun _ z=>by cases z);have I:Y.set i (some (.ref a))=Y:=by
  apply List.ext_getElem?;intro j
  by_cases k:j=i
  .subst k;rw[List.getElem?_set_self (List.getElem?_eq_some_iff.mp h1).1,h1]
  .rw[List.getElem?_set_ne (Ne.symm k)]
 rw[I]at r;exact⟨_,_,h1,⟨_,r,rfl⟩,u,p u⟩
theorem AE{α:Type}{a}:∀{n k},k<n->((List.replicate n ([]:List α)).set k a).flatten=a
 |0,_,h=>by lia
 |n+1,0,_=>by rw[List.replicate_succ,List.set_cons_zero,List.flatten_cons,mS,List.append_nil]
 |n+1,k+1,h=>by rw[List.replicate_succ,List.set_cons_succ,List.flatten_cons,AE (by lia)];rfl
def kH(own:List Str)(a:List Nat)(k:Nat)(b:Bx)(U:ag):ag:=(dE own a U).set (own.length+k) (some (.own true b))
def rC(own:List Str)(h:List Nat)(k l:Nat)(s:eh)(g:eL)(o:cN)(p:DT):DT:=fun U Q=>s U fun c j=>∃io b,j[l]? = some (some (.own io b))/\∃e:Nat->List PyData->ag->Prop,e 0 [] (kH own h k b j)/\
 (∀i d a f,c[i]? = some d->e i a f->g d f fun q=>o q fun b m=>if b=true then p m fun y r=>a.length<sizeLine/\e (i+1) (a++[y]) r else e (i+1) a m)/\
 ∀a f,e c.length a f->∃n,f[own.length+k]? = some (some (.own true n))/\a.length<=sizeLine/\Q (.list a) (j.set l (some (.own io n)))
theorem NQ(c:kg s):Mn (rC own caps k jm s g tc te):=fun _ _ _ d q=>c _ _ _ (fun _ _ a=>by obtain⟨io,b,hb,f,i,h1,h2⟩:=a;exact⟨io,b,hb,f,i,h1,fun j m h=>let⟨n,e,l,q⟩:=h2 j m h;⟨n,e,l,d _ _ q⟩⟩) q
theorem NR{K:Frag}{PF:Fx->Prop}(hP:∀B Y M N A O2 I,ay K F B Y M N->(∀a∈A,∃o,B a=some o/\Mv o)->PF ⟨B,A,O2,I⟩)(a6:caps[k]? = some jm)(hs:kg s)(hg:∀d U Q Q',(∀U',Q U'->Q' U')->g d U Q->g d U Q')(ht:iN tc)(he:Mn te):∀Y H Q,gb K F (rC own caps k jm s g tc te) Y H Q->
  jZ own caps (oF K F s) (fun v Y H Q=>∃E,PF E/\mR K E g v Y H Q) (fun Y H Q=>∃E,PF E/\jz K E tc Y H Q) (fun Y H Q=>∃E,PF E/\gb K E te Y H Q) Y H Q:=fun Y H Q a7=>by
 obtain⟨U,O,st,q⟩:=a7;refine⟨U,O,st,hs _ _ _ (fun n M a8 J B N R s1 wk=>?_) q⟩;obtain⟨io,b0,a5,Iv,i0,step,fin⟩:=a8;obtain⟨W,C,u⟩:=id R;obtain⟨v0,r,hY,hW,a,rfl,a9⟩:=C.at_ jm _ a5;rw[<-u]at a9;have c0:jm<M.length:=(List.getElem?_eq_some_iff.mp a5).1;have c1:N.Nodup:=by rw[u];exact C.nd
 have b1:W.flatten.Nodup:=(List.nodup_append.mp C.nd).1;have c2:r.Nodup:=b1.sublist (List.sublist_flatten_of_mem (List.mem_of_getElem? hW));have S:∀c∈r,c∈N:=fun c f=>by rw[u];exact aR _ (bK hW f)
 have c3:∀c∈r,∃o,B c=some o/\Mv o:=fun c f=>R.live c (S c f);let t:List Addr:=N.filter fun c=>decide (c∉r);have w:∀c∈t,c∈N/\c∉r:=fun c h=>by obtain⟨h1,G⟩:=List.mem_filter.mp h;exact⟨h1,by simpa using G⟩
 have inc:∀c∈N,c∉r->c∈t:=fun c h G=>List.mem_filter.mpr ⟨h,by simpa using G⟩;have a2:∀c,c∈r++t↔c∈N:=fun c=>⟨fun h=>(List.mem_append.mp h).elim (S c) fun z=>(w c z).1,fun h=>by
  by_cases z:c∈r
  .exact aR _ z
  .exact aT _ (inc c h z)⟩
 have c4:(r++t).Nodup:=List.nodup_append.mpr ⟨c2,c1.filter _,fun x hx y hy e=>by subst e;exact(w x hy).2 hx⟩;have b3:aH N B (r++t) B:=eX fun c h=>(a2 c).mp h;let E:Fx:=⟨B,r,t,fun _=>a⟩
 have pf:PF E:=hP _ _ _ _ _ _ _ R c3;have kn:own.length+k<(dE own caps M).length:=by have:=(List.getElem?_eq_some_iff.mp a6).1;unfold dE;simp;lia
 have ln:(dE own caps M).length=(ej own caps Y).length:=by unfold dE ej;simp
 have fl:((List.replicate (dE own caps M).length ([]:List Addr)).set (own.length+k) r).flatten=r:=AE kn;have Yk:(ej own caps Y)[own.length+k]? = some (some (.ref a)):=by unfold ej;rw[List.getElem?_append_right (by simp),List.length_map,Nat.add_sub_cancel_left,List.getElem?_map,a6];show some ((Y[jm]?).getD none)=_;rw[hY];rfl
 refine⟨fun i m ys Y' H'=>∃U' O' ds,ay K E H' Y' U' O'/\Iv i ds U'/\aC (ao O' H') ys ds/\i<=n.length/\m=n.length - i,⟨n.length,kH own caps k b0 M,r++t,[],?_,i0,.nil,Nat.zero_le _,rfl⟩,?_⟩
 .have cell:∀(i:Nat) (c:ae),(dE own caps M)[i]? = some (some c)->(∀io b,c≠.own io b)/\∃v,(ej own caps Y)[i]? = some (some v)/\dm K B N v c []:=fun i c e=>by
   unfold dE at e;unfold ej
   by_cases hi:i<own.length
   .rw[List.getElem?_append_left (by simpa using hi),List.getElem?_map]at e;cases h:own[i]? with
    |none=>rw[h]at e;cases e
    |some y=>rw[h]at e;cases e
   .rw[List.getElem?_append_right (by simpa using Nat.le_of_not_lt hi),List.length_map,List.getElem?_map]at e;rw[List.getElem?_append_right (by simpa using Nat.le_of_not_lt hi),List.length_map,List.getElem?_map];obtain⟨j,h1,G⟩:=Option.map_eq_some_iff.mp e;rw[h1];show _/\∃v,some ((Y[j]?).getD none)=some (some v)/\_;cases h3:M[j]? with
    |none=>rw[h3]at G;cases G
    |some o=>
     cases o with
     |none=>rw[h3]at G;cases G
     |some c'=>
      rw[h3]at G;obtain⟨v,D,Z,_,e2⟩:=C.at_ j c' h3;rw[<-u]at e2;rw[Z];cases c' with
      |dat d=>cases G;exact⟨(fun _ _ z=>by cases z),v,rfl,e2⟩
      |scr ns=>cases G;exact⟨(fun _ _ z=>by cases z),v,rfl,e2⟩
      |own _ _=>cases G
      |exc _=>cases G
      |vw b=>cases G;exact⟨(fun _ _ z=>by cases z),v,rfl,e2⟩
  refine⟨(List.replicate (dE own caps M).length []).set (own.length+k) r,⟨fun i c e=>?_,by show(_++t).Nodup;rw[fl];exact c4,fun _ _ _ h=>h,fun c h=>?_,?_,?_,?_,fun i b e=>?_⟩,by show r++t=_++t;rw[fl]⟩
  .unfold kH at e;rcases fO e with⟨rfl,Z,hl⟩ |⟨hi,Z⟩
   .cases Z;refine⟨.ref a,r,Yk,List.getElem?_set_self (by simpa using hl),a,rfl,?_⟩;show ee (ao (_++t) B) B a b0 r;rw[fl];exact a9.keep (fun _ _=>rfl) b3.hid
   .obtain⟨_,v,e2,e3⟩:=cell i c Z;refine⟨v,[],e2,?_,?_⟩
    .rw[List.getElem?_set_ne (Ne.symm hi),List.getElem?_replicate,if_pos (List.getElem?_eq_some_iff.mp Z).1]
    .show dm K B (_++t) v c [];rw[fl];exact e3.keep b3 (fun _ _=>rfl) fun _ _ _ e=>e
  .rw[fl]at h;exact .inl h
  .show kf B (_++t);rw[fl];exact fun c h=>R.live c ((a2 c).mp h)
  .unfold kH;rw[List.length_set];exact ln
  .unfold kH;rw[List.length_set,List.length_set,List.length_replicate]
  .unfold kH at e;rcases fO e with⟨rfl,_,_⟩ |⟨hi,Z⟩
   .exact Yk
   .exact absurd rfl ((cell i _ Z).1 true b)
 .rintro i m ys Y' H' ⟨U',O',ds,a0,iv,dv,hi,rfl⟩;obtain⟨W',h',L⟩:=id a0;have kp:∀b o,b∉r->B b=some o->H' b=some o:=fun b o hb e=>h'.kept b o hb e;have c5:aH N B O' H':=⟨fun b o hb e=>kp b o (fun z=>hb (S b z)) e,fun c h=>by
   rw[L]at h;rcases List.mem_append.mp h with h |h
   .exact(h'.new c h).imp (S c) id
   .exact .inl (w c h).1⟩
  obtain⟨w1,w2⟩:=wk O' H' c5 a0.live
  by_cases a1:i<n.length
  .obtain⟨go,yld⟩:=w1 i n[i] (List.getElem?_eq_getElem a1);refine .inr ⟨go,fun x H2 hy=>?_⟩;obtain⟨b4,dx⟩:=yld x H2 hy;refine⟨E,pf,U',O',n[i],a0.grow b4,dx,hg _ _ _ _ (fun U2 q2 Y3 H3 O3 c6 s3=>?_) (step i n[i] ds U' (List.getElem?_eq_getElem a1) iv)⟩;refine⟨E,pf,U2,O3,c6,ht _ _ _ (fun b U3 q3 H4 O4 b5 s4=>?_) q2⟩;have d4:aC (ao O4 H4) ys ds:=aC.mono s4.hid (aC.mono s3.hid (aC.mono (lD b4) dv));cases b with
   |false=>exact eI ⟨n.length - (i+1),by lia,U3,O4,ds,b5,jy q3,d4,a1,rfl⟩
   |true=>refine eJ ⟨E,pf,U3,O4,b5,he _ _ _ (fun y U4 q4 v H5 O5 c7 s5 dy=>?_) (jx q3)⟩;refine⟨by rw[d4.length];exact q4.1,n.length - (i+1),by lia,U4,O5,ds++[y],c7,q4.2,(aC.mono s5.hid d4).append (.cons dy .nil),a1,rfl⟩
  .have e:i=n.length:=by lia
   subst e;obtain⟨b',b6,hz,q⟩:=fin ds U' iv;refine .inl ⟨w2,by rw[dv.length];exact hz,fun p hp=>?_⟩;obtain⟨v',D,g1,g2,a',ea,g3⟩:=h'.at_ _ _ b6;have g4:=h'.io _ _ b6;rw[g1]at g4;obtain rfl:a' = a:=by cases ea;cases g4;rfl
   rw[<-L]at g3;have a3:∀c∈D,c∈O':=fun c f=>by rw[L];exact aR _ (bK g2 f)
   have a4:(W'.flatten++t).Nodup:=h'.nd;have b7:D.Nodup:=(List.nodup_append.mp a4).1.sublist (List.sublist_flatten_of_mem (List.mem_of_getElem? g2));have oth:∀j l,j≠jm->W[j]? = some l->∀c∈l,c∈t:=fun j l hj e c f=>inc c (by rw[u];exact aR _ (bK e f)) (hJ b1 e hW hj f);have T:∀c∈F.O₀,c∈t:=fun c f=>inc c (by rw[u];exact aT _ f) fun z=>(List.nodup_append.mp C.nd).2.2 c (bK hW z) c f rfl;have b8:∀c∈D,c∉t:=fun c f z=>(List.nodup_append.mp a4).2.2 c (bK g2 f) c z rfl;have b9:∀c∈t,H' c=B c:=fun c f=>by obtain⟨o,e,_⟩:=R.live c (w c f).1;rw[e];exact kp c o (w c f).2 e
   have X:∀c∈(W.set jm D).flatten++F.O₀,c∈O':=fun c h=>by
    rcases List.mem_append.mp h with h |h
    .rcases ek h with h |⟨j,l,hj,e,hl⟩
     .exact a3 c h
     .rw[L];exact aT _ (oth j l hj e c hl)
    .rw[L];exact aT _ (T c h)
   obtain⟨s2,s3⟩:=C.put (H':=H') (i:=jm) (v:=.ref a') (c:=.own io b') (fp:=D) c0 (fun j l c hj e f=>b9 c (oth j l hj e c f)) (fun c f=>b9 c (T c f)) (fun c o f e=>kp c o (fun z=>f (by rw[<-u];exact S c z)) e) b7
    (fun c f=>⟨fun j l hj e z=>b8 c f (oth j l hj e c z),fun z=>b8 c f (T c z)⟩) (fun c f=>(h'.new c (bK g2 f)).imp (fun z=>bK hW z) id) (fun c f=>h'.live c (by rw[<-L];exact a3 c f)) (fun _=>⟨a',rfl,g3.keep (fun _ _=>rfl) (lE X)⟩) (fun b2 z=>by
     have Z:io=true:=by cases z;rfl
     subst Z;have:=C.io jm b0 a5;rw[hY]at this;exact Option.some.inj (Option.some.inj this))
   have eY:Y.set jm (some (.ref a'))=Y:=by
    apply List.ext_getElem?;intro j
    by_cases hj:j=jm
    .subst hj;rw[List.getElem?_set_self (List.getElem?_eq_some_iff.mp hY).1,hY]
    .rw[List.getElem?_set_ne (Ne.symm hj)]
   rw[eY]at s2;have stN:ay K F H' Y (M.set jm (some (.own io b'))) ((W.set jm D).flatten++F.O₀):=⟨_,s2,rfl⟩
   rw[<-u]at s3;have c8:=a0.nofree p hp;exact q _ _ _ (stN.grow (ca hp)) (s1.trans (s3.trans (.same (ca hp)))) (mP hp (fun z=>c8 (X p z)) (aC.mono (lE X) dv))
theorem NS(m:GF X.mg F)(S:al X scope own capN caps)(j:caps[k]? = some jm)(n:X.calm=true)(l:DI X F tg iter s)
  (c:∀C d e f h b,GF X.mg b->DG (bU X scope (own++capN) C d e f h) b tg g/\mT (bU X scope (own++capN) C d e f h) b ifs tc/\DE (bU X scope (own++capN) C d e f h) b elt te)
  (o:autoParam (∀x,foldedSetIterable iter X.env x=pure x) Zs._auto_1):DE X F (.ListComp elt [⟨tg,iter,ifs,0⟩] scope pos) (rC own caps k jm s g tc te):=by
 obtain⟨p,t,w⟩:=c 0 [] (PySem.start X.prog).1 (fun _=>none) [] F m;refine⟨NQ l.mn,(qE S n l.pi (fun C d e f h=>⟨fun a s Y H v u Q I r ⟨b,i,q⟩=>(c C d e f h b i).1.pg a s Y H v u Q I r q,fun a s Y H Q I ⟨b,i,q⟩=>(c C d e f h b i).2.1.2 a s Y H Q I q,fun a s Y H Q I ⟨b,i,q⟩=>(c C d e f h b i).2.2.pe a s Y H Q I q⟩) o).imp (NR (fun _ _ _ _ _ _ _ st y=>(m.at st).frame y) j l.mn p.mn t.1 w.mn)⟩
noncomputable def iY(g:GM)(t:XM Bool)(m:XM PyData):List PyData->List PyData->ag->Option (List PyData×ag)
 |[],a,U=>some (a,U)
 |d::r,a,U=>(match g d U with
  |some c=>(match t c with
   |.ok true b=>(match m b with
    |.ok y e=>if a.length<sizeLine then iY g t m r (a++[y]) e else none
    |_=>none)
   |.ok false b=>iY g t m r a b
   |_=>none)
  |none=>none)
def rD(own:Nat)(a:List Nat)(k e:Nat)(g:GM)(t:XM Bool)(m:XM PyData)(c:List PyData):XM PyData:=fun d=>match d[e]? with
 |some (some (.own io b))=>(match iY g t m c [] ((List.replicate own none++a.map fun j=>qR d[j]?).set (own+k) (some (.own true b))) with
  |some (f,h)=>(match h[own+k]? with
   |some (some (.own true i))=>if f.length<=sizeLine then .ok (.list f) (d.set e (some (.own io i))) else .bad
   |_=>.bad)
  |none=>.bad)
 |_=>.bad
def nH(own:Nat)(a:List Nat)(k b:Nat)(s:XM (List PyData))(g:GM)(t:XM Bool)(m:XM PyData):XM PyData:=fun U=>(s U).bind (rD own a k b g t m)
theorem NT(q:wp E (nH own.length f k u s g t m) U Q):rC own f k u (wp E s) (eM g) (wp cX t) (wp cX m) U Q:=aD _ _ _ (fun n z o=>by
 unfold wp rD at o;split at o
 .rename_i l
  revert o l
  split
  .rename_i io b hb;split
   .rename_i p A v;split
    .rename_i D hb';split
     .rename_i G;intro l o;cases l;have H:kH own f k b z=(List.replicate own.length none++f.map fun j=>qR z[j]?).set (own.length+k) (some (.own true b)):=by unfold kH dE;rw[List.map_const']
      refine⟨io,b,hb,fun i r U=>iY g t m (n.drop i) r U=some (p,A),by rw[H];exact v,fun i d r U hd a=>?_,fun r U h=>?_⟩
      .have e:n.drop i=d::n.drop (i+1):=by obtain⟨w,I⟩:=List.getElem?_eq_some_iff.mp hd;rw[<-I];exact List.drop_eq_getElem_cons w
       simp only[e]at a;unfold iY at a;unfold eM;cases B:g d U with
       |none=>rw[B]at a;cases a
       |some J=>
        rw[B]at a;simp only at a ⊢;unfold wp;cases x:t J with
        |ex c C=>rw[x]at a;cases a
        |bad=>rw[x]at a;cases a
        |ok b C=>
         rw[x]at a;cases b with
         |false=>exact eI a
         |true=>
          refine eJ ?_;simp only at a ⊢;cases y:m C with
          |ex c L=>rw[y]at a;cases a
          |bad=>rw[y]at a;cases a
          |ok M L=>
           rw[y]at a;simp only at a ⊢;split at a
           .rename_i h;exact⟨h,a⟩
           .cases a
      .simp only[List.drop_length]at h;have e:r=p/\U=A:=by unfold iY at h;cases h;exact⟨rfl,rfl⟩
       obtain⟨rfl,rfl⟩:=e;exact⟨D,hb',G,o⟩
     .intro l _;cases l
    .intro l _;cases l
   .intro l _;cases l
  .intro l _;cases l
 .rename_i l
  revert l
  repeat (first |(split) |(intro l;cases l))
 .exact o.elim) (bY (k:=rD own.length f k u g t m) q)
theorem NU(u:GF X.mg F)(S:al X a own b c)(i:c[k]? = some jm)(v:X.calm=true)(w:own.length=n)(y:FI X F E h iter s)
  (j:∀C l o p r f,GF X.mg f->FG (bU X a (own++b) C l o p r) f h g/\lO (bU X a (own++b) C l o p r) f cX e t/\FE (bU X a (own++b) C l o p r) f cX d m)
  (z:autoParam (∀x,foldedSetIterable iter X.env x=pure x) Zs._auto_1):FE X F E (.ListComp d [⟨h,iter,e,0⟩] a pos) (nH n c k jm s g t m):=by
 subst w;exact DE.imp' (NS u S i v y j z) aD fun U Q q=>NT q
def DF(K:Frag)(x:Str)(st:Stmt):Prop:=∃(f:Addr) (b:Value) (c d:Option Addr) (g:Array (Option Value)) (kV e pm a h:Value),nsIn K mainGlobals x=some (some (.ref f))/\
 K.lookup f=some ⟨b,c,.func (fnOf x x (ju st) (gC st) (cZ st) .none kV e pm d a h),g⟩/\codeIn K a x=true/\keepIn K (.ref f)=true
def MF(K:Frag)(C:Addr)(m q:Str)(st:Stmt):Prop:=∃(f:Addr) (b:Value) (c d:Option Addr) (g:Array (Option Value)) (kV e pm a h:Value),findIn K (.ref C) m=some (some (.ref f))/\PySem.W.isFn K (.ref f)=true/\
 K.lookup f=some ⟨b,c,.func (fnOf m q (ju st) (gC st) (cZ st) .none kV e pm d a h),g⟩/\codeIn K a q=true/\keepIn K (.ref f)=true
theorem rE{P:List Value->Prop}(h:∀a,P [a]):∀c,c.length=1->P c:=fun c e=>by
 cases c with
 |nil=>exact absurd e (by decide)
 |cons a c=>
  cases c with
  |nil=>exact h a
  |cons b c=>exact absurd (Nat.succ.inj e) (Nat.succ_ne_zero _)
theorem vI{P:List Value->Prop}(h:∀a b,P [a,b]):∀c,c.length=2->P c:=fun c e=>by
 cases c with
 |nil=>exact absurd e (by decide)
 |cons a c=>exact rE (P:=fun l=>P (a::l)) (h a) c (Nat.succ.inj e)
theorem vJ{P:List Value->Prop}(h:∀a b c,P [a,b,c]):∀d,d.length=3->P d:=fun d e=>by
 cases d with
 |nil=>exact absurd e (by decide)
 |cons a d=>exact vI (P:=fun l=>P (a::l)) (h a) d (Nat.succ.inj e)
theorem AF{P:List Value->Prop}(h:∀a b c d,P [a,b,c,d]):∀f,f.length=4->P f:=fun f e=>by
 cases f with
 |nil=>exact absurd e (by decide)
 |cons a f=>exact vJ (P:=fun l=>P (a::l)) (h a) f (Nat.succ.inj e)
abbrev Bd(x q:Str)(st:Stmt)(ps:List Str):Prop:=∀(kV a pm:Value) (d:Option Addr) (b e:Value) (c:List Value),c.length=ps.length->bindArgs (fnOf x q (ju st) (gC st) (cZ st) .none kV a pm d b e) ⟨c,[]⟩=pure (ps.zip c)
theorem DF.fd{K:Frag}{st:Stmt}(D:DF K x st)(X:K.In h)(G:h.Ns mainGlobals mg)(e:Bd x x st ps:=by first |exact fun _ _ _ _ _ _=>rE fun _=>rfl |exact fun _ _ _ _ _ _=>vI fun _ _=>rfl |exact fun _ _ _ _ _ _=>vJ fun _ _ _=>rfl |exact fun _ _ _ _ _ _=>AF fun _ _ _ _=>rfl |exact fun _ _ _ _ _ _=>b fun _ _ _ _ _=>rfl |exact fun _ _ _ _ _ _=>d fun _ _ _ _ _ _=>rfl):∃g fd,FD K mg x st ps g fd:=by obtain⟨f,_,_,_,_,_,_,_,_,_,a,l,c,k⟩:=D;exact⟨f,_,oy l c k,mg_of X G a,(oy l c k).binds e⟩
theorem MF.md{K:Frag}{st:Stmt}(D:MF K C m q st)(e:Bd m q st ps:=by first |exact fun _ _ _ _ _ _=>rE fun _=>rfl |exact fun _ _ _ _ _ _=>vI fun _ _=>rfl |exact fun _ _ _ _ _ _=>vJ fun _ _ _=>rfl |exact fun _ _ _ _ _ _=>AF fun _ _ _ _=>rfl |exact fun _ _ _ _ _ _=>b fun _ _ _ _ _=>rfl |exact fun _ _ _ _ _ _=>d fun _ _ _ _ _ _=>rfl):∃g fd,MD K C m q st ps g fd:=by obtain⟨f,_,_,_,_,_,_,_,_,_,a,i,l,c,k⟩:=D;exact⟨f,_,oy l c k,⟨a,i,k⟩,(oy l c k).binds e⟩
def CK(P:Program)(w:World)(K:Frag)(a:Str->Option Value)(base:Heap)(k:Nat)(x:Str)(f:FM):Prop:=∃st b g fd,FD K a x st b g fd/\bJ P w K a base (cx P w) k g fd b (cW K a f)
def CM(P:Program)(w:World)(K:Frag)(b:Str->Option Value)(base:Heap)(C:Addr)(k:Nat)(x:Str)(f:FM):Prop:=∃q st a g fd,MD K C x q st a g fd/\bJ P w K b base (cx P w) k g fd a (cW K b f)
theorem cq{K:Frag}{st:Stmt}(N)(h:∃g fd,FD K mg x st ps g fd)(S:bA N ps (cZ st))
  (c:∀{g b A a s H E F d},ba k (A.deeper (envOfC x (cZ st) s.heap.objs.size g b))->dc (gB (cx P w) P w K mg base N x (cZ st) g b A a s H E) F d->
   ir (gB (cx P w) P w K mg base N x (cZ st) g b A a s H E) F d (gC st) m) (e:autoParam (ps.length<=N.length) Zr._auto_1):CK P w K mg base (k+1) x (bp ps.length N.length m):=by
 obtain⟨g,fd,D⟩:=h;have q:=uy (P:=P) (w:=w) (mg:=mg) (base:=base) D.fn S e (fun _ _ _ _ _ _ _ _ f i=>c f i);exact⟨_,_,g,fd,D,q⟩
theorem ff{K:Frag}{st:Stmt}(N)(h:∃g fd,MD K C x q st ps g fd)(S:bA N ps (cZ st))
  (c:∀{g b A a s H E F d},ba k (A.deeper (envOfC q (cZ st) s.heap.objs.size g b))->dc (gB (cx P w) P w K mg base N q (cZ st) g b A a s H E) F d->
   ir (gB (cx P w) P w K mg base N q (cZ st) g b A a s H E) F d (gC st) m) (e:autoParam (ps.length<=N.length) Zr._auto_1):CM P w K mg base C (k+1) x (bp ps.length N.length m):=by
 obtain⟨g,fd,D⟩:=h;have q:=uy (P:=P) (w:=w) (mg:=mg) (base:=base) D.fn S e (fun _ _ _ _ _ _ _ _ f i=>c f i);exact⟨_,_,_,g,fd,D,q⟩
theorem bc{pos:Pos}{p:Pos}(d:dc X F E)(c:CK X.prog X.w X.K X.mg X.base k x f)(h:ba j X.A)(l:FX X F E (e::es) mX)(n:autoParam (k<=j) Zr._auto_1)(o:autoParam (Gl X x) Zq._auto_1)(a:autoParam ((x==("__debug__":Str))=false) Zr._auto_1)
  (q:autoParam (starEach (e::es) X.env=(false,eval e X.env)::starEach es X.env) Zq._auto_1) (b:autoParam ((backTo pos (starEach es X.env)).any (·.1)=false) Zq._auto_1):FO X F E (.Call (.Name x p) (e::es) [] pos) (aO f mX):=by
 obtain⟨st,r,g,fd,D,G⟩:=c;exact nG d G D h l n o a q b
theorem ij{pos:Pos}{apos:Pos}{u}(l:dc X F E)(cl:cF X.K C)(c:CM X.prog X.w X.K X.mg X.base C k m f)(n:ba j X.A)(o:PE X (.Name x p1) (bw i))(r:FX X F E (e::es) mX)(s:autoParam (k<=j) Zr._auto_1)
  (a:autoParam (starEach (e::es) X.env=(false,eval e X.env)::starEach es X.env) Zq._auto_1) (d:autoParam ((backTo pos (starEach es X.env)).any (·.1)=false) Zq._auto_1)
  (t:autoParam (eval (.Call (.Attribute (.Name x p1) m apos) (e::es) [] pos) X.env=(do
   let h <-eval (.Name x p1) X.env
   standAt apos.atName
   let(f,first) <-holding [h] (getMethod h m u)
   callWith pos f first (backTo pos (starEach (e::es) X.env)) (backToKw pos (keywordEach [] X.env)))) Zq._auto_1) :
  FO X F E (.Call (.Attribute (.Name x p1) m apos) (e::es) [] pos) (bR C i m f mX):=by
 obtain⟨q,st,v,g,fd,D,G⟩:=c;exact Ak l cl D.mt G (n.mono s) D.b o r a d t
theorem vK{pos:Pos}{apos:Pos}{r}(d:dc X F E)(cl:cF X.K C)(c:CM X.prog X.w X.K X.mg X.base C k m f)(h:ba j X.A)(l:PE X (.Name x p1) (bw i))(n:autoParam (k<=j) Zr._auto_1)
  (o:autoParam (eval (.Call (.Attribute (.Name x p1) m apos) [] [] pos) X.env=(do
   let a <-eval (.Name x p1) X.env
   standAt apos.atName
   let(f,first) <-holding [a] (getMethod a m r)
   callWith pos f first (backTo pos (starEach [] X.env)) (backToKw pos (keywordEach [] X.env)))) Zq._auto_1) :
  FO X F E (.Call (.Attribute (.Name x p1) m apos) [] [] pos) (ei C i m f):=by
 obtain⟨q,st,s,g,fd,D,G⟩:=c;exact Al d cl D.mt G (h.mono n) D.b l o
theorem AG{l:List Str}(h:decide l.Nodup=true):l.Nodup:=of_decide_eq_true h
theorem dG{X}{F}{x}{pos}(i)(a:decide X.N.Nodup=true:=by kernel_rfl)(b:autoParam (X.N[i]? = some x) Zq._auto_1)(c:gy X.env.scope x:=by first |exact Or.inl rfl |exact Or.inr rfl)(d:X.fn x=true\/X.env.scope.names.lookup x=some .local:=by first |exact .inl rfl |exact .inr rfl |assumption):FG X F (.Name x pos) (aE i):=NN i (AG a) b c d
theorem aW.get:∀{bs a c},aW G H C bs a c->∀{k:Nat}{fs},a[k]? = some fs->∃b d,bs[k]? = some b/\c[k]? = some d/\ug G H C b fs d
 |_,_,_,.nil,_,_,e=>by simp at e
 |_,_,_,.cons o _,0,_,e=>by simp at e;subst e;exact⟨_,_,rfl,rfl,o⟩
 |_,_,_,.cons _ t,k+1,_,e=>aW.get t (k:=k) (by simpa using e)
theorem aW.set(g:bQ G n)(u:ug n p C b d i):∀{bs m a},aW G H C bs m a->∀{k},bs[k]? = some b->(∀j l,j≠k->a[j]? = some l->∀c∈l,p c=H c)->aW n p C bs (m.set k d) (a.set k i)
 |_,_,_,.nil,_,e,_=>by simp at e
 |_,_,_,.cons o t,0,e,h=>by
  simp at e;subst e;exact .cons u (t.keep (fun c q=>by
   obtain⟨l,x,r⟩:=List.mem_flatten.mp q;obtain⟨j,v⟩:=List.getElem?_of_mem x;exact h (j+1) l (by lia) (by simpa using v) c r) g)
 |_,_,_,.cons o t,k+1,e,h=>by obtain⟨w,y,a,rfl,z,A,f⟩:=o;have s:=h 0 _ (by lia) rfl;exact .cons ⟨w,y,a,rfl,(s _ (by simp)).trans z,(s w (by simp)).trans A,f.keep (fun c q=>s c (by simp[q])) g⟩ (aW.set g u t (k:=k) (by simpa using e) fun j l v B=>h (j+1) l (by lia) (by simpa using B))
def nI(f:FM)(i n:Nat)(io:Bool)(C:Addr)(a:List (List (Str×Fl)))(h:List PyData):XM ae:=fun U=>match a[n]? with
 |some fs=>(match f (.own true (.o C fs)::h.map .dat) with
  |.rt c [.o d b]=>if d = C then .ok c (U.set i (some (.own io (.oo C (a.set n b))))) else .bad
  |_=>.bad)
 |none=>.bad
theorem AH{Y:St}{bs:List Addr}(hx:dc X F E)(G:bJ X.prog X.w X.K X.mg X.base (cx X.prog X.w) k g fd ps (cW X.K X.mg f))(hr:ba k X.A)(hb:fM X.K fd ps [])
  (I:Inv X a0 Y H s) (r:bi vs us) (st:ay X.K F H Y U O) (hi:U[i]? = some (some (.own io (.oo C a5)))) (ha:Y[i]? = some (some (.ref a))) (b6:H a=some (.lst (bs.map V.ref))) (b7:bs[n]? = some b) (dv:aC (ao O H) vs ds) (q:wp E (nI f i n io C a5 ds) U Q0) (hQ:∀c U',Q0 c U'->∀v S O' fp,gi X.K F S Y U' O' v c fp->aH O H O' S->Q v S) :
  wpAny (model X.prog X.w) X.A (call (.ref g) (.ref b::us)) (EP X a0 Y Q) X.xe s:=by
 unfold wp nI at q;cases b1:a5[n]? with
 |none=>rw[b1]at q;exact q.elim
 |some fs=>
  rw[b1]at q;simp only at q;obtain⟨a',D,O2,hY,b8,bx,s1,e4,nw,d0⟩:=st.take hi;rw[ha]at hY;cases hY;obtain⟨b9,J,Z,hH,a9⟩:=bx;have d1:b9 = bs:=by
   rw[b6]at hH;have:=HO.lst.inj (Option.some.inj hH);have inj:∀l m:List Addr,l.map V.ref=m.map V.ref->l=m:=fun l=>by
    induction l with
    |nil=>intro m h;cases m with |nil=>rfl |cons _ _=>cases h
    |cons x l ih=>intro m h;cases m with |nil=>cases h |cons y m=>simp only[List.map_cons,List.cons.injEq]at h;obtain⟨h1,h2⟩:=h;cases h1;rw[ih m h2]
   exact(inj _ _ this).symm
  subst d1;obtain⟨b',B,c0,L,ob⟩:=a9.get b1;rw[b7]at c0;cases c0;obtain⟨W,b2,b3⟩:=id b8;have c1:(W.flatten++(D++F.O₀)).Nodup:=b2.nd;have c2:O2.Nodup:=by rw[b3];exact c1
  have a1:∀c∈D,c∈O2:=fun c t=>by rw[b3];exact aT _ (aR _ t)
  have a6:D.Nodup:=(List.nodup_append.mp (List.nodup_append.mp c1).2.1).1;have kI:∀j l c,J[j]? = some l->c∈l->c∈D:=fun j l c M t=>by rw[Z];exact bC _ (bK M t)
  have a2:J.flatten.Nodup:=by rw[Z]at a6;exact(List.nodup_cons.mp a6).2
  have aF:a∉J.flatten:=by rw[Z]at a6;exact(List.nodup_cons.mp a6).1
  have d2:B.Nodup:=a2.sublist (List.sublist_flatten_of_mem (List.mem_of_getElem? L));have ak:a∉B:=fun z=>aF (bK L z);have b4:∀c∈O2,∃o,H c=some o/\Mv o:=fun c t=>b2.live c (by rw[b3]at t;exact t);obtain⟨N,hN⟩:∃N,N=O2.filter fun c=>decide (c∉B):=⟨_,rfl⟩
  have mN:∀c,c∈N↔c∈O2/\c∉B:=fun c=>by rw[hN,List.mem_filter,decide_eq_true_iff]
  have fl:(B::ds.map fun _=>([]:List Addr)).flatten=B:=by rw[List.flatten_cons,rn,List.append_nil]
  have sub:∀c∈B++N,c∈O2:=fun c t=>(List.mem_append.mp t).elim (fun z=>a1 c (kI n B c L z)) fun z=>((mN c).mp z).1;let EX:XK:=fun C _ S=>∃c U' O',X.mg c=some C/\ay X.K F S Y U' O'/\E c U';have sp:cW X.K X.mg f (.ref b::vs) H Q EX:=by
   refine⟨hx.1.at st,.own true (.o C fs)::ds.map .dat,B::ds.map fun _=>[],N,?_,?_,?_,?_⟩
   .rw[fl];exact .own (show ee _ _ b (.o C fs) B from ee.keep (b:=.o C fs) ob (fun _ _=>rfl) (lE sub)) (vr (aC.mono (lE sub) (aC.mono s1.hid dv)))
   .rw[fl];refine List.nodup_append.mpr ⟨d2,by rw[hN];exact c2.sublist List.filter_sublist,fun c t d hd z=>?_⟩;subst z;exact((mN c).mp hd).2 t
   .rw[fl];exact fun c t=>b4 c (sub c t)
   .cases hf:f (.own true (.o C fs)::ds.map .dat) with
    |bad=>rw[hf]at q;exact q
    |ex c b0=>rw[hf]at q;exact q.elim
    |rt c b0=>
     rw[hf]at q;simp only at q ⊢;intro v S fp e0 c3 d3 bh;rw[fl]at bh
     match b0,q with
     |[.o C' c4],q=>
      simp only at q
      by_cases hC:C' = C
      .subst hC;rw[if_pos rfl]at q;cases d3 with
       |skip d4 _=>exact absurd rfl (d4 _ _)
       | @own _ _ _ _ R _ _ _ e3 c5 b5=>
        obtain⟨_,rfl⟩:=vt (a:=0) (b:=.l []) b5;simp only[List.flatten_cons,List.flatten_nil,List.append_nil]at c5 bh c3;have d5:=bh.nd;obtain⟨m1,m2,m3⟩:=List.nodup_append.mp d5;obtain⟨m4,m5,m6⟩:=List.nodup_append.mp m1;obtain⟨LI,a7⟩:∃LI,LI=a::(J.set n R).flatten:=⟨_,rfl⟩
        have aN:a∈N:=(mN a).mpr ⟨a1 a (by rw[Z];exact List.mem_cons_self),ak⟩;have oN:∀j l c,j≠n->J[j]? = some l->c∈l->c∈N:=fun j l c M T t=>(mN c).mpr ⟨a1 c (kI j l c T t),fun z=>hJ a2 T L M t z⟩;have mI:∀c∈LI,c∈R\/c∈N:=fun c t=>by
         rw[a7]at t;rcases List.mem_cons.mp t with rfl |t
         .exact .inr aN
         .rcases ek t with t |⟨j,l,M,T,hl⟩
          .exact .inl t
          .exact .inr (oN j l c M T hl)
        have c6:∀c∈LI,c∈R\/(c∈D/\c∉B):=fun c t=>by
         rw[a7]at t;rcases List.mem_cons.mp t with rfl |t
         .exact .inr ⟨by rw[Z];exact List.mem_cons_self,ak⟩
         .rcases ek t with t |⟨j,l,M,T,hl⟩
          .exact .inl t
          .exact .inr ⟨kI j l c T hl,fun z=>hJ a2 T L M hl z⟩
        have c7:LI.Nodup:=by
         rw[a7];refine List.nodup_cons.mpr ⟨fun z=>?_,?_⟩
         .rcases ek z with z |⟨j,l,M,T,hl⟩
          .exact m3 a (aR _ z) a aN rfl
          .exact aF (bK T hl)
         .have:=mM (W:=J) (i:=n) (fp:=R) (O:=[]) (by rw[List.append_nil];exact a2) m4 (fun c t=>⟨fun j l M T z=>m3 c (aR _ t) c (oN j l c M T z) rfl,by simp⟩);rw[List.append_nil]at this;exact this
        have a3:∀c,c∈D->c∉B->S c=H c:=fun c h1 h2=>by obtain⟨o,eo,_⟩:=b4 c (a1 c h1);rw[eo];exact bh.keep c o h2 eo
        have c8:∀c,(c∈D\/H c=none)->c∈F.A₀\/F.H₀ c=none:=fun c h=>by
         rcases h with z |z
         .exact nw c z
         .by_cases hA:c∈F.A₀
          .exact .inl hA
          .refine .inr ?_;cases e:F.H₀ c with
           |none=>rfl
           |some o=>have:=b2.kept c o hA e;rw[z]at this;cases this
        have a8:∀c∈B,c∈D:=fun c t=>kI n B c L t;have a4:∀c∈LI++fp,c∈D\/H c=none:=fun c t=>by
         rcases List.mem_append.mp t with t |t
         .rcases c6 c t with z |z
          .exact(bh.new c (aR _ z)).imp (a8 c) id
          .exact .inl z.1
         .exact(bh.new c (aT _ t)).imp (a8 c) id
        obtain⟨O3,t1,t2,t3,t4,t5⟩:=b8.swap (H':=S) (L':=LI++fp) (fun c o t ec=>bh.keep c o (fun z=>t (a8 c z)) ec) (by
         refine List.nodup_append.mpr ⟨c7,m5,fun c t d hd z=>?_⟩;subst z;rcases mI c t with t |t
         .exact m6 c t c hd rfl
         .exact m3 c (aT _ hd) c t rfl) a4 nw (fun c t=>by
         rcases List.mem_append.mp t with t |t
         .rcases c6 c t with z |⟨z1,z2⟩
          .exact bh.live c (aR _ z)
          .obtain⟨o,eo,mv⟩:=b4 c (a1 c z1);exact⟨o,bh.keep c o z2 eo,mv⟩
         .exact bh.live c (aT _ t))
        have c9:∀c∈O3,c∈R++fp++N:=fun c t=>by
         rcases t4 c t with z |⟨z1,z2⟩
         .rcases List.mem_append.mp z with z |z
          .rcases mI c z with z |z
           .exact aR _ (aR _ z)
           .exact aT _ z
          .exact aR _ (aT _ z)
         .exact aT _ ((mN c).mpr ⟨z1,fun z=>z2 (a8 c z)⟩)
        have d6:ay X.K ((F.plus fp).plus LI) S Y (U.set i none) O3:=by rw[Fx.plus_plus];exact t1
        have d7:i<U.length:=(List.getElem?_eq_some_iff.mp hi).1;obtain⟨O4,u1,u2⟩:=ay.put1 (io:=true) (c:=.own io (.oo C' (a5.set n c4))) (v:=.ref a) d6 ⟨a,rfl,b9,J.set n R,a7,(a3 a (by rw[Z];exact List.mem_cons_self) ak).trans b6,aW.set t2.hid (ee.keep (b:=.o C' c4) c5 (fun _ _=>rfl) (lE c9)) a9 b7 fun j l M T c t=>a3 c (kI j l c T t) fun z=>hJ a2 T L M t z⟩ (fun c t=>c8 c (a4 c (aR _ t))) (i:=i) (by rw[List.length_set];exact d7) (fun b' eb=>by
         injection eb with e1 e2
         rw[d0 e1];rfl)
        have eY:Y.set i (some (.ref a))=Y:=by
         apply List.ext_getElem?;intro j
         by_cases M:j=i
         .subst M;rw[List.getElem?_set_self (List.getElem?_eq_some_iff.mp ha).1,ha]
         .rw[List.getElem?_set_ne (Ne.symm M)]
        rw[eY,List.set_set]at u1;have d8:aH (R++fp++N) S O3 S:=eX c9;exact hQ c _ q v S O4 fp ⟨u1,c3.keep (d8.trans u2) (fun _ _=>rfl) (fun _ _ _ e=>e),fun c t=>c8 c (a4 c (aT _ t))⟩ (s1.trans (t2.trans u2))
      .rw[if_neg hC]at q;exact q.elim
  have r2:bi (V.ref b::vs) (Value.ref b::us):=.cons rfl r;have hl:((Value.ref b::us)++[]).length=ps.length:=by rw[List.append_nil,<-r2.length];exact G.len _ _ _ _ sp
  refine wpAny_call (codeAny_mono (G.run X.A X.stack s H ⟨Value.ref b::us,[]⟩ (Value.ref b::us) (V.ref b::vs) Q EX hr I.env0 (by have:=hb s (Value.ref b::us) I.kIn hl;rw[List.append_nil]at this;exact this) r2 sp) fun r s' hq=>?_);cases r with
  |error e=>obtain⟨a,C,S,e1,I',cv,ex,c,U',O',hm,d9,hE⟩:=I.flies hq;exact hx.2 a0 Y S s' e c U' O' ⟨I',a,C,s.heap,_,e1,cv,ex,hm⟩ d9 hE
  |ok fl=>
   cases fl with
   |ret u=>exact I.after hq
   |next=>exact False.elim hq
   |brk=>exact False.elim hq
   |cont=>exact False.elim hq
theorem ay.under{K:Frag}(g:GF mg F)(st:ay K F H Y U O):∃A,ay K ⟨H,A,F.O₀,F.I₀⟩ H Y U O/\GF mg ⟨H,A,F.O₀,F.I₀⟩/\(∀b∈F.O₀,b∉A)/\
  (∀L i j k,ay K (Fx.plus ⟨H,A,F.O₀,F.I₀⟩ L) i Y j k->ay K (F.plus L) i Y j k/\∀b o,b∉A->H b=some o->i b=some o)/\∀b,(b∈A\/H b=none)->b∈F.A₀\/F.H₀ b=none:=by
 have gh:=g.at st;obtain⟨W,c,rfl⟩:=st;have n:∀b,(b∈W.flatten\/H b=none)->b∈F.A₀\/F.H₀ b=none:=fun b h=>by
  rcases h with h |h
  .exact c.new b h
  .by_cases f:b∈F.A₀
   .exact .inl f
   .refine .inr ?_;cases e:F.H₀ b with
    |none=>rfl
    |some o=>rw[c.kept b o f e]at h;cases h
 refine⟨W.flatten,⟨W,⟨c.at_,c.nd,fun b o _ e=>e,fun a h=>.inl h,c.live,c.len,c.lw,c.io⟩,rfl⟩,gh.frame fun a h=>c.live a (aR _ h),fun b m z=>(List.nodup_append.mp c.nd).2.2 b z b m rfl,fun L i j k l=>?_,n⟩;obtain⟨r,d,rfl⟩:=l;refine⟨⟨r,⟨d.at_,d.nd,fun b o f e=>?_,fun a h=>n a (d.new a h),d.live,d.len,d.lw,d.io⟩,rfl⟩,fun b o m e=>d.kept b o m e⟩;refine d.kept b o (fun z=>?_) (c.kept b o f e);rcases c.new b z with q |q
 .exact f q
 .have p:F.H₀ b=some o:=e;rw[q]at p;cases p
def gq(C:Addr)(U:ag)(i j:Nat):Option (Bool×List (List (Str×Fl))×Nat×List (Str×Fl)):=match U[i]?,U[j]? with
 |some (some (.own io (.oo b a))),some (some (.dat (.int z)))=>if b = C then(cn a.length z).bind fun n=>(a[n]?).map fun fs=>(io,a,n,fs) else none
 |_,_=>none
theorem pp(h:gq C U i j=some (io,a,n,fs)):U[i]? = some (some (.own io (.oo C a)))/\∃z,U[j]? = some (some (.dat (.int z)))/\cn a.length z=some n/\a[n]? = some fs:=by
 unfold gq at h;split at h
 .rename_i c u b z' h1 h2;split at h
  .rename_i d;subst d;obtain⟨v,o,q⟩:=Option.bind_eq_some_iff.mp h;obtain⟨r,s,t⟩:=Option.map_eq_some_iff.mp q;cases t;exact⟨h1,z',h2,o,s⟩
  .cases h
 .cases h
theorem NW(h:aW G H C bs a b):bs.length=a.length:=by
 induction h with
 |nil=>rfl
 |cons _ _ c=>exact congrArg Nat.succ c
theorem AI{K}(st:ay K F H Y U O)(h:gq C U i j=some (io,r,n,fs)):∃(a:Addr) (bs:List Addr) (b:Addr) (z:Int) (s:Addr) (q:List (Str×V)) (d:List (List Addr)),Y[i]? = some (some (.ref a))/\H a=some (.lst (bs.map V.ref))/\bs[n]? = some b/\Y[j]? = some (some (.int z))/\bD (bs.map V.ref) z=some (.ref b)/\H b=some (.ins C s q)/\bo (ao O H) H q fs d:=by obtain⟨J,z,h2,h3,t⟩:=pp h;obtain⟨a,L,u,⟨bs,d,_,w,c⟩,_,_⟩:=st.box J;obtain⟨v,A,B⟩:=st.dat h2;obtain rfl:=B.int_inv;obtain⟨b,D,hb,_,s,q,o,_,G,_,I⟩:=c.get t;refine⟨a,bs,b,z,s,q,o,u,w,hb,A,?_,G,I⟩;unfold bD;rw[List.length_map,NW c,h3,Option.bind_some,List.getElem?_map,hb];rfl
def gO(C:Addr)(i j:Nat)(m:Str)(f:FM):XM ae:=fun U=>match gq C U i j with
 |some (io,a,n,fs)=>if fs.lookup m=none then nI f i n io C a [] U else .bad
 |none=>.bad
theorem NX{pos:Pos}{p3:Pos}{apos:Pos}{pl}(R:dc X F E)(cl:cF X.K C)(J:gA X.K C m g)(G:bJ X.prog X.w X.K X.mg X.base (cx X.prog X.w) k g fd ps (cW X.K X.mg f))(S:ba k X.A)(hb:fM X.K fd ps [])(T:PE X (.Name x p1) (bw i))(Z:PE X (.Name y p2) (bw j))(hs:im (.Name y p2):=by intro _ _;rfl)
  (ht:autoParam (eval (.Call (.Attribute (.Subscript (.Name x p1) (.Name y p2) p3) m apos) [] [] pos) X.env=(do
   let L <-eval (.Subscript (.Name x p1) (.Name y p2) p3) X.env
   standAt apos.atName
   let(f,first) <-holding [L] (getMethod L m pl)
   callWith pos f first (backTo pos (starEach [] X.env)) (backToKw pos (keywordEach [] X.env)))) Zq._auto_1) :
  FO X F E (.Call (.Attribute (.Subscript (.Name x p1) (.Name y p2) p3) m apos) [] [] pos) (gO C i j m f):=by
 refine⟨aD,fun d s Y H Q I o=>?_⟩;obtain⟨U,O,st,q⟩:=o;unfold wp gO at q;cases ho:gq C U i j with
 |none=>rw[ho]at q;exact q.elim
 |some p=>
  obtain⟨io,a0,n,fs⟩:=p;rw[ho]at q;simp only at q
  by_cases B:fs.lookup m=none
  .rw[if_pos B]at q;obtain⟨a,bs,b,z,dx,gs,a1,M,r,D,hj,nY,e1,e2⟩:=AI st ho;have hg:gs.lookup m=none:=by
    rcases jN e2 m with⟨l1,_⟩ |⟨_,_,_,_,l2,_⟩
    .exact l1
    .rw[B]at l2;cases l2
   refine PySem.W.methodCall_KW (pl:=pl) (aQ (ly lz T Z hs d s Y H (fun v N=>v=.ref b/\N=H) I ⟨_,M,_,hj,a,_,z,_,rfl,rfl,.of r,nY,rfl,rfl⟩) fun u s1 t=>?_) ht;obtain⟨v,N,I1,rx,ex,eH⟩:=t;subst ex eH;obtain rfl:u=Value.ref b:=rx;refine tM I1 e1 cl J hg ?_;refine PySem.W.callWith_K0 (first:=[.ref b]) I1.kIn J.kp ?_;exact AH (ds:=[]) R G S hb I1 .nil st (pp ho).1 M r D .nil q fun c U' h v H' O' fp res s2=>h v H' O' fp res s2
  .rw[if_neg B]at q;exact q.elim
noncomputable def pq(U:ag)(j:Nat):Option PyData:=match U[j]? with
 |some (some (.dat d))=>some d
 |_=>none
theorem NY(h:pq U j=some d):U[j]? = some (some (.dat d)):=by
 unfold pq at h;split at h
 .rename_i e;cases h;exact e
 .cases h
def me(C:Addr)(i j l:Nat)(f:FM):XM ae:=fun U=>match gq C U i j with
 |some (io,a,n,_)=>(match pq U l with
  |some d=>nI f i n io C a [d] U
  |none=>.bad)
 |none=>.bad
theorem Oa{pos:Pos}{p3:Pos}{C:Addr}{p5}(hx:dc X F E)(G:bJ X.prog X.w X.K X.mg X.base (cx X.prog X.w) k g fd ps (cW X.K X.mg f))(hr:ba k X.A)(hg:Gl X u)(hm:X.mg u=some (.ref g))(hk:keepIn X.K (.ref g)=true)(hb:fM X.K fd ps [])
  (hv:PE X (.Name x p1) (bw i)) (hw:PE X (.Name y p2) (bw j)) (hz:PE X (.Name z p4) (bw l)) (hs:im (.Name y p2):=by intro _ _;rfl) (D:autoParam ((u==("__debug__":Str))=false) Zr._auto_1)
  (T:autoParam (starEach [.Subscript (.Name x p1) (.Name y p2) p3,.Name z p4] X.env=(false,eval (.Subscript (.Name x p1) (.Name y p2) p3) X.env)::starEach [.Name z p4] X.env) Zq._auto_1) (J:autoParam (starEach [.Name z p4] X.env=(false,eval (.Name z p4) X.env)::starEach [] X.env) Zq._auto_1) (L:autoParam ((backTo pos (starEach [.Name z p4] X.env)).any (·.1)=false) Zq._auto_1) :
  FO X F E (.Call (.Name u p5) [.Subscript (.Name x p1) (.Name y p2) p3,.Name z p4] [] pos) (me C i j l f):=by
 refine⟨aD,fun o s Y H Q I t=>?_⟩;obtain⟨U,O,st,q⟩:=t;unfold wp me at q;cases ho:gq C U i j with
 |none=>rw[ho]at q;exact q.elim
 |some p=>
  obtain⟨io,a0,n,fs⟩:=p;rw[ho]at q;simp only at q;cases M:pq U l with
  |none=>rw[M]at q;exact q.elim
  |some d=>
  rw[M]at q;obtain⟨a,bs,b,z,dx,gs,a1,Z,B,N,hj,nY,e1,e2⟩:=AI st ho;obtain⟨w,R,dv⟩:=st.dat (NY M);refine wpAny_Call_Name_kw (lx I hg hm ?_ D);refine callWith_K (h₀:=X.base) I.ok.mod.kin hk (aQ (cJ (ly lz hv hw hs) (cJ hz dj J) T pos o s Y H (fun vs H1=>vs=[.ref b,w]/\H1=H) I ⟨_,Z,_,hj,a,_,z,_,rfl,rfl,.of B,nY,_,R,rfl,rfl⟩) fun us s1 zz=>⟨by obtain⟨_,_,I1,_⟩:=zz;exact I1.kIn,?_⟩) T L;obtain⟨vs,H1,I1,r,S,eH⟩:=zz;subst S eH;cases r with
  |cons rb rr=>cases rb;exact AH (ds:=[d]) hx G hr hb I1 rr st (pp ho).1 Z B N (.cons dv .nil) q fun c U' h v H' O' fp res s2=>h v H' O' fp res s2
noncomputable def pz:ae->Option (List PyData)
 |.own false (.l ds)=>some ds
 |_=>none
theorem Ob(h:pz c=some a):c=.own false (.l a):=by
 unfold pz at h;split at h
 .cases h;rfl
 .cases h
def rF(c:ae):SM:=fun U=>match pz c with
 |some ds=>if ds.length<sizeLine then .nx U else .bad
 |none=>.bad
def pA(m:XM ae):SM:=fun U=>eN (m U) rF
theorem AJ{pos:Pos}(h:FO X F E e0 mo)(G:autoParam (swapsWith (.Call (.Attribute e0 "append" apos) [.Constant .none u p1] [] cpos) none pos.line X.env=pure false) Zq._auto_1)
  (s:autoParam (attributeBase e0 "append" X.env (eval e0 X.env)=eval e0 X.env) Zq._auto_1)
  (w:autoParam (((backTo cpos (starEach [.Constant .none u p1] X.env)).all (fun x=>!x.1)&&(backToKw cpos (keywordEach [] X.env)).all (fun x=>x.1.isSome)&&decide (([.Constant .none u p1]:List Expr).length+([]:List Keyword).length+(if ([]:List Keyword).isEmpty then 0 else 1)<30))=true) Zq._auto_1)
  (t:autoParam ((apos.endLine==cpos.line)=true) Zq._auto_1) (S:autoParam (starEach [.Constant .none u p1] X.env=(false,eval (.Constant .none u p1) X.env)::starEach [] X.env) Zq._auto_1) (d:autoParam ((backTo cpos (starEach [] X.env)).any (·.1)=false) Zq._auto_1) :
  FS X F E (.Expr (.Call (.Attribute e0 "append" apos) [.Constant .none u p1] [] cpos) pos) (pA mo):=
 (mF (mJ PySem.F.plainAttrs_list PySem.F.slot_list_append PySem.F.type_list_append qz h.pe (cJ tq dj S) s w t S d) G).imp fun D Y H A=>by
  obtain⟨U,O,DD,st,q,f⟩:=A;refine⟨U,O,st,h.mn _ _ _ (fun c U1 r v Z O1 fp res s1=>?_) (fR (m:=mo) (k:=rF) q)⟩;unfold ck rF at r;cases I:pz c with
  |none=>rw[I]at r;exact r.elim
  |some ds=>
   rw[I]at r;simp only at r;obtain rfl:=Ob I
   by_cases J:ds.length<sizeLine
   .rw[if_pos J]at r;obtain⟨a,rfl,M,N,T,Q⟩:=res.at_;subst M;obtain⟨O2,R,s2,_⟩:=ay.swap (L:=[a]) (L':=[]) (H':=aB Z a (.lst (N++[.non]))) res.st (fun b o B e=>by rw[aV fun z=>B (by simp[z])];exact e) List.nodup_nil (fun b B=>by cases B) res.new (fun b B=>by cases B);exact⟨.inl ⟨rfl,N,.of T⟩,a,N,.non,rfl,rfl,T,by rw[Q.length];exact J,f.nx _ _ _ _ R (s1.trans s2) r⟩
   .rw[if_neg J]at r;exact r.elim
noncomputable def iy(U:ag)(j:Nat):Option Int:=match U[j]? with
 |some (some (.dat (.int z)))=>some z
 |_=>none
theorem vL(h:iy U j=some z):U[j]? = some (some (.dat (.int z))):=by
 unfold iy at h;split at h
 .rename_i e;cases h;exact e
 .cases h
noncomputable def kJ(U:ag)(i:Nat):Option (Bool×List PyData):=match U[i]? with
 |some (some (.own io (.l ds)))=>some (io,ds)
 |_=>none
theorem AK(h:kJ U i=some (io,a)):U[i]? = some (some (.own io (.l a))):=by
 unfold kJ at h;split at h
 .rename_i e;cases h;exact e
 .cases h
def mf(i j:Nat):XM PyData:=fun U=>match kJ U i,iy U j with
 |some (_,ds),some z=>lift (bD ds z) U
 |_,_=>.bad
theorem Oc(t:PE X (.Name x p1) (bw i))(h:PE X (.Name y p2) (bw j))(u:im (.Name y p2):=by intro _ _;rfl):FE X F E (.Subscript (.Name x p1) (.Name y p2) pos) (mf i j):=
 ⟨aD,(ly lz t h u).imp fun Y H Q b=>by
  obtain⟨U,O,st,q⟩:=b;unfold wp mf at q;cases c:kJ U i with
  |none=>rw[c]at q;exact q.elim
  |some A=>
   obtain⟨io,ds⟩:=A;cases h1:iy U j with
   |none=>rw[c,h1]at q;exact q.elim
   |some z=>
    rw[c,h1]at q;obtain⟨d,B,D⟩:=dB (o:=bD ds z) (U:=U) (E:=E) q;obtain⟨a,M,r,⟨_,G,I,s⟩,_,_⟩:=st.box (AK c);obtain⟨w,ew,h⟩:=uk s B;obtain⟨v,J,L⟩:=st.dat (vL h1);obtain rfl:=L.int_inv;exact⟨_,r,_,J,a,G,z,w,rfl,rfl,.of I,ew,D w H O st .refl h⟩⟩
def rG(i j:Nat)(v:PyData):SM:=fun U=>match kJ U i,iy U j with
 |some (io,ds),some z=>(match cn ds.length z with
  |some n=>.nx (U.set i (some (.own io (.l (ds.set n v)))))
  |none=>.bad)
 |_,_=>.bad
def pB(i j:Nat)(m:XM PyData):SM:=fun U=>eN (m U) (rG i j)
theorem Od{pos:Pos}(hv:PE X (.Name x p1) (bw i))(hw:PE X (.Name y p2) (bw j))(he:FE X F E e m)
  (hs:autoParam (swapsWithSole [.Subscript (.Name x p1) (.Name y p2) pos'] e pos.line X.env=pure false) Zq._auto_1) (A:autoParam (swappedStores [.Subscript (.Name x p1) (.Name y p2) pos'] e X.env=pure none) Zq._auto_1)
  (r:autoParam ((assignEach [.Subscript (.Name x p1) (.Name y p2) pos'] X.env).map (·.2)=[assign (.Subscript (.Name x p1) (.Name y p2) pos') X.env]) Zq._auto_1)
  (hq:autoParam (∀v,assign (.Subscript (.Name x p1) (.Name y p2) pos') X.env v=(do
   let s <-holding [v] (eval (.Name x p1) X.env);let B <-holding [v,s] (eval (.Name y p2) X.env)
   standAt pos'
   holding [v,s,B] (setItem s B v)
   release [v,s,B] [])) Zs._auto_1) :
  FS X F E (.Assign [.Subscript (.Name x p1) (.Name y p2) pos'] e pos) (pB i j m):=
 (xb he.pe (xa hv hw xG hq) hs A r).imp fun D Y H ⟨U,O,DD,st,q,fD⟩=>⟨U,O,st,aD _ _ _ (fun v Z b I J O1 d s1 d1=>by
  unfold ck rG at b;cases t:kJ Z i with
  |none=>rw[t]at b;exact b.elim
  |some p0=>
   obtain⟨io,ds⟩:=p0;cases r:iy Z j with
   |none=>rw[t,r]at b;exact b.elim
   |some z=>
    rw[t,r]at b;simp only at b;cases L:cn ds.length z with
    |none=>rw[L]at b;exact b.elim
    |some n=>
     rw[L]at b;obtain⟨a,fp,M,⟨N,w,hH,h⟩,a0,up⟩:=d.box (AK t);subst N;obtain⟨u,hj,dv⟩:=d.dat (vL r);obtain rfl:=dv.int_inv;obtain⟨O2,Q,s2,_⟩:=up (aB J a (.lst (w.set n I))) (.l (ds.set n v)) [a] (fun c o R e=>by rw[aV (fun z=>R (by simp[z]))];exact e) (by simp) (fun c R=>.inl R) (fun G O' S eG a1=>by
      subst eG;have T:bQ (ao O1 J) (ao O' (aB J a (.lst (w.set n I)))):=S.hid;exact⟨T,rfl,w.set n I,bP,vA (DV.mono T d1) n (aC.mono T h)⟩)
     exact⟨_,M,_,hj,a,w,z,n,rfl,rfl,hH,by rw[h.length];exact L,fD.nx _ _ _ _ Q (s1.trans s2) b⟩) (fR (m:=m) (k:=rG i j) q)⟩
def jQ(i:Nat):XM PyData:=fun U=>match jP U i with
 |some (false,a)=>.ok (.list (a.map .list)) (U.set i (some (.dat (.list (a.map .list)))))
 |_=>xV i U
theorem AL(o:PE X (.Name x p1) (bw i))(h:FE X F E (.Name x p1) (xV i)):FE X F E (.Name x p1) (jQ i):=
 ⟨aD,fun a s Y H Q I b=>by
  obtain⟨U,O,st,q⟩:=b;unfold wp jQ at q;cases c:jP U i with
  |none=>rw[c]at q;exact h.pe a s Y H Q I ⟨U,O,st,q⟩
  |some p=>
   obtain⟨io,w⟩:=p;cases io with
   |true=>rw[c]at q;exact h.pe a s Y H Q I ⟨U,O,st,q⟩
   |false=>
    rw[c]at q;obtain⟨v,r,h1,d,t,u⟩:=st.freezeLL (AC c);exact o a s Y H Q I ⟨v,h1,q v H r d t u⟩⟩
def rH(C:Addr)(i:Nat)(f:Str):XM ae:=fun U=>match cg C U i with
 |some (_,fs)=>(match fs.lookup f with
  |some (.l ds)=>.ok (.own false (.l ds)) U
  |_=>.bad)
 |none=>.bad
theorem Oe{F:Fx}{E:Str->ag->Prop}{pos:Pos}{G a}(I:Gl X "list")(J:X.mg "list" = none)(cl:cF X.K C)(L:cG X.K C f)(M:PE X (.Name x p1) (bw i))(hb:autoParam (attributeBase (.Name x p1) f X.env (eval (.Name x p1) X.env)=eval (.Name x p1) X.env) Zq._auto_1)
  (w:autoParam (starEach [.Attribute (.Name x p1) f a] X.env=(false,eval (.Attribute (.Name x p1) f a) X.env)::starEach [] X.env) Zq._auto_1) (h:autoParam ((backTo pos (starEach [] X.env)).any (·.1)=false) Zq._auto_1) :
  FO X F E (.Call (.Name "list" G) [.Attribute (.Name x p1) f a] [] pos) (rH C i f):=
 ⟨aD,(tO HZ I J (show bootBuiltins "list" = some (.type "list") by decide +kernel) (cJ (iJ M hb) dj w) (by decide) (by decide) w h).imp fun Y H Q c=>by
  obtain⟨U,O,st,q⟩:=c;unfold wp rH at q;cases ho:cg C U i with
  |none=>rw[ho]at q;exact q.elim
  |some p=>
   obtain⟨io,fs⟩:=p;rw[ho]at q;simp only at q;cases b:fs.lookup f with
   |none=>rw[b]at q;exact q.elim
   |some t=>
    rw[b]at q;cases t with
    |d _=>exact q.elim
    |m _ _=>exact q.elim
    |l ds=>
     obtain⟨N,R,S,A,r,T,l1,⟨b1,s,Z,_,hH,u⟩,_⟩:=st.fldUp ho b rfl;cases Z;refine⟨_,r,N,C,R,S,.ref A,rfl,T,cl,L,l1,A,s,rfl,.inl (.of hH),fun p B=>?_⟩;obtain⟨O2,v,D⟩:=st.fresh (o:=.lst s) B trivial;exact q _ _ O2 [p] ⟨v,⟨p,rfl,rfl,s,bP,aC.mono D.hid u⟩,st.new1 B⟩ D⟩
noncomputable def vM(d:PyData):XM ae:=fun U=>match d with
 |.list ds=>.ok (.own false (.l ds)) U
 |_=>.bad
def mi(n:Nat)(a:List Nat)(s:XM (List PyData))(g:GM)(t:XM Bool)(m:XM PyData):XM ae:=fun U=>(pk n a s g t m U).bind vM
theorem AM(hG:GF X.mg F)(S:al X a own c h)(hc:X.calm=true)(hn:own.length=n)(hi:vB X F Z iter (wp E s))
  (A:∀C B D G J w,GF X.mg w->FG (bU X a (own++c) C B D G J) w Z g/\lO (bU X a (own++c) C B D G J) w cX M t/\FE (bU X a (own++c) C B D G J) w cX L m)
  (hs:autoParam (∀x,foldedSetIterable iter X.env x=pure x) Zs._auto_1):FO X F E (.ListComp L [⟨Z,iter,M,0⟩] a pos) (mi n h s g t m):=by
 subst hn;obtain⟨hg,ht,he⟩:=A 0 [] (PySem.start X.prog).1 (fun _=>none) [] F hG;exact⟨aD,(qE S hc hi.pi (fun C B D G J=>⟨fun b s Y H v u Q I r ⟨w,N,q⟩=>(A C B D G J w N).1.pg b s Y H v u Q I r q,fun b s Y H Q I ⟨w,N,q⟩=>(A C B D G J w N).2.1.2 b s Y H Q I q,fun b s Y H Q I ⟨w,N,q⟩=>(A C B D G J w N).2.2.pe b s Y H Q I q⟩) hs).imp fun Y H Q R=>NB (fun _ _ _ _ _ st=>hG.into st) hi.mn hg.mn ht.1 he.mn Y H Q (by
  obtain⟨U,O,st,q⟩:=R;refine⟨U,O,st,NA hi.mn _ _ _ (fun d U1 q1 ds e p H' vs O1 T s1 hp dv=>?_) (NC (bY (m:=pk own.length h s g t m) (k:=vM) q))⟩;subst e;obtain⟨O2,a0,s2⟩:=T.fresh (o:=.lst vs) hp trivial;exact q1 _ _ O2 [p] ⟨a0,⟨p,rfl,rfl,vs,bP,aC.mono s2.hid dv⟩,T.new1 hp⟩ (s1.trans s2))⟩
theorem AN(g:bQ G i)(p:ka i j b f):∀{bs l n},Paired (ka G H) bs l->bs.Nodup->bs[n]? = some b->(∀c∈bs,c≠b->j c=H c)->Paired (ka i j) bs (l.set n f)
 |_,_,_,.nil,_,e,_=>by simp at e
 |_,_,0,.cons h t,nd,e,k=>by simp at e;subst e;exact .cons p (Lls.keep t (fun c m=>k c (bC _ m) fun z=>by subst z;exact(List.nodup_cons.mp nd).1 m) g)
 |_,_,n+1,.cons (a:=c) h t,nd,e,k=>by
  have o:=by simpa using e
  obtain⟨q,h1,h2⟩:=h;exact .cons ⟨q,(k c List.mem_cons_self fun z=>by subst z;exact(List.nodup_cons.mp nd).1 (List.mem_of_getElem? o)).trans h1,aC.mono g h2⟩ (AN g p t (List.nodup_cons.mp nd).2 o fun d hd=>k d (bC _ hd))
section
variable{X:Cx}{F:Fx}{E:Str->ag->Prop}{e e1 e2:Expr}{pos p1 p2 p3 apos cpos:Pos}{x y:Str}{C:Addr}{i j n:Nat}
def vN(U:ag)(i j:Nat):Option (Bool×List (List PyData)×Nat×List PyData):=match jP U i,iy U j with
 |some (io,a),some z=>(cn a.length z).bind fun n=>(a[n]?).map fun b=>(io,a,n,b)
 |_,_=>none
def kK(i j:Nat)(m:XM PyData):SM:=fun U=>match vN U i j with
 |some (io,a,n,ds)=>(match m (U.set i none) with
  |.ok v b=>if ds.length<sizeLine then .nx (b.set i (some (.own io (.ll (a.set n (ds++[v])))))) else .bad
  |_=>.bad)
 |none=>.bad
theorem AO(hG:GF X.mg F)(hv:PE X (.Name x p1) (bw i))(hw:PE X (.Name y p2) (bw j))(he:∀t,GF X.mg t->FE X t cX e m)(a7:im (.Name y p2):=by intro _ _;rfl)
  (a8:autoParam (swapsWith (.Call (.Attribute (.Subscript (.Name x p1) (.Name y p2) p3) "append" apos) [e] [] cpos) none pos.line X.env=pure false) Zq._auto_1)
  (w:autoParam (attributeBase (.Subscript (.Name x p1) (.Name y p2) p3) "append" X.env (eval (.Subscript (.Name x p1) (.Name y p2) p3) X.env)=eval (.Subscript (.Name x p1) (.Name y p2) p3) X.env) Zq._auto_1)
  (Z:autoParam (((backTo cpos (starEach [e] X.env)).all (fun x=>!x.1)&&(backToKw cpos (keywordEach [] X.env)).all (fun x=>x.1.isSome)&&decide (([e]:List Expr).length+([]:List Keyword).length+(if ([]:List Keyword).isEmpty then 0 else 1)<30))=true) Zq._auto_1)
  (B:autoParam ((apos.endLine==cpos.line)=true) Zq._auto_1) (hs:autoParam (starEach [e] X.env=(false,eval e X.env)::starEach [] X.env) Zq._auto_1) (l:autoParam ((backTo cpos (starEach [] X.env)).any (·.1)=false) Zq._auto_1) :
  FS X F E (.Expr (.Call (.Attribute (.Subscript (.Name x p1) (.Name y p2) p3) "append" apos) [e] [] cpos) pos) (kK i j m):=by
 have a9:PE X e (fun Y H Q=>∃t,GF X.mg t/\gb X.K t (wp cX m) Y H Q):=fun a0 s Y H Q I z=>by obtain⟨t,g',q⟩:=z;exact(he t g').pe a0 s Y H Q I q
 exact(mF (mJ PySem.F.plainAttrs_list PySem.F.slot_list_append PySem.F.type_list_append qz (ly lz hv hw a7) (cJ a9 dj hs) w Z B hs l) a8).imp fun D Y H a1=>by
  obtain⟨U,O,DD,st,q,f⟩:=a1;unfold ck kK vN at q;cases h0:jP U i with
  |none=>rw[h0]at q;exact q.elim
  |some p0=>
  obtain⟨io,xs⟩:=p0;cases h1:iy U j with
  |none=>rw[h0,h1]at q;exact q.elim
  |some z=>
  rw[h0,h1]at q;simp only at q;cases hn:cn xs.length z with
  |none=>rw[hn]at q;exact q.elim
  |some n=>
  rw[hn,Option.bind_some]at q;cases hx:xs[n]? with
  |none=>rw[hx]at q;exact q.elim
  |some ds=>
  rw[hx,Option.map_some]at q;simp only at q;cases hm:m (U.set i none) with
  |bad=>rw[hm]at q;exact q.elim
  |ex _ _=>rw[hm]at q;exact q.elim
  |ok v U1=>
  rw[hm]at q;simp only at q
  by_cases hz:ds.length<sizeLine
  .rw[if_pos hz]at q;obtain⟨a,d,O2,hY,G,⟨bs,h,hH,hd⟩,s1,b6,a2,b0⟩:=st.take (AC h0);obtain⟨b,hb,S,a3,a4⟩:=AD n hx hd;obtain⟨A,b1,g3,nA,inv,nw⟩:=ay.under (F:=F.plus d) (mg:=X.mg) (show GF X.mg (F.plus d) from hG) G;obtain⟨u,hj,dv⟩:=st.dat (vL h1);obtain rfl:=dv.int_inv;have nY:bD (bs.map V.ref) z=some (.ref b):=by unfold bD;rw[List.length_map,Paired.length hd,hn];simp[hb]
   have k:d.Nodup:=by obtain⟨W,J,_⟩:=G;exact(List.nodup_append.mp (List.nodup_append.mp J.nd).2.1).1
   have M:∀c∈bs,c∈d:=fun c g=>by rw[h];exact bC _ g
   have aI:a∈d:=by rw[h];exact List.mem_cons_self
   have a5:∀c∈d,c∉A:=fun c g=>nA c (aR _ g);have N:b∈bs:=List.mem_of_getElem? hb;have b2:bs.Nodup:=by rw[h]at k;exact(List.nodup_cons.mp k).2
   have b3:a≠b:=fun z=>by subst z;rw[h]at k;exact(List.nodup_cons.mp k).1 N
   refine⟨_,hY,_,hj,a,_,z,_,rfl,rfl,.of hH,nY,.inl ⟨rfl,S,.of a3⟩,_,g3,_,_,b1,?_⟩;unfold wp;rw[hm];intro vy T O1 b4 s4 d1;obtain⟨a6,kp⟩:=inv [] T U1 O1 b4;have b5:T b=some (.lst S):=kp b _ (a5 b (M b N)) a3;have r:∀c∈d,∃o,H c=some o/\Mv o:=fun c g=>by obtain⟨W,J,_⟩:=id G;exact J.live c (aT _ (aR _ g))
   have R:∀c∈d,T c=H c:=fun c g=>by obtain⟨o,eo,_⟩:=r c g;rw[eo];exact kp c o (a5 c g) eo
   obtain⟨O3,t1,t2,t3,t4,t5⟩:=ay.swap (L:=d) (L':=d) (H':=aB T b (.lst (S++[vy]))) (show ay X.K (F.plus d) T Y U1 O1 from a6) (fun c o g ec=>by rw[aV fun z=>g (by subst z;exact M _ N)];exact ec) k (fun c g=>.inl g) a2 (fun c g=>by
    by_cases p:c=b
    .subst p;exact⟨_,bP,trivial⟩
    .obtain⟨o,eo,mv⟩:=r c g;exact⟨o,by rw[aV p,R c g];exact eo,mv⟩)
   have sm:bQ (ao O2 H) (ao O3 (aB T b (.lst (S++[vy])))):=(s4.trans t2).hid;have li:i<U1.length:=by rw[a6.lenE];exact(List.getElem?_eq_some_iff.mp hY).1
   obtain⟨O4,u1,u2⟩:=ay.put1 (io:=true) (c:=.own io (.ll (xs.set n (ds++[v])))) (v:=.ref a) t1 ⟨a,rfl,bs,h,by rw[aV b3,R a aI];exact hH,AN sm ⟨S++[vy],bP,(aC.mono sm a4).append (.cons (DV.mono t2.hid d1) .nil)⟩ hd b2 hb fun c g p=>by rw[aV p,R c (M c g)]⟩ a2 (i:=i) li (fun b' eb=>by
    injection eb with e1 e2
    rw[b0 e1])
   have eY:Y.set i (some (.ref a))=Y:=by
    apply List.ext_getElem?;intro j
    by_cases hj:j=i
    .subst hj;rw[List.getElem?_set_self (List.getElem?_eq_some_iff.mp hY).1,hY]
    .rw[List.getElem?_set_ne (Ne.symm hj)]
   rw[eY]at u1;exact⟨b,S,vy,rfl,rfl,b5,by rw[a4.length];exact hz,f.nx _ _ _ _ u1 (s1.trans (s4.trans (t2.trans u2))) q⟩
  .rw[if_neg hz]at q;exact q.elim
def mj:ae->Option (Addr×List (Str×Fl))
 |.own false (.o C fs)=>some (C,fs)
 |_=>none
theorem AQ(h:mj c=some (C,fs)):c=.own false (.o C fs):=by
 unfold mj at h;split at h
 .cases h;rfl
 .cases h
def pC(C:Addr)(a b:XM ae):XM ae:=fun U=>match a U with
 |.ok c d=>(match b d with
  |.ok f g=>(match mj c,mj f with
   |some (h,f1),some (k,f2)=>if h=C/\k=C then .ok (.own false (.oo C [f1,f2])) g else .bad
   |_,_=>.bad)
  |_=>.bad)
 |_=>.bad
theorem Of(hG:GF X.mg F)(h1:∀k,GF X.mg k->FO X k cX e1 T)(h2:∀k,GF X.mg k->FO X k cX e2 Z)(a0:autoParam (starEach [e1,e2] X.env=(false,eval e1 X.env)::starEach [e2] X.env) Zq._auto_1)(a1:autoParam (starEach [e2] X.env=(false,eval e2 X.env)::starEach [] X.env) Zq._auto_1):FO X F E (.List [e1,e2] pos) (pC C T Z):=by
 have a2:PE X e1 (fun Y H Q=>∃k,GF X.mg k/\uu X.K k (wp cX T) Y H Q):=fun l s Y H Q I z=>by obtain⟨k,g',q⟩:=z;exact(h1 k g').pe l s Y H Q I q
 have a3:PE X e2 (fun Y H Q=>∃k,GF X.mg k/\uu X.K k (wp cX Z) Y H Q):=fun l s Y H Q I z=>by obtain⟨k,g',q⟩:=z;exact(h2 k g').pe l s Y H Q I q
 refine⟨aD,(jY (cJ a2 (cJ a3 dj a1) a0)).imp fun Y H Q D=>?_⟩;obtain⟨U,O,st,q⟩:=D;unfold wp pC at q;cases t:T U with
 |bad=>rw[t]at q;exact q.elim
 |ex _ _=>rw[t]at q;exact q.elim
 |ok c1 U1=>
 rw[t]at q;simp only at q;cases u:Z U1 with
 |bad=>rw[u]at q;exact q.elim
 |ex _ _=>rw[u]at q;exact q.elim
 |ok c2 U2=>
 rw[u]at q;simp only at q;cases o1:mj c1 with
 |none=>rw[o1]at q;exact q.elim
 |some p1=>
 obtain⟨C1,f1⟩:=p1;cases o2:mj c2 with
 |none=>rw[o1,o2]at q;exact q.elim
 |some p2=>
 obtain⟨C2,f2⟩:=p2;rw[o1,o2]at q;simp only at q
 by_cases hC:C1=C/\C2=C
 .rw[if_pos hC]at q;obtain⟨rfl,rfl⟩:=hC;obtain rfl:=AQ o1;obtain rfl:=AQ o2;refine⟨F,hG,U,O,st,?_⟩;unfold wp;rw[t];intro v1 H1 O1 a m s1;obtain⟨A,a4,g3,nA,inv,nw⟩:=ay.under (F:=F.plus a) (mg:=X.mg) (show GF X.mg (F.plus a) from hG) m.st;refine⟨_,g3,U1,O1,a4,?_⟩;simp only[u];intro v2 v O2 d r s2;obtain⟨w,kp⟩:=inv d v U2 O2 r.st;rw[Fx.plus_plus]at w;obtain⟨G,a5,J⟩:=m.at_;obtain⟨M,a6,N⟩:=r.at_;subst a5 a6;refine⟨by show 2<=sizeLine;decide,fun p hp=>?_⟩;obtain⟨W,B,a8⟩:=id w;have a7:(d++a).Nodup:=(List.nodup_append.mp (List.nodup_append.mp B.nd).2.1).1;have R:∀c∈d++a,∃o,v c=some o/\Mv o:=fun c f=>B.live c (aT _ (aR _ f));have pn:p∉d++a:=fun z=>by obtain⟨o,g,_⟩:=R p z;rw[hp]at g;cases g
  have hA:∀c∈d++a,c∈F.A₀\/F.H₀ c=none:=fun c f=>by
   rcases List.mem_append.mp f with f |f
   .exact nw c (r.new c f)
   .exact m.new c f
  have mem:∀c,c∈p::(a++(d++[]))->c=p\/c∈d++a:=fun c f=>by
   rcases List.mem_cons.mp f with h |h
   .exact .inl h
   .rw[List.append_nil]at h;exact .inr ((List.mem_append.mp h).elim (aT _) (aR _))
  have up:∀c o,v c=some o->aB v p (.lst [.ref G,.ref M]) c=some o:=fun c o g=>by rw[aV fun z=>by subst z;rw[hp]at g;cases g];exact g
  obtain⟨O3,t1,t2,t3,t4,t5⟩:=ay.swap (L:=d++a) (L':=p::(a++(d++[]))) (H':=aB v p (.lst [.ref G,.ref M])) w (fun c o _ g=>up c o g) (by
   refine List.nodup_cons.mpr ⟨fun z=>pn ((mem p (bC _ z)).elim (fun _=>by rw[List.append_nil]at z;exact(List.mem_append.mp z).elim (aT _) (aR _)) id),?_⟩;rw[List.append_nil];exact List.perm_append_comm.nodup_iff.mp a7) (fun c f=>(mem c f).elim (fun z=>.inr (z▸hp)) .inl) hA (fun c f=>by
   rcases mem c f with rfl |h
   .exact⟨_,bP,trivial⟩
   .obtain⟨o,g,mv⟩:=R c h;exact⟨o,up c o g,mv⟩)
  have k1:∀c∈a,aB v p (.lst [.ref G,.ref M]) c=H1 c:=fun c f=>by obtain⟨o,g,_⟩:=J.live c f;rw[g];exact up c o (kp c o (nA c (aR _ f)) g)
  have k2:∀c∈d,aB v p (.lst [.ref G,.ref M]) c=v c:=fun c f=>by obtain⟨o,g,_⟩:=N.live c f;rw[g];exact up c o g
  exact q (.ref p) _ O3 _ ⟨t1,⟨p,rfl,[G,M],[a,d],rfl,bP,.cons (ee.keep (b:=.o _ f1) J k1 (s2.trans t2).hid) (.cons (ee.keep (b:=.o _ f2) N k2 t2.hid) .nil)⟩,fun c f=>by
   rcases mem c f with rfl |h
   .by_cases S:c∈F.A₀
    .exact .inl S
    .refine .inr ?_;cases e:F.H₀ c with
     |none=>rfl
     |some o=>have:=B.kept c o S e;rw[hp]at this;cases this
   .exact hA c h⟩ (s1.trans (s2.trans t2))
 .rw[if_neg hC]at q;exact q.elim
noncomputable def pD:XM ae:=fun U=>.ok (.own false (.ll [[],[]])) U
theorem AR(u:autoParam (starEach [.List [] B,.List [] l] X.env=(false,eval (.List [] B) X.env)::starEach [.List [] l] X.env) Zq._auto_1)(v:autoParam (starEach [.List [] l] X.env=(false,eval (.List [] l) X.env)::starEach [] X.env) Zq._auto_1):FO X F E (.List [.List [] B,.List [] l] pos) pD:=by
 refine⟨aD,(jY (cJ (jY dj) (cJ (jY dj) dj v) u)).imp fun Y H Q m=>?_⟩;obtain⟨U,O,st,q⟩:=m;refine⟨by show 0<=sizeLine;decide,fun a D=>⟨by show 0<=sizeLine;decide,fun b t=>⟨by show 2<=sizeLine;decide,fun p k=>?_⟩⟩⟩;have f:b≠a:=fun z=>by subst z;rw[bP]at t;cases t
 have g:p≠b:=fun z=>by subst z;rw[bP]at k;cases k
 have h:p≠a:=fun z=>by subst z;rw[aV f.symm,bP]at k;cases k
 have s:H b=none/\H p=none:=by rw[aV f]at t;rw[aV g,aV h]at k;exact⟨t,k⟩
 have w:ay X.K (F.plus []) H Y U O:=st;have up:∀c o,H c=some o->aB (aB (aB H a (.lst [])) b (.lst [])) p (.lst [.ref a,.ref b]) c=some o:=fun c o e=>by
  have h1:c≠p:=fun z=>by subst z;rw[s.2]at e;cases e
  have h2:c≠b:=fun z=>by subst z;rw[s.1]at e;cases e
  have h3:c≠a:=fun z=>by subst z;rw[D]at e;cases e
  rw[aV h1,aV h2,aV h3];exact e
 have e1:aB (aB (aB H a (.lst [])) b (.lst [])) p (.lst [.ref a,.ref b]) a=some (.lst []):=by rw[aV h.symm,aV f.symm,bP]
 have e2:aB (aB (aB H a (.lst [])) b (.lst [])) p (.lst [.ref a,.ref b]) b=some (.lst []):=by rw[aV g.symm,bP]
 have r:∀c∈[p,a,b],H c=none:=fun c d=>by
  simp only[List.mem_cons,List.not_mem_nil,or_false]at d;rcases d with rfl |rfl |rfl
  .exact s.2
  .exact D
  .exact s.1
 obtain⟨I,J,M,_⟩:=ay.swap (L:=[]) (L':=[p,a,b]) (H':=aB (aB (aB H a (.lst [])) b (.lst [])) p (.lst [.ref a,.ref b])) w (fun c o _ e=>up c o e) (by simp[h,g,Ne.symm f]) (fun c d=>.inr (r c d)) (fun c d=>by cases d) (fun c d=>by
  simp only[List.mem_cons,List.not_mem_nil,or_false]at d;rcases d with rfl |rfl |rfl
  .exact⟨_,bP,trivial⟩
  .exact⟨_,e1,trivial⟩
  .exact⟨_,e2,trivial⟩)
 refine q (.ref p) _ I [p,a,b] ⟨J,⟨p,rfl,[a,b],rfl,bP,.cons ⟨[],e1,.nil⟩ (.cons ⟨[],e2,.nil⟩ .nil)⟩,fun c d=>?_⟩ M;obtain⟨W,A,_⟩:=st
 by_cases G:c∈F.A₀
 .exact .inl G
 .refine .inr ?_;cases e:F.H₀ c with
  |none=>rfl
  |some o=>have:=A.kept c o G e;rw[r c d]at this;cases this
end
theorem gP{pos:Pos}{p3:Pos}{apos:Pos}{st:Stmt}{r}(c:dc X F E)(cl:cF X.K C)(G:bJ X.prog X.w X.K X.mg X.base (cx X.prog X.w) k g fd ps (cW X.K X.mg f))(D:MD X.K C m q st ps g fd)(d:ba k' X.A)(e:PE X (.Name x p1) (bw i))(h:PE X (.Name y p2) (bw j))(n:autoParam (k<=k') Zr._auto_1)(o:im (.Name y p2):=by intro _ _;rfl)
  (p:autoParam (eval (.Call (.Attribute (.Subscript (.Name x p1) (.Name y p2) p3) m apos) [] [] pos) X.env=(do
   let a <-eval (.Subscript (.Name x p1) (.Name y p2) p3) X.env
   standAt apos.atName
   let(f,first) <-holding [a] (getMethod a m r)
   callWith pos f first (backTo pos (starEach [] X.env)) (backToKw pos (keywordEach [] X.env)))) Zq._auto_1) :
  FO X F E (.Call (.Attribute (.Subscript (.Name x p1) (.Name y p2) p3) m apos) [] [] pos) (gO C i j m f):=NX c cl D.mt G (d.mono n) D.b e h o p
theorem vO{pos:Pos}{p3:Pos}{p5:Pos}{C:Addr}(e:dc X F E)(G:bJ X.prog X.w X.K X.mg X.base (cx X.prog X.w) k g fd ps (cW X.K X.mg f))(D:FD X.K X.mg u body ps g fd)(h:ba k' X.A)(n:PE X (.Name x p1) (bw i))(o:PE X (.Name y p2) (bw j))(p:PE X (.Name z p4) (bw l))(r:autoParam (k<=k') Zr._auto_1)(s:autoParam (Gl X u) Zq._auto_1)(t:im (.Name y p2):=by intro _ _;rfl)(a:autoParam ((u==("__debug__":Str))=false) Zr._auto_1)
  (v:autoParam (starEach [.Subscript (.Name x p1) (.Name y p2) p3,.Name z p4] X.env=(false,eval (.Subscript (.Name x p1) (.Name y p2) p3) X.env)::starEach [.Name z p4] X.env) Zq._auto_1) (c:autoParam (starEach [.Name z p4] X.env=(false,eval (.Name z p4) X.env)::starEach [] X.env) Zq._auto_1) (d:autoParam ((backTo pos (starEach [.Name z p4] X.env)).any (·.1)=false) Zq._auto_1) :
  FO X F E (.Call (.Name u p5) [.Subscript (.Name x p1) (.Name y p2) p3,.Name z p4] [] pos) (me C i j l f):=Oa e G (h.mono r) s D.mgf D.fn.kp D.b n o p t a v c d
end L2.L3
namespace Due
abbrev Sh:=List (Int×Int)
noncomputable def gr(a:Int):Sh->Int->Int
 |[],_=>a
 |(b,c)::r,m=>gr (if b<=m then c else a) r m
def dM(a:Int)(b:Sh)(m:Int):Int:=m+gr a b m
def fz:Int->Sh->Prop
 |_,[]=>True
 |lo,(b,_)::r=>lo<b/\fz b r
theorem vP:∀{d lo},fz lo d->m<=lo->gr a d m=a
 |[],_,_,_=>rfl
 |(b,c)::r,lo,⟨h1,h2⟩,e=>by unfold gr;rw[if_neg (by lia)];exact vP h2 (by lia)
noncomputable def gu(g:Int):Int->Int->Sh->Int
 |s,a,[]=>max s (g - a)
 |s,a,(b,c)::r=>if max s (g - a)<b then max s (g - a) else gu g b c r
theorem nJ:∀{f s a},fz s f->s<=gu g s a f/\g<=dM a f (gu g s a f)/\∀m,s<=m->m<gu g s a f->dM a f m<g
 |[],s,a,_=>by unfold gu dM gr;refine⟨by lia,by lia,fun m k j=>?_⟩;lia
 | (b,c)::r,s,a,⟨k,j⟩=>by
  unfold gu;have d:∀m,m<b->dM a ((b,c)::r) m=m+a:=fun m i=>by unfold dM gr;rw[if_neg (by lia),vP j (by lia)]
  have h:∀m,b<=m->dM a ((b,c)::r) m=dM c r m:=fun m i=>by unfold dM;rw[gr,if_pos i]
  by_cases e:max s (g - a)<b
  .rw[if_pos e];refine⟨by lia,?_,fun m k j=>?_⟩
   .rw[d _ e];lia
   .rw[d _ (by lia)];lia
  .rw[if_neg e];obtain⟨l,n,o⟩:=nJ (g:=g) (a:=c) j;refine⟨by lia,?_,fun m q p=>?_⟩
   .rw[h _ l];exact n
   .by_cases i:m<b
    .rw[d _ i];lia
    .rw[h _ (by lia)];exact o m (by lia) p
theorem Og(h:g<=b)(e:fz s d):gu g s a d<=gu b s a d:=by obtain⟨j,k,f⟩:=nJ (g:=g) (a:=a) e;obtain⟨i,l,m⟩:=nJ (g:=b) (a:=a) e;refine Int.not_lt.mp fun c=>?_;have:=f _ i c;lia
def rJ(a:Int)(b:Sh):Prop:=(-12<=a/\a<=14)/\∀p∈b,-12<=p.2/\p.2<=14
theorem vQ:∀{d a},rJ a d->-12<=gr a d m/\gr a d m<=14
 |[],a,h=>h.1
 | (b,c)::r,a,h=>by
  unfold gr;refine vQ ⟨?_,fun p e=>h.2 p (bC _ e)⟩;split
  .exact h.2 (b,c) List.mem_cons_self
  .exact h.1
noncomputable def bj(s a:Int):Sh->List (Int×Option Int×Int)
 |[]=>[(s,none,a)]
 |(b,c)::r=>(s,some b,a)::bj b c r
noncomputable def fA(m:Int):Option Int->Bool
 |none=>true
 |some e=>decide (m<e)
def nK(g:Int)(l:List (Int×Option Int×Int)):List Int:=(l.filter fun p=>fA (max p.1 (g - p.2.2)) p.2.1).map fun p=>max p.1 (g - p.2.2)
theorem AS(g):∀d  s a,∃t,nK g (bj s a d)=gu g s a d::t
 |[],s,a=>⟨[],rfl⟩
 | (b,c)::r,s,a=>by
  obtain⟨t,e⟩:=AS g r b c;unfold bj gu nK;rw[List.filter_cons]
  by_cases h:max s (g - a)<b
  .rw[if_pos (by show decide (max s (g - a)<b)=true;exact decide_eq_true h),if_pos h];exact⟨_,rfl⟩
  .rw[if_neg (by show ¬ decide (max s (g - a)<b)=true;simpa using h),if_neg h];exact⟨t,e⟩
def gQ(a:Int)(b:Sh)(h:Int):Int:=-((h - dM a b 0) / 24)
theorem AU:dM a ss 0<=24 * gQ a ss h+h/\24 * gQ a ss h+h<dM a ss 0+24:=by unfold gQ;lia
def gR(a:Int)(b:Sh)(h:Int)(c:Nat):Int:=gu ((gQ a b h+c) * 24+h) 0 a b
inductive cz where
 |once (m:Int) |every (f s:Int) |daily (h:Int)
def cA(a:Int)(b:Sh):cz->Nat->Option Int
 |.once m,c=>if c=0 then some m else none
 |.every f s,c=>some (f+c * s)
 |.daily h,c=>some (gR a b h c)
theorem Oh(d:fz 0 b):0<=gR a b h c:=(nJ d).1
theorem Oi(e:fz 0 b)(f:c<=d):gR a b h c<=gR a b h d:=Og (by lia) e
theorem Oj{c:Nat}(e:fz 0 b)(d:rJ a b):24 * (c:Int) - 26<=gR a b h c:=by obtain⟨f,i,_⟩:=nJ (g:=(gQ a b h+c) * 24+h) (a:=a) e;have:=AU (a:=a) (h:=h) (ss:=b);have j:=vQ (m:=0) d;have k:=vQ (m:=gu ((gQ a b h+c) * 24+h) 0 a b) d;unfold dM at *;unfold gR;lia
structure iz (a:Int) (ss:Sh):Prop where
 len:ss.length<=6
 rise:fz 0 ss
 ah:rJ a ss
 top:∀p∈ss,p.1<=9999
def fB:cz->Prop
 |.once m=>0<=m/\m<=9999
 |.every f s=>(0<=f/\f<=9999)/\1<=s/\s<=999
 |.daily h=>0<=h/\h<=23
def AV(a:Int)(b:Sh)(p:cz)(c:Nat):Int:=(cA a b p c).getD 0
structure gS (a:Int) (ss:Sh) (p:cz) (last:Int) (n:Nat):Prop where
 le:n<=20000
 in_:∀c,c<n->∃v,cA a ss p c=some v/\v<=last
 out:cA a ss p n=none\/∃v,cA a ss p n=some v/\last<v
noncomputable def vR(a b c:Int):Nat:=(if a<b then(b - a - 1) / c+1 else 0).toNat
theorem iA{P:Nat->Prop}:∀N,P N->∃n,n<=N/\P n/\∀m,m<n->¬ P m
 |0,h=>⟨0,bG _,h,fun m a=>absurd a (Nat.not_lt_zero m)⟩
 |N+1,h=>by
  by_cases e:∃m,m<=N/\P m
  .obtain⟨m,a,pm⟩:=e;obtain⟨n,h1,h2,h3⟩:=iA m pm;exact⟨n,by lia,h2,h3⟩
  .exact⟨N+1,bG _,h,fun m a pm=>e ⟨m,by lia,pm⟩⟩
theorem Ol(z:iz a b)(e:last<=9999):∃n,gS a b (.daily h) last n:=by
 obtain⟨n,h1,h2,h3⟩:=iA (P:=fun c=>last<gR a b h c) 1000 (by
  have:=Oj (h:=h) (c:=1000) z.rise z.ah;show last<gR a b h 1000;lia)
 refine⟨n,by lia,fun c d=>⟨_,rfl,?_⟩,.inr ⟨_,rfl,h2⟩⟩;have:=h3 c d;lia
theorem Om(z:iz a i)(ok:fB p)(h:c<=d)(b:cA a i p c=some v)(g:cA a i p d=some w):v<=w:=by
 cases p with
 |once m=>
  rw[cA]at b g
  by_cases e:c=0
  .by_cases j:d=0
   .rw[if_pos e]at b;rw[if_pos j]at g;cases b;cases g;exact Int.le_refl _
   .rw[if_neg j]at g;cases g
  .rw[if_neg e]at b;cases b
 |every f s=>rw[cA]at b g;cases b;cases g;have:=Int.mul_le_mul_of_nonneg_right (show(c:Int)<=d by lia) (show(0:Int)<=s by have:=ok.2.1;lia);lia
 |daily k=>rw[cA]at b g;cases b;cases g;exact Oi z.rise h
theorem Oo(z:iz a d)(ok:fB p)(b:cA a d p c=some v):0<=v:=by
 cases p with
 |once m=>
  rw[cA]at b
  by_cases e:c=0
  .rw[if_pos e]at b;cases b;exact ok.1
  .rw[if_neg e]at b;cases b
 |every f s=>rw[cA]at b;cases b;have:=Int.mul_nonneg (show(0:Int)<=c by lia) (show(0:Int)<=s by have:=ok.2.1;lia);have:=ok.1.1;lia
 |daily g=>rw[cA]at b;cases b;exact Oh z.rise
theorem Op(z:iz a d)(ok:fB p)(g:last<=9999):∃n,gS a d p last n:=by
 cases p with
 |once m=>
  by_cases e:m<=last
  .refine⟨1,by lia,fun c b=>⟨m,by rw[cA,if_pos (by lia)],e⟩,.inl (by rw[cA,if_neg (by lia)])⟩
  .exact⟨0,by lia,fun c b=>absurd b (Nat.not_lt_zero c),.inr ⟨m,by rw[cA,if_pos rfl],by lia⟩⟩
 |every f s=>
  obtain⟨n,h1,h2,h3⟩:=iA (P:=fun(c:Nat)=>last<f+c * s) 10000 (by
   have:=ok.1.1;have:=Int.mul_le_mul_of_nonneg_left (show(1:Int)<=s from ok.2.1) (show(0:Int)<=((10000:Nat):Int) by lia);show last<f+((10000:Nat):Int) * s;lia)
  exact⟨n,by lia,fun c b=>⟨_,rfl,Int.not_lt.mp (h3 c b)⟩,.inr ⟨_,rfl,h2⟩⟩
 |daily h=>exact Ol z g
theorem Oq(z:iz a d)(ok:fB p)(u:gS a d p last n)(h:n<=c)(b:cA a d p c=some v):last<v:=by
 rcases u.out with e |⟨w,e,i⟩
 .cases p with
  |once m=>
   rw[cA]at e b
   by_cases g:n=0
   .rw[if_pos g]at e;cases e
   .rw[if_neg (by lia)]at b;cases b
  |every f s=>cases e
  |daily j=>cases e
 .have:=Om z ok h e b;lia
theorem Ot(u:gS a g (.every b s) last n):(∀c,c<n->b+c * s<=last)/\last<b+n * s:=by
 refine⟨fun c d=>?_,?_⟩
 .obtain⟨v,f,h⟩:=u.in_ c d;cases f;exact h
 .rcases u.out with e |⟨v,e,h⟩
  .cases e
  .cases e;exact h
theorem Ou(c:0<s)(u:gS a i (.every b s) last n):n=vR b (last+1) s:=by
 obtain⟨d,h2⟩:=Ot u;unfold vR
 by_cases h:b<last+1
 .rw[if_pos h];have j:0<n:=by refine Nat.pos_of_ne_zero fun e=>?_;subst e;simp at h2;lia
  have h3:=d (n - 1) (by lia);have f:((n - 1:Nat):Int)=(n:Int) - 1:=by lia
  rw[f]at h3;have e:(last+1 - b - 1) / s=(n:Int) - 1:=by
   refine Int.le_antisymm ?_ ?_
   .have:(last+1 - b - 1) / s<n:=Int.ediv_lt_of_lt_mul c (by lia);lia
   .exact Int.le_ediv_of_mul_le c (by lia)
  rw[e];lia
 .rw[if_neg h];have:n=0:=by refine Nat.eq_zero_of_not_pos fun g=>?_;have:=d 0 g;simp at this;lia
  rw[this];rfl
def iB(m:Int)(l:List (Int×Option Int×Int)):List Int:=(l.filter fun p=>decide (p.1<=m)).map fun p=>(if fA m p.2.1=true then m else p.2.1.getD 0 - 1)+p.2.2
theorem AW:∀j  s a,fz s j->(∀x,x∈iB m (bj s a j)->∃t,s<=t/\t<=m/\dM a j t=x)/\(∀t,s<=t->t<=m->∃x,x∈iB m (bj s a j)/\dM a j t<=x)
 |[],s,a,_=>by
  unfold bj iB
  by_cases h:s<=m
  .rw[List.filter_cons,if_pos (decide_eq_true h),List.filter_nil,List.map_cons,List.map_nil];simp only[fA,if_true,List.mem_singleton];refine⟨fun x d=>⟨m,h,Int.le_refl _,by subst d;rfl⟩,fun t u l=>⟨_,rfl,by show t+a<=m+a;lia⟩⟩
  .rw[List.filter_cons,if_neg (by simpa using h),List.filter_nil,List.map_nil];exact⟨fun x d=>(by cases d),fun t u l=>(by lia)⟩
 | (b,c)::r,s,a,⟨u,l⟩=>by
  obtain⟨n,o⟩:=AW (m:=m) r b c l;have g:∀t,t<b->dM a ((b,c)::r) t=t+a:=fun t k=>by unfold dM gr;rw[if_neg (by lia),vP l (by lia)]
  have i:∀t,b<=t->dM a ((b,c)::r) t=dM c r t:=fun t k=>by unfold dM;rw[gr,if_pos k]
  have e:iB m (bj s a ((b,c)::r))=(if s<=m then[(if m<b then m else b - 1)+a]else[])++iB m (bj b c r):=by
   rw[show bj s a ((b,c)::r)=(s,some b,a)::bj b c r from rfl];unfold iB;rw[List.filter_cons]
   by_cases h:s<=m
   .rw[if_pos (decide_eq_true h),if_pos h,List.map_cons];show((if decide (m<b)=true then m else b - 1)+a)::_=[(if m<b then m else b - 1)+a]++_
    by_cases f:m<b
    .rw[if_pos (decide_eq_true f),if_pos f];rfl
    .rw[if_neg (by simpa using f),if_neg f];rfl
   .rw[if_neg (by simpa using h),if_neg h];rfl
  rw[e];constructor
  .intro x d;rcases List.mem_append.mp d with d |d
   .by_cases h:s<=m
    .rw[if_pos h,List.mem_singleton]at d
     by_cases f:m<b
     .rw[if_pos f]at d;exact⟨m,h,Int.le_refl _,by rw[g m f,d]⟩
     .rw[if_neg f]at d;exact⟨b - 1,by lia,by lia,by rw[g _ (by lia),d]⟩
    .rw[if_neg h]at d;cases d
   .obtain⟨t,q,p,v⟩:=n x d;exact⟨t,by lia,p,by rw[i _ q];exact v⟩
  .intro t q p
   by_cases k:t<b
   .refine⟨(if m<b then m else b - 1)+a,List.mem_append.mpr (.inl ?_),?_⟩
    .rw[if_pos (by lia)];exact List.mem_singleton.mpr rfl
    .rw[g t k]
     by_cases f:m<b
     .rw[if_pos f];lia
     .rw[if_neg f];lia
   .obtain⟨x,w,y⟩:=o t (by lia) p;exact⟨x,List.mem_append.mpr (.inr w),by rw[i t (by lia)];exact y⟩
end Due
namespace K3
open PySem PySem.Spec L2 L2.L3 PyProof.Rows
noncomputable abbrev er:List Str:=["NoZone","NoPlan","NoMoment","NoCount","NoDeeds","NoDeed","NoRunner","NoTerm","NotHolder","Nothing","NoCall"]
def rK:SM:=(bu (fc (jE "int" (xV 0)) (fc (zi (jE "bool" (xV 0))) (uL (fun i j=>decide (i<=j)) (fun i j=>decide (i<=j)) (xV 1) (xV 0) (xV 2)))))
def gT:FM:=bp 3 3 rK
def vS:SM:=(bu (fc (jE "tuple" (xV 0)) (ai (aM false) (eP iQ (aq (xV 0) aX)) (xV 1))))
def kL:FM:=bp 2 2 vS
def vT:SM:=(bI (be (ai nr (ai aJ (xV 3) (xC (.int 0))) (xV 1))) (bO (ai aJ (xV 3) (xC (.int 1))) (aE 2)) bL)
def AY:SM:=(aA (bO (ai aJ (xV 0) (xC (.int 0))) (aE 2))
  (aA (ib (ku (ai aJ (xV 0) (xC (.int 1)))) (aE 3) vT)
  (bu (ai dF (xV 1) (xV 2)))))
def rL:FM:=bp 2 4 AY
def vU:XM PyData:=(ai aJ (xV 0) (xC (.int 0)))
def vV:XM PyData:=(ai aJ (xV 0) (xC (.int 1)))
def AZ:SM:=(aA (bO (ai mV (fq (aq (xC (.int 0)) aX)) (jG 1 [] (ku (ai aJ (xV 0) (xC (.int 1)))) (aE 0) du vU)) (aE 1))
  (aA (bO (ai mV (xU (zT 1) (xV 1)) (fq (aq (xC .none) aX))) (aE 2))
  (aA (bO (ai mV (fq (aq (ai aJ (xV 0) (xC (.int 0))) aX)) (jG 1 [] (ku (ai aJ (xV 0) (xC (.int 1)))) (aE 0) du vV)) (aE 3))
  (bu (eP uY (aq (xV 1) (aq (xV 2) (aq (xV 3) aX))))))))
def pE:FM:=bp 1 4 AZ
def Ba:SM:=(bu (uK (ai ko (xV 1) (xC .none)) (ai jL (xV 0) (xV 1))))
def pF:FM:=bp 2 2 Ba
def rM:SM:=(aA (bI (be (ai jL (xV 1) (qV 0))) (bu (qW 0 (xV 1))) bL)
  (aA (bI (uO 0) (bu (xC (.int 0))) bL)
  (bu (ai dF (ai ic (qW 0 (ai kA (xV 1) (qV 0))) (xC (.int 31))) (xV 1)))))
def nL:FM:=bp 2 2 rM
def Ov:SM:=(aA (fu 1 (jH (aq (gL 0 er "NoZone") (aq (gL 0 er "NoPlan") (aq (gL 0 er "NoMoment") (aq (gL 0 er "NoCount") aX))))))
  (aA (rh 1 (fq (aq (gL 0 er "NoDeeds") (aq (gL 0 er "NoDeed") (aq (gL 0 er "NoRunner") (aq (gL 0 er "NoTerm") aX))))))
  (aA (rh 1 (fq (aq (gL 0 er "NotHolder") (aq (gL 0 er "Nothing") (aq (gL 0 er "NoCall") aX)))))
  (aA (bI (iP (be (ai (aM true) (rg rc 1 (xC (.bool true))) (xC (.int 1)))) (fQ (be (vh 0 er)))) (bu (dq (aq (xC (.str "refused")) (aq (uJ (xC (.int 1))) aX)))) bL)
  (bu (dq (aq (xC (.str "refused")) (aq (rg rf 1 (xC (.bool true))) aX))))))))
def ml:FM:=bp 1 2 Ov
def Bb(C:Addr):SM:=(bu (fc (ai hV (bZ C 0 "holder") (xC .none)) (ai jL (xV 1) (bZ C 0 "until"))))
def pG(C:Addr):FM:=bp 2 2 (Bb C)
def pH(C:Addr):SM:=(aA (bO (ai aJ (xV 1) (xC (.int 2))) (aE 2))
  (aA (bO (ai aJ (xV 1) (xC (.int 3))) (aE 3))
  (aA (bO (ai aJ (xV 1) (xC (.int 4))) (aE 4))
  (aA (lU C 0 "rows" 1)
  (aA (nz C 0 "words" 3 4 (xV 2))
  (aA (bI (be (ai (aM false) (xV 2) (xC (.str "begun")))) (cO C 0 "begun" (dq (aq (xV 3) (aq (xV 4) (aq (bZ C 0 "holds") aX))))) (aA (cO C 0 "begun" (xC .none))
  (nB C 0 "settled" 3 (ai dF (xV 4) (xC (.int 1))))))
  (bu (dq (aq (xV 2) (aq (xV 3) (aq (xV 4) aX)))))))))))
def gv(C:Addr):FM:=bp 2 5 (pH C)
def vW(C:Addr):SM:=(bu (fc (ai hV (bZ C 0 "begun") (xC .none)) (ai (aM false) (ai aJ (bZ C 0 "begun") (xC (.int 2))) (bZ C 0 "holds"))))
def nM(C:Addr):FM:=bp 1 1 (vW C)
def Bc(C:Addr):SM:=(bu (dq (aq (bZ C 0 "holder") (aq (bZ C 0 "until") (aq (bZ C 0 "holds") aX)))))
def mm(C:Addr):FM:=bp 1 1 (Bc C)
def Be(C:Addr):SM:=(dR (rH C 0 "rows"))
def nN(C:Addr):FM:=bp 1 1 (Be C)
def Bf(C:Addr):SM:=(bu (dq (aq (bZ C 0 "zone") (aq (bZ C 0 "deeds") (aq (bZ C 0 "last") (aq (bZ C 0 "holder") (aq (bZ C 0 "until") (aq (bZ C 0 "holds") (aq (bZ C 0 "begun") (aq (rB C 0 "rows") aX))))))))))
def pI(C:Addr):FM:=bp 1 1 (Bf C)
def Bg:SM:=(dR (aO gT (au (xV 0) (au (xC (.int (-12))) (au (xC (.int (14))) aG)))))
def pJ:FM:=bp 1 1 Bg
def Bh:SM:=(dR (aO gT (au (xV 0) (au (xC (.int 0)) (au (xC (.int (9999))) aG)))))
def nO:FM:=bp 1 1 Bh
def Bi:SM:=(dR (aO gT (au (xV 0) (au (xC (.int 0)) (au (xC (.int (3))) aG)))))
def rN:FM:=bp 1 1 Bi
def Bj:SM:=(dR (aO gT (au (xV 0) (au (xC (.int 1)) (au (xC (.int (99))) aG)))))
def rO:FM:=bp 1 1 Bj
def vX:SM:=(bu (fc (aL (aO kL (au (xV 0) (au (xV 2) aG)))) (fc (jE "str" (ai aJ (xV 0) (xC (.int 0)))) (ai (aM false) (ai aJ (xV 0) (xC (.int 0))) (xV 1)))))
def kM:FM:=bp 3 3 vX
def vY:XM Bool:=(be (aL (aO pF (au (eP oQ (aq (xV 0) (aq (ai fJ (xV 3) (xV 2)) aX))) (au (xV 1) aG)))))
def vZ:XM PyData:=(eP oQ (aq (xV 0) (aq (ai fJ (xV 3) (xV 2)) aX)))
def Bk:SM:=(aA (bO (jG 3 [1] (lL (aL (aO pE (au (xV 0) aG)))) (ft 3 (cD (aE 0) (cD (aE 1) (cD (aE 2) fr)))) vY vZ) (aE 2))
  (bu (ai aJ (xV 2) (xC (.int 0)))))
def rP:FM:=bp 2 3 Bk
def wa:XM Bool:=(be (ai nr (xV 0) (xV 3)))
def pK:XM PyData:=(ai dF (mW (be (aL (aO pF (au (xV 3) (au (xV 1) aG))))) (xV 3) (ai fJ (xV 1) (xC (.int 1)))) (xV 2))
def Bl:SM:=(bu (eP mZ (aq (jG 3 [1] (lL (aL (aO pE (au (xV 0) aG)))) (ft 3 (cD (aE 0) (cD (aE 1) (cD (aE 2) fr)))) wa pK) aX)))
def rQ:FM:=bp 2 2 Bl
def Bm:SM:=(bu (uJ (ai ri (ai fJ (xV 1) (aL (aO rL (au (xV 0) (au (xC (.int 0)) aG))))) (xC (.int (24))))))
def pL:FM:=bp 2 2 Bm
def Bn:SM:=(aA (bO (ai kA (ai ic (ai dF (ai dF (aL (aO nL (aY 0 (au (xV 1) aG)))) (ai ic (xC (.int 7919)) (xV 1))) (xC (.int 1))) (xC (.int 48271))) (xC (.int 2147483647))) (aE 3))
  (bu (ai kA (ai kA (ai dF (ai dF (ai ic (xV 3) (xV 3)) (ai ic (xC (.int 7)) (xV 3))) (xV 1)) (xC (.int 2147483629))) (xV 2))))
def rR:FM:=bp 3 4 Bn
def wb(C:Addr):SM:=(aA (bO (ai aJ (bZ C 0 "begun") (xC (.int 0))) (aE 3))
  (aA (bO (mW (be (ai aJ (ai aJ (bZ C 0 "deeds") (xV 3)) (xC (.int (2))))) (xC (.str "begun")) (xC (.str "unsure"))) (aE 4))
  (dR (bR C 0 "add_row" (gv C) (au (dq (aq (xV 2) (aq (xV 1) (aq (xV 4) (aq (xV 3) (aq (ai aJ (bZ C 0 "begun") (xC (.int 1))) aX)))))) aG)))))
def pM(C:Addr):FM:=bp 3 5 (wb C)
def rS:SM:=(aA (bI (iP (fQ (be (aL (aO kL (au (xV 2) (au (xC (.int 2)) aG)))))) (fQ (be (aL (aO pJ (au (ai aJ (xV 2) (xC (.int 1))) aG)))))) (bu (xC (.bool false))) bL)
  (aA (bI (fQ (be (aL (aO gT (au (ai aJ (xV 2) (xC (.int 0))) (au (xV 1) (au (xC (.int (9999))) aG))))))) (bu (xC (.bool false))) bL)
  (bO (ai dF (ai aJ (xV 2) (xC (.int 0))) (xC (.int 1))) (aE 1))))
def Bo:SM:=(aA (bI (iP (fQ (be (jE "tuple" (xV 0)))) (be (ai kB (eP iQ (aq (xV 0) aX)) (xC (.int (6)))))) (bu (xC (.bool false))) bL)
  (aA (bO (xC (.int 1)) (aE 1))
  (aA (ib (ku (xV 0)) (aE 2) rS)
  (bu (xC (.bool true))))))
def rT:FM:=bp 1 3 Bo
def rV:SM:=(aA (bI (be (aL (aO kM (au (xV 0) (au (xC (.str "once")) (au (xC (.int 2)) aG)))))) (dR (aO nO (au (ai aJ (xV 0) (xC (.int 1))) aG))) bL)
  (aA (bI (be (aL (aO kM (au (xV 0) (au (xC (.str "every")) (au (xC (.int 3)) aG)))))) (bu (fc (aL (aO nO (au (ai aJ (xV 0) (xC (.int 1))) aG))) (aL (aO gT (au (ai aJ (xV 0) (xC (.int 2))) (au (xC (.int 1)) (au (xC (.int (999))) aG))))))) bL)
  (bu (fc (aL (aO kM (au (xV 0) (au (xC (.str "daily")) (au (xC (.int 2)) aG))))) (aL (aO gT (au (ai aJ (xV 0) (xC (.int 1))) (au (xC (.int 0)) (au (xC (.int (23))) aG)))))))))
def nP:FM:=bp 1 1 rV
def rW:SM:=(aA (bI (be (jE "str" (xV 0))) (bu (uK (ai (aM false) (xV 0) (xC (.str "all"))) (ai (aM false) (xV 0) (xC (.str "last"))))) bL)
  (bu (fc (aL (aO kM (au (xV 0) (au (xC (.str "within")) (au (xC (.int 2)) aG))))) (aL (aO gT (au (ai aJ (xV 0) (xC (.int 1))) (au (xC (.int 0)) (au (xC (.int (999))) aG))))))))
def nQ:FM:=bp 1 1 rW
def Bp:SM:=(bI (fQ (be (aL (aO nO (au (xV 0) aG))))) (jJ "NoMoment") bL)
def rX:FM:=bp 1 1 Bp
def Bq:SM:=(bI (fQ (be (aL (aO rN (au (xV 0) aG))))) (jJ "NoRunner") bL)
def rY:FM:=bp 1 1 Bq
def Br:SM:=(bI (fQ (be (aL (aO rO (au (xV 0) aG))))) (jJ "NoTerm") bL)
def rZ:FM:=bp 1 1 Br
def Bs:SM:=(aA (bO (ai dF (aL (aO pL (au (xV 0) (au (xV 1) aG)))) (xV 2)) (aE 3))
  (dR (aO rP (au (xV 0) (au (ai dF (ai ic (xV 3) (xC (.int (24)))) (xV 1)) aG)))))
def se:FM:=bp 3 4 Bs
def nR:SM:=(aA (bI (be (ai jL (xV 2) (xC (.int 0)))) (bu (xC (.int 0))) bL)
  (aA (bI (be (ai (aM false) (ai aJ (xV 1) (xC (.int 0))) (xC (.str "once")))) (bu (mW (be (ai nr (ai aJ (xV 1) (xC (.int 1))) (xV 2))) (xC (.int 1)) (xC (.int 0)))) bL)
  (aA (bI (be (ai (aM false) (ai aJ (xV 1) (xC (.int 0))) (xC (.str "every")))) (bu (eP oQ (aq (xC (.int 0)) (aq (ai dF (ai ri (ai fJ (xV 2) (ai aJ (xV 1) (xC (.int 1)))) (ai aJ (xV 1) (xC (.int 2)))) (xC (.int 1))) aX)))) bL)
  (aA (bO (ai ri (ai fJ (aL (aO rQ (au (xV 0) (au (xV 2) aG)))) (ai aJ (xV 1) (xC (.int 1)))) (xC (.int (24)))) (aE 3))
  (bu (ai dF (ai fJ (xV 3) (aL (aO pL (au (xV 0) (au (ai aJ (xV 1) (xC (.int 1))) aG))))) (xC (.int 1))))))))
def kN:FM:=bp 3 4 nR
def Bt:SM:=(aA (nj 1 (xC (.int 0)))
  (dR (aO rR (aY 0 (au (uT 1) (au (xV 2) aG))))))
def dg:FM:=bp 3 3 Bt
def Bu:SM:=(bu (fc (aL (aO kL (au (xV 0) (au (xC (.int 2)) aG)))) (fc (aL (aO pJ (au (ai aJ (xV 0) (xC (.int 0))) aG))) (aL (aO rT (au (ai aJ (xV 0) (xC (.int 1))) aG))))))
def sf:FM:=bp 1 1 Bu
def Bv:SM:=(bu (fc (aL (aO kL (au (xV 0) (au (xC (.int 3)) aG)))) (fc (aL (aO nP (au (ai aJ (xV 0) (xC (.int 0))) aG))) (fc (aL (aO nQ (au (ai aJ (xV 0) (xC (.int 1))) aG))) (jE "bool" (ai aJ (xV 0) (xC (.int 2))))))))
def sg:FM:=bp 1 1 Bv
def pN:SM:=(aA (bI (be (ai (aM false) (ai aJ (xV 1) (xC (.int 0))) (xC (.str "once")))) (bu (mW (be (ai (aM false) (xV 2) (xC (.int 0)))) (ai aJ (xV 1) (xC (.int 1))) (xC .none))) bL)
  (aA (bI (be (ai (aM false) (ai aJ (xV 1) (xC (.int 0))) (xC (.str "every")))) (bu (ai dF (ai aJ (xV 1) (xC (.int 1))) (ai ic (xV 2) (ai aJ (xV 1) (xC (.int 2)))))) bL)
  (dR (aO se (au (xV 0) (au (ai aJ (xV 1) (xC (.int 1))) (au (xV 2) aG)))))))
def iC:FM:=bp 3 3 pN
def Bw:SM:=(bu (ai aJ (xV 2) (aL (aO dg (aY 0 (aY 1 (au (eP iQ (aq (xV 2) aX)) aG)))))))
def ik:FM:=bp 3 3 Bw
def wc(C:Addr):SM:=(aA (iu (aO rY (au (xV 1) aG)))
  (aA (iu (aO rX (au (xV 2) aG)))
  (bI (qT (be (ai hV (bZ C 0 "last") (xC .none))) (be (ai jL (xV 2) (bZ C 0 "last")))) (jJ "NoMoment") bL)))
def iZ(C:Addr):FM:=bp 3 3 (wc C)
def sh(C:Addr):XM PyData:=(xC (.int 0))
def mq(C:Addr):XM PyData:=(ai fJ (aL (aO kN (au (iX C 2 "zone") (au (ai aJ (xV 0) (xC (.int (0)))) (au (iX C 2 "last") aG))))) (xV 1))
def si(C:Addr):SM:=(aA (bI (be (ai ko (bZ C 0 "last") (xC .none))) (dR (mi 1 [] (ku (bZ C 0 "deeds")) (aE 0) du (sh C))) bL)
  (dR (mi 2 [0] (jO C 0 "deeds" "settled") (ft 2 (cD (aE 0) (cD (aE 1) fr))) du (mq C))))
def nU(C:Addr):FM:=bp 1 1 (si C)
def sj:XM PyData:=(aL (aO sg (au (xV 0) aG)))
def By:SM:=(aA (bI (iP (fQ (be (jE "tuple" (xV 0)))) (be (ai kB (eP iQ (aq (xV 0) aX)) (xC (.int (6)))))) (bu (xC (.bool false))) bL)
  (bu (eP mY (aq (jG 1 [] (ku (xV 0)) (aE 0) du sj) aX))))
def we:FM:=bp 1 1 By
def Bz:SM:=(bI (fQ (be (aL (aO sf (au (xV 0) aG))))) (jJ "NoZone") bL)
def pO:FM:=bp 1 1 Bz
def pP:SM:=(aA (bI (be (ai (aM false) (ai aJ (xV 1) (xC (.int (1)))) (xC (.str "all")))) (bu (xC (.bool false))) bL)
  (aA (bI (be (ai (aM false) (ai aJ (xV 1) (xC (.int (1)))) (xC (.str "last")))) (aA (bO (aL (aO iC (au (xV 0) (au (ai aJ (xV 1) (xC (.int (0)))) (au (ai dF (xV 2) (xC (.int 1))) aG))))) (aE 4))
  (bu (fc (ai hV (xV 4) (xC .none)) (ai nr (xV 4) (xV 3))))) bL)
  (bu (ai kB (ai fJ (xV 3) (aL (aO iC (au (xV 0) (au (ai aJ (xV 1) (xC (.int (0)))) (au (xV 2) aG)))))) (ai aJ (ai aJ (xV 1) (xC (.int (1)))) (xC (.int 1)))))))
def mr:FM:=bp 4 5 pP
def sk:SM:=(aA (bO (ai dF (ai dF (xV 3) (xC (.int 1))) (aL (aO dg (aY 0 (aY 1 (au (aL (aO ik (aY 0 (aY 1 (au (fq (aq (xC (.int 4)) (aq (xC (.int 40)) (aq (xC (.int 200)) aX)))) aG))))) aG)))))) (aE 3))
  (nj 2 (dq (aq (xV 3) (aq (ai fJ (aL (aO dg (aY 0 (aY 1 (au (xC (.int 27)) aG))))) (xC (.int 12))) aX)))))
def wg:XM PyData:=(dq (aq (xV 1) (aq (ai dF (xC (.int 1)) (ai kA (xV 0) (xC (.int 2)))) aX)))
def wh:SM:=(aA (fu 2 (jH aX))
  (aA (bO (xC (.int 0)) (aE 3))
  (aA (ib (gK cf (aq (aL (aO dg (aY 0 (aY 1 (au (xC (.int 7)) aG))))) aX)) (aE 4) sk)
  (aA (bI (be (ai (aM false) (aL (aO dg (aY 0 (aY 1 (au (xC (.int 2)) aG))))) (xC (.int 0)))) (bO (jG 3 [] (gK lN (aq (xV 2) aX)) (ft 2 (cD (aE 0) (cD (ft 2 (cD (aE 1) (cD (aE 2) fr))) fr))) du wg) (aE 2)) bL)
  (bu (dq (aq (ai fJ (aL (aO dg (aY 0 (aY 1 (au (xC (.int 27)) aG))))) (xC (.int 12))) (aq (eP qU (aq (xV 2) aX)) aX))))))))
def pQ:FM:=bp 2 5 wh
def so:SM:=(aA (bO (aL (aO dg (aY 0 (aY 1 (au (xC (.int 5)) aG))))) (aE 2))
  (aA (bI (be (ai (aM false) (xV 2) (xC (.int 0)))) (bu (dq (aq (xC (.str "once")) (aq (aL (aO dg (aY 0 (aY 1 (au (aL (aO ik (aY 0 (aY 1 (au (fq (aq (xC (.int 100)) (aq (xC (.int 100)) (aq (xC (.int 2500)) aX)))) aG))))) aG))))) aX)))) bL)
  (aA (bI (be (ai jL (xV 2) (xC (.int 3)))) (aA (bO (ai dF (xC (.int 1)) (aL (aO dg (aY 0 (aY 1 (au (aL (aO ik (aY 0 (aY 1 (au (fq (aq (xC (.int 30)) (aq (xC (.int 30)) (aq (xC (.int 999)) aX)))) aG))))) aG)))))) (aE 3))
  (bu (dq (aq (xC (.str "every")) (aq (aL (aO dg (aY 0 (aY 1 (au (xC (.int 50)) aG))))) (aq (xV 3) aX)))))) bL)
  (bu (dq (aq (xC (.str "daily")) (aq (aL (aO dg (aY 0 (aY 1 (au (xC (.int 24)) aG))))) aX)))))))
def nV:FM:=bp 2 4 so
def Ow:SM:=(aA (bO (aL (aO dg (aY 0 (aY 1 (au (xC (.int 4)) aG))))) (aE 4))
  (aA (bI (qT (be (ai hV (xV 3) (xC .none))) (be (ai kB (aL (aO dg (aY 0 (aY 1 (au (xC (.int 4)) aG))))) (xC (.int 0))))) (bO (xV 3) (aE 4)) bL)
  (aA (bO (ai dF (xV 2) (aL (aO ik (aY 0 (aY 1 (au (fq (aq (xC (.int 0)) (aq (xC (.int 0)) (aq (xC (.int 0)) (aq (xC (.int 1)) (aq (xC (.int 2)) (aq (aL (aO dg (aY 0 (aY 1 (au (xC (.int 30)) aG))))) aX))))))) aG)))))) (aE 5))
  (aA (bO (aL (aO dg (aY 0 (aY 1 (au (xC (.int 10)) aG))))) (aE 6))
  (aA (bI (iP (be (ai ko (xV 3) (xC .none))) (be (ai jL (xV 6) (xC (.int 2))))) (bu (dq (aq (xC (.str "take")) (aq (xV 4) (aq (xV 5) (aq (ai dF (xC (.int 1)) (aL (aO dg (aY 0 (aY 1 (au (aL (aO ik (aY 0 (aY 1 (au (fq (aq (xC (.int 4)) (aq (xC (.int 99)) aX))) aG))))) aG)))))) aX)))))) bL)
  (aA (bI (be (ai (aM false) (xV 6) (xC (.int 2)))) (bu (dq (aq (xC (.str "give")) (aq (xV 4) (aq (xV 5) aX))))) bL)
  (bu (ai aJ (ai qS (fq (aq (dq (aq (xC (.str "step")) (aq (xV 4) (aq (xV 5) aX)))) (aq (dq (aq (xC (.str "finish")) (aq (xV 4) (aq (xV 5) aX)))) aX))) (xC (.int 4))) (ai fJ (xV 6) (xC (.int 3)))))))))))
def nW:FM:=bp 4 7 Ow
def sr(C:Addr):SM:=(aA (iu (bR C 0 "check_call" (iZ C) (au (xV 1) (au (xV 2) aG))))
  (bI (iP (fQ (be (aL (bR C 0 "is_held" (pG C) (au (xV 2) aG))))) (be (ai (aM true) (bZ C 0 "holder") (xV 1)))) (jJ "NotHolder") bL))
def et(C:Addr):FM:=bp 3 3 (sr C)
def su(C:Addr):SM:=(aA (iu (bR C 0 "check_call" (iZ C) (au (xV 1) (au (xV 2) aG))))
  (aA (iu (aO rZ (au (xV 3) aG)))
  (aA (cO C 0 "last" (xV 2))
  (aA (bI (fQ (be (aL (bR C 0 "is_held" (pG C) (au (xV 2) aG))))) (ro C 0 "holds" 1) (bI (be (ai (aM true) (bZ C 0 "holder") (xV 1))) (bu (xC (.bool false))) bL))
  (aA (cO C 0 "holder" (xV 1))
  (aA (cO C 0 "until" (ai dF (xV 2) (xV 3)))
  (bu (xC (.bool true)))))))))
def ms(C:Addr):FM:=bp 4 4 (su C)
def mu(C:Addr):SM:=(aA (bO (pd C 0 "settled" 2) (aE 3))
  (aA (bO (aL (aO iC (au (bZ C 0 "zone") (au (ai aJ (ai aJ (bZ C 0 "deeds") (xV 2)) (xC (.int (0)))) (au (xV 3) aG))))) (aE 4))
  (bI (be (ai hV (xV 4) (xC .none))) (nj 1 (dq (aq (xV 4) (aq (xV 2) (aq (xV 3) aX))))) bL)))
def Ox(C:Addr):SM:=(aA (fu 1 (jH aX))
  (aA (ib (gK cf (aq (eP iQ (aq (bZ C 0 "deeds") aX)) aX)) (aE 2) (mu C))
  (bu (kG 1))))
def wj(C:Addr):FM:=bp 1 5 (Ox C)
def BA:SM:=(bI (fQ (be (aL (aO we (au (xV 0) aG))))) (jJ "NoDeeds") bL)
def pR:FM:=bp 1 1 BA
def sv:SM:=(aA (bO (aL (aO dg (aY 0 (aY 1 (au (aL (aO ik (aY 0 (aY 1 (au (fq (aq (xC (.int 30)) (aq (xC (.int 30)) (aq (xC (.int 1000)) aX)))) aG))))) aG))))) (aE 4))
  (aA (bO (aL (aO ik (aY 0 (aY 1 (au (fq (aq (xC (.str "all")) (aq (xC (.str "last")) (aq (dq (aq (xC (.str "within")) (aq (xV 4) aX))) aX)))) aG))))) (aE 5))
  (nj 2 (dq (aq (aL (aO nV (aY 0 (aY 1 aG)))) (aq (xV 5) (aq (ai (aM false) (aL (aO dg (aY 0 (aY 1 (au (xC (.int 2)) aG))))) (xC (.int 0))) aX)))))))
def BB:SM:=(aA (fu 2 (jH aX))
  (aA (ib (gK cf (aq (aL (aO dg (aY 0 (aY 1 (au (aL (aO ik (aY 0 (aY 1 (au (fq (aq (xC (.int 5)) (aq (xC (.int 5)) (aq (xC (.int 7)) aX)))) aG))))) aG))))) aX)) (aE 3) sv)
  (bu (eP qU (aq (xV 2) aX)))))
def sx:FM:=bp 2 6 BB
def wm(C:Addr):SM:=(aA (iu (bR C 0 "check_holder" (et C) (au (xV 1) (au (xV 2) aG))))
  (aA (cO C 0 "last" (xV 2))
  (cO C 0 "holder" (xC .none))))
def kO(C:Addr):FM:=bp 3 3 (wm C)
def pS(C:Addr):SM:=(aA (bO (aL (ei C 0 "first_unsettled" (wj C))) (aE 3))
  (aA (bI (be (ai ko (xV 3) (xC .none))) (bu (dq (aq (xC (.str "idle")) (aq (xC .none) aX)))) bL)
  (aA (bI (be (ai kB (ai aJ (xV 3) (xC (.int 0))) (xV 2))) (bu (dq (aq (xC (.str "idle")) (aq (ai aJ (xV 3) (xC (.int 0))) aX)))) bL)
  (aA (bO (ai aJ (xV 3) (xC (.int 1))) (aE 4))
  (aA (bO (ai aJ (xV 3) (xC (.int 2))) (aE 5))
  (aA (bO (mW (be (aL (aO mr (au (bZ C 0 "zone") (au (ai aJ (bZ C 0 "deeds") (xV 4)) (au (xV 5) (au (xV 2) aG))))))) (xC (.str "left")) (xC (.str "begun"))) (aE 6))
  (dR (bR C 0 "add_row" (gv C) (au (dq (aq (xV 2) (aq (xV 1) (aq (xV 6) (aq (xV 4) (aq (xV 5) aX)))))) aG)))))))))
def mw(C:Addr):FM:=bp 3 7 (pS C)
def sy(C:Addr):SM:=(aA (iu (bR C 0 "check_holder" (et C) (au (xV 1) (au (xV 2) aG))))
  (aA (bI (fQ (be (aL (ei C 0 "is_busy" (nM C))))) (jJ "Nothing") bL)
  (aA (cO C 0 "last" (xV 2))
  (dR (bR C 0 "add_row" (gv C) (au (dq (aq (xV 2) (aq (xV 1) (aq (xC (.str "done")) (aq (ai aJ (bZ C 0 "begun") (xC (.int 0))) (aq (ai aJ (bZ C 0 "begun") (xC (.int 1))) aX)))))) aG))))))
def jb(C:Addr):FM:=bp 3 3 (sy C)
def sA(C:Addr):XM PyData:=(xC (.int 0))
def BC(C:Addr):SM:=(aA (iu (aO pO (au (xV 1) aG)))
  (aA (iu (aO pR (au (xV 2) aG)))
  (aA (cO C 0 "zone" (xV 1))
  (aA (cO C 0 "deeds" (xV 2))
  (aA (cO C 0 "last" (xC .none))
  (aA (cO C 0 "holder" (xC .none))
  (aA (cO C 0 "until" (xC (.int 0)))
  (aA (cO C 0 "holds" (xC (.int 0)))
  (aA (cO C 0 "begun" (xC .none))
  (aA (lX C 0 "rows" (.l []))
  (aA (lX C 0 "words" (.m true []))
  (vG C 0 "settled" 1 [] (ku (xV 2)) (aE 0) du (sA C)))))))))))))
def jR(C:Addr):FM:=bp 3 3 (BC C)
def pT(C:Addr):SM:=(aA (iu (bR C 0 "check_holder" (et C) (au (xV 1) (au (xV 2) aG))))
  (aA (cO C 0 "last" (xV 2))
  (aA (bI (be (aL (ei C 0 "is_busy" (nM C)))) (bu (dq (aq (xC (.str "busy")) (aq (ai aJ (bZ C 0 "begun") (xC (.int 0))) (aq (ai aJ (bZ C 0 "begun") (xC (.int 1))) aX))))) bL)
  (aA (bI (be (ai hV (bZ C 0 "begun") (xC .none))) (dR (bR C 0 "step_behind_a_fall" (pM C) (au (xV 1) (au (xV 2) aG)))) bL)
  (dR (bR C 0 "step_ahead" (mw C) (au (xV 1) (au (xV 2) aG))))))))
def jc(C:Addr):FM:=bp 3 3 (pT C)
def jS(C:Addr):SM:=(iU er 2 (aA (bI (be (ai (aM false) (ai aJ (xV 1) (xC (.int 0))) (xC (.str "take")))) (dR (bR C 0 "take" (ms C) (au (ai aJ (xV 1) (xC (.int 1))) (au (ai aJ (xV 1) (xC (.int 2))) (au (ai aJ (xV 1) (xC (.int 3))) aG))))) bL)
  (aA (bI (be (ai (aM false) (ai aJ (xV 1) (xC (.int 0))) (xC (.str "give")))) (dR (bR C 0 "give" (kO C) (au (ai aJ (xV 1) (xC (.int 1))) (au (ai aJ (xV 1) (xC (.int 2))) aG)))) bL)
  (aA (bI (be (ai (aM false) (ai aJ (xV 1) (xC (.int 0))) (xC (.str "step")))) (dR (bR C 0 "step" (jc C) (au (ai aJ (xV 1) (xC (.int 1))) (au (ai aJ (xV 1) (xC (.int 2))) aG)))) bL)
  (dR (bR C 0 "finish" (jb C) (au (ai aJ (xV 1) (xC (.int 1))) (au (ai aJ (xV 1) (xC (.int 2))) aG))))))) (dR (aO ml (aY 2 aG))))
def dN(C:Addr):FM:=bp 2 3 (jS C)
def BD(C:Addr):SM:=(fu 1 (jH aX))
def BE(C:Addr):SM:=(bO (aL (aO pQ (aY 0 (aY 1 aG)))) (aE 2))
def BF(C:Addr):SM:=(bO (aL (aO sx (aY 0 (aY 1 aG)))) (aE 3))
def BG(C:Addr):SM:=(fu 4 (pC C (kD C (jR C) (aq (xV 2) (aq (xV 3) aX))) (kD C (jR C) (aq (xV 2) (aq (xV 3) aX)))))
def BH(C:Addr):SM:=(fu 5 pD)
def BI(C:Addr):SM:=(fu 6 pD)
def BJ(C:Addr):SM:=(fu 7 (jH (aq (xC (.int 0)) (aq (xC (.int 0)) aX))))
def pU(C:Addr):SM:=(aA (bO (ai kA (xV 8) (xC (.int 2))) (aE 9))
  (aA (bO (aL (aO nW (aY 0 (aY 1 (au (mf 7 9) (au (ai aJ (aL (gO C 4 9 "held" (mm C))) (xC (.int 0))) aG)))))) (aE 10))
  (aA (pB 7 9 (ai aJ (xV 10) (xC (.int 2))))
  (aA (kK 5 9 (xV 10))
  (aA (kK 6 9 (aL (me C 4 9 10 (dN C))))
  (aA (pA (gO C 4 9 "log" (nN C)))
  (pA (gO C 4 9 "waiting" (nU C)))))))))
def BK(C:Addr):SM:=(ib (gK cf (aq (ai ic (xC (.int 2)) (aL (aO dg (aY 0 (aY 1 (au (xC (.int 21)) aG)))))) aX)) (aE 8) (pU C))
def pV(C:Addr):XM PyData:=(aL (aO (dN C) (aY 1 (au (xV 0) aG))))
def pW(C:Addr):SM:=(aA (fu 11 (kD C (jR C) (aq (xV 2) (aq (xV 3) aX))))
  (aA (bI (be (ai (aM true) (nH 1 [11] 0 11 (lL (ai aJ (jQ 5) (xV 9))) (aE 0) du (pV C)) (ai aJ (jQ 6) (xV 9)))) (bu (xC (.bool false))) bL)
  (aA (bI (be (ai (aM true) (aL (ei C 11 "saved" (pI C))) (aL (gO C 4 9 "saved" (pI C))))) (bu (xC (.bool false))) bL)
  (bI (iP (be (ai (aM true) (aL (ei C 11 "log" (nN C))) (aL (gO C 4 9 "log" (nN C))))) (be (ai (aM true) (aL (ei C 11 "waiting" (nU C))) (aL (gO C 4 9 "waiting" (nU C)))))) (bu (xC (.bool false))) bL))))
def BL(C:Addr):SM:=(ib (gK cf (aq (xC (.int 2)) aX)) (aE 9) (pW C))
def BM(C:Addr):SM:=(bu (xC (.bool true)))
def BN(C:Addr):SM:=(aA (BD C)
  (aA (BE C)
  (aA (BF C)
  (aA (BG C)
  (aA (BH C)
  (aA (BI C)
  (aA (BJ C)
  (aA (BK C)
  (aA (BL C)
  (BM C))))))))))
def BO(C:Addr):FM:=bp 1 12 (BN C)
end K3
namespace K3
open PySem PySem.Spec L2 L2.L3 PyProof.Rows
noncomputable def top(i:Nat):Stmt:=PySem.Challenge.pw_duehall_k11_two_halls.main.body.getD i (.Pass ⟨0,0,0,0⟩)
abbrev BP:Stmt:=top 25
abbrev BQ:Stmt:=top 26
abbrev BR:Stmt:=top 27
abbrev BS:Stmt:=top 28
abbrev BT:Stmt:=top 29
abbrev BU:Stmt:=top 30
abbrev BV:Stmt:=top 31
abbrev BW:Stmt:=top 32
abbrev BX:Stmt:=top 33
abbrev BY:Stmt:=top 34
abbrev BZ:Stmt:=top 35
abbrev Ca:Stmt:=top 36
abbrev Cb:Stmt:=top 37
abbrev Cc:Stmt:=top 38
abbrev Cd:Stmt:=top 39
abbrev Ce:Stmt:=top 40
abbrev Cf:Stmt:=top 41
abbrev Cg:Stmt:=top 42
abbrev Ci:Stmt:=top 45
abbrev Cj:Stmt:=top 46
abbrev Ck:Stmt:=top 47
abbrev Cm:Stmt:=top 48
abbrev Cn:Stmt:=top 49
abbrev Co:Stmt:=top 51
abbrev Cp:Stmt:=top 52
abbrev Cq:Stmt:=top 53
abbrev Cr:Stmt:=top 54
abbrev Cs:Stmt:=top 59
abbrev Ct:Stmt:=eV (top 60) 0
abbrev Cu:Stmt:=eV (top 60) 1
abbrev Cv:Stmt:=eV (top 60) 2
abbrev Cw:Stmt:=eV (top 60) 3
abbrev Cy:Stmt:=eV (top 60) 4
abbrev Cz:Stmt:=eV (top 60) 5
abbrev CA:Stmt:=eV (top 60) 6
abbrev CB:Stmt:=eV (top 60) 7
abbrev CC:Stmt:=eV (top 60) 8
abbrev CD:Stmt:=eV (top 60) 9
abbrev CF:Stmt:=eV (top 60) 10
abbrev CG:Stmt:=eV (top 60) 11
abbrev CH:Stmt:=eV (top 60) 12
abbrev CI:Stmt:=eV (top 60) 14
abbrev CJ:Stmt:=eV (top 60) 15
abbrev CL:Stmt:=eV (top 60) 16
abbrev CN:Stmt:=eV (top 60) 17
abbrev CO:Stmt:=top 62
abbrev CP:Stmt:=top 63
abbrev CQ:Stmt:=top 64
abbrev CS:Stmt:=top 65
abbrev CT:Stmt:=top 66
abbrev CU:Stmt:=top 67
abbrev CV:Stmt:=top 68
abbrev CW:Stmt:=top 69
abbrev sC:Stmt:=top 70
abbrev CY:Stmt:=top 71
abbrev kP:Stmt:=top 72
theorem Oy:bA ["_law_e","_law_own"] ["_law_e"] (cZ sC):=bE
theorem Oz:bA ["_law_script","_law_town","_law_zone_here","_law_deeds_here","_law_halls","_law_calls","_law_told","_law_now","_law_k","_law_which_here","_law_call_here","_law_other"] ["_law_script"] (cZ kP):=bE
structure Tx (K:Frag) (mg:Str->Option Value):Prop where
 d00:∃g fd,FD K mg "is_whole" BP ["thing","least","most"] g fd
 d01:∃g fd,FD K mg "is_tuple_of" BQ ["thing","length"] g fd
 d02:∃g fd,FD K mg "is_ahead" BR ["thing"] g fd
 d03:∃g fd,FD K mg "is_moment" BS ["thing"] g fd
 d04:∃g fd,FD K mg "is_runner" BT ["thing"] g fd
 d05:∃g fd,FD K mg "is_term" BU ["thing"] g fd
 d06:∃g fd,FD K mg "are_shifts" BV ["thing"] g fd
 d07:∃g fd,FD K mg "is_zone" BW ["thing"] g fd
 d08:∃g fd,FD K mg "has_word" BX ["thing","word","length"] g fd
 d09:∃g fd,FD K mg "is_plan" BY ["thing"] g fd
 d0a:∃g fd,FD K mg "is_late" BZ ["thing"] g fd
 d0b:∃g fd,FD K mg "is_deed" Ca ["thing"] g fd
 d0c:∃g fd,FD K mg "are_deeds" Cb ["thing"] g fd
 d0d:∃g fd,FD K mg "check_zone" Cc ["thing"] g fd
 d0e:∃g fd,FD K mg "check_moment" Cd ["thing"] g fd
 d0f:∃g fd,FD K mg "check_deeds" Ce ["thing"] g fd
 d0g:∃g fd,FD K mg "check_runner" Cf ["thing"] g fd
 d0h:∃g fd,FD K mg "check_term" Cg ["thing"] g fd
 d0i:∃g fd,FD K mg "shown" Ci ["zone","moment"] g fd
 d0j:∃g fd,FD K mg "stretches" Cj ["zone"] g fd
 d0k:∃g fd,FD K mg "is_ahead_of" Ck ["moment","end"] g fd
 d0l:∃g fd,FD K mg "first_showing" Cm ["zone","hours"] g fd
 d0m:∃g fd,FD K mg "furthest_shown" Cn ["zone","moment"] g fd
 d0n:∃g fd,FD K mg "first_day" Co ["zone","hour"] g fd
 d0o:∃g fd,FD K mg "daily_time" Cp ["zone","hour","count"] g fd
 d0p:∃g fd,FD K mg "time_of" Cq ["zone","plan","count"] g fd
 d0q:∃g fd,FD K mg "times_by" Cr ["zone","plan","moment"] g fd
 d0r:∃g fd,FD K mg "is_left_out" Cs ["zone","deed","count","now"] g fd
 d0s:∃g fd,FD K mg "_law_cell_at" CO ["_law_script","_law_k"] g fd
 d0t:∃g fd,FD K mg "_law_mixed" CP ["_law_script","_law_k","_law_many"] g fd
 d0u:∃g fd,FD K mg "_law_draw" CQ ["_law_script","_law_town","_law_many"] g fd
 d0v:∃g fd,FD K mg "_law_pick" CS ["_law_script","_law_town","_law_some"] g fd
 d0w:∃g fd,FD K mg "_law_zone" CT ["_law_script","_law_town"] g fd
 d0x:∃g fd,FD K mg "_law_plan" CU ["_law_script","_law_town"] g fd
 d0y:∃g fd,FD K mg "_law_deeds" CV ["_law_script","_law_town"] g fd
 d0z:∃g fd,FD K mg "_law_call" CW ["_law_script","_law_town","_law_now","_law_holder"] g fd
 d10:∃g fd,FD K mg "_law_which" sC ["_law_e"] g fd
 d11:∃g fd,FD K mg "_law_do" CY ["_law_hall","_law_call_here"] g fd
 d12:∃t,mg "LAST_MOMENT" = some (.int (9999) t)
 d13:∃t,mg "LAST_HOUR" = some (.int (23) t)
 d14:∃t,mg "LEAST_AHEAD" = some (.int (-12) t)
 d15:∃t,mg "MOST_AHEAD" = some (.int (14) t)
 d16:∃t,mg "MOST_SHIFTS" = some (.int (6) t)
 d17:∃t,mg "MOST_STEP" = some (.int (999) t)
 d18:∃t,mg "MOST_DEEDS" = some (.int (6) t)
 d19:∃t,mg "MOST_WITHIN" = some (.int (999) t)
 d1a:∃t,mg "LAST_RUNNER" = some (.int (3) t)
 d1b:∃t,mg "MOST_TERM" = some (.int (99) t)
 d1c:∃t,mg "DAY_HOURS" = some (.int (24) t)
 d1d:∃t,mg "PLAN" = some (.int (0) t)
 d1e:∃t,mg "LATE" = some (.int (1) t)
 d1f:∃t,mg "AGAIN" = some (.int (2) t)
 d1g:mg "ValueError" = none
 d1h:mg "all" = none
 d1i:mg "bool" = none
 d1j:mg "enumerate" = none
 d1k:mg "int" = none
 d1l:mg "isinstance" = none
 d1m:mg "len" = none
 d1n:mg "list" = none
 d1o:mg "max" = none
 d1p:mg "min" = none
 d1q:mg "range" = none
 d1r:mg "str" = none
 d1s:mg "tuple" = none
 d1t:mg "zip" = none
 xt0:∃D,XT K mg er D
structure dW (K:Frag) (mg:Str->Option Value) (C:Addr):Prop where
 cl:cF K C
 mg:mg "Hall" = some (.ref C)
 mks:PySem.W.makesIn K C=true
 kpC:keepIn K (.ref C)=true
 d1u:cG K C "begun"
 d1v:cG K C "deeds"
 d1w:cG K C "holder"
 d1x:cG K C "holds"
 d1y:cG K C "last"
 d1z:cG K C "rows"
 d20:cG K C "settled"
 d21:cG K C "until"
 d22:cG K C "words"
 d23:cG K C "zone"
 d24:∃g fd,MD K C "__init__" "Hall.__init__" Ct ["self","zone","deeds"] g fd
 d25:∃g fd,MD K C "is_held" "Hall.is_held" Cu ["self","moment"] g fd
 d26:∃g fd,MD K C "check_call" "Hall.check_call" Cv ["self","runner","moment"] g fd
 d27:∃g fd,MD K C "check_holder" "Hall.check_holder" Cw ["self","runner","moment"] g fd
 d28:∃g fd,MD K C "take" "Hall.take" Cy ["self","runner","moment","term"] g fd
 d29:∃g fd,MD K C "give" "Hall.give" Cz ["self","runner","moment"] g fd
 d2a:∃g fd,MD K C "add_row" "Hall.add_row" CA ["self","row"] g fd
 d2b:∃g fd,MD K C "is_busy" "Hall.is_busy" CB ["self"] g fd
 d2c:∃g fd,MD K C "first_unsettled" "Hall.first_unsettled" CC ["self"] g fd
 d2d:∃g fd,MD K C "step" "Hall.step" CD ["self","runner","moment"] g fd
 d2e:∃g fd,MD K C "step_behind_a_fall" "Hall.step_behind_a_fall" CF ["self","runner","moment"] g fd
 d2f:∃g fd,MD K C "step_ahead" "Hall.step_ahead" CG ["self","runner","moment"] g fd
 d2g:∃g fd,MD K C "finish" "Hall.finish" CH ["self","runner","moment"] g fd
 d2h:∃g fd,MD K C "held" "Hall.held" CI ["self"] g fd
 d2i:∃g fd,MD K C "log" "Hall.log" CJ ["self"] g fd
 d2j:∃g fd,MD K C "waiting" "Hall.waiting" CL ["self"] g fd
 d2k:∃g fd,MD K C "saved" "Hall.saved" CN ["self"] g fd
theorem dW.make{K}(h:dW K a C)(M:gA K C "__init__" g):Mk K C g:=⟨h.mks,M.at_,M.fn,h.kpC⟩
theorem OA:bootBuiltins "int" = some (.type "int"):=by decide +kernel
theorem CZ:bootBuiltins "bool" = some (.type "bool"):=by decide +kernel
theorem Db:bootBuiltins "str" = some (.type "str"):=by decide +kernel
theorem pX:bootBuiltins "tuple" = some (.type "tuple"):=by decide +kernel
theorem Rt:bootBuiltins "list" = some (.type "list"):=by decide +kernel
theorem sE:bootBuiltins "max" = some (.builtin "max"):=by decide +kernel
theorem Ru:bootBuiltins "divmod" = some (.builtin "divmod"):=by decide +kernel
theorem OB:bootBuiltins "all" = some (.builtin "all"):=by decide +kernel
theorem Rv:bootBuiltins "any" = some (.builtin "any"):=by decide +kernel
theorem Rw:bootBuiltins "sum" = some (.builtin "sum"):=by decide +kernel
theorem Rx:bootBuiltins "min" = some (.builtin "min"):=by decide +kernel
theorem Ry:bootBuiltins "sorted" = some (.builtin "sorted"):=by decide +kernel
theorem OC(r:cH k A):A.units+64<cLine:=by have:=r.un;lia
theorem eO(a:GF X.mg F):dc X F cX:=⟨a,fun _ _ _ _ _ _ _ _ _ _ z=>z.elim⟩
end K3
namespace K3
open PySem PySem.Spec L2 L2.L3 PyProof.Rows
local macro_rules | `(tactic|walk_at "z")=>`(tactic|first |exact AG (by kernel_rfl) |exact PassesOwn.leaving)
local macro_rules | `(tactic|walk_at "a")=>`(tactic|(refine dt ?_;refine Mh ?_))
local macro_rules | `(tactic|walk_at "c")=>`(tactic|(refine en ?_ ?_;(refine zx ?_ ?_ ?_ ?_ ?_ ?_<;>try walk_at "z")))
local macro_rules | `(tactic|walk_at "d")=>`(tactic|(refine en ?_ ?_;refine oU ?_ ?_ ?_))
local macro_rules | `(tactic|walk_at "e")=>`(tactic|(refine dt ?_;refine nh ?_))
local macro_rules | `(tactic|walk_at "f")=>`(tactic|(refine en ?_ ?_;refine vp ?_ ?_ ?_ ?_ ?_))
local macro_rules | `(tactic|walk_at "g")=>`(tactic|(refine dt ?_;refine oU ?_ ?_ ?_))
local macro_rules | `(tactic|walk_at "h")=>`(tactic|(refine en ?_ ?_;(refine Mg ?_ ?_ ?_ ?_ ?_ ?_<;>try walk_at "z")))
local macro_rules | `(tactic|walk_at "i")=>`(tactic|(refine en ?_ ?_;refine Mi ?_))
local macro_rules | `(tactic|walk_at "j")=>`(tactic|(refine en ?_ ?_;(refine Ml ?_ ?_ ?_ ?_ ?_ ?_<;>try walk_at "z")))
local macro_rules | `(tactic|walk_at "k")=>`(tactic|(refine dt ?_;(refine zx ?_ ?_ ?_ ?_ ?_ ?_<;>try walk_at "z")))
local macro_rules | `(tactic|walk_at "l")=>`(tactic|(refine dt ?_;(refine zJ ?_ ?_ ?_ ?_ ?_ ?_ ?_ ?_<;>try walk_at "z")))
local macro_rules | `(tactic|walk_at "m")=>`(tactic|(refine en ?_ ?_;(refine MS ?_ ?_ ?_ ?_ ?_ ?_ ?_ ?_<;>try walk_at "z")))
local macro_rules | `(tactic|walk_at "z")=>`(tactic|first|rfl|exact .inl rfl|exact .inr rfl|assumption|exact fun _=>rfl)
local macro_rules | `(tactic|walk_at "z")=>`(tactic|first|rfl|exact .inl rfl|exact .inr rfl|assumption|exact fun _=>rfl)
section
variable{P:Program}{w:World}{K:Frag}{mg:Str->Option Value}{base:Heap}
theorem kQ(T:Tx K mg):CK P w K mg base 1 "is_whole" gT:=by
 refine cq ["thing","least","most"] T.d00 bE fun a b=>?_
 walk_at "a"
 exact(fo (kt (kc rfl T.d1l (fv 0) (jq rfl T.d1k OA rfl))) (fo (LS (kt (kc rfl T.d1l (fv 0) (jq rfl T.d1i CZ rfl)))) (gJ (MZ (fv 1) (fv 0) (fv 2)))))
theorem sF(T:Tx K mg):CK P w K mg base 1 "is_tuple_of" kL:=by
 refine cq ["thing","length"] T.d01 bE fun a b=>?_
 walk_at "a"
 exact(fo (kt (kc rfl T.d1l (fv 0) (jq rfl T.d1s pX rfl))) (gJ (nu a.units (hZ oP (iO lA oJ rfl T.d1m PySem.boot_len (az (fv 0) bt))) (fv 1))))
theorem OD(T:Tx K mg):CK P w K mg base 1 "shown" rL:=by
 refine cq ["zone","moment","ahead","shift"] T.d0i bE fun a b=>?_
 walk_at "c"
 exact(aZ (fv 0) (aa av))
 walk_at "j"
 exact(lM (aZ (fv 0) (aa av)));exact(dG 3)
 walk_at "g"
 exact(vk (aZ (fv 3) (aa av)) (fv 1))
 walk_at "k"
 exact(aZ (fv 3) (aa av));exact bS
 walk_at "a"
 exact(dS (fv 1) (fv 2))
theorem Dc(T:Tx K mg):CK P w K mg base 1 "stretches" pE:=by
 refine cq ["zone","starts","ends","aheads"] T.d0j bE fun c a=>?_
 walk_at "c"
 exact(vj (gn (az (aa av) bt)) (qY a.1 (al.of (own:=["shift"]) (capN:=[]) (caps:=[])) rfl rfl (lM (aZ (fv 0) (aa av))) (fun _ _ _ _ _ _ b=>⟨(dG 0),kv,(aZ (fv 0) (aa av))⟩)))
 walk_at "c"
 exact(vj (Mx (Le (k:=1) (fv 1))) (gn (az (aa eK) bt)))
 walk_at "c"
 exact(vj (gn (az (aZ (fv 0) (aa av)) bt)) (qY a.1 (al.of (own:=["shift"]) (capN:=[]) (caps:=[])) rfl rfl (lM (aZ (fv 0) (aa av))) (fun _ _ _ _ _ _ b=>⟨(dG 0),kv,(aZ (fv 0) (aa av))⟩)))
 walk_at "a"
 exact(Mw (Ld rfl rfl T.d1n rfl T.d1t (az (fv 1) (az (fv 2) (az (fv 3) bt)))))
theorem Dd(T:Tx K mg):CK P w K mg base 1 "is_ahead_of" pF:=by
 refine cq ["moment","end"] T.d0k bE fun a b=>?_
 walk_at "a"
 exact(zl (MY (fv 1) (aa eK)) (gJ (Ag (fv 0) (fv 1))))
theorem OE(T:Tx K mg):CK P w K mg base 1 "_law_cell_at" nL:=by
 refine cq ["_law_script","_law_k"] T.d0s bE fun a b=>?_
 walk_at "d"
 exact(pb (fv 1) (zr (yT rfl T.d1m (pv 0))))
 walk_at "a"
 exact(zt (yV (pv 0) (fv 1) (by intro _ _;rfl)));exact bS
 walk_at "d"
 exact(Mb (Li a.units (pv 0)))
 walk_at "a"
 exact(aa av);exact bS
 walk_at "a"
 exact(dS (kC (zt (yV (pv 0) (nt (fv 1) (zr (yT rfl T.d1m (pv 0)))) (by intro _ _;rfl))) (aa av)) (fv 1))
variable(P w)(base) in
theorem OF{g:Addr}{fd:FuncData}(T:Tx K mg)(D:FD K mg "_law_which" sC ["_law_e"] g fd):fe P w K mg base (cx P w) 1 g fd ["_law_e"] (cW K mg ml):=by
 obtain⟨c,a⟩:=T.xt0;refine MJ D.fn Oy (by decide) ?_;intro d A b s H E F f e h
 walk_at "h"
 exact(ni (az (ix a rfl T.d1l (pv 0) rfl (by decide +kernel)) (az (ix a rfl T.d1l (pv 0) rfl (by decide +kernel)) (az (ix a rfl T.d1l (pv 0) rfl (by decide +kernel)) (az (ix a rfl T.d1l (pv 0) rfl (by decide +kernel)) bt)))))
 walk_at "m"
 exact(pv 1);exact(gn (az (ix a rfl T.d1l (pv 0) rfl (by decide +kernel)) (az (ix a rfl T.d1l (pv 0) rfl (by decide +kernel)) (az (ix a rfl T.d1l (pv 0) rfl (by decide +kernel)) (az (ix a rfl T.d1l (pv 0) rfl (by decide +kernel)) bt)))))
 walk_at "m"
 exact(pv 1);exact(gn (az (ix a rfl T.d1l (pv 0) rfl (by decide +kernel)) (az (ix a rfl T.d1l (pv 0) rfl (by decide +kernel)) (az (ix a rfl T.d1l (pv 0) rfl (by decide +kernel)) bt))))
 walk_at "d"
 exact(jC (lK (lT (OC e) (Ab (g:=rc) PySem.F.slot_list_count PySem.F.type_list_count MO MQ (pv 1) (aa gc)) (aa av)) (lJ (gm (dQ (dO (MU a rfl T.d1l (pv 0) rfl T.d1g)))))))
 walk_at "a"
 exact(dD (az (aa cw) (az (zh (aa av)) bt)));exact bS
 walk_at "a"
 exact(dD (az (aa cw) (az (Ab (g:=rf) PySem.F.slot_list_index PySem.F.type_list_index MP MR (pv 1) (aa gc)) bt)))
theorem De(T:Tx K mg)(a:dW K mg C):CM P w K mg base C 1 "is_held" (pG C):=by
 refine ff ["self","moment"] a.d25 bE fun b c=>?_
 walk_at "a"
 exact(fo (vl (cy a.cl a.d1w (pv 0)) (aa eK)) (gJ (Ag (fv 1) (cy a.cl a.d21 (pv 0)))))
theorem wn(T:Tx K mg)(a:dW K mg C):CM P w K mg base C 1 "add_row" (gv C):=by
 refine ff ["self","row","word","deed","count"] a.d2a bE fun b c=>?_
 walk_at "c"
 exact(aZ (fv 1) (aa av))
 walk_at "c"
 exact(aZ (fv 1) (aa av))
 walk_at "c"
 exact(aZ (fv 1) (aa av));refine en ?_ ?_;(refine Nd ?_ ?_ ?_ ?_ ?_ ?_ ?_ ?_ ?_ ?_ ?_<;>try walk_at "z");exact a.cl;exact a.d1z;exact(pv 0);exact(pv 1);refine en ?_ ?_;(refine Nf ?_ ?_ ?_ ?_ ?_ ?_ ?_ ?_ ?_ ?_ ?_<;>try walk_at "z");exact(xO b);exact a.cl;exact a.d22;exact(pv 0);exact(pv 3);exact(pv 4);exact(fv 2)
 walk_at "d"
 exact(gp b.units (fv 2) (aa cw));refine dt ?_;refine vp ?_ ?_ ?_ ?_ ?_;exact a.cl;exact a.d1u;exact(pv 0);exact(dD (az (fv 3) (az (fv 4) (az (cy a.cl a.d1x (pv 0)) bt))));rfl
 walk_at "f"
 exact a.cl;exact a.d1u;exact(pv 0);exact(aa eK);rfl;refine dt ?_;(refine Nh ?_ ?_ ?_ ?_ ?_ ?_ ?_ ?_ ?_ ?_<;>try walk_at "z");exact a.cl;exact a.d20;exact(pv 0);exact(pv 3);exact(dS (fv 4) (aa av))
 walk_at "a"
 exact(dD (az (fv 2) (az (fv 3) (az (fv 4) bt))))
theorem Df(T:Tx K mg)(a:dW K mg C):CM P w K mg base C 1 "is_busy" (nM C):=by
 refine ff ["self"] a.d2b bE fun b c=>?_
 walk_at "a"
 exact(fo (vl (cy a.cl a.d1u (pv 0)) (aa eK)) (gJ (nu b.units (aZ (cy a.cl a.d1u (pv 0)) (aa av)) (cy a.cl a.d1x (pv 0)))))
theorem OG(T:Tx K mg)(a:dW K mg C):CM P w K mg base C 1 "held" (mm C):=by
 refine ff ["self"] a.d2h bE fun b c=>?_
 walk_at "a"
 exact(dD (az (cy a.cl a.d1w (pv 0)) (az (cy a.cl a.d21 (pv 0)) (az (cy a.cl a.d1x (pv 0)) bt))))
theorem OH(T:Tx K mg)(a:dW K mg C):CM P w K mg base C 1 "log" (nN C):=by
 refine ff ["self"] a.d2i bE fun b c=>?_
 walk_at "e"
 exact(Oe rfl T.d1n a.cl a.d1z (pv 0))
theorem OI(T:Tx K mg)(a:dW K mg C):CM P w K mg base C 1 "saved" (pI C):=by
 refine ff ["self"] a.d2k bE fun b c=>?_
 walk_at "a"
 exact(dD (az (cy a.cl a.d23 (pv 0)) (az (cy a.cl a.d1v (pv 0)) (az (cy a.cl a.d1y (pv 0)) (az (cy a.cl a.d1w (pv 0)) (az (cy a.cl a.d21 (pv 0)) (az (cy a.cl a.d1x (pv 0)) (az (cy a.cl a.d1u (pv 0)) (az (NO rfl T.d1s a.cl a.d1z (pv 0)) bt)))))))))
theorem Dg(T:Tx K mg):CK P w K mg base 2 "is_ahead" pJ:=by
 obtain⟨c,a⟩:=T.d14;obtain⟨d,b⟩:=T.d15;refine cq ["thing"] T.d02 bE fun e f=>?_
 walk_at "e"
 exact(bc f (kQ T) e (aw (fv 0) (aw (aa (dP rfl a)) (aw (aa (dP rfl b)) aK))))
theorem wo(T:Tx K mg):CK P w K mg base 2 "is_moment" nO:=by
 obtain⟨b,a⟩:=T.d12;refine cq ["thing"] T.d03 bE fun c d=>?_
 walk_at "e"
 exact(bc d (kQ T) c (aw (fv 0) (aw (aa av) (aw (aa (dP rfl a)) aK))))
theorem OJ(T:Tx K mg):CK P w K mg base 2 "is_runner" rN:=by
 obtain⟨b,a⟩:=T.d1a;refine cq ["thing"] T.d04 bE fun c d=>?_
 walk_at "e"
 exact(bc d (kQ T) c (aw (fv 0) (aw (aa av) (aw (aa (dP rfl a)) aK))))
theorem OK(T:Tx K mg):CK P w K mg base 2 "is_term" rO:=by
 obtain⟨b,a⟩:=T.d1b;refine cq ["thing"] T.d05 bE fun c d=>?_
 walk_at "e"
 exact(bc d (kQ T) c (aw (fv 0) (aw (aa av) (aw (aa (dP rfl a)) aK))))
theorem sG(T:Tx K mg):CK P w K mg base 2 "has_word" kM:=by
 refine cq ["thing","word","length"] T.d08 bE fun a b=>?_
 walk_at "a"
 exact(fo (aU (bc b (sF T) a (aw (fv 0) (aw (fv 2) aK)))) (fo (kt (kc rfl T.d1l (aZ (fv 0) (aa av)) (jq rfl T.d1r Db rfl))) (gJ (nu a.units (aZ (fv 0) (aa av)) (fv 1)))))
theorem OL(T:Tx K mg):CK P w K mg base 2 "first_showing" rP:=by
 obtain⟨_,_,d,c,a,b⟩:=Dd (P:=P) (w:=w) (base:=base) T;refine cq ["zone","hours","reached"] T.d0l bE fun e f=>?_;refine en ?_ ?_;(refine zI (own:=["start","end","ahead"]) (capN:=["hours"]) (caps:=[1]) ?_ ?_ ?_ ?_ ?_ ?_ ?_ ?_ ?_ ?_ ?_ ?_<;>try walk_at "z");exact f.1;exact(al.of (own:=["start","end","ahead"]) (capN:=["hours"]) (caps:=[1]));exact(uR (aU (bc f (Dc T) e (aw (fv 0) aK))));exact(fun _ _ _ _ _ _ g=>⟨(oS (n:=3) rfl (ia (dG 0) (ia (dG 1) (ia (dG 2) oR)))),(zH (dQ (dO (aU (nG (eO g) b a e (aw (hZ uM (iO (tK rfl) uE rfl T.d1o sE (az (fv 0) (az (ie (fv 3) (fv 2)) bt)))) (aw (fv 1) aK))))))),(hZ uM (iO (tK rfl) uE rfl T.d1o sE (az (fv 0) (az (ie (fv 3) (fv 2)) bt))))⟩)
 walk_at "a"
 exact(aZ (fv 2) (aa av))
theorem OM(T:Tx K mg):CK P w K mg base 2 "furthest_shown" rQ:=by
 obtain⟨_,_,d,c,a,b⟩:=Dd (P:=P) (w:=w) (base:=base) T;refine cq ["zone","moment"] T.d0m bE fun e f=>?_
 walk_at "a"
 exact(hZ Ma (iO (LJ rfl) LL rfl T.d1o sE (az (qY f.1 (al.of (own:=["start","end","ahead"]) (capN:=["moment"]) (caps:=[1])) rfl rfl (uR (aU (bc f (Dc T) e (aw (fv 0) aK)))) (fun _ _ _ _ _ _ g=>⟨(oS (n:=3) rfl (ia (dG 0) (ia (dG 1) (ia (dG 2) oR)))),(zH (vk (fv 0) (fv 3))),(dS (oO (dQ (dO (aU (nG (eO g) b a e (aw (fv 3) (aw (fv 1) aK)))))) (fv 3) (ie (fv 1) (aa av))) (fv 2))⟩)) bt)))
theorem Dh(T:Tx K mg):CK P w K mg base 2 "first_day" pL:=by
 obtain⟨b,a⟩:=T.d1c;refine cq ["zone","hour"] T.d0n bE fun c d=>?_
 walk_at "a"
 exact(zh (vi (ie (fv 1) (aU (bc d (OD T) c (aw (fv 0) (aw (aa av) aK))))) (aa (dP rfl a))))
theorem ON(T:Tx K mg):CK P w K mg base 2 "_law_mixed" rR:=by
 refine cq ["_law_script","_law_k","_law_many","_law_drawn"] T.d0t bE fun a b=>?_
 walk_at "c"
 exact(nt (kC (dS (dS (aU (bc b (OE T) a (br (pv 0) (aw (fv 1) aK)))) (kC (aa av) (fv 1))) (aa av)) (aa av)) (aa av))
 walk_at "a"
 exact(nt (nt (dS (dS (kC (fv 3) (fv 3)) (kC (aa av) (fv 3))) (fv 1)) (aa av)) (fv 2))
theorem OO(T:Tx K mg)(b:dW K mg C):CM P w K mg base C 2 "step_behind_a_fall" (pM C):=by
 obtain⟨c,a⟩:=T.d1f;refine ff ["self","runner","moment","deed","word"] b.d2e bE fun d e=>?_
 walk_at "c"
 exact(aZ (cy b.cl b.d1u (pv 0)) (aa av))
 walk_at "c"
 exact(oO (dQ (dO (aZ (aZ (cy b.cl b.d1v (pv 0)) (fv 3)) (aa (dP rfl a))))) (aa cw) (aa cw))
 walk_at "e"
 exact(ij e b.cl (wn T b) d (pv 0) (aw (dD (az (fv 2) (az (fv 1) (az (fv 4) (az (fv 3) (az (aZ (cy b.cl b.d1u (pv 0)) (aa av)) bt)))))) aK))
theorem OP(T:Tx K mg):CK P w K mg base 3 "are_shifts" rT:=by
 obtain⟨c,a⟩:=T.d12;obtain⟨d,b⟩:=T.d16;refine cq ["thing","earliest","shift"] T.d06 bE fun e f=>?_
 walk_at "d"
 exact(jC (lK (gm (dQ (dO (kt (kc rfl T.d1l (fv 0) (jq rfl T.d1s pX rfl)))))) (lJ (rk (hZ oP (iO lA oJ rfl T.d1m PySem.boot_len (az (fv 0) bt))) (aa (dP rfl b))))))
 walk_at "a"
 exact(aa gc);exact bS
 walk_at "c"
 exact(aa av)
 walk_at "j"
 exact(lM (fv 0));exact(dG 2)
 walk_at "d"
 exact(jC (lK (gm (dQ (dO (aU (bc f (sF T) e (aw (fv 2) (aw (aa av) aK))))))) (lJ (gm (dQ (dO (aU (bc f (Dg T) e (aw (aZ (fv 2) (aa av)) aK)))))))))
 walk_at "a"
 exact(aa gc);exact bS
 walk_at "d"
 exact(gm (dQ (dO (aU (bc f (kQ T) e (aw (aZ (fv 2) (aa av)) (aw (fv 1) (aw (aa (dP rfl a)) aK))))))))
 walk_at "a"
 exact(aa gc);exact bS
 walk_at "k"
 exact(dS (aZ (fv 2) (aa av)) (aa av))
 walk_at "a"
 exact(aa gc)
theorem OQ(T:Tx K mg):CK P w K mg base 3 "is_plan" nP:=by
 obtain⟨c,a⟩:=T.d13;obtain⟨d,b⟩:=T.d17;refine cq ["thing"] T.d09 bE fun e f=>?_
 walk_at "d"
 exact(dQ (dO (aU (bc f (sG T) e (aw (fv 0) (aw (aa cw) (aw (aa av) aK)))))))
 walk_at "e"
 exact(bc f (wo T) e (aw (aZ (fv 0) (aa av)) aK));exact bS
 walk_at "d"
 exact(dQ (dO (aU (bc f (sG T) e (aw (fv 0) (aw (aa cw) (aw (aa av) aK)))))))
 walk_at "a"
 exact(fo (aU (bc f (wo T) e (aw (aZ (fv 0) (aa av)) aK))) (gJ (aU (bc f (kQ T) e (aw (aZ (fv 0) (aa av)) (aw (aa av) (aw (aa (dP rfl b)) aK)))))));exact bS
 walk_at "a"
 exact(fo (aU (bc f (sG T) e (aw (fv 0) (aw (aa cw) (aw (aa av) aK))))) (gJ (aU (bc f (kQ T) e (aw (aZ (fv 0) (aa av)) (aw (aa av) (aw (aa (dP rfl a)) aK)))))))
theorem OR(T:Tx K mg):CK P w K mg base 3 "is_late" nQ:=by
 obtain⟨b,a⟩:=T.d19;refine cq ["thing"] T.d0a bE fun c d=>?_
 walk_at "d"
 exact(dQ (dO (kt (kc rfl T.d1l (fv 0) (jq rfl T.d1r Db rfl)))))
 walk_at "a"
 exact(zl (nu c.units (fv 0) (aa cw)) (gJ (nu c.units (fv 0) (aa cw))));exact bS
 walk_at "a"
 exact(fo (aU (bc d (sG T) c (aw (fv 0) (aw (aa cw) (aw (aa av) aK))))) (gJ (aU (bc d (kQ T) c (aw (aZ (fv 0) (aa av)) (aw (aa av) (aw (aa (dP rfl a)) aK)))))))
theorem OS(T:Tx K mg):CK P w K mg base 3 "check_moment" rX:=by
 obtain⟨f,g⟩:=T.xt0;obtain⟨b,a,_⟩:=g.at_ (c:="NoMoment") (by decide +kernel);refine cq ["thing"] T.d0e bE fun d e=>?_
 walk_at "g"
 exact(gm (dQ (dO (aU (bc e (wo T) d (aw (fv 0) aK))))));refine dt ?_;exact(kz e d.hd rfl a);exact bS
theorem OT(T:Tx K mg):CK P w K mg base 3 "check_runner" rY:=by
 obtain⟨f,g⟩:=T.xt0;obtain⟨b,a,_⟩:=g.at_ (c:="NoRunner") (by decide +kernel);refine cq ["thing"] T.d0g bE fun d e=>?_
 walk_at "g"
 exact(gm (dQ (dO (aU (bc e (OJ T) d (aw (fv 0) aK))))));refine dt ?_;exact(kz e d.hd rfl a);exact bS
theorem OU(T:Tx K mg):CK P w K mg base 3 "check_term" rZ:=by
 obtain⟨f,g⟩:=T.xt0;obtain⟨b,a,_⟩:=g.at_ (c:="NoTerm") (by decide +kernel);refine cq ["thing"] T.d0h bE fun d e=>?_
 walk_at "g"
 exact(gm (dQ (dO (aU (bc e (OK T) d (aw (fv 0) aK))))));refine dt ?_;exact(kz e d.hd rfl a);exact bS
theorem OV(T:Tx K mg):CK P w K mg base 3 "daily_time" se:=by
 obtain⟨b,a⟩:=T.d1c;refine cq ["zone","hour","count","day"] T.d0o bE fun c d=>?_
 walk_at "c"
 exact(dS (aU (bc d (Dh T) c (aw (fv 0) (aw (fv 1) aK)))) (fv 2))
 walk_at "e"
 exact(bc d (OL T) c (aw (fv 0) (aw (dS (kC (fv 3) (aa (dP rfl a))) (fv 1)) aK)))
theorem OW(T:Tx K mg):CK P w K mg base 3 "times_by" kN:=by
 obtain⟨b,a⟩:=T.d1c;refine cq ["zone","plan","moment","last_day"] T.d0q bE fun c d=>?_
 walk_at "d"
 exact(pb (fv 2) (aa av))
 walk_at "a"
 exact(aa av);exact bS
 walk_at "d"
 exact(gp c.units (aZ (fv 1) (aa av)) (aa cw))
 walk_at "a"
 exact(oO (vk (aZ (fv 1) (aa av)) (fv 2)) (aa av) (aa av));exact bS
 walk_at "d"
 exact(gp c.units (aZ (fv 1) (aa av)) (aa cw))
 walk_at "a"
 exact(hZ uM (iO (tK rfl) uE rfl T.d1o sE (az (aa av) (az (dS (vi (ie (fv 2) (aZ (fv 1) (aa av))) (aZ (fv 1) (aa av))) (aa av)) bt))));exact bS
 walk_at "c"
 exact(vi (ie (aU (bc d (OM T) c (aw (fv 0) (aw (fv 2) aK)))) (aZ (fv 1) (aa av))) (aa (dP rfl a)))
 walk_at "a"
 exact(dS (ie (fv 3) (aU (bc d (Dh T) c (aw (fv 0) (aw (aZ (fv 1) (aa av)) aK))))) (aa av))
theorem ez(T:Tx K mg):CK P w K mg base 3 "_law_draw" dg:=by
 refine cq ["_law_script","_law_town","_law_many"] T.d0u bE fun a b=>?_;refine en ?_ ?_;(refine zJ ?_ ?_ ?_ ?_ ?_ ?_ ?_ ?_<;>try walk_at "z");exact(pv 1);exact(aa av)
 walk_at "e"
 exact(bc b (ON T) a (br (pv 0) (aw (Mr rfl T.d1m (pv 1)) (aw (fv 2) aK))))
theorem OX(T:Tx K mg):CK P w K mg base 4 "is_zone" sf:=by
 refine cq ["thing"] T.d07 bE fun a b=>?_
 walk_at "a"
 exact(fo (aU (bc b (sF T) a (aw (fv 0) (aw (aa av) aK)))) (fo (aU (bc b (Dg T) a (aw (aZ (fv 0) (aa av)) aK))) (gJ (aU (bc b (OP T) a (aw (aZ (fv 0) (aa av)) aK))))))
theorem OY(T:Tx K mg):CK P w K mg base 4 "is_deed" sg:=by
 refine cq ["thing"] T.d0b bE fun a b=>?_
 walk_at "a"
 exact(fo (aU (bc b (sF T) a (aw (fv 0) (aw (aa av) aK)))) (fo (aU (bc b (OQ T) a (aw (aZ (fv 0) (aa av)) aK))) (fo (aU (bc b (OR T) a (aw (aZ (fv 0) (aa av)) aK))) (gJ (kt (kc rfl T.d1l (aZ (fv 0) (aa av)) (jq rfl T.d1i CZ rfl)))))))
theorem wq(T:Tx K mg):CK P w K mg base 4 "time_of" iC:=by
 refine cq ["zone","plan","count"] T.d0p bE fun a b=>?_
 walk_at "d"
 exact(gp a.units (aZ (fv 1) (aa av)) (aa cw))
 walk_at "a"
 exact(oO (gp a.units (fv 2) (aa av)) (aZ (fv 1) (aa av)) (aa eK));exact bS
 walk_at "d"
 exact(gp a.units (aZ (fv 1) (aa av)) (aa cw))
 walk_at "a"
 exact(dS (aZ (fv 1) (aa av)) (kC (fv 2) (aZ (fv 1) (aa av))));exact bS
 walk_at "e"
 exact(bc b (OV T) a (aw (fv 0) (aw (aZ (fv 1) (aa av)) (aw (fv 2) aK))))
theorem kR(T:Tx K mg):CK P w K mg base 4 "_law_pick" ik:=by
 refine cq ["_law_script","_law_town","_law_some"] T.d0v bE fun a b=>?_
 walk_at "a"
 exact(aZ (fv 2) (aU (bc b (ez T) a (br (pv 0) (br (pv 1) (aw (hZ oP (iO lA oJ rfl T.d1m PySem.boot_len (az (fv 2) bt))) aK))))))
theorem Di(T:Tx K mg)(d:dW K mg C):CM P w K mg base C 4 "check_call" (iZ C):=by
 obtain⟨g,h⟩:=T.xt0;obtain⟨b,a,_⟩:=h.at_ (c:="NoMoment") (by decide +kernel);refine ff ["self","runner","moment"] d.d26 bE fun e f=>?_
 walk_at "i"
 exact(bc f (OT T) e (aw (fv 1) aK))
 walk_at "i"
 exact(bc f (OS T) e (aw (fv 2) aK))
 walk_at "g"
 exact(jC (zn (rm (cy d.cl d.d1y (pv 0)) (aa eK)) (zm (pb (fv 2) (cy d.cl d.d1y (pv 0))))));refine dt ?_;exact(kz f e.hd rfl a);exact bS
theorem OZ(T:Tx K mg)(c:dW K mg C):CM P w K mg base C 4 "waiting" (nU C):=by
 obtain⟨_,_,f,d,a,b⟩:=OW (P:=P) (w:=w) (base:=base) T;obtain⟨g,e⟩:=T.d1d;refine ff ["self"] c.d2j bE fun j h=>?_
 walk_at "d"
 exact(vm (cy c.cl c.d1y (pv 0)) (aa eK))
 walk_at "e"
 exact(AM h.1 (al.of (own:=["deed"]) (capN:=[]) (caps:=[])) rfl rfl (DI.S (lM (cy c.cl c.d1v (pv 0)))) (fun _ _ _ _ _ _ i=>⟨(dG 0),kv,(aa av)⟩));exact bS
 walk_at "e"
 exact(AM h.1 (al.of (own:=["deed","many"]) (capN:=["self"]) (caps:=[0])) rfl rfl (ND rfl T.d1t c.cl c.d1v c.d20 (pv 0) (pv 0)) (fun _ _ _ _ _ _ i=>⟨(oS (n:=2) rfl (ia (dG 0) (ia (dG 1) oR))),kv,(ie (aU (nG (eO i) b a j (aw (Aw c.cl c.d23 (pv 2)) (aw (aZ (fv 0) (aa (dP rfl e))) (aw (Aw c.cl c.d1y (pv 2)) aK))))) (fv 1))⟩))
theorem Pa(T:Tx K mg):CK P w K mg base 5 "are_deeds" we:=by
 obtain⟨_,_,f,e,b,c⟩:=OY (P:=P) (w:=w) (base:=base) T;obtain⟨d,a⟩:=T.d18;refine cq ["thing"] T.d0c bE fun g h=>?_
 walk_at "d"
 exact(jC (lK (gm (dQ (dO (kt (kc rfl T.d1l (fv 0) (jq rfl T.d1s pX rfl)))))) (lJ (rk (hZ oP (iO lA oJ rfl T.d1m PySem.boot_len (az (fv 0) bt))) (aa (dP rfl a))))))
 walk_at "a"
 exact(aa gc);exact bS
 walk_at "a"
 exact(hZ LX (iO (Lb rfl) Lc rfl T.d1h OB (az (qY h.1 (al.of (own:=["deed"]) (capN:=[]) (caps:=[])) rfl rfl (lM (fv 0)) (fun _ _ _ _ _ _ i=>⟨(dG 0),kv,(aU (nG (eO i) c b g (aw (fv 0) aK)))⟩)) bt)))
theorem Pb(T:Tx K mg):CK P w K mg base 5 "check_zone" pO:=by
 obtain⟨f,g⟩:=T.xt0;obtain⟨b,a,_⟩:=g.at_ (c:="NoZone") (by decide +kernel);refine cq ["thing"] T.d0d bE fun d e=>?_
 walk_at "g"
 exact(gm (dQ (dO (aU (bc e (OX T) d (aw (fv 0) aK))))));refine dt ?_;exact(kz e d.hd rfl a);exact bS
theorem Pc(T:Tx K mg):CK P w K mg base 5 "is_left_out" mr:=by
 obtain⟨c,b⟩:=T.d1d;obtain⟨d,a⟩:=T.d1e;refine cq ["zone","deed","count","now","later"] T.d0r bE fun e f=>?_
 walk_at "d"
 exact(gp e.units (aZ (fv 1) (aa (dP rfl a))) (aa cw))
 walk_at "a"
 exact(aa gc);exact bS
 walk_at "d"
 exact(gp e.units (aZ (fv 1) (aa (dP rfl a))) (aa cw))
 walk_at "c"
 exact(aU (bc f (wq T) e (aw (fv 0) (aw (aZ (fv 1) (aa (dP rfl b))) (aw (dS (fv 2) (aa av)) aK)))))
 walk_at "a"
 exact(fo (vl (fv 4) (aa eK)) (gJ (MW (fv 4) (fv 3))));exact bS
 walk_at "a"
 exact(MX (ie (fv 3) (aU (bc f (wq T) e (aw (fv 0) (aw (aZ (fv 1) (aa (dP rfl b))) (aw (fv 2) aK)))))) (aZ (aZ (fv 1) (aa (dP rfl a))) (aa av)))
theorem Pd(T:Tx K mg):CK P w K mg base 5 "_law_zone" pQ:=by
 refine cq ["_law_script","_law_town","_law_shifts","_law_moment","_law_k"] T.d0w bE fun a b=>?_
 walk_at "h"
 exact(ni bt)
 walk_at "c"
 exact(aa av)
 walk_at "j"
 exact(oV (oG rfl T.d1q (az (aU (bc b (ez T) a (br (pv 0) (br (pv 1) (aw (aa av) aK))))) bt)));exact(dG 4)
 walk_at "c"
 exact(dS (dS (fv 3) (aa av)) (aU (bc b (ez T) a (br (pv 0) (br (pv 1) (aw (aU (bc b (kR T) a (br (pv 0) (br (pv 1) (aw (gn (az (aa av) (az (aa av) (az (aa av) bt)))) aK))))) aK))))))
 walk_at "l"
 exact(pv 2);exact(dD (az (fv 3) (az (ie (aU (bc b (ez T) a (br (pv 0) (br (pv 1) (aw (aa av) aK))))) (aa av)) bt)))
 walk_at "d"
 exact(gp a.units (aU (bc b (ez T) a (br (pv 0) (br (pv 1) (aw (aa av) aK))))) (aa av));refine dt ?_;(refine zI (own:=["_law_k","_law_one","_law_more"]) (capN:=[]) (caps:=[]) ?_ ?_ ?_ ?_ ?_ ?_ ?_ ?_ ?_ ?_ ?_ ?_<;>try walk_at "z");exact b.1;exact(al.of (own:=["_law_k","_law_one","_law_more"]) (capN:=[]) (caps:=[]));exact(Mm (KN rfl T.d1j (az (fv 2) bt)));exact(fun _ _ _ _ _ _ c=>⟨(oS (n:=2) rfl (ia (dG 0) (ia (oS (n:=2) rfl (ia (dG 1) (ia (dG 2) oR))) oR))),kv,(dD (az (fv 1) (az (dS (aa av) (nt (fv 0) (aa av))) bt)))⟩);exact bS
 walk_at "a"
 exact(dD (az (ie (aU (bc b (ez T) a (br (pv 0) (br (pv 1) (aw (aa av) aK))))) (aa av)) (az (hZ zo (yt tS yM rfl T.d1s pX (az (fv 2) bt))) bt)))
theorem Pe(T:Tx K mg):CK P w K mg base 5 "_law_plan" nV:=by
 refine cq ["_law_script","_law_town","_law_kind","_law_step"] T.d0x bE fun a b=>?_
 walk_at "c"
 exact(aU (bc b (ez T) a (br (pv 0) (br (pv 1) (aw (aa av) aK)))))
 walk_at "d"
 exact(gp a.units (fv 2) (aa av))
 walk_at "a"
 exact(dD (az (aa cw) (az (aU (bc b (ez T) a (br (pv 0) (br (pv 1) (aw (aU (bc b (kR T) a (br (pv 0) (br (pv 1) (aw (gn (az (aa av) (az (aa av) (az (aa av) bt)))) aK))))) aK))))) bt)));exact bS
 walk_at "d"
 exact(pb (fv 2) (aa av))
 walk_at "c"
 exact(dS (aa av) (aU (bc b (ez T) a (br (pv 0) (br (pv 1) (aw (aU (bc b (kR T) a (br (pv 0) (br (pv 1) (aw (gn (az (aa av) (az (aa av) (az (aa av) bt)))) aK))))) aK))))))
 walk_at "a"
 exact(dD (az (aa cw) (az (aU (bc b (ez T) a (br (pv 0) (br (pv 1) (aw (aa av) aK))))) (az (fv 3) bt))));exact bS
 walk_at "a"
 exact(dD (az (aa cw) (az (aU (bc b (ez T) a (br (pv 0) (br (pv 1) (aw (aa av) aK))))) bt)))
theorem Pf(T:Tx K mg):CK P w K mg base 5 "_law_call" nW:=by
 refine cq ["_law_script","_law_town","_law_now","_law_holder","_law_runner","_law_moment","_law_kind"] T.d0z bE fun a b=>?_
 walk_at "c"
 exact(aU (bc b (ez T) a (br (pv 0) (br (pv 1) (aw (aa av) aK)))))
 walk_at "d"
 exact(jC (zn (rm (fv 3) (aa eK)) (zm (rk (aU (bc b (ez T) a (br (pv 0) (br (pv 1) (aw (aa av) aK))))) (aa av)))))
 walk_at "k"
 exact(fv 3);exact bS
 walk_at "c"
 exact(dS (fv 2) (aU (bc b (kR T) a (br (pv 0) (br (pv 1) (aw (gn (az (aa av) (az (aa av) (az (aa av) (az (aa av) (az (aa av) (az (aU (bc b (ez T) a (br (pv 0) (br (pv 1) (aw (aa av) aK))))) bt))))))) aK))))))
 walk_at "c"
 exact(aU (bc b (ez T) a (br (pv 0) (br (pv 1) (aw (aa av) aK)))))
 walk_at "d"
 exact(jC (lK (vm (fv 3) (aa eK)) (lJ (pb (fv 6) (aa av)))))
 walk_at "a"
 exact(dD (az (aa cw) (az (fv 4) (az (fv 5) (az (dS (aa av) (aU (bc b (ez T) a (br (pv 0) (br (pv 1) (aw (aU (bc b (kR T) a (br (pv 0) (br (pv 1) (aw (gn (az (aa av) (az (aa av) bt))) aK))))) aK)))))) bt)))));exact bS
 walk_at "d"
 exact(gp a.units (fv 6) (aa av))
 walk_at "a"
 exact(dD (az (aa cw) (az (fv 4) (az (fv 5) bt))));exact bS
 walk_at "a"
 exact(aZ (MV (gn (az (dD (az (aa cw) (az (fv 4) (az (fv 5) bt)))) (az (dD (az (aa cw) (az (fv 4) (az (fv 5) bt)))) bt))) (aa av)) (ie (fv 6) (aa av)))
theorem wu(T:Tx K mg)(d:dW K mg C):CM P w K mg base C 5 "check_holder" (et C):=by
 obtain⟨g,h⟩:=T.xt0;obtain⟨b,a,_⟩:=h.at_ (c:="NotHolder") (by decide +kernel);refine ff ["self","runner","moment"] d.d27 bE fun e f=>?_
 walk_at "i"
 exact(ij f d.cl (Di T d) e (pv 0) (aw (fv 1) (aw (fv 2) aK)))
 walk_at "g"
 exact(jC (lK (gm (dQ (dO (aU (ij f d.cl (De T d) e (pv 0) (aw (fv 2) aK)))))) (lJ (lT e.units (cy d.cl d.d1w (pv 0)) (fv 1)))));refine dt ?_;exact(kz f e.hd rfl a);exact bS
theorem Pg(T:Tx K mg)(a:dW K mg C):CM P w K mg base C 5 "take" (ms C):=by
 refine ff ["self","runner","moment","term"] a.d28 bE fun b c=>?_
 walk_at "i"
 exact(ij c a.cl (Di T a) b (pv 0) (aw (fv 1) (aw (fv 2) aK)))
 walk_at "i"
 exact(bc c (OU T) b (aw (fv 3) aK))
 walk_at "f"
 exact a.cl;exact a.d1y;exact(pv 0);exact(fv 2);rfl
 walk_at "d"
 exact(gm (dQ (dO (aU (ij c a.cl (De T a) b (pv 0) (aw (fv 2) aK))))));refine dt ?_;refine Ni ?_ ?_ ?_ ?_;exact a.cl;exact a.d1x;exact(pv 0);exact tp
 walk_at "g"
 exact(lT b.units (cy a.cl a.d1w (pv 0)) (fv 1))
 walk_at "a"
 exact(aa gc);exact bS
 walk_at "f"
 exact a.cl;exact a.d1w;exact(pv 0);exact(fv 1);rfl
 walk_at "f"
 exact a.cl;exact a.d21;exact(pv 0);exact(dS (fv 2) (fv 3));rfl
 walk_at "a"
 exact(aa gc)
theorem Ph(T:Tx K mg)(a:dW K mg C):CM P w K mg base C 5 "first_unsettled" (wj C):=by
 obtain⟨c,b⟩:=T.d1d;refine ff ["self","found","deed","count","moment"] a.d2c bE fun d e=>?_
 walk_at "h"
 exact(ni bt)
 walk_at "j"
 exact(oV (oG rfl T.d1q (az (hZ oP (iO lA oJ rfl T.d1m PySem.boot_len (az (cy a.cl a.d1v (pv 0)) bt))) bt)));exact(dG 2)
 walk_at "c"
 exact(Ng a.cl a.d20 (pv 0) (pv 2))
 walk_at "c"
 exact(aU (bc e (wq T) d (aw (cy a.cl a.d23 (pv 0)) (aw (aZ (aZ (cy a.cl a.d1v (pv 0)) (fv 2)) (aa (dP rfl b))) (aw (fv 3) aK)))))
 walk_at "g"
 exact(rm (fv 4) (aa eK))
 walk_at "l"
 exact(pv 1);exact(dD (az (fv 4) (az (fv 2) (az (fv 3) bt))));exact bS
 walk_at "a"
 exact(NM (xO d) rfl rfl T.d1p (pv 1))
theorem Pj(T:Tx K mg):CK P w K mg base 6 "check_deeds" pR:=by
 obtain⟨f,g⟩:=T.xt0;obtain⟨b,a,_⟩:=g.at_ (c:="NoDeeds") (by decide +kernel);refine cq ["thing"] T.d0f bE fun d e=>?_
 walk_at "g"
 exact(gm (dQ (dO (aU (bc e (Pa T) d (aw (fv 0) aK))))));refine dt ?_;exact(kz e d.hd rfl a);exact bS
theorem Pk(T:Tx K mg):CK P w K mg base 6 "_law_deeds" sx:=by
 refine cq ["_law_script","_law_town","_law_made","_law_k","_law_hours","_law_late"] T.d0y bE fun a b=>?_
 walk_at "h"
 exact(ni bt)
 walk_at "j"
 exact(oV (oG rfl T.d1q (az (aU (bc b (ez T) a (br (pv 0) (br (pv 1) (aw (aU (bc b (kR T) a (br (pv 0) (br (pv 1) (aw (gn (az (aa av) (az (aa av) (az (aa av) bt)))) aK))))) aK))))) bt)));exact(dG 3)
 walk_at "c"
 exact(aU (bc b (ez T) a (br (pv 0) (br (pv 1) (aw (aU (bc b (kR T) a (br (pv 0) (br (pv 1) (aw (gn (az (aa av) (az (aa av) (az (aa av) bt)))) aK))))) aK)))))
 walk_at "c"
 exact(aU (bc b (kR T) a (br (pv 0) (br (pv 1) (aw (gn (az (aa cw) (az (aa cw) (az (dD (az (aa cw) (az (fv 4) bt))) bt)))) aK)))))
 walk_at "l"
 exact(pv 2);exact(dD (az (aU (bc b (Pe T) a (br (pv 0) (br (pv 1) aK)))) (az (fv 5) (az (nu a.units (aU (bc b (ez T) a (br (pv 0) (br (pv 1) (aw (aa av) aK))))) (aa av)) bt))))
 walk_at "a"
 exact(hZ zo (yt tS yM rfl T.d1s pX (az (fv 2) bt)))
theorem Pl(T:Tx K mg)(a:dW K mg C):CM P w K mg base C 6 "give" (kO C):=by
 refine ff ["self","runner","moment"] a.d29 bE fun b c=>?_
 walk_at "i"
 exact(ij c a.cl (wu T a) b (pv 0) (aw (fv 1) (aw (fv 2) aK)))
 walk_at "f"
 exact a.cl;exact a.d1y;exact(pv 0);exact(fv 2);rfl;refine dt ?_;refine vp ?_ ?_ ?_ ?_ ?_;exact a.cl;exact a.d1w;exact(pv 0);exact(aa eK);rfl
theorem Pm(T:Tx K mg)(a:dW K mg C):CM P w K mg base C 6 "step_ahead" (mw C):=by
 refine ff ["self","runner","moment","found","deed","count","word"] a.d2f bE fun b c=>?_
 walk_at "c"
 exact(aU (vK c a.cl (Ph T a) b (pv 0)))
 walk_at "d"
 exact(vm (fv 3) (aa eK))
 walk_at "a"
 exact(dD (az (aa cw) (az (aa eK) bt)));exact bS
 walk_at "d"
 exact(rk (aZ (fv 3) (aa av)) (fv 2))
 walk_at "a"
 exact(dD (az (aa cw) (az (aZ (fv 3) (aa av)) bt)));exact bS
 walk_at "c"
 exact(aZ (fv 3) (aa av))
 walk_at "c"
 exact(aZ (fv 3) (aa av))
 walk_at "c"
 exact(oO (dQ (dO (aU (bc c (Pc T) b (aw (cy a.cl a.d23 (pv 0)) (aw (aZ (cy a.cl a.d1v (pv 0)) (fv 4)) (aw (fv 5) (aw (fv 2) aK)))))))) (aa cw) (aa cw))
 walk_at "e"
 exact(ij c a.cl (wn T a) b (pv 0) (aw (dD (az (fv 2) (az (fv 1) (az (fv 6) (az (fv 4) (az (fv 5) bt)))))) aK))
theorem Pn(T:Tx K mg)(b:dW K mg C):CM P w K mg base C 6 "finish" (jb C):=by
 obtain⟨g,h⟩:=T.xt0;obtain⟨d,a,_⟩:=h.at_ (c:="Nothing") (by decide +kernel);refine ff ["self","runner","moment"] b.d2g bE fun e f=>?_
 walk_at "i"
 exact(ij f b.cl (wu T b) e (pv 0) (aw (fv 1) (aw (fv 2) aK)))
 walk_at "d"
 exact(gm (dQ (dO (aU (vK f b.cl (Df T b) e (pv 0))))));refine dt ?_;exact(kz f e.hd rfl a);exact bS
 walk_at "f"
 exact b.cl;exact b.d1y;exact(pv 0);exact(fv 2);rfl
 walk_at "e"
 exact(ij f b.cl (wn T b) e (pv 0) (aw (dD (az (fv 2) (az (fv 1) (az (aa cw) (az (aZ (cy b.cl b.d1u (pv 0)) (aa av)) (az (aZ (cy b.cl b.d1u (pv 0)) (aa av)) bt)))))) aK))
theorem Po(T:Tx K mg)(a:dW K mg C):CM P w K mg base C 7 "__init__" (jR C):=by
 refine ff ["self","zone","deeds"] a.d24 bE fun c b=>?_
 walk_at "i"
 exact(bc b (Pb T) c (aw (fv 1) aK))
 walk_at "i"
 exact(bc b (Pj T) c (aw (fv 2) aK))
 walk_at "f"
 exact a.cl;exact a.d23;exact(pv 0);exact(fv 1);rfl
 walk_at "f"
 exact a.cl;exact a.d1v;exact(pv 0);exact(fv 2);rfl
 walk_at "f"
 exact a.cl;exact a.d1y;exact(pv 0);exact(aa eK);rfl
 walk_at "f"
 exact a.cl;exact a.d1w;exact(pv 0);exact(aa eK);rfl
 walk_at "f"
 exact a.cl;exact a.d21;exact(pv 0);exact(aa av);rfl
 walk_at "f"
 exact a.cl;exact a.d1x;exact(pv 0);exact(aa av);rfl
 walk_at "f"
 exact a.cl;exact a.d1u;exact(pv 0);exact(aa eK);rfl;refine en ?_ ?_;refine Nj ?_ ?_ ?_ ?_;exact a.cl;exact a.d1z;exact(pv 0);rfl;refine en ?_ ?_;refine Nk ?_ ?_ ?_ ?_;exact a.cl;exact a.d22;exact(pv 0);rfl;refine dt ?_;(refine NG (own:=["deed"]) (capN:=[]) (caps:=[]) ?_ ?_ ?_ ?_ ?_ ?_ ?_ ?_ ?_ ?_ ?_<;>try walk_at "z");exact a.cl;exact a.d20;exact(pv 0);exact b.1;exact(al.of (own:=["deed"]) (capN:=[]) (caps:=[]));exact(lM (fv 2));exact(fun _ _ _ _ _ _ d=>⟨(dG 0),kv,(aa av)⟩)
theorem Pp(T:Tx K mg)(a:dW K mg C):CM P w K mg base C 7 "step" (jc C):=by
 refine ff ["self","runner","moment"] a.d2d bE fun b c=>?_
 walk_at "i"
 exact(ij c a.cl (wu T a) b (pv 0) (aw (fv 1) (aw (fv 2) aK)))
 walk_at "f"
 exact a.cl;exact a.d1y;exact(pv 0);exact(fv 2);rfl
 walk_at "d"
 exact(dQ (dO (aU (vK c a.cl (Df T a) b (pv 0)))))
 walk_at "a"
 exact(dD (az (aa cw) (az (aZ (cy a.cl a.d1u (pv 0)) (aa av)) (az (aZ (cy a.cl a.d1u (pv 0)) (aa av)) bt))));exact bS
 walk_at "d"
 exact(rm (cy a.cl a.d1u (pv 0)) (aa eK))
 walk_at "e"
 exact(ij c a.cl (OO T a) b (pv 0) (aw (fv 1) (aw (fv 2) aK)));exact bS
 walk_at "e"
 exact(ij c a.cl (Pm T a) b (pv 0) (aw (fv 1) (aw (fv 2) aK)))
theorem Pq(T:Tx K mg)(o:dW K mg C):CK P w K mg base 8 "_law_do" (dN C):=by
 obtain⟨_,_,_,p,m,a,c⟩:=Pn (P:=P) (w:=w) (base:=base) T o;obtain⟨_,_,_,u,r,d,e⟩:=Pg (P:=P) (w:=w) (base:=base) T o;obtain⟨_,_,_,v,s,f,g⟩:=Pl (P:=P) (w:=w) (base:=base) T o;obtain⟨_,_,_,x,t,k,l⟩:=Pp (P:=P) (w:=w) (base:=base) T o;obtain⟨L,M,y⟩:=T.d10;have G:=OF P w base T y;obtain⟨z,N⟩:=T.xt0;refine cq ["_law_hall","_law_call_here","_law_e"] T.d11 bE fun q H=>?_;unfold jS;refine dt ?_;refine ME (D:=z) (i:=2) ?_ ?_ ?_ ?_ ?_ ?_ ?_ ?_ ?_ ?_<;>try walk_at "z"
 .exact H.1
 .intro I A B O n J;refine en ?_ ?_
  .refine oU ?_ ?_ ?_
   .exact(gp q.units (aZ (fv 1) (aa av)) (aa cw))
   .refine dt ?_;refine nh ?_
    .exact(rA n o.cl e d q (pv 0) (aw (aZ (fv 1) (aa av)) (aw (aZ (fv 1) (aa av)) (aw (aZ (fv 1) (aa av)) aK))))
   .exact bS
  refine en ?_ ?_
  .refine oU ?_ ?_ ?_
   .exact(gp q.units (aZ (fv 1) (aa av)) (aa cw))
   .refine dt ?_;refine nh ?_
    .exact(rA n o.cl g f q (pv 0) (aw (aZ (fv 1) (aa av)) (aw (aZ (fv 1) (aa av)) aK)))
   .exact bS
  refine en ?_ ?_
  .refine oU ?_ ?_ ?_
   .exact(gp q.units (aZ (fv 1) (aa av)) (aa cw))
   .refine dt ?_;refine nh ?_
    .exact(rA n o.cl l k q (pv 0) (aw (aZ (fv 1) (aa av)) (aw (aZ (fv 1) (aa av)) aK)))
   .exact bS
  refine dt ?_;refine nh ?_
  .exact(rA n o.cl c a q (pv 0) (aw (aZ (fv 1) (aa av)) (aw (aZ (fv 1) (aa av)) aK)))
 .intro I Q A B E;refine dt ?_;refine nh ?_
  .exact(zv (ML (eO E) G (ba.h (q.mono (j:=1) (by decide)) _) rfl y.mgf y.fn.kp y.b (br (pv 2) aK)))
variable(P w)(base) in
theorem Pr{C:Addr}{g:Addr}{fd:FuncData}(T:Tx K mg)(o:dW K mg C)(D:FD K mg "law" kP ["_law_script"] g fd):bJ P w K mg base (cx P w) 9 g fd ["_law_script"] (cW K mg (BO C)):=by
 obtain⟨_,_,_,u,t,a,c⟩:=Po (P:=P) (w:=w) (base:=base) T o;obtain⟨_,_,_,G,y,f,h⟩:=OI (P:=P) (w:=w) (base:=base) T o;obtain⟨_,_,_,L,I,q,r⟩:=OG (P:=P) (w:=w) (base:=base) T o;obtain⟨_,_,J,z,i,j⟩:=Pq (P:=P) (w:=w) (base:=base) T o;obtain⟨_,_,_,N,M,l,m⟩:=OH (P:=P) (w:=w) (base:=base) T o;obtain⟨_,_,_,x,v,d,e⟩:=OZ (P:=P) (w:=w) (base:=base) T o;refine uy D.fn Oz (by decide) ?_;intro Q A O s H E F R n p
 walk_at "h"
 exact(ni bt)
 walk_at "c"
 exact(aU (bc p (Pd T) n (br (pv 0) (br (pv 1) aK))))
 walk_at "c"
 exact(aU (bc p (Pk T) n (br (pv 0) (br (pv 1) aK))))
 walk_at "h"
 exact(Of (C:=C) p.1 (fun _ B=>(vu (eO B) (o.make a.mt) c (n.mono (by decide)) rfl o.mg a.b (az (fv 2) (az (fv 3) bt)))) (fun _ B=>(vu (eO B) (o.make a.mt) c (n.mono (by decide)) rfl o.mg a.b (az (fv 2) (az (fv 3) bt)))))
 walk_at "h"
 exact AR
 walk_at "h"
 exact AR
 walk_at "h"
 exact(ni (az (aa av) (az (aa av) bt)))
 walk_at "j"
 exact(oV (oG rfl T.d1q (az (kC (aa av) (aU (bc p (ez T) n (br (pv 0) (br (pv 1) (aw (aa av) aK)))))) bt)));exact(dG 8)
 walk_at "c"
 exact(nt (fv 8) (aa av))
 walk_at "c"
 exact(aU (bc p (Pf T) n (br (pv 0) (br (pv 1) (aw (Oc (pv 7) (pv 9)) (aw (aZ (aU (gP p o.cl r q n (pv 4) (pv 9))) (aa av)) aK))))));refine en ?_ ?_;exact(Od (pv 7) (pv 9) (aZ (fv 10) (aa av)));refine en ?_ ?_;exact(AO p.1 (pv 5) (pv 9) (fun _ B=>(fv 10)));refine en ?_ ?_;exact(AO p.1 (pv 6) (pv 9) (fun _ B=>(aU (vO (eO B) j i n (pv 4) (pv 9) (pv 10)))));refine en ?_ ?_;exact(AJ (gP p o.cl m l n (pv 4) (pv 9)));refine dt ?_;exact(AJ (gP p o.cl e d n (pv 4) (pv 9)))
 walk_at "j"
 exact(oV (oG rfl T.d1q (az (aa av) bt)));exact(dG 9)
 walk_at "h"
 exact(vu p (o.make a.mt) c (n.mono (by decide)) rfl o.mg a.b (az (fv 2) (az (fv 3) bt)))
 walk_at "d"
 exact(lT n.units (NU (k:=0) (jm:=11) p.1 (al.of (own:=["_law_call_here"]) (capN:=["_law_other"]) (caps:=[11])) rfl rfl rfl (uR (aZ (AL (pv 5) (fv 5)) (fv 9))) (fun _ _ _ _ _ _ B=>⟨(dG 0),kv,(aU (nG (eO B) j i n (br (pv 1) (aw (fv 0) aK))))⟩)) (aZ (AL (pv 6) (fv 6)) (fv 9)))
 walk_at "a"
 exact(aa gc);exact bS
 walk_at "d"
 exact(lT n.units (aU (lZ p o.cl h f n (pv 11))) (aU (gP p o.cl h f n (pv 4) (pv 9))))
 walk_at "a"
 exact(aa gc);exact bS
 walk_at "g"
 exact(jC (lK (lT n.units (aU (lZ p o.cl m l n (pv 11))) (aU (gP p o.cl m l n (pv 4) (pv 9)))) (lJ (lT n.units (aU (lZ p o.cl e d n (pv 11))) (aU (gP p o.cl e d n (pv 4) (pv 9)))))))
 walk_at "a"
 exact(aa gc);exact bS
 walk_at "a"
 exact(aa gc)
end
end K3
namespace K3
open PySem L2 L2.L3 Due
noncomputable def dh(d:PyData)(lo a:Int):Bool:=match d with
 |.int i=>decide (lo<=i)&&decide (i<=a)
 |_=>false
noncomputable def dX:PyData->Bool
 |.dict _=>false
 |_=>true
@[simp]theorem Rz:cE "int" "int" = some true:=by decide
@[simp]theorem RA:cE "int" "bool" = some false:=by decide
@[simp]theorem RB:cE "bool" "int" = some true:=by decide
@[simp]theorem RC:cE "bool" "bool" = some true:=by decide
@[simp]theorem RD:cE "NoneType" "int" = some false:=by decide
@[simp]theorem RE:cE "str" "int" = some false:=by decide
@[simp]theorem RF:cE "list" "int" = some false:=by decide
@[simp]theorem RG:cE "tuple" "int" = some false:=by decide
@[simp]theorem RH:cE "int" "tuple" = some false:=by decide
@[simp]theorem RI:cE "bool" "tuple" = some false:=by decide
@[simp]theorem RJ:cE "NoneType" "tuple" = some false:=by decide
@[simp]theorem RK:cE "str" "tuple" = some false:=by decide
@[simp]theorem RL:cE "list" "tuple" = some false:=by decide
@[simp]theorem RM:cE "tuple" "tuple" = some true:=by decide
theorem pY(i j):PyData.eqv (.int i) (.int j)=(i==j):=by rw[PyData.eqv]
theorem nX(i):SeqAt.shaped (.int i)=true:=by rfl
theorem kS(h:dX d=true):gT [.dat d,.dat (.int lo),.dat (.int a)]=.rt (.dat (.bool (dh d lo a))) []:=by
 cases d with
 |dict _=>cases h
 |int i=>
  by_cases h1:lo<=i
  .simp[aM,gT,rK,dh,h1]
  .simp[aM,gT,rK,dh,h1]
 |_=>simp[aM,gT,rK,dh]
noncomputable def gf(d:PyData)(n:Int):Bool:=match d with
 |.tuple ds=>decide ((ds.length:Int)=n)
 |_=>false
theorem pZ(h:dX d=true):kL [.dat d,.dat (.int n)]=.rt (.dat (.bool (gf d n))) []:=by
 cases d with
 |dict _=>cases h
 |tuple ds=>simp[aM,kL,vS,gf,nX,pY];rfl
 |_=>simp[aM,kL,vS,gf]
theorem Dj(h:dX d=true):pJ [.dat d]=.rt (.dat (.bool (dh d (-12) 14))) []:=by simp[aM,pJ,Bg,kS h]
theorem wv(h:dX d=true):nO [.dat d]=.rt (.dat (.bool (dh d 0 9999))) []:=by simp[aM,nO,Bh,kS h]
theorem Dk(h:dX d=true):rX [.dat d]=if dh d 0 9999=true then .rt (.dat .none) []else .ex "NoMoment" []:=by simp only[rX,Bp];cases a:dh d 0 9999<;>simp[aM,wv h,a]
noncomputable abbrev cR(p:Int×Int):PyData:=.tuple [.int p.1,.int p.2]
abbrev cu(a:Int)(b:Sh):PyData:=.tuple [.int a,.tuple (b.map cR)]
@[simp]theorem RN{x:PyData}:bD (x::l) 0=some x:=by unfold bD cn;rw[if_pos (by lia),if_pos (by simp<;>lia)];rfl
@[simp]theorem nY{y:PyData}:bD (x::y::l) 1=some y:=by unfold bD cn;rw[if_pos (by lia),if_pos (by simp<;>lia)];rfl
@[simp]theorem RO{x:PyData}:bD (l++[x]) (-1)=some x:=by unfold bD cn;rw[if_neg (by lia),if_pos (by simp;lia)];simp;rw[show(-1+((l.length:Int)+1)).toNat=l.length by lia];simp
theorem Dl:∀{a lo x},fz lo a->(∀p∈a,p.1<=9999/\-12<=p.2/\p.2<=14)->∃e y,df (aE 2) rS (a.map cR) [c,some (.dat (.int (lo+1))),x]=.nx [c,e,y]
 |[],_,_,_,_=>⟨_,_,rfl⟩
 | (b,k)::r,lo,x,⟨h1,h2⟩,ho=>by
  obtain⟨e,y,f⟩:=Dl (lo:=b) (c:=c) (x:=some (.dat (cR (b,k)))) h2 fun p g=>ho p (bC _ g);have hb:=ho (b,k) List.mem_cons_self;refine⟨e,y,?_⟩;rw[List.map_cons,df,<-f];have:rS [c,some (.dat (.int (lo+1))),some (.dat (cR (b,k)))]=.nx [c,some (.dat (.int (b+1))),some (.dat (cR (b,k)))]:=by simp[aM,rS,pZ (d:=.tuple [.int b,.int k]) rfl,gf,Dj (d:=.int k) rfl,kS (d:=.int b) rfl,dh,hb.2.1,hb.2.2,hb.1,show lo+1<=b by lia]
  simp[aM,this]
theorem Ps(f:a.length<=6)(b:fz 0 a)(d:∀p∈a,p.1<=9999/\-12<=p.2/\p.2<=14):rT [.dat (.tuple (a.map cR))]=.rt (.dat (.bool true)) []:=by obtain⟨e,y,h⟩:=Dl (lo:=0) (c:=some (.dat (.tuple (a.map cR)))) (x:=none) b d;simp[aM,rT,Bo,show ¬ (6:Int)<a.length by lia]at h ⊢;rw[h];simp
theorem Pt(z:iz a b):sf [.dat (cu a b)]=.rt (.dat (.bool true)) []:=by have h1:=z.ah.1;simp[aM,sf,Bu,pZ (d:=cu a b) rfl,gf,Dj (d:=.int a) rfl,dh,h1.1,h1.2,Ps z.len z.rise fun p c=>⟨z.top p c,z.ah.2 p c⟩]
theorem Pu(z:iz a b):pO [.dat (cu a b)]=.rt (.dat .none) []:=by simp[aM,pO,Bz,Pt z]
theorem Dm:∀{ss a x},∃y,df (aE 3) vT (ss.map cR) [z,some (.dat (.int m)),some (.dat (.int a)),x]=.nx [z,some (.dat (.int m)),some (.dat (.int (gr a ss m))),y]
 |[],_,_=>⟨_,rfl⟩
 | (b,c)::r,a,x=>by
  obtain⟨y,d⟩:=Dm (m:=m) (z:=z) (ss:=r) (a:=if b<=m then c else a) (x:=some (.dat (cR (b,c))));refine⟨y,?_⟩;rw[List.map_cons,df];unfold gr;rw[<-d]
  by_cases h:b<=m<;>simp[aM,vT,h]
theorem Pw:rL [.dat (cu a b),.dat (.int m)]=.rt (.dat (.int (dM a b m))) []:=by obtain⟨y,h⟩:=Dm (m:=m) (z:=some (.dat (cu a b))) (ss:=b) (a:=a) (x:=none);simp[aM,rL,AY]at h ⊢;rw[h];simp[aM,dM]
theorem sH{P:ag->Prop}:∀{its ys U},P U->(∀d∈its,∀U,P U->∃a b,g d U=some a/\e a=.ok (f d) b/\P b)->ys.length+its.length<=sizeLine->cp g du e its ys U=some (ys++its.map f)
 |[],ys,U,_,_,_=>by simp[aM,cp]
 |d::r,ys,U,c,h,i=>by obtain⟨a,b,h1,h2,h3⟩:=h d List.mem_cons_self U c;simp only[List.length_cons]at i;unfold cp;rw[h1];simp only[du,h2];rw[if_pos (by lia),sH h3 (fun d hd=>h d (bC _ hd)) (by simp;lia)];simp
theorem sI{P:ag->Prop}:∀{its ys U},P U->(∀d∈its,∀U,P U->∃b a c,g d U=some b/\t b=.ok (p d) a/\P a/\(p d=true->e a=.ok (f d) c/\P c))->ys.length+its.length<=sizeLine->cp g t e its ys U=some (ys++(its.filter p).map f)
 |[],ys,U,_,_,_=>by simp[aM,cp]
 |d::r,ys,U,j,h,k=>by
  obtain⟨b,a,c,h1,h2,h3,l⟩:=h d List.mem_cons_self U j;simp only[List.length_cons]at k;unfold cp;rw[h1];simp only[h2];cases i:p d with
  |true=>obtain⟨m,n⟩:=l i;simp only[m];rw[if_pos (by lia),sI n (fun d hd=>h d (bC _ hd)) (by simp;lia)];simp[aM,i]
  |false=>simp only;rw[sI h3 (fun d hd=>h d (bC _ hd)) (by lia)];simp[aM,i]
@[simp]theorem RP:(0:Nat)<=sizeLine:=by decide
@[simp]theorem Dn:(1:Nat)<=sizeLine:=by decide
@[simp]theorem Do:(2:Nat)<=sizeLine:=by decide
@[simp]theorem RQ:(3:Nat)<=sizeLine:=by decide
@[simp]theorem RS:(4:Nat)<=sizeLine:=by decide
@[simp]theorem RT:(5:Nat)<=sizeLine:=by decide
@[simp]theorem RU:(6:Nat)<=sizeLine:=by decide
@[simp]theorem RV:(7:Nat)<=sizeLine:=by decide
@[simp]theorem RW:(8:Nat)<=sizeLine:=by decide
@[simp]theorem RX:(9:Nat)<=sizeLine:=by decide
@[simp]theorem Px:(10:Nat)<=sizeLine:=by decide
@[simp]theorem Py:(11:Nat)<=sizeLine:=by decide
@[simp]theorem Pz:(12:Nat)<=sizeLine:=by decide
@[simp]theorem PB:(13:Nat)<=sizeLine:=by decide
@[simp]theorem PC:(14:Nat)<=sizeLine:=by decide
noncomputable def dY:Option Int->PyData
 |none=>.none
 |some e=>.int e
def fg(p:Int×Option Int×Int):PyData:=.tuple [.int p.1,dY p.2.1,.int p.2.2]
theorem Dp:∀d  s a,oK (.int s::d.map fun p=>.int p.1) ((d.map fun p=>PyData.int p.1)++[.none]) (.int a::d.map fun p=>.int p.2)=(bj s a d).map fg
 |[],s,a=>rfl
 |(b,c)::r,s,a=>by have e:=Dp r b c;simp only[List.map_cons,List.cons_append,bj];rw[<-e];rfl
theorem Dq(l:b.length<=6):pE [.dat (cu a b)]=.rt (.dat (.list ((bj 0 a b).map fg))) []:=by
 have sz:1000<sizeLine:=by decide
 have c:=sH (e:=vU) (g:=aE 0) (f:=fun d=>match d with |.tuple (x::_)=>x |_=>.none) (P:=fun U=>U.length=1) (its:=b.map cR) (ys:=[]) (U:=[none]) rfl (fun d hd U h=>by
  obtain⟨p,_,rfl⟩:=List.mem_map.mp hd
  match U,h with
  |[y],_=>exact⟨_,_,rfl,by simp[aM,vU];rfl,rfl⟩) (by simp;lia)
 have i:=sH (e:=vV) (g:=aE 0) (f:=fun d=>match d with |.tuple (_::x::_)=>x |_=>.none) (P:=fun U=>U.length=1) (its:=b.map cR) (ys:=[]) (U:=[none]) rfl (fun d hd U h=>by
  obtain⟨p,_,rfl⟩:=List.mem_map.mp hd
  match U,h with
  |[y],_=>exact⟨_,_,rfl,by simp[aM,vV];rfl,rfl⟩) (by simp;lia)
 simp only[List.nil_append,List.map_map]at c i;have j:List.map ((fun d=>match d with |.tuple (x::_)=>x |_=>PyData.none)∘cR) b=b.map fun p=>PyData.int p.1:=by apply List.map_congr_left;intro p _;rfl
 have k:List.map ((fun d=>match d with |.tuple (_::x::_)=>x |_=>PyData.none)∘cR) b=b.map fun p=>PyData.int p.2:=by apply List.map_congr_left;intro p _;rfl
 rw[j]at c;rw[k]at i;have z:=Dp b 0 a;simp[aM,pE,AZ,c,i,show b.length<=sizeLine by lia,show b.length+1<=sizeLine by lia,show 1+b.length<=sizeLine by lia,z]
theorem sJ:pF [.dat (.int m),.dat (dY e)]=.rt (.dat (.bool (fA m e))) []:=by cases e<;>simp[aM,pF,Ba,dY,fA]
theorem qa:∀d  s a,(bj s a d).length=d.length+1
 |[],s,a=>rfl
 |(b,c)::r,s,a=>by simp[aM,bj,qa r b c]
theorem PD(d:a.length<=63)(e:0<=k):∃v,nL [.scr a,.dat (.int k)]=.rt (.dat (.int v)) []:=by
 by_cases h:k<a.length
 .have:∃v,bD a k=some v:=by unfold bD cn;rw[if_pos e,if_pos h];exact⟨a[k.toNat]'(by lia),by simp⟩
  obtain⟨v,c⟩:=this;exact⟨v,by simp[aM,nL,rM,d,h,c]⟩
 .by_cases b:a=[]
  .subst b;exact⟨0,by simp[aM,nL,rM]at h ⊢;simp[aM,show ¬ k<0 by lia]⟩
  .have f:0<(a.length:Int):=by have:=List.length_pos_iff.mpr b;lia
   have:∃v,bD a (k % a.length)=some v:=by have h1:=Int.emod_nonneg k (show(a.length:Int)≠0 by lia);have h2:=Int.emod_lt_of_pos k f;unfold bD cn;rw[if_pos h1,if_pos h2];exact⟨a[(k % a.length).toNat]'(by lia),by simp⟩
   obtain⟨v,c⟩:=this;exact⟨v * 31+k,by simp[aM,nL,rM,d,h,b,c,kj,ki,List.length_pos_iff.mpr b]⟩
theorem PH(c:b.length<=63)(d:0<=k)(a:0<many):∃v,0<=v/\v<many/\rR [.scr b,.dat (.int k),.dat (.int many)]=.rt (.dat (.int v)) []:=by
 obtain⟨v,e⟩:=PD (k:=k) c d;generalize hd:(v+7919 * k+1) * 48271 % 2147483647=dr;have f:0<=dr:=by lia
 have g:dr<2147483647:=by lia
 refine⟨(dr * dr+7 * dr+k) % 2147483629 % many,Int.emod_nonneg _ (by lia),Int.emod_lt_of_pos _ a,?_⟩;simp[aM,rR,Bn,e,ki,kj,hd,a,show -18446744073709551616<dr by lia,show dr<18446744073709551616 by lia]
theorem eA(a:ns.length<=63)(c:t.length<1000000)(b:0<many):∃v,0<=v/\v<many/\dg [.scr ns,.own true (.l t),.dat (.int many)]=.rt (.dat (.int v)) [.l (t++[.int 0])]:=by
 have sz:1000000<sizeLine:=by decide
 obtain⟨v,h1,h2,h3⟩:=PH (k:=((t++[PyData.int 0]).length:Int)) a (by lia) b;refine⟨v,h1,h2,?_⟩;simp at h3;simp[aM,dg,Bt,show t.length<sizeLine by lia,h3]
theorem kT(a:ns.length<=63)(b:t.length<1000000)(hd:ds≠[])(c:ds.length<=1000):∃d∈ds,ik [.scr ns,.own true (.l t),.dat (.list ds)]=.rt (.dat d) [.l (t++[.int 0])]:=by
 have e:=List.length_pos_iff.mpr hd;obtain⟨v,h1,h2,h3⟩:=eA (many:=ds.length) a b (by lia);have:bD ds v=some (ds[v.toNat]'(by lia)):=by unfold bD cn;rw[if_pos h1,if_pos h2];simp
 refine⟨ds[v.toNat]'(by lia),List.getElem_mem _,?_⟩;simp[aM,ik,Bw,h3,this]
theorem Dr(i):SeqAt.shaped (.int i)=true:=by rfl
theorem PJ{ss:Sh}(a:ns.length<=63)(h:t.length<900)(j:ss.length<=100):∃d c,0<=d/\d<200/\-12<=c/\c<=14/\
  sk [some (.scr ns),some (.own true (.l t)),some (.own false (.l (ss.map cR))),some (.dat (.int m)),k]=.nx [some (.scr ns),some (.own true (.l (t++[.int 0]++[.int 0]++[.int 0]))),some (.own false (.l ((ss++[(m+1+d,c)]).map cR))),some (.dat (.int (m+1+d))),k]:=by
 have sz:1000<sizeLine:=by decide
 obtain⟨w,b,h1⟩:=kT (ns:=ns) (t:=t) (ds:=[.int 4,.int 40,.int 200]) a (by lia) (by simp) (by simp);have:∃i:Int,w=.int i/\0<i/\i<=200:=by
  simp at b;rcases b with rfl |rfl |rfl
  .exact⟨4,rfl,by lia,by lia⟩
  .exact⟨40,rfl,by lia,by lia⟩
  .exact⟨200,rfl,by lia,by lia⟩
 obtain⟨i,rfl,f,n⟩:=this;obtain⟨d,g,o,h2⟩:=eA (ns:=ns) (t:=t++[.int 0]) (many:=i) a (by simp;lia) f;obtain⟨e,p,q,h3⟩:=eA (ns:=ns) (t:=t++[.int 0]++[.int 0]) (many:=27) a (by simp;lia) (by lia);refine⟨d,e - 12,g,by lia,by lia,by lia,?_⟩;simp only[List.append_assoc,List.cons_append,List.nil_append]at h1 h2 h3;simp[aM,sk,h1,h2,h3,show ss.length<sizeLine by lia]
theorem Ds(g:ns.length<=63):∀{its t ss m k},t.length+3 * its.length<900->ss.length+its.length<=100->∃new t' b f,df (aE 4) sk its [some (.scr ns),some (.own true (.l t)),some (.own false (.l (ss.map cR))),some (.dat (.int m)),k]=.nx [some (.scr ns),some (.own true (.l t')),some (.own false (.l ((ss++new).map cR))),some (.dat (.int b)),f]/\
  fz m new/\(∀p∈new,p.1<=m+200 * its.length/\-12<=p.2/\p.2<=14)/\new.length=its.length/\t'.length=t.length+3 * its.length
 |[],t,ss,m,k,_,_=>⟨[],t,m,k,by simp[aM,df],trivial,fun p a=>(by cases a),rfl,rfl⟩
 |x::r,t,ss,m,k,h1,h2=>by
  simp only[List.length_cons]at h1 h2;obtain⟨d,c,o,q,h,i,e⟩:=PJ (ns:=ns) (t:=t) (ss:=ss) (m:=m) (k:=some (.dat x)) g (by lia) (by lia);obtain⟨new,t',b,f,g1,g2,g3,j,n⟩:=Ds g (its:=r) (t:=t++[.int 0]++[.int 0]++[.int 0]) (ss:=ss++[(m+1+d,c)]) (m:=m+1+d) (k:=some (.dat x)) (by simp;lia) (by simp;lia);refine⟨(m+1+d,c)::new,t',b,f,?_,⟨by lia,g2⟩,fun p a=>?_,by simp[aM,j],by rw[n];simp;lia⟩
  .rw[df];simp only[aE,List.set_cons_succ,List.set_cons_zero,e];rw[g1];simp
  .simp only[List.length_cons];rcases List.mem_cons.mp a with rfl |a
   .exact⟨by simp;lia,h,i⟩
   .have:=g3 p a;exact⟨by lia,this.2⟩
noncomputable def jd:Nat->Sh->Sh
 |_,[]=>[]
 |i,(b,_)::r=>(b,1+(i:Int) % 2)::jd (i+1) r
theorem Dt:∀{a i lo},fz lo a->fz lo (jd i a)
 |[],_,_,_=>trivial
 |(b,c)::r,i,lo,⟨h1,h2⟩=>⟨h1,Dt h2⟩
theorem ww:∀{d i T},(∀p∈d,p.1<=T)->∀p∈jd i d,p.1<=T/\-12<=p.2/\p.2<=14
 |[],_,_,_,p,a=>by cases a
 | (b,c)::r,i,T,h,p,a=>by
  rcases List.mem_cons.mp a with rfl |a
  .exact⟨h (b,c) List.mem_cons_self,by simp;lia,by simp;lia⟩
  .exact ww (fun q e=>h q (bC _ e)) p a
theorem wx:∀a  i,(jd i a).length=a.length
 |[],_=>rfl
 |(b,c)::r,i=>by simp[aM,jd,wx r (i+1)]
noncomputable def qb(d:PyData):PyData:=match d with
 |.tuple [.int i,.tuple [b,_]]=>.tuple [b,.int (1+i % 2)]
 |_=>.none
theorem Du:∀a  k,((a.map cR).mapIdx fun i d=>qb (.tuple [.int ((i+k:Nat):Int),d]))=(jd k a).map cR
 |[],k=>rfl
 | (b,c)::r,k=>by
  rw[List.map_cons,List.mapIdx_cons];have e:=Du r (k+1);simp only[jd,List.map_cons];rw[<-e]
  congr 1
  .simp[aM,qb,cR]
  .congr 1
   funext i d;rw[show i+1+k=i+(k+1) by lia]
theorem PL(j:ns.length<=63)(H:t.length<=100):∃a h t',pQ [.scr ns,.own true (.l t)]=.rt (.dat (cu a h)) [.l t']/\h.length<=6/\fz 0 h/\rJ a h/\(∀p∈h,p.1<=1200)/\t'.length<=t.length+30:=by
 have sz:1000<sizeLine:=by decide
 obtain⟨n,z,I,r⟩:=eA (ns:=ns) (t:=t) (many:=7) j (by lia) (by lia);obtain⟨new,o,J,L,g1,g2,g3,D,A⟩:=Ds (ns:=ns) j (its:=intsFrom 0 n.toNat) (t:=t++[.int 0]) (ss:=[]) (m:=0) (k:=none) (by simp[aM,qQ];lia) (by simp[aM,qQ];lia);rw[qQ]at g3 D A;simp only[List.length_append,List.length_cons,List.length_nil]at A;obtain⟨x,M,N,s⟩:=eA (ns:=ns) (t:=o) (many:=2) j (by lia) (by lia);obtain⟨y,O,Q,h3⟩:=eA (ns:=ns) (t:=o++[.int 0]) (many:=27) j (by simp;lia) (by lia);simp only[List.map_nil,List.nil_append,List.append_assoc,List.cons_append]at g1 h3;have nl:new.length<=6:=by lia
 have top:∀p∈new,p.1<=1200:=fun p b=>by have:=(g3 p b).1;lia
 by_cases B:x=0
 .refine⟨y - 12,jd 0 new,o++[.int 0,.int 0],?_,by rw[wx];exact nl,Dt g2,⟨⟨by lia,by lia⟩,fun p b=>(ww top p b).2⟩,fun p b=>(ww top p b).1,by simp;lia⟩;have c:=sH (e:=wg) (g:=ft 2 (cD (aE 0) (cD (ft 2 (cD (aE 1) (cD (aE 2) fr))) fr))) (f:=qb) (P:=fun U=>U.length=3) (its:=L3.numbered (new.map cR)) (ys:=[]) (U:=[none,none,none]) rfl (fun d hd U E=>by
   unfold L3.numbered at hd;obtain⟨i,C,rfl⟩:=List.mem_mapIdx.mp hd
   match U,E with
   |[u,v,w],_=>
    have G:(new.map cR)[i]=cR (new[i]'(by simpa using C)):=by simp
    rw[G];generalize new[i]'(by simpa using C)=q;refine⟨[some (.dat (.int i)),some (.dat (.int q.1)),some (.dat (.int q.2))],[some (.dat (.int i)),some (.dat (.int q.1)),some (.dat (.int q.2))],by simp,?_,rfl⟩;simp[aM,wg,qb,cR,kj]) (by unfold L3.numbered;simp;lia)
  have rd:(L3.numbered (new.map cR)).map qb=(jd 0 new).map cR:=by
   unfold L3.numbered;rw[<-Du new 0];apply List.ext_getElem
   .simp
   .intro i r s;simp
  rw[rd]at c;simp only[List.nil_append]at c;have l2:(jd 0 new).length<=sizeLine:=by rw[wx];lia
  subst B;simp[aM,pQ,wh,r,z,show n<4611686018427387904 by lia,show -4611686018427387904<=n by lia,g1,s,h3,Dr,pY,c,l2]
 .refine⟨y - 12,new,o++[.int 0,.int 0],?_,nl,g2,⟨⟨by lia,by lia⟩,fun p b=>(g3 p b).2⟩,top,by simp;lia⟩;simp[aM,pQ,wh,r,z,show n<4611686018427387904 by lia,show -4611686018427387904<=n by lia,g1,s,h3,Dr,pY,B]
@[simp]theorem nZ:("NotHolder":Str)∈er:=by decide +kernel
@[simp]theorem Dv:("Nothing":Str)∈er:=by decide +kernel
theorem PM(l:List Int):SeqAt.shaped (.list (l.map PyData.int))=true:=by
 have h1:∀l:List Int,PyData.canLayAll0 (l.map PyData.int)=true:=fun l=>by induction l with |nil=>rfl |cons x r a=>simpa[PyData.canLayAll0,PyData.canLay0] using a
 have h2:∀l:List Int,PyData.depthAll (l.map PyData.int)=0:=fun l=>by induction l with |nil=>rfl |cons x r a=>simpa[PyData.depthAll,PyData.depth] using a
 unfold SeqAt.shaped;simp[PyData.canLay0,PyData.depth,h1,h2]
theorem PN(h:SeqAt.shaped d=true):aM false d d=some (.bool true):=by simp[aM,h,yZ h]
theorem Dw(h:SeqAt.shaped d=true):aM true d d=some (.bool false):=by simp[aM,h,yZ h]
theorem PP(i j):aM true (.int i) (.int j)=some (.bool (!decide (i=j))):=by
 by_cases h:i=j
 .subst h;simp[Dw (nX i)]
 .simp[aM,nX,pY,h]
theorem kU(i j):aM false (.int i) (.int j)=some (.bool (decide (i=j))):=by
 by_cases h:i=j
 .subst h;simp[PN (nX i)]
 .simp[aM,nX,pY,h]
theorem fC(h:m U=.nx a):aA m k U=k a:=by simp[h]
theorem PQ(i j):PyData.eqv (.str i) (.str j)=(i==j):=by rw[PyData.eqv]
theorem wy(h:PyData.strOk x=true):SeqAt.shaped (.str x)=true:=by unfold SeqAt.shaped;simp[PyData.canLay0,PyData.depth,h]
theorem bW(a:PyData.strOk x=true)(b:PyData.strOk y=true):aM false (.str x) (.str y)=some (.bool (x==y)):=by simp[aM,wy a,wy b,PQ]
theorem fh:PyData.strOk "once" = true:=by decide +kernel
theorem gU:PyData.strOk "every" = true:=by decide +kernel
theorem jT:PyData.strOk "daily" = true:=by decide +kernel
@[simp]theorem RY:(("every":Str)==("once":Str))=false:=by decide +kernel
@[simp]theorem RZ:(("daily":Str)==("once":Str))=false:=by decide +kernel
@[simp]theorem Sa:(("daily":Str)==("every":Str))=false:=by decide +kernel
@[simp]theorem Sb:cE "str" "str" = some true:=by decide
noncomputable abbrev gV:cz->PyData
 |.once m=>.tuple [.str "once",.int m]
 |.every f s=>.tuple [.str "every",.int f,.int s]
 |.daily h=>.tuple [.str "daily",.int h]
@[simp]theorem Sc{w:PyData}:bD (x::y::w::l) 2=some w:=by unfold bD cn;rw[if_pos (by lia),if_pos (by simp<;>lia)];rfl
theorem mx(a:PyData.strOk x=true)(b:PyData.strOk w=true):kM [.dat (.tuple (.str x::rest)),.dat (.str w),.dat (.int n)]=.rt (.dat (.bool (decide (((rest.length+1:Nat):Int)=n)&&(x==w)))) []:=by
 by_cases h:(((rest.length+1:Nat):Int)=n)
 .simp[kM,vX,pZ (d:=.tuple (.str x::rest)) rfl,gf,bW a b];simp at h;simp[h]
 .simp[kM,vX,pZ (d:=.tuple (.str x::rest)) rfl,gf,bW a b];simp at h;simp[h]
theorem PR(ok:fB p):nP [.dat (gV p)]=.rt (.dat (.bool true)) []:=by
 cases p with
 |once m=>simp[nP,rV,mx fh fh,wv (d:=.int m) rfl,dh,ok.1,ok.2]
 |every f s=>simp[nP,rV,mx gU fh,mx gU gU,wv (d:=.int f) rfl,kS (d:=.int s) rfl,dh,ok.1.1,ok.1.2,ok.2.1,ok.2.2]
 |daily h=>simp[nP,rV,mx jT fh,mx jT gU,mx jT jT,kS (d:=.int h) rfl,dh,ok.1,ok.2]
def sK(g:Int)(d:PyData):Bool:=match d with
 |.tuple [.int s,.none,.int a]=>fA (max s (g - a)) none
 |.tuple [.int s,.int e,.int a]=>fA (max s (g - a)) (some e)
 |_=>false
noncomputable def sL(g:Int)(d:PyData):PyData:=match d with
 |.tuple [.int s,_,.int a]=>.int (max s (g - a))
 |_=>.none
theorem Dx(g p):sK g (fg p)=fA (max p.1 (g - p.2.2)) p.2.1:=by obtain⟨s,e,a⟩:=p;cases e<;>rfl
theorem Dy(g p):sL g (fg p)=.int (max p.1 (g - p.2.2)):=by obtain⟨s,e,a⟩:=p;cases e<;>rfl
theorem PU(h:b.length<=6):rP [.dat (cu a b),.dat (.int g)]=.rt (.dat (.int (gu g 0 a b))) []:=by
 have sz:1000<sizeLine:=by decide
 have c:=sI (t:=vY) (e:=vZ) (g:=ft 3 (cD (aE 0) (cD (aE 1) (cD (aE 2) fr)))) (p:=sK g) (f:=sL g) (P:=fun U=>∃x y z,U=[x,y,z,some (.dat (.int g))]) (its:=(bj 0 a b).map fg) (ys:=[]) (U:=[none,none,none,some (.dat (.int g))]) ⟨_,_,_,rfl⟩ (fun d hd U i=>by
  obtain⟨p,_,rfl⟩:=List.mem_map.mp hd;obtain⟨x,y,z,rfl⟩:=i;refine⟨[some (.dat (.int p.1)),some (.dat (dY p.2.1)),some (.dat (.int p.2.2)),some (.dat (.int g))],[some (.dat (.int p.1)),some (.dat (dY p.2.1)),some (.dat (.int p.2.2)),some (.dat (.int g))],[some (.dat (.int p.1)),some (.dat (dY p.2.1)),some (.dat (.int p.2.2)),some (.dat (.int g))],by simp[fg],by simp[vY,sJ,Dx],⟨_,_,_,rfl⟩,fun _=>⟨by simp[vZ,Dy],⟨_,_,_,rfl⟩⟩⟩) (by simp[qa];lia)
 have f1:(((bj 0 a b).map fg).filter (sK g)).map (sL g)=(nK g (bj 0 a b)).map PyData.int:=by unfold nK;have j:sL g∘fg=fun p=>.int (max p.1 (g - p.2.2)):=funext (Dy g);have k:sK g∘fg=fun p=>fA (max p.1 (g - p.2.2)) p.2.1:=funext (Dx g);rw[List.filter_map,List.map_map,List.map_map,j,k];rfl
 have l:(nK g (bj 0 a b)).length<=7:=by unfold nK;rw[List.length_map];exact Nat.le_trans (List.length_filter_le _ _) (by rw[qa];lia)
 obtain⟨t,e⟩:=AS g b 0 a;rw[f1,e]at c;rw[e,List.length_cons]at l;simp only[List.nil_append,List.map_cons]at c;simp[rP,Bk,Dq h,c,show t.length+1<=sizeLine by lia]
theorem Dz:pL [.dat (cu a b),.dat (.int h)]=.rt (.dat (.int (gQ a b h))) []:=by simp[pL,Bm,Pw,gQ,mU]
theorem PV{c:Nat}(d:b.length<=6):se [.dat (cu a b),.dat (.int h),.dat (.int c)]=.rt (.dat (.int (gR a b h c))) []:=by simp[se,Bs,Dz,PU d,gR,ki]
theorem PX(a:-1000000<=j)(b:j<=1000000):ki i j=true:=by unfold ki;rw[decide_eq_true (show -(2 ^ 64)<j by lia),decide_eq_true (show j<2 ^ 64 by lia)];simp
theorem PY(a:1<=s)(b:s<=999):iC [.dat z,.dat (gV (.every f s)),.dat (.int c)]=.rt (.dat (.int (f+c * s))) []:=by simp[iC,pN,bW gU fh,bW gU gU,PX (i:=c) (show -1000000<=s by lia) (show s<=1000000 by lia)]
theorem PZ{c:Nat}(d:b.length<=6)(ok:fB p):iC [.dat (cu a b),.dat (gV p),.dat (.int c)]=.rt (.dat (dY (cA a b p c))) []:=by
 cases p with
 |once m=>
  by_cases e:c=0
  .subst e;simp[iC,pN,bW fh fh,kU,cA,dY]
  .simp[iC,pN,bW fh fh,kU,cA,dY,e]
 |every f s=>exact PY ok.2.1 ok.2.2
 |daily h=>simp[iC,pN,bW jT fh,bW jT gU,cA,dY,PV d]
theorem Qa(h:l≠[]):∃M,M∈l/\(∀x∈l,x<=M)/\mZ [.list (l.map PyData.int)]=some (.int M):=by
 have key:∀(r:List Int) (i:Int),(∀x∈i::r,x<=r.foldl max i)/\r.foldl max i∈i::r:=fun r=>by
  induction r with
  |nil=>intro i;simp
  |cons j r c=>
   intro i;obtain⟨b,h2⟩:=c (max i j);have h3:=b (max i j) List.mem_cons_self;refine⟨fun x a=>?_,?_⟩
   .simp only[List.foldl_cons];rcases List.mem_cons.mp a with rfl |a
    .omega
    .rcases List.mem_cons.mp a with rfl |a
     .omega
     .exact b x (bC _ a)
   .simp only[List.foldl_cons];rcases List.mem_cons.mp h2 with e |e
    .rw[e];rcases Int.le_total i j with q |q
     .rw[Int.max_eq_right q];simp
     .rw[Int.max_eq_left q];simp
    .exact bC _ (bC _ e)
 cases l with
 |nil=>exact absurd rfl h
 |cons i r=>obtain⟨b,h2⟩:=key r i;exact⟨_,h2,b,by unfold mZ;simp only[LW];rfl⟩
noncomputable def sM(m:Int)(d:PyData):Bool:=match d with
 |.tuple (.int s::_)=>decide (s<=m)
 |_=>false
noncomputable def qc(m:Int)(d:PyData):PyData:=match d with
 |.tuple [.int _,.none,.int a]=>.int (m+a)
 |.tuple [.int _,.int e,.int a]=>.int ((if decide (m<e)=true then m else e - 1)+a)
 |_=>.none
theorem DC(m p):sM m (fg p)=decide (p.1<=m):=rfl
theorem DH(m p):qc m (fg p)=.int ((if fA m p.2.1=true then m else p.2.1.getD 0 - 1)+p.2.2):=by obtain⟨s,e,a⟩:=p;cases e<;>simp[qc,fg,dY,fA]
theorem Qb(j:i.length<=6)(k:fz 0 i)(l:0<=m):∃f,rQ [.dat (cu a i),.dat (.int m)]=.rt (.dat (.int f)) []/\(∃t,0<=t/\t<=m/\dM a i t=f)/\∀t,0<=t->t<=m->dM a i t<=f:=by
 have sz:1000<sizeLine:=by decide
 have c:=sI (t:=wa) (e:=pK) (g:=ft 3 (cD (aE 0) (cD (aE 1) (cD (aE 2) fr)))) (p:=sM m) (f:=qc m) (P:=fun U=>∃x y z,U=[x,y,z,some (.dat (.int m))]) (its:=(bj 0 a i).map fg) (ys:=[]) (U:=[none,none,none,some (.dat (.int m))]) ⟨_,_,_,rfl⟩ (fun d hd U n=>by
  obtain⟨p,_,rfl⟩:=List.mem_map.mp hd;obtain⟨x,y,z,rfl⟩:=n;refine⟨[some (.dat (.int p.1)),some (.dat (dY p.2.1)),some (.dat (.int p.2.2)),some (.dat (.int m))],[some (.dat (.int p.1)),some (.dat (dY p.2.1)),some (.dat (.int p.2.2)),some (.dat (.int m))],[some (.dat (.int p.1)),some (.dat (dY p.2.1)),some (.dat (.int p.2.2)),some (.dat (.int m))],by simp[fg],by simp[wa,DC],⟨_,_,_,rfl⟩,fun _=>⟨?_,⟨_,_,_,rfl⟩⟩⟩;rw[DH];obtain⟨s,e,b⟩:=p;cases e with
  |none=>simp[pK,sJ,fA]
  |some e=>
   by_cases h:m<e
   .simp[pK,sJ,fA,h]
   .have h1:=sJ (m:=m) (e:=some e);simp only[dY,fA]at h1;simp[pK,h1,fA,h,dY]) (by simp[qa];lia)
 have f1:(((bj 0 a i).map fg).filter (sM m)).map (qc m)=(iB m (bj 0 a i)).map PyData.int:=by unfold iB;have o:qc m∘fg=fun p=>.int ((if fA m p.2.1=true then m else p.2.1.getD 0 - 1)+p.2.2):=funext (DH m);have q:sM m∘fg=fun p=>decide (p.1<=m):=funext (DC m);rw[List.filter_map,List.map_map,List.map_map,o,q];rfl
 obtain⟨g1,g2⟩:=AW (m:=m) i 0 a k;obtain⟨B,r,_⟩:=g2 0 (Int.le_refl _) l;obtain⟨M,h1,h2,h3⟩:=Qa (List.ne_nil_of_mem r);rw[f1]at c;simp only[List.nil_append]at c;have C:(iB m (bj 0 a i)).length<=7:=by unfold iB;rw[List.length_map];exact Nat.le_trans (List.length_filter_le _ _) (by rw[qa];lia)
 refine⟨M,by simp[rQ,Bl,Dq j,c,h3,show(iB m (bj 0 a i)).length<=sizeLine by lia],g1 M h1,fun t u v=>?_⟩;obtain⟨x,w,A⟩:=g2 t u v;exact Int.le_trans A (h2 x w)
theorem Qc(z:iz a b)(ok:fB p)(u:gS a b p m n):kN [.dat (cu a b),.dat (gV p),.dat (.int m)]=.rt (.dat (.int n)) []:=by
 by_cases j:m<0
 .have i:n=0:=by refine Nat.eq_zero_of_not_pos fun h=>?_;obtain⟨v,d,o⟩:=u.in_ 0 h;have:=Oo z ok d;lia
  subst i;simp[kN,nR,j]
 cases p with
 |once x=>
  by_cases e:x<=m
  .have i:n=1:=by
    rcases Nat.lt_trichotomy n 1 with h |h |h
    .have q:n=0:=by lia
     subst q;rcases u.out with h |⟨v,h,d⟩
     .rw[cA,if_pos rfl]at h;cases h
     .rw[cA,if_pos rfl]at h;cases h;lia
    .exact h
    .obtain⟨v,d,_⟩:=u.in_ 1 h;rw[cA,if_neg (by decide)]at d;cases d
   subst i;simp[kN,nR,j,bW fh fh,e]
  .have i:n=0:=by refine Nat.eq_zero_of_not_pos fun h=>?_;obtain⟨v,d,o⟩:=u.in_ 0 h;rw[cA,if_pos rfl]at d;cases d;lia
   subst i;simp[kN,nR,j,bW fh fh,e]
 |every f s=>
  obtain⟨C,D,E⟩:=id ok;have r:=Ou (by lia) u;have w:max 0 ((m - f) / s+1)=(n:Int):=by
   rw[r];unfold vR;rw[show m+1 - f - 1=m - f by lia]
   by_cases h:f<m+1
   .rw[if_pos h];have:=Int.ediv_nonneg (show 0<=m - f by lia) (show 0<=s by lia);lia
   .rw[if_neg h];have:(m - f) / s<0:=Int.ediv_neg_of_neg_of_pos (by lia) (by lia);lia
  simp[kN,nR,j,bW gU fh,bW gU gU,mU,show 0<s by lia,show s<1073741824 by lia,w]
 |daily hh=>
  obtain⟨f,y,⟨t,A,B,G⟩,f2⟩:=Qb (a:=a) z.len z.rise (show 0<=m by lia);have key:∀c:Nat,gR a b hh c<=m↔(gQ a b hh+c) * 24+hh<=f:=fun c=>by
   obtain⟨g1,g2,g3⟩:=nJ (g:=(gQ a b hh+c) * 24+hh) (a:=a) z.rise;have e:gR a b hh c=gu ((gQ a b hh+c) * 24+hh) 0 a b:=rfl;rw[e];constructor
   .intro h;exact Int.le_trans g2 (f2 _ g1 h)
   .intro h;refine Int.le_trans (Int.not_lt.mp fun k=>?_) B;have:=g3 t A k;lia
  have fd:=AU (a:=a) (h:=hh) (ss:=b);have H:=f2 0 (Int.le_refl _) (by lia);have i:(f - hh) / 24 - gQ a b hh+1=((n:Nat):Int):=by
   have h1:¬ (gQ a b hh+n) * 24+hh<=f:=fun h=>by have o:=(key n).mpr h;have:=Oq (p:=.daily hh) (v:=gR a b hh n) z ok u (bG _) rfl;lia
   by_cases I:0<n
   .obtain⟨v,d,l⟩:=u.in_ (n - 1) (by lia);cases d;have h2:=(key (n - 1)).mp l;lia
   .omega
  simp[kN,nR,j,bW jT fh,bW jT gU,y,mU,Dz,i]
def wz(o:gE):Prop:=∃x r,o=.rt (.dat (.bool true)) (x::r)
theorem jU(h:m U=.nx U')(q:wz (k U')):wz (aA m k U):=by rw[fC h];exact q
theorem Qd(h:wz (m (some (.scr a)::List.replicate n none))):bp 1 (n+1) m [.scr a]=.rt (.dat (.bool true)) []:=by obtain⟨x,r,e⟩:=h;simp[e]
theorem wA(i r):L3.intsFrom i (r+1)=.int i::L3.intsFrom (i+1) r:=by
 unfold L3.intsFrom;rw[List.range_succ_eq_map,List.map_cons,List.map_map]
 congr 1
 .simp
 .apply List.map_congr_left;intro k _;simp;lia
theorem Qe(b:ns.length<=63)(o:t.length<=900):∃p t',fB p/\t'.length<=t.length+4/\nV [.scr ns,.own true (.l t)]=.rt (.dat (gV p)) [.l t']:=by
 obtain⟨k,q,r,h1⟩:=eA (ns:=ns) (t:=t) (many:=5) b (by lia) (by lia)
 by_cases e:k=0
 .obtain⟨w,a,h2⟩:=kT (ns:=ns) (t:=t++[.int 0]) (ds:=[.int 100,.int 100,.int 2500]) b (by simp;lia) (by simp) (by simp);have:∃i:Int,w=.int i/\0<i/\i<=2500:=by simp only[List.mem_cons,List.not_mem_nil,or_false]at a;rcases a with rfl |rfl |rfl<;>exact⟨_,rfl,by lia,by lia⟩
  obtain⟨i,rfl,c,j⟩:=this;obtain⟨m,d,n,h3⟩:=eA (ns:=ns) (t:=t++[.int 0]++[.int 0]) (many:=i) b (by simp;lia) c;refine⟨.once m,t++[.int 0]++[.int 0]++[.int 0],⟨d,by lia⟩,by simp,?_⟩;simp only[List.append_assoc,List.cons_append,List.nil_append]at h1 h2 h3;simp[nV,so,h1,h2,h3,kU,e]
 .by_cases g:k<3
  .obtain⟨w,a,h2⟩:=kT (ns:=ns) (t:=t++[.int 0]) (ds:=[.int 30,.int 30,.int 999]) b (by simp;lia) (by simp) (by simp);have:∃i:Int,w=.int i/\0<i/\i<=999:=by simp only[List.mem_cons,List.not_mem_nil,or_false]at a;rcases a with rfl |rfl |rfl<;>exact⟨_,rfl,by lia,by lia⟩
   obtain⟨i,rfl,c,j⟩:=this;obtain⟨s,u,v,h3⟩:=eA (ns:=ns) (t:=t++[.int 0]++[.int 0]) (many:=i) b (by simp;lia) c;obtain⟨f,f1,f2,h⟩:=eA (ns:=ns) (t:=t++[.int 0]++[.int 0]++[.int 0]) (many:=50) b (by simp;lia) (by lia);refine⟨.every f (1+s),t++[.int 0]++[.int 0]++[.int 0]++[.int 0],⟨⟨f1,by lia⟩,by lia,by lia⟩,by simp,?_⟩;simp only[List.append_assoc,List.cons_append,List.nil_append]at h1 h2 h3 h;simp[nV,so,h1,h2,h3,h,kU,e,g]
  .obtain⟨m,d,n,h2⟩:=eA (ns:=ns) (t:=t++[.int 0]) (many:=24) b (by simp;lia) (by lia);refine⟨.daily m,t++[.int 0]++[.int 0],⟨d,by lia⟩,by simp,?_⟩;simp only[List.append_assoc,List.cons_append,List.nil_append]at h1 h2;simp[nV,so,h1,h2,kU,e,g]
@[simp]theorem Sd:dX .none=true:=by simp only[dX]
@[simp]theorem Se(i):dX (.int i)=true:=by simp only[dX]
@[simp]theorem Sf(b):dX (.bool b)=true:=by simp only[dX]
@[simp]theorem Sg(x):dX (.str x)=true:=by simp only[dX]
@[simp]theorem Si(l):dX (.tuple l)=true:=by simp only[dX]
@[simp]theorem Sj(l):dX (.list l)=true:=by simp only[dX]
theorem oa:ml [.exc "NotHolder"]=.rt (.dat (.tuple [.str "refused",.int 8])) []:=by kernel_rfl
theorem DJ:ml [.exc "Nothing"]=.rt (.dat (.tuple [.str "refused",.int 9])) []:=by kernel_rfl
inductive gW where
 |all |last |within (n:Int)
structure bX where
 plan:cz
 late:gW
 again:Bool
noncomputable abbrev kW:gW->PyData
 |.all=>.str "all"
 |.last=>.str "last"
 |.within n=>.tuple [.str "within",.int n]
abbrev bB(d:bX):PyData:=.tuple [gV d.plan,kW d.late,.bool d.again]
@[irreducible] def eR(a:List bX):PyData:=.tuple (a.map bB)
noncomputable def bT:Option Int->PyData
 |none=>.none
 |some i=>.int i
noncomputable def fT:Option (Nat×Nat×Int)->PyData
 |none=>.none
 |some (d,c,h)=>.tuple [.int d,.int c,.int h]
inductive Wd where
 |begun |done |left |unsure
deriving DecidableEq
noncomputable abbrev je:Wd->Str
 |.begun=>"begun"
 |.done=>"done"
 |.left=>"left"
 |.unsure=>"unsure"
structure jf where
 mo:Int
 ru:Int
 wd:Wd
 dd:Nat
 ct:Nat
abbrev fU(r:jf):PyData:=.tuple [.int r.mo,.int r.ru,.str (je r.wd),.int r.dd,.int r.ct]
noncomputable abbrev bF(n:Nat):PyData:=.int n
def eB(a:List ((Nat×Nat)×Wd)):List (PyData×PyData):=a.map fun p=>(.tuple [bF p.1.1,bF p.1.2],.str (je p.2))
structure Hl where
 a:Int
 ss:Sh
 ds:List bX
 last:Option Int
 holder:Option Int
 til:Int
 holds:Int
 begun:Option (Nat×Nat×Int)
 rows:List jf
 words:List ((Nat×Nat)×Wd)
 settled:List Nat
@[irreducible] def af(S:Hl):List (Str×Fl):=[("zone",.d (cu S.a S.ss)),("deeds",.d (eR S.ds)),("last",.d (bT S.last)),("holder",.d (bT S.holder)),("until",.d (.int S.til)),("holds",.d (.int S.holds)),("begun",.d (fT S.begun)),("rows",.l (S.rows.map fU)),("words",.m true (eB S.words)),("settled",.l (S.settled.map bF))]
abbrev hB(C:Addr)(S:Hl):Bx:=.o C (af S)
@[simp]theorem Sk(S):List.lookup ("zone":Str) (af S)=some (.d (cu S.a S.ss)):=by unfold af;kernel_rfl
@[simp]theorem DK(S):List.lookup ("deeds":Str) (af S)=some (.d (eR S.ds)):=by unfold af;kernel_rfl
@[simp]theorem Sl(S):List.lookup ("last":Str) (af S)=some (.d (bT S.last)):=by unfold af;kernel_rfl
@[simp]theorem Sm(S):List.lookup ("holder":Str) (af S)=some (.d (bT S.holder)):=by unfold af;kernel_rfl
@[simp]theorem Sn(S):List.lookup ("until":Str) (af S)=some (.d (.int S.til)):=by unfold af;kernel_rfl
@[simp]theorem So(S):List.lookup ("holds":Str) (af S)=some (.d (.int S.holds)):=by unfold af;kernel_rfl
@[simp]theorem Sq(S):List.lookup ("begun":Str) (af S)=some (.d (fT S.begun)):=by unfold af;kernel_rfl
@[simp]theorem Sr(S):List.lookup ("rows":Str) (af S)=some (.l (S.rows.map fU)):=by unfold af;kernel_rfl
@[simp]theorem Ss(S):List.lookup ("words":Str) (af S)=some (.m true (eB S.words)):=by unfold af;kernel_rfl
@[simp]theorem Su(S):List.lookup ("settled":Str) (af S)=some (.l (S.settled.map bF)):=by unfold af;kernel_rfl
@[simp]theorem Sv(S):List.lookup ("is_held":Str) (af S)=none:=by unfold af;kernel_rfl
@[simp]theorem Sw(S):List.lookup ("check_call":Str) (af S)=none:=by unfold af;kernel_rfl
@[simp]theorem Sx(S):List.lookup ("check_holder":Str) (af S)=none:=by unfold af;kernel_rfl
@[simp]theorem Sy(S):List.lookup ("take":Str) (af S)=none:=by unfold af;kernel_rfl
@[simp]theorem Sz(S):List.lookup ("give":Str) (af S)=none:=by unfold af;kernel_rfl
@[simp]theorem SA(S):List.lookup ("add_row":Str) (af S)=none:=by unfold af;kernel_rfl
@[simp]theorem SD(S):List.lookup ("is_busy":Str) (af S)=none:=by unfold af;kernel_rfl
@[simp]theorem SE(S):List.lookup ("first_unsettled":Str) (af S)=none:=by unfold af;kernel_rfl
@[simp]theorem SF(S):List.lookup ("step":Str) (af S)=none:=by unfold af;kernel_rfl
@[simp]theorem SG(S):List.lookup ("step_behind_a_fall":Str) (af S)=none:=by unfold af;kernel_rfl
@[simp]theorem SH(S):List.lookup ("step_ahead":Str) (af S)=none:=by unfold af;kernel_rfl
@[simp]theorem SI(S):List.lookup ("finish":Str) (af S)=none:=by unfold af;kernel_rfl
@[simp]theorem SJ(S):List.lookup ("state":Str) (af S)=none:=by unfold af;kernel_rfl
@[simp]theorem SK(S):List.lookup ("held":Str) (af S)=none:=by unfold af;kernel_rfl
@[simp]theorem SL(S):List.lookup ("log":Str) (af S)=none:=by unfold af;kernel_rfl
@[simp]theorem SN(S):List.lookup ("waiting":Str) (af S)=none:=by unfold af;kernel_rfl
@[simp]theorem SO(S):List.lookup ("saved":Str) (af S)=none:=by unfold af;kernel_rfl
@[simp]theorem SQ(S):(af S).length=10:=by unfold af;kernel_rfl
theorem DL(S x):bM ("last":Str) (.d (bT x)) (af S)=af { S with last:=x }:=by unfold af;kernel_rfl
theorem DM(S x):bM ("holder":Str) (.d (bT x)) (af S)=af { S with holder:=x }:=by unfold af;kernel_rfl
theorem Qf(S x):bM ("until":Str) (.d (.int x)) (af S)=af { S with til:=x }:=by unfold af;kernel_rfl
theorem Qg(S x):bM ("holds":Str) (.d (.int x)) (af S)=af { S with holds:=x }:=by unfold af;kernel_rfl
theorem DP(S x):bM ("begun":Str) (.d (fT x)) (af S)=af { S with begun:=x }:=by unfold af;kernel_rfl
theorem Qh(S x):bM ("rows":Str) (.l (x.map fU)) (af S)=af { S with rows:=x }:=by unfold af;kernel_rfl
theorem sN(S x):bM ("words":Str) (.m true (eB x)) (af S)=af { S with words:=x }:=by unfold af;kernel_rfl
theorem wB(S x):bM ("settled":Str) (.l (x.map bF)) (af S)=af { S with settled:=x }:=by unfold af;kernel_rfl
@[simp]theorem SR(S):bM ("last":Str) (.d .none) (af S)=af { S with last:=none }:=DL S none
@[simp]theorem SS(S i):bM ("last":Str) (.d (.int i)) (af S)=af { S with last:=some i }:=DL S (some i)
@[simp]theorem SU(S):bM ("holder":Str) (.d .none) (af S)=af { S with holder:=none }:=DM S none
@[simp]theorem SV(S i):bM ("holder":Str) (.d (.int i)) (af S)=af { S with holder:=some i }:=DM S (some i)
@[simp]theorem SW(S i):bM ("until":Str) (.d (.int i)) (af S)=af { S with til:=i }:=Qf S i
@[simp]theorem SX(S i):bM ("holds":Str) (.d (.int i)) (af S)=af { S with holds:=i }:=Qg S i
@[simp]theorem SY(S):bM ("begun":Str) (.d .none) (af S)=af { S with begun:=none }:=DP S none
@[simp]theorem SZ(S)(d c:Nat)(h):bM ("begun":Str) (.d (.tuple [.int d,.int c,.int h])) (af S)=af { S with begun:=some (d,c,h) }:=DP S (some (d,c,h))
@[simp]theorem Ta{U:ag}:cg C (some (.own io (.o C fs))::U) 0=some (io,fs):=by simp[cg]
@[simp]theorem Tb{U:ag}:cg C (x::y::some (.own io (.o C fs))::U) 2=some (io,fs):=by simp[cg]
@[simp]theorem Tc{U:ag}(h:fs.lookup f=some (.d d)):bZ C 0 f (some (.own io (.o C fs))::U)=.ok d (some (.own io (.o C fs))::U):=by simp[bZ,h]
@[simp]theorem Td:isNone .none=true:=by simp only[isNone]
@[simp]theorem Te(i):isNone (.int i)=false:=by simp only[isNone]
@[simp]theorem Tf(b):isNone (.bool b)=false:=by simp only[isNone]
@[simp]theorem Tg(x):isNone (.str x)=false:=by simp only[isNone]
@[simp]theorem Th(l):isNone (.tuple l)=false:=by simp only[isNone]
@[simp]theorem Ti(l):isNone (.list l)=false:=by simp only[isNone]
@[simp]theorem Tj(x):isNone (bT x)=x.isNone:=by cases x<;>simp[bT]
@[simp]theorem Tk(x):isNone (fT x)=x.isNone:=by rcases x with _ |⟨_,_,_⟩<;>simp[fT]
theorem Qi(h:dX d=true):rN [.dat d]=.rt (.dat (.bool (dh d 0 3))) []:=by simp[aM,rN,Bi,kS h]
theorem Qj(h:dX d=true):rO [.dat d]=.rt (.dat (.bool (dh d 1 99))) []:=by simp[aM,rO,Bj,kS h]
theorem DQ(h:dX d=true):rY [.dat d]=if dh d 0 3=true then .rt (.dat .none) []else .ex "NoRunner" []:=by simp only[rY,Bq];cases a:dh d 0 3<;>simp[aM,Qi h,a]
theorem wC(h:dX d=true):rZ [.dat d]=if dh d 1 99=true then .rt (.dat .none) []else .ex "NoTerm" []:=by simp only[rZ,Br];cases a:dh d 1 99<;>simp[aM,Qj h,a]
noncomputable def gX(S:Hl)(m:Int):Bool:=S.holder.isSome&&decide (m<S.til)
noncomputable def sO(S:Hl)(m:Int):Bool:=match S.last with
 |some l=>decide (m<l)
 |none=>false
theorem og:pG C [.own true (hB C S),.dat (.int m)]=.rt (.dat (.bool (gX S m))) [hB C S]:=by unfold gX;cases h:S.holder<;>simp[pG,Bb,h,bT]
theorem Qk(b:dX r=true)(c:dh r 0 3=true)(e:dh (.int m) 0 9999=true)(a:sO S m=false):iZ C [.own true (hB C S),.dat r,.dat (.int m)]=.rt (.dat .none) [hB C S]:=by
 unfold sO at a;cases h:S.last with
 |none=>simp[iZ,wc,DQ b,c,Dk (d:=.int m) rfl,e,h,bT]
 |some l=>rw[h]at a;simp at a;simp[iZ,wc,DQ b,c,Dk (d:=.int m) rfl,e,h,bT,show ¬ m<l by lia]
theorem sP(x r):aM true (bT x) (.int r)=some (.bool (!decide (x=some r))):=by
 cases x with
 |none=>simp[bT,aM,nX,show SeqAt.shaped .none=true from rfl,PyData.eqv]
 |some i=>simp[bT,PP]
theorem DR(h:iZ C [.own true (hB C S),.dat (.int r),.dat (.int m)]=.rt (.dat .none) [hB C S])(a:(gX S m&&decide (S.holder=some r))=false):et C [.own true (hB C S),.dat (.int r),.dat (.int m)]=.ex "NotHolder" [hB C S]:=by
 cases hh:gX S m with
 |false=>simp[et,sr,bR,cY,h,og,hh]
 |true=>rw[hh]at a;simp at a;simp[et,sr,bR,cY,h,og,hh,sP,a]
theorem DU(h:iZ C [.own true (hB C S),.dat (.int r),.dat (.int m)]=.rt (.dat .none) [hB C S])(a:gX S m=true)(b:S.holder=some r):et C [.own true (hB C S),.dat (.int r),.dat (.int m)]=.rt (.dat .none) [hB C S]:=by simp[et,sr,bR,cY,h,og,a,sP,b]
def qd(S:Hl)(r m t:Int):Hl×Bool:=if gX S m=false then({ S with last:=some m,holds:=S.holds+1,holder:=some r,til:=m+t },true) else if S.holder=some r then({ S with last:=some m,holder:=some r,til:=m+t },true) else({ S with last:=some m },false)
theorem DY(h:iZ C [.own true (hB C S),.dat (.int r),.dat (.int m)]=.rt (.dat .none) [hB C S])(b:dh (.int t) 1 99=true):ms C [.own true (hB C S),.dat (.int r),.dat (.int m),.dat (.int t)]=.rt (.dat (.bool (qd S r m t).2)) [hB C (qd S r m t).1]:=by
 unfold qd;have hh:gX { S with last:=some m } m=gX S m:=rfl;cases a:gX S m with
 |false=>simp[ms,su,bR,cY,h,wC (d:=.int t) rfl,b,cO,fy,fx,og,hh,a,ro]
 |true=>
  by_cases c:S.holder=some r
  .have e:m<S.til:=by unfold gX at a;simp[c]at a;exact a
   simp[ms,su,bR,cY,h,wC (d:=.int t) rfl,b,cO,fy,fx,og,gX,e,sP,c]
  .simp[ms,su,bR,cY,h,wC (d:=.int t) rfl,b,cO,fy,fx,og,hh,a,sP,c]
theorem DZ(h:et C [.own true (hB C S),.dat d,.dat m]=.ex c [hB C S]):kO C [.own true (hB C S),.dat d,.dat m]=.ex c [hB C S]:=by simp[kO,wm,bR,cY,h]
theorem Ea(h:et C [.own true (hB C S),.dat (.int r),.dat (.int m)]=.rt (.dat .none) [hB C S]):kO C [.own true (hB C S),.dat (.int r),.dat (.int m)]=.rt (.dat .none) [hB C { S with last:=some m,holder:=none }]:=by simp[kO,wm,bR,cY,h,cO,fy,fx]
theorem Eb(h:et C [.own true (hB C S),.dat d,.dat m]=.ex c [hB C S]):jc C [.own true (hB C S),.dat d,.dat m]=.ex c [hB C S]:=by simp[jc,pT,bR,cY,h]
theorem Ec(h:et C [.own true (hB C S),.dat d,.dat m]=.ex c [hB C S]):jb C [.own true (hB C S),.dat d,.dat m]=.ex c [hB C S]:=by simp[jb,sy,bR,cY,h]
abbrev sQ(S:Hl):PyData:=.tuple [bT S.holder,.int S.til,.int S.holds]
theorem Ql:mm C [.own true (hB C S)]=.rt (.dat (sQ S)) [hB C S]:=by simp[mm,Bc,show(3:Nat)<=sizeLine from by decide]
theorem Ed:nN C [.own true (hB C S)]=.rt (.own false (.l (S.rows.map fU))) [hB C S]:=by simp[nN,Be,rH]
@[irreducible]noncomputable def kX(z d:PyData):List (Str×Fl):=[]
@[irreducible]noncomputable def kY(z d:PyData):List (Str×Fl):=[("zone",.d z)]
@[irreducible]noncomputable def kZ(z d:PyData):List (Str×Fl):=[("zone",.d z),("deeds",.d d)]
@[irreducible]noncomputable def lb(z d:PyData):List (Str×Fl):=[("zone",.d z),("deeds",.d d),("last",.d .none)]
@[irreducible]noncomputable def lc(z d:PyData):List (Str×Fl):=[("zone",.d z),("deeds",.d d),("last",.d .none),("holder",.d .none)]
@[irreducible]noncomputable def lh(z d:PyData):List (Str×Fl):=[("zone",.d z),("deeds",.d d),("last",.d .none),("holder",.d .none),("until",.d (.int 0))]
@[irreducible]noncomputable def lm(z d:PyData):List (Str×Fl):=[("zone",.d z),("deeds",.d d),("last",.d .none),("holder",.d .none),("until",.d (.int 0)),("holds",.d (.int 0))]
@[irreducible]noncomputable def lq(z d:PyData):List (Str×Fl):=[("zone",.d z),("deeds",.d d),("last",.d .none),("holder",.d .none),("until",.d (.int 0)),("holds",.d (.int 0)),("begun",.d .none)]
@[irreducible]noncomputable def lr(z d:PyData):List (Str×Fl):=[("zone",.d z),("deeds",.d d),("last",.d .none),("holder",.d .none),("until",.d (.int 0)),("holds",.d (.int 0)),("begun",.d .none),("rows",.l [])]
@[irreducible]noncomputable def ls(z d:PyData):List (Str×Fl):=[("zone",.d z),("deeds",.d d),("last",.d .none),("holder",.d .none),("until",.d (.int 0)),("holds",.d (.int 0)),("begun",.d .none),("rows",.l []),("words",.m true [])]
@[simp]theorem Tl(z d):List.lookup ("zone":Str) (kX z d)=none:=by unfold kX;kernel_rfl
@[simp]theorem Tn(z d):(kX z d).length=0:=by unfold kX;kernel_rfl
@[simp]theorem To(z d):bM ("zone":Str) (.d z) (kX z d)=kY z d:=by unfold kX kY;kernel_rfl
@[simp]theorem Tp(z d):List.lookup ("deeds":Str) (kY z d)=none:=by unfold kY;kernel_rfl
@[simp]theorem Tq(z d):(kY z d).length=1:=by unfold kY;kernel_rfl
@[simp]theorem Tr(z d):bM ("deeds":Str) (.d d) (kY z d)=kZ z d:=by unfold kY kZ;kernel_rfl
@[simp]theorem Ts(z d):List.lookup ("last":Str) (kZ z d)=none:=by unfold kZ;kernel_rfl
@[simp]theorem Tt(z d):(kZ z d).length=2:=by unfold kZ;kernel_rfl
@[simp]theorem Tu(z d):bM ("last":Str) (.d .none) (kZ z d)=lb z d:=by unfold kZ lb;kernel_rfl
@[simp]theorem Tv(z d):List.lookup ("holder":Str) (lb z d)=none:=by unfold lb;kernel_rfl
@[simp]theorem Tw(z d):(lb z d).length=3:=by unfold lb;kernel_rfl
@[simp]theorem Tz(z d):bM ("holder":Str) (.d .none) (lb z d)=lc z d:=by unfold lb lc;kernel_rfl
@[simp]theorem TB(z d):List.lookup ("until":Str) (lc z d)=none:=by unfold lc;kernel_rfl
@[simp]theorem TC(z d):(lc z d).length=4:=by unfold lc;kernel_rfl
@[simp]theorem TD(z d):bM ("until":Str) (.d (.int 0)) (lc z d)=lh z d:=by unfold lc lh;kernel_rfl
@[simp]theorem TF(z d):List.lookup ("holds":Str) (lh z d)=none:=by unfold lh;kernel_rfl
@[simp]theorem TH(z d):(lh z d).length=5:=by unfold lh;kernel_rfl
@[simp]theorem TJ(z d):bM ("holds":Str) (.d (.int 0)) (lh z d)=lm z d:=by unfold lh lm;kernel_rfl
@[simp]theorem TK(z d):List.lookup ("begun":Str) (lm z d)=none:=by unfold lm;kernel_rfl
@[simp]theorem TL(z d):(lm z d).length=6:=by unfold lm;kernel_rfl
@[simp]theorem TM(z d):bM ("begun":Str) (.d .none) (lm z d)=lq z d:=by unfold lm lq;kernel_rfl
@[simp]theorem TN(z d):List.lookup ("rows":Str) (lq z d)=none:=by unfold lq;kernel_rfl
@[simp]theorem TQ(z d):(lq z d).length=7:=by unfold lq;kernel_rfl
@[simp]theorem TR(z d):bM ("rows":Str) (.l []) (lq z d)=lr z d:=by unfold lq lr;kernel_rfl
@[simp]theorem TU(z d):List.lookup ("words":Str) (lr z d)=none:=by unfold lr;kernel_rfl
@[simp]theorem TV(z d):(lr z d).length=8:=by unfold lr;kernel_rfl
@[simp]theorem TW(z d):bM ("words":Str) (.m true []) (lr z d)=ls z d:=by unfold lr ls;kernel_rfl
@[simp]theorem TX(z d):List.lookup ("settled":Str) (ls z d)=none:=by unfold ls;kernel_rfl
@[simp]theorem TY(z d):(ls z d).length=9:=by unfold ls;kernel_rfl
noncomputable def dZ(a:Int)(c:Sh)(b:List bX):Hl:=⟨a,c,b,none,none,0,0,none,[],[],List.replicate b.length 0⟩
theorem Qm(a c b):bM ("settled":Str) (.l ((List.replicate b.length (0:Nat)).map bF)) (ls (cu a c) (eR b))=af (dZ a c b):=by unfold ls af dZ;kernel_rfl
theorem Ee:∀l a (U:ag),(∃x,U=[x])->a.length+l.length<=sizeLine->cp (aE 0) du (sA C) l a U=some (a++(List.replicate l.length (0:Nat)).map bF)
 |[],a,U,_,_=>by simp[cp]
 |d::l,a,U,⟨x,b⟩,c=>by
  subst b;simp only[List.length_cons]at c;have e:=Ee (C:=C) l (a++[.int 0]) [some (.dat d)] ⟨_,rfl⟩ (by simp;lia);have f:sA C [some (.dat d)]=.ok (.int 0) [some (.dat d)]:=by simp[sA]
  rw[cp];simp[du,f,show a.length<sizeLine by lia,e,List.replicate_succ]
theorem Qn(e:pO [.dat (cu a c)]=.rt (.dat .none) [])(hd:pR [.dat (eR b)]=.rt (.dat .none) [])(i:b.length<=6):jR C [.own true (.o C []),.dat (cu a c),.dat (eR b)]=.rt (.dat .none) [hB C (dZ a c b)]:=by
 have sz:1000<sizeLine:=by decide
 have f:([]:List (Str×Fl))=kX (cu a c) (eR b):=by unfold kX;rfl
 have g:=Ee (C:=C) (b.map bB) [] [none] ⟨_,rfl⟩ (by simp;lia);rw[List.nil_append,List.length_map]at g;have h:eR b=.tuple (b.map bB):=by unfold eR;rfl
 have d:=Qm a c b;rw[f];simp[jR,BC,e,hd,cO,fy,fx,lX,vG,rz];rw[h]at *;simp[g,show b.length<=sizeLine by lia]at d ⊢;exact d
def my(p:cz):Prop:=fB p
theorem my.plan(h:my p):fB p:=h
theorem wD{c:Nat}(b:ss.length<=6)(ok:my p):iC [.dat (cu a ss),.dat (gV p),.dat (.int c)]=.rt (.dat (dY (cA a ss p c))) []:=PZ b ok
theorem jV:PyData.strOk "all" = true:=by decide +kernel
theorem iD:PyData.strOk "last" = true:=by decide +kernel
theorem sR:PyData.strOk "within" = true:=by decide +kernel
theorem qe:PyData.strOk "begun" = true:=by decide +kernel
theorem Qo:PyData.strOk "done" = true:=by decide +kernel
theorem Qp:PyData.strOk "left" = true:=by decide +kernel
theorem Qq:PyData.strOk "unsure" = true:=by decide +kernel
theorem Ef:(("all":Str)==("all":Str))=true:=by decide +kernel
theorem wE:(("last":Str)==("all":Str))=false:=by decide +kernel
theorem wF:(("last":Str)==("last":Str))=true:=by decide +kernel
theorem Qr:(("begun":Str)==("begun":Str))=true:=by decide +kernel
theorem Qs:(("done":Str)==("begun":Str))=false:=by decide +kernel
theorem Qt:(("left":Str)==("begun":Str))=false:=by decide +kernel
theorem Qu:(("unsure":Str)==("begun":Str))=false:=by decide +kernel
theorem Eg(h:SeqAt.shaped (.tuple l)=true)(a:PyData.strOk x=true):aM false (.tuple l) (.str x)=some (.bool false):=by simp[aM,h,wy a,PyData.eqv]
theorem Eh(n):SeqAt.shaped (.tuple [.str "within",.int n])=true:=by unfold SeqAt.shaped;simp[PyData.canLay0,PyData.canLayAll0,PyData.depth,PyData.depthAll,sR]
def oh(a:Int)(e:Sh)(d:bX)(c:Nat)(b:Int):Bool:=match d.late with
 |.all=>false
 |.last=>(match cA a e d.plan (c+1) with |some v=>decide (v<=b) |none=>false)
 |.within n=>decide (b - AV a e d.plan c>n)
theorem Qv(f:ss.length<=6)(ok:my d.plan)(g:∃v,cA a ss d.plan c=some v):mr [.dat (cu a ss),.dat (bB d),.dat (.int c),.dat (.int now)]=.rt (.dat (.bool (oh a ss d c now))) []:=by
 obtain⟨p,la,h⟩:=d;obtain⟨v,e⟩:=g;simp only at ok e;unfold oh;cases la with
 |all=>simp[mr,pP,bW jV jV,Ef]
 |last=>
  have rt:=wD (a:=a) (ss:=ss) (p:=p) (c:=c+1) f ok;simp at rt;cases b:cA a ss p (c+1) with
  |none=>rw[b]at rt;simp[mr,pP,bW iD jV,bW iD iD,wE,wF,rt,dY,b]
  |some w=>rw[b]at rt;simp[mr,pP,bW iD jV,bW iD iD,wE,wF,rt,dY,b]
 |within n=>have rt:=wD (a:=a) (ss:=ss) (p:=p) (c:=c) f ok;rw[e]at rt;simp[mr,pP,Eg (Eh n) jV,Eg (Eh n) iD,rt,dY,AV,e]
noncomputable def fE:List ((Nat×Nat)×Wd)->(Nat×Nat)->Wd->List ((Nat×Nat)×Wd)
 |[],k,w=>[(k,w)]
 |(a,v)::r,k,w=>if a = k then(a,w)::r else(a,v)::fE r k w
theorem qf(d c):iw true (.tuple [bF d,bF c])=some [Sum.inl (d:Int),Sum.inl (c:Int)]:=rfl
theorem qg{d c :Nat}:(iw true (.tuple [bF a,bF b])=some [Sum.inl (d:Int),Sum.inl (c:Int)])↔(a,b)=(d,c):=by
 rw[qf];constructor
 .intro h;simp only[Option.some.injEq,List.cons.injEq,Sum.inl.injEq,and_true]at h;have h1:=h.1;have h2:=h.2;have e:a = d:=by lia
  have f:b = c:=by lia
  rw[e,f]
 .intro h;cases h;rfl
theorem Ei(d c:Nat):∀e,kw true (eB e) [Sum.inl (d:Int),Sum.inl (c:Int)]=(e.lookup (d,c)).map fun w=>.str (je w)
 |[]=>rfl
 | ((a,b),w)::r=>by
  unfold eB;rw[List.map_cons,kw];have f:=Ei d c r;unfold eB at f
  by_cases h:(a,b)=(d,c)
  .rw[if_pos (qg.mpr h)];cases h;simp[List.lookup]
  .rw[if_neg (fun z=>h (qg.mp z)),f];have:((d,c)==(a,b))=false:=by simpa using fun z:(d=a/\c=b)=>h (by rw[z.1,z.2])
   rw[List.lookup_cons,this]
theorem Ej(d c w):∀a:List ((Nat×Nat)×Wd),(a.map (·.1)).Nodup->(a.lookup (d,c)).isSome=true->lP true [Sum.inl (d:Int),Sum.inl (c:Int)] (.str (je w)) (eB a)=eB (fE a (d,c) w)
 |[],_,h=>by cases h
 | ((b,f),v)::r,nd,h=>by
  unfold eB;rw[List.map_cons,lP];have tail:∀a:List ((Nat×Nat)×Wd),(d,c)∉a.map (·.1)->lP true [Sum.inl (d:Int),Sum.inl (c:Int)] (.str (je w)) (eB a)=eB a:=by
   intro a
   induction a with
   |nil=>intro _;rfl
   |cons p r i=>intro g;obtain⟨⟨k,l⟩,m⟩:=p;simp only[List.map_cons,List.mem_cons,not_or]at g;unfold eB;rw[List.map_cons,lP,if_neg (fun z=>g.1 (qg.mp z).symm)];have:=i g.2;unfold eB at this;rw[this]
  by_cases e:(b,f)=(d,c)
  .cases e;rw[if_pos (qg.mpr rfl),fE,if_pos rfl,List.map_cons];have:=tail r (by simpa using(List.nodup_cons.mp nd).1);unfold eB at this;rw[this]
  .have j:(r.lookup (d,c)).isSome=true:=by
    have:((d,c)==(b,f))=false:=by simpa using fun z:(d=b/\c=f)=>e (by rw[z.1,z.2])
    rw[List.lookup_cons,this]at h;exact h
   rw[if_neg (fun z=>e (qg.mp z)),fE,if_neg e,List.map_cons];have:=Ej d c w r (List.nodup_cons.mp nd).2 j;unfold eB at this;rw[this]
theorem Ek(k w):∀a,a.lookup k=none->fE a k w=a++[(k,w)]
 |[],_=>rfl
 | (b,v)::r,h=>by
  rw[List.lookup_cons]at h
  by_cases e:k=b
  .subst e;simp at h
  .have:(k==b)=false:=by simpa using e
   rw[this]at h;rw[fE,if_neg (fun z=>e z.symm),Ek k w r h];rfl
theorem Qw(a:(ws.map (·.1)).Nodup):ky true (eB ws) (.tuple [bF d,bF c]) [Sum.inl (d:Int),Sum.inl (c:Int)] (.str (je w))=eB (fE ws (d,c) w):=by
 unfold ky;rw[Ei];cases h:ws.lookup (d,c) with
 |none=>rw[Ek _ _ _ h];simp[eB]
 |some v=>simp only[Option.map_some,Option.isSome_some,if_true];exact Ej d c w ws a (by rw[h];rfl)
theorem wG(k w):∀a,(fE a k w).map (·.1)=if k∈a.map (·.1) then a.map (·.1) else a.map (·.1)++[k]
 |[]=>by simp[fE]
 | (b,v)::r=>by
  rw[fE]
  by_cases e:b = k
  .subst e;simp
  .rw[if_neg e,List.map_cons,wG k w r]
   by_cases h:k∈r.map (·.1)
   .rw[if_pos h];rw[if_pos (by simp[h])];rfl
   .rw[if_neg h,if_neg (by
     simp only[List.map_cons,List.mem_cons,not_or];exact⟨fun z=>e z.symm,h⟩)];rfl
theorem Qx(d:(c.map (·.1)).Nodup):((fE c k w).map (·.1)).Nodup:=by
 rw[wG];split
 .exact d
 .rename_i h;exact List.nodup_append.mpr ⟨d,by simp,fun a f b e z=>by simp at e;subst e;subst z;exact h f⟩
theorem Qy(k w a):(fE a k w).length<=a.length+1:=by have:=congrArg List.length (wG k w a);rw[List.length_map]at this;rw[this];split<;>simp
def fF(S:Hl)(r:jf):Hl:={ S with rows:=S.rows++[r],words:=fE S.words (r.dd,r.ct) r.wd,begun:=if r.wd=.begun then some (r.dd,r.ct,S.holds) else none,settled:=if r.wd=.begun then S.settled else S.settled.set r.dd (r.ct+1) }
theorem iF{v:PyData}:bD (x::y::z::v::l) 3=some v:=by unfold bD cn;rw[if_pos (by lia),if_pos (by simp<;>lia)];rfl
theorem jW{u:PyData}:bD (x::y::z::v::u::l) 4=some u:=by unfold bD cn;rw[if_pos (by lia),if_pos (by simp<;>lia)];rfl
theorem Qz(S r):bM ("rows":Str) (.l (S.rows.map fU++[fU r])) (af S)=af { S with rows:=S.rows++[r] }:=by rw[show S.rows.map fU++[fU r]=(S.rows++[r]).map fU by simp];exact Qh S _
theorem qh(i:S.rows.length<1000000)(j:S.words.length<1000000)(h:(S.words.map (·.1)).Nodup)(hd:r.dd<S.settled.length):gv C [.own true (hB C S),.dat (fU r)]=.rt (.dat (.tuple [.str (je r.wd),bF r.dd,bF r.ct])) [hB C (fF S r)]:=by
 have sz:1000000<sizeLine:=by decide
 obtain⟨mo,ru,wd,a,g⟩:=r;have b:=Qw (ws:=S.words) (d:=a) (c:=g) (w:=wd) h;have l1:(eB S.words).length<sizeLine:=by unfold eB;rw[List.length_map];lia
 have e:=Qz S ⟨mo,ru,wd,a,g⟩;simp only at hd;have f:cn S.settled.length (a:Int)=some a:=by unfold cn;rw[if_pos (by lia),if_pos (by lia)];simp
 have st:(S.settled.map bF).set a (.int ((g:Int)+1))=(S.settled.set a (g+1)).map bF:=by rw[List.map_set];simp[bF]
 unfold fF;cases wd
 .simp[gv,pH,iF,jW,lU,eQ,ny,show S.rows.length<sizeLine by lia,e,nz,lV,qf,l1,b,sN,cO,fy,fx,show(3:Nat)<=sizeLine by lia,nB,lW,f,st,bW qe qe,Qr]
 .simp[gv,pH,iF,jW,lU,eQ,ny,show S.rows.length<sizeLine by lia,e,nz,lV,qf,l1,b,sN,cO,fy,fx,show(3:Nat)<=sizeLine by lia,nB,lW,f,st,bW Qo qe,Qs];rw[<-List.map_set];exact wB _ _
 .simp[gv,pH,iF,jW,lU,eQ,ny,show S.rows.length<sizeLine by lia,e,nz,lV,qf,l1,b,sN,cO,fy,fx,show(3:Nat)<=sizeLine by lia,nB,lW,f,st,bW Qp qe,Qt];rw[<-List.map_set];exact wB _ _
 .simp[gv,pH,iF,jW,lU,eQ,ny,show S.rows.length<sizeLine by lia,e,nz,lV,qf,l1,b,sN,cO,fy,fx,show(3:Nat)<=sizeLine by lia,nB,lW,f,st,bW Qq qe,Qu];rw[<-List.map_set];exact wB _ _
structure bH (S:Hl):Prop where
 z:iz S.a S.ss
 dl:S.ds.length<=6
 pl:∀d∈S.ds,my d.plan
 sl:S.settled.length=S.ds.length
 nd:(S.words.map (·.1)).Nodup
 bg:∀d c h,S.begun=some (d,c,h)->d<S.ds.length
noncomputable def jX(S:Hl):Bool:=match S.begun with
 |some (_,_,h)=>decide (h=S.holds)
 |none=>false
theorem iG(b:a.length=n)(d:m (a.map some++List.replicate (N - n) none)=.rt c U)(e:cK a U=some o):bp n N m a=.rt c o:=by unfold bp;rw[if_pos b,d];simp only[e]
theorem QA(a:-4611686018427387904<=j)(b:j<4611686018427387904):cf [.int j]=some (L3.intsFrom 0 j.toNat):=by show(if _ then _ else _)=_;rw[if_pos (by rw[decide_eq_true (show -(2 ^ 62)<=j by lia),decide_eq_true (show j<2 ^ 62 by lia)];rfl)]
theorem wH:nM C [.own true (hB C S)]=.rt (.dat (.bool (jX S))) [hB C S]:=by
 unfold jX;cases h:S.begun with
 |none=>simp[nM,vW,h,fT]
 |some p=>obtain⟨d,c,k⟩:=p;simp[nM,vW,h,fT,kU]
theorem El{a:List bX}(h:k<a.length):aJ (eR a) (.int k)=some (bB a[k]):=by
 unfold eR;have:bD (a.map bB) (k:Int)=some (bB a[k]):=by unfold bD cn;rw[if_pos (by lia),if_pos (by simp;lia)];simp[h]
 simp[aJ,this]
theorem QB{l:List Nat}(h:k<l.length):bD (l.map bF) (k:Int)=some (bF l[k]):=by unfold bD cn;rw[if_pos (by lia),if_pos (by simp;lia)];simp[h]
noncomputable def dk(S:Hl)(k:Nat):Nat:=S.settled.getD k 0
def qi(S:Hl)(k:Nat):Option (List Int):=match S.ds[k]? with
 |some d=>(cA S.a S.ss d.plan (dk S k)).map fun v=>[v,(k:Int),(dk S k:Int)]
 |none=>none
def fG(S:Hl):List (List Int):=(List.range S.ds.length).filterMap (qi S)
noncomputable abbrev cS(r:List Int):PyData:=.tuple (r.map PyData.int)
theorem wI(ok:bH S):∀n k  b  m f g,k+n=S.ds.length->b.length<=k->∃h i j,df (aE 2) (mu C) (L3.intsFrom (k:Int) n) [some (.own true (hB C S)),some (.own false (.l (b.map cS))),m,f,g]=.nx [some (.own true (hB C S)),some (.own false (.l ((b++(List.range' k n).filterMap (qi S)).map cS))),h,i,j]
 |0,k,b,m,f,g,_,_=>⟨m,f,g,by simp[L3.intsFrom,df]⟩
 |n+1,k,b,m,f,g,w,x=>by
  have sz:1000<sizeLine:=by decide
  have d:k<S.ds.length:=by lia
  have q:k<S.settled.length:=by rw[ok.sl];exact d
  have dl:=ok.dl;have s:my (S.ds[k]).plan:=ok.pl _ (List.getElem_mem d);have t:dk S k=S.settled[k]:=by unfold dk;rw[List.getD_eq_getElem?_getD,List.getElem?_eq_getElem q];rfl
  have rt:=wD (a:=S.a) (ss:=S.ss) (p:=(S.ds[k]).plan) (c:=S.settled[k]) ok.z.len s;have as:=QB (l:=S.settled) q;have u:qi S k=(cA S.a S.ss (S.ds[k]).plan S.settled[k]).map fun v=>[v,(k:Int),((S.settled[k]:Nat):Int)]:=by unfold qi;rw[List.getElem?_eq_getElem d,<-t]
  rw[wA,df,List.range'_succ,List.filterMap_cons,u];cases r:cA S.a S.ss (S.ds[k]).plan S.settled[k]with
  |none=>
   rw[r]at rt;have e:mu C [some (.own true (hB C S)),some (.own false (.l (b.map cS))),some (.dat (.int k)),f,g]=.nx [some (.own true (hB C S)),some (.own false (.l (b.map cS))),some (.dat (.int k)),some (.dat (bF S.settled[k])),some (.dat .none)]:=by simp[-aJ,mu,pd,eQ,as,El d];simp[rt,dY]
   obtain⟨h,i,j,o⟩:=wI ok n (k+1) b (some (.dat (.int k))) (some (.dat (bF S.settled[k]))) (some (.dat .none)) (by lia) (by lia);refine⟨h,i,j,?_⟩;simp only[Option.map_none];rw[<-o];simp[e]
  |some v=>
   rw[r]at rt;have e:mu C [some (.own true (hB C S)),some (.own false (.l (b.map cS))),some (.dat (.int k)),f,g]=.nx [some (.own true (hB C S)),some (.own false (.l ((b++[[v,(k:Int),((S.settled[k]:Nat):Int)]]).map cS))),some (.dat (.int k)),some (.dat (bF S.settled[k])),some (.dat (.int v))]:=by simp[-aJ,mu,pd,eQ,as,El d];simp[rt,dY,show b.length<sizeLine by lia,show(3:Nat)<=sizeLine by lia]
   obtain⟨h,i,j,o⟩:=wI ok n (k+1) (b++[[v,(k:Int),((S.settled[k]:Nat):Int)]]) (some (.dat (.int k))) (some (.dat (bF S.settled[k]))) (some (.dat (.int v))) (by lia) (by simp;lia);refine⟨h,i,j,?_⟩;simp only[Option.map_some];rw[List.append_assoc,List.singleton_append]at o;rw[<-o];simp[e]
theorem Em:∀a,lY (a.map PyData.int)=some a
 |[]=>rfl
 |n::a=>by rw[List.map_cons,lY,Em a];rfl
theorem En:∀a,kE (a.map cS)=some a
 |[]=>rfl
 |r::a=>by rw[List.map_cons,kE,Em,En a]
def oi:List (List Int)->PyData
 |[]=>.none
 |r::a=>cS (fS a r)
theorem QD:(eP iQ (aq (bZ C 0 "deeds") aX)) [some (.own true (hB C S)),some (.own false (.l [])),none,none,none]=.ok (.int S.ds.length) [some (.own true (hB C S)),some (.own false (.l [])),none,none,none]:=by simp[eR]
theorem QE(h:U[1]? = some (some (.own false (.l (a.map cS))))):kG 1 U=.ok (oi a) U:=by unfold kG jK;rw[h];simp only[En];cases a<;>rfl
theorem QF(h:0<=n)(i:n<=1000)(c:m U=.ok (.int n) U)(d:df g b (L3.intsFrom 0 n.toNat) U=.nx a):ib (gK cf (aq m aX)) g b U=.nx a:=by
 have e:(aq m aX) U=.ok [.int n] U:=by show fm.bind (m U) _=_;rw[c];rfl
 have f:gK cf (aq m aX) U=.ok (L3.intsFrom 0 n.toNat) U:=by show fm.bind ((aq m aX) U) _=_;rw[e];show L3.lift (cf [.int n]) U=_;rw[QA (by lia) (by lia)];rfl
 show eN (gK cf (aq m aX) U) _=_;rw[f];exact d
theorem QG(ok:bH S):wj C [.own true (hB C S)]=.rt (.dat (oi (fG S))) [hB C S]:=by
 have dl:=ok.dl;obtain⟨a,b,c,g⟩:=wI (C:=C) ok S.ds.length 0 [] none none none (by lia) (by simp);rw[List.nil_append,<-List.range_eq_range']at g;change df _ _ (L3.intsFrom 0 S.ds.length) [_,some (.own false (.l [])),_,_,_]=gE.nx [_,some (.own false (.l ((fG S).map cS))),_,_,_]at g;have d:=QF (m:=eP iQ (aq (bZ C 0 "deeds") aX)) (by lia) (by lia) (QD (C:=C) (S:=S)) (by rw[Int.toNat_natCast];exact g);have e:fu 1 (jH aX) [some (.own true (hB C S)),none,none,none,none]=.nx [some (.own true (hB C S)),some (.own false (.l [])),none,none,none]:=by simp
 have f:bu (kG 1) [some (.own true (hB C S)),some (.own false (.l ((fG S).map cS))),a,b,c]=.rt (.dat (oi (fG S))) [some (.own true (hB C S)),some (.own false (.l ((fG S).map cS))),a,b,c]:=by show eN (kG 1 _) _=_;rw[QE rfl];rfl
 have h:(aA (fu 1 (jH aX)) (aA (ib (gK cf (aq (eP iQ (aq (bZ C 0 "deeds") aX)) aX)) (aE 2) (mu C)) (bu (kG 1)))) [some (.own true (hB C S)),none,none,none,none]=.rt (.dat (oi (fG S))) [some (.own true (hB C S)),some (.own false (.l ((fG S).map cS))),a,b,c]:=by rw[fC e,fC d,f]
 exact iG (n:=1) (N:=5) rfl h rfl
theorem wJ:∀a  r,fS a r=r\/fS a r∈a
 |[],r=>.inl rfl
 |x::a,r=>by
  rw[fS];rcases wJ a (if HT.lexLt x r=true then x else r) with h |h
  .rw[h];split
   .exact .inr List.mem_cons_self
   .exact .inl rfl
  .exact .inr (bC _ h)
theorem jg(a):eR a=.tuple (a.map bB):=by unfold eR;rfl
theorem sS{a:List bX}(h:k<a.length):bD (a.map bB) (k:Int)=some (bB a[k]):=by unfold bD cn;rw[if_pos (by lia),if_pos (by simp;lia)];simp[h]
theorem Eo(h:x∈fG S):∃k v,∃c,cA S.a S.ss (S.ds[k]).plan (dk S k)=some v/\x=[v,(k:Int),(dk S k:Int)]:=by unfold fG at h;obtain⟨k,c,e⟩:=List.mem_filterMap.mp h;have b:=List.mem_range.mp c;unfold qi at e;rw[List.getElem?_eq_getElem b]at e;obtain⟨v,d,f⟩:=Option.map_eq_some_iff.mp e;exact⟨k,v,b,d,f.symm⟩
def mz(S:Hl):Option (Int×Nat):=match fG S with
 |[]=>none
 |x::a=>(match fS a x with
  |[v,k,_]=>some (v,k.toNat)
  |_=>none)
theorem QH(h:mz S=none):fG S=[]:=by
 unfold mz at h;cases a:fG S with
 |nil=>rfl
 |cons x b=>
  rw[a]at h;have c:fS b x∈fG S:=by
   rw[a];rcases wJ b x with e |e
   .rw[e];exact List.mem_cons_self
   .exact bC _ e
  obtain⟨k,v,d,_,e⟩:=Eo c;simp only[e]at h;cases h
theorem Ep(h:mz S=some (v,k)):∃d,cA S.a S.ss (S.ds[k]).plan (dk S k)=some v/\∃x b,fG S=x::b/\fS b x=[v,(k:Int),(dk S k:Int)]:=by
 unfold mz at h;cases c:fG S with
 |nil=>rw[c]at h;cases h
 |cons x b=>
  rw[c]at h;have f:fS b x∈fG S:=by
   rw[c];rcases wJ b x with e |e
   .rw[e];exact List.mem_cons_self
   .exact bC _ e
  obtain⟨i,j,d,g,e⟩:=Eo f;simp only[e,Option.some.injEq,Prod.mk.injEq,Int.toNat_natCast]at h;obtain⟨rfl,rfl⟩:=h;exact⟨d,g,x,b,rfl,e⟩
def mB(S:Hl)(r m:Int):Hl×PyData:=match mz S with
 |none=>(S,.tuple [.str "idle",.none])
 |some (v,k)=>if m<v then(S,.tuple [.str "idle",.int v]) else
  (match S.ds[k]? with
  |some d=>(fF S ⟨m,r,if oh S.a S.ss d (dk S k) m=true then .left else .begun,k,dk S k⟩,.tuple [.str (je (if oh S.a S.ss d (dk S k) m=true then .left else .begun)),bF k,bF (dk S k)])
  |none=>(S,.none))
theorem QI(ok:bH S)(j:S.rows.length<1000000)(l:S.words.length<1000000):mw C [.own true (hB C S),.dat (.int r),.dat (.int m)]=.rt (.dat (mB S r m).2) [hB C (mB S r m).1]:=by
 have sz:1000000<sizeLine:=by decide
 have b:=QG (C:=C) ok;unfold mB;cases n:mz S with
 |none=>rw[QH n]at b;simp[mw,pS,ei,b,oi,show(2:Nat)<=sizeLine by lia]
 |some p=>
  obtain⟨v,k⟩:=p;obtain⟨g,q,x,t,s,e⟩:=Ep n;rw[s,oi,e]at b;simp only[cS,List.map_cons,List.map_nil]at b
  by_cases h:m<v
  .simp[mw,pS,ei,b,h,show(2:Nat)<=sizeLine by lia]
  .have lo:=Qv (a:=S.a) (ss:=S.ss) (d:=S.ds[k]) (c:=dk S k) (now:=m) ok.z.len (ok.pl _ (List.getElem_mem g)) ⟨v,q⟩;simp only[List.getElem?_eq_getElem g];rw[if_neg h];cases o:oh S.a S.ss S.ds[k] (dk S k) m with
   |true=>rw[o]at lo;have i:=qh (C:=C) (S:=S) (r:=⟨m,r,.left,k,dk S k⟩) j l ok.nd (by rw[ok.sl];exact g);have f:gv C [.own true (hB C S),.dat (.tuple [.int m,.int r,.str "left",.int k,.int (dk S k)])]=.rt (.dat (.tuple [.str "left",.int k,.int (dk S k)])) [hB C (fF S ⟨m,r,.left,k,dk S k⟩)]:=i;simp[mw,pS,ei,bR,cY,b,jg,sS g,lo,h,f,show(5:Nat)<=sizeLine by lia]
   |false=>rw[o]at lo;have i:=qh (C:=C) (S:=S) (r:=⟨m,r,.begun,k,dk S k⟩) j l ok.nd (by rw[ok.sl];exact g);have f:gv C [.own true (hB C S),.dat (.tuple [.int m,.int r,.str "begun",.int k,.int (dk S k)])]=.rt (.dat (.tuple [.str "begun",.int k,.int (dk S k)])) [hB C (fF S ⟨m,r,.begun,k,dk S k⟩)]:=i;simp[mw,pS,ei,bR,cY,b,jg,sS g,lo,h,f,show(5:Nat)<=sizeLine by lia]
def mC(S:Hl)(r m:Int)(d c:Nat):Hl×PyData:=match S.ds[d]? with
 |some x=>(fF S ⟨m,r,if x.again=true then .begun else .unsure,d,c⟩,.tuple [.str (je (if x.again=true then .begun else .unsure)),bF d,bF c])
 |none=>(S,.none)
theorem QJ(ok:bH S)(f:S.rows.length<1000000)(g:S.words.length<1000000)(e:S.begun=some (d,c,h)):pM C [.own true (hB C S),.dat (.int r),.dat (.int m)]=.rt (.dat (mC S r m d c).2) [hB C (mC S r m d c).1]:=by
 have sz:1000000<sizeLine:=by decide
 have hd:=ok.bg d c h e;unfold mC;simp only[List.getElem?_eq_getElem hd];cases i:(S.ds[d]).again with
 |true=>have b:=qh (C:=C) (S:=S) (r:=⟨m,r,.begun,d,c⟩) f g ok.nd (by rw[ok.sl];exact hd);have a:gv C [.own true (hB C S),.dat (.tuple [.int m,.int r,.str "begun",.int d,.int c])]=.rt (.dat (.tuple [.str "begun",.int d,.int c])) [hB C (fF S ⟨m,r,.begun,d,c⟩)]:=b;simp[pM,wb,bR,cY,e,fT,jg,sS hd,i,a,show(5:Nat)<=sizeLine by lia]
 |false=>have b:=qh (C:=C) (S:=S) (r:=⟨m,r,.unsure,d,c⟩) f g ok.nd (by rw[ok.sl];exact hd);have a:gv C [.own true (hB C S),.dat (.tuple [.int m,.int r,.str "unsure",.int d,.int c])]=.rt (.dat (.tuple [.str "unsure",.int d,.int c])) [hB C (fF S ⟨m,r,.unsure,d,c⟩)]:=b;simp[pM,wb,bR,cY,e,fT,jg,sS hd,i,a,show(5:Nat)<=sizeLine by lia]
theorem bH.last(ok:bH S)(x):bH { S with last:=x }:=⟨ok.z,ok.dl,ok.pl,ok.sl,ok.nd,ok.bg⟩
def eS(S:Hl)(r m:Int):Hl×PyData:=match S.begun with
 |some (d,c,h)=>if h=S.holds then({ S with last:=some m },.tuple [.str "busy",bF d,bF c]) else mC { S with last:=some m } r m d c
 |none=>mB { S with last:=some m } r m
theorem Er(ok:bH S)(f:S.rows.length<1000000)(g:S.words.length<1000000)(b:et C [.own true (hB C S),.dat (.int r),.dat (.int m)]=.rt (.dat .none) [hB C S]):jc C [.own true (hB C S),.dat (.int r),.dat (.int m)]=.rt (.dat (eS S r m).2) [hB C (eS S r m).1]:=by
 have sz:1000000<sizeLine:=by decide
 have a:=wH (C:=C) (S:={ S with last:=some m });unfold jX at a;unfold eS;cases hb:S.begun with
 |none=>have i:=QI (C:=C) (S:={ S with last:=some m }) (r:=r) (m:=m) (ok.last _) f g;simp only[hb]at a i ⊢;simp[jc,pT,bR,ei,cY,b,cO,fy,fx,a,hb,fT,i]
 |some p=>
  obtain⟨d,c,h⟩:=p;have j:=QJ (C:=C) (S:={ S with last:=some m }) (r:=r) (m:=m) (ok.last _) f g hb;simp only[hb]at a j ⊢
  by_cases e:h=S.holds
  .rw[if_pos e];rw[decide_eq_true e]at a;simp[jc,pT,bR,ei,cY,b,cO,fy,fx,a,hb,fT,show(3:Nat)<=sizeLine by lia]
  .rw[if_neg e];rw[decide_eq_false e]at a;simp[jc,pT,bR,ei,cY,b,cO,fy,fx,a,hb,fT,j]
theorem Es(b:et C [.own true (hB C S),.dat (.int r),.dat (.int m)]=.rt (.dat .none) [hB C S])(c:jX S=false):jb C [.own true (hB C S),.dat (.int r),.dat (.int m)]=.ex "Nothing" [hB C S]:=by have a:=wH (C:=C) (S:=S);rw[c]at a;simp[jb,sy,bR,ei,cY,b,a]
theorem Et(ok:bH S)(f:S.rows.length<1000000)(g:S.words.length<1000000)(i:et C [.own true (hB C S),.dat (.int r),.dat (.int m)]=.rt (.dat .none) [hB C S])(e:S.begun=some (d,c,S.holds)):jb C [.own true (hB C S),.dat (.int r),.dat (.int m)]=.rt (.dat (.tuple [.str "done",bF d,bF c])) [hB C (fF { S with last:=some m } ⟨m,r,.done,d,c⟩)]:=by
 have sz:1000000<sizeLine:=by decide
 have b:=wH (C:=C) (S:=S);unfold jX at b;rw[e]at b;simp only[decide_true]at b;have hd:=ok.bg d c _ e;have h:=qh (C:=C) (S:={ S with last:=some m }) (r:=⟨m,r,.done,d,c⟩) f g ok.nd (by show d<S.settled.length;rw[ok.sl];exact hd);have a:gv C [.own true (hB C { S with last:=some m }),.dat (.tuple [.int m,.int r,.str "done",.int d,.int c])]=.rt (.dat (.tuple [.str "done",.int d,.int c])) [hB C (fF { S with last:=some m } ⟨m,r,.done,d,c⟩)]:=h;simp only[e]at a;simp[jb,sy,bR,ei,cY,i,b,cO,fy,fx,e,fT,a,show(5:Nat)<=sizeLine by lia]
@[simp]theorem TZ:cE "tuple" "str" = some false:=by decide
@[simp]theorem Ua:cE "tuple" "bool" = some false:=by decide
@[simp]theorem Ub:cE "tuple" "list" = some false:=by decide
@[simp]theorem Uc:cE "list" "str" = some false:=by decide
@[simp]theorem Ud:cE "list" "bool" = some false:=by decide
@[simp]theorem Ue:cE "list" "list" = some true:=by decide
@[simp]theorem Uf:cE "NoneType" "str" = some false:=by decide
@[simp]theorem Ug:cE "NoneType" "bool" = some false:=by decide
@[simp]theorem Uh:cE "NoneType" "list" = some false:=by decide
@[simp]theorem Ui:cE "int" "str" = some false:=by decide
@[simp]theorem Uj:cE "int" "list" = some false:=by decide
@[simp]theorem Uk:cE "bool" "str" = some false:=by decide
@[simp]theorem Ul:cE "bool" "list" = some false:=by decide
@[simp]theorem Um:cE "str" "bool" = some false:=by decide
@[simp]theorem Uo:cE "str" "list" = some false:=by decide
theorem lu:PyData.strOk "take" = true:=by decide +kernel
theorem jh:PyData.strOk "give" = true:=by decide +kernel
theorem ji:PyData.strOk "step" = true:=by decide +kernel
theorem oj:PyData.strOk "finish" = true:=by decide +kernel
theorem QK:(("take":Str)==("take":Str))=true:=by decide +kernel
theorem Eu:(("give":Str)==("take":Str))=false:=by decide +kernel
theorem Ev:(("give":Str)==("give":Str))=true:=by decide +kernel
theorem Ew:(("step":Str)==("take":Str))=false:=by decide +kernel
theorem Ex:(("step":Str)==("give":Str))=false:=by decide +kernel
theorem Ey:(("step":Str)==("step":Str))=true:=by decide +kernel
theorem Ez:(("finish":Str)==("take":Str))=false:=by decide +kernel
theorem EA:(("finish":Str)==("give":Str))=false:=by decide +kernel
theorem EB:(("finish":Str)==("step":Str))=false:=by decide +kernel
theorem ED(h:ms C [.own true (hB C S),.dat r,.dat m,.dat t]=.rt (.dat d) [hB C S']):dN C [.own true (hB C S),.dat (.tuple [.str "take",r,m,t])]=.rt (.dat d) [hB C S']:=by simp[dN,jS,iU,bW lu lu,QK,bR,cY,h,iF]
theorem EE(h:kO C [.own true (hB C S),.dat r,.dat m]=.rt (.dat d) [hB C S']):dN C [.own true (hB C S),.dat (.tuple [.str "give",r,m])]=.rt (.dat d) [hB C S']:=by simp[dN,jS,iU,bW jh lu,Eu,bW jh jh,Ev,bR,cY,h]
theorem EF(h:kO C [.own true (hB C S),.dat r,.dat m]=.ex c [hB C S])(a:c∈er)(b:ml [.exc c]=.rt (.dat q) []):dN C [.own true (hB C S),.dat (.tuple [.str "give",r,m])]=.rt (.dat q) [hB C S]:=by simp[dN,jS,iU,bW jh lu,Eu,bW jh jh,Ev,bR,cY,h,a,b]
theorem EG(h:jc C [.own true (hB C S),.dat r,.dat m]=.rt (.dat d) [hB C S']):dN C [.own true (hB C S),.dat (.tuple [.str "step",r,m])]=.rt (.dat d) [hB C S']:=by simp[dN,jS,iU,bW ji lu,Ew,bW ji jh,Ex,bW ji ji,Ey,bR,cY,h]
theorem EH(h:jc C [.own true (hB C S),.dat r,.dat m]=.ex c [hB C S])(a:c∈er)(b:ml [.exc c]=.rt (.dat q) []):dN C [.own true (hB C S),.dat (.tuple [.str "step",r,m])]=.rt (.dat q) [hB C S]:=by simp[dN,jS,iU,bW ji lu,Ew,bW ji jh,Ex,bW ji ji,Ey,bR,cY,h,a,b]
theorem EI(h:jb C [.own true (hB C S),.dat r,.dat m]=.rt (.dat d) [hB C S']):dN C [.own true (hB C S),.dat (.tuple [.str "finish",r,m])]=.rt (.dat d) [hB C S']:=by simp[dN,jS,iU,bW oj lu,Ez,bW oj jh,EA,bW oj ji,EB,bR,cY,h]
theorem sT(h:jb C [.own true (hB C S),.dat r,.dat m]=.ex c [hB C S])(a:c∈er)(b:ml [.exc c]=.rt (.dat q) []):dN C [.own true (hB C S),.dat (.tuple [.str "finish",r,m])]=.rt (.dat q) [hB C S]:=by simp[dN,jS,iU,bW oj lu,Ez,bW oj jh,EA,bW oj ji,EB,bR,cY,h,a,b]
def jk:gW->Prop
 |.within n=>0<=n/\n<=999
 |_=>True
theorem QL(ok:jk x):nQ [.dat (kW x)]=.rt (.dat (.bool true)) []:=by
 cases x with
 |all=>simp[nQ,rW,bW jV jV,Ef]
 |last=>simp[nQ,rW,bW iD jV,bW iD iD,wE,wF]
 |within n=>
  have a:(("within":Str)==("within":Str))=true:=by decide +kernel
  simp[nQ,rW,mx sR sR,a,kS (d:=.int n) rfl,dh,ok.1,ok.2]
theorem QM(a:fB d.plan)(b:jk d.late):sg [.dat (bB d)]=.rt (.dat (.bool true)) []:=by have h1:=PR a;have h2:=QL b;simp[sg,Bv,pZ,gf,h1,h2]
theorem EJ:∀(b:List bX)  a (U:ag),(∃x,U=[x])->(∀d∈b,fB d.plan/\jk d.late)->a.length+b.length<=sizeLine->cp (aE 0) du sj (b.map bB) a U=some (a++(b.map fun _=>PyData.bool true))
 |[],a,U,_,_,_=>by simp[cp]
 |d::b,a,U,⟨x,c⟩,h,e=>by
  subst c;simp only[List.length_cons]at e;have hd:=h d List.mem_cons_self;have f:=EJ b (a++[.bool true]) [some (.dat (bB d))] ⟨_,rfl⟩ (fun x c=>h x (bC _ c)) (by simp;lia);have g:sj [some (.dat (bB d))]=.ok (.bool true) [some (.dat (bB d))]:=by simp[sj,QM hd.1 hd.2]
  rw[List.map_cons,cp];simp[du,g,show a.length<sizeLine by lia,f]
theorem EK:∀n,bools? (List.replicate n (PyData.bool true))=some (List.replicate n true)
 |0=>rfl
 |n+1=>by rw[List.replicate_succ,bools?,EK n];rfl
theorem QN(b:ds.length<=6)(h:∀d∈ds,fB d.plan/\jk d.late):pR [.dat (eR ds)]=.rt (.dat .none) []:=by
 have sz:1000<sizeLine:=by decide
 have g:=EJ ds [] [none] ⟨_,rfl⟩ h (by simp;lia);rw[List.nil_append,List.map_const']at g;have a:mY [.list (List.replicate ds.length (PyData.bool true))]=some (.bool true):=by simp[mY,EK]
 unfold eR;simp[-mY,pR,BA,we,By,g,a,show ¬ (6:Int)<ds.length by lia,show ds.length<=sizeLine by lia]
theorem QO(a:ns.length<=63)(A:t.length<=700)(B:made.length<100) :
  ∃d t' j m,fB d.plan/\jk d.late/\t'.length<=t.length+9/\sv [some (.scr ns),some (.own true (.l t)),some (.own false (.l made)),x3,x4,x5]=.nx [some (.scr ns),some (.own true (.l t')),some (.own false (.l (made++[bB d]))),x3,j,m]:=by
 have sz:1000<sizeLine:=by decide
 obtain⟨w,f,h1⟩:=kT (ns:=ns) (t:=t) (ds:=[.int 30,.int 30,.int 1000]) a (by lia) (by simp) (by simp);have:∃i:Int,w=.int i/\0<i/\i<=1000:=by simp only[List.mem_cons,List.not_mem_nil,or_false]at f;rcases f with rfl |rfl |rfl<;>exact⟨_,rfl,by lia,by lia⟩
 obtain⟨i,rfl,n,C⟩:=this;obtain⟨c,o,D,h2⟩:=eA (ns:=ns) (t:=t++[.int 0]) (many:=i) a (by simp;lia) n;obtain⟨z,b,h3⟩:=kT (ns:=ns) (t:=t++[.int 0]++[.int 0]) (ds:=[.str "all",.str "last",.tuple [.str "within",.int c]]) a (by simp;lia) (by simp) (by simp);have:∃x:gW,z=kW x/\jk x:=by
  simp only[List.mem_cons,List.not_mem_nil,or_false]at b;rcases b with rfl |rfl |rfl
  .exact⟨.all,rfl,trivial⟩
  .exact⟨.last,rfl,trivial⟩
  .exact⟨.within c,rfl,o,by lia⟩
 obtain⟨x,rfl,q⟩:=this;obtain⟨p,g,r,s,h⟩:=Qe (ns:=ns) (t:=t++[.int 0]++[.int 0]++[.int 0]) a (by simp;lia);simp only[List.length_append,List.length_cons,List.length_nil]at s;obtain⟨k,E,G,u⟩:=eA (ns:=ns) (t:=g) (many:=2) a (by lia) (by lia);simp only[List.append_assoc,List.cons_append,List.nil_append]at h2 h3 h;refine⟨⟨p,x,decide (k=0)⟩,g++[.int 0],some (.dat (.int c)),some (.dat (kW x)),r,q,by simp;lia,?_⟩;generalize v:gV p=P at *;generalize y:kW x=L at *;have e:bB ⟨p,x,decide (k=0)⟩=.tuple [P,L,.bool (decide (k=0))]:=by unfold bB;rw[v,y]
 rw[e];simp[sv,h1,h2,h3,h,u,kU,show(2:Nat)<=sizeLine by lia,show(3:Nat)<=sizeLine by lia,show made.length<sizeLine by lia]
theorem EL(g:ns.length<=63):∀n  i {t made}{x3 x4 x5},t.length+9 * n<=700->made.length+n<100->∃(a:List bX) (t':List PyData) (h b c:Option ae),(∀d∈a,fB d.plan/\jk d.late)/\a.length=n/\t'.length<=t.length+9 * n/\
   df (aE 3) sv (L3.intsFrom i n) [some (.scr ns),some (.own true (.l t)),some (.own false (.l made)),x3,x4,x5]=.nx [some (.scr ns),some (.own true (.l t')),some (.own false (.l (made++a.map bB))),h,b,c]
 |0,i,t,made,x3,x4,x5,_,_=>⟨[],t,x3,x4,x5,by simp,rfl,by lia,by simp[L3.intsFrom,df]⟩
 |n+1,i,t,made,x3,x4,x5,v,w=>by
  obtain⟨d,j,b,c,k,m,l1,e⟩:=QO (ns:=ns) (t:=t) (made:=made) (x3:=some (.dat (.int i))) (x4:=x4) (x5:=x5) g (by lia) (by lia);obtain⟨a,o,p,q,r,h2,s,l2,u⟩:=EL g n (i+1) (t:=j) (made:=made++[bB d]) (x3:=some (.dat (.int i))) (x4:=b) (x5:=c) (by lia) (by simp;lia);refine⟨d::a,o,p,q,r,fun x f=>?_,by simp[s],by lia,?_⟩
  .rcases List.mem_cons.mp f with rfl |f
   .exact⟨k,m⟩
   .exact h2 x f
  .rw[List.map_cons,show made++bB d::a.map bB=made++[bB d]++a.map bB by simp,<-u,wA,df];simp[e]
theorem QP(b:ns.length<=63)(h:t.length<=600):∃(a:List bX) (t':List PyData),(∀d∈a,fB d.plan/\jk d.late)/\a.length<=6/\t'.length<=t.length+60/\sx [.scr ns,.own true (.l t)]=.rt (.dat (.tuple (a.map bB))) [.l t']:=by
 have sz:1000<sizeLine:=by decide
 obtain⟨w,c,h1⟩:=kT (ns:=ns) (t:=t) (ds:=[.int 5,.int 5,.int 7]) b (by lia) (by simp) (by simp);have:∃i:Int,w=.int i/\0<i/\i<=7:=by simp only[List.mem_cons,List.not_mem_nil,or_false]at c;rcases c with rfl |rfl |rfl<;>exact⟨_,rfl,by lia,by lia⟩
 obtain⟨i,rfl,f,j⟩:=this;obtain⟨k,m,n,h2⟩:=eA (ns:=ns) (t:=t++[.int 0]) (many:=i) b (by simp;lia) f;simp only[List.append_assoc,List.cons_append,List.nil_append]at h2;obtain⟨a,g,o,p,q,hd,nd,l2,e⟩:=EL (ns:=ns) b k.toNat 0 (t:=t++[.int 0,.int 0]) (made:=[]) (x3:=none) (x4:=none) (x5:=none) (by simp;lia) (by simp;lia);simp only[List.length_append,List.length_cons,List.length_nil]at l2;refine⟨a,g,hd,by lia,by lia,?_⟩;rw[List.nil_append]at e;simp[sx,BB,h1,h2,e,show -4611686018427387904<=k by lia,show k<4611686018427387904 by lia,show(3:Nat)<=sizeLine by lia]
def qj(S:Hl):PyData:=.tuple [cu S.a S.ss,eR S.ds,bT S.last,bT S.holder,.int S.til,.int S.holds,fT S.begun,.tuple (S.rows.map fU)]
theorem QQ:pI C [.own true (hB C S)]=.rt (.dat (qj S)) [hB C S]:=by unfold qj;simp[pI,Bf,rB,show(8:Nat)<=sizeLine from by decide]
theorem QR(p):PyData.canLay0 (gV p)=true/\PyData.depth (gV p)<=2:=by cases p<;>simp[gV,PyData.canLay0,PyData.canLayAll0,PyData.depth,PyData.depthAll,fh,gU,jT]
theorem QS(x):PyData.canLay0 (kW x)=true/\PyData.depth (kW x)<=2:=by cases x<;>simp[kW,PyData.canLay0,PyData.canLayAll0,PyData.depth,PyData.depthAll,jV,iD,sR]
theorem QT(d):PyData.canLay0 (bB d)=true/\PyData.depth (bB d)<=3:=by have h1:=QR d.plan;have h2:=QS d.late;refine⟨by simp[bB,PyData.canLay0,PyData.canLayAll0,h1.1,h2.1],?_⟩;simp only[bB,PyData.depth,PyData.depthAll];have:=h1.2;have:=h2.2;lia
theorem EM:∀a:List bX,PyData.canLayAll0 (a.map bB)=true/\PyData.depthAll (a.map bB)<=3
 |[]=>⟨rfl,by simp[PyData.depthAll]⟩
 |d::a=>by have h1:=QT d;have h2:=EM a;refine⟨by simp[PyData.canLayAll0,h1.1,h2.1],?_⟩;simp only[List.map_cons,PyData.depthAll];have:=h1.2;have:=h2.2;lia
theorem EN:∀a:Sh,PyData.canLayAll0 (a.map cR)=true/\PyData.depthAll (a.map cR)<=1
 |[]=>⟨rfl,by simp[PyData.depthAll]⟩
 |p::a=>by have h2:=EN a;refine⟨by simp[PyData.canLayAll0,PyData.canLay0,h2.1],?_⟩;simp only[List.map_cons,cR,PyData.depthAll,PyData.depth];have:=h2.2;lia
inductive Cl where
 |take (r m t:Int) |give (r m:Int) |step (r m:Int) |finish (r m:Int)
noncomputable def cj:Cl->PyData
 |.take r m t=>.tuple [.str "take",.int r,.int m,.int t]
 |.give r m=>.tuple [.str "give",.int r,.int m]
 |.step r m=>.tuple [.str "step",.int r,.int m]
 |.finish r m=>.tuple [.str "finish",.int r,.int m]
noncomputable def Cl.ru:Cl->Int
 |.take r _ _=>r
 |.give r _=>r
 |.step r _=>r
 |.finish r _=>r
noncomputable def Cl.mo:Cl->Int
 |.take _ m _=>m
 |.give _ m=>m
 |.step _ m=>m
 |.finish _ m=>m
structure iH (c:Cl) (now:Int):Prop where
 r:0<=c.ru/\c.ru<=3
 m:now<=c.mo/\c.mo<=now+29
 t:∀r m t,c=.take r m t->1<=t/\t<=99
theorem QU(c):aJ (cj c) (.int 2)=some (.int c.mo):=by cases c<;>rfl
abbrev EO:SM:=(bI (qT (be (ai hV (xV 3) (xC .none))) (be (ai kB (aL (aO dg (aY 0 (aY 1 (au (xC (.int 4)) aG))))) (xC (.int 0))))) (bO (xV 3) (aE 4)) bL)
theorem QV(o:f.length<=63)(X:t.length<=100000)(M:∀h,holder=some h->0<=h/\h<=3) :
  ∃c t',nW [.scr f,.own true (.l t),.dat (.int now),.dat (bT holder)]=.rt (.dat (cj c)) [.l t']/\iH c now/\t'.length<=t.length+7:=by
 have sz:1000<sizeLine:=by decide
 obtain⟨p,D,Y,T⟩:=eA (ns:=f) (t:=t) (many:=4) o (by lia) (by lia);have first:∃r g,0<=r/\r<=3/\g.length<=t.length+2/\EO [some (.scr f),some (.own true (.l (t++[.int 0]))),some (.dat (.int now)),some (.dat (bT holder)),some (.dat (.int p)),none,none]=.nx [some (.scr f),some (.own true (.l g)),some (.dat (.int now)),some (.dat (bT holder)),some (.dat (.int r)),none,none]:=by
  cases holder with
  |none=>exact⟨p,t++[.int 0],D,by lia,by simp,by simp[bT]⟩
  |some h=>
   obtain⟨k,Z,b2,h2⟩:=eA (ns:=f) (t:=t++[.int 0]) (many:=4) o (by simp;lia) (by lia);simp only[List.append_assoc,List.cons_append,List.nil_append]at h2
   by_cases n:0<k
   .exact⟨h,t++[.int 0,.int 0],(M h rfl).1,(M h rfl).2,by simp,by simp[bT,h2,n]⟩
   .exact⟨p,t++[.int 0,.int 0],D,by lia,by simp,by simp[bT,h2,n]⟩
 obtain⟨r,g,E,G,l2,N⟩:=first
 obtain⟨x,x1,x2,h3⟩:=eA (ns:=f) (t:=g) (many:=30) o (by lia) (by lia);obtain⟨v,H,I⟩:=kT (ns:=f) (t:=g++[.int 0]) (ds:=[.int 0,.int 0,.int 0,.int 1,.int 2,.int x]) o (by simp;lia) (by simp) (by simp);have:∃i:Int,v=.int i/\0<=i/\i<=29:=by simp only[List.mem_cons,List.not_mem_nil,or_false]at H;rcases H with rfl |rfl |rfl |rfl |rfl |rfl<;>exact⟨_,rfl,by lia,by lia⟩
 obtain⟨i,rfl,i0,i1⟩:=this;obtain⟨k,k0,k1,J⟩:=eA (ns:=f) (t:=g++[.int 0]++[.int 0]) (many:=10) o (by simp;lia) (by lia);simp only[List.append_assoc,List.cons_append,List.nil_append]at I J;have pre:∀{q:SM},(aA (bO (aL (aO dg (aY 0 (aY 1 (au (xC (.int 4)) aG))))) (aE 4)) (aA EO (aA (bO (ai dF (xV 2) (aL (aO ik (aY 0 (aY 1 (au (fq (aq (xC (.int 0)) (aq (xC (.int 0)) (aq (xC (.int 0)) (aq (xC (.int 1)) (aq (xC (.int 2)) (aq (aL (aO dg (aY 0 (aY 1 (au (xC (.int 30)) aG))))) aX))))))) aG)))))) (aE 5)) (aA (bO (aL (aO dg (aY 0 (aY 1 (au (xC (.int 10)) aG))))) (aE 6)) q))))
   [some (.scr f),some (.own true (.l t)),some (.dat (.int now)),some (.dat (bT holder)),none,none,none]=q [some (.scr f),some (.own true (.l (g++[.int 0,.int 0,.int 0]))),some (.dat (.int now)),some (.dat (bT holder)),some (.dat (.int r)),some (.dat (.int (now+i))),some (.dat (.int k))]:=by
  intro q;refine(fC (by simp[T]<;>rfl)).trans ?_;refine(fC N).trans ?_;refine(fC (by simp[h3,I,show(6:Nat)<=sizeLine by lia]<;>rfl)).trans ?_;exact fC (by simp[J])
 by_cases n:holder=none\/k<2
 .obtain⟨w,L,s⟩:=kT (ns:=f) (t:=g++[.int 0,.int 0,.int 0]) (ds:=[.int 4,.int 99]) o (by simp;lia) (by simp) (by simp);have:∃j:Int,w=.int j/\0<j/\j<=99:=by simp only[List.mem_cons,List.not_mem_nil,or_false]at L;rcases L with rfl |rfl<;>exact⟨_,rfl,by lia,by lia⟩
  obtain⟨j,rfl,O,j1⟩:=this;obtain⟨y,y0,y1,u⟩:=eA (ns:=f) (t:=g++[.int 0,.int 0,.int 0]++[.int 0]) (many:=j) o (by simp;lia) O;simp only[List.append_assoc,List.cons_append,List.nil_append]at s u;refine⟨.take r (now+i) (1+y),g++[.int 0,.int 0,.int 0,.int 0,.int 0],?_,⟨⟨E,G⟩,⟨by show now<=now+i;lia,by show now+i<=_;lia⟩,fun _ _ _ e=>by cases e;lia⟩,by simp;lia⟩;refine iG (U:=[some (.scr f),some (.own true (.l (g++[.int 0,.int 0,.int 0,.int 0,.int 0]))),some (.dat (.int now)),some (.dat (bT holder)),some (.dat (.int r)),some (.dat (.int (now+i))),some (.dat (.int k))]) rfl (pre.trans ?_) rfl;rcases n with rfl |n
  .simp[bT,s,u,cj,show(2:Nat)<=sizeLine by lia,show(4:Nat)<=sizeLine by lia]
  .cases holder<;>simp[bT,s,u,n,cj,show(2:Nat)<=sizeLine by lia,show(4:Nat)<=sizeLine by lia]
 .obtain⟨h,rfl⟩:∃h,holder=some h:=by cases holder with
   |none=>exact absurd (.inl rfl) n
   |some h=>exact⟨h,rfl⟩
  have k2:¬ k<2:=fun z=>n (.inr z);have ok:∀c:Cl,c.ru=r->c.mo=now+i->(∀r m t,c≠.take r m t)->iH c now:=fun c A B C=>⟨by rw[A];exact⟨E,G⟩,by rw[B];lia,fun a b d e=>absurd e (C a b d)⟩
  by_cases B:k=2
  .subst B;refine⟨.give r (now+i),g++[.int 0,.int 0,.int 0],?_,ok _ rfl rfl (by simp),by simp;lia⟩;refine iG (U:=[some (.scr f),some (.own true (.l (g++[.int 0,.int 0,.int 0]))),some (.dat (.int now)),some (.dat (bT (some h))),some (.dat (.int r)),some (.dat (.int (now+i))),some (.dat (.int 2))]) rfl (pre.trans ?_) rfl;simp[bT,kU,cj,show(3:Nat)<=sizeLine by lia]
  .have Q:k=3\/k=4\/k=5\/k=6\/k=7\/k=8\/k=9:=by lia
   have mk:∀c:Cl,c.ru=r->c.mo=now+i->(∀r m t,c≠.take r m t)->nW [.scr f,.own true (.l t),.dat (.int now),.dat (bT (some h))]=.rt (.dat (cj c)) [.l (g++[.int 0,.int 0,.int 0])]->∃c t',nW [.scr f,.own true (.l t),.dat (.int now),.dat (bT (some h))]=.rt (.dat (cj c)) [.l t']/\iH c now/\t'.length<=t.length+7:=fun c A C R S=>⟨c,_,S,ok c A C R,by simp;lia⟩
   have s3:(3:Nat)<=sizeLine:=by lia
   have s8:(8:Nat)<=sizeLine:=by lia
   rcases Q with rfl |rfl |rfl |rfl |rfl |rfl |rfl
   .exact mk (.step r (now+i)) rfl rfl (by simp) (iG (U:=[some (.scr f),some (.own true (.l (g++[.int 0,.int 0,.int 0]))),some (.dat (.int now)),some (.dat (bT (some h))),some (.dat (.int r)),some (.dat (.int (now+i))),some (.dat (.int 3))]) rfl (pre.trans (by kernel_rfl)) rfl)
   .exact mk (.finish r (now+i)) rfl rfl (by simp) (iG (U:=[some (.scr f),some (.own true (.l (g++[.int 0,.int 0,.int 0]))),some (.dat (.int now)),some (.dat (bT (some h))),some (.dat (.int r)),some (.dat (.int (now+i))),some (.dat (.int 4))]) rfl (pre.trans (by kernel_rfl)) rfl)
   .exact mk (.step r (now+i)) rfl rfl (by simp) (iG (U:=[some (.scr f),some (.own true (.l (g++[.int 0,.int 0,.int 0]))),some (.dat (.int now)),some (.dat (bT (some h))),some (.dat (.int r)),some (.dat (.int (now+i))),some (.dat (.int 5))]) rfl (pre.trans (by kernel_rfl)) rfl)
   .exact mk (.finish r (now+i)) rfl rfl (by simp) (iG (U:=[some (.scr f),some (.own true (.l (g++[.int 0,.int 0,.int 0]))),some (.dat (.int now)),some (.dat (bT (some h))),some (.dat (.int r)),some (.dat (.int (now+i))),some (.dat (.int 6))]) rfl (pre.trans (by kernel_rfl)) rfl)
   .exact mk (.step r (now+i)) rfl rfl (by simp) (iG (U:=[some (.scr f),some (.own true (.l (g++[.int 0,.int 0,.int 0]))),some (.dat (.int now)),some (.dat (bT (some h))),some (.dat (.int r)),some (.dat (.int (now+i))),some (.dat (.int 7))]) rfl (pre.trans (by kernel_rfl)) rfl)
   .exact mk (.finish r (now+i)) rfl rfl (by simp) (iG (U:=[some (.scr f),some (.own true (.l (g++[.int 0,.int 0,.int 0]))),some (.dat (.int now)),some (.dat (bT (some h))),some (.dat (.int r)),some (.dat (.int (now+i))),some (.dat (.int 8))]) rfl (pre.trans (by kernel_rfl)) rfl)
   .exact mk (.step r (now+i)) rfl rfl (by simp) (iG (U:=[some (.scr f),some (.own true (.l (g++[.int 0,.int 0,.int 0]))),some (.dat (.int now)),some (.dat (bT (some h))),some (.dat (.int r)),some (.dat (.int (now+i))),some (.dat (.int 9))]) rfl (pre.trans (by kernel_rfl)) rfl)
def cL(S:Hl):Hl:=S.rows.foldl fF (dZ S.a S.ss S.ds)
structure dH (S:Hl) (m:Int) (n:Nat):Prop where
 ok:bH S
 lt:∀d∈S.ds,jk d.late
 rl:S.rows.length<=n
 wl:S.words.length<=n
 ho:∀h,S.holder=some h->0<=h/\h<=3
 la:∀l,S.last=some l->l<=m
 ti:S.til<=m+99
 dr:∀x∈S.rows,x.dd<S.ds.length
 w1:(cL S).words=S.words
 w2:(cL S).settled=S.settled
theorem bH.add(ok:bH S)(h:r.dd<S.ds.length):bH (fF S r):=by
 refine⟨ok.z,ok.dl,ok.pl,?_,Qx ok.nd,?_⟩
 .show(if r.wd=.begun then S.settled else S.settled.set r.dd (r.ct+1)).length=S.ds.length;split
  .exact ok.sl
  .rw[List.length_set];exact ok.sl
 .intro d c k e;have a:(if r.wd=.begun then some (r.dd,r.ct,S.holds) else none)=some (d,c,k):=e;split at a
  .cases a;exact h
  .cases a
theorem dH.add(p:dH S m n)(h:r.dd<S.ds.length):dH (fF S r) m (n+1):=by
 have c:cL (fF S r)=fF (cL S) r:=by show(S.rows++[r]).foldl fF (dZ S.a S.ss S.ds)=_;rw[List.foldl_append];rfl
 refine⟨p.ok.add h,p.lt,?_,?_,p.ho,p.la,p.ti,?_,?_,?_⟩
 .have:=p.rl;show(S.rows++[r]).length<=n+1;simp;lia
 .have:=p.wl;have:=Qy (r.dd,r.ct) r.wd S.words;show(fE S.words (r.dd,r.ct) r.wd).length<=n+1;lia
 .intro x b;rcases List.mem_append.mp b with b |b
  .exact p.dr x b
  .rw[List.mem_singleton.mp b];exact h
 .rw[c];show fE (cL S).words _ _=fE S.words _ _;rw[p.w1]
 .rw[c];show(if r.wd=.begun then(cL S).settled else(cL S).settled.set r.dd (r.ct+1))=(if r.wd=.begun then S.settled else S.settled.set r.dd (r.ct+1));rw[p.w2]
theorem dH.mono(p:dH S m n)(h:m<=a)(c:n<=b):dH S a b:=
 ⟨p.ok,p.lt,Nat.le_trans p.rl c,Nat.le_trans p.wl c,p.ho,fun l e=>Int.le_trans (p.la l e) h,by have:=p.ti;lia,p.dr,p.w1,p.w2⟩
theorem dH.last(p:dH S m n)(h:m<=a):dH { S with last:=some a } a n:=
 ⟨p.ok.last _,p.lt,p.rl,p.wl,p.ho,fun l e=>by cases e;lia,by have:=p.ti;show S.til<=_;lia,p.dr,p.w1,p.w2⟩
theorem dH.hold(p:dH S m n)(h:m<=a)(b:∀h,w=some h->0<=h/\h<=3)(c:u<=a+99):dH { S with last:=some a,holder:=w,til:=u,holds:=k } a n:=
 ⟨⟨p.ok.z,p.ok.dl,p.ok.pl,p.ok.sl,p.ok.nd,p.ok.bg⟩,p.lt,p.rl,p.wl,b,fun l e=>by cases e;lia,c,p.dr,p.w1,p.w2⟩
theorem QW(z:iz a f)(g:b.length<=6)(hd:∀d∈b,my d.plan/\jk d.late):dH (dZ a f b) 0 0:=
 ⟨⟨z,g,fun d h=>(hd d h).1,by simp[dZ],by simp[dZ],fun d c h e=>(by cases e)⟩,fun d h=>(hd d h).2,by simp[dZ],by simp[dZ],fun h e=>(by cases e),fun l e=>(by cases e),by simp[dZ],by simp[dZ],rfl,rfl⟩
theorem EQ(p:dH S m n)(h:m<=b):dH (eS S r b).1 b (n+1)/\(eS S r b).1.holder=S.holder/\(eS S r b).1.til=S.til/\
  ((∃d c,(eS S r b).1.begun=some (d,c,(eS S r b).1.holds)/\((eS S r b).2=.tuple [.str "busy",bF d,bF c]\/(eS S r b).2=.tuple [.str "begun",bF d,bF c]))\/
   (∃d c,(eS S r b).2=.tuple [.str "left",bF d,bF c]\/(eS S r b).2=.tuple [.str "unsure",bF d,bF c])\/(eS S r b).2=.tuple [.str "idle",.none]\/∃v,(eS S r b).2=.tuple [.str "idle",.int v]):=by
 have q:=p.last h;obtain⟨f,g⟩:∃f:Hl,f = { S with last:=some b }:=⟨_,rfl⟩
 rw[<-g]at q;have o:f.begun=S.begun:=by rw[g]
 have s:f.holds=S.holds:=by rw[g]
 have y:f.ds=S.ds:=by rw[g]
 have t:f.holder=S.holder:=by rw[g]
 have u:f.til=S.til:=by rw[g]
 have e:eS S r b = match S.begun with
   |some (d,c,k)=>if k=S.holds then(f,.tuple [.str "busy",bF d,bF c]) else mC f r b d c
   |none=>mB f r b:=by rw[g];rfl
 rw[e,<-o,<-s,<-t,<-u];cases hb:f.begun with
 |some x=>
  obtain⟨d,c,k⟩:=x;simp only
  by_cases i:k=f.holds
  .rw[if_pos i];exact⟨q.mono (Int.le_refl _) (by lia),rfl,rfl,.inl ⟨d,c,by show f.begun=_;rw[hb,i],.inl rfl⟩⟩
  .rw[if_neg i];have hd:=q.ok.bg d c k hb;unfold mC;rw[List.getElem?_eq_getElem hd];simp only;refine⟨q.add hd,rfl,rfl,?_⟩
   by_cases j:f.ds[d].again=true
   .simp only[if_pos j];exact .inl ⟨d,c,rfl,.inr rfl⟩
   .simp only[if_neg j];exact .inr (.inl ⟨d,c,.inr rfl⟩)
 |none=>
  simp only;unfold mB;cases w:mz f with
  |none=>exact⟨q.mono (Int.le_refl _) (by lia),rfl,rfl,.inr (.inr (.inl rfl))⟩
  |some x=>
   obtain⟨v,k⟩:=x;simp only
   by_cases l:b<v
   .rw[if_pos l];exact⟨q.mono (Int.le_refl _) (by lia),rfl,rfl,.inr (.inr (.inr ⟨v,rfl⟩))⟩
   .rw[if_neg l];obtain⟨i,_⟩:=Ep w;rw[List.getElem?_eq_getElem i];simp only;refine⟨q.add i,rfl,rfl,?_⟩;generalize dk f k=ct
    by_cases j:oh f.a f.ss f.ds[k] ct b = true
    .simp only[if_pos j];exact .inr (.inl ⟨k,ct,.inl rfl⟩)
    .simp only[if_neg j];exact .inl ⟨k,ct,rfl,.inr rfl⟩
theorem dH.call(p:dH S m n)(c:0<=r/\r<=3)(h:m<=a)(d:0<=a/\a<=9999):iZ C [.own true (hB C S),.dat (.int r),.dat (.int a)]=.rt (.dat .none) [hB C S]:=
 Qk rfl (by simp[dh];lia) (by simp[dh];lia) (by
  cases b:S.last with
  |none=>unfold sO;rw[b]
  |some l=>
   have:=p.la l b;unfold sO;rw[b];exact decide_eq_false (by lia))
theorem QX(p:dH S m n)(q:n<900)(b:iH c m)(s:0<=m/\m<=9000):∃d g,dN C [.own true (hB C S),.dat (cj c)]=.rt (.dat d) [hB C g]/\dH g c.mo (n+1):=by
 have l1:=p.rl;have l2:=p.wl;have j:0<=c.mo/\c.mo<=9999:=by have:=b.m;lia
 have f:=p.call (C:=C) b.r b.m.1 j;have hd:∀r a,c.ru=r->c.mo=a->(et C [.own true (hB C S),.dat (.int r),.dat (.int a)]=.rt (.dat .none) [hB C S])\/(et C [.own true (hB C S),.dat (.int r),.dat (.int a)]=.ex "NotHolder" [hB C S]):=fun r a l o=>by
  rw[l,o]at f;cases hb:(gX S a&&decide (S.holder=some r)) with
  |true=>rw[Bool.and_eq_true]at hb;exact .inl (DU f hb.1 (of_decide_eq_true hb.2))
  |false=>exact .inr (DR f hb)
 have same:dH S c.mo (n+1):=p.mono b.m.1 (by lia);cases c with
 |take r a t=>
  have v:=b.t r a t rfl;refine⟨_,_,ED (DY f (by simp[dh];lia)),?_⟩;unfold qd;split
  .exact(p.hold b.m.1 (fun h e=>by cases e;exact b.r) (by show a+t<=a+99;lia)).mono (Int.le_refl _) (by lia)
  .split
   .exact(p.hold (k:=S.holds) b.m.1 (fun h e=>by cases e;exact b.r) (by show a+t<=a+99;lia)).mono (Int.le_refl _) (by lia)
   .exact(p.last b.m.1).mono (Int.le_refl _) (by lia)
 |give r a=>
  rcases hd r a rfl rfl with h |h
  .exact⟨_,_,EE (Ea h),(p.hold (k:=S.holds) (u:=S.til) b.m.1 (fun h e=>by cases e) (by have:=p.ti;have:=b.m.1;show S.til<=a+99;simp only[Cl.mo]at this;lia)).mono (Int.le_refl _) (by lia)⟩
  .exact⟨_,_,EF (DZ h) nZ oa,same⟩
 |step r a=>
  rcases hd r a rfl rfl with h |h
  .exact⟨_,_,EG (Er p.ok (by lia) (by lia) h),(EQ p b.m.1).1⟩
  .exact⟨_,_,EH (Eb h) nZ oa,same⟩
 |finish r a=>
  rcases hd r a rfl rfl with h |h
  .cases hb:jX S with
   |false=>exact⟨_,_,sT (Es h hb) Dv DJ,same⟩
   |true=>
    obtain⟨d,c,e⟩:∃d c,S.begun=some (d,c,S.holds):=by
     unfold jX at hb;cases i:S.begun with
     |none=>rw[i]at hb;cases hb
     |some x=>obtain⟨d,c,k⟩:=x;rw[i]at hb;exact⟨d,c,by rw[of_decide_eq_true hb]⟩
    exact⟨_,_,EI (Et p.ok (by lia) (by lia) h e),(p.last b.m.1).add (p.ok.bg d c _ e)⟩
  .exact⟨_,_,sT (Ec h) nZ oa,same⟩
def Ly(k:Nat)(d:PyData):Prop:=PyData.canLay0 d=true/\PyData.depth d<=k
theorem Ly.mono(h:Ly k d)(e:k<=m):Ly m d:=⟨h.1,Nat.le_trans h.2 e⟩
theorem wK:∀{l},(∀x∈l,Ly k x)->PyData.canLayAll0 l=true/\PyData.depthAll l<=k
 |[],_=>⟨rfl,Nat.zero_le _⟩
 |d::l,h=>by have h1:=h d List.mem_cons_self;have h2:=wK fun x a=>h x (bC _ a);refine⟨by simp[PyData.canLayAll0,h1.1,h2.1],?_⟩;have:=h1.2;have:=h2.2;simp only[PyData.depthAll];lia
theorem mD(h:∀x∈l,Ly k x):Ly (k+1) (.tuple l):=by have:=wK h;exact⟨by simpa[PyData.canLay0] using this.1,by have:=this.2;simp only[PyData.depth];lia⟩
theorem ER(h:∀x∈l,Ly k x):Ly (k+1) (.list l):=by have:=wK h;exact⟨by simpa[PyData.canLay0] using this.1,by have:=this.2;simp only[PyData.depth];lia⟩
theorem fH(i k):Ly k (.int i):=⟨by simp[PyData.canLay0],by simp[PyData.depth]⟩
theorem sU(k):Ly k .none:=⟨by simp[PyData.canLay0],by simp[PyData.depth]⟩
theorem QY(b k):Ly k (.bool b):=⟨by simp[PyData.canLay0],by simp[PyData.depth]⟩
theorem wL(h:PyData.strOk s=true)(k):Ly k (.str s):=⟨by simp[PyData.canLay0,h],by simp[PyData.depth]⟩
theorem wM(h:Ly k d)(e:k<=64):SeqAt.shaped d=true:=by unfold SeqAt.shaped;rw[h.1,Bool.true_and];exact decide_eq_true (Nat.le_trans h.2 e)
theorem ES(x k):Ly k (bT x):=by cases x;exact sU k;exact fH _ k
theorem qk(w):PyData.strOk (je w)=true:=by cases w<;>decide +kernel
theorem ET(r):Ly 1 (fU r):=mD (k:=0) fun x a=>by
 simp only[List.mem_cons,List.not_mem_nil,or_false]at a;rcases a with rfl |rfl |rfl |rfl |rfl
 .exact fH _ _
 .exact fH _ _
 .exact wL (qk _) _
 .exact fH _ _
 .exact fH _ _
theorem QZ(l:List jf):Ly 2 (.list (l.map fU)):=ER fun x a=>by obtain⟨r,_,rfl⟩:=List.mem_map.mp a;exact ET r
theorem Ra(S):Ly 6 (qj S):=by
 have dd:=EM S.ds;have e:=EN S.ss;have f:Ly 5 (cu S.a S.ss):=by
  refine mD (k:=4) fun x b=>?_;simp only[List.mem_cons,List.not_mem_nil,or_false]at b;rcases b with rfl |rfl
  .exact fH _ _
  .refine⟨by simpa[PyData.canLay0] using e.1,?_⟩;have:=e.2;simp only[PyData.depth];lia
 have hd:Ly 5 (eR S.ds):=by rw[jg];refine⟨by simpa[PyData.canLay0] using dd.1,?_⟩;have:=dd.2;simp only[PyData.depth];lia
 have hb:Ly 5 (fT S.begun):=by
  cases S.begun with
  |none=>exact sU _
  |some q=>obtain⟨d,c,h⟩:=q;refine(mD (k:=0) fun x b=>?_).mono (by lia);simp only[List.mem_cons,List.not_mem_nil,or_false]at b;rcases b with rfl |rfl |rfl<;>exact fH _ _
 have g:Ly 5 (.tuple (S.rows.map fU)):=(mD (k:=1) fun x b=>by obtain⟨r,_,rfl⟩:=List.mem_map.mp b;exact ET r).mono (by lia);unfold qj;refine mD (k:=5) fun x b=>?_;simp only[List.mem_cons,List.not_mem_nil,or_false]at b;rcases b with rfl |rfl |rfl |rfl |rfl |rfl |rfl |rfl
 .exact f
 .exact hd
 .exact ES _ _
 .exact ES _ _
 .exact fH _ _
 .exact fH _ _
 .exact hb
 .exact g
theorem EU(ok:bH S)(i:S.last=some m)(j:m<=9999):∀(b:List bX) (g:List Nat)  c  x y,(∀d∈b,d∈S.ds)->c.length+b.length<900->(∃L:List Int,c=L.map PyData.int)->∃L:List Int,cp (ft 2 (cD (aE 0) (cD (aE 1) fr))) du (mq C) (cb (b.map bB) (g.map bF)) c [x,y,some (.vw (hB C S))]=some (L.map PyData.int)/\L.length<=c.length+b.length
 |[],g,c,x,y,_,h,⟨L,f⟩=>⟨L,by simp[cb,cp,f],by rw[f];simp⟩
 |e::b,[],c,x,y,_,h,⟨L,f⟩=>⟨L,by simp[cb,cp,f],by rw[f];simp⟩
 |e::b,k::g,c,x,y,hd,h,⟨L,f⟩=>by
  have sz:1000<sizeLine:=by decide
  simp only[List.length_cons]at h;obtain⟨n,u⟩:=Op (p:=e.plan) (last:=m) ok.z (ok.pl e (hd e List.mem_cons_self)).plan j;have l:=Qc ok.z (ok.pl e (hd e List.mem_cons_self)).plan u;obtain⟨o,q,r⟩:=EU (C:=C) ok i j b g (c++[.int ((n:Int) - k)]) (some (.dat (bB e))) (some (.dat (bF k))) (fun d h=>hd d (bC _ h)) (by simp;lia) ⟨L++[(n:Int) - k],by rw[f];simp⟩;refine⟨o,?_,by simp at r ⊢;lia⟩;have s:aJ (bB e) (.int 0)=some (gV e.plan):=rfl;have t:mq C [some (.dat (bB e)),some (.dat (bF k)),some (.vw (hB C S))]=.ok (.int ((n:Int) - k)) [some (.dat (bB e)),some (.dat (bF k)),some (.vw (hB C S))]:=by
   have v:iX C 2 "zone" [some (.dat (bB e)),some (.dat (bF k)),some (.vw (hB C S))]=.ok (cu S.a S.ss) [some (.dat (bB e)),some (.dat (bF k)),some (.vw (hB C S))]:=by simp[iX,nF]
   have w:iX C 2 "last" [some (.dat (bB e)),some (.dat (bF k)),some (.vw (hB C S))]=.ok (.int m) [some (.dat (bB e)),some (.dat (bF k)),some (.vw (hB C S))]:=by simp[iX,nF,i,bT]
   generalize cu S.a S.ss=D at *;generalize gV e.plan=E at *;generalize bB e=dd at *;unfold mq;generalize iX C 2 "zone" = G at *;generalize iX C 2 "last" = H at *;simp[-aJ,v,w,s,l]
  have A:ft 2 (cD (aE 0) (cD (aE 1) fr)) (PyData.tuple [bB e,bF k]) [x,y,some (.vw (hB C S))]=some [some (.dat (bB e)),some (.dat (bF k)),some (.vw (hB C S))]:=by simp
  have B:cb ((e::b).map bB) ((k::g).map bF)=.tuple [bB e,bF k]::cb (b.map bB) (g.map bF):=rfl;rw[B,cp];simp only[A,du,t];rw[if_pos (by lia),q]
theorem EV:∀l a  x,a.length+l.length<900->(∃L:List Int,a=L.map PyData.int)->∃L:List Int,cp (aE 0) du (sh C) l a [x]=some (L.map PyData.int)/\L.length<=a.length+l.length
 |[],a,x,_,⟨L,b⟩=>⟨L,by simp[cp,b],by rw[b];simp⟩
 |d::l,a,x,h,⟨L,b⟩=>by
  have sz:1000<sizeLine:=by decide
  simp only[List.length_cons]at h;obtain⟨c,e,f⟩:=EV (C:=C) l (a++[.int 0]) (some (.dat d)) (by simp;lia) ⟨L++[0],by rw[b];simp⟩;refine⟨c,?_,by simp at f ⊢;lia⟩;have g:sh C [some (.dat d)]=.ok (.int 0) [some (.dat d)]:=by simp[sh]
  rw[cp];simp only[aE,List.set_cons_zero,du,g];rw[if_pos (by lia),e]
theorem EW(ok:bH S)(e:∀m,S.last=some m->m<=9999):∃L:List Int,nU C [.own true (hB C S)]=.rt (.own false (.l (L.map PyData.int))) [hB C S]/\L.length<900:=by
 have sz:1000<sizeLine:=by decide
 have de:=jg S.ds;have j:=ok.dl;cases h:S.last with
 |none=>
  obtain⟨L,g,a⟩:=EV (C:=C) (S.ds.map bB) [] none (by simp;lia) ⟨[],rfl⟩;refine⟨L,?_,by simp at a;lia⟩;have ll:L.length<=sizeLine:=by simp at a;lia
  have at_:(L.map PyData.int).all gM=true:=by simp[gM]
  simp[nU,si,mi,vM,h,bT,de,g,ll]
 |some m=>
  obtain⟨L,g,a⟩:=EU (C:=C) ok h (e m h) S.ds S.settled [] none none (fun d h=>h) (by simp;lia) ⟨[],rfl⟩;refine⟨L,?_,by simp at a;lia⟩;have ll:L.length<=sizeLine:=by simp at a;lia
  have at_:(L.map PyData.int).all gM=true:=by simp[gM]
  generalize f:cb (S.ds.map bB) (S.settled.map bF)=P at *;have c:jO C 0 "deeds" "settled" [some (.own true (hB C S))]=.ok P [some (.own true (hB C S))]:=by simp[jO,cg,de,f]
  have k:pk 2 [0] (jO C 0 "deeds" "settled") (ft 2 (cD (aE 0) (cD (aE 1) fr))) du (mq C) [some (.own true (hB C S))]=.ok (.list (L.map PyData.int)) [some (.own true (hB C S))]:=by generalize jO C 0 "deeds" "settled" = n at *;have lw:ph 2 [0] [some (.own true (hB C S))]=[none,none,some (.vw (hB C S))]:=rfl;simp only[pk,c,fm.bind,vF,lw,g,Option.bind_some,List.length_map,ll,at_,and_self,if_true,lift]
  have b:si C [some (.own true (hB C S))]=.rt (.own false (.l (L.map PyData.int))) [some (.own true (hB C S))]:=by
   unfold si;have i:mi 2 [0] (jO C 0 "deeds" "settled") (ft 2 (cD (aE 0) (cD (aE 1) fr))) du (mq C) [some (.own true (hB C S))]=.ok (.own false (.l (L.map PyData.int))) [some (.own true (hB C S))]:=by unfold mi;rw[k];rfl
   generalize mi 2 [0] (jO C 0 "deeds" "settled") (ft 2 (cD (aE 0) (cD (aE 1) fr))) du (mq C)=o at *;simp[h,bT,i]
  exact iG rfl b rfl
theorem Rb(S):List.lookup ("held":Str) (af S)=none:=by unfold af;kernel_rfl
theorem wN(S):List.lookup ("log":Str) (af S)=none:=by unfold af;kernel_rfl
theorem wO(S):List.lookup ("waiting":Str) (af S)=none:=by unfold af;kernel_rfl
theorem EY(S):List.lookup ("saved":Str) (af S)=none:=by unfold af;kernel_rfl
theorem ql(h:PyData.strOk w=true):Ly 1 (.tuple [.str w,.int a,.int b]):=mD (k:=0) fun x c=>by
 simp only[List.mem_cons,List.not_mem_nil,or_false]at c;rcases c with rfl |rfl |rfl
 .exact wL h _
 .exact fH _ _
 .exact fH _ _
theorem om(h:PyData.strOk w=true)(b:Ly 0 x):Ly 1 (.tuple [.str w,x]):=mD (k:=0) fun y a=>by
 simp only[List.mem_cons,List.not_mem_nil,or_false]at a;rcases a with rfl |rfl
 .exact wL h _
 .exact b
theorem EZ:PyData.strOk "idle" = true:=by decide +kernel
theorem Rc:PyData.strOk "busy" = true:=by decide +kernel
theorem sV:PyData.strOk "refused" = true:=by decide +kernel
theorem Re:(eS S r m).1.ds=S.ds:=by
 unfold eS mC mB
 repeat (first |rfl |split)
theorem Rf(p:dH S m n)(h:m<=a):Ly 1 (eS S r a).2:=by
 obtain⟨_,_,_,b⟩:=EQ (r:=r) p h;rcases b with⟨d,c,_,e |e⟩ |⟨d,c,e |e⟩ |e |⟨v,e⟩<;>rw[e]
 .exact ql Rc
 .exact ql (qk .begun)
 .exact ql (qk .left)
 .exact ql (qk .unsure)
 .exact om EZ (sU _)
 .exact om EZ (fH _ _)
theorem Rg(p:dH S m n)(z:n<900)(f:iH c m)(A:0<=m/\m<=9000):∃d b,dN C [.own true (hB C S),.dat (cj c)]=.rt (.dat d) [hB C b]/\dH b c.mo (n+1)/\b.ds.length=S.ds.length/\Ly 1 d:=by
 obtain⟨d,b,e,B⟩:=QX (C:=C) p z f A;have l1:=p.rl;have l2:=p.wl;have D:0<=c.mo/\c.mo<=9999:=by have:=f.m;lia
 have j:=p.call (C:=C) f.r f.m.1 D;have hd:∀r a,c.ru=r->c.mo=a->(et C [.own true (hB C S),.dat (.int r),.dat (.int a)]=.rt (.dat .none) [hB C S])\/(et C [.own true (hB C S),.dat (.int r),.dat (.int a)]=.ex "NotHolder" [hB C S]):=fun r a E o=>by
  rw[E,o]at j;cases hb:(gX S a&&decide (S.holder=some r)) with
  |true=>rw[Bool.and_eq_true]at hb;exact .inl (DU j hb.1 (of_decide_eq_true hb.2))
  |false=>exact .inr (DR j hb)
 have fin:∀(s:PyData) (u:Hl),dN C [.own true (hB C S),.dat (cj c)]=.rt (.dat s) [hB C u]->Ly 1 s->u.ds=S.ds->b.ds.length=S.ds.length/\Ly 1 d:=fun s u o l q=>by
  rw[e]at o;injection o with v g
  injection v with v
  injection g with g
  injection g with G g
  have y:=congrArg (List.lookup ("deeds":Str)) g;rw[DK,DK,jg,jg,q]at y;injection y with y
  injection y with y
  injection y with y
  have:=congrArg List.length y;simp only[List.length_map]at this;rw[v];exact⟨this,l⟩
 have i:b.ds.length=S.ds.length/\Ly 1 d:=?_
 .exact⟨d,b,e,B,i.1,i.2⟩
 cases c with
 |take r a t=>have H:=f.t r a t rfl;exact fin _ _ (ED (DY j (by simp[dh];lia))) (QY _ _) (by unfold qd;split<;>(try split)<;>rfl)
 |give r a=>
  rcases hd r a rfl rfl with h |h
  .exact fin _ _ (EE (Ea h)) (sU _) rfl
  .exact fin _ _ (EF (DZ h) nZ oa) (om sV (fH _ _)) rfl
 |step r a=>
  rcases hd r a rfl rfl with h |h
  .exact fin _ _ (EG (Er p.ok (by lia) (by lia) h)) (Rf p f.m.1) Re
  .exact fin _ _ (EH (Eb h) nZ oa) (om sV (fH _ _)) rfl
 |finish r a=>
  rcases hd r a rfl rfl with h |h
  .cases hb:jX S with
   |false=>exact fin _ _ (sT (Es h hb) Dv DJ) (om sV (fH _ _)) rfl
   |true=>
    obtain⟨d,c,e⟩:∃d c,S.begun=some (d,c,S.holds):=by
     unfold jX at hb;cases w:S.begun with
     |none=>rw[w]at hb;cases hb
     |some x=>obtain⟨d,c,k⟩:=x;rw[w]at hb;exact⟨d,c,by rw[of_decide_eq_true hb]⟩
    exact fin _ _ (EI (Et p.ok (by lia) (by lia) h e)) (ql (qk .done)) rfl
  .exact fin _ _ (sT (Ec h) nZ oa) (om sV (fH _ _)) rfl
inductive Rp (C:Addr):Hl->List Cl->List PyData->Hl->Prop where
 |nil (S:Hl):Rp C S [] [] S
 |cons {S S1 S2:Hl}{c:Cl}{d:PyData}{cs:List Cl}{os:List PyData}:dN C [.own true (hB C S),.dat (cj c)]=.rt (.dat d) [hB C S1]->Rp C S1 cs os S2->Rp C S (c::cs) (d::os) S2
theorem Rp.snoc{os}(h:Rp C S f os a)(e:dN C [.own true (hB C a),.dat (cj c)]=.rt (.dat d) [hB C b]):Rp C S (f++[c]) (os++[d]) b:=by
 induction h with
 |nil S=>exact .cons e (.nil _)
 |cons g _ i=>exact .cons g (i e)
theorem Rh{os}(h:Rp C S b os f):∀a  x,a.length+b.length<=900->∃y,iY (aE 0) du (pV C) (b.map cj) a [x,some (.own true (hB C S))]=some (a++os,[y,some (.own true (hB C f))]):=by
 induction h with
 |nil S=>exact fun a x _=>⟨x,by simp[iY]⟩
 | @cons S i f c d b os e _ j=>
  intro a x k;have sz:1000<sizeLine:=by decide
  simp only[List.length_cons]at k;obtain⟨y,g⟩:=j (a++[d]) (some (.dat (cj c))) (by simp;lia);refine⟨y,?_⟩;have l:pV C [some (.dat (cj c)),some (.own true (hB C S))]=.ok d [some (.dat (cj c)),some (.own true (hB C i))]:=by generalize cj c=m at e;simp[pV,e]
  rw[List.map_cons,iY];simp only[aE,List.length_cons,List.set_cons_zero,du,l];rw[if_pos (by lia),g];simp
structure J1 (C:Addr) (S0:Hl) (q:Nat) (fs:List (Str×Fl)) (cl ol:List PyData) (nw:PyData) (S:Hl) (now:Int) (cs:List Cl):Prop where
 f:fs=af S
 c:cl=cs.map cj
 n:nw=.int now
 r:Rp C S0 cs ol S
 p:dH S now q
 m:0<=now/\now<=29 * q
 l:cs.length<=q/\ol.length<=q
 s:∀d∈ol,Ly 1 d
def JJ(C:Addr)(e:Hl)(q:Nat)(a:List (List (Str×Fl)))(c os:List (List PyData))(d:List PyData):Prop:=a.length=2/\c.length=2/\os.length=2/\d.length=2/\
 ∀(n:Nat) fs cl ol x,a[n]? = some fs->c[n]? = some cl->os[n]? = some ol->d[n]? = some x->∃S b f,J1 C e q fs cl ol x S b f
theorem J1.mono(h:J1 C b q fs cl ol d S a e):J1 C b (q+1) fs cl ol d S a e:=
 ⟨h.f,h.c,h.n,h.r,h.p.mono (Int.le_refl _) (by lia),by have:=h.m;lia,by have:=h.l;lia,h.s⟩
theorem sW(c:U[i]? = some (some (.own io (.oo C a))))(d:U[j]? = some (some (.dat (.int w))))(e:cn a.length w=some n)(b:a[n]? = some fs):gq C U i j=some (io,a,n,fs):=by unfold gq;rw[c,d];simp[e,b]
theorem Fa(d:a[n]? = some fs)(h:f (.own true (.o C fs)::ds.map .dat)=.rt c [.o C b]):nI f i n io C a ds U=.ok c (U.set i (some (.own io (.oo C (a.set n b))))):=by unfold nI;rw[d];simp[h]
theorem sX{α:Type}{l:List α}{x}(h:l[i]? = some x):l.set i x=l:=by
 apply List.ext_getElem?;intro j
 by_cases a:j=i
 .subst a;rw[List.getElem?_set_self (List.getElem?_eq_some_iff.mp h).1,h]
 .rw[List.getElem?_set_ne (Ne.symm a)]
theorem on(b:gq C U i j=some (io,a,n,fs))(e:fs.lookup m=none)(h:f [.own true (.o C fs)]=.rt c [.o C fs]):gO C i j m f U=.ok c U:=by obtain⟨g,_,_,_,d⟩:=pp b;unfold gO;rw[b];simp only[if_pos e];rw[Fa (ds:=[]) d h,sX d,sX g]
theorem Ri(e:gq C U i j=some (io,a,n,fs))(g:U[l]? = some (some (.dat d)))(h:f [.own true (.o C fs),.dat d]=.rt c [.o C b]):me C i j l f U=.ok c (U.set i (some (.own io (.oo C (a.set n b))))):=by obtain⟨m,_,_,_,k⟩:=pp e;unfold me;rw[e];simp only[pq,g];exact Fa (ds:=[d]) k h
theorem Fb(h:m U=.ok (.own false (.l a)) U)(b:a.length<sizeLine):pA m U=.nx U:=by simp[pA,h,rF,pz,b]
theorem Fc(f:U[i]? = some (some (.own false (.ll a))))(g:U[j]? = some (some (.dat (.int w))))(k:cn a.length w=some n)(d:a[n]? = some b)(h:m (U.set i none)=.ok v c)(e:b.length<sizeLine):kK i j m U=.nx (c.set i (some (.own false (.ll (a.set n (b++[v])))))):=by simp[kK,vN,jP,iy,f,g,k,d,h,e]
theorem Rj(h:m U=.ok v U)(b:U[i]? = some (some (.own false (.l a))))(c:U[j]? = some (some (.dat (.int w))))(d:cn a.length w=some n):pB i j m U=.nx (U.set i (some (.own false (.l (a.set n v))))):=by simp[pB,h,rG,kJ,iy,b,c,d]
theorem Rk(c:U[i]? = some (some (.own false (.l a))))(d:U[j]? = some (some (.dat (.int w))))(e:cn a.length w=some n)(b:a[n]? = some v):mf i j U=.ok v U:=by simp[mf,kJ,iy,c,d,bD,e,b]
theorem wP(h:U[i]? = some (some (.dat d))):xV i U=.ok d U:=by simp[h]
theorem sY(h:m U=.ok (.dat d) a):aL m U=.ok d a:=by simp[h]
theorem sZ(h:m U=.ok (.own false (.l b)) a):aL m U=.ok (.list b) a:=by simp[h]
noncomputable abbrev ev(C:Addr)(i:List Int)(t:List PyData)(Z:PyData)(d:List PyData)(a:List (List (Str×Fl)))(e os:List (List PyData))(f:List PyData)(g h b c:Option ae):ag:=[some (.scr i),some (.own false (.l t)),some (.dat Z),some (.dat (.tuple d)),some (.own false (.oo C a)),some (.own false (.ll e)),some (.own false (.ll os)),some (.own false (.l f)),g,h,b,c]
theorem fV{α:Type}{l:List α}{x y}(h:(l.set n x)[k]? = some y):(k=n/\y=x)\/(k≠n/\l[k]? = some y):=by
 rcases fO h with⟨h1,h2,_⟩ |h
 .exact .inl ⟨h1,h2⟩
 .exact .inr h
theorem turn{os}(hn:g.length<=63)(ht:t.length<=800)(hq:q<100)(h0:0<=i)(J:JJ C S0 q a b os f) :
  ∃t' p v D E y9 R,pU C (ev C g t Z DD a b os f (some (.dat (.int i))) x9 x10 x11)=.nx (ev C g t' Z DD p v D E (some (.dat (.int i))) y9 R x11)/\JJ C S0 (q+1) p v D E/\t'.length<=t.length+7:=by
 have sz:1000<sizeLine:=by decide
 obtain⟨I,j2,j3,T,jj⟩:=J;obtain⟨w,hw⟩:∃w,w=i % 2:=⟨_,rfl⟩
 obtain⟨n,a0,s⟩:∃n,n<2/\cn 2 w=some n:=by
  have:w=0\/w=1:=by lia
  rcases this with h |h
  .exact⟨0,by lia,by rw[h];rfl⟩
  .exact⟨1,by lia,by rw[h];rfl⟩
 obtain⟨fs,X⟩:∃fs,a[n]? = some fs:=⟨_,List.getElem?_eq_getElem (by lia)⟩
 obtain⟨cl,a2⟩:∃cl,b[n]? = some cl:=⟨_,List.getElem?_eq_getElem (by lia)⟩
 obtain⟨ol,a3⟩:∃ol,os[n]? = some ol:=⟨_,List.getElem?_eq_getElem (by lia)⟩
 obtain⟨x,a4⟩:∃x,f[n]? = some x:=⟨_,List.getElem?_eq_getElem (by lia)⟩
 obtain⟨S,u,r,K⟩:=jj n fs cl ol x X a2 a3 a4;obtain⟨rfl,rfl,rfl,kr,kp,km,kl,ks⟩:=K;obtain⟨c,t',hc,ok,l⟩:=QV (t:=t) (now:=u) (holder:=S.holder) hn (by lia) kp.ho;obtain⟨d,o,hd,M,_,sd⟩:=Rg (C:=C) kp (by lia) ok ⟨km.1,by lia⟩;have hl:mm C [.own true (hB C S)]=.rt (.dat (sQ S)) [hB C S]:=Ql;have lg:=Ed (C:=C) (S:=o);have m2:=ok.m;obtain⟨L,wt,lw⟩:=EW (C:=C) (S:=o) M.ok (fun m e=>by have:=M.la m e;lia);have mo:=QU c;have hh:aJ (sQ S) (.int 0)=some (bT S.holder):=rfl;refine⟨t',a.set n (af o),b.set n (r.map cj++[cj c]),os.set n (ol++[d]),f.set n (.int c.mo),some (.dat (.int w)),some (.dat (cj c)),?_,⟨by simp[I],by simp[j2],by simp[j3],by simp[T],fun k a5 a6 a7 x' Y N O Q=>?_⟩,l⟩
 .have ll:L.length<sizeLine:=by lia
  have rl:=M.rl;have s1:bO (ai kA (xV 8) (xC (.int 2))) (aE 9) (ev C g t Z DD a b os f (some (.dat (.int i))) x9 x10 x11)=.nx (ev C g t Z DD a b os f (some (.dat (.int i))) (some (.dat (.int w))) x10 x11):=by
   subst hw;have:kj i 2=true:=by simp[kj]<;>lia
   simp[this]
  have g1:gq C (ev C g t Z DD a b os f (some (.dat (.int i))) (some (.dat (.int w))) x10 x11) 4 9=some (false,a,n,af S):=sW rfl rfl (by rw[I];exact s) X;have s2:bO (aL (aO nW (aY 0 (aY 1 (au (mf 7 9) (au (ai aJ (aL (gO C 4 9 "held" (mm C))) (xC (.int 0))) aG)))))) (aE 10) (ev C g t Z DD a b os f (some (.dat (.int i))) (some (.dat (.int w))) x10 x11)=.nx (ev C g t' Z DD a b os f (some (.dat (.int i))) (some (.dat (.int w))) (some (.dat (cj c))) x11):=by have v1:=Rk (i:=7) (j:=9) (U:=ev C g t Z DD a b os f (some (.dat (.int i))) (some (.dat (.int w))) x10 x11) rfl rfl (by rw[T];exact s) a4;have v2:=sY (on g1 (Rb S) hl);generalize mf 7 9=A at *;generalize aL (gO C 4 9 "held" (mm C))=B at *;generalize cj c=cd at *;generalize sQ S=H at *;simp[-aJ,v1,v2,hh,hc]
  have s3:pB 7 9 (ai aJ (xV 10) (xC (.int 2))) (ev C g t' Z DD a b os f (some (.dat (.int i))) (some (.dat (.int w))) (some (.dat (cj c))) x11)=.nx (ev C g t' Z DD a b os (f.set n (.int c.mo)) (some (.dat (.int i))) (some (.dat (.int w))) (some (.dat (cj c))) x11):=by refine Rj (by generalize cj c=cd at *;simp[-aJ,mo]<;>rfl) rfl rfl (by rw[T];exact s)
  have s4:kK 5 9 (xV 10) (ev C g t' Z DD a b os (f.set n (.int c.mo)) (some (.dat (.int i))) (some (.dat (.int w))) (some (.dat (cj c))) x11)=.nx (ev C g t' Z DD a (b.set n (r.map cj++[cj c])) os (f.set n (.int c.mo)) (some (.dat (.int i))) (some (.dat (.int w))) (some (.dat (cj c))) x11):=
   Fc rfl rfl (by rw[j2];exact s) a2 (wP rfl) (by rw[List.length_map];lia)
  have s5:kK 6 9 (aL (me C 4 9 10 (dN C))) (ev C g t' Z DD a (b.set n (r.map cj++[cj c])) os (f.set n (.int c.mo)) (some (.dat (.int i))) (some (.dat (.int w))) (some (.dat (cj c))) x11)=.nx (ev C g t' Z DD (a.set n (af o)) (b.set n (r.map cj++[cj c])) (os.set n (ol++[d])) (f.set n (.int c.mo)) (some (.dat (.int i))) (some (.dat (.int w))) (some (.dat (cj c))) x11):=
   Fc rfl rfl (by rw[j3];exact s) a3 (sY (Ri (sW rfl rfl (by rw[I];exact s) X) rfl hd)) (by lia)
  have g2:gq C (ev C g t' Z DD (a.set n (af o)) (b.set n (r.map cj++[cj c])) (os.set n (ol++[d])) (f.set n (.int c.mo)) (some (.dat (.int i))) (some (.dat (.int w))) (some (.dat (cj c))) x11) 4 9=some (false,a.set n (af o),n,af o):=sW rfl rfl (by rw[List.length_set,I];exact s) (List.getElem?_set_self (by lia));unfold pU;rw[fC s1,fC s2,fC s3,fC s4,fC s5,fC (Fb (on g2 (wN o) lg) (by rw[List.length_map];lia))];exact Fb (on g2 (wO o) wt) (by rw[List.length_map];exact ll)
 .rcases fV Y with⟨rfl,rfl⟩ |⟨hk,Y⟩
  .rcases fV N with⟨_,rfl⟩ |⟨z,_⟩
   .rcases fV O with⟨_,rfl⟩ |⟨z,_⟩
    .rcases fV Q with⟨_,rfl⟩ |⟨z,_⟩
     .exact⟨o,c.mo,r++[c],rfl,by simp,rfl,kr.snoc hd,M,by lia,by simp;lia,fun y G=>by
       rcases List.mem_append.mp G with G |G
       .exact ks y G
       .rw[List.mem_singleton.mp G];exact sd⟩
     .exact absurd rfl z
    .exact absurd rfl z
   .exact absurd rfl z
  .rcases fV N with⟨z,_⟩ |⟨_,N⟩
   .exact absurd z hk
   .rcases fV O with⟨z,_⟩ |⟨_,O⟩
    .exact absurd z hk
    .rcases fV Q with⟨z,_⟩ |⟨_,Q⟩
     .exact absurd z hk
     .obtain⟨S,u,r,K⟩:=jj k _ _ _ _ Y N O Q;exact⟨S,u,r,K.mono⟩
theorem lv(r:ns.length<=63):∀k  i  t  a  e os  f  m g b  q,t.length+7 * k<=800->q+k<100->0<=i->JJ C p q a e os f->
  ∃t' c h j l s n d,df (aE 8) (pU C) (L3.intsFrom i k) (ev C ns t Z DD a e os f m g b x11)=.nx (ev C ns t' Z DD c h j l s n d x11)/\JJ C p (q+k) c h j l
 |0,i,t,a,e,os,f,m,g,b,q,_,_,_,J=>⟨t,a,e,os,f,m,g,b,by simp[L3.intsFrom,df],J⟩
 |k+1,i,t,a,e,os,f,m,g,b,q,M,N,u,J=>by obtain⟨v,f1,w,x,y,n,d,z,J1,l1⟩:=turn (t:=t) (x9:=g) (x10:=b) (x11:=x11) (Z:=Z) (DD:=DD) r (by lia) (by lia) u J;obtain⟨A,f2,B,D,E,G,H,o,I,L⟩:=lv (Z:=Z) (DD:=DD) (x11:=x11) r k (i+1) v f1 w x y (some (.dat (.int i))) n d (q+1) (by lia) (by lia) (by lia) J1;refine⟨A,f2,B,D,E,G,H,o,?_,by rw[show q+(k+1)=q+1+k by lia];exact L⟩;rw[wA,df,<-I];generalize pU C=O at *;simp[z]
noncomputable abbrev ew(C:Addr)(j:List Int)(t:List PyData)(Z:PyData)(d:List PyData)(a:List (List (Str×Fl)))(e f:ae)(g:List PyData)(h i b c:Option ae):ag:=[some (.scr j),some (.own false (.l t)),some (.dat Z),some (.dat (.tuple d)),some (.own false (.oo C a)),some e,some f,some (.own false (.l g)),h,i,b,c]
def LD(z:ae)(a:List (List PyData)):Prop:=z=.own false (.ll a)\/z=.dat (.list (a.map .list))
theorem Fd(h:LD z a)(b:U[i]? = some (some z)):jQ i U=.ok (.list (a.map .list)) (U.set i (some (.dat (.list (a.map .list))))):=by
 rcases h with h |h
 .subst h;simp[jQ,jP,b]
 .subst h;rw[sX b];simp[jQ,jP,b]
theorem Fe{c:List (List PyData)}(h:a U=.ok (.list (c.map .list)) e)(i:b e=.ok (.int w) f)(j:cn c.length w=some n)(g:c[n]? = some d):ai aJ a b U=.ok (.list d) f:=by
 have:aJ (.list (c.map PyData.list)) (.int w)=some (.list d):=by simp[aJ,bD,j,g]
 simp[-aJ,h,i,this]
theorem Rl(h:m U=.ok (.list L) a):lL m U=.ok L a:=by simp[lL,h]
theorem tf(c:A U=.ok x a)(d:B a=.ok x b)(e:SeqAt.shaped x=true):be (ai (aM true) A B) U=.ok false b:=by have:=Dw e;simp[c,d,this]
theorem wQ(h:T U=.ok false b):bI T a bL U=.nx b:=by simp[bI,h]
theorem Rm(c:A U=.ok false a)(d:B a=.ok false b):iP A B U=.ok false b:=by simp[iP,c,d]
theorem Rn{V }(h:a U=.ok V c)(f:c[11]? = some (some (.own false b)))(i:iY g t e V [] [none,some (.own true b)]=some (L,[y,some (.own true d)]))(j:L.length<=sizeLine):nH 1 [11] 0 11 a g t e U=.ok (.list L) (c.set 11 (some (.own false d))):=by unfold nH;simp only[h,fm.bind];simp[rD,f,i,j]
theorem wR(a:U[i]? = some (some (.own false (hB C S))))(b:List.lookup m (af S)=none)(h:f [.own true (hB C S)]=.rt c [hB C S]):ei C i m f U=.ok c U:=by have e:=sX a;simp[ei,cg,a,b,kq,h,eg,e]
theorem qm{os}(p:jR C [.own true (.o C []),.dat (cu a j),.dat (eR k)]=.rt (.dat .none) [hB C (dZ a j k)])(hq:q<100)(J:JJ C (dZ a j k) q b d os c)(N:LD l d)(O:LD h os)(r:cn 2 w=some n) :
  ∃s,pW C (ew C ns t (cu a j) (k.map bB) b l h c x8 (some (.dat (.int w))) x10 x11)=.nx (ew C ns t (cu a j) (k.map bB) b (.dat (.list (d.map .list))) (.dat (.list (os.map .list))) c x8 (some (.dat (.int w))) x10 s):=by
 have sz:1000<sizeLine:=by decide
 obtain⟨Q,R,T,j4,X⟩:=J;have Y:n<2:=(tP r).2.1;obtain⟨fs,D⟩:∃fs,b[n]? = some fs:=⟨_,List.getElem?_eq_getElem (by lia)⟩
 obtain⟨cl,E⟩:∃cl,d[n]? = some cl:=⟨_,List.getElem?_eq_getElem (by lia)⟩
 obtain⟨ol,G⟩:∃ol,os[n]? = some ol:=⟨_,List.getElem?_eq_getElem (by lia)⟩
 obtain⟨x,a4⟩:∃x,c[n]? = some x:=⟨_,List.getElem?_eq_getElem (by lia)⟩
 obtain⟨S,a0,cc,K⟩:=X n fs cl ol x D E G a4;obtain⟨rfl,rfl,rfl,kr,kp,km,kl,ks⟩:=K;have H:=QQ (C:=C) (S:=S);have I:=Ed (C:=C) (S:=S);obtain⟨L,M,lw⟩:=EW (C:=C) (S:=S) kp.ok (fun m e=>by have:=kp.la m e;lia);obtain⟨y,go⟩:=Rh kr [] none (by simp;lia);rw[List.nil_append]at go;rw[jg]at p;have u:SeqAt.shaped (.list ol)=true:=wM (ER ks) (by lia);have v:SeqAt.shaped (qj S)=true:=wM (Ra S) (by lia);have z:SeqAt.shaped (.list (S.rows.map fU))=true:=wM (QZ S.rows) (by lia);have A:SeqAt.shaped (.list (L.map PyData.int))=true:=PM L;generalize cu a j=Z at *;generalize k.map bB=f at *;generalize dZ a j k=B at *;refine⟨some (.own false (hB C S)),?_⟩;unfold pW;have s1:fu 11 (kD C (jR C) (aq (xV 2) (aq (xV 3) aX))) (ew C ns t Z f b l h c x8 (some (.dat (.int w))) x10 x11)=.nx (ew C ns t Z f b l h c x8 (some (.dat (.int w))) x10 (some (.own false (hB C B)))):=by simp[kD,nv,p]
 have v5:=Fe (Fd (i:=5) (U:=ew C ns t Z f b l h c x8 (some (.dat (.int w))) x10 (some (.own false (hB C B)))) N rfl) (wP (i:=9) rfl) (by rw[R];exact r) E;have cm:=Rn (g:=aE 0) (t:=du) (Rl v5) rfl go (by lia);have v6:=Fe (Fd (i:=6) (U:=ew C ns t Z f b (.dat (.list (d.map .list))) h c x8 (some (.dat (.int w))) x10 (some (.own false (hB C S)))) O rfl) (wP (i:=9) rfl) (by rw[T];exact r) G;have s2:bI (be (ai (aM true) (nH 1 [11] 0 11 (lL (ai aJ (jQ 5) (xV 9))) (aE 0) du (pV C)) (ai aJ (jQ 6) (xV 9)))) (bu (xC (.bool false))) bL (ew C ns t Z f b l h c x8 (some (.dat (.int w))) x10 (some (.own false (hB C B))))=.nx (ew C ns t Z f b (.dat (.list (d.map .list))) (.dat (.list (os.map .list))) c x8 (some (.dat (.int w))) x10 (some (.own false (hB C S)))):=wQ (tf cm v6 u);have g2:gq C (ew C ns t Z f b (.dat (.list (d.map .list))) (.dat (.list (os.map .list))) c x8 (some (.dat (.int w))) x10 (some (.own false (hB C S)))) 4 9=some (false,b,n,af S):=sW rfl rfl (by rw[Q];exact r) D;have s3:=wQ (a:=bu (xC (.bool false))) (tf (sY (wR (i:=11) (U:=ew C ns t Z f b (.dat (.list (d.map .list))) (.dat (.list (os.map .list))) c x8 (some (.dat (.int w))) x10 (some (.own false (hB C S)))) rfl (EY S) H)) (sY (on g2 (EY S) H)) v);have s4:=wQ (a:=bu (xC (.bool false))) (Rm (tf (sZ (wR (i:=11) (U:=ew C ns t Z f b (.dat (.list (d.map .list))) (.dat (.list (os.map .list))) c x8 (some (.dat (.int w))) x10 (some (.own false (hB C S)))) rfl (wN S) I)) (sZ (on g2 (wN S) I)) z) (tf (sZ (wR (i:=11) rfl (wO S) M)) (sZ (on g2 (wO S) M)) A));rw[fC s1,fC s2,fC s3];exact s4
theorem Ro(h:m U=.ok (.own false (hB C S)) U):pC C m m U=.ok (.own false (.oo C [af S,af S])) U:=by simp[pC,h,mj]
theorem wS(h:m U=.ok (.own false b) a)(c:i<a.length):fu i m U=.nx (a.set i (some (.own false b))):=by simp[fu,h,c]
theorem Rq:bu (xC d) U=.rt (.dat d) U:=by simp
theorem Ff{V}(e:a U=.ok V c)(f:df g b V c=.nx d):ib a g b U=.nx d:=by simp[ib,e,f]
theorem Fg{V}(h:a U=.ok (.int k) U1)(b:cf [.int k]=some V):gK cf (aq a aX) U=.ok V U1:=by simp[-cf,h,b]
theorem wT(h:A U=.ok (.int k) U1)(b:0<=k)(c:k<21):ai ic (xC (.int 2)) A U=.ok (.int (2 * k)) U1:=by
 have:ic (.int 2) (.int k)=some (.int (2 * k)):=by
  have a:k=0\/k=1\/k=2\/k=3\/k=4\/k=5\/k=6\/k=7\/k=8\/k=9\/k=10\/k=11\/k=12\/k=13\/k=14\/k=15\/k=16\/k=17\/k=18\/k=19\/k=20:=by lia
  rcases a with rfl |rfl |rfl |rfl |rfl |rfl |rfl |rfl |rfl |rfl |rfl |rfl |rfl |rfl |rfl |rfl |rfl |rfl |rfl |rfl |rfl<;>kernel_rfl
 simp[-ic,h,this]
theorem Rr(r:c.length<=63):BO C [.scr c]=.rt (.dat (.bool true)) []:=by
 have sz:1000<sizeLine:=by decide
 obtain⟨a,ss,D,E,G,H,I,L,l1⟩:=PL (ns:=c) (t:=[]) r (by simp);have z:iz a ss:=⟨G,H,I,fun p M=>by have:=L p M;lia⟩
 simp only[List.length_nil]at l1;obtain⟨b,i,hd,dl,l2,h2⟩:=QP (ns:=c) (t:=D) r (by lia);obtain⟨k,N,O,h3⟩:=eA (ns:=c) (t:=i) (many:=21) r (by lia) (by lia);have f:=Qn (C:=C) (Pu z) (QN (ds:=b) dl hd) dl;have Q:JJ C (dZ a ss b) 0 [af (dZ a ss b),af (dZ a ss b)] [[],[]] [[],[]] [.int 0,.int 0]:=⟨rfl,rfl,rfl,rfl,fun n fs cl ol x A R S s=>by
  have T:n<2:=(List.getElem?_eq_some_iff.mp A).1;have U:=QW z dl hd;have:n=0\/n=1:=by lia
  rcases this with rfl |rfl<;>(cases A;cases R;cases S;cases s;exact⟨dZ a ss b,0,[],rfl,rfl,rfl,.nil _,U,⟨Int.le_refl _,by simp⟩,⟨bG _,bG _⟩,fun d h=>by cases h⟩)⟩
 obtain⟨j,g,u,os,v,m,B,e,s,J⟩:=lv (C:=C) (ns:=c) (Z:=cu a ss) (DD:=b.map bB) (x11:=none) r (2 * k).toNat 0 (i++[.int 0]) _ _ _ _ none none none 0 (by simp;lia) (by lia) (by lia) Q;obtain⟨y,X⟩:=qm (C:=C) (ns:=c) (t:=j) (x8:=m) (x10:=e) (x11:=none) (w:=0) (n:=0) f (by lia) J (.inl rfl) (.inl rfl) rfl;obtain⟨v11,Y⟩:=qm (C:=C) (ns:=c) (t:=j) (x8:=m) (x10:=e) (x11:=y) (w:=1) (n:=1) f (by lia) J (.inr rfl) (.inr rfl) rfl;have hr:cf [.int (2 * k)]=some (L3.intsFrom 0 (2 * k).toNat):=by simp only[cf];rw[if_pos (by simp;lia)]
 have r2:cf [.int 2]=some (L3.intsFrom 0 2):=by kernel_rfl
 have mk:kD C (jR C) (aq (xV 2) (aq (xV 3) aX)) [some (.scr c),some (.own false (.l i)),some (.dat (cu a ss)),some (.dat (.tuple (b.map bB))),none,none,none,none,none,none,none,none]=.ok (.own false (hB C (dZ a ss b))) [some (.scr c),some (.own false (.l i)),some (.dat (cu a ss)),some (.dat (.tuple (b.map bB))),none,none,none,none,none,none,none,none]:=by rw[jg]at f;generalize dZ a ss b=o at *;generalize cu a ss=Z at *;generalize b.map bB=q at *;simp[kD,nv,f]
 have lp:df (aE 9) (pW C) (L3.intsFrom 0 2) (ev C c j (cu a ss) (b.map bB) g u os v m B e none)=.nx (ew C c j (cu a ss) (b.map bB) g (.dat (.list (u.map .list))) (.dat (.list (os.map .list))) v m (some (.dat (.int 1))) e v11):=by rw[show L3.intsFrom 0 2=[.int 0,.int 1] from rfl];generalize pW C=bb at *;generalize cu a ss=Z at *;generalize b.map bB=q at *;simp[df,X,Y]
 generalize dZ a ss b=o at *;generalize cu a ss=Z at *;generalize b.map bB=q at *;refine Qd (n:=11) ?_;unfold BN;simp only[List.replicate];refine jU (by simp[BD]<;>rfl) ?_;refine jU (by simp[BE,E]<;>rfl) ?_;refine jU (by simp[BF,h2]<;>rfl) ?_;refine jU (by unfold BG;exact wS (Ro mk) (by simp)) ?_;refine jU (by unfold BH;exact wS (show pD _=.ok _ _ from rfl) (by simp)) ?_;refine jU (by unfold BI;exact wS (show pD _=.ok _ _ from rfl) (by simp)) ?_;refine jU (U':=ev C c i Z q [af o,af o] [[],[]] [[],[]] [.int 0,.int 0] none none none none) (by simp[BJ,show(2:Nat)<=sizeLine by lia]) ?_;refine jU (by
  unfold BK;exact Ff (Fg (wT (U1:=ev C c (i++[.int 0]) Z q [af o,af o] [[],[]] [[],[]] [.int 0,.int 0] none none none none) (by simp[h3]) N O) hr) s) ?_
 refine jU (by
  unfold BL;exact Ff (Fg (U1:=ev C c j Z q g u os v m B e none) (by simp) r2) lp) ?_
 unfold BM;exact⟨_,_,Rq⟩
end K3
namespace K3
open PySem PySem.Spec L2 L2.L3 PyProof.Rows
theorem Rs{K}(k:GH j H)(l:∀c,c.length<=63->f [.scr c]=.rt (.dat (.bool true)) [])(h:∃a c,e=[.ref a]/\iM K H a c/\∀d,Q (.bl true) d):cW K j f e H Q E:=by obtain⟨a,c,rfl,g,q⟩:=h;refine⟨k,[.scr c],[[]],[],.oth (fun _ z=>by cases z) (fun _ _ z=>by cases z) ⟨a,rfl,g⟩ .nil,List.nodup_nil,fun b n=>by simp at n,?_⟩;rw[l c g.1];intro v d o i m _ _;rw[show v=.bl true from DV.bl_inv m];exact q d
def wU(K:Frag):Sp:=fun b H Q _=>∃a d,b=[.ref a]/\iM K H a d/\∀c,Q (.bl true) c
abbrev LK(K:Frag)(f:Addr)(a:Value)(b:Option Addr)(n q:Str)(s:Stmt)(k d p:Value)(e:Option Addr)(c t:Value)(l:Array (Option Value)):Prop:=K.lookup f=some ⟨a,b,.func (fnOf n q (ju s) (gC s) (cZ s) .none k d p e c t),l⟩
abbrev NI(K:Frag)(n:Str)(f:Addr):Prop:=nsIn K mainGlobals n=some (some (.ref f))
abbrev NV(K:Frag)(n:Str)(i:Int)(t:Tok):Prop:=nsIn K mainGlobals n=some (some (.int i t))
abbrev NZ(K:Frag)(n:Str):Prop:=nsIn K mainGlobals n=some none
abbrev KI(K:Frag)(f:Addr):Prop:=keepIn K (.ref f)=true
local macro_rules | `(tactic|walk_at "b")=>`(tactic|first|(exact(fun _ _ _ _ _ _ us hl=>match us,hl with |[_],_=>rfl))|(exact(fun _ _ _ _ _ _ us hl=>match us,hl with |[_,_],_=>rfl))|(exact(fun _ _ _ _ _ _ us hl=>match us,hl with |[_,_,_],_=>rfl))|(exact(fun _ _ _ _ _ _ us hl=>match us,hl with |[_,_,_,_],_=>rfl))|(exact(fun _ _ _ _ _ _ us hl=>match us,hl with |[_,_,_,_,_],_=>rfl)))
theorem all_mk{l:PySem.W.OpenLaw}{K}(X:K.In h)(G:h.Ns mainGlobals I)(b1:I "law" = some (.ref fa))
  (p:NI K "Hall" a)
  (l0:DF K "is_whole" BP)
  (l1:DF K "is_tuple_of" BQ)
  (l2:DF K "is_ahead" BR)
  (l3:DF K "is_moment" BS)
  (l4:DF K "is_runner" BT)
  (l5:DF K "is_term" BU)
  (l6:DF K "are_shifts" BV)
  (l7:DF K "is_zone" BW)
  (l8:DF K "has_word" BX)
  (l9:DF K "is_plan" BY)
  (c2:DF K "is_late" BZ)
  (c3:DF K "is_deed" Ca)
  (c4:DF K "are_deeds" Cb)
  (c5:DF K "check_zone" Cc)
  (c6:DF K "check_moment" Cd)
  (c7:DF K "check_deeds" Ce)
  (c8:DF K "check_runner" Cf)
  (c9:DF K "check_term" Cg)
  (d0:DF K "shown" Ci)
  (d1:DF K "stretches" Cj)
  (d2:DF K "is_ahead_of" Ck)
  (d3:DF K "first_showing" Cm)
  (d4:DF K "furthest_shown" Cn)
  (d5:DF K "first_day" Co)
  (d6:DF K "daily_time" Cp)
  (d7:DF K "time_of" Cq)
  (d8:DF K "times_by" Cr)
  (d9:DF K "is_left_out" Cs)
  (e0:MF K a "__init__" "Hall.__init__" Ct)
  (e1:MF K a "is_held" "Hall.is_held" Cu)
  (e2:MF K a "check_call" "Hall.check_call" Cv)
  (e3:MF K a "check_holder" "Hall.check_holder" Cw)
  (e4:MF K a "take" "Hall.take" Cy)
  (e5:MF K a "give" "Hall.give" Cz)
  (e6:MF K a "add_row" "Hall.add_row" CA)
  (e7:MF K a "is_busy" "Hall.is_busy" CB)
  (e8:MF K a "first_unsettled" "Hall.first_unsettled" CC)
  (e9:MF K a "step" "Hall.step" CD)
  (f0:MF K a "step_behind_a_fall" "Hall.step_behind_a_fall" CF)
  (f1:MF K a "step_ahead" "Hall.step_ahead" CG)
  (f2:MF K a "finish" "Hall.finish" CH)
  (f3:MF K a "held" "Hall.held" CI)
  (f4:MF K a "log" "Hall.log" CJ)
  (f5:MF K a "waiting" "Hall.waiting" CL)
  (f6:MF K a "saved" "Hall.saved" CN)
  (f7:DF K "_law_cell_at" CO)
  (f8:DF K "_law_mixed" CP)
  (f9:DF K "_law_draw" CQ)
  (g0:DF K "_law_pick" CS)
  (g1:DF K "_law_zone" CT)
  (g2:DF K "_law_plan" CU)
  (g3:DF K "_law_deeds" CV)
  (g4:DF K "_law_call" CW)
  (g5:DF K "_law_which" sC)
  (g6:DF K "_law_do" CY)
  (U:NI K "law" f)
  (g7:LK K f M J "law" "law" kP x y z u g A L)
  (g8:codeIn K g "law" = true)
  (g9:KI K f)
  (h0:NV K "LAST_MOMENT" (9999) b2)
  (h1:NV K "LAST_HOUR" (23) b3)
  (h2:NV K "LEAST_AHEAD" (-12) b4)
  (h3:NV K "MOST_AHEAD" (14) b5)
  (h4:NV K "MOST_SHIFTS" (6) b6)
  (h5:NV K "MOST_STEP" (999) N)
  (h6:NV K "MOST_DEEDS" (6) b7)
  (h7:NV K "MOST_WITHIN" (999) b8)
  (h8:NV K "LAST_RUNNER" (3) b9)
  (h9:NV K "MOST_TERM" (99) c0)
  (Y:NV K "DAY_HOURS" (24) c1)
  (Z:NV K "PLAN" (0) O)
  (a0:NV K "LATE" (1) R)
  (a1:NV K "AGAIN" (2) S)
  (i0:NZ K "ANY_ZONE")
  (i1:NZ K "NO_DEEDS")
  (i2:NZ K "ValueError")
  (a2:NZ K "all")
  (i3:NZ K "bool")
  (i4:NZ K "enumerate")
  (a3:NZ K "int")
  (i5:NZ K "isinstance")
  (a4:NZ K "len")
  (i6:NZ K "list")
  (a5:NZ K "max")
  (a6:NZ K "min")
  (i7:NZ K "range")
  (i8:NZ K "str")
  (i9:NZ K "tuple")
  (a7:NZ K "zip")
  (j0:plainGet K a Str.empty=true)
  (j1:PySem.W.hasDictIn K a=true)
  (j2:PySem.W.plainOver K a=true)
  (j3:findIn K (.ref a) "__setattr__" = some (some (.builtin "object.__setattr__")))
  (a8:PySem.W.makesIn K a=true)
  (a9:KI K a)
  (i:findIn K (.ref a) "begun" = some none)
  (j:findIn K (.ref a) "deeds" = some none)
  (d:findIn K (.ref a) "holder" = some none)
  (k:findIn K (.ref a) "holds" = some none)
  (q:findIn K (.ref a) "last" = some none)
  (r:findIn K (.ref a) "rows" = some none)
  (b:findIn K (.ref a) "settled" = some none)
  (m:findIn K (.ref a) "until" = some none)
  (n:findIn K (.ref a) "words" = some none)
  (t:findIn K (.ref a) "zone" = some none)
  (o:NI K "DueError" D_)
  (B:excIn K D_ oX "ValueError.__new__" = true)
  (D:zU K D_ er=true) :
  ∃fd,(∀s  v,BindsTo s fd ⟨[v],[]⟩ [("_law_script",v)])/\∀base,K.In base->base.Ns mainGlobals I->bJ l.prog w K I base (cx l.prog w) 9 fa fd ["_law_script"] (wU K):=by
 have e:=b1.symm.trans (mg_of X G U);cases e;have b0:=oy (st:=kP) g7 g8 g9;have j4:FD K I "law" kP ["_law_script"] _ _:=⟨b0,mg_of X G U,b0.binds fun _ _ _ _ _ _=>rE fun _=>rfl⟩
 have HC:dW K I a:=⟨⟨j0,j1,j2,j3⟩,mg_of X G p,a8,a9,i,j,d,k,q,r,b,m,n,t,e0.md,e1.md,e2.md,e3.md,e4.md,e5.md,e6.md,e7.md,e8.md,e9.md,f0.md,f1.md,f2.md,f3.md,f4.md,f5.md,f6.md⟩
 have T:Tx K I:=⟨l0.fd X G,l1.fd X G,l2.fd X G,l3.fd X G,l4.fd X G,l5.fd X G,l6.fd X G,l7.fd X G,l8.fd X G,l9.fd X G,c2.fd X G,c3.fd X G,c4.fd X G,c5.fd X G,c6.fd X G,c7.fd X G,c8.fd X G,c9.fd X G,d0.fd X G,d1.fd X G,d2.fd X G,d3.fd X G,d4.fd X G,d5.fd X G,d6.fd X G,d7.fd X G,d8.fd X G,d9.fd X G,f7.fd X G,f8.fd X G,f9.fd X G,g0.fd X G,g1.fd X G,g2.fd X G,g3.fd X G,g4.fd X G,g5.fd X G,g6.fd X G,⟨_,mg_of X G h0⟩,⟨_,mg_of X G h1⟩,⟨_,mg_of X G h2⟩,⟨_,mg_of X G h3⟩,⟨_,mg_of X G h4⟩,⟨_,mg_of X G h5⟩,⟨_,mg_of X G h6⟩,⟨_,mg_of X G h7⟩,⟨_,mg_of X G h8⟩,⟨_,mg_of X G h9⟩,⟨_,mg_of X G Y⟩,⟨_,mg_of X G Z⟩,⟨_,mg_of X G a0⟩,⟨_,mg_of X G a1⟩,mg_none_of X G i2,mg_none_of X G a2,mg_none_of X G i3,mg_none_of X G i4,mg_none_of X G a3,mg_none_of X G i5,mg_none_of X G a4,mg_none_of X G i6,mg_none_of X G a5,mg_none_of X G a6,mg_none_of X G i7,mg_none_of X G i8,mg_none_of X G i9,mg_none_of X G a7,⟨D_,⟨⟨mg_of X G o,o,B⟩,D,fun c C e=>mg_of X G e⟩⟩⟩
 exact⟨fnOf "law" "law" (ju kP) (gC kP) (cZ kP) .none x y z u g A,fun s v=>.of_eq rfl,fun base _ _=>(Pr _ _ _ T HC j4).imp fun vs H Q E h=>Rs (NP (mg_none_of X G i0) (mg_none_of X G i1) H) (fun ns hn=>Rr hn) h⟩
theorem law_walk{l:PySem.W.OpenLaw}{K:Params->Frag}(m:l.most=some 63)(e:d.params.defaults=[])
  (p:∀w  h,g w h->(K w.params).In h)
  (F:∀w  c  i  h,(K w.params).In h->h.Ns mainGlobals c->c d.name=some (.ref i)->
   ∃fd,(∀s  u,BindsTo s fd ⟨[u],[]⟩ [("_law_script",u)])/\∀base,(K w.params).In base->base.Ns mainGlobals c->bJ l.prog w (K w.params) c base (cx l.prog w) 9 i fd ["_law_script"] (wU (K w.params))) :
  PySem.W.WalkO q b j g l.row.toRowW d [] (fun f r=>PySem.call f r):=by
 refine L2.walk_of (n:=63) (k:=9) (x:="_law_script") (CX:=fun w=>cx l.prog w) (sp:=fun w=>wU (K w.params)) m (by decide) e ⟨rfl,by decide,by decide⟩ p F (fun w H a B t v A=>?hsp) (fun _ _ _ _ _ y=>by obtain⟨_,_,_,_,_,_,_,_,_,z⟩:=y;exact z);refine⟨a,B,rfl,⟨t,?_⟩,fun _=>rfl⟩;rcases A with(h1 |h1) |h1
 .rcases v a with h2 |⟨o,C,h2⟩
  .rw[h2]at h1;cases h1
  .rw[h2]at h1;cases h1
 .exact .inl h1
 .exact .inr h1
end K3
namespace PySem.W.Fast
def tw10169252825323951973:=()
def tw10213812971480171224:=()
def tw10390063746523751565:=()
def tw10504827162935655234:=()
def tw10808341396897627904:=()
def tw1080942618682233975:=()
def tw10852247683953480527:=()
def tw11613285114668542745:=()
def tw11675315754070948869:=()
def tw11717101347785201761:=()
def tw11825787695449465568:=()
def tw12040965094491844286:=()
def tw1204929236563248805:=()
def tw12108118452175708337:=()
def tw12130143136393803975:=()
def tw12282613857673608286:=()
def tw12468406781821166720:=()
def tw12497190665645264401:=()
def tw12716379993746500280:=()
def tw12735972750443002053:=()
def tw12812470266315127232:=()
def tw12830346162791781964:=()
def tw12858331358167810753:=()
def tw12935363260226648161:=()
def tw13137847925260710430:=()
def tw13345636712820216192:=()
def tw13358184592039874983:=()
def tw13684137039251473091:=()
def tw13694591604938271398:=()
def tw13956756324307717801:=()
def tw14722671576156094126:=()
def tw14747550472392096692:=()
def tw15063182888677923258:=()
def tw15208574895225821534:=()
def tw15442847535881311088:=()
def tw15474075776254259249:=()
def tw15538078343579040385:=()
def tw15592009801902095725:=()
def tw15690552357130192756:=()
def tw16180101575024795132:=()
def tw16580245666105820219:=()
def tw16717144524780984137:=()
def tw16745202308650230792:=()
def tw16844225089271924496:=()
def tw16894967293886985979:=()
def tw17050866532466585522:=()
def tw17130696479111693065:=()
def tw17263118031713401218:=()
def tw17271149302567508043:=()
def tw17582588971763286685:=()
def tw18039716479402445320:=()
def tw180626969329253401:=()
def tw18269444571736447365:=()
def tw1965550351420265430:=()
def tw2038028733452020852:=()
def tw2159292057790376669:=()
def tw2582365470064061410:=()
def tw2848540467644631697:=()
def tw3218491620384968150:=()
def tw3340900586006376124:=()
def tw358303942923338414:=()
def tw3650208155298396051:=()
def tw3715655333709412425:=()
def tw3815555021974254327:=()
def tw3972743277098853315:=()
def tw4456266199718619568:=()
def tw4710836225244256752:=()
def tw4805144123835001313:=()
def tw5281432879996759499:=()
def tw5294319687538241874:=()
def tw5525077765650772528:=()
def tw5644760189544522687:=()
def tw5710053938075836779:=()
def tw5848268712350868204:=()
def tw6017045989827416351:=()
def tw6042554829681274221:=()
def tw6322857222570289992:=()
def tw6492139523245673239:=()
def tw6550069133614959351:=()
def tw6705942551157191317:=()
def tw6720742721981321490:=()
def tw6886963665200269156:=()
def tw6977074357018717946:=()
def tw7126256133624059764:=()
def tw7220197435583323782:=()
def tw7228859022169973778:=()
def tw744597861144000653:=()
def tw7657003427436336347:=()
def tw7804305833503273220:=()
def tw7872118259134744149:=()
def tw8229547975801939219:=()
def tw8280609639988296205:=()
def tw8493100819246884843:=()
def tw8512587533337707323:=()
def tw8565532169844048841:=()
def tw8679266248834206175:=()
def tw8724941374765111797:=()
def tw8735608692885561477:=()
def tw8873154876426643189:=()
def tw9167086381855059654:=()
def tw9216455015110916401:=()
def tw9343811727095022101:=()
def tw9351226443333146809:=()
def tw9528041852641519929:=()
def tw9605798016835150835:=()
def tw9669917582962808473:=()
def tw9748159797727887580:=()
def tw9759201862202597973:=()
def tw9938214425558765449:=()
def tw9954792716934496849:=()
end PySem.W.Fast
open PySem PySem.W PyProof.Rows
set_option maxRecDepth 100000 in
set_option maxHeartbeats 0 in
theorem PySem.Challenge.cw_duehall_k11_two_halls_holds : PySem.Challenge.rw_duehall_k11_two_halls.Holds := by
  w_on;o_law;k_head;(case hw => w_witness2)
  k_fill
  refine K3.law_walk (l := PySem.Challenge.rw_duehall_k11_two_halls) rfl rfl (fun w h Y => PySem.W.kIn_of Y) ?F
  case F =>
    intro w mg fa h KX G hmg
    refine' K3.all_mk KX G hmg ?a_Hall ?l0 ?l1 ?l2 ?l3 ?l4 ?l5 ?l6 ?l7 ?l8 ?l9 ?l10 ?l11 ?l12 ?l13 ?l14 ?l15 ?l16 ?l17 ?l18 ?l19 ?l20 ?l21 ?l22 ?l23 ?l24 ?l25 ?l26 ?l27 ?l28 ?l29 ?l30 ?l31 ?l32 ?l33 ?l34 ?l35 ?l36 ?l37 ?l38 ?l39 ?l40 ?l41 ?l42 ?l43 ?l44 ?l45 ?l46 ?l47 ?l48 ?l49 ?l50 ?l51 ?l52 ?l53 ?l54 ?a55 ?l55 ?c55 ?k55 ?v0_ ?v7_ ?v1_ ?v6_ ?v2_ ?v9_ ?v5_ ?v3_ ?v4_ ?v8_ ?v10_ ?v13_ ?v12_ ?v11_ ?z3_ ?z4_ ?z1_ ?z15_ ?z7_ ?z2_ ?z14_ ?z0_ ?z12_ ?z8_ ?z10_ ?z13_ ?z5_ ?z9_ ?z6_ ?z11_ ?pg_ ?hd_ ?po_ ?sa_ ?mks_ ?kpC_ ?n_begun ?n_deeds ?n_holder ?n_holds ?n_last ?n_rows ?n_settled ?n_until ?n_words ?n_zone ?a_Due ?x_Due ?x_tab
    (case a_Hall => (first |unfold K3.LK |unfold K3.NI |unfold K3.NV |unfold K3.NZ |unfold K3.KI |skip);k_is)
    (case l0|l1|l2|l3|l4|l5|l6|l7|l8|l9|l10|l11|l12|l13|l14|l15|l16|l17|l18|l19|l20|l21|l22|l23|l24|l25|l26|l27|l45|l46|l47|l48|l49|l50|l51|l52|l53|l54 => exact⟨_,_,_,_,_,_,_,_,_,_,by k_is,by k_is,by k_is,by k_is⟩)
    (case l28|l29|l30|l31|l32|l33|l34|l35|l36|l37|l38|l39|l40|l41|l42|l43|l44 => exact⟨_,_,_,_,_,_,_,_,_,_,by k_is,by k_is,by k_is,by k_is,by k_is⟩)
    (case a55|l55|c55|k55|v0_|v7_|v1_|v6_|v2_|v9_|v5_|v3_|v4_|v8_|v10_|v13_|v12_|v11_|z3_|z4_|z1_|z15_|z7_|z2_|z14_|z0_|z12_|z8_|z10_|z13_|z5_|z9_|z6_|z11_|pg_|hd_|po_|sa_|mks_|kpC_|n_begun|n_deeds|n_holder|n_holds|n_last|n_rows|n_settled|n_until|n_words|n_zone|a_Due => (first |unfold K3.LK |unfold K3.NI |unfold K3.NV |unfold K3.NZ |unfold K3.KI |skip);k_is)
    (case x_Due|x_tab => first |kernel_rfl |rfl)
