import PyProof.Rows.All
import Wide.All
import OpenK.AllK
import Wide.FinOn
import Lean
import PyProof.EqAt
import PyProof.EqKinds
import PyProof.TupleCall
import PySem.Challenge.RW_duehall_k34_whole_calendar_done
noncomputable section
set_option Elab.async false
set_option linter.all false
set_option maxRecDepth 100000
set_option compiler.extract_closed false
set_option genSizeOf false
local macro_rules | `(tactic|lia)=>`(tactic|first|lia(splits:=9)|omega)
theorem ae:type_of% @PySem.wpAny_bind:=@PySem.wpAny_bind
theorem aR:type_of% @PySem.wpAny_pure:=@PySem.wpAny_pure
theorem aS:type_of% @PySem.Heap.get?_push_of_some:=@PySem.Heap.get?_push_of_some
theorem bj:type_of% @PySem.Heap.lt_size:=@PySem.Heap.lt_size
theorem bb:type_of% @Nat.le_refl:=@Nat.le_refl
theorem aL:type_of% @PyProof.Rows.wpS_bind:=@PyProof.Rows.wpS_bind
theorem bd:type_of% @PyProof.Rows.wpS_pure:=@PyProof.Rows.wpS_pure
theorem bL:type_of% @bind_congr:=@bind_congr
theorem bu:type_of% @List.mem_append_right:=@List.mem_append_right
theorem bC:type_of% @List.mem_append_left:=@List.mem_append_left
theorem bq:type_of% @List.mem_cons_of_mem:=@List.mem_cons_of_mem
open PySem.W (instObj Frag plainGet findIn emptyDict keepIn kitOne kia_one fnOf codeIn nsIn mg_of mg_none_of)
theorem Zq(_:0=0:=by rfl):0=0:=rfl
theorem Zr(_:0=0:=by decide):0=0:=rfl
theorem Zs(_:Nat->0=0:=by intro _;rfl):0=0:=rfl
namespace L2
open PySem PySem.Spec PyProof.Rows
abbrev be:=Sum Int Str
noncomputable def lN:be->Value->Bool
 |.inl k,v=>Value.isInt k v
 |.inr x,v=>Value.isStrOf x v
noncomputable def FY(w:World):be->Int
 |.inl k=>hashInt k
 |.inr x=>hashStr w x
theorem jb:∀{k v},lN k v=true->(∃i t,k=Sum.inl i/\v=Value.int i t)\/(∃x t,k=Sum.inr x/\v=Value.str x t)
 |.inl i,v,h=>by obtain⟨t,e⟩:=Value.isInt_shape (k:=i) (v:=v) h;exact .inl ⟨i,t,rfl,e⟩
 |.inr x,v,h=>by obtain⟨t,e⟩:=Value.isStrOf_shape (x:=x) (v:=v) h;exact .inr ⟨x,t,rfl,e⟩
theorem FZ(i t):lN (.inl i) (.int i t)=true:=by simp[lN,Value.isInt]
theorem Ga(x t):lN (.inr x) (.str x t)=true:=by simp[lN,Value.isStrOf]
theorem Gb(a b):decide ((Sum.inl a:be)=Sum.inl b)=(a==b):=by
 by_cases e:a=b
 .subst e;simp
 .have h:¬ (Sum.inl a:be)=Sum.inl b:=fun q=>e (Sum.inl.inj q);rw[decide_eq_false h];exact(beq_eq_false_iff_ne.mpr e).symm
theorem Gc(a b):decide ((Sum.inr a:be)=Sum.inr b)=decide (a=b):=by
 by_cases e:a=b
 .subst e;simp
 .have h:¬ (Sum.inr a:be)=Sum.inr b:=fun q=>e (Sum.inr.inj q);rw[decide_eq_false h,decide_eq_false e]
theorem Ge(a b):decide ((Sum.inl a:be)=Sum.inr b)=false:=decide_eq_false (fun q=>nomatch q)
theorem Gf(a b):decide ((Sum.inr a:be)=Sum.inl b)=false:=decide_eq_false (fun q=>nomatch q)
def gm(prog:Program)(w:World):PySem.KeyKind prog w be where
 is:=lN
 hash:=FY w
 inj:=fun v a b ha hb=>by
  rcases jb ha with⟨i,t,rfl,rfl⟩ |⟨x,t,rfl,rfl⟩
  .rcases jb hb with⟨j,u,rfl,e⟩ |⟨y,u,rfl,e⟩
   .injection e with e1 _;rw[e1]
   .exact nomatch e
  .rcases jb hb with⟨j,u,rfl,e⟩ |⟨y,u,rfl,e⟩
   .exact nomatch e
   .injection e with e1 _;rw[e1]
 byValue:=fun k v h=>by rcases jb h with⟨i,t,rfl,rfl⟩ |⟨x,t,rfl,rfl⟩<;>rfl
 pyHash:=fun hv h=>by
  rcases jb hv with⟨i,t,rfl,rfl⟩ |⟨x,t,rfl,rfl⟩
  .exact wpAny_pyHash_int h
  .exact wpAny_pyHash_str h
 eqBool:=fun hu hv h=>by
  rcases jb hu with⟨i,t,rfl,rfl⟩ |⟨x,t,rfl,rfl⟩
  .rcases jb hv with⟨j,u,rfl,rfl⟩ |⟨y,u,rfl,rfl⟩
   .rw[Gb]at h;exact wpAny_eqBool_int h
   .rw[Ge]at h;exact SeqAt.EqAt.int_str i t y u _ _ _ _ h
  .rcases jb hv with⟨j,u,rfl,rfl⟩ |⟨y,u,rfl,rfl⟩
   .rw[Gf]at h;exact SeqAt.EqAt.str_int x t j u _ _ _ _ h
   .rw[Gc]at h;exact wpAny_eqBool_str h
 «strs»:=fun k x t v h=>by
  rcases jb h with⟨i,u,rfl,e⟩ |⟨y,u,rfl,e⟩
  .exact nomatch e
  .injection e with e1 _
   subst e1;cases v<;>rfl
theorem Gg(a w i t):(gm a w).is (.inl i) (.int i t)=true:=FZ i t
theorem Gh(a w x t):(gm a w).is (.inr x) (.str x t)=true:=Ga x t
inductive V where
 |non |bl (b:Bool) |int (i:Int) |str (x:Str) |byt (b:Array UInt8) |flt (b:UInt64) |ref (a:Addr) |ty (n:String)
 deriving DecidableEq
def bf:V->Value->Prop
 |.non,u=>u=Value.none
 |.bl b,u=>u=Value.bool b
 |.int i,u=>∃t,u=Value.int i t
 |.str x,u=>∃t,u=Value.str x t
 |.byt b,u=>∃t,u=Value.bytes b t
 |.flt b,u=>∃t,u=Value.float b t
 |.ref a,u=>u=Value.ref a
 |.ty n,u=>u=Value.type n
abbrev bi:List V->List Value->Prop:=Paired bf
theorem bi.length(r:bi a b):a.length=b.length:=Paired.length r
theorem bi.get:∀{a b}{i:Nat}{x},bi a b->a[i]? = some x->∃u,b[i]? = some u/\bf x u
 |_,_,_,_,.nil,e=>by simp at e
 |_,_,0,_,.cons r _,e=>by simp at e;subst e;exact⟨_,rfl,r⟩
 |_,_,i+1,x,.cons _ t,e=>by obtain⟨u,h1,h2⟩:=bi.get (i:=i) (x:=x) t (by simpa using e);exact⟨u,by simpa using h1,h2⟩
theorem bi.set(r:bf x u):∀{a b} i,bi a b->bi (a.set i x) (b.set i u)
 |_,_,_,.nil=>.nil
 |_,_,0,.cons _ t=>.cons r t
 |_,_,i+1,.cons q t=>.cons q (bi.set r i t)
theorem bi.append:∀{a b c d},bi a c->bi b d->bi (a++b) (c++d)
 |_,_,_,_,.nil,s=>s
 |_,_,_,_,.cons r t,s=>.cons r (bi.append t s)
theorem bi.take:∀{a b} n,bi a b->bi (a.take n) (b.take n)
 |_,_,0,_=>.nil
 |_,_,_+1,.nil=>.nil
 |_,_,n+1,.cons r t=>.cons r (bi.take n t)
theorem bi.drop:∀{a b} n,bi a b->bi (a.drop n) (b.drop n)
 |_,_,0,r=>r
 |_,_,_+1,.nil=>.nil
 |_,_,n+1,.cons _ t=>bi.drop n t
def gn:Option V->Option Value->Prop
 |some v,some u=>bf v u
 |none,none=>True
 |_,_=>False
def KV{κ:Type}:List (κ×V)->List (κ×Value)->Prop:=Paired fun(p:κ×V) (q:κ×Value)=>p.1=q.1/\bf p.2 q.2
noncomputable def kV:be->V
 |.inl i=>.int i
 |.inr x=>.str x
inductive HO where
 |lst (xs:List V)
 |tup (xs:List V)
 |dK (kvs:List (be×V)) |dT (kvs:List (List be×V))
 |set (S:Int->Bool) (n:Nat)
 |ins (C dx:Addr) (fs:List (Str×V))
 |own (x:Addr)
 |xd (fs:List (Str×V))
 |met (f x:Addr)
 |rng (lo hi:Int)
 |frz (o:Obj) (u:HO)
 |tbl (ps:Array Value)
 |ext (φ:Heap->Prop)
abbrev Hp:=Addr->Option HO
noncomputable def aI(H:Hp)(a:Addr)(o:HO):Hp:=fun b=>if b=a then some o else H b
theorem cK:aI H a o a=some o:=by unfold aI;rw[if_pos rfl]
theorem bv(h:b≠a):aI H a o b=H b:=by unfold aI;rw[if_neg h]
theorem Gi{H:Hp}(h:H a=some o)(c:H b=some u)(d:o≠u):a≠b:=by intro e;subst e;rw[h]at c;exact d (Option.some.inj c)
theorem gT{H:Hp}(h:H a=some o)(c:H b=none):a≠b:=by intro e;subst e;rw[h]at c;cases c
section
variable(P:Program)(w:World)
def cz(H:Hp)(h:Heap)(a:Addr):HO->Prop
 |.lst d=>d.length<=sizeLine/\∃(b:List Value) (n:Nat),bi d b/\h.get? a=some { cls:=.type "list",data:=.seq b.toArray n }
 |.tup d=>d.length<=sizeLine/\∃b:List Value,bi d b/\IsTup h a b.toArray
 |.dK c=>c.length<=sizeLine/\(a==sysModules)=false/\∃vs,KV c vs/\h.DictOf (gm P w) a vs
 |.dT c=>c.length<=sizeLine/\(a==sysModules)=false/\∃d:List (List be×Addr×Value),
   Paired (fun(p:List be×V) (q:List be×Addr×Value)=>p.1=q.1/\H q.2.1=some (.tup (p.1.map kV))/\bf p.2 q.2.2) c d/\
   ∃o i l,h.get? a=some o/\o.ExactDict/\o.data=.dict i l/\i.toList=d.map (entryOfKey (tupleKind (gm P w)))/\(d.map (·.1)).Nodup
 |.set S n=>h.SetOf (intKind P w) a S n
 |.ins C g fs=>H g=some (.own a)/\fs.length<=1000/\g≠a/\h.get? a=some (instObj C g)/\
   ∃e,h.Ns1 g e/\(∀f,gn (fs.lookup f) (e f))/\PySem.Within e (fs.map (·.1))
 |.own _=>∃o,h.get? a=some o
 |.xd fs=>∃e,h.Ns1 a e/\∀f,gn (fs.lookup f) (e f)
 |.rng lo m=>∃t u v,h.get? a=some { cls:=.type "range",data:=.fields #[.int lo t,.int m u,.int 1 v] }
 |.frz o u=>h.get? a=some o/\cz H h a u
 |.tbl r=>h.get? a=some { cls:=.none,data:=.fields r }
 |.met f x=>h.get? a=some (PySem.W.methodObj (.ref f) (.ref x))
 |.ext φ=>φ h/\(∃o,h.get? a=some o)/\∀j k:Heap,φ j->(∀o,j.get? a=some o->k.get? a=some o)->φ k
def bG(H:Hp)(h:Heap):Prop:=∀a o,H a=some o->cz P w H h a o
end
theorem cz.lt(x:cz P w H h a o):a<h.objs.size:=by
 cases o with
 |lst c=>obtain⟨_,_,_,_,e⟩:=x;exact bj e
 |tup c=>obtain⟨_,_,_,p⟩:=x;exact p.lt
 |dK b=>obtain⟨_,_,_,_,o,_,_,e,_⟩:=x;exact bj e
 |dT b=>obtain⟨_,_,_,_,o,_,_,e,_⟩:=x;exact bj e
 |set S n=>obtain⟨o,_,_,_,e,_⟩:=x;exact bj e
 |ins C d fs=>obtain⟨_,_,_,e,_⟩:=x;exact bj e
 |own y=>obtain⟨_,e⟩:=x;exact bj e
 |xd fs=>obtain⟨_,⟨_,_,_,e,_⟩,_⟩:=x;exact bj e
 |rng lo g=>obtain⟨_,_,_,e⟩:=x;exact bj e
 |frz ob u=>obtain⟨e,_⟩:=x;exact bj e
 |tbl i=>exact bj (show h.get? a=some _ from x)
 |met f y=>exact bj (show h.get? a=some _ from x)
 |ext φ=>obtain⟨_,⟨_,e⟩,_⟩:=x;exact bj e
theorem Paired.mapP:∀{c:List α}{d},Paired F c d->(∀a b,F a b->G a b)->Paired G c d
 |_,_,.nil,_=>.nil
 |_,_,.cons r t,f=>.cons (f _ _ r) (Paired.mapP t f)
theorem cz.stay(x:cz P w H h a o)(k:∀b u,(b=a\/H b=some (.own a))->h.get? b=some u->h'.get? b=some u)
  (J:∀b,H b=some (.own a)->Z b=some (.own a)) (E:∀b m,H b=some (.tup m)->Z b=some (.tup m)):cz P w Z h' a o:=by
 induction o with
 |lst m=>obtain⟨z,l,n,r,e⟩:=x;exact⟨z,l,n,r,k _ _ (.inl rfl) e⟩
 |tup m=>obtain⟨z,l,r,g,e,c⟩:=x;exact⟨z,l,r,g,k _ _ (.inl rfl) e,c⟩
 |dK s=>obtain⟨z,y,vs,r,g,i,j,e,c⟩:=x;exact⟨z,y,vs,r,g,i,j,k _ _ (.inl rfl) e,c⟩
 |dT s=>obtain⟨z,y,m,r,g,i,j,e,c⟩:=x;exact⟨z,y,m,Paired.mapP r fun p q z=>⟨z.1,E _ _ z.2.1,z.2.2⟩,g,i,j,k _ _ (.inl rfl) e,c⟩
 |set S n=>obtain⟨g,i,j,t,e,c⟩:=x;exact⟨g,i,j,t,k _ _ (.inl rfl) e,c⟩
 |ins C L fs=>obtain⟨d,z,ne,e,A,⟨B,i,j,G,c⟩,r⟩:=x;exact⟨J _ d,z,ne,k _ _ (.inl rfl) e,A,⟨B,i,j,k _ _ (.inr d) G,c⟩,r⟩
 |own y=>obtain⟨g,e⟩:=x;exact⟨g,k _ _ (.inl rfl) e⟩
 |xd fs=>obtain⟨A,⟨B,i,j,e,c⟩,r⟩:=x;exact⟨A,⟨B,i,j,k _ _ (.inl rfl) e,c⟩,r⟩
 |rng lo M=>obtain⟨t,u,v,e⟩:=x;exact⟨t,u,v,k _ _ (.inl rfl) e⟩
 |frz g u I=>obtain⟨e,q⟩:=x;exact⟨k _ _ (.inl rfl) e,I q⟩
 |tbl D=>have e:h.get? a=some { cls:=.none,data:=.fields D }:=x;show h'.get? a=some { cls:=.none,data:=.fields D };exact k a _ (.inl rfl) e
 |met f y=>have e:h.get? a=some (PySem.W.methodObj (.ref f) (.ref y)):=x;show h'.get? a=some (PySem.W.methodObj (.ref f) (.ref y));exact k a _ (.inl rfl) e
 |ext φ=>obtain⟨p,⟨o,e⟩,st⟩:=x;exact⟨st _ _ p fun o q=>k _ _ (.inl rfl) q,⟨o,k _ _ (.inl rfl) e⟩,st⟩
theorem bG.lt(x:bG P w H h)(e:H a=some o):a<h.objs.size:=(x a o e).lt
theorem bG.fresh{a:Addr}(x:bG P w H h)(e:h.objs.size<=a):H a=none:=by
 cases q:H a with
 |none=>rfl
 |some u=>exact absurd (Nat.lt_of_lt_of_le (x.lt q) e) (Nat.lt_irrefl _)
theorem bG.kept(x:bG P w H h)(k:∀b u,h.get? b=some u->h'.get? b=some u):bG P w H h':=fun a o e=>(x a o e).stay (fun b u _ q=>k b u q) (fun _ q=>q) fun _ _ q=>q
theorem bG.laid{a:Addr}(x:bG P w H h)(k:∀b u,h.get? b=some u->h'.get? b=some u)(f:h.objs.size<=a)(new:cz P w (aI H a o) h' a o):bG P w (aI H a o) h':=fun b u e=>by
 have d:=x.fresh f
 by_cases hb:b=a
 .subst hb;rw[cK]at e;cases e;exact new
 .rw[bv hb]at e;exact(x b u e).stay (fun c v _ q=>k c v q) (fun c q=>by rw[bv (gT q d)];exact q) fun c g q=>by rw[bv (gT q d)];exact q
def Rd(H:Hp)(a:Addr)(u:HO):Prop:=H a=some u\/∃o,H a=some (.frz o u)
theorem Rd.ok(r:Rd H a u)(x:bG P w H h):cz P w H h a u:=by
 rcases r with r |⟨o,r⟩
 .exact x a u r
 .obtain⟨_,q⟩:=x a _ r;exact q
def nN:Option HO->Prop
 |some (.lst _)=>True
 |some (.dK _)=>True
 |some (.dT _)=>True
 |some (.set _ _)=>True
 |some (.ins _ _ _)=>True
 |some (.ext _)=>True
 |_=>False
theorem bG.write(ok:bG P w H h)(g:nN (H x))(m:e=x\/H e=some (.own x))(k:∀b u,b≠e->h.get? b=some u->Y.get? b=some u)(l:∃u,Y.get? e=some u)
  (new:cz P w (aI H x X) Y x X):bG P w (aI H x X) Y:=fun b u q=>by
 have d:∀c y,H c=some (.own y)->c≠x:=fun c y r z=>by subst z;rw[r]at g;exact g
 have f:∀c i,H c=some (.tup i)->c≠x:=fun c i r z=>by subst z;rw[r]at g;exact g
 by_cases hb:b=x
 .subst hb;rw[cK]at q;cases q;exact new
 .rw[bv hb]at q
  by_cases a:b=e
  .have n:H b=some (.own x):=by
    rcases m with z |z
    .exact absurd (a.trans z) hb
    .rw[a];exact z
   rw[q]at n;cases n;obtain⟨v,o⟩:=l;exact⟨v,by rw[a];exact o⟩
  .refine(ok b u q).stay (fun c v j r=>k c v ?_ r) (fun c r=>by rw[bv (d c b r)];exact r) fun c i r=>by rw[bv (f c i r)];exact r
   rcases j with rfl |j
   .exact a
   .rintro rfl;rcases m with z |z
    .exact d c b j z
    .rw[j]at z;cases z;exact hb rfl
structure Un (fs ex:List Addr) (H H':Hp) (h h':Heap):Prop where
 keep:∀b o,h.get? b=some o->H b=none->b∉fs->b∉ex->h'.get? b=some o
 slot:∀b o,h.get? b=some o->H b=none->b∈fs->b∉ex->∃sl,h'.get? b=some { o with slots:=sl }
 free:∀b o,h.get? b=some o->H b=none->b∉ex->H' b=none
 there:∀b o,h.get? b=some o->b∉ex->∃o',h'.get? b=some o'
 tups:∀b xs,H b=some (.tup xs)->H' b=some (.tup xs)
 frzs:∀b o u,H b=some (.frz o u)->H' b=some (.frz o u)
 tbls:∀b ps,H b=some (.tbl ps)->∃dG,H' b=some (.tbl (ps++dG))
theorem Un.any(u:Un fs ex H T h h1)(q:h.get? b=some c)(n:H b=none)(d:b∉ex):∃f,h1.get? b=some { c with slots:=f }:=by
 by_cases hb:b∈fs
 .exact u.slot b c q n hb d
 .exact⟨c.slots,u.keep b c q n hb d⟩
theorem Un.kept(k:∀b u,h.get? b=some u->h'.get? b=some u):Un fs ex H H h h':=
 ⟨fun b c q _ _ _=>k b c q,fun b c q _ _ _=>⟨c.slots,k b c q⟩,fun _ _ _ n _=>n,fun b c q _=>⟨c,k b c q⟩,fun _ _ q=>q,fun _ _ _ q=>q,fun _ d q=>⟨#[],by rw[q];simp⟩⟩
theorem Un.refl:Un fs ex H H h h:=Un.kept fun _ _ q=>q
theorem Un.laid{h:Heap}{a:Addr}(k:∀b u,h.get? b=some u->h'.get? b=some u)(hp:h.objs.size<=a)(hn:H a=none):Un fs ex H (aI H a o) h h' where
 keep:=fun b u q _ _ _=>k b u q
 slot:=fun b u q _ _ _=>⟨u.slots,k b u q⟩
 free:=fun b u q n _=>by rw[bv (Nat.ne_of_lt (Nat.lt_of_lt_of_le (bj q) hp))];exact n
 there:=fun b u q _=>⟨u,k b u q⟩
 tups:=fun b xs q=>by rw[bv (gT q hn)];exact q
 frzs:=fun b u xs q=>by rw[bv (gT q hn)];exact q
 tbls:=fun b ps q=>⟨#[],by rw[bv (gT q hn),q];simp⟩
theorem Un.write(d:nN (H x))(j:e=x\/H e=some (.own x))(k:∀b u,b≠e->h.get? b=some u->h'.get? b=some u)(f:∃u,h'.get? e=some u):Un fs ex H (aI H x o) h h':=by
 have i:∀b,H b=none->b≠x:=fun b n z=>by subst z;rw[n]at d;exact d
 have hb:∀b,H b=none->b≠e:=fun b n z=>by
  subst z;rcases j with r |r
  .exact i b n r
  .rw[n]at r;cases r
 have g:∀b u,H b=some u->¬ nN (some u)->b≠x:=fun b u q l z=>by subst z;rw[q]at d;exact l d
 refine⟨fun b u q n _ _=>k b u (hb b n) q,fun b u q n _ _=>⟨u.slots,k b u (hb b n) q⟩,fun b u q n _=>by rw[bv (i b n)];exact n,fun b u q _=>?_,
  fun b m q=>by rw[bv (g b _ q fun z=>z)];exact q,fun b u m q=>by rw[bv (g b _ q fun z=>z)];exact q,fun b p q=>⟨#[],by rw[bv (g b _ q fun z=>z),q];simp⟩⟩
 by_cases c:b=e
 .subst c;exact f
 .exact⟨u,k b u c q⟩
noncomputable def pZ(h:Heap)(H:Hp):List Addr:=(List.range h.objs.size).filter fun a=>(H a).isSome
def jc(h:Heap)(H:Hp):Heap:=PySem.W.hideAll h (pZ h H)
theorem Gj(h H):(jc h H).objs.size=h.objs.size:=PySem.W.hideAll_size _ _
theorem Gk(e:h.get? b=some o)(n:H b=none):(jc h H).get? b=some o:=
 PySem.W.hideAll_get _ e fun a=>by have q:(H b).isSome=true:=(List.mem_filter.mp a).2;rw[n]at q;simp at q
theorem Gm(e:(jc h H).get? b=some o):h.get? b=some o/\H b=none:=by
 have a:h.get? b=some o:=PySem.W.of_hideAll (pZ h H) e;refine⟨a,?_⟩;cases q:H b with
 |none=>rfl
 |some x=>have c:b∈pZ h H:=List.mem_filter.mpr ⟨List.mem_range.mpr (bj a),by simp[q]⟩;have z:(jc h H).get? b=none:=PySem.W.hideAll_none (pZ h H) c;rw[z]at e;cases e
structure Mod (K:Frag) (mg:Str->Option Value) (base:Heap):Prop where
 kin:K.In base
 glob:base.Ns mainGlobals mg
 blt:∃mb,base.Ns builtinsNs mb/\∀x:Str,x≠"__name__"->mb x=bootBuiltins x
 nolimit:base.NoLimit
structure Cx where
 prog:Program
 w:World
 K:Frag
 mg:Str->Option Value
 base:Heap
 A:Around
 N:List Str
 s₀:Shared
 H₀:Hp
 env:Env
 outer:List Env
 stack:List Env
 ex:List Addr
 fn:Str->Bool
 calm:Bool
 pn:List (Addr×Obj)
 xe:Value->Shared->Prop
noncomputable def bQ(l:List Env):List Addr:=l.filterMap (·.frame)
abbrev Cx.fs(X:Cx):List Addr:=bQ X.outer
def nO(a:Scope)(x:Str):Prop:=a.names.lookup x=some .local\/a.names.lookup x=some .cell\/a.names.lookup x=some .free
def Loc(a:Scope)(x:Str):Prop:=a.names.lookup x=some .local\/a.names.lookup x=some .cell
def Gn(a:Env)(h:Heap)(m:Str->Option Value)(x:Str)(u:Value):Prop:=
 (a.kindOf x=some .local/\m x=some u)\/((a.kindOf x=some .cell\/a.kindOf x=some .free)/\∃c,a.cells.lookup x=some c/\h.IsCell c (some u))
structure Cx.Ok (X:Cx):Prop where
 mod:Mod X.K X.mg X.base
 kind:X.env.scope.kind=.function
 glob:X.env.globals=mainGlobals
 blt:X.env.builtins=builtinsNs
 above:X.s₀.heap.objs.size<=X.env.locals
 inj:∀x y c,X.env.cells.lookup x=some c->X.env.cells.lookup y=some c->x=y
 has:∀x,(X.env.kindOf x=some .cell\/X.env.kindOf x=some .free)->∃c,X.env.cells.lookup x=some c
 cab:∀x c,X.fn x=true->X.env.cells.lookup x=some c->X.s₀.heap.objs.size<=c
 hd:X.calm=true->X.A.handled=none
 frames:X.A.frames=some X.stack
 stk:X.stack=X.outer\/(X.stack=X.env::X.outer/\X.env.frame=some X.env.locals)
 exf:∀b∈X.ex,b≠X.env.locals/\∀x c,X.env.cells.lookup x=some c->c≠b
 bs:∀b o,X.base.get? b=some o->X.s₀.heap.get? b=some o/\X.H₀ b=none
 bsz:X.base.objs.size<=X.s₀.heap.objs.size
 noex:∀b o,X.base.get? b=some o->b∉X.ex
 exfs:∀b∈X.ex,b∉X.fs
 funs:X.s₀.heap.FunFrames X.base X.outer
 frf:∀b∈X.fs,X.H₀ b=none
structure Inv (X:Cx) (pins:List (Addr×Obj)) (Y:List (Option V)) (H:Hp) (s:Shared):Prop where
 ok:X.Ok
 os:s.os=X.s₀.os
 bare:AllBare s.gens
 base:Un X.fs X.ex X.H₀ H X.s₀.heap s.heap
 loc:∃m,s.heap.Ns X.env.locals m/\∀(i:Nat) (x:Str) (v:V),X.N[i]? = some x->Y[i]? = some (some v)->nO X.env.scope x->∃u,bf v u/\Gn X.env s.heap m x u
 cell:∀x c,X.env.cells.lookup x=some c->∃v,s.heap.IsCell c v
 free:H X.env.locals=none
 freeC:∀x c,X.env.cells.lookup x=some c->H c=none
 pin:∀p∈X.pn++pins,s.heap.get? p.1=some p.2/\H p.1=none/\p.1≠X.env.locals/\p.1∉X.fs/\∀v,p.2.data≠.cell v
 hok:bG X.prog X.w H s.heap
 len:Y.length=X.N.length
theorem Cx.Ok.nofr{X:Cx}(ok:X.Ok)(e:X.base.get? b=some o):b∉X.fs:=fun a=>by have:=(ok.funs.mem a).1;rw[e]at this;cases this
theorem Inv.bs(I:Inv X R Y H s):∀b o,X.base.get? b=some o->s.heap.get? b=some o/\H b=none:=fun b o e=>⟨I.base.keep b o (I.ok.bs b o e).1 (I.ok.bs b o e).2 (I.ok.nofr e) (I.ok.noex b o e),I.base.free b o (I.ok.bs b o e).1 (I.ok.bs b o e).2 (I.ok.noex b o e)⟩
theorem Inv.bk(I:Inv X R Y H s):∀b o,X.base.get? b=some o->s.heap.get? b=some o:=fun b o e=>(I.bs b o e).1
theorem Inv.mod(I:Inv X R Y H s):Mod X.K X.mg X.base:=I.ok.mod
theorem Inv.kIn(I:Inv X R Y H s):X.K.In s.heap:=I.ok.mod.kin.keeps I.bk
theorem Inv.lt(I:Inv X R Y H s):X.env.locals<s.heap.objs.size:=let⟨_,a,_⟩:=I.loc;a.lt
theorem Inv.sz(I:Inv X R Y H s):X.s₀.heap.objs.size<=s.heap.objs.size:=Nat.le_trans I.ok.above (Nat.le_of_lt I.lt)
theorem Inv.nofs(I:Inv X R Y H s){a:Addr}(h:s.heap.objs.size<=a):a∉X.fs:=fun b=>by obtain⟨_,o,c,_⟩:=I.ok.funs.mem b;exact absurd (Nat.lt_of_lt_of_le (bj c) (Nat.le_trans I.sz h)) (Nat.lt_irrefl _)
theorem Inv.cne(I:Inv X R Y H s):∀x c,X.env.cells.lookup x=some c->c≠X.env.locals:=fun x c e z=>by obtain⟨v,o,ho,hd⟩:=I.cell x c e;obtain⟨m,⟨d,f,g,a,b,_⟩,_⟩:=I.loc;rw[z,a]at ho;cases ho;rw[b]at hd;cases hd
theorem Inv.funs(I:Inv X R Y H s):s.heap.FunFrames X.base X.outer:=by
 have all:∀(l:List Env),(∀b∈bQ l,b∈X.fs)->X.s₀.heap.FunFrames X.base l->s.heap.FunFrames X.base l:=by
  intro l
  induction l with
  |nil=>intro _ _;trivial
  |cons env r g=>intro f h;obtain⟨i,⟨L,o,a,j,ho,hd⟩,k⟩:=h;have c:L∈X.fs:=f L (by unfold bQ;rw[List.filterMap_cons,a];exact List.mem_cons_self);obtain⟨m,e⟩:=I.base.slot L o ho (I.ok.frf L c) c fun z=>I.ok.exfs L z c;exact⟨i,⟨L,_,a,j,e,hd⟩,g (fun b d=>f b (by unfold bQ;rw[List.filterMap_cons,a];exact bq _ d)) k⟩
 exact all X.outer (fun _ d=>d) I.ok.funs
theorem Inv.stack(I:Inv X R Y H s):s.heap.FunFrames X.base X.stack:=by
 rcases I.ok.stk with e |⟨e,a⟩
 .rw[e];exact I.funs
 .rw[e];obtain⟨m,b,_⟩:=I.loc;refine .cons (by rw[I.ok.kind];decide) a b ?_ I.funs;exact Heap.get?_none_of_le (Nat.le_trans I.ok.bsz I.ok.above)
theorem Inv.stkSub(I:Inv X R Y H s):∀b∈bQ X.stack,b∈X.env.locals::X.fs:=fun b a=>by
 rcases I.ok.stk with e |⟨e,c⟩
 .rw[e]at a;exact bq _ a
 .rw[e]at a;unfold bQ at a;rw[List.filterMap_cons,c]at a;exact a
theorem Inv.stkFree(I:Inv X R Y H s):∀b∈bQ X.stack,H b=none:=fun b a=>by
 rcases List.mem_cons.mp (I.stkSub b a) with e |a
 .rw[e];exact I.free
 .obtain⟨_,o,c,_⟩:=I.ok.funs.mem a;exact I.base.free b o c (I.ok.frf b a) fun z=>I.ok.exfs b z a
theorem Inv.step{ch:List Addr}(I:Inv X R Y H s)
  (f:∀b∈ch,(b∈X.ex\/X.s₀.heap.objs.size<=b)/\b≠X.env.locals/\(∀x c,X.env.cells.lookup x=some c->c≠b)/\∀p∈X.pn++R,p.1≠b)
  (keep:∀b o,b≠X.env.locals->b∉X.fs->b∉ch->s.heap.get? b=some o->H b=none->h'.get? b=some o)
  (slot:∀b o,b≠X.env.locals->b∈X.fs->b∉ch->s.heap.get? b=some o->H b=none->∃N,h'.get? b=some { o with slots:=N }) (free:∀b o,b∉ch->s.heap.get? b=some o->H b=none->O b=none)
  (there:∀b o,b∉ch->s.heap.get? b=some o->∃B,h'.get? b=some B)
  (E:∀b y,H b=some (.tup y)->O b=some (.tup y)) (G:∀b o u,H b=some (.frz o u)->O b=some (.frz o u)) (J:∀b L,H b=some (.tbl L)->∃dG,O b=some (.tbl (L++dG)))
  (ns:∀m,s.heap.Ns X.env.locals m->h'.Ns X.env.locals m) (Q:bG X.prog X.w O h') (Z:AllBare g') :
  Inv X R Y O { s with heap:=h',gens:=g',drawn:=d',toks:=t' }:=by
 have C:∀b o,X.s₀.heap.get? b=some o->b≠X.env.locals:=fun b o e=>Nat.ne_of_lt (Nat.lt_of_lt_of_le (bj e) I.ok.above);have j:∀b o,X.s₀.heap.get? b=some o->b∉X.ex->b∉ch:=fun b o e a A=>by
  rcases(f b A).1 with z |z
  .exact a z
  .exact absurd (Nat.lt_of_lt_of_le (bj e) z) (Nat.lt_irrefl _)
 have g:∀x c,X.env.cells.lookup x=some c->∀v,s.heap.IsCell c v->h'.IsCell c v:=fun x c e v ⟨o,ho,hd⟩=>by
  have h:c∉ch:=fun z=>(f c z).2.2.1 x c e rfl
  by_cases S:c∈X.fs
  .obtain⟨N,q⟩:=slot c o (I.cne x c e) S h ho (I.freeC x c e);exact⟨_,q,hd⟩
  .exact⟨o,keep c o (I.cne x c e) S h ho (I.freeC x c e),hd⟩
 refine⟨I.ok,I.os,Z,⟨fun b o e n A a=>?_,fun b o e n A a=>?_,fun b o e n a=>?_,fun b o e a=>?_,fun b y e=>E b y (I.base.tups b y e),fun b o y e=>G b o y (I.base.frzs b o y e),fun b L e=>?_⟩,?_,fun x c e=>?_,?_,fun x c e=>?_,fun p T=>?_,Q,I.len⟩
 .exact keep b o (C b o e) A (j b o e a) (I.base.keep b o e n A a) (I.base.free b o e n a)
 .obtain⟨N,t⟩:=I.base.slot b o e n A a;obtain⟨M,D⟩:=slot b _ (C b o e) A (j b o e a) t (I.base.free b o e n a);exact⟨M,D⟩
 .obtain⟨B,t⟩:=I.base.there b o e a;exact free b B (j b o e a) t (I.base.free b o e n a)
 .obtain⟨B,t⟩:=I.base.there b o e a;exact there b B (j b o e a) t
 .obtain⟨m1,t⟩:=I.base.tbls b L e;obtain⟨m2,D⟩:=J b _ t;exact⟨m1++m2,by rw[D,Array.append_assoc]⟩
 .obtain⟨m,hn,hl⟩:=I.loc;refine⟨m,ns m hn,fun i x v t D e3=>?_⟩;obtain⟨u,r,l⟩:=hl i x v t D e3;refine⟨u,r,?_⟩;rcases l with l |⟨k,c,e,z⟩
  .exact .inl l
  .exact .inr ⟨k,c,e,g x c e _ z⟩
 .obtain⟨v,z⟩:=I.cell x c e;exact⟨v,g x c e v z⟩
 .obtain⟨m,⟨o,_,_,ho,_⟩,_⟩:=I.loc;exact free _ o (fun z=>(f _ z).2.1 rfl) ho I.free
 .obtain⟨v,o,ho,hd⟩:=I.cell x c e;exact free c o (fun z=>(f c z).2.2.1 x c e rfl) ho (I.freeC x c e)
 .obtain⟨e,n,ne,U,d⟩:=I.pin p T;have h:p.1∉ch:=fun z=>(f p.1 z).2.2.2 p T rfl;exact⟨keep p.1 p.2 ne U h e n,free p.1 p.2 h e n,ne,U,d⟩
theorem Inv.un(I:Inv X R Y H s)(u:Un X.fs [] H O s.heap h')(f:bG X.prog X.w O h'):Inv X R Y O { s with heap:=h',toks:=t' }:=by
 obtain⟨m,⟨o,k,l,ho,r⟩,_⟩:=id I.loc;obtain⟨t,h⟩:=u.any ho I.free (by simp);exact I.step (g':=s.gens) (d':=s.drawn) (ch:=[]) (fun _ z=>nomatch z) (fun b o _ g _ e n=>u.keep b o e n g (by simp)) (fun b o _ g _ e n=>u.slot b o e n g (by simp)) (fun b o _ e n=>u.free b o e n (by simp)) (fun b o _ e=>u.there b o e (by simp)) u.tups u.frzs u.tbls (fun p i=>by
  obtain⟨q,c,d,a,j⟩:=i;rw[ho]at a;cases a;exact⟨_,c,d,h,j⟩) f I.bare
theorem Inv.call(I:Inv X R Y H s)(u:Un (bQ X.stack) ch H O s.heap h')(j:bG X.prog X.w O h')(k:AllBare g')
  (d:∀b∈ch,(b∈X.ex\/X.s₀.heap.objs.size<=b)/\b≠X.env.locals/\(∀x c,X.env.cells.lookup x=some c->c≠b)/\∀p∈X.pn++R,p.1≠b) :
  Inv X R Y O { s with heap:=h',gens:=g',drawn:=d',toks:=t' }:=by
 obtain⟨m,⟨o,v,y,ho,r⟩,_⟩:=id I.loc;obtain⟨C,g⟩:=u.any ho I.free fun z=>(d _ z).2.1 rfl;exact I.step (ch:=ch) d (fun b o g t a e n=>u.keep b o e n (fun z=>(List.mem_cons.mp (I.stkSub b z)).elim g t) a) (fun b o _ _ a e n=>u.any e n a) (fun b o a e n=>u.free b o e n a) (fun b o a e=>u.there b o e a) u.tups u.frzs u.tbls (fun A l=>by
  obtain⟨B,h,i,f,q⟩:=l;rw[ho]at f;cases f;exact⟨_,h,i,g,q⟩) j k
theorem Inv.turned(I:Inv X R Y H s)(k:∀b o,b≠it->s.heap.get? b=some o->h'.get? b=some o)(g:H it=none)(f:it≠X.env.locals)
  (l:it∈X.ex\/X.s₀.heap.objs.size<=it) (t:∀x c,X.env.cells.lookup x=some c->c≠it) (w:∀p∈X.pn++R,p.1≠it):Inv X R Y H { s with heap:=h',toks:=t' }:=by
 have d:∀b u,H b=some u->b≠it:=fun b u e z=>by rw[z,g]at e;cases e
 refine I.step (g':=s.gens) (d':=s.drawn) (ch:=[it]) (fun b y=>?_) (fun b o _ _ a e _=>k b o (fun z=>a (by simp[z])) e) (fun b o _ _ a e _=>⟨o.slots,k b o (fun z=>a (by simp[z])) e⟩) (fun _ _ _ _ n=>n)
  (fun b o a e=>⟨o,k b o (fun z=>a (by simp[z])) e⟩) (fun _ _ e=>e) (fun _ _ _ e=>e) (fun b A e=>⟨#[],by rw[e];simp⟩) (fun m h=>?_) (fun b u e=>?_) I.bare
 .have e:b=it:=by simpa using y
  subst e;exact⟨l,f,t,w⟩
 .obtain⟨o,i,j,ho,r⟩:=h;exact⟨o,i,j,k _ o (Ne.symm f) ho,r⟩
 .refine(I.hok b u e).stay (fun c v a q=>k c v ?_ q) (fun _ q=>q) fun _ _ q=>q;rcases a with z |z
  .rw[z];exact d b u e
  .exact d c _ z
theorem Inv.tok(I:Inv X R Y H s)(t):Inv X R Y H { s with toks:=t }:=I.un (h':=s.heap) (t':=t) Un.refl I.hok
theorem Inv.kept(I:Inv X R Y H s)(k:∀b u,s.heap.get? b=some u->h'.get? b=some u):Inv X R Y H { s with heap:=h',toks:=t' }:=I.un (Un.kept k) (I.hok.kept k)
theorem Inv.laid{a:Addr}(I:Inv X R Y H s)(k:∀b u,s.heap.get? b=some u->h'.get? b=some u)(c:s.heap.objs.size<=a)(new:cz X.prog X.w (aI H a o) h' a o) :
  Inv X R Y (aI H a o) { s with heap:=h',toks:=t' }:=I.un (Un.laid k c (I.hok.fresh c)) (I.hok.laid k c new)
theorem Inv.write(I:Inv X R Y H s)(c:nN (H x))(d:e=x\/H e=some (.own x))(k:∀b u,b≠e->s.heap.get? b=some u->h'.get? b=some u)(a:∃u,h'.get? e=some u)
  (new:cz X.prog X.w (aI H x o) h' x o):Inv X R Y (aI H x o) { s with heap:=h',toks:=t' }:=I.un (Un.write c d k a) (I.hok.write c d k a new)
theorem Inv.pins_of(I:Inv X R Y H s)(h:∀p∈pins',s.heap.get? p.1=some p.2/\H p.1=none/\p.1≠X.env.locals/\p.1∉X.fs/\∀v,p.2.data≠.cell v):Inv X pins' Y H s:=
 ⟨I.ok,I.os,I.bare,I.base,I.loc,I.cell,I.free,I.freeC,fun p a=>(List.mem_append.mp a).elim (fun z=>I.pin p (bC _ z)) (h p),I.hok,I.len⟩
theorem xp{N:List Str}(c:N.Nodup){j:Nat}(a:N[i]? = some x)(b:N[j]? = some x):i=j:=by obtain⟨f,d⟩:=List.getElem?_eq_some_iff.mp a;obtain⟨g,e⟩:=List.getElem?_eq_some_iff.mp b;exact(List.getElem_inj c).mp (d.trans e.symm)
theorem xq(I:Inv X R Y H s)(hN:X.N.Nodup)(T:X.N[i]? = some x)(B:Loc X.env.scope x)(r:bf v u)
  (h:∀s',Inv X R (Y.set i (some v)) H s'->(∃a,Heap.SameBut a s.heap s'.heap/\(a=X.env.locals\/X.env.cells.lookup x=some a))->Q () s') (hf:X.fn x=true\/X.env.scope.names.lookup x=some .local:=by first |exact .inl rfl |exact .inr rfl |assumption):wpAny M A (storeName X.env x u) Q E s:=by
 obtain⟨m,hn,hl⟩:=id I.loc;have U:(X.env.scope.kind==.class||(X.env.scope.kind==.module&&X.env.locals != X.env.globals))=false:=by rw[I.ok.kind];rfl
 have Z:i<Y.length:=by rw[I.len];exact(List.getElem?_eq_some_iff.mp T).1
 have cne:=I.cne;have g:∀{a:Addr}{h':Heap},(∃o,s.heap.get? a=some o/\H a=none)->Heap.SameBut a s.heap h'->bG X.prog X.w H h':=fun {a h'} ha f b ob e=>by
  obtain⟨_,_,C⟩:=ha;refine(I.hok b ob e).stay (fun c w' t q=>(f.2 c ?_).trans q) (fun _ q=>q) fun _ _ q=>q;rintro rfl;rcases t with rfl |t
  .rw[C]at e;cases e
  .rw[C]at t;cases t
 rcases B with G |G
 .refine wpAny_storeName_local G hn (fun h' a4 f=>?_) U;obtain⟨oL,_,_,a5,_⟩:=id hn;refine h _ ⟨I.ok,I.os,I.bare,⟨fun b o e n S B=>?_,fun b o e n S B=>?_,I.base.free,fun b o e B=>?_,I.base.tups,I.base.frzs,I.base.tbls⟩,⟨_,a4,fun j y v' l D e3=>?_⟩,fun y c e=>?_,I.free,I.freeC,fun p hp=>?_,g ⟨oL,a5,I.free⟩ f,by simpa using I.len⟩ ⟨_,f,.inl rfl⟩
  .exact(f.2 b (Nat.ne_of_lt (Nat.lt_of_lt_of_le (bj e) I.ok.above))).trans (I.base.keep b o e n S B)
  .obtain⟨sl,l⟩:=I.base.slot b o e n S B;exact⟨sl,(f.2 b (Nat.ne_of_lt (Nat.lt_of_lt_of_le (bj e) I.ok.above))).trans l⟩
  .obtain⟨o',l⟩:=I.base.there b o e B;exact⟨o',(f.2 b (Nat.ne_of_lt (Nat.lt_of_lt_of_le (bj e) I.ok.above))).trans l⟩
  .by_cases J:j=i
   .subst J;rw[T]at l;cases l;rw[List.getElem?_set_self Z]at D;cases D;exact⟨u,r,.inl ⟨G,by simp⟩⟩
   .rw[List.getElem?_set_ne (Ne.symm J)]at D;obtain⟨u',r',q⟩:=hl j y v' l D e3;refine⟨u',r',?_⟩;rcases q with⟨k,e⟩ |⟨k,c,e,z⟩
    .refine .inl ⟨k,?_⟩;have:y≠x:=fun e=>J (xp hN l (e▸T));simp[this,e]
    .exact .inr ⟨k,c,e,z.sameBut f (cne y c e)⟩
  .obtain⟨w',z⟩:=I.cell y c e;exact⟨w',z.sameBut f (cne y c e)⟩
  .obtain⟨e,n,ne,nf,d⟩:=I.pin p hp;exact⟨(f.2 p.1 ne).trans e,n,ne,nf,d⟩
 .have L:X.fn x=true:=by
   rcases hf with z |z
   .exact z
   .rw[z]at G;cases G
  obtain⟨c,t⟩:=I.ok.has x (.inl G);obtain⟨w',z⟩:=I.cell x c t;refine wpAny_storeName_cell I.ok.kind G t z (fun h' a0 f=>?_);obtain⟨oc,a1,a2⟩:=id z;refine h { s with heap:=h' } ⟨I.ok,I.os,I.bare,⟨fun b o e n S B=>?_,fun b o e n S B=>?_,I.base.free,fun b o e B=>?_,I.base.tups,I.base.frzs,I.base.tbls⟩,⟨m,hn.sameBut f (Ne.symm (cne x c t)),fun j y v' l D e3=>?_⟩,fun y c' e=>?_,I.free,I.freeC,fun p hp=>?_,g ⟨oc,a1,I.freeC x c t⟩ f,by simpa using I.len⟩ ⟨c,f,.inr t⟩
  .exact(f.2 b (Nat.ne_of_lt (Nat.lt_of_lt_of_le (bj e) (I.ok.cab x c L t)))).trans (I.base.keep b o e n S B)
  .obtain⟨sl,l⟩:=I.base.slot b o e n S B;exact⟨sl,(f.2 b (Nat.ne_of_lt (Nat.lt_of_lt_of_le (bj e) (I.ok.cab x c L t)))).trans l⟩
  .obtain⟨o',l⟩:=I.base.there b o e B;exact⟨o',(f.2 b (Nat.ne_of_lt (Nat.lt_of_lt_of_le (bj e) (I.ok.cab x c L t)))).trans l⟩
  .by_cases J:j=i
   .subst J;rw[T]at l;cases l;rw[List.getElem?_set_self Z]at D;cases D;exact⟨u,r,.inr ⟨.inl G,c,t,a0⟩⟩
   .rw[List.getElem?_set_ne (Ne.symm J)]at D;obtain⟨u',r',q⟩:=hl j y v' l D e3;refine⟨u',r',?_⟩;rcases q with q |⟨k,c',e,z'⟩
    .exact .inl q
    .refine .inr ⟨k,c',e,z'.sameBut f ?_⟩;rintro rfl;exact J (xp hN l (I.ok.inj _ _ _ e t▸T))
  .by_cases a3:c' = c
   .subst a3;exact⟨_,a0⟩
   .obtain⟨w2,z2⟩:=I.cell y c' e;exact⟨w2,z2.sameBut f a3⟩
  .obtain⟨e,n,ne,nf,d⟩:=I.pin p hp;refine⟨(f.2 p.1 ?_).trans e,n,ne,nf,d⟩;intro q;rw[q,a1]at e;have q':oc=p.2:=Option.some.inj e;exact d w' (by rw[<-q'];exact a2)
theorem nP(I:Inv X R Y H s)(b:X.N.Nodup)(c:X.N[i]? = some x)(d:Loc X.env.scope x)(r:bf v u)
  (h:∀a,Inv X R (Y.set i (some v)) H a->Q () a) (e:X.fn x=true\/X.env.scope.names.lookup x=some .local:=by first |exact .inl rfl |exact .inr rfl |assumption):wpAny M A (storeName X.env x u) Q E s:=
 xq I b c d r (fun a f _=>h a f) e
theorem Inv.call'(I:Inv X R Y H s)(k:a.os=s.os)(u:Un (bQ X.stack) ch H O s.heap a.heap)(f:bG X.prog X.w O a.heap)(g:AllBare a.gens)
  (d:∀b∈ch,(b∈X.ex\/X.s₀.heap.objs.size<=b)/\b≠X.env.locals/\(∀x c,X.env.cells.lookup x=some c->c≠b)/\∀p∈X.pn++R,p.1≠b):Inv X R Y O a:=by
 obtain⟨h',h,i,t',j⟩:=a;have e:j = s.os:=k;subst e;exact I.call (g':=h) (t':=t') (d':=i) u f g d
abbrev XK:=Value->Option Addr->Hp->Prop
abbrev St:=List (Option V)
abbrev VK:=V->Hp->Prop
abbrev TE:=St->Hp->VK->Prop
abbrev TT:=St->Hp->(Bool->Hp->Prop)->Prop
abbrev TA:=St->Hp->(List V->Hp->Prop)->Prop
structure gp where
 nx:St->Hp->Prop
 rt:VK
 bk:St->Hp->Prop:=fun _ _=>False
 ct:St->Hp->Prop:=fun _ _=>False
abbrev TS:=gp->St->Hp->Prop
def EP(X:Cx)(a:List (Addr×Obj))(Y:St)(Q:VK)(u:Value)(c:Shared):Prop:=∃v b,Inv X a Y b c/\bf v u/\Q v b
def TP(X:Cx)(a:List (Addr×Obj))(Y:St)(Q:Bool->Hp->Prop)(b:Bool)(d:Shared):Prop:=∃c,Inv X a Y c d/\Q b c
def AP(X:Cx)(a:List (Addr×Obj))(Y:St)(Q:List V->Hp->Prop)(c:List Value)(d:Shared):Prop:=∃vs b,Inv X a Y b d/\bi vs c/\Q vs b
def SP(X:Cx)(a:List (Addr×Obj))(D:gp)(f:Flow)(d:Shared):Prop:=
 match f with
 |.next=>∃c b,Inv X a c b d/\D.nx c b
 |.brk=>∃c b,Inv X a c b d/\D.bk c b
 |.cont=>∃c b,Inv X a c b d/\D.ct c b
 |.ret u=>∃v c b,Inv X a c b d/\bf v u/\D.rt v b
def PE(X:Cx)(e:Expr)(t:TE):Prop:=
 ∀(a:List (Addr×Obj)) (s:Shared) (Y:St) (H:Hp) (Q:VK),Inv X a Y H s->t Y H Q->wpAny (model X.prog X.w) X.A (eval e X.env) (EP X a Y Q) X.xe s
def PT(X:Cx)(e:Expr)(t:TT):Prop:=
 ∀(a:List (Addr×Obj)) (s:Shared) (Y:St) (H:Hp) (Q:Bool->Hp->Prop),Inv X a Y H s->t Y H Q->wpAny (model X.prog X.w) X.A (isTrue e X.env (eval e X.env)) (TP X a Y Q) X.xe s
def PW(X:Cx)(e:Expr)(t:TT):Prop:=
 ∀(whole:Sem Value) (a:List (Addr×Obj)) (s:Shared) (Y:St) (H:Hp) (Q:Bool->Hp->Prop),Inv X a Y H s->t Y H Q->wpAny (model X.prog X.w) X.A (isTrue e X.env whole) (TP X a Y Q) X.xe s
theorem PW.pt(h:PW X e t):PT X e t:=h _
def PA(X:Cx)(b:List Expr)(t:TA):Prop:=
 ∀(pos:Pos) (a:List (Addr×Obj)) (s:Shared) (Y:St) (H:Hp) (Q:List V->Hp->Prop),Inv X a Y H s->t Y H Q->wpAny (model X.prog X.w) X.A (spliced (backTo pos (starEach b X.env))) (AP X a Y Q) X.xe s
def PS(X:Cx)(st:Stmt)(t:TS):Prop:=
 ∀(a:List (Addr×Obj)) (s:Shared) (Y:St) (H:Hp) (D:gp),Inv X a Y H s->t D Y H->wpAny (model X.prog X.w) X.A (exec st X.env) (SP X a D) X.xe s
def PSs(X:Cx)(st:List Stmt)(t:TS):Prop:=
 ∀(a:List (Addr×Obj)) (s:Shared) (Y:St) (H:Hp) (D:gp),Inv X a Y H s->t D Y H->wpAny (model X.prog X.w) X.A (execs st X.env) (SP X a D) X.xe s
theorem aN{t:Sem α}{Q b}(h:wpAny M A t Q E s)(c:∀a s,Q a s->b a s):wpAny M A t b E s:=wpAny_mono h c fun _ _ x=>x
def cf(i:Nat):TE:=fun Y H Q=>∃v,Y[i]? = some (some v)/\Q v H
def tC(v:V):TE:=fun _ H Q=>Q v H
theorem Go{X:Cx}{pos}(j:X.N[i]? = some x)(k:nO X.env.scope x)(hd:autoParam ((x==("__debug__":Str))=false) Zr._auto_1)(f:autoParam ((x==("__classdict__":Str))=false) Zr._auto_1):PE X (.Name x pos) (cf i):=by
 intro d s Y H Q I h;obtain⟨v,e,h⟩:=h;obtain⟨m,n,o⟩:=I.loc;obtain⟨u,r,l⟩:=o i x v j e k;have fin:EP X d Y Q u s:=⟨v,H,I,r,h⟩
 rcases l with⟨b,p⟩ |⟨b,c,g,a⟩
 .exact wpAny_Name (wpAny_loadName_local I.ok.kind b n p fin) hd
 .rcases b with b |b
  .exact wpAny_Name (wpAny_loadName_cell I.ok.kind b g a fin) hd
  .exact wpAny_Name (wpAny_loadName_free I.ok.kind b g a fin f) hd
theorem qa:PE X (.Constant (.int i) j pos) (tC (.int i)):=fun _ _ _ H _ I h=>wpAny_Constant_int ⟨.int i,H,I.tok _,⟨_,rfl⟩,h⟩
theorem Gp:PE X (.Constant (.bool b) j pos) (tC (.bl b)):=fun _ _ _ H _ I h=>Constant_bool ⟨.bl b,H,I,rfl,h⟩
theorem xr:PE X (.Constant .none j pos) (tC .non):=fun _ _ _ H _ I h=>Constant_none ⟨.non,H,I,rfl,h⟩
theorem Gq:PE X (.Constant (.str x) j pos) (tC (.str x)):=fun _ _ _ H _ I h=>Calls.Constant_str ⟨.str x,H,I.tok _,⟨_,rfl⟩,h⟩
def Gl(X:Cx)(x:Str):Prop:=X.env.kindOf x=some .globalImplicit
theorem tH{Y:St}(I:Inv X a Y H s)(b:Gl X x)(c:X.mg x=some u)(h:Q u s)
  (hd:autoParam ((x==("__debug__":Str))=false) Zr._auto_1):wpAny (model X.prog X.w) X.A (eval (.Name x pos) X.env) Q E s:=
 Calls.Name_function_global I.ok.kind b (Calls.loadGlobal_global (by rw[I.ok.glob];exact I.mod.glob.keeps I.bk) c h) hd
theorem iw{E}{Y:St}{pos}(I:Inv X a Y H s)(b:Gl X x)(c:X.mg x=none)(d:bootBuiltins x=some u)(h:Q u s)
  (e:autoParam (x≠"__name__") Zr._auto_1) (hd:autoParam ((x==("__debug__":Str))=false) Zr._auto_1):wpAny (model X.prog X.w) X.A (eval (.Name x pos) X.env) Q E s:=by
 obtain⟨f,h1,h2⟩:=I.mod.blt;exact Calls.Name_function_global I.ok.kind b (Calls.loadGlobal_builtin (by rw[I.ok.glob];exact I.mod.glob.keeps I.bk) c (by rw[I.ok.blt];exact h1.keeps I.bk) ((h2 x e).trans d) h) hd
theorem xt(a:Gl X x)(b:X.mg x=some u)(r:bf v u)(hd:autoParam ((x==("__debug__":Str))=false) Zr._auto_1):PE X (.Name x pos) (tC v):=
 fun _ _ _ H _ I h=>tH I a b ⟨v,H,I,r,h⟩ hd
theorem jT{pos}(a:Gl X x)(b:X.mg x=none)(c:bootBuiltins x=some u)(r:bf v u)(d:autoParam (x≠"__name__") Zr._auto_1)(hd:autoParam ((x==("__debug__":Str))=false) Zr._auto_1):PE X (.Name x pos) (tC v):=
 fun _ _ _ H _ I h=>iw I a b c ⟨v,H,I,r,h⟩ d hd
def tB(t:TE):TT:=fun Y H Q=>t Y H fun x d=>∃c,x=.bl c/\Q c d
theorem Gr(h:PE X e t)(f:autoParam (∀whole,isTrue e X.env whole=(do let v <-whole;standAt e.pos;holding [v] (truthy v))) Zs._auto_1):PT X e (tB t):=by intro c s Y H Q I g;refine isTrue_plain (aN (h c s Y H _ I g) fun v l ⟨x,i,I1,j,k⟩=>?_) (f _);obtain⟨d,rfl,q⟩:=k;cases j;exact wpAny_truthy_bool ⟨i,I1,q⟩
def Gs(t u:TT):TT:=fun Y H Q=>t Y H fun c d=>if c=true then u Y d Q else Q false d
def Gu(t u:TT):TT:=fun Y H Q=>t Y H fun c d=>if c=true then Q true d else u Y d Q
def Gv(t:TT):TT:=fun Y H Q=>t Y H fun c d=>Q (!c) d
theorem Gw(f:PT X a J):PW X (.BoolOp .And [a] pos) J:=by
 intro g d s Y H Q I h;refine isTrue_and (aN (f d s Y H Q I h) fun c i e=>?_);cases c with
 |true=>exact isTrue_and_nil e
 |false=>exact e
theorem Gx(f:PT X a J):PW X (.BoolOp .Or [a] pos) J:=by
 intro g d s Y H Q I h;refine isTrue_or (aN (f d s Y H Q I h) fun c i e=>?_);cases c with
 |false=>exact isTrue_or_nil e
 |true=>exact e
theorem Gy(g:PT X a J)(k:PW X (.BoolOp .And (b::rest) pos) G):PW X (.BoolOp .And (a::b::rest) pos) (Gs J G):=by
 intro i d s Y H Q I h;refine isTrue_and (aN (g d s Y H _ I h) fun c j ⟨e,I1,f⟩=>?_);cases c with
 |true=>exact k i d j Y e Q I1 f
 |false=>exact⟨e,I1,f⟩
theorem Gz(g:PT X a J)(k:PW X (.BoolOp .Or (b::rest) pos) G):PW X (.BoolOp .Or (a::b::rest) pos) (Gu J G):=by
 intro i d s Y H Q I h;refine isTrue_or (aN (g d s Y H _ I h) fun c j ⟨e,I1,f⟩=>?_);cases c with
 |true=>exact⟨e,I1,f⟩
 |false=>exact k i d j Y e Q I1 f
theorem GA(e:PT X a J):PT X (.UnaryOp .Not a pos) (Gv J):=by intro d s Y H Q I h;exact isTrue_not (e d s Y H (fun c f=>Q (!c) f) I h)
def GB(M L:TE):TE:=fun Y H Q=>M Y H fun x d=>∃c,x=.bl c/\if c=true then L Y d Q else Q (.bl false) d
def GC(M L:TE):TE:=fun Y H Q=>M Y H fun x d=>∃c,x=.bl c/\if c=true then Q (.bl true) d else L Y d Q
def GD(M:TE):TE:=fun Y H Q=>M Y H fun x d=>∃c,x=.bl c/\Q (.bl (!c)) d
theorem GG(h:PE X a t):PE X (.BoolOp op [a] pos) t:=fun c s Y H Q I d=>BoolOp_one (h c s Y H Q I d)
theorem GI(i:PE X a M)(l:PE X (.BoolOp .And (b::rest) pos) L):PE X (.BoolOp .And (a::b::rest) pos) (GB M L):=by
 intro d s Y H Q I h;refine BoolOp_and (aN (i d s Y H _ I h) fun v j e=>?_);obtain⟨x,g,I1,k,f⟩:=e;obtain⟨c,rfl,f⟩:=f;cases k;refine wpAny_truthy_bool ?_;cases c with
 |true=>exact l d j Y g Q I1 f
 |false=>exact⟨.bl false,g,I1,rfl,f⟩
theorem GJ(i:PE X a M)(l:PE X (.BoolOp .Or (b::rest) pos) L):PE X (.BoolOp .Or (a::b::rest) pos) (GC M L):=by
 intro d s Y H Q I h;refine BoolOp_or (aN (i d s Y H _ I h) fun v j e=>?_);obtain⟨x,g,I1,k,f⟩:=e;obtain⟨c,rfl,f⟩:=f;cases k;refine wpAny_truthy_bool ?_;cases c with
 |false=>exact l d j Y g Q I1 f
 |true=>exact⟨.bl true,g,I1,rfl,f⟩
theorem GK(g:PE X a M):PE X (.UnaryOp .Not a pos) (GD M):=by intro d s Y H Q I h;refine UnaryOp_ (aN (g d s Y H _ I h) fun v k e=>?_);obtain⟨x,i,I1,j,f⟩:=e;obtain⟨c,rfl,f⟩:=f;cases j;exact not_of (wpAny_truthy_bool ⟨.bl (!c),i,I1,rfl,f⟩)
def GL(t:TT)(M L:TE):TE:=fun Y H Q=>t Y H fun c d=>if c=true then M Y d Q else L Y d Q
theorem GN(j:PT X c J)(k:PE X a M)(l:PE X b L):PE X (.IfExp c a b pos) (GL J M L):=by
 intro e s Y H Q I h;refine wpAny_IfExp (aN (j e s Y H _ I h) fun d f ⟨g,I1,i⟩=>?_);cases d with
 |true=>exact k e f Y g Q I1 i
 |false=>exact l e f Y g Q I1 i
def cE(K:Frag)(H:Hp)(a:Addr)(c:List V):Prop:=
 Rd H a (.lst c)\/
  ∃(o:Obj) (b:Array Value) (n:Nat),K.lookup a=some o/\o.cls=.type "list"/\o.dict=none/\o.data=.seq b n/\b.size<=sizeLine/\bi c b.toList
def cZ(K:Frag)(H:Hp)(a:Addr)(c:List V):Prop:=
 Rd H a (.tup c)\/
  ∃(o:Obj) (b:Array Value) (n:Nat),K.lookup a=some o/\o.cls=.type "tuple"/\o.data=.seq b n/\b.size<=sizeLine/\bi c b.toList
noncomputable def GO:Value->Option V
 |.none=>some .non
 |.bool b=>some (.bl b)
 |.int i _=>some (.int i)
 |.str x _=>some (.str x)
 |.bytes b _=>some (.byt b)
 |.float b _=>some (.flt b)
 |.ref a=>some (.ref a)
 |.type n=>some (.ty n)
 |_=>none
theorem bf.abs(r:bf x u):GO u=some x:=by
 cases x with
 |non=>cases r;rfl
 |bl _=>cases r;rfl
 |int _=>obtain⟨t,rfl⟩:=r;rfl
 |str _=>obtain⟨t,rfl⟩:=r;rfl
 |byt _=>obtain⟨t,rfl⟩:=r;rfl
 |flt _=>obtain⟨t,rfl⟩:=r;rfl
 |ref _=>cases r;rfl
 |ty _=>cases r;rfl
theorem bf.inj(r:bf x u)(q:bf y u):x=y:=Option.some.inj (r.abs.symm.trans q.abs)
theorem bi.inj:∀{a b c},bi a c->bi b c->a=b
 |_,_,_,.nil,.nil=>rfl
 |_,_,_,.cons r t,.cons d t'=>by rw[r.inj d,bi.inj t t']
theorem cE.of{K}(h:H a=some (.lst N)):cE K H a N:=.inl (.inl h)
theorem Inv.list{Y:St}(I:Inv X Q Y H s)(h:cE X.K H a N):∃b,bi N b/\PlainL s.heap a b.toArray/\N.length<=sizeLine:=by
 rcases h with h |⟨o,b,n,c,d,hd,f,g,r⟩
 .obtain⟨z,b,n,r,e⟩:=h.ok I.hok;exact⟨b,r,⟨_,n,e,rfl,rfl,rfl⟩,z⟩
 .refine⟨b.toList,r,⟨o,n,I.kIn a o c,d,hd,by simpa using f⟩,?_⟩;have e:=r.length;simp only[Array.length_toList]at e;lia
theorem Inv.tuple{Y:St}(I:Inv X Q Y H s)(h:cZ X.K H a N):∃b,bi N b/\IsTup s.heap a b.toArray/\N.length<=sizeLine:=by
 rcases h with h |⟨o,b,n,c,d,f,g,r⟩
 .obtain⟨z,b,r,p⟩:=h.ok I.hok;exact⟨b,r,p,z⟩
 .refine⟨b.toList,r,⟨o,I.kIn a o c,d,n,by simpa using f⟩,?_⟩;have e:=r.length;simp only[Array.length_toList]at e;lia
theorem Inv.list_inj{Y:St}(I:Inv X Q Y H s)(h:cE X.K H a N)(i:cE X.K H a E):N=E:=by
 obtain⟨c,r,⟨o,n,e,_,_,d⟩,_⟩:=I.list h;obtain⟨b,j,⟨l,m,f,_,_,g⟩,_⟩:=I.list i;rw[e]at f;cases f;rw[d]at g;injection g with k _
 have:c=b:=by simpa using congrArg Array.toList k
 subst this;exact r.inj j
theorem Inv.tuple_inj{Y:St}(I:Inv X Q Y H s)(h:cZ X.K H a N)(i:cZ X.K H a E):N=E:=by
 obtain⟨c,r,⟨o,e,_,n,d⟩,_⟩:=I.tuple h;obtain⟨b,j,⟨l,f,_,m,g⟩,_⟩:=I.tuple i;rw[e]at f;cases f;rw[d]at g;injection g with k _
 have:c=b:=by simpa using congrArg Array.toList k
 subst this;exact r.inj j
def GP:TS:=fun D Y H=>D.nx Y H
def GQ(t u:TS):TS:=fun D Y H=>t { D with nx:=u D } Y H
theorem GS:PSs X [] GP:=fun _ _ Y H _ I h=>wpAny_execs_nil ⟨Y,H,I,h⟩
theorem GU{st:Stmt}(i:PS X st t)(j:PSs X rest u):PSs X (st::rest) (GQ t u):=by
 intro a s Y H D I h;refine wpAny_execs_cons (aN (i a s Y H { D with nx:=u D } I h) fun f b q=>?_);cases f with
 |next=>obtain⟨c,d,g,q⟩:=q;exact j a b c d D g q
 |ret v=>exact q
 |brk=>exact q
 |cont=>exact q
theorem GV{st:Stmt}(b:PS X st t):PSs X [st] t:=by
 intro a s Y H D I h;refine wpAny_execs_cons (aN (b a s Y H D I h) fun f c q=>?_);cases f with
 |next=>exact wpAny_execs_nil q
 |ret v=>exact q
 |brk=>exact q
 |cont=>exact q
def GW:TS:=fun D Y H=>D.bk Y H
theorem GX:PS X (.Break pos) GW:=fun _ _ Y H _ I h=>wpAny_Break ⟨Y,H,I,h⟩
theorem Inv.quiet{Y:St}(I:Inv X a Y H s):interactive X.env=false:=by simp[interactive,I.ok.kind]
def GY(C:TE):TS:=fun D Y H=>C Y H fun _ a=>D.nx Y a
theorem tI(c:PE X e C)(d:autoParam (swapsWith e none pos.line X.env=pure false) Zq._auto_1):PS X (.Expr e pos) (GY C):=by intro a s Y H D I h;exact wpAny_Expr_any (aN (c a s Y H _ I h) fun v i b=>by obtain⟨x,f,I1,j,g⟩:=b;exact⟨Y,f,I1,g⟩) I.quiet d
def GZ(C:TE):TS:=fun D Y H=>C Y H D.rt
theorem tK(b:PE X e C):PS X (.Return (some e) pos) (GZ C):=by intro a s Y H D I h;exact wpAny_Return_some (aN (b a s Y H _ I h) fun v g ⟨x,c,I1,d,f⟩=>⟨x,Y,c,I1,d,f⟩)
def Ha(c:TT)(t u:TS):TS:=fun D Y H=>c Y H fun b a=>if b=true then t D Y a else u D Y a
theorem Hb(l:PT X c g)(m:PSs X a t)(n:PSs X b u):PS X (.If c a b pos) (Ha g t u):=by
 intro f s Y H D I h;refine wpAny_If (aN (l f s Y H _ I h) fun d i ⟨j,I1,k⟩=>?_);cases d with
 |true=>exact m f i Y j D I1 k
 |false=>exact n f i Y j D I1 k
abbrev TG:=V->St->Hp->(St->Hp->Prop)->Prop
abbrev jd:=List V->St->Hp->(St->Hp->Prop)->Prop
def PG(X:Cx)(target:Expr)(t:TG):Prop:=
 ∀(a:List (Addr×Obj)) (s:Shared) (Y:St) (H:Hp) (v:V) (u:Value) (Q:St->Hp->Prop),Inv X a Y H s->bf v u->t v Y H Q->
  wpAny (model X.prog X.w) X.A (assign target X.env u) (fun _ d=>∃b c,Inv X a b c d/\Q b c) X.xe s
def PGs(X:Cx)(e:List Expr)(t:jd):Prop:=
 ∀(a:List (Addr×Obj)) (s:Shared) (Y:St) (H:Hp) (vs:List V) (b:List Value) (Q:St->Hp->Prop),Inv X a Y H s->bi vs b->t vs Y H Q->
  wpAny (model X.prog X.w) X.A (assignInOrder ((assignEach e X.env).map (·.2)) b) (fun _ f=>∃c d,Inv X a c d f/\Q c d) X.xe s
abbrev tL:=V->V->V->Hp->(Hp->Prop)->Prop
def xu(X:Cx)(t:tL):Prop:=
 ∀(a:List (Addr×Obj)) (s:Shared) (Y:St) (H:Hp) (o i v:V) (b c u:Value) (Q:Hp->Prop),Inv X a Y H s->bf o b->bf i c->bf v u->t o i v H Q->
  wpAny (model X.prog X.w) X.A (setItem b c u) (fun _ e=>∃d,Inv X a Y d e/\Q d) X.xe s
abbrev qb:=V->V->Hp->VK->Prop
def tM(X:Cx)(op:Operator)(t:qb):Prop:=
 ∀(a:List (Addr×Obj)) (s:Shared) (Y:St) (H:Hp) (x y:V) (v u:Value) (Q:VK),Inv X a Y H s->bf x v->bf y u->t x y H Q->
  wpAny (model X.prog X.w) X.A (inplaceOp op v u) (EP X a Y Q) X.xe s
section
variable{X:Cx}{pos:Pos}
def qc(i:Nat):TG:=fun v Y H Q=>Q (Y.set i (some v)) H
theorem Hc(b:X.N.Nodup)(c:X.N[i]? = some x)(d:Loc X.env.scope x)(e:X.fn x=true\/X.env.scope.names.lookup x=some .local:=by first |exact .inl rfl |exact .inr rfl |assumption):PG X (.Name x pos) (qc i):=by intro a s Y H v u Q I r h;exact wpAny_assign_Name (nP I b c d r (fun g f=>⟨_,H,f,h⟩) e)
def He:jd:=fun vs Y H Q=>vs=[]/\Q Y H
def Hf(t:TG)(u:jd):jd:=fun vs Y H Q=>∃v r,vs=v::r/\t v Y H fun a b=>u r a b Q
theorem Hg:PGs X [] He:=by intro a s Y H vs b Q I r h;obtain⟨e,h⟩:=h;subst e;cases r;exact assignInOrder_nil ⟨Y,H,I,h⟩
theorem Hh(l:PG X e t)(m:PGs X b u)
  (c:autoParam ((assignEach (e::b) X.env).map (·.2)=assign e X.env::(assignEach b X.env).map (·.2)) Zq._auto_1):PGs X (e::b) (Hf t u):=by
 intro a s Y H vs n Q I r h;obtain⟨v,o,d,h⟩:=h;subst d;cases r with
 |cons r f=>rw[c];refine assignInOrder_cons (aN (l a s Y H _ _ _ I r h) fun _ g ⟨i,j,I1,k⟩=>?_);exact m a g i j _ _ Q I1 f k
def Hi(K:Frag)(n:Nat)(t:jd):TG:=fun v Y H Q=>∃a b,v=.ref a/\cZ K H a b/\b.length=n/\t b Y H Q
theorem Hj{k}(j:X.calm=true)(h:PGs X d t)
  (l:autoParam ((assignEach d X.env).length=n) Zq._auto_1) (f:autoParam ((assignEach d X.env).findIdx? (·.1)=none) Zq._auto_1):PG X (.Tuple d k pos) (Hi X.K n t):=by
 intro c s Y H v u Q I r g;obtain⟨a,m,p,q,w,g⟩:=g;subst p;cases r;obtain⟨x,i,y,B⟩:=I.tuple q;refine assign_Tuple_tuple (I.ok.hd j) y (by simp[l,<-w,i.length]) f fun z A=>?_;have I1:Inv X c Y H { s with heap:=z }:=I.kept (t':=s.toks) fun b o e=>A b o (Nat.ne_of_lt (bj e)) e;exact h c _ Y H m _ Q I1 (by simpa using i) g
def gq(d e:TE)(t:tL):TG:=fun v Y H Q=>d Y H fun o a=>e Y a fun i b=>t o i v b fun c=>Q Y c
theorem Hk(L:PE X o g)(k:PE X i j)(l:xu X t)
  (m:autoParam (∀v,assign (.Subscript o i pos) X.env v=(do
   let b <-holding [v] (eval o X.env);let c <-holding [v,b] (eval i X.env)
   standAt pos
   holding [v,b,c] (setItem b c v)
   release [v,b,c] [])) Zs._auto_1):PG X (.Subscript o i pos) (gq g j t):=by
 intro a s Y H v u Q I r h;rw[m];refine ae (wpAny_holding (aN (L a s Y H _ I h) fun b n d=>?_));obtain⟨x,p,I1,q,w⟩:=d;refine ae (wpAny_holding (aN (k a n Y p _ I1 w) fun c z e=>?_));obtain⟨y,A,B,C,D⟩:=e;refine ae (wpAny_standAt (ae (wpAny_holding (aN (l a z Y A x y v b c u _ B q C r D) fun _ M f=>?_))));obtain⟨E,G,J⟩:=f;exact wpAny_release ⟨Y,E,G,J⟩
def tN(a:TE)(g:TG):TS:=fun D Y H=>a Y H fun x b=>g x Y b D.nx
theorem xv(f:PE X e d)(i:PG X b g)(j:autoParam (swapsWithSole [b] e pos.line X.env=pure false) Zq._auto_1)(k:autoParam (swappedStores [b] e X.env=pure none) Zq._auto_1)
  (p:autoParam ((assignEach [b] X.env).map (·.2)=[assign b X.env]) Zq._auto_1):PS X (.Assign [b] e pos) (tN d g):=by
 intro a s Y H D I h;refine wpAny_Assign_stores (aN (f a s Y H _ I h) fun v l c=>?_) j k;obtain⟨x,m,I1,n,o⟩:=c;rw[p];exact aN (i a l Y m x v _ I1 n o) fun _ r q=>q
theorem xw(f:X.N.Nodup)(g:X.N[i]? = some x)(j:Loc X.env.scope x)(k:PE X e d)(l:autoParam (swapsWith e (some (.Name x a)) pos.line X.env=pure false) Zq._auto_1)(m:X.fn x=true\/X.env.scope.names.lookup x=some .local:=by first |exact .inl rfl |exact .inr rfl |assumption) :
  PS X (.Assign [.Name x a] e pos) (tN d (qc i)):=by
 intro b s Y H D I h;refine wpAny_Assign_Name (aN (k b s Y H _ I h) fun v r c=>?_) l;obtain⟨y,n,I1,o,p⟩:=c;exact nP I1 f g j o (fun t q=>⟨_,n,q,p⟩) m
def Hm(i j:Nat)(a:TA):TS:=fun D Y H=>a Y H fun vs b=>∃v w,vs=[v,w]/\D.nx ((Y.set i (some v)).set j (some w)) b
theorem Hn(M:X.calm=true)(C:X.N.Nodup)(O:X.N[i]? = some x)(Q:X.N[j]? = some y)(r:i≠j)
  (E:X.env.scope.names.lookup x=some .local) (G:X.env.scope.names.lookup y=some .local) (R:PA X [a,b] B)
  (S:swappedStores [.Tuple [.Name x l,.Name y py] m pt] (.Tuple [a,b] n kP) X.env=pure (some [x,y]))
  (T:autoParam (swapsWithSole [.Tuple [.Name x l,.Name y py] m pt] (.Tuple [a,b] n kP) pos.line X.env=pure false) Zq._auto_1) :
  PS X (.Assign [.Tuple [.Name x l,.Name y py] m pt] (.Tuple [a,b] n kP) pos) (Hm i j B):=by
 intro c s Y H D I h;rw[exec_Assign_arm];refine ae (wpAny_standAt ?_);rw[T];refine ae (aR ?_);rw[if_neg (by decide)];refine ae (Tuple_ (aN (R _ c s Y H _ I h) fun U d k=>?_));obtain⟨vs,J,I1,Z,t⟩:=k;obtain⟨v,w,e1,t⟩:=t;subst e1;obtain⟨f,g,rfl,rv,u⟩:∃f g,U=[f,g]/\bf v f/\bf w g:=by
  cases Z with
  |cons p q=>
   cases q with
   |cons p' q'=>cases q';exact⟨_,_,rfl,p,p'⟩
 refine wpAny_newObj_type ?_ (by show 2<=sizeLine;decide);have I2:Inv X c Y J { d with heap:=d.heap.push { cls:=.type "tuple",data:=.seq [f,g].toArray } }:=I1.kept (t':=d.toks) fun b o e=>aS _ e;rw[S];refine ae (aR ?_);show wpAny (model X.prog X.w) X.A (do rule "assign.swapped-stores";let items <-unpackItems (.ref d.heap.objs.size) 2 none;assignInOrder [fun v=>bindName X.env y v,fun v=>bindName X.env x v] items.reverse;pure Flow.next) _ _ _;refine ae (wpAny_rule (ae (unpackItems_tuple (items:=#[f,g]) (I.ok.hd M) (IsTup.new d.heap _) fun h' z=>?_)));have I3:=I2.kept (h':=h') (t':=d.toks) fun b o e=>z b o (Nat.ne_of_lt (bj e)) e;show wpAny _ _ (assignInOrder [fun v=>bindName X.env y v,fun v=>bindName X.env x v] [g,f] >>= fun _=>pure Flow.next) _ _ _;refine ae (assignInOrder_cons (wpAny_bindName (nP I3 C Q (.inl G) u (fun s2 I4=>?_) (.inr G))));refine assignInOrder_cons (wpAny_bindName (nP I4 C O (.inl E) rv (fun s3 L=>assignInOrder_nil (aR ?_)) (.inr E)));rw[List.set_comm _ _ (Ne.symm r)]at L;exact⟨_,J,L,t⟩
def Ho(i:Nat)(a:TE)(d:qb):TS:=fun D Y H=>∃x,Y[i]? = some (some x)/\a Y H fun y b=>d x y b fun z c=>D.nx (Y.set i (some z)) c
theorem Hq(B:X.N.Nodup)(q:X.N[i]? = some x)(n:Loc X.env.scope x)(C:PE X e p)(ho:tM X op t)(E:X.fn x=true\/X.env.scope.names.lookup x=some .local:=by first |exact .inl rfl |exact .inr rfl |assumption) :
  PS X (.AugAssign (.Name x f) op e pos) (Ho i p t):=by
 intro a s Y H D I h;obtain⟨v,G,h⟩:=h;obtain⟨m,J,L⟩:=I.loc;have o:nO X.env.scope x:=by rcases n with k |k;exact .inl k;exact .inr (.inl k)
 obtain⟨u,r,l⟩:=L i x v q G o;refine wpAny_AugAssign_Name ?_;have go:wpAny (model X.prog X.w) X.A (eval e X.env) (fun w M=>wpAny (model X.prog X.w) X.A (inplaceOp op u w) (fun r O=>wpAny (model X.prog X.w) X.A (storeName X.env x r) (fun _=>SP X a D .next) X.xe O) X.xe M) X.xe s:=by refine aN (C a s Y H _ I h) fun w Q g=>?_;obtain⟨y,R,I1,S,T⟩:=g;refine aN (ho a Q Y R v y u w _ I1 r S T) fun z s2 j=>?_;obtain⟨zv,U,Z,r2,q2⟩:=j;exact nP Z B q n r2 (fun s3 I3=>⟨_,U,I3,q2⟩) E
 rcases l with⟨b,hm⟩ |⟨b,c,hc,d⟩
 .exact wpAny_loadName_local I.ok.kind b J hm go
 .rcases b with b |b
  .exact wpAny_loadName_cell I.ok.kind b hc d go
  .rcases n with k |k
   .have:X.env.scope.names.lookup x=some .free:=b;rw[k]at this;cases this
   .have:X.env.scope.names.lookup x=some .free:=b;rw[k]at this;cases this
def xx(f:Int->Int->Int):qb:=fun x y H Q=>∃i j,x=.int i/\y=.int j/\Q (.int (f i j)) H
theorem Hr:tM X .Add (xx fun i j=>i+j):=by intro a s Y H x y v u Q I b c h;obtain⟨i,j,d,e,q⟩:=h;subst d;subst e;obtain⟨t,rfl⟩:=b;obtain⟨t',rfl⟩:=c;exact iadd_int ⟨.int _,H,I.tok _,⟨_,rfl⟩,q⟩
end
def Hs(c:TT)(g:TS):TS:=fun D Y H=>∃W:Nat->St->Hp->Prop,(∃m,W m Y H)/\∀m Y H,W m Y H->
 c Y H fun b a=>if b=true then ∃N:St->Hp->Prop,(∀d e,N d e->∃f,f<m/\W f d e)/\g { D with nx:=N,ct:=N,bk:=D.nx } Y a else D.nx Y a
theorem Ht(u:PassesOwn (model X.prog X.w) X.A X.env X.xe)(G:PT X c r)(S:PSs X body t):PS X (.While c body [] pos) (Hs r t):=by
 intro a s Y H D I h;obtain⟨W,⟨J,L⟩,turn⟩:=h;refine wpAny_While (codeAny_whileLoop (fun n M=>∃x y,Inv X a x y M/\W n x y) ?_ J ⟨Y,H,I,L⟩);rintro n O ⟨i,z,I1,Q⟩;refine wpAny_passesOwn u (aN (G a O i z _ I1 (turn n i z Q)) fun b R d=>?_);obtain⟨B,C,j⟩:=d;cases b with
 |true=>
  obtain⟨N,E,j⟩:=j;rw[if_pos rfl];refine wpAny_passesOwn u (aN (S a R i B _ C j) fun f T k=>?_);cases f with
  |next=>obtain⟨e,g,l,m⟩:=k;obtain⟨o,p,q⟩:=E e g m;exact⟨o,p,e,g,l,q⟩
  |cont=>obtain⟨e,g,l,m⟩:=k;obtain⟨o,p,q⟩:=E e g m;exact⟨o,p,e,g,l,q⟩
  |brk=>exact k
  |ret v=>exact k
 |false=>rw[if_neg Bool.false_ne_true];exact wpAny_execs_nil ⟨i,B,C,j⟩
structure It where
 go:Nat->Hp->Prop
 yld:Nat->Hp->V->Hp->Prop
 stop:Nat->Hp->Prop
def gC(X:Cx)(a:List (Addr×Obj))(H:Hp)(b:Addr):Prop:=
 H b=none/\b≠X.env.locals/\b∉X.fs/\(b∈X.ex\/X.s₀.heap.objs.size<=b)/\(∀x c,X.env.cells.lookup x=some c->c≠b)/\∀p∈X.pn++a,p.1≠b
theorem Inv.fpOk{Y:St}{b:Addr}(I:Inv X a Y H s)(d:s.heap.objs.size<=b)(g:f b=none):gC X a f b:=by
 refine⟨g,Nat.ne_of_gt (Nat.lt_of_lt_of_le I.lt d),I.nofs d,.inr (Nat.le_trans I.sz d),fun x c e z=>?_,fun p h z=>?_⟩
 .obtain⟨v,q⟩:=I.cell x c e;exact absurd (Nat.lt_of_lt_of_le q.lt (by rw[z];exact d)) (Nat.lt_irrefl _)
 .exact absurd (Nat.lt_of_lt_of_le (bj (I.pin p h).1) (by rw[z];exact d)) (Nat.lt_irrefl _)
structure fj (P:Program) (w:World) (K:Frag) (tg:Expr) (J:It) (fp:List Addr) (it:Addr) (tn:Nat->Heap->Prop):Prop where
 mem:it∈fp
 obj:∀i h,tn i h->∀b∈fp,∃o,h.get? b=some o/\∀v,o.data≠.cell v
 keep:∀i h h',tn i h->(∀b∈fp,∀o,h.get? b=some o->h'.get? b=some o)->tn i h'
 item:∀(X:Cx),X.prog=P->X.w=w->X.K=K->X.calm=true->∀(i:Nat) (pins:List (Addr×Obj)) (s:Shared) (Y:St) (H:Hp) (E:Value->Shared->Prop),Inv X pins Y H s->(∀b∈fp,gC X pins H b)->tn i s.heap->J.go i H->
  wpAny (model P w) X.A (pyNext (.ref it)) (fun r s1=>∃u,r=some u/\
   wpAny (model P w) X.A (letOwnedTupleGo tg (.ref it) u) (fun _ s2=>∃x H',Inv X pins Y H' s2/\bf x u/\J.yld i H x H'/\tn (i+1) s2.heap/\∀b∈fp,H' b=none) E s1) E s
 done:∀(X:Cx),X.prog=P->X.w=w->X.K=K->X.calm=true->∀(i:Nat) (pins:List (Addr×Obj)) (s:Shared) (Y:St) (H:Hp) (E:Value->Shared->Prop),Inv X pins Y H s->(∀b∈fp,gC X pins H b)->tn i s.heap->J.stop i H->
  wpAny (model P w) X.A (pyNext (.ref it)) (fun r s1=>r=none/\Inv X pins Y H s1) E s
 self:∀(A:Around) (i:Nat) (s:Shared) (Q:Value->Shared->Prop) (E:Value->Shared->Prop),tn i s.heap->Q (.ref it) s->wpAny (model P w) A (pyIter (.ref it)) Q E s
abbrev TI:=St->Hp->(It->Hp->Prop)->Prop
def xy(X:Cx)(a:List (Addr×Obj))(Y:St)(h:Expr)(R:It->Hp->Prop)(c:Value)(e:Shared):Prop:=
 ∃(it:Addr) (f:List Addr) (g:Nat->Heap->Prop) (J:It) (d:Hp),c=.ref it/\Inv X a Y d e/\fj X.prog X.w X.K h J f it g/\g 0 e.heap/\(∀b∈f,gC X a d b)/\R J d
def PI(X:Cx)(b iter:Expr)(c:TI):Prop:=
 ∀(a:List (Addr×Obj)) (s:Shared) (Y:St) (H:Hp) (R:It->Hp->Prop),Inv X a Y H s->c Y H R->
  wpAny (model X.prog X.w) X.A (eval iter X.env) (fun v d=>wpAny (model X.prog X.w) X.A (pyIter v) (xy X a Y b R) X.xe d) X.xe s
theorem tO(e:s.heap.get? it=some o)(c:o.cls=.type n)(hd:o.data=.fields vs)
    (d:["enumerate","zip","dict_itemiterator","dict_reverseitemiterator","odict_iterator","itertools.zip_longest","itertools.pairwise"].contains n=false) (a:Q () s):wpAny M A (letOwnedTupleGo b (.ref it) u) Q E s:=by
  unfold letOwnedTupleGo;cases b<;>first
    |exact aR a
    | (cases u<;>first
        |exact aR a
        | (refine ae (wpAny_load e ?_)
           rw[c,hd];show wpAny M A (if (["enumerate","zip","dict_itemiterator","dict_reverseitemiterator","odict_iterator","itertools.zip_longest","itertools.pairwise"].contains n&&vs[0]?==some (rawInt _))=true then _ else _) Q E s;rw[if_neg (by intro h;rw[d,Bool.false_and]at h;cases h)];exact aR a))
noncomputable def tP(K:Frag)(a:Addr):It:=
 ⟨fun i H=>∃b x,cE K H a b/\b[i]? = some x,fun i H x c=>c = H/\∀b,cE K H a b->b[i]? = some x,fun i H=>∃b,cE K H a b/\b.length<=i⟩
noncomputable def qd(K:Frag)(a:Addr):It:=
 ⟨fun i H=>∃b x,cZ K H a b/\b[i]? = some x,fun i H x c=>c = H/\∀b,cZ K H a b->b[i]? = some x,fun i H=>∃b,cZ K H a b/\b.length<=i⟩
noncomputable def qe(lo:Int)(n:Nat):It:=⟨fun i _=>i<n,fun i H x a=>a = H/\x=.int (lo+i),fun i _=>n<=i⟩
theorem Hu{K}(a it):fj P w K tg (tP K a) [it] it (fun i h=>h.IsListIter it a i) where
 mem:=by simp
 obj:=fun i h st b hb=>by
  have e:b=it:=by simpa using hb
  subst e;obtain⟨o,e,c,d⟩:=st;exact⟨o,e,fun v z=>by rw[d]at z;cases z⟩
 keep:=fun i h h' st k=>st.at fun o e=>k it (by simp) o e
 item:=by intro X hP hw hK hc i pins s Y H E I hf st hg;subst hP hw hK;obtain⟨xs,x,hq,hx⟩:=hg;obtain⟨its,rv,p,hz⟩:=I.list hq;obtain⟨u,hu,ru⟩:=rv.get hx;obtain⟨f0,f1,f2,f3,f4,f5⟩:=hf it (by simp);refine wpAny_pyNext_list_item st p.isList (x:=u) (by simpa using hu) fun h' st' sb=>?_;have I1:Inv X pins Y H { s with heap:=h' }:=I.turned (t':=s.toks) (fun b o hb e=>(sb.2 b hb).trans e) f0 f1 f3 f4 f5;obtain⟨o,e,c,d⟩:=id st';exact⟨u,rfl,tO (s:={ s with heap:=h' }) e c d (by decide) ⟨x,H,I1,ru,⟨rfl,fun ys hy=>by rw[I.list_inj hy hq];exact hx⟩,st',fun b hb=>(hf b hb).1⟩⟩
 done:=by intro X hP hw hK hc i pins s Y H E I hf st hg;subst hP hw hK;obtain⟨xs,hq,hx⟩:=hg;obtain⟨its,rv,p,hz⟩:=I.list hq;obtain⟨f0,f1,f2,f3,f4,f5⟩:=hf it (by simp);have hl:=rv.length;exact wpAny_pyNext_list_end (I.ok.hd hc) st p.isList (by simp;lia) fun h' eb=>⟨rfl,I.turned (t':=s.toks) (fun b o hb e=>eb b o hb e) f0 f1 f3 f4 f5⟩
 self:=fun _ _ _ _ _ st h=>wpAny_pyIter_listiter st h
theorem Hv{K}(a it):fj P w K tg (qd K a) [it] it (fun i h=>h.IsTupleIter it a i) where
 mem:=by simp
 obj:=fun i h st b hb=>by
  have e:b=it:=by simpa using hb
  subst e;obtain⟨o,e,c,d⟩:=st;exact⟨o,e,fun v z=>by rw[d]at z;cases z⟩
 keep:=fun i h h' st k=>st.at fun o e=>k it (by simp) o e
 item:=by intro X hP hw hK hc i pins s Y H E I hf st hg;subst hP hw hK;obtain⟨xs,x,hq,hx⟩:=hg;obtain⟨its,rv,p,hz⟩:=I.tuple hq;obtain⟨u,hu,ru⟩:=rv.get hx;obtain⟨f0,f1,f2,f3,f4,f5⟩:=hf it (by simp);refine wpAny_pyNext_tuple_item st (show s.heap.IsTuple a its.toArray from p) (x:=u) (by simpa using hu) fun h' st' sb=>?_;have I1:Inv X pins Y H { s with heap:=h' }:=I.turned (t':=s.toks) (fun b o hb e=>(sb.2 b hb).trans e) f0 f1 f3 f4 f5;obtain⟨o,e,c,d⟩:=id st';exact⟨u,rfl,tO (s:={ s with heap:=h' }) e c d (by decide) ⟨x,H,I1,ru,⟨rfl,fun ys hy=>by rw[I.tuple_inj hy hq];exact hx⟩,st',fun b hb=>(hf b hb).1⟩⟩
 done:=by intro X hP hw hK hc i pins s Y H E I hf st hg;subst hP hw hK;obtain⟨xs,hq,hx⟩:=hg;obtain⟨its,rv,p,hz⟩:=I.tuple hq;obtain⟨f0,f1,f2,f3,f4,f5⟩:=hf it (by simp);have hl:=rv.length;exact wpAny_pyNext_tuple_end (I.ok.hd hc) st (show s.heap.IsTuple a its.toArray from p) (by simp;lia) fun h' eb=>⟨rfl,I.turned (t':=s.toks) (fun b o hb e=>eb b o hb e) f0 f1 f3 f4 f5⟩
 self:=fun _ _ _ _ _ st h=>wpAny_pyIter_tupleiter st h
theorem Hw{K}(it lo n):fj P w K tg (qe lo n) [it] it (fun i h=>IsRangeIter h it (lo+(i:Nat) * 1) ((n:Int) - (i:Nat)) 1) where
 mem:=by simp
 obj:=fun i h st b hb=>by
  have e:b=it:=by simpa using hb
  subst e;exact⟨_,st,fun v z=>by
   have z':Data.fields _=Data.cell v:=z;cases z'⟩
 keep:=fun i h h' st k=>k it (by simp) _ st
 item:=by intro X hP hw hK hc i pins s Y H E I hf st hg;subst hP hw hK;obtain⟨f0,f1,f2,f3,f4,f5⟩:=hf it (by simp);have W:=Walks.range (prog:=X.prog) (w:=X.w) (I.ok.hd hc) it lo 1 n;refine W.item i s _ _ hg st fun v h' tk hv st' kk=>?_;obtain⟨t,rfl⟩:=hv;have I1:Inv X pins Y H { s with heap:=h',toks:=tk }:=I.turned (fun b o hb e=>kk b o (by simpa using hb) e) f0 f1 f3 f4 f5;refine⟨_,rfl,tO (s:={ s with heap:=h',toks:=tk }) (n:="range_iterator") st' rfl rfl (by decide) ⟨.int (lo+i),H,I1,⟨t,?_⟩,⟨rfl,rfl⟩,st',fun b hb=>(hf b hb).1⟩⟩;rw[Int.mul_one]
 done:=by intro X hP hw hK hc i pins s Y H E I hf st hg;subst hP hw hK;obtain⟨f0,f1,f2,f3,f4,f5⟩:=hf it (by simp);exact wpAny_pyNext_range_end (I.ok.hd hc) st (by have:n<=i:=hg;lia) fun h' eb=>⟨rfl,I.turned (t':=s.toks) (fun b o hb e=>eb b o hb e) f0 f1 f3 f4 f5⟩
 self:=fun _ _ _ _ _ st h=>wpAny_pyIter_rangeiter st h
def Hx(K:Frag)(c:TE):TI:=fun Y H R=>c Y H fun x b=>∃a,x=.ref a/\(∃d,cE K b a d)/\R (tP K a) b
def Hy(K:Frag)(c:TE):TI:=fun Y H R=>c Y H fun x b=>∃a,x=.ref a/\(∃d,cZ K b a d)/\R (qd K a) b
theorem Hz(i:PE X l g):PI X B l (Hx X.K g):=by
 intro c s Y H R I h;refine aN (i c s Y H _ I h) fun v f d=>?_;obtain⟨x,j,I1,k,m⟩:=d;obtain⟨a,e,⟨u,n⟩,q⟩:=m;subst e;cases k;obtain⟨r,w,p,y⟩:=I1.list n;refine wpAny_pyIter_list p.isList ?_;refine⟨f.heap.objs.size,[f.heap.objs.size],_,_,j,rfl,I1.kept (t':=f.toks) fun b o e=>aS _ e,Hu a _,⟨_,Heap.get?_push_size _ rfl,rfl,rfl⟩,fun b t=>?_,q⟩;have e:b=f.heap.objs.size:=by simpa using t
 subst e;exact I1.fpOk (bb _) (I1.hok.fresh (bb _))
theorem xz(j:PE X l i):PI X B l (Hy X.K i):=by
 intro c s Y H R I h;refine aN (j c s Y H _ I h) fun v d f=>?_;obtain⟨x,k,I1,m,n⟩:=f;obtain⟨a,e,⟨u,r⟩,q⟩:=n;subst e;cases m;obtain⟨g,w,p,y⟩:=I1.tuple r;refine wpAny_pyIter_tuple (show d.heap.IsTuple a g.toArray from p) ?_;refine⟨d.heap.objs.size,[d.heap.objs.size],_,_,k,rfl,I1.kept (t':=d.toks) fun b o e=>aS _ e,Hv a _,⟨_,Heap.get?_push_size _ rfl,rfl,rfl⟩,fun b t=>?_,q⟩;have e:b=d.heap.objs.size:=by simpa using t
 subst e;exact I1.fpOk (bb _) (I1.hok.fresh (bb _))
theorem HA{Y:St}{lo }(I:Inv X c Y H s)(i:-(2 ^ 62)<=lo)(j:lo<2 ^ 62)(k:-(2 ^ 62)<=a)(f:a<2 ^ 62)
  (q:R (qe lo (a - lo).toNat) H):wpAny (model X.prog X.w) X.A (pyIter (.ref s.heap.objs.size)) (xy X c Y B R) E { s with heap:=s.heap.push { cls:=.type "range",data:=.fields #[.int lo t,.int a u,.int 1 v] },toks:=d }:=by
 refine wpAny_pyIter_range (IsRange.new ..) (small_one i j k f) ?_;have I1:Inv X c Y H { s with heap:=s.heap.push { cls:=.type "range",data:=.fields #[.int lo t,.int a u,.int 1 v] },toks:=d }:=I.kept fun b o e=>aS _ e;refine⟨(s.heap.push { cls:=.type "range",data:=.fields #[.int lo t,.int a u,.int 1 v] }).objs.size,[(s.heap.push { cls:=.type "range",data:=.fields #[.int lo t,.int a u,.int 1 v] }).objs.size],_,_,H,rfl,
  I1.kept (t':=d) fun b o e=>aS _ e,Hw _ lo (a - lo).toNat,?_,fun b l=>?_,q⟩
 .have g:lo+((0:Nat):Int) * 1=lo:=by simp
  have h:(((a - lo).toNat:Nat):Int) - ((0:Nat):Int)=Builtin.Range.rangeSize lo a 1:=by rw[rangeSize_one];split<;>lia
  show IsRangeIter _ _ (lo+((0:Nat):Int) * 1) ((((a - lo).toNat:Nat):Int) - ((0:Nat):Int)) 1;rw[g,h];exact Heap.get?_push_size _ rfl
 .have e:b=(s.heap.push { cls:=.type "range",data:=.fields #[.int lo t,.int a u,.int 1 v] }).objs.size:=by simpa using l
  subst e;exact I1.fpOk (bb _) (I1.hok.fresh (bb _))
def HB(a:TA):TI:=fun Y H R=>a Y H fun vs b=>∃j:Int,vs=[.int j]/\-(2 ^ 62)<=j/\j<2 ^ 62/\R (qe 0 j.toNat) b
theorem HD(g:Gl X "range")(i:X.mg "range" = none)(k:PA X [a] f)(l:autoParam (starEach [a] X.env=[(false,eval a X.env)]) Zq._auto_1):PI X B (.Call (.Name "range" p) [a] [] pos) (HB f):=by
 intro b s Y H R I h;refine Call_ (iw I g i boot_range (PyProof.Rows.callWith_type1 (aN (k pos b s Y H _ I h) fun u v c=>?_) l rfl));obtain⟨vs,w,I1,m,d⟩:=c;obtain⟨j,e,d,n,q⟩:=d;subst e;cases m with
 |cons r o=>cases o;obtain⟨t,rfl⟩:=r;exact call_range_1 (HA I1 (by lia) (by lia) d n (by simpa using q))
def HE(d:TI)(g:TG)(e:TS):TS:=fun D Y H=>d Y H fun J f=>∃W:Nat->Nat->St->Hp->Prop,(∃m,W 0 m Y f)/\∀i m Y H,W i m Y H->
 (J.stop i H/\D.nx Y H)\/(J.go i H/\∃N:St->Hp->Prop,(∀b a,N b a->∃c,c<m/\W (i+1) c b a)/\∀x a,J.yld i H x a->g x Y a fun h j=>e { D with nx:=N,ct:=N,bk:=D.nx } h j)
noncomputable def nQ(a:List Addr)(h:Heap):List (Addr×Obj):=a.filterMap fun b=>(h.get? b).map fun o=>(b,o)
theorem qf(c:b∈a)(e:h.get? b=some o):(b,o)∈nQ a h:=List.mem_filterMap.mpr ⟨b,c,by rw[e];rfl⟩
theorem HF(c:p∈nQ a h):p.1∈a/\h.get? p.1=some p.2:=by
 obtain⟨b,hb,e⟩:=List.mem_filterMap.mp c;cases q:h.get? b with
 |none=>rw[q]at e;cases e
 |some o=>rw[q]at e;have d:(b,o)=p:=Option.some.inj e;subst d;exact⟨hb,q⟩
theorem Inv.pinned{Y:St}(I:Inv X a Y H s)(h:∀b∈c,gC X a H b)(k:∀b∈c,∃o,s.heap.get? b=some o/\∀v,o.data≠.cell v):Inv X (a++nQ c s.heap) Y H s:=
 I.pins_of fun p i=>(List.mem_append.mp i).elim (fun z=>I.pin p (bu _ z)) fun z=>by obtain⟨g,e⟩:=HF z;obtain⟨j,f1,f2,_⟩:=h p.1 g;obtain⟨o,f,d⟩:=k p.1 g;rw[e]at f;cases f;exact⟨e,j,f1,f2,d⟩
theorem Inv.unpinned{Y:St}(I:Inv X (a++c) Y H s):Inv X a Y H s:=I.pins_of fun p b=>I.pin p (bu _ (bC _ b))
theorem HG(z:PassesOwn (model X.prog X.w) X.A X.env X.xe)(hc:X.calm=true)(hi:PI X B iter wi)(hg:PG X B g)(p:PSs X body tb)
  (hs:autoParam (∀x,foldedSetIterable iter X.env x=pure x) Zs._auto_1):PS X (.For B iter body [] pos) (HE wi g tb):=by
 intro a s Y H D I h;refine wpAny_For (aN (hi a s Y H _ I h) fun v s1 h1=>aN h1 fun a3 s2 h2=>?_) hs;obtain⟨it,C,tn,J,H2,e,I2,T,a0,f2,W,⟨m0,w0⟩,turn⟩:=h2;subst e;have c:∀{q:Hp},(∀b∈C,q b=none)->∀b∈C,gC X a q b:=fun hn b p=>⟨hn b p,(f2 b p).2⟩
 refine codeAny_forLoop_any (fun n s'=>∃i E q,Inv X a E q s'/\tn i s'.heap/\(∀b∈C,q b=none)/\W i n E q) ?_ m0 ⟨0,Y,H2,I2,a0,fun b p=>(f2 b p).1,w0⟩;rintro n s3 ⟨i,G,Z,I3,L,M,w3⟩;rcases turn i n G Z w3 with⟨stop,qn⟩ |⟨go,N,hN,step⟩
 .refine wpAny_passesOwn z (aN (T.done X rfl rfl rfl hc i a s3 G Z X.xe I3 (c M) L stop) fun r s4 O=>?_);obtain⟨hr,I4⟩:=O;subst hr;exact wpAny_execs_nil ⟨G,Z,I4,qn⟩
 .refine wpAny_passesOwn z (aN (T.item X rfl rfl rfl hc i a s3 G Z X.xe I3 (c M) L go) fun r s4 Q=>?_);obtain⟨u,hr,h4⟩:=Q;subst hr;refine wpAny_passesOwn z (aN h4 fun _ s5 R=>?_);obtain⟨x,H5,I5,r5,y5,y,a1⟩:=R;have a2:=I5.pinned (c a1) (T.obj _ _ y);refine wpAny_passesOwn z (aN (hg _ s5 G H5 x u _ a2 r5 (step x H5 y5)) fun _ s6 S=>?_);obtain⟨Y6,H6,I6,q6⟩:=S;refine wpAny_passesOwn z (aN (p _ s6 Y6 H6 _ I6 q6) fun f s7 t=>?_);have again:∀{j:St}{k:Hp},Inv X (a++nQ C s5.heap) j k s7->N j k->∃m,m<n/\∃i E q,Inv X a E q s7/\tn i s7.heap/\(∀b∈C,q b=none)/\W i m E q:=fun {j k} l U=>by obtain⟨m',hm,w7⟩:=hN j k U;refine⟨m',hm,i+1,j,k,l.unpinned,T.keep _ _ _ y fun b p o e=>(l.pin (b,o) (bu _ (bu _ (qf p e)))).1,fun b p=>?_,w7⟩;obtain⟨o,e,d⟩:=T.obj _ _ y b p;exact(l.pin (b,o) (bu _ (bu _ (qf p e)))).2.1
  cases f with
  |next=>obtain⟨j,k,l,U⟩:=t;exact again l U
  |cont=>obtain⟨j,k,l,U⟩:=t;exact again l U
  |brk=>obtain⟨j,k,l,t⟩:=t;exact⟨j,k,l.unpinned,t⟩
  |ret v=>obtain⟨x7,j,k,l,r7,t⟩:=t;exact⟨x7,j,k,l.unpinned,r7,t⟩
abbrev R2:=V->V->Hp->VK->Prop
def cx(X:Cx)(f:Value->Value->Sem Value)(r:R2):Prop:=
 ∀(a:List (Addr×Obj)) (s:Shared) (Y:St) (H:Hp) (x y:V) (v u:Value) (Q:VK),Inv X a Y H s->bf x v->bf y u->r x y H Q->
  wpAny (model X.prog X.w) X.A (f v u) (EP X a Y Q) X.xe s
def tQ(X:Cx)(f:Value->Sem Value)(r:V->Hp->VK->Prop):Prop:=
 ∀(a:List (Addr×Obj)) (s:Shared) (Y:St) (H:Hp) (x:V) (v:Value) (Q:VK),Inv X a Y H s->bf x v->r x H Q->
  wpAny (model X.prog X.w) X.A (f v) (EP X a Y Q) X.xe s
def gr(X:Cx)(f:Value)(r:List V->Hp->VK->Prop):Prop:=
 ∀(a:List (Addr×Obj)) (s:Shared) (Y:St) (H:Hp) (b:List V) (c:List Value) (Q:VK),Inv X a Y H s->bi b c->r b H Q->
  wpAny (model X.prog X.w) X.A (call f c) (EP X a Y Q) X.xe s
def nR(r:R2)(a b:TE):TE:=fun Y H Q=>a Y H fun x c=>b Y c fun y d=>r x y d Q
def HI(r:V->Hp->VK->Prop)(a:TE):TE:=fun Y H Q=>a Y H fun x b=>r x b Q
def rI(C:Int->Int->Prop)(g:Int->Int->V):R2:=fun x y H Q=>∃i j,x=.int i/\y=.int j/\C i j/\Q (g i j) H
def ix(g:Int->Int->V):R2:=fun x y H Q=>∃i j,x=.int i/\y=.int j/\Q (g i j) H
def rU(g:Int->V):V->Hp->VK->Prop:=fun x H Q=>∃i,x=.int i/\Q (g i) H
theorem tR(j:PE X a D)(C:PE X b z){Y:St}{R:V->V->Hp->Prop}(I:Inv X d Y H s)
  (h:D Y H fun x i=>z Y i fun y e=>R x y e) {f:Value->Value->Sem Value}
  (k:∀v u g x y e,Inv X d Y e g->bf x v->bf y u->R x y e->wpAny (model X.prog X.w) X.A (f v u) Q X.xe g) :
  wpAny (model X.prog X.w) X.A (eval a X.env) (fun v l=>wpAny (model X.prog X.w) X.A (eval b X.env) (fun u m=>wpAny (model X.prog X.w) X.A (f v u) Q X.xe m) X.xe l) X.xe s:=by
 refine aN (j d s Y H _ I h) fun v n ⟨x,i,I1,o,q⟩=>?_;refine aN (C d n Y i _ I1 q) fun u g ⟨y,e,r,t,B⟩=>?_;exact k v u g x y e r o t B
theorem HJ(l:cx X (binaryOp op) r)(e:PE X a D)(m:PE X b z):PE X (.BinOp a op b pos) (nR r D z):=by intro d s Y H Q I h;exact wpAny_BinOp (tR e m I h fun v u f x y g i j k q=>l d f Y g x y v u Q i j k q)
theorem HK(l:tQ X (unaryOp op) r)(f:PE X a D):PE X (.UnaryOp op a pos) (HI r D):=by intro d s Y H Q I h;exact UnaryOp_ (aN (f d s Y H _ I h) fun v g e=>by obtain⟨x,i,I1,j,k⟩:=e;exact l d g Y i x v Q I1 j k)
theorem qg{g:Int->Int->Int}
  (rule:∀i j  t u  s  Q  E,C i j->Q (.int (g i j) s.toks) { s with toks:=s.toks+1 }->wpAny (model X.prog X.w) X.A (f (.int i t) (.int j u)) Q E s) :
  cx X f (rI C fun i j=>.int (g i j)):=by
 intro d s Y H x y v u Q I e k h;obtain⟨i,j,rfl,rfl,l,q⟩:=h;obtain⟨t,rfl⟩:=e;obtain⟨t',rfl⟩:=k;exact rule i j t t' s _ _ l ⟨.int (g i j),H,I.tok _,⟨_,rfl⟩,q⟩
theorem xA{g:Int->Int->Int}
  (rule:∀i j  t u  s  Q  E,Q (.int (g i j) s.toks) { s with toks:=s.toks+1 }->wpAny (model X.prog X.w) X.A (f (.int i t) (.int j u)) Q E s) :
  cx X f (ix fun i j=>.int (g i j)):=by
 intro d s Y H x y v u Q I e k h;obtain⟨i,j,rfl,rfl,q⟩:=h;obtain⟨t,rfl⟩:=e;obtain⟨t',rfl⟩:=k;exact rule i j t t' s _ _ ⟨.int (g i j),H,I.tok _,⟨_,rfl⟩,q⟩
theorem tS{g:Int->Int->Bool}
  (rule:∀i j  t u  s  Q  E,Q (.bool (g i j)) s->wpAny (model X.prog X.w) X.A (f (.int i t) (.int j u)) Q E s) :
  cx X f (ix fun i j=>.bl (g i j)):=by
 intro d s Y H x y v u Q I e k h;obtain⟨i,j,rfl,rfl,q⟩:=h;obtain⟨t,rfl⟩:=e;obtain⟨t',rfl⟩:=k;exact rule i j t t' s _ _ ⟨.bl (g i j),H,I,rfl,q⟩
def tT(i j:Int):Prop:=0<j/\j<1073741824
def tU(i j:Int):Prop:=0<=j/\j<=1000000/\i.natAbs<2 ^ 64
def nU(i j:Int):Prop:=(-(2 ^ 64)<i/\i<2 ^ 64)\/(-(2 ^ 64)<j/\j<2 ^ 64)
theorem nU.ok(h:nU i j):IntMulOk i j:=by
 rcases h with⟨h1,h2⟩ |⟨h1,h2⟩
 .exact .of_left (intBits_le_64 h1 h2)
 .exact .of_right (intBits_le_64 h1 h2)
theorem HL:cx X (binaryOp .Add) (ix fun i j=>.int (i+j)):=xA fun _ _ _ _ _ _ _ q=>add_int q
theorem HM:cx X (binaryOp .Sub) (ix fun i j=>.int (i - j)):=xA fun _ _ _ _ _ _ _ q=>sub_int q
theorem HN:cx X (binaryOp .Mult) (rI nU fun i j=>.int (i * j)):=qg fun _ _ _ _ _ _ _ d q=>mul_int q d.ok
theorem HP:cx X (binaryOp .FloorDiv) (rI tT fun i j=>.int (i / j)):=qg fun i j _ _ _ _ _ d q=>by have h1:(0:Int)<j:=d.1;have h2:j<1073741824:=d.2;exact floordiv_int (by lia) (by rw[Int.fdiv_eq_ediv_of_nonneg i (by lia)];exact q) (.inl (PyProof.noPylong_small (by lia)))
theorem HQ:cx X (binaryOp .Mod) (rI (fun _ j=>0<j) fun i j=>.int (i % j)):=qg fun i j _ _ _ _ _ d q=>by have h1:(0:Int)<j:=d;exact mod_int' (by lia) (by rw[Int.fmod_eq_emod_of_nonneg i (by lia)];exact q)
theorem HS:cx X (binaryOp .Pow) (rI tU fun i j=>.int (i ^ j.toNat)):=qg fun _ _ _ _ _ _ _ d q=>pow_int_small d.1 d.2.1 d.2.2 q
theorem HU{g:Int->Int}
  (rule:∀i  t  s  Q  E,Q (.int (g i) s.toks) { s with toks:=s.toks+1 }->wpAny (model X.prog X.w) X.A (f (.int i t)) Q E s) :
  tQ X f (rU fun i=>.int (g i)):=by
 intro d s Y H x v Q I e h;obtain⟨i,rfl,q⟩:=h;obtain⟨t,rfl⟩:=e;exact rule i t s _ _ ⟨.int (g i),H,I.tok _,⟨_,rfl⟩,q⟩
theorem HV:tQ X (unaryOp .USub) (rU fun i=>.int (-i)):=HU fun _ _ _ _ _ q=>neg_int q
theorem xB{Y:St}(I:Inv X d Y H s)(q:Q (.bl k) H)(e:k=f):EP X d Y Q (.bool f) s:=by subst e;exact⟨.bl k,H,I,rfl,q⟩
theorem xD:cx X (compareOp .Lt) (ix fun i j=>.bl (decide (i<j))):=tS fun _ _ _ _ _ _ _ q=>lt_int q
theorem qh:cx X (compareOp .LtE) (ix fun i j=>.bl (decide (i<=j))):=tS fun _ _ _ _ _ _ _ q=>le_int q
theorem xE:cx X (compareOp .Gt) (ix fun i j=>.bl (decide (j<i))):=tS fun _ _ _ _ _ _ _ q=>gt_int q
theorem xF:cx X (compareOp .Is) (fun x y H Q=>y=.non/\Q (.bl (decide (x=.non))) H):=by
 intro d s Y H x y v u Q I e f h;obtain⟨rfl,q⟩:=h;cases f;refine is_none_gen (xB I q ?_);cases x<;>first
  |(cases e;rfl)
  |(obtain⟨t,rfl⟩:=e;rfl)
theorem xG:cx X (compareOp .IsNot) (fun x y H Q=>y=.non/\Q (.bl (!decide (x=.non))) H):=by
 intro d s Y H x y v u Q I e f h;obtain⟨rfl,q⟩:=h;cases f;refine isnot_none_gen (xB I q ?_);cases x<;>first
  |(cases e;rfl)
  |(obtain⟨t,rfl⟩:=e;rfl)
theorem bz(b)(h:autoParam (op≠.In) Zr._auto_1)(f:autoParam (op≠.NotIn) Zr._auto_1):behindInMarks op b=false:=by
 have d:(op==CmpOp.In)=false:=by cases op<;>first |rfl |exact absurd rfl h
 have e:(op==CmpOp.NotIn)=false:=by cases op<;>first |rfl |exact absurd rfl f
 cases b<;>simp[behindInMarks,d,e]
theorem HW(o:cx X (compareOp op) r)(e:PE X a A)(p:PE X b n)(f:behindInMarks op b=false):PE X (.Compare a [op] [b] pos) (nR r A n):=by intro d s Y H Q I h;exact wpAny_Compare1 (tR e p I h fun v u g x y i j k l q=>o d g Y i x y v u Q j k l q) f
def HX(t:TE):TT:=fun Y H Q=>t Y H fun x d=>∃k,x=.bl k/\Q k d
theorem xH(J:cx X (compareOp op) r)(f:PE X a A)(L:PE X b n)(g:behindInMarks op b=false):PT X (.Compare a [op] [b] pos) (HX (nR r A n)):=by
 intro d s Y H Q I h;refine wpAny_isTrue_Compare1 (aN (f d s Y H _ I h) fun v i ⟨x,j,I1,l,o⟩=>aN (L d i Y j _ I1 o) fun u p ⟨y,q,t,w,B⟩=>
  aN (J d p Y q x y v u _ t l w B) fun c M ⟨z,C,D,E,k,e,G⟩=>?_) g
 subst e;cases E;exact wpAny_truthy_bool ⟨C,D,G⟩
def HY(r e:R2)(A n m:TE):TE:=fun Y H Q=>A Y H fun x f=>n Y f fun y g=>r x y g fun z d=>∃k,z=.bl k/\
 (if k=true then m Y d fun h i=>e y h i Q else Q (.bl false) d)
theorem HZ(ho:cx X (compareOp op) r)(i:cx X (compareOp g) j)(t:PE X a A)(hb:PE X b n)(w:PE X c m)
  (B:lastMarks [op,g] [b,c]=false:=by with_unfolding_all rfl):PE X (.Compare a [op,g] [b,c] pos) (HY r j A n m):=by
 intro f s Y H Q I h;refine Compare_chain (aN (t f s Y H _ I h) fun v C ⟨x,D,I1,E,G⟩=>chain_link (aN (hb f C Y D _ I1 G) fun u J ⟨y,L,M,l,N⟩=>
  aN (ho f J Y L x y v u _ M E l N) fun d O ⟨z,o,p,R,k,e,q⟩=>?_)) B
 subst e;cases R;refine wpAny_truthy_bool ?_;cases k with
 |false=>exact ite_ff ⟨.bl false,o,p,rfl,q⟩
 |true=>exact ite_tt (chain_last (aN (w f O Y o _ p q) fun S T ⟨z',U,Z,r4,q4⟩=>i f T Y U y z' u S Q Z l r4 q4))
theorem eg:(sizeLine:Nat)<2 ^ 63:=by rw[sizeLine_eq];decide
theorem vals1(r:bi [x] d):∃u,d=[u]/\bf x u:=by
 cases r with
 |cons e f=>cases f;exact⟨_,rfl,e⟩
theorem vals2(r:bi [x,y] d):∃u e,d=[u,e]/\bf x u/\bf y e:=by
 cases r with
 |cons f g=>
  cases g with
  |cons h i=>cases i;exact⟨_,_,rfl,f,h⟩
theorem tV(g:X.calm=true):gr X (.builtin "max") (fun e H Q=>∃i j,e=[.int i,.int j]/\Q (.int (if j>i then j else i)) H):=by
 intro f s Y H e l Q I r h;obtain⟨i,j,rfl,q⟩:=h;obtain⟨u,o,rfl,⟨t,rfl⟩,⟨t',rfl⟩⟩:=vals2 r;refine max_two_ints (I.ok.hd g) fun p v k=>⟨_,H,I.kept k,?_,q⟩
 by_cases d:j>i
 .rw[if_pos d,if_pos d];exact⟨_,rfl⟩
 .rw[if_neg d,if_neg d];exact⟨_,rfl⟩
structure fk (h:Heap) (x dx C:Addr) (mA:Str->Option Value):Prop where
 obj:h.get? x=some (instObj C dx)
 ns:h.Ns1 dx mA
 ne:dx≠x
theorem Ia{h:Heap}(n:h.Ns1 c d):∃f,h.get? c=some f/\∀name,PySem.W.lookIn name f=some (d name):=by
 obtain⟨o,g,m,ho,hd,i,_,j⟩:=n;refine⟨o,ho,fun name=>?_⟩;have e:=j name;unfold nsFind findBy at e;rw[<-Array.find?_toList]at e;unfold PySem.W.lookIn;rw[hd];dsimp only;split
 .rename_i y q;rw[q]at e;exact congrArg some e
 .rename_i q;rw[q]at e;have a:g.toList.any (·.refKey)=false:=by rw[List.any_eq_false];intro y k;obtain⟨z,t,b⟩:=i y (Array.mem_toList_iff.mp k);simp[DictEntry.refKey,b]
  have l:¬ g.toList.any (·.refKey)=true:=by rw[a];exact Bool.false_ne_true
  rw[if_neg l];exact congrArg some e
theorem fk.look(I:fk h x b C c):∃a,PySem.W.InstAt h x (instObj C b) C (some a)/\∀name,PySem.W.lookIn name a=some (c name):=
 let⟨a,ho,d⟩:=Ia I.ns
 ⟨a,⟨I.obj,rfl,rfl,ho⟩,d⟩
theorem Ib{K:Frag}(X:K.In s.heap)(I:fk s.heap x q C l)(b:plainGet K C name=true)(g:PySem.W.hasDictIn K C=true)
  (c:findIn K (.ref C) name=some none) (d:l name=some v) (a:PySem.W.handedIn v=true) (h:Q v { s with toks:=s.toks+1 }) :
  wpAny (model prog w) A (getAttr (.ref x) name expr) Q E s:=by
 obtain⟨i,J,e⟩:=I.look;exact PySem.W.get_value X J (PySem.W.plainGet_of b).1 (PySem.W.findObj_own g c rfl (by rw[e,d])) a h
theorem Ie{K:Frag}(X:K.In s.heap)(I:fk s.heap x q C l)(a:plainGet K C name=true)
  (b:findIn K (.ref C) name=some (some (.ref f))) (c:PySem.W.isFn K (.ref f)=true) (d:l name=none) (h:Q (.ref f,[.ref x]) s) :
  wpAny (model prog w) A (getMethod (.ref x) name i) Q E s:=by
 obtain⟨e,J,g⟩:=I.look;exact PySem.W.method_fn X J (PySem.W.plainGet_of a).1 (PySem.W.plainGet_of a).2 b (beq_iff_eq.mp c) (by show(PySem.W.lookIn name e).map (·.isSome)=some false;rw[g,d];rfl) h
theorem Ig{K:Frag}(X:K.In s.heap)(I:fk s.heap x q C l)
  (n:findIn K (.ref C) "__setattr__" = some (some (.builtin "object.__setattr__"))) (o:PySem.W.plainOver K C=true) (p:PySem.W.takerIn K C name=some none) (H:PySem.W.hasDictIn K C=true)
  (t:PySem.Within l m) (u:m.length<=sizeLine)
  (h:∀e,fk e x q C (fun y=>if y=name then some v else l y)->Heap.SameBut q s.heap e->Q () { s with heap:=e,toks:=s.toks+2 }) :
  wpAny (model prog w) A (setAttr (.ref x) name v) Q E s:=by
 obtain⟨L,J,M⟩:=I.look;refine PySem.W.set_plain X J n (PySem.W.osa_open (s:={ s with toks:=s.toks+1 }) (r:=none) X J o p fun b=>?_);obtain⟨N,z,g⟩:=PySem.W.any_some H;have B:s.heap.get? x=some ⟨.ref C,some q,.plain,#[]⟩:=I.obj;refine ae (aR (ae (ae (wpAny_loadPart B (ae (PySem.W.Looks.here (s:={ s with toks:=s.toks+1 }) (PySem.W.looks_clsIn X z) ?_))))));rw[g];refine aR (a:=some q) (ae (aR (ae ?_)));refine wpAny_nsSet1 (s:={ s with toks:=s.toks+1 }) I.ns fun e c d=>?_;obtain⟨O,D,G,i,j,k⟩:=c.count (PySem.Within.cons name v t);refine ae (wpAny_lookBehind i (by rw[j];exact pastItsLine_dict (Nat.le_trans k (by rw[List.length_cons];lia))) ?_);exact aR (h _ ⟨(d.2 _ (Ne.symm I.ne)).trans I.obj,c,I.ne⟩ d)
theorem Ih{s:Shared}{K:Frag}(X:K.In s.heap)(b:PySem.W.makesIn K C=true)
  (c:findIn K (.ref C) "__init__" = some (some (.ref f))) (e:PySem.W.typeIn K (.ref f)=some (.type "function"))
  (h:codeAny (model prog w) (A.under (.builtin "type.__call__" ⟨.ref C::vs,a⟩)) (.call (.ref f) ⟨.ref (s.heap.objs.size+1)::vs,a⟩) (PySem.W.InitBack (s.heap.objs.size+1) R)
   { s with heap:=(s.heap.push emptyDict).push (instObj C s.heap.objs.size) }) :
  codeAny (model prog w) A (.call (.ref C) ⟨vs,a⟩) R s:=by
 obtain⟨i,g,d,t,os⟩:=s;exact PySem.W.make_core (PySem.W.makes_of X b) (PySem.W.looks_findIn X c) (fun self=>PySem.W.bind_fn X self e) (.inl rfl) h
noncomputable def cF(f:Str)(v:V):List (Str×V)->List (Str×V)
 |[]=>[(f,v)]
 |(g,x)::r=>if g=f then(g,v)::r else(g,x)::cF f v r
theorem xI(f g v):∀fs,(cF f v fs).lookup g=if g=f then some v else fs.lookup g
 |[]=>by
  show List.lookup g [(f,v)]=_
  by_cases h:g=f
  .have hb:(g==f)=true:=beq_iff_eq.mpr h;simp only[List.lookup,hb,if_pos h]
  .have hb:(g==f)=false:=beq_eq_false_iff_ne.mpr h;simp only[List.lookup,hb,if_neg h]
 | (k,x)::r=>by
  have b:=xI f g v r;rw[show cF f v ((k,x)::r)=(if k=f then(k,v)::r else(k,x)::cF f v r) from rfl]
  by_cases a:k=f
  .rw[if_pos a]
   by_cases h:g=k
   .have hb:(g==k)=true:=beq_iff_eq.mpr h;simp only[List.lookup,hb,if_pos (h.trans a)]
   .have hb:(g==k)=false:=beq_eq_false_iff_ne.mpr h;simp only[List.lookup,hb,if_neg (fun e:g=f=>h (e.trans a.symm))]
  .rw[if_neg a]
   by_cases h:g=k
   .have hb:(g==k)=true:=beq_iff_eq.mpr h;simp only[List.lookup,hb,if_neg (fun e:g=f=>a (h.symm.trans e))]
   .have hb:(g==k)=false:=beq_eq_false_iff_ne.mpr h;simp only[List.lookup,hb];exact b
theorem tW(f v):∀fs,f∈(cF f v fs).map (·.1)/\∀g,g∈fs.map (·.1)->g∈(cF f v fs).map (·.1)
 |[]=>⟨by simp[cF],fun g h=>by simp at h⟩
 | (k,x)::r=>by
  obtain⟨b,c⟩:=tW f v r;rw[show cF f v ((k,x)::r)=(if k=f then(k,v)::r else(k,x)::cF f v r) from rfl]
  by_cases a:k=f
  .rw[if_pos a];subst a;exact⟨by simp,fun g h=>by simpa using h⟩
  .rw[if_neg a];refine⟨?_,fun g h=>?_⟩
   .rw[List.map_cons];exact bq _ b
   .rw[List.map_cons]at h ⊢;rcases List.mem_cons.mp h with e |e
    .exact List.mem_cons.mpr (.inl e)
    .exact bq _ (c g e)
theorem xJ(f v):∀fs,(cF f v fs).length<=fs.length+1
 |[]=>by simp[cF]
 | (k,x)::r=>by
  have b:=xJ f v r;rw[show cF f v ((k,x)::r)=(if k=f then(k,v)::r else(k,x)::cF f v r) from rfl]
  by_cases a:k=f
  .rw[if_pos a,List.length_cons,List.length_cons];lia
  .rw[if_neg a,List.length_cons,List.length_cons];lia
theorem gn.some_of(r:gn (some v) o):∃u,o=some u/\bf v u:=by
 cases o with
 |none=>exact(show False from r).elim
 |some u=>exact⟨u,rfl,r⟩
theorem gn.none_of(r:gn none o):o=none:=by
 cases o with
 |none=>rfl
 |some u=>exact(show False from r).elim
theorem Ii(r:bf v u):PySem.W.handedIn u=true:=by
 cases v with
 |non=>cases(show u=Value.none from r);rfl
 |bl b=>cases(show u=Value.bool b from r);rfl
 |int i=>obtain⟨t,e⟩:=(show ∃t,u=Value.int i t from r);cases e;rfl
 |str x=>obtain⟨t,e⟩:=(show ∃t,u=Value.str x t from r);cases e;rfl
 |byt b=>obtain⟨t,e⟩:=(show ∃t,u=Value.bytes b t from r);cases e;rfl
 |flt b=>obtain⟨t,e⟩:=(show ∃t,u=Value.float b t from r);cases e;rfl
 |ref a=>cases(show u=Value.ref a from r);rfl
 |ty n=>cases(show u=Value.type n from r);rfl
theorem qi(c:bG P w H h)(e:H a=some (.ins C I fs)):∃b,fk h a I C b/\(∀f,gn (fs.lookup f) (b f))/\PySem.Within b (fs.map (·.1))/\fs.length<=1000/\H I=some (.own a):=by
 obtain⟨d,z,ne,ob,b,n,r,q⟩:=(show cz P w H h a (.ins C I fs) from c a _ e)
 exact⟨b,⟨ob,n,ne⟩,r,q,z,d⟩
structure cS (K:Frag) (C:Addr):Prop where
 pg:plainGet K C Str.empty=true
 hd:PySem.W.hasDictIn K C=true
 po:PySem.W.plainOver K C=true
 sa:findIn K (.ref C) "__setattr__" = some (some (.builtin "object.__setattr__"))
theorem cS.get{K}(c:cS K C)(f):plainGet K C f=true:=c.pg
def cA(K:Frag)(C:Addr)(f:Str):Prop:=findIn K (.ref C) f=some none
theorem cA.taker{K}(n:cA K C f):PySem.W.takerIn K C f=some none:=by unfold PySem.W.takerIn;rw[show findIn K (.ref C) f=some none from n];rfl
structure gU (K:Frag) (C:Addr) (m:Str) (f:Addr):Prop where
 at_:findIn K (.ref C) m=some (some (.ref f))
 fn:PySem.W.isFn K (.ref f)=true
 kp:keepIn K (.ref f)=true
theorem xK{Y:St}(I:Inv X i Y H s)(e:H a=some (.ins C d fs))(c:cS X.K C)(n:cA X.K C f)(l:fs.lookup f=some v)
  (h:∀u g,Inv X i Y H g->bf v u->Q u g):wpAny (model X.prog X.w) A (getAttr (.ref a) f b) Q E s:=by
 obtain⟨j,O,r,_,_,_⟩:=qi I.hok e;obtain⟨u,k,ru⟩:=gn.some_of (v:=v) (o:=j f) (by rw[<-l];exact r f);exact Ib I.kIn O (c.get f) c.hd n k (Ii ru) (h u _ (I.tok _) ru)
theorem xL{Y:St}(I:Inv X i Y H s)(e:H a=some (.ins C d fs))(c:cS X.K C)(k:gU X.K C m g)(l:fs.lookup m=none)
  (h:Q (.ref g,[.ref a]) s):wpAny (model X.prog X.w) A (getMethod (.ref a) m n) Q E s:=by
 obtain⟨b,O,r,_,_,_⟩:=qi I.hok e;have j:b m=none:=gn.none_of (by rw[<-l];exact r m);exact Ie I.kIn O (c.get m) k.at_ k.fn j h
theorem xM{Y:St}(I:Inv X i Y H s)(e:H a=some (.ins C d fs))(c:cS X.K C)(n:cA X.K C f)(N:fs.length<1000)(t:bf y u)
  (h:∀k,Inv X i Y (aI H a (.ins C d (cF f y fs))) k->Q () k):wpAny (model X.prog X.w) A (setAttr (.ref a) f u) Q E s:=by
 obtain⟨l,O,r,m,_,p⟩:=qi I.hok e;have B:(fs.map (·.1)).length<=sizeLine:=by rw[List.length_map,sizeLine_eq];lia
 refine Ig I.kIn O c.sa c.po n.taker c.hd m B fun D j L=>h _ ?_;have hd:∃o,D.get? d=some o:=let⟨o,_,_,G,_⟩:=j.ns;⟨o,G⟩;refine I.write (x:=a) (e:=d) (by rw[e];exact True.intro) (.inr p) (fun b q M z=>(L.2 b M).trans z) hd ?_;refine⟨by rw[bv O.ne];exact p,?_,O.ne,j.obj,_,j.ns,fun g=>?_,fun g J=>?_⟩
 .have:=xJ f y fs;lia
 .show gn ((cF f y fs).lookup g) (if g=f then some u else l g);rw[xI]
  by_cases q:g=f
  .rw[if_pos q,if_pos q];exact t
  .rw[if_neg q,if_neg q];exact r g
 .by_cases q:g=f
  .rw[q];exact(tW f y fs).1
  .refine(tW f y fs).2 g (m g fun z=>J ?_);show(if g=f then some u else l g)=none;rw[if_neg q];exact z
theorem Inv.made{Y:St}(I:Inv X i Y H s):Inv X i Y (aI (aI H s.heap.objs.size (.own (s.heap.objs.size+1))) (s.heap.objs.size+1) (.ins C s.heap.objs.size []))
  { s with heap:=(s.heap.push emptyDict).push (instObj C s.heap.objs.size) }:=by
 have c:(s.heap.push emptyDict).get? s.heap.objs.size=some emptyDict:=Heap.get?_push_size s.heap rfl;have g:((s.heap.push emptyDict).push (instObj C s.heap.objs.size)).get? (s.heap.objs.size+1)=some (instObj C s.heap.objs.size):=by
  have:=Heap.get?_push_size (s.heap.push emptyDict) (o:=instObj C s.heap.objs.size) rfl
  rwa [Heap.size_push]at this
 have h:(s.heap.push emptyDict).Ns s.heap.objs.size (fun _=>none):=⟨emptyDict,#[],_,c,rfl,(fun e j=>absurd j (by simp)),fun _=>rfl⟩
 have I1:=I.laid (a:=s.heap.objs.size) (o:=.own (s.heap.objs.size+1)) (h':=s.heap.push emptyDict) (t':=s.toks) (fun b u q=>aS _ q) (bb _) ⟨_,c⟩;refine I1.laid (a:=s.heap.objs.size+1) (o:=.ins C s.heap.objs.size []) (t':=s.toks) (fun b u q=>aS _ q) (Nat.le_of_eq (Heap.size_push _ _)) ?_;have ne:s.heap.objs.size≠s.heap.objs.size+1:=Nat.ne_of_lt (Nat.lt_succ_self _);refine⟨by rw[bv ne,cK],Nat.zero_le _,ne,g,fun _=>none,(Heap.Ns1.of_empty h).at fun o q=>aS _ q,fun _=>True.intro,fun y k=>absurd rfl k⟩
theorem Ij(j:attributeBase e f c (eval e c)=eval e c)
  (h:wpAny (model b w) A (eval e c) (fun o g=>wpAny (model b w) A (getAttr o f true) Q E g) E s):wpAny (model b w) A (eval (.Attribute e f pos) c) Q E s:=
 Attribute_any_ h (by rw[arm_eval_Attribute,j])
def Ik(K:Frag)(c:TE)(f:Str):TE:=fun Y H Q=>c Y H fun x b=>∃a C d fs v,x=.ref a/\b a=some (.ins C d fs)/\cS K C/\cA K C f/\fs.lookup f=some v/\Q v b
def Il(K:Frag)(d e:TE)(f:Str):TS:=fun D Y H=>e Y H fun y g=>d Y g fun x b=>∃a C c fs,x=.ref a/\b a=some (.ins C c fs)/\cS K C/\cA K C f/\fs.length<1000/\
 D.nx Y (aI b a (.ins C c (cF f y fs)))
def xN(X:Cx)(op:Operator)(rd:V->V->Hp->VK->Prop):Prop:=
 ∀(a:List (Addr×Obj)) (s:Shared) (Y:St) (H:Hp) (x y:V) (u v:Value) (Q:VK),Inv X a Y H s->bf x u->bf y v->rd x y H Q->wpAny (model X.prog X.w) X.A (inplaceOp op u v) (EP X a Y Q) X.xe s
def Im(K:Frag)(g h:TE)(rd:V->V->Hp->VK->Prop)(f:Str):TS:=fun D Y H=>g Y H fun x d=>∃a C i fs v,x=.ref a/\d a=some (.ins C i fs)/\cS K C/\cA K C f/\fs.lookup f=some v/\
 h Y d fun y j=>rd v y j fun z e=>∃c b,e a=some (.ins C c b)/\b.length<1000/\D.nx Y (aI e a (.ins C c (cF f z b)))
theorem je(i:PE X e g)(t:attributeBase e f X.env (eval e X.env)=eval e X.env):PE X (.Attribute e f pos) (Ik X.K g f):=by intro b s Y H Q I h;refine Ij t (aN (i b s Y H _ I h) fun u y d=>?_);obtain⟨x,j,I1,k,a,C,z,fs,v,ex,m,c,n,l,q⟩:=d;subst ex;obtain rfl:u=Value.ref a:=k;exact xK I1 m c n l fun A B p w=>⟨v,j,p,w,q⟩
theorem qj(i:PE X o g)(j:PE X value tv)(k:swapsWith value (some (.Attribute o f r)) pos.line X.env=pure false):PS X (.Assign [.Attribute o f r] value pos) (Il X.K g tv f):=by intro b s Y H D I h;refine plainObj_wpAny_Assign_Attribute (aN (j b s Y H _ I h) fun u m ⟨y,p,I1,t,q⟩=>aN (i b m Y p _ I1 q) fun v G d=>?_) k;obtain⟨x,J,w,z,a,C,L,fs,ex,A,c,n,l,B⟩:=d;subst ex;obtain rfl:v=Value.ref a:=z;exact xM w A c n l t fun M E=>⟨Y,_,E,B⟩
theorem Io(m:PE X o g)(p:PE X value tv)(j:xN X op rd):PS X (.AugAssign (.Attribute o f tpos) op value pos) (Im X.K g tv rd f):=by intro b s Y H D I h;refine wpAny_AugAssign_AttributeAny (aN (m b s Y H _ I h) fun t s1 d=>?_);obtain⟨x,w,I1,A,a,C,dx,fs,v,ex,B,c,n,l,q⟩:=d;subst ex;obtain rfl:t=Value.ref a:=A;refine xK I1 B c n l fun u E G ru=>aN (p b E Y w _ G q) fun J L ⟨y,M,N,O,Q⟩=>aN (j b L Y M v y u J _ N ru O Q) fun w4 s4 i=>?_;obtain⟨z,H3,R,S,T,U,k,Z,q4⟩:=i;exact xM R k c n Z S fun s5 I5=>⟨Y,_,I5,q4⟩
def Ip:V->V->Hp->VK->Prop:=fun x y H Q=>∃i j,x=.int i/\y=.int j/\Q (.int (i+j)) H
theorem Iq:xN X .Add Ip:=by
 rintro a s Y H x y u v Q I b c ⟨i,j,rfl,rfl,q⟩;obtain⟨t,rfl⟩:=(show ∃t,u=Value.int i t from b)
 obtain⟨t',rfl⟩:=(show ∃t',v=Value.int j t' from c)
 exact PyProof.Rows.iadd_int ⟨.int (i+j),H,I.tok _,⟨_,rfl⟩,q⟩
inductive da (K:Frag) (H:Hp):V->Value->Prop where
 |non:da K H .non (.type "NoneType")
 |bl (x:Bool):da K H (.bl x) (.type "bool")
 |int (i:Int):da K H (.int i) (.type "int")
 |str (x:Str):da K H (.str x) (.type "str")
 |flt (x:UInt64):da K H (.flt x) (.type "float")
 |lst {a:Addr}{xs:List V}(e:H a=some (.lst xs)):da K H (.ref a) (.type "list")
 |frz {a:Addr}{o:Obj}{xs:List V}(e:H a=some (.frz o (.lst xs))):da K H (.ref a) (.type "list")
 |tup {a:Addr}{xs:List V}(e:H a=some (.tup xs)):da K H (.ref a) (.type "tuple")
 |dK {a:Addr}{kvs:List (be×V)}(e:H a=some (.dK kvs)):da K H (.ref a) (.type "dict")
 |dT {a:Addr}{kvs:List (List be×V)}(e:H a=some (.dT kvs)):da K H (.ref a) (.type "dict")
 |ins {a C dx:Addr}{fs:List (Str×V)}(e:H a=some (.ins C dx fs)) (cl:cS K C) (ha:findIn K (.ref C) "__class__" = some (some (.builtin "object.__class__")))
   (hn:PySem.W.specialIn K (.builtin "object.__class__") "__get__" = some (some (.builtin "getset_descriptor.__get__"))) (htk:PySem.W.takesIn K (.builtin "object.__class__")=some true)
   (hm:PySem.W.mroIn K C (.type "object")=some true):da K H (.ref a) (.ref C)
theorem nV{Y:St}(I:Inv X pins Y H s)(d:bf x u)(G:da X.K H x t)(e:kitOne X.K t c=some b)(h:∀l,Q (.bool b) { s with toks:=l }) :
  wpAny (model X.prog X.w) A (call (.builtin "isinstance") [u,c]) Q E s:=by
 cases G with
 |non=>cases(show u=Value.none from d);exact kia_one PySem.W.kitx_none I.kIn True.intro e (fun z=>nomatch z) h
 |bl y=>cases(show u=Value.bool y from d);exact kia_one PySem.W.kitx_bool I.kIn True.intro e (fun z=>nomatch z) h
 |int i=>obtain⟨t,q⟩:=(show ∃t,u=Value.int i t from d);cases q;exact kia_one PySem.W.kitx_int I.kIn True.intro e (fun z=>nomatch z) h
 |str y=>obtain⟨t,q⟩:=(show ∃t,u=Value.str y t from d);cases q;exact kia_one PySem.W.kitx_str I.kIn True.intro e (fun z=>nomatch z) h
 |flt y=>obtain⟨t,q⟩:=(show ∃t,u=Value.float y t from d);cases q;exact kia_one PySem.W.kitx_float I.kIn True.intro e (fun z=>nomatch z) h
 | @lst a j f=>
  cases(show u=Value.ref a from d);obtain⟨_,_,n,_,h1⟩:=(show cz X.prog X.w H s.heap a (.lst j) from I.hok a _ f)
  exact kia_one PySem.W.kitx_list I.kIn ⟨_,h1,rfl⟩ e (fun z=>nomatch z) h
 | @frz a ob j f=>
  cases(show u=Value.ref a from d);obtain⟨_,_,_,n,_,h1⟩:=(show cz X.prog X.w H s.heap a (.frz ob (.lst j)) from I.hok a _ f)
  exact kia_one PySem.W.kitx_list I.kIn ⟨_,h1,rfl⟩ e (fun z=>nomatch z) h
 | @tup a j f=>
  cases(show u=Value.ref a from d);obtain⟨_,_,_,p⟩:=(show cz X.prog X.w H s.heap a (.tup j) from I.hok a _ f)
  obtain⟨o,h1,h2,_⟩:=p;exact kia_one PySem.W.kitx_tuple I.kIn ⟨o,h1,h2⟩ e (fun z=>nomatch z) h
 | @dK a g f=>
  cases(show u=Value.ref a from d);obtain⟨_,_,vs,_,p⟩:=(show cz X.prog X.w H s.heap a (.dK g) from I.hok a _ f)
  obtain⟨o,m,r,h1,h2,_⟩:=p;exact kia_one PySem.W.kitx_dict I.kIn ⟨o,h1,h2.1⟩ e (fun z=>nomatch z) h
 | @dT a g f=>
  cases(show u=Value.ref a from d);obtain⟨_,_,j,_,o,m,r,h1,h2,_⟩:=(show cz X.prog X.w H s.heap a (.dT g) from I.hok a _ f)
  exact kia_one PySem.W.kitx_dict I.kIn ⟨o,h1,h2.1⟩ e (fun z=>nomatch z) h
 | @ins a C L fs f cl v B k D=>cases(show u=Value.ref a from d);obtain⟨M,O,_⟩:=qi I.hok f;obtain⟨N,J,_⟩:=O.look;exact kia_one (PySem.W.kitx_own (cl.get _) cl.hd v B k D) I.kIn J e (fun z=>nomatch z) h
structure bx (k:Nat) (A:Around):Prop where
 hd:A.handled=none
 dp:A.depth+3 * k+5<recursionLimit
 un:A.units+16 * k+200<cLine
theorem bx.mono(r:bx k A)(h:j<=k):bx j A:=⟨r.hd,by have:=r.dp;lia,by have:=r.un;lia⟩
theorem bx.deeper(r:bx (k+1) A)(a):bx k (A.deeper a):=
 ⟨r.hd,by have:=r.dp;show A.depth+1+3 * k+5<_;lia,by have:=r.un;show A.units+3+16 * k+200<_;lia⟩
theorem Ir{A:Around}:(A.under (.builtin "type.__call__" ⟨.ref C::a,b⟩)).depth=A.depth+1:=by first |rfl |simp[Around.under,Code.weight,Code.isCreation,Code.isGuard,Code.isCaller,Code.frames,Code.isFrame,guardIds]
theorem Iu{A:Around}:(A.under (.builtin "type.__call__" ⟨.ref C::a,b⟩)).units=A.units+1:=by first |rfl |simp[Around.under,Code.cUnits,Code.frames,Code.isFrame]
theorem bx.make(r:bx (k+1) A)(C a b):bx k (A.under (.builtin "type.__call__" ⟨.ref C::a,b⟩)):=
 ⟨r.hd,by have:=r.dp;rw[Ir];lia,by have:=r.un;rw[Iu];lia⟩
theorem bx.depth(r:bx k A):A.depth<recursionLimit:=by have:=r.dp;lia
theorem bx.units(r:bx k A):A.units+64<cLine:=by have:=r.un;lia
def xO:TA:=fun _ H Q=>Q [] H
def xP(a:TE)(tr:TA):TA:=fun Y H Q=>a Y H fun x b=>tr Y b fun c d=>Q (x::c) d
theorem fm:PA X [] xO:=fun _ _ _ _ H Q I h=>Calls.spliced_nil ⟨[],H,I,.nil,h⟩
theorem em(d:PE X e te)(f:PA X es t)(g:autoParam (starEach (e::es) X.env=(false,eval e X.env)::starEach es X.env) Zq._auto_1):PA X (e::es) (xP te t):=by intro pos a s Y H Q I h;rw[g];show wpAny _ _ (spliced ((false,eval e X.env)::backTo pos (starEach es X.env))) _ _ s;refine Calls.spliced_cons (aN (d a s Y H _ I h) fun u i b=>?_);obtain⟨x,j,I1,k,l⟩:=b;exact aN (f pos a i Y j _ I1 l) fun r v c=>by obtain⟨m,n,o,p,q⟩:=c;exact⟨x::m,n,o,.cons k p,q⟩
def Iw(t:TA):TE:=fun Y H Q=>t Y H fun a b=>a.length<=sizeLine/\∀p,b p=none->Q (.ref p) (aI b p (.tup a))
def Ix(t:TA):TE:=fun Y H Q=>t Y H fun a b=>a.length<=sizeLine/\∀p,b p=none->Q (.ref p) (aI b p (.lst a))
theorem xQ(h:PA X es t):PE X (.Tuple es f pos) (Iw t):=by intro a s Y H Q I g;refine wpAny_Tuple_spliced (aN (h pos a s Y H _ I g) fun i c ⟨j,d,I1,r,z,q⟩=>⟨by rw[<-r.length];exact z,?_⟩);have k:d c.heap.objs.size=none:=I1.hok.fresh (bb _);refine⟨.ref c.heap.objs.size,aI d c.heap.objs.size (.tup j),I1.laid (t':=c.toks) (fun b u e=>aS _ e) (bb _) ?_,rfl,q _ k⟩;exact⟨z,i,r,⟨_,Heap.get?_push_size _ rfl,rfl,_,rfl⟩⟩
theorem qk(h:PA X es t):PE X (.List es pos) (Ix t):=by intro a s Y H Q I f;refine wpAny_List_spliced (aN (h pos a s Y H _ I f) fun g c ⟨i,d,I1,r,z,q⟩=>⟨by rw[<-r.length];exact z,?_⟩);have j:d c.heap.objs.size=none:=I1.hok.fresh (bb _);refine⟨.ref c.heap.objs.size,aI d c.heap.objs.size (.lst i),I1.laid (t':=c.toks) (fun b u e=>aS _ e) (bb _) ?_,rfl,q _ j⟩;exact⟨z,g,0,r,Heap.get?_push_size _ rfl⟩
abbrev Sp:=List V->Hp->VK->XK->Prop
abbrev gV:=List Env->Hp->Shared->XK->Value->Shared->Prop
structure fo (P:Program) (w:World) (K:Frag) (mg:Str->Option Value) (base:Heap) (A:Around) (outer:List Env) (s:Shared) (H:Hp):Prop where
 frames:A.frames=some outer
 mod:Mod K mg base
 bs:∀b o,base.get? b=some o->s.heap.get? b=some o/\H b=none
 bsz:base.objs.size<=s.heap.objs.size
 funs:s.heap.FunFrames base outer
 frf:∀b∈bQ outer,H b=none
 hok:bG P w H s.heap
 bare:AllBare s.gens
def CE(a:List Env)(P:Program)(w:World)(H:Hp)(s:Shared)(Q:VK)(u:Value)(b:Shared):Prop:=
 ∃v c,b.os=s.os/\AllBare b.gens/\Un (bQ a) [] H c s.heap b.heap/\bG P w c b.heap/\bf v u/\Q v c
def CR(c:gV)(a:List Env)(P:Program)(w:World)(H:Hp)(s:Shared)(Q:VK)(E:XK)(r:Result)(b:Shared):Prop:=
 match r with
 |.ok (.ret u)=>CE a P w H s Q u b
 |.ok _=>False
 |.error e=>c a H s E e b
structure cj (P:Program) (w:World) (K:Frag) (mg:Str->Option Value) (base:Heap) (CX:gV) (k:Nat) (f:Addr) (fd:FuncData) (ps:List Str) (sp:Sp):Prop where
 len:∀vs H Q E,sp vs H Q E->vs.length=ps.length
 run:∀(A:Around) (outer:List Env) (s:Shared) (H:Hp) (args:Args) (us:List Value) (vs:List V) (Q:VK) (E:XK),bx k A->fo P w K mg base A outer s H->BindsTo s fd args (ps.zip us)->bi vs us->sp vs H Q E->
  codeAny (model P w) A (.call (.ref f) args) (CR CX outer P w H s Q E) s
theorem cj.imp{K}(F:cj P w K mg base c k f fd d e)
  (h:∀vs H Q E,b vs H Q E->e vs H Q E):cj P w K mg base c k f fd d b:=
 ⟨fun vs H Q E q=>F.len vs H Q E (h _ _ _ _ q),fun A a s H args g vs Q E i j n l m=>F.run A a s H args g vs Q E i j n l (h _ _ _ _ m)⟩
theorem fo.make{K}(e:fo P w K mg base A a s H)(C b)(c) :
  fo P w K mg base (A.under (.builtin "type.__call__" ⟨.ref C::b,c⟩)) a s H:=⟨by first |exact e.frames |(simpa[Around.under,Code.envs,Code.isFrame,pushEnvs] using e.frames),e.mod,e.bs,e.bsz,e.funs,e.frf,e.hok,e.bare⟩
theorem Inv.env0{Y:St}(I:Inv X pins Y H s):fo X.prog X.w X.K X.mg X.base X.A X.stack s H:=
 ⟨I.ok.frames,I.ok.mod,I.bs,Nat.le_trans I.ok.bsz I.sz,I.stack,I.stkFree,I.hok,I.bare⟩
theorem Inv.after{Y:St}(I:Inv X pins Y H s)(h:CE X.stack X.prog X.w H s Q u s'):EP X pins Y Q u s':=by obtain⟨v,c,os,bare,un,hok,r,q⟩:=h;obtain⟨e,g,d,t,a⟩:=s';obtain rfl:a = s.os:=os;exact⟨v,c,I.call (h':=e) (g':=g) (d':=d) (t':=t) (ch:=[]) un hok bare (fun b z=>absurd z (by simp)),r,q⟩
def iy(K:Frag)(fd:FuncData)(b:List Str)(c:List Value):Prop:=
 ∀(s:Shared) (a:List Value),K.In s.heap->(a++c).length=b.length->BindsTo s fd ⟨a,[]⟩ (b.zip (a++c))
theorem iy.all{K}(h:∀a,a.length=b.length->bindArgs fd ⟨a,[]⟩=pure (b.zip a)):iy K fd b []:=fun s a _ c=>by rw[List.append_nil]at c ⊢;exact .of_eq (h a c)
structure Mk (K:Frag) (C f:Addr):Prop where
 makes:PySem.W.makesIn K C=true
 init:findIn K (.ref C) "__init__" = some (some (.ref f))
 fn:PySem.W.isFn K (.ref f)=true
 kp:keepIn K (.ref C)=true
def PK(X:Cx)(b:List Keyword)(t:TA):Prop:=
 ∀(pos:Pos) (a:List (Addr×Obj)) (s:Shared) (Y:St) (H:Hp) (Q:List V->Hp->Prop),Inv X a Y H s->t Y H Q->wpAny (model X.prog X.w) X.A (evalAll ((backToKw pos (keywordEach b X.env)).map (·.2))) (AP X a Y Q) X.xe s
theorem Iy:PK X [] xO:=fun _ _ _ _ H Q I h=>wpAny_evalAll_nil ⟨[],H,I,.nil,h⟩
theorem Iz(b:PE X e te)(c:PK X kws t):PK X (⟨nm,e,kpos⟩::kws) (xP te t):=by intro pos a s Y H Q I h;show wpAny _ _ (evalAll ((do let v <-eval e X.env;standAt pos;pure v)::(backToKw pos (keywordEach kws X.env)).map (·.2))) _ _ s;refine wpAny_evalAll_cons (ae (aN (b a s Y H _ I h) fun u d ⟨x,g,I1,i,j⟩=>ae (wpAny_standAt (aR ?_))));exact aN (c pos a d Y g _ I1 j) fun y z ⟨l,n,q,r,w⟩=>⟨x::l,n,q,.cons i r,w⟩
structure bY (N P:List Str) (sc:Scope):Prop where
 kind:sc.kind=.function
 co:sc.isCoroutine=false
 gen:sc.isGenerator=false
 nd:N.Nodup
 pre:N.take P.length=P
 par:∀x∈P,sc.names.lookup x=some .local\/sc.names.lookup x=some .cell
 nofree:∀y∈sc.names,y.2≠.free
theorem xR{kindOf}:∀{binds m},(∀v,(x,v)∉binds)->bindL kindOf binds m x=m x
 |[],_,_=>rfl
 | (n,v)::r,m,h=>by
  unfold bindL;rw[xR fun w a=>h w (bq _ a)];split
  .have:x≠n:=by rintro rfl;exact h v List.mem_cons_self
   simp[this]
  .rfl
theorem xS{kindOf}:∀{binds m},(∀v,(x,v)∉binds)->bindC kindOf binds m x=m x
 |[],_,_=>rfl
 | (n,v)::r,m,h=>by
  unfold bindC;rw[xS fun w a=>h w (bq _ a)];split
  .rfl
  .have:x≠n:=by rintro rfl;exact h v List.mem_cons_self
   simp[this]
theorem xT{kindOf}:∀{P:List Str}{vs}{i:Nat}{m},P.Nodup->P[i]? = some x->vs[i]? = some v->kindOf x=some .local->
  bindL kindOf (P.zip vs) m x=some v
 |[],_,_,_,_,h,_,_=>by simp at h
 |_::_,[],_,_,_,_,h,_=>by simp at h
 |p::P,w::vs,0,m,nd,h1,h2,a=>by simp at h1 h2;subst h1;subst h2;show bindL kindOf ((p,w)::P.zip vs) m p=_;unfold bindL;rw[xR fun v b=>(List.nodup_cons.mp nd).1 (List.of_mem_zip b).1,if_pos a];simp
 |p::P,w::vs,i+1,m,nd,h1,h2,a=>by show bindL kindOf ((p,w)::P.zip vs) m x=_;unfold bindL;exact xT (i:=i) (List.nodup_cons.mp nd).2 (by simpa using h1) (by simpa using h2) a
theorem xW{kindOf}:∀{P:List Str}{vs}{i:Nat}{m},P.Nodup->P[i]? = some x->vs[i]? = some v->kindOf x≠some .local->
  bindC kindOf (P.zip vs) m x=some v
 |[],_,_,_,_,h,_,_=>by simp at h
 |_::_,[],_,_,_,_,h,_=>by simp at h
 |p::P,w::vs,0,m,nd,h1,h2,a=>by simp at h1 h2;subst h1;subst h2;show bindC kindOf ((p,w)::P.zip vs) m p=_;unfold bindC;rw[xS fun v b=>(List.nodup_cons.mp nd).1 (List.of_mem_zip b).1,if_neg a];simp
 |p::P,w::vs,i+1,m,nd,h1,h2,a=>by show bindC kindOf ((p,w)::P.zip vs) m x=_;unfold bindC;exact xW (i:=i) (List.nodup_cons.mp nd).2 (by simpa using h1) (by simpa using h2) a
noncomputable def start(N:List Str)(vs:List V):St:=vs.map some++List.replicate (N.length - vs.length) none
noncomputable def gD(CX:gV)(P:Program)(w:World)(K:Frag)(mg:Str->Option Value)(base:Heap)(N:List Str)(qual:Str)(scope:Scope)(f:Addr)(cd:Value)(A:Around)(outer:List Env)(s:Shared)(H:Hp)(E:XK):Cx where
 prog:=P
 w:=w
 K:=K
 mg:=mg
 base:=base
 A:=A.deeper (envOfC qual scope s.heap.objs.size f cd)
 N:=N
 s₀:=s
 H₀:=H
 env:=envOfC qual scope s.heap.objs.size f cd
 outer:=outer
 stack:=envOfC qual scope s.heap.objs.size f cd::outer
 ex:=[]
 calm:=true
 fn:=fun _=>true
 pn:=[]
 xe:=fun e s'=>wpAny (model P w) (A.deeper (envOfC qual scope s.heap.objs.size f cd)) (leaving (envOfC qual scope s.heap.objs.size f cd) e) (fun _ s''=>CX outer H s E e s'') (fun e' s''=>CX outer H s E e' s'') s'
theorem xX{a:Scope}(h:a.names.lookup x=some .cell):∃c,(cellsFrom n a.names []).lookup x=some c:=by have q:=PySem.W.cellsFrom_some a.names n [] (.inl h);exact Option.isSome_iff_exists.mp q
theorem IA{K}
  (S:bY N o d) (hd:A.handled=none) (m:fo P w K mg base A g s H) (Y:vs.length=o.length) (r:bi vs L)
  (x:InCallC s s.heap.objs.size (bindL (envOfC j d s.heap.objs.size f G).kindOf (o.zip L) fun _=>none) (cellsFrom (s.heap.objs.size+1) d.names []) (bindC (envOfC j d s.heap.objs.size f G).kindOf (o.zip L) fun _=>none) O) :
  Inv (gD M P w K mg base N j d f G A g s H E) [] (start N vs) H O:=by
 have T:o.length<=N.length:=by have:=congrArg List.length S.pre;rw[List.length_take]at this;lia
 obtain⟨J,Z,rfl,Q⟩:=x.done;have t:∀b:Addr,b∉(gD M P w K mg base N j d f G A g s H E).ex:=fun b z=>absurd (show b∈([]:List Addr) from z) (by simp);refine⟨⟨m.mod,S.kind,rfl,rfl,bb _,fun y z c J l=>?_,fun y B=>?_,fun y c _ h=>?_,fun _=>hd,Around.frames_deeper m.frames,.inr ⟨rfl,rfl⟩,fun b z=>absurd z (t b),m.bs,m.bsz,fun b _ _=>t b,fun b z=>absurd z (t b),m.funs,m.frf⟩,
  rfl,m.bare,Un.kept Q,⟨_,x.toInCall.ns,fun i y v J l h3=>?_⟩,fun y c h=>⟨_,x.cell y c h⟩,m.hok.fresh (bb _),fun y c h=>?_,fun p C=>absurd (show p∈([]:List (Addr×Obj)) from C) (by simp),m.hok.kept Q,?_⟩
 .exact name_of_addr x.apart (PySem.mem_of_lookup J) (PySem.mem_of_lookup l)
 .have B:d.names.lookup y=some .cell\/d.names.lookup y=some .free:=B;rcases B with B |B
  .exact xX B
  .exact absurd rfl (S.nofree _ (PySem.mem_of_lookup B))
 .exact Nat.le_of_lt (x.above y c (PySem.mem_of_lookup h))
 .have I:i<vs.length:=by
   unfold start at l
   by_cases I:i<vs.length
   .exact I
   .rw[List.getElem?_append_right (by simpa using I)]at l;rw[List.getElem?_replicate]at l;split at l<;>cases l
  have U:vs[i]? = some v:=by
   unfold start at l;rw[List.getElem?_append_left (by simpa using I),List.getElem?_map]at l;cases e:vs[i]? with
   |none=>rw[e]at l;cases l
   |some a=>rw[e]at l;cases l;rfl
  obtain⟨u,R,X⟩:=r.get U;have C:o[i]? = some y:=by rw[<-S.pre,List.getElem?_take_of_lt (by lia)];exact J
  have D:o.Nodup:=by rw[<-S.pre];exact S.nd.sublist (List.take_sublist _ _)
  refine⟨u,X,?_⟩;rcases S.par y (List.mem_of_getElem? C) with k |k
  .exact .inl ⟨k,xT D C R k⟩
  .obtain⟨c,e⟩:=xX (n:=s.heap.objs.size+1) k;refine .inr ⟨.inl k,c,e,?_⟩;have q:=x.cell y c e;rw[xW D C R (by show d.names.lookup y≠_;rw[k];decide)]at q;exact q
 .exact m.hok.fresh (Nat.le_of_lt (x.above y c (PySem.mem_of_lookup h)))
 .unfold start;show _=N.length;rw[List.length_append,List.length_map,List.length_replicate];lia
theorem IB{K}{kV }
  (lk:K.lookup f=some ⟨oc,od,.func (fnOf name d h body a dV kV p pm Y g ct),L⟩) (O:codeIn K g d=true) (S:bY N D a)
  (len:∀vs H Q E,M vs H Q E->vs.length=D.length)
  (j:∀A  c  s  H  vs  Q  E,bx k (A.deeper (envOfC d a s.heap.objs.size f g))->M vs H Q E->
   ∃t,PSs (gD C P w K mg base N d a f g A c s H E) body t/\t { nx:=fun _ i=>Q .non i,rt:=Q } (start N vs) H) :
  cj P w K mg base C (k+1) f (fnOf name d h body a dV kV p pm Y g ct) D M:=by
 refine⟨len,fun A c s H args us vs Q E R z hb r B=>?_⟩;have hl:=len _ _ _ _ B;have Z:K.In s.heap:=z.mod.kin.keeps fun b o e=>(z.bs b o e).1;have T:s.heap.NoLimit:=z.mod.nolimit.keeps fun b o e=>(z.bs b o e).1;have l:∀y∈D.zip us,a.names.lookup y.1=some .local\/(a.names.lookup y.1=some .cell/\((cellsFrom (s.heap.objs.size+1) a.names []).lookup y.1).isSome=true):=fun⟨n,v⟩ hy=>by
  rcases S.par n (List.of_mem_zip hy).1 with q |q
  .exact .inl q
  .exact .inr ⟨q,PySem.W.cellsFrom_some _ _ _ (.inl q)⟩
 refine codeAny_call_function R.depth (Z _ _ lk) rfl S.co S.gen rfl (PySem.W.codeRec_of Z O) (hb _ _ _ _ ?_);refine wpAny_newFunctionEnv_cells S.kind l fun a0 he s1 x=>?_;subst he;refine⟨T.keeps x.toInCall.keep,codeAny_func ?_⟩;obtain⟨t,ht,hq⟩:=j A c s H vs Q E (R.deeper _) B;have I:Inv (gD C P w K mg base N d a f g A c s H E) [] (start N vs) H s1:=IA S R.hd z hl r x;refine wpAny_mono (ht [] s1 (start N vs) H _ I hq) (fun fl U m=>?_) fun e U m=>m;have fin:∀{G:St}{i:Hp}{v:V}{u:Value},Inv (gD C P w K mg base N d a f g A c s H E) [] G i U->bf v u->Q v i->CE c P w H s Q u U:=
  fun {G i v u} J X q=>⟨v,i,J.os,J.bare,J.base,J.hok,X,q⟩
 cases fl with
 |ret u=>obtain⟨v,G,i,J,X,q⟩:=m;exact fin J X q
 |next=>obtain⟨G,i,J,q⟩:=m;exact fin (v:=V.non) (u:=Value.none) J rfl q
 |brk=>obtain⟨_,_,_,q⟩:=m;exact False.elim q
 |cont=>obtain⟨_,_,_,q⟩:=m;exact False.elim q
def tZ(r:List V->Hp->VK->Prop)(t:TA):TE:=fun Y H Q=>t Y H fun vs a=>r vs a Q
theorem ql{p:Pos}{pos:Pos}{id:String}(f:gr X (.builtin id) r)(g:Gl X x)(i:X.mg x=none)(j:bootBuiltins x=some (.builtin id))(k:PA X (e::es) t)(l:autoParam (x≠"__name__") Zr._auto_1)(c:autoParam ((x==("__debug__":Str))=false) Zr._auto_1)
  (m:autoParam (starEach (e::es) X.env=(false,eval e X.env)::starEach es X.env) Zq._auto_1) (d:autoParam ((backTo pos (starEach es X.env)).any (·.1)=false) Zq._auto_1):PE X (.Call (.Name x p) (e::es) [] pos) (tZ r t):=by
 intro a s Y H Q I h;refine wpAny_Call_Name_kw (iw I g i j ?_ l c);exact PyProof.Rows.callWith_builtin1 (aN (k pos a s Y H _ I h) fun n o b=>by obtain⟨vs,q,I1,u,v⟩:=b;exact f a o Y q vs n Q I1 u v) m d
theorem xY{p:Pos}{pos:Pos}(d:gr X (.type T) r)(f:Gl X x)(g:X.mg x=none)(i:bootBuiltins x=some (.type T))(j:PA X (e::es) t)(k:autoParam (x≠"__name__") Zr._auto_1)(b:autoParam ((x==("__debug__":Str))=false) Zr._auto_1)
  (l:autoParam (starEach (e::es) X.env=(false,eval e X.env)::starEach es X.env) Zq._auto_1) (c:autoParam ((backTo pos (starEach es X.env)).any (·.1)=false) Zq._auto_1):PE X (.Call (.Name x p) (e::es) [] pos) (tZ r t):=by
 intro a s Y H Q I h;refine wpAny_Call_Name_kw (iw I f g i ?_ k b);exact PyProof.Rows.callWith_type1 (aN (j pos a s Y H _ I h) fun m n ⟨vs,o,I1,q,u⟩=>d a n Y o vs m Q I1 q u) l c
end L2
namespace HT
open PySem PyProof.Rows
noncomputable def lexLt:List Int->List Int->Bool
 |[],[]=>false
 |[],_::_=>true
 |_::_,[]=>false
 |x::a,y::b=>if x=y then lexLt a b else decide (x<y)
theorem lexLt_cons(x y a b):lexLt (x::a) (y::b)=if x=y then lexLt a b else decide (x<y):=rfl
theorem lexLt_nil_nil:lexLt [] []=false:=rfl
theorem IC(y a):lexLt [] (y::a)=true:=rfl
theorem ID(x a):lexLt (x::a) []=false:=rfl
theorem IE(A s a t c u):∃e,SeqAt.EqAt A s (.int a t) (.int c u) e/\(e=true↔a=c):=
 ⟨(a==c),SeqAt.EqAt.int_int a t c u,by simp⟩
theorem IF(A s a t c u b w E Q)(h:Q (.bool (decide (a<c))) s) :
  wpAny (model b w) A (richCompare .Lt (.int a t) (.int c u)) Q E s:=
 (PyProof.Rows.lt_int h:wpAny (model b w) A (compareOp .Lt (.int a t) (.int c u)) Q E s)
section
open PySem.SeqAt
open PySem.AutoSeq1 (wpAny_loadPart')
open PySem.MeetsSeq PySem.MeetsSeq2 PySem.MeetsSeq3
theorem IG(l b)(items f)(n X dd L sl M J E)(S:IntsAre items.toList J)(T:IntsAre f.toList E) :
  Meets (Builtin.«tuple.__lt__» ⟨[.ref l,.ref b],[]⟩)
   (fun _ R s=>s.heap.get? l=some { cls:=.type "tuple",dict:=dd,data:=.seq items n,slots:=sl }/\s.heap.get? b=some { cls:=.type "tuple",dict:=L,data:=.seq f X,slots:=M }/\
    R (.ok (.ret (.bool (lexLt J E)))) s):=
 .of_wp fun v w A R s h=>by
  obtain⟨G,g,d,H,os⟩:=s;obtain⟨Y,hb,h⟩:=h;have f2:=AutoSeq1.sub_tuple_tuple;have z1:items.size=J.length:=by rw[<-S.length];simp
  have z2:f.size=E.length:=by rw[<-T.length];simp
  wp_walk using wpAny_loadPart' Y,wpAny_loadPart' hb,wpAny_forIn_list _ (fun rest b N=>b.1=none/\N = ⟨G,g,d,H,os⟩/\∃(vs I:List Value) (j k:List Int),rest=vs.zip I/\
   IntsAre vs j/\IntsAre I k/\j.length+f.size=k.length+items.size/\R (.ok (.ret (.bool (lexLt j k)))) ⟨G,g,d,H,os⟩) _
  case turn=>
   rintro⟨y,x⟩ rest b N ⟨hb',rfl,vs,I,j,k,m,z,o,i,p⟩;cases z with
   |nil=>rw[List.zip_nil_left]at m;cases m
   |cons a t C=>
    cases o with
    |nil=>rw[List.zip_nil_right]at m;cases m
    |cons c u D=>
     rw[List.zip_cons_cons]at m;injection m with O B
     injection O with Z hx
     subst Z hx;rw[lexLt_cons]at p;simp only[List.length_cons]at i;obtain⟨e,he,r⟩:=IE A.in1 ⟨G,g,d,H,os⟩ a t c u;refine ae (he v w _ _ ?_);cases e with
     |true=>
      rw[if_pos (r.mp rfl)]at p
      wp_walk
      exact⟨rfl,rfl,_,_,_,_,B,C,D,by lia,p⟩
     |false=>
      rw[if_neg (fun q=>absurd (r.mpr q) Bool.false_ne_true)]at p;have Q:=IF A.in1 ⟨G,g,d,H,os⟩ a t c u v w
      wp_walk using Q
      exact⟨_,rfl,by simpa using p⟩
  case fin=>
   rintro⟨b1,b2⟩ N ⟨hb',rfl,vs,I,j,k,m,z,o,i,p⟩;simp only at hb';subst hb';have U:lexLt j k = decide (items.size<f.size):=by
    cases z with
    |nil=>
     cases o with
     |nil=>simp only[List.length_nil]at i;rw[lexLt_nil_nil];exact(decide_eq_false (by lia)).symm
     |cons c u hw=>simp only[List.length_nil,List.length_cons]at i;rw[IC];exact(decide_eq_true (by lia)).symm
    |cons a t U=>
     cases o with
     |nil=>simp only[List.length_nil,List.length_cons]at i;rw[ID];exact(decide_eq_false (by lia)).symm
     |cons c u hw=>rw[List.zip_cons_cons]at m;cases m
   rw[U]at p
   wp_walk
   exact⟨_,rfl,by simpa[Builtin.Tuple.tupleCompareSizes] using p⟩
  case h=>exact⟨rfl,rfl,items.toList,f.toList,J,E,rfl,S,T,by lia,h⟩
end
theorem lt_tupInts(o:IsTup s.heap l items)(u:IsTup s.heap b a)(p:IntsAre items.toList g)(q:IntsAre a.toList c)
  (r:A.units<cLine) (h:Q (.bool (lexLt g c)) s):wpAny (model prog w) A (compareOp .Lt (.ref l) (.ref b)) Q E s:=by
 obtain⟨⟨cls,dd,data,sl⟩,ho,k,n,hd⟩:=id o;obtain⟨⟨m,i,data2,j⟩,d,e,t,f⟩:=id u;simp only at k hd e f;subst k hd e f;exact richCompare_meets_room (op:=.Lt) ⟨_,ho,rfl⟩ ⟨_,d,rfl⟩ PySem.F.slot_tuple_lt PySem.F.entry_tuple_lt (PySem.F.args_tuple_lt_2 _ _) (IG l b items a n t dd i sl j g c p q)
  ⟨ho,d,show Value.bool (lexLt g c)≠Value.notImplemented/\Q (.bool (lexLt g c)) s from⟨(fun x=>nomatch x),h⟩⟩ r
theorem cat_tup(p:IsTup s.heap t vs.toArray)(q:IsTup s.heap b a.toArray)(k:vs≠[])
  (r:a=[]->Q (.ref t) s) (u:a≠[]->Q (.ref s.heap.objs.size) { s with heap:=s.heap.push { cls:=.type "tuple",data:=.seq (vs++a).toArray } })
  (j:vs.length+a.length<=sizeLine):wpAny (model prog w) A (binaryOp .Add (.ref t) (.ref b)) Q E s:=by
 obtain⟨⟨cls,dd,data,sl⟩,ho,l,n,hd⟩:=id p;obtain⟨⟨m,d,data2,f⟩,c,g,o,h⟩:=id q;simp only at l hd g h;subst l hd g h;have e:vs.toArray++a.toArray=(vs++a).toArray:=by simp
 by_cases i:a=[]
 .exact concat_meets ⟨_,ho,rfl⟩ ⟨_,c,rfl⟩ noFill_tuple_add seq_tuple_add PySem.F.slot_tuple_add PySem.F.entry_tuple_add (PySem.F.args_tuple_add_2 _ _)
   (tuple_addW1 t b vs.toArray a.toArray n o dd d sl f (by simpa using k) (by simp[i])) ⟨ho,c,r i⟩
 .refine concat_meets ⟨_,ho,rfl⟩ ⟨_,c,rfl⟩ noFill_tuple_add seq_tuple_add PySem.F.slot_tuple_add PySem.F.entry_tuple_add (PySem.F.args_tuple_add_2 _ _)
   (tuple_addW2 t b vs.toArray a.toArray n o dd d sl f (by simpa using k) (by simpa using i) (by rw[List.size_toArray,List.size_toArray];exact j)) ⟨ho,c,?_⟩
  rw[e];exact u i
noncomputable def sIx(n d:Nat):Option Int->Nat
 |none=>d
 |some v=>if v<0 then(v+(n:Int)).toNat else min v.toNat n
theorem sIx_none(n d):sIx n d none=d:=rfl
theorem sIx_nat(n d k:Nat):sIx n d (some (k:Int))=min k n:=by show(if (k:Int)<0 then((k:Int)+(n:Int)).toNat else min (k:Int).toNat n)=min k n;rw[if_neg (by lia),Int.toNat_natCast]
end HT
namespace L2
open PySem PySem.Spec PyProof.Rows
abbrev TO:=St->Hp->(Option Int->Hp->Prop)->Prop
def PO(X:Cx)(e:Option Expr)(t:TO):Prop:=
 ∀(a:List (Addr×Obj)) (s:Shared) (Y:St) (H:Hp) (Q:Option Int->Hp->Prop),Inv X a Y H s->t Y H Q->
  wpAny (model X.prog X.w) X.A (evalPart e X.env) (fun u c=>∃o b,Inv X a Y b c/\IsPart u o/\Q o b) X.xe s
def IH:TO:=fun _ H Q=>Q none H
def II(t:TE):TO:=fun Y H Q=>t Y H fun x a=>∃i,x=.int i/\Q (some i) a
theorem IJ:PO X none IH:=by intro a s Y H Q I h;rw[evalPart_none];exact aR ⟨none,H,I,.none,h⟩
theorem IK(h:PE X e te):PO X (some e) (II te):=by intro a s Y H Q I c;rw[evalPart_some];refine aN (h a s Y H _ I c) fun u j b=>?_;obtain⟨x,d,I1,f,g⟩:=b;obtain⟨i,rfl,q⟩:=g;obtain⟨t,rfl⟩:=f;exact⟨some i,d,I1,.int i t,q⟩
def xZ(X:Cx)(r:V->Option Int->Option Int->Hp->VK->Prop):Prop:=
 ∀(a:List (Addr×Obj)) (s:Shared) (Y:St) (H:Hp) (x:V) (v b c:Value) (lo hi:Option Int) (d:Addr) (Q:VK),Inv X a Y H s->bf x v->s.heap.IsSliceOf d b c .none->IsPart b lo->IsPart c hi->r x lo hi H Q->
  ∃T id,typeLookup (.type T) "__getitem__" = pure (some (.builtin id))/\s.TypeIs v T/\wpAny (model X.prog X.w) X.A (getItem v (.ref d)) (EP X a Y Q) X.xe s
def IL(r:V->Option Int->Option Int->Hp->VK->Prop)(te:TE)(tl th:TO):TE:=fun Y H Q=>te Y H fun x a=>tl Y a fun l b=>th Y b fun u c=>r x l u c Q
theorem IM{lo:Option Expr}(k:xZ X r)(m:PE X e te)(n:PO X lo tl)(o:PO X hi th):PE X (.Subscript e (.Slice lo hi none p2) pos) (IL r te tl th):=by intro a s Y H Q I h;refine Subscript_ (aN (m a s Y H _ I h) fun v p d=>?_);obtain⟨x,t,I1,y,z⟩:=d;refine wpAny_Slice (aN (n a p Y t _ I1 z) fun g B ⟨l,C,D,pl,E⟩=>aN (o a B Y C _ D E) fun i c f=>?_);obtain⟨u,j,G,J,L⟩:=f;rw[evalPart_none];refine aR ?_;have M:Inv X a Y j { c with heap:=c.heap.push { cls:=.type "slice",data:=.fields #[g,i,.none] } }:=G.kept (t':=c.toks) fun b S q=>aS _ q;obtain⟨T,id,N,O,R⟩:=k a { c with heap:=c.heap.push { cls:=.type "slice",data:=.fields #[g,i,.none] } } Y j x v g i l u c.heap.objs.size Q M y (Heap.IsSliceOf.new ..) pl J L;show wpAny (model X.prog X.w) X.A (subscriptTail e (.Slice lo hi none p2) v (.ref c.heap.objs.size)) (EP X a Y Q) X.xe { c with heap:=c.heap.push { cls:=.type "slice",data:=.fields #[g,i,.none] } };exact tail_any (ops:=[.ref c.heap.objs.size,v]) O N R (by with_unfolding_all rfl)
def lO(a:List V)(lo hi:Option Int):List V:=(a.drop (HT.sIx a.length 0 lo)).take (HT.sIx a.length a.length hi - HT.sIx a.length 0 lo)
theorem IP(a lo hi):(lO a lo hi).length<=a.length:=by unfold lO;rw[List.length_take,List.length_drop];lia
def IQ(K:Frag):R2:=fun x y H Q=>∃a b d c,x=.ref a/\y=.ref b/\cZ K H a d/\cZ K H b c/\d≠[]/\d.length+c.length<=sizeLine/\
 (c=[]->Q (.ref a) H)/\(c≠[]->∀p,H p=none->Q (.ref p) (aI H p (.tup (d++c))))
theorem bi.nil_iff(r:bi a b):b=[]↔a=[]:=by
 cases r with
 |nil=>simp
 |cons _ _=>simp
theorem IR:cx X (binaryOp .Add) (IQ X.K):=by intro f s Y H x y v u Q I j k h;obtain⟨a,b,l,m,rfl,rfl,n,hb,p,g,r,t⟩:=h;cases j;cases k;obtain⟨A,d,B,_⟩:=I.tuple n;obtain⟨i,c,p2,_⟩:=I.tuple hb;refine HT.cat_tup B p2 (fun z=>p (d.nil_iff.mp z)) (fun z=>⟨.ref a,H,I,rfl,r (c.nil_iff.mp z)⟩) (fun z=>?_) (by rw[<-d.length,<-c.length];exact g);refine⟨.ref s.heap.objs.size,_,I.laid (t':=s.toks) (o:=.tup (l++m)) (fun b C q=>aS _ q) (bb _) ?_,rfl,t (fun w=>z (c.nil_iff.mpr w)) _ (I.hok.fresh (bb _))⟩;exact⟨by rw[List.length_append];exact g,_,d.append c,IsTup.new _ _⟩
noncomputable def dj(n:Nat)(i:Int):Option Nat:=if 0<=i then(if i<n then some i.toNat else none) else if -(n:Int)<=i then some (i+n).toNat else none
def bI{α:Type}(a:List α)(i:Int):Option α:=(dj a.length i).bind fun j=>a[j]?
theorem ya(h:dj n i=some j):seqIndex? i n=some j/\j<n/\-(n:Int)<=i/\i<n:=by
 unfold dj at h
 by_cases a:0<=i
 .rw[if_pos a]at h
  by_cases h1:i<n
  .rw[if_pos h1]at h;have e:i.toNat=j:=Option.some.inj h;exact⟨by rw[seqIndex_of a h1,e],by lia,by lia,h1⟩
  .rw[if_neg h1]at h;cases h
 .rw[if_neg a]at h
  by_cases h1:-(n:Int)<=i
  .rw[if_pos h1]at h;have e:(i+n).toNat=j:=Option.some.inj h;exact⟨by rw[seqIndex_neg (by lia) h1,e],by lia,h1,by lia⟩
  .rw[if_neg h1]at h;cases h
theorem yb(h:bI a i=some v):∃j,seqIndex? i a.length=some j/\a[j]? = some v/\j<a.length/\-(a.length:Int)<=i/\i<a.length:=by
 unfold bI at h;cases e:dj a.length i with
 |none=>rw[e]at h;cases h
 |some j=>rw[e]at h;obtain⟨c,h2,h3,b⟩:=ya e;exact⟨j,c,h,h2,h3,b⟩
def nW(b:Expr):Prop:=∀o i,subscripted b false o i=operate [o,i] (getItem o i)
def jf(X:Cx)(r:R2):Prop:=
 ∀(value slice:Expr) (a:List (Addr×Obj)) (s:Shared) (Y:St) (H:Hp) (x y:V) (v u:Value) (Q:VK),Inv X a Y H s->bf x v->bf y u->r x y H Q->
  subscripted slice false v u=operate [v,u] (getItem v u)->wpAny (model X.prog X.w) X.A (subscriptTail value slice v u) (EP X a Y Q) X.xe s
def ua(X:Cx)(id:String)(r:V->List V->Hp->VK->Prop):Prop:=
 ∀(a:List (Addr×Obj)) (s:Shared) (Y:St) (H:Hp) (x:V) (b:List V) (v:Value) (c:List Value) (Q:VK),Inv X a Y H s->bf x v->bi b c->r x b H Q->
  wpAny (model X.prog X.w) X.A (call (.builtin id) (v::c)) (EP X a Y Q) X.xe s
theorem jf.or(h:jf X r)(i:jf X d):jf X (fun x y H Q=>r x y H Q\/d x y H Q):=by
 intro value slice c s Y H x y v u Q I e f q g;rcases q with q |q
 .exact h value slice c s Y H x y v u Q I e f q g
 .exact i value slice c s Y H x y v u Q I e f q g
theorem ub(d:jf X r)(e:PE X a ta)(m:PE X b tb)(f:nW b):PE X (.Subscript a b pos) (nR r ta tb):=by intro c s Y H Q I h;exact Subscript_ (tR e m I h fun v u g x y i j k l q=>d a b c g Y i x y v u Q j k l q (f _ _))
def uc(K:Frag):R2:=fun x y H Q=>∃p c i v,x=.ref p/\y=.int i/\cE K H p c/\bI c i=some v/\Q v H
def ud(K:Frag):R2:=fun x y H Q=>∃p c i v,x=.ref p/\y=.int i/\cZ K H p c/\bI c i=some v/\Q v H
theorem ue:jf X (uc X.K):=by
 intro value slice c s Y H x y v u Q I m n h g;obtain⟨p,G,i,z,rfl,rfl,o,A,q⟩:=h;cases m;obtain⟨t,rfl⟩:=n;obtain⟨d,r,pl,J⟩:=I.list o;obtain⟨j,h1,h2,h3,B,C⟩:=yb A;obtain⟨w,k,e⟩:=r.get h2;have D:=r.length;have L:=eg;have fin:EP X c Y Q w s:=⟨z,H,I,e,q⟩
 by_cases l:0<=i
 .have f:i.toNat=j:=by rw[seqIndex_of l C]at h1;exact Option.some.inj h1
  exact item_listR pl.isList l (by lia) (by rw[f];simpa using k) fin g
 .have f:(i+(d.toArray.size:Int)).toNat=j:=by rw[seqIndex_neg (by lia) B]at h1;rw[List.size_toArray,<-D];exact Option.some.inj h1
  exact subscriptTail_builtinR (x:=w) pl.isList.typeIs slot_list_getitem.lookup
   (wpAny_getItem_list_neg (Q:=fun r E=>r=w/\EP X c Y Q r E) pl.isList (by lia) (by rw[List.size_toArray]<;>lia) (by lia) (by rw[f];simpa using k) ⟨rfl,fin⟩) g
theorem IS:jf X (ud X.K):=by
 intro value slice c s Y H x y v u Q I e f h g;obtain⟨p,B,i,z,rfl,rfl,k,l,q⟩:=h;cases e;obtain⟨t,rfl⟩:=f;obtain⟨m,r,pl,C⟩:=I.tuple k;obtain⟨j,h1,h2,h3,D,E⟩:=yb l;obtain⟨w,n,d⟩:=r.get h2;have o:=r.length;have G:=eg;have fin:EP X c Y Q w s:=⟨z,H,I,d,q⟩
 exact subscriptTail_builtinR (x:=w) pl.typeIs slot_tuple_getitem.lookup
  (getItem_tuple (j:=j) (Q:=fun r A=>r=w/\EP X c Y Q r A) pl (by lia) (by lia) (by rw[List.size_toArray,<-o];exact h1) (by simpa using n) ⟨rfl,fin⟩) g
theorem IT(c:List Value)(n j u):Obj.mapSeq (·.setIfInBounds j u) { cls:=.type "list",data:=.seq c.toArray n } = { cls:=.type "list",data:=.seq (c.set j u).toArray n }:=by simp[Obj.mapSeq]
theorem Inv.lst{Y:St}(I:Inv X d Y H s)(h:H p=some (.lst f)) :
  ∃(c:List Value) (n:Nat),bi f c/\s.heap.get? p=some { cls:=.type "list",data:=.seq c.toArray n }/\f.length<=sizeLine:=by
 obtain⟨z,c,n,r,e⟩:=I.hok p _ h;exact⟨c,n,r,e,z⟩
theorem Inv.lstUpd{Y:St}{g :List Value}(I:Inv X d Y H s)(h:H p=some (.lst l))
  (o:s.heap.get? p=some { cls:=.type "list",data:=.seq g.toArray n }) (k:f { cls:=.type "list",data:=.seq g.toArray n } = { cls:=.type "list",data:=.seq c.toArray j }) (r:bi i c) (m:i.length<=sizeLine) (t) :
  Inv X d Y (aI H p (.lst i)) { s with heap:=s.heap.update p f,toks:=t }:=by
 have e:(s.heap.update p f).get? p=some { cls:=.type "list",data:=.seq c.toArray j }:=by rw[Heap.get?_update_self f o (by rw[k]<;>rfl),k]
 refine I.write (x:=p) (e:=p) (by rw[h];trivial) (.inl rfl) (fun b u v q=>(Heap.get?_update_other _ _ (Ne.symm v)).trans q) ⟨_,e⟩ ?_;exact⟨m,c,j,r,e⟩
def IU:V->V->V->Hp->(Hp->Prop)->Prop:=fun o i v H Q=>∃p c k j,o=.ref p/\i=.int k/\H p=some (.lst c)/\dj c.length k=some j/\Q (aI H p (.lst (c.set j v)))
theorem IW:xu X IU:=by
 intro c s Y H o i v E G u Q I D y z h;obtain⟨p,A,k,j,rfl,rfl,l,B,q⟩:=h;cases D;obtain⟨t,rfl⟩:=y;obtain⟨d,n,r,ho,C⟩:=I.lst l;obtain⟨e,h2,h3,m⟩:=ya B;have f:=r.length;have J:=eg;have w:Inv X c Y (aI H p (.lst (A.set j v))) { s with heap:=s.heap.update p (Obj.mapSeq (·.setIfInBounds j u)) }:=
  I.lstUpd l ho (IT d n j u) (r.set z j) (by rw[List.length_set];exact C) s.toks
 by_cases x:0<=k
 .have g:k.toNat=j:=by rw[seqIndex_of x m]at e;exact Option.some.inj e
  exact PySem.W.ki_setAt ho x (by lia) (by rw[List.size_toArray,<-f];exact m) (by rw[g];exact⟨_,w,q⟩)
 .have g:(k+(d.toArray.size:Int)).toNat=j:=by rw[seqIndex_neg (by lia) h3]at e;rw[List.size_toArray,<-f];exact Option.some.inj e
  exact PySem.W.ki_setBack ho (by lia) (by rw[List.size_toArray,<-f];exact h3) (by lia) (by rw[g];exact⟨_,w,q⟩)
theorem IY(lo c n):(sliceBounds lo c none n).1=((HT.sIx n 0 lo:Nat):Int)/\(sliceBounds lo c none n).2.1=((HT.sIx n n c:Nat):Int)/\(sliceBounds lo c none n).2.2=1:=by
 refine⟨?_,?_,rfl⟩
 .cases lo with
  |none=>simp[sliceBounds,HT.sIx]
  |some i=>
   simp only[sliceBounds,HT.sIx,Option.getD_none,show(1:Int)>0 by decide,if_true]
   by_cases h:i<0
   .simp only[h,if_true]<;>lia
   .simp only[h,if_false]<;>lia
 .cases c with
  |none=>simp[sliceBounds,HT.sIx]
  |some i=>
   simp only[sliceBounds,HT.sIx,Option.getD_none,show(1:Int)>0 by decide,if_true]
   by_cases h:i<0
   .simp only[h,if_true]<;>lia
   .simp only[h,if_false]<;>lia
theorem IZ(c:List Value)(lo d):slicePick c.toArray lo d none=((c.drop (HT.sIx c.length 0 lo)).take (HT.sIx c.length c.length d - HT.sIx c.length 0 lo)).toArray:=by obtain⟨e,h2,h3⟩:=IY lo d c.toArray.size;unfold slicePick;rw[e,h2,h3];simp only[sliceRange_one,pick_run,List.size_toArray]<;>rfl
def Ja(K:Frag):V->Option Int->Option Int->Hp->VK->Prop:=fun x lo d H Q=>∃a c,x=.ref a/\cE K H a c/\∀p,H p=none->Q (.ref p) (aI H p (.lst (lO c lo d)))
theorem Jb:xZ X (Ja X.K):=by intro f s Y H x v t u lo e w Q I i j p k h;obtain⟨a,c,rfl,l,q⟩:=h;cases i;obtain⟨m,r,g,n⟩:=I.list l;have d:=r.length;refine⟨"list",_,slot_list_getitem.lookup,g.isList.typeIs,?_⟩;refine wpAny_getItem_list_slice g.isList j p k .none (by simp) ?_ (by rw[List.size_toArray]<;>lia);rw[IZ,<-d];refine⟨.ref s.heap.objs.size,_,I.laid (t':=s.toks) (o:=.lst (lO c lo e)) (fun b y q=>aS _ q) (bb _) ?_,rfl,q _ (I.hok.fresh (bb _))⟩;exact⟨Nat.le_trans (IP c lo e) n,_,0,(r.drop (HT.sIx c.length 0 lo)).take (HT.sIx c.length c.length e - HT.sIx c.length 0 lo),Heap.get?_push_size _ rfl⟩
noncomputable def jg:V->Bool
 |.non=>true
 |.bl _=>true
 |.int _=>true
 |.str _=>true
 |_=>false
noncomputable def jh:V->V->Bool
 |.non,.non=>true
 |.bl a,.bl b=>a==b
 |.bl a,.int b=>(if a then 1 else 0)==b
 |.int a,.bl b=>a==(if b then 1 else 0)
 |.int a,.int b=>a==b
 |.str a,.str b=>a==b
 |_,_=>false
theorem Jc(d:bf y u)(c:bf x v)(f:jg y=true)(e:jg x=true):SeqAt.EqAt A s u v (jh y x):=by
 cases y with
 |non=>
  cases d;cases x with
  |non=>cases c;exact SeqAt.EqAt.same _
  |bl b=>cases c;exact SeqAt.EqAt.none_bool b
  |int b=>obtain⟨t,rfl⟩:=c;exact SeqAt.EqAt.none_int b t
  |str b=>obtain⟨t,rfl⟩:=c;exact SeqAt.EqAt.none_str b t
  |_=>exact absurd (show false=true from e) Bool.false_ne_true
 |bl a=>
  cases d;cases x with
  |non=>cases c;exact SeqAt.EqAt.bool_none a
  |bl b=>cases c;exact SeqAt.EqAt.bool_bool a b
  |int b=>obtain⟨t,rfl⟩:=c;exact SeqAt.EqAt.bool_int a b t
  |str b=>obtain⟨t,rfl⟩:=c;exact SeqAt.EqAt.bool_str a b t
  |_=>exact absurd (show false=true from e) Bool.false_ne_true
 |int a=>
  obtain⟨t',rfl⟩:=d;cases x with
  |non=>cases c;exact SeqAt.EqAt.int_none a t'
  |bl b=>cases c;exact SeqAt.EqAt.int_bool a t' b
  |int b=>obtain⟨t,rfl⟩:=c;exact SeqAt.EqAt.int_int a t' b t
  |str b=>obtain⟨t,rfl⟩:=c;exact SeqAt.EqAt.int_str a t' b t
  |_=>exact absurd (show false=true from e) Bool.false_ne_true
 |str a=>
  obtain⟨t',rfl⟩:=d;cases x with
  |non=>cases c;exact SeqAt.EqAt.str_none a t'
  |bl b=>cases c;exact SeqAt.EqAt.str_bool a t' b
  |int b=>obtain⟨t,rfl⟩:=c;exact SeqAt.EqAt.str_int a t' b t
  |str b=>obtain⟨t,rfl⟩:=c;exact SeqAt.EqAt.str_str a t' b t
  |_=>exact absurd (show false=true from e) Bool.false_ne_true
 |_=>exact absurd (show false=true from f) Bool.false_ne_true
theorem iz:gr X (.builtin "len") (fun i H Q=>∃p d,i=[.ref p]/\(cE X.K H p d\/cZ X.K H p d)/\Q (.int d.length) H):=by
 intro j s Y H i m Q I r h;obtain⟨p,d,rfl,e,q⟩:=h;obtain⟨u,rfl,k⟩:=vals1 r;cases k;have n:=eg;rcases e with e |e
 .obtain⟨f,g,pl,l⟩:=I.list e;have c:=g.length;exact Calls.call_len_list pl.isList (by simp only[List.size_toArray]<;>lia) ⟨.int d.length,H,I.tok _,⟨s.toks+1,by rw[List.size_toArray,c]⟩,q⟩
 .obtain⟨f,g,pl,l⟩:=I.tuple e;have c:=g.length;exact len_tuple pl (by simp only[List.size_toArray]<;>lia) ⟨.int d.length,H,I.tok _,⟨s.toks+1,by rw[List.size_toArray,c]⟩,q⟩
theorem Jd:gr X (.type "list") (fun y H Q=>∃p f,y=[.ref p]/\(cE X.K H p f\/cZ X.K H p f)/\∀l,H l=none->Q (.ref l) (aI H l (.lst f))):=by
 intro j s Y H y B Q I r h;obtain⟨p,f,rfl,k,q⟩:=h;obtain⟨u,rfl,A⟩:=vals1 r;cases A;have fin:∀(c:List Value),bi f c->f.length<=sizeLine->∀(d:Heap) (g:Nat),(∀b z,s.heap.get? b=some z->d.get? b=some z)->
   d.get? s.heap.objs.size=some { cls:=.type "list",dict:=none,data:=.seq c.toArray g,slots:=#[] }->EP X j Y Q (.ref s.heap.objs.size) { s with heap:=d }:=fun c i m d g v e=>
  ⟨.ref s.heap.objs.size,_,I.laid (t':=s.toks) v (bb _) (show cz X.prog X.w _ d _ (.lst f) from⟨m,c,g,i,e⟩),rfl,q _ (I.hok.fresh (bb _))⟩
 rcases k with k |k
 .obtain⟨c,i,pl,m⟩:=I.list k;have t:=i.length;obtain⟨o,ho,x,n,hd⟩:=pl.isList;exact call_list_seq p (.inl rfl) ho x hd (fun d g v e=>fin c i m d g v e) (by simp only[List.size_toArray]<;>lia)
 .obtain⟨c,i,pl,m⟩:=I.tuple k;have t:=i.length;obtain⟨o,ho,x,n,hd⟩:=pl;exact call_list_seq p (.inr rfl) ho x hd (fun d g v e=>fin c i m d g v e) (by simp only[List.size_toArray]<;>lia)
theorem Je:gr X (.type "tuple") (fun k H Q=>∃p f,k=[.ref p]/\((cE X.K H p f/\∀l,H l=none->Q (.ref l) (aI H l (.tup f)))\/(cZ X.K H p f/\Q (.ref p) H))):=by
 intro c s Y H k y Q I r h;obtain⟨p,f,rfl,h⟩:=h;obtain⟨u,rfl,t⟩:=vals1 r;cases t;rcases h with⟨i,q⟩ |⟨i,q⟩
 .obtain⟨d,j,pl,m⟩:=I.list i;have n:=j.length;refine call_tuple_list pl.isList (fun g x=>?_) (by simp only[List.size_toArray]<;>lia);have I1:Inv X c Y H { s with heap:=g }:=I.kept (t':=s.toks) x;have v:Inv X c Y (aI H g.objs.size (.tup f)) { s with heap:=g.push { cls:=.type "tuple",data:=.seq d.toArray } }:=
   I1.laid (t':=s.toks) (fun b o e=>aS _ e) (bb _) (show cz X.prog X.w _ _ _ (.tup f) from⟨m,d,j,IsTup.new _ _⟩)
  exact⟨.ref g.objs.size,_,v,rfl,q _ (I1.hok.fresh (bb _))⟩
 .obtain⟨d,j,pl,m⟩:=I.tuple i;exact call_tuple_same pl ⟨.ref p,H,I,rfl,q⟩
def yc(K:Frag)(T:String)(x:V)(H:Hp):Prop:=match x with
 |.str _=>T="str"
 |.int _=>T="int"
 |.ref p=>(T="list"/\∃d,cE K H p d)\/(T="tuple"/\∃o,K.lookup p=some o/\o.cls=.type "tuple"/\o.dict=none)\/
   (T="dict"/\((∃c,H p=some (.dK c))\/∃c,H p=some (.dT c)))\/(T="set"/\∃S n,H p=some (.set S n))
 |_=>False
theorem Jf{Y:St}(I:Inv X f Y H s)(r:bf x v)(g:yc X.K T x H) :
  s.TypeIs v T/\∀a,v=.ref a->∃k,s.heap.get? a=some k/\k.dict=none:=by
 cases x with
 |str z=>obtain⟨t,rfl⟩:=r;cases(show T="str" from g);exact⟨typeIs_str s z t,fun _ e=>nomatch e⟩
 |int i=>obtain⟨t,rfl⟩:=r;cases(show T="int" from g);exact⟨typeIs_int s i t,fun _ e=>nomatch e⟩
 |ref p=>
  cases r;rcases g with⟨rfl,u,l⟩ |⟨rfl,o,d,m,hd⟩ |⟨rfl,d⟩ |⟨rfl,S,n,d⟩
  .obtain⟨q,_,pl,_⟩:=I.list l;refine⟨pl.isList.typeIs,fun a e=>?_⟩;cases e;obtain⟨o,n,e,c,hd,_⟩:=pl;exact⟨o,e,hd⟩
  .refine⟨⟨o,I.kIn p o d,m⟩,fun a e=>?_⟩;cases e;exact⟨o,I.kIn _ o d,hd⟩
  .have z:∃o,s.heap.get? p=some o/\o.ExactDict:=by
    rcases d with⟨h,d⟩ |⟨h,d⟩
    .obtain⟨_,_,_,_,o,_,_,e,ex,_⟩:=I.hok p _ d;exact⟨o,e,ex⟩
    .obtain⟨_,_,_,_,o,_,_,e,ex,_⟩:=I.hok p _ d;exact⟨o,e,ex⟩
   obtain⟨o,e,ex⟩:=z;refine⟨⟨o,e,ex.1⟩,fun a j=>?_⟩;cases j;exact⟨o,e,ex.2.1⟩
  .obtain⟨o,_,_,_,e,ex,_⟩:=I.hok p _ d;refine⟨⟨o,e,ex.1⟩,fun a j=>?_⟩;cases j;exact⟨o,e,ex.2.1⟩
 |_=>exact False.elim g
def Jg(K:Frag)(T:String)(r:V->List V->Hp->VK->Prop)(f:TE)(t:TA):TE:=fun Y H Q=>f Y H fun x c=>yc K T x c/\t Y c fun d e=>r x d e Q
theorem uf{apos:Pos}{cpos:Pos}{id:String}(pa:PlainAttrs T)(slot:Slot T name id)(l:typeOf (.builtin id)=pure (.type "method_descriptor"))(p:ua X id r)(J:PE X o to)(q:PA X (e::es) t)
  (f:autoParam (attributeBase o name X.env (eval o X.env)=eval o X.env) Zq._auto_1)
  (i:autoParam (((backTo cpos (starEach (e::es) X.env)).all (fun x=>!x.1)&&(backToKw cpos (keywordEach [] X.env)).all (fun x=>x.1.isSome)
   && decide ((e::es).length+([]:List Keyword).length+(if ([]:List Keyword).isEmpty then 0 else 1)<30))=true) Zq._auto_1)
  (g:autoParam ((apos.endLine==cpos.line)=true) Zq._auto_1) (u:autoParam (starEach (e::es) X.env=(false,eval e X.env)::starEach es X.env) Zq._auto_1) (d:autoParam ((backTo cpos (starEach es X.env)).any (·.1)=false) Zq._auto_1) :
  PE X (.Call (.Attribute o name apos) (e::es) [] cpos) (Jg X.K T r to t):=by
 intro c s Y H Q I h;refine wpAny_Call_method_late f i g rfl (aN (J c s Y H _ I h) fun v w j=>?_);obtain⟨x,y,I1,m,ty,z⟩:=j;obtain⟨L,h2⟩:=Jf I1 m ty;refine⟨T,id,pa,slot,l,L,h2,?_⟩;have n:=q cpos c w Y y _ I1 z;rw[u]at n ⊢;refine Calls.callWith_builtin (by show(false||(backTo cpos (starEach es X.env)).any (·.1))=false;rw[d]<;>rfl) (Calls.evalArgs_plain ?_);exact aN n fun A B k=>by obtain⟨vs,C,D,E,G⟩:=k;exact p c B Y C x vs v A Q D m E G
def Jh(X:Cx)(id:String)(r:V->List V->Hp->VK->Prop):Prop:=
 ∀(a:List (Addr×Obj)) (s:Shared) (Y:St) (H:Hp) (x:V) (b:List V) (v:Value) (c:List Value) (Q:VK),Inv X a Y H s->bf x v->bi b c->r x b H Q->
  wpAny (model X.prog X.w) X.A (call (.builtin id) (v::c)) (EP X a Y Q) X.xe s
theorem bi.one:∀{x a},bi [x] a->∃u,a=[u]/\bf x u
 |_,_,.cons r .nil=>⟨_,rfl,r⟩
theorem bi.rep(h:bi a b):∀k,bi (List.replicate k a).flatten (List.replicate k b).flatten
 |0=>.nil
 |k+1=>by rw[List.replicate_succ,List.replicate_succ,List.flatten_cons,List.flatten_cons];exact bi.append h (bi.rep h k)
theorem ug(a):∀k (b:List Value),
  List.foldl (fun c d=>c++d) b.toArray (List.replicate k a.toArray)=(b++(List.replicate k a).flatten).toArray
 |0,b=>by simp
 |k+1,b=>by
  have e:b.toArray++a.toArray=(b++a).toArray:=by simp
  have f:(b++a)++(List.replicate k a).flatten=b++(List.replicate (k+1) a).flatten:=by rw[List.replicate_succ,List.flatten_cons,List.append_assoc]
  rw[<-f,<-ug a k (b++a),<-e,List.replicate_succ,List.foldl_cons]
theorem Inv.lset{Y:St}{a :List Value}(I:Inv X pins Y H s)(c:H l=some (.lst xs))
  (e:s.heap.get? l=some { cls:=.type "list",data:=.seq a.toArray n }) (d:f a.toArray=its'.toArray) (g:bi ys its') (h:ys.length<=sizeLine) :
  Inv X pins Y (aI H l (.lst ys)) { s with heap:=s.heap.update l (Obj.mapSeq f),toks:=t' }:=by
 have q:=PySem.IsL.update e f;rw[d]at q;refine I.write (x:=l) (e:=l) (by rw[c];exact trivial) (.inl rfl) (fun k u j i=>(Heap.get?_update_other s.heap (Obj.mapSeq f) (Ne.symm j)).trans i) ⟨_,q⟩ ?_;exact⟨h,its',_,g,q⟩
theorem Inv.lnew{Y:St}(I:Inv X pins Y H s)(c:bi ys a)(d:ys.length<=sizeLine) :
  Inv X pins Y (aI H s.heap.objs.size (.lst ys)) { s with heap:=s.heap.push { cls:=.type "list",data:=.seq a.toArray },toks:=t' }:=
 I.laid (fun _ _ q=>aS _ q) (bb _) ⟨d,a,0,c,Heap.get?_push_size _ rfl⟩
theorem Inv.fresh{Y:St}(I:Inv X pins Y H s):H s.heap.objs.size=none:=I.hok.fresh (bb _)
theorem Inv.lstM{Y:St}(I:Inv X pins Y H s)(c:H l=some (.lst xs)):xs.length<=sizeLine/\∃(a:List Value) (n:Nat),bi xs a/\xs.length=a.length/\s.heap.get? l=some { cls:=.type "list",data:=.seq a.toArray n }:=by obtain⟨z,a,n,r,e⟩:=I.hok l _ c;exact⟨z,a,n,r,r.length,e⟩
theorem Ji(h:n<=sizeLine):Builtin.List.listTooLong n=false:=by unfold Builtin.List.listTooLong;exact decide_eq_false (by lia)
def Jj:V->List V->Hp->VK->Prop:=fun x vs H Q=>∃l a y,x=.ref l/\vs=[y]/\H l=some (.lst a)/\a.length<sizeLine/\Q .non (aI H l (.lst (a++[y])))
theorem yd:Jh X "list.append" Jj:=by intro b s Y H x vs v g Q I d f h;obtain⟨l,i,y,rfl,rfl,c,j,q⟩:=h;cases d;obtain⟨u,rfl,ru⟩:=f.one;obtain⟨z,a,n,r,k,e⟩:=I.lstM c;refine call_meets F.slot_list_append ⟨_,e,rfl⟩ F.entry_list_append (F.args_list_append_2 _ _) (PySem.list_append l a.toArray n u (by rw[List.size_toArray];lia)) ⟨e,?_⟩;refine⟨.non,_,I.lset (its':=a++[u]) c e (by simp) (r.append (.cons ru .nil)) ?_,rfl,q⟩;rw[List.length_append,List.length_singleton];lia
def ye:R2:=fun x y H Q=>∃l b a c,x=.ref l/\y=.ref b/\H l=some (.lst a)/\H b=some (.lst c)/\a.length+c.length<=sizeLine/\∀p,H p=none->Q (.ref p) (aI H p (.lst (a++c)))
theorem Jk:cx X (binaryOp .Add) ye:=by
 intro d s Y H x y v u Q I f g h;obtain⟨l,b,p,t,rfl,rfl,i,hB,w,q⟩:=h;cases f;cases g;obtain⟨z,c,n,r,A,e⟩:=I.lstM i;obtain⟨B,a,C,j,k,m⟩:=I.lstM hB;refine PySem.P.add_list e m ?_ (by rw[List.size_toArray,List.size_toArray];lia);have o:c.toArray++a.toArray=(c++a).toArray:=by simp
 rw[o];exact⟨.ref _,_,I.lnew (t':=s.toks) (r.append j) (by rw[List.length_append];lia),rfl,q _ I.fresh⟩
def yf:R2:=fun x y H Q=>∃l k a,x=.ref l/\y=.int k/\H l=some (.lst a)/\-(2 ^ 63)<=k/\k<2 ^ 63/\a.length * k.toNat<=sizeLine/\
 ∀p,H p=none->Q (.ref p) (aI H p (.lst (List.replicate k.toNat a).flatten))
theorem uh{α:Type}(a:List α)(k):(List.replicate k a).flatten.length=k * a.length:=by
 induction k with
 |zero=>simp
 |succ k b=>rw[List.replicate_succ,List.flatten_cons,List.length_append,b,Nat.succ_mul,Nat.add_comm]
theorem Jl:cx X (binaryOp .Mult) yf:=by
 intro p s Y H x y v u Q I A B h;obtain⟨l,k,J,rfl,rfl,C,h1,h2,w,q⟩:=h;cases A;obtain⟨t,rfl⟩:=B;obtain⟨z,b,n,r,D,e⟩:=I.lstM C;have d:b.toArray.size * k.toNat<=sizeLine:=by rw[List.size_toArray,<-D];exact w
 have f:¬ b.toArray.size * k.toNat>(2 ^ 63 - 1) / 8:=by
  have:(sizeLine:Nat)<=(2 ^ 63 - 1) / 8:=by decide
  lia
 have g:¬ (!Builtin.List.listFitsIndex k)=true:=by rw[fitsIndex_both h1 h2];exact Bool.false_ne_true
 have c:¬ Builtin.List.listTooLong (b.toArray.size * k.toNat)=true:=by rw[Ji d];exact Bool.false_ne_true
 have i:List.foldl (fun j o=>j++o) #[] (List.replicate (if b.toArray.isEmpty=true then 0 else k.toNat) b.toArray)=(List.replicate k.toNat b).flatten.toArray:=by
  have E:∀m:Nat,List.foldl (fun j o=>j++o) #[] (List.replicate m b.toArray)=(List.replicate m b).flatten.toArray:=fun m=>by have:=ug b m [];rw[List.nil_append]at this;exact this
  rw[E];cases b with
  |nil=>simp
  |cons a L=>rw[if_neg (by simp)]
 refine wpAny_binaryOp_repeat_ref (T:="list") (U:="int") (by decide) ⟨_,e,rfl⟩ (fun G=>typeIs_int G k t) noFill_list_mul F.fills_int_mul F.slot_int_rmul repeat_list F.slot_int_index.lookup
  (call_meets F.slot_int_rmul (typeIs_int s k t) F.entry_int_rmul (F.args_int_rmul_2 _ _) (int___rmul___int_list k t l b.toArray n)
   ⟨e,rfl,⟨_,e,rfl⟩,call_meets F.slot_list_mul ⟨_,e,rfl⟩ F.entry_list_mul (F.args_list_mul_2 _ _) (AutoListH.list___mul___list_int_3 l b.toArray n k t g f c) ⟨e,?_⟩⟩)
 rw[i];exact⟨.ref _,_,I.lnew (t':=s.toks) (r.rep k.toNat) (by rw[uh,Nat.mul_comm];exact w),rfl,q _ I.fresh⟩
end L2
namespace Att
open PySem PySem.W PySem.Calls PyProof.Rows
theorem Jm:∀c  vs,WellAll P h vs (c.map WData.int)->IntsAre vs c:=by
 intro c
 induction c with
 |nil=>intro vs w;rw[List.map_nil]at w;cases w;exact .nil
 |cons n c d=>
  intro vs w;rw[List.map_cons]at w;cases w with
  |cons a b=>cases a;exact .cons _ _ (d _ b)
theorem Jn{l:OpenLaw}(p:l.most=some n)
  (e:l.row.toRowW.claim.pre args=true) (k:WellAll P h c args) :
  ∃a vs b,c=[Value.ref a]/\args=[WData.list (b.map WData.int)]/\h.get? a=some { cls:=.type "list",data:=.seq vs.toArray }/\IntsAre vs b/\b.length<=n:=by
 have m:WShape.hasAll [] args [.list .int]=true:=(pre_splitW e).1;have o:l.pre.holds [] { args:=args }=true:=(pre_splitW e).2;obtain⟨d,r,rfl,h1,h2⟩:=hasAllW_cons m;obtain rfl:=hasAllW_nil h2;obtain⟨v,rfl,h3⟩:=hasW_list h1;obtain⟨b,rfl⟩:=items_int h3;have f:b.length<=n:=by
  unfold OpenLaw.pre at o;have i:(WTm.not (.lt (.lit (.int (n:Int))) (.len (.arg 0)))).holds [] { args:=[.list (b.map .int)] }=true:=by have i:=(holds_andW o).1;rw[p]at i;exact i
  have j:=condW_of i (w_not (w_lt w_lit (w_len_list (w_arg rfl))));rw[List.length_map]at j;refine Nat.le_of_not_lt fun q=>?_;have s:(n:Int)<((b.length:Nat):Int):=by lia
  first
   |(rw[decide_eq_true s]at j;exact absurd j (by decide))
   |(simp at j;lia)
 cases k with
 |cons t u=>
  cases u;cases t with
  |list ho g=>exact⟨_,_,b,rfl,rfl,ho,Jm b _ g,f⟩
theorem Jo(l:OpenLaw)(args):l.row.toRowW.claim.post args (.bool true) args=true:=
 postW_of (r:=l.row.toRowW) (X:=(true==true))
  (show WShape.has [] (.bool true) .bool=true by first |rfl |decide |simp[WShape.has,WShape.arms,WShape.armsAll])
  (show(WTm.eq .res (.lit (.bool true))).value [] { args:=args,res:=some (.bool true),after:=args }=some (.bool (true==true)) from w_eq_bool (w_res rfl) w_lit) rfl
theorem attach_call{l:OpenLaw}
  (H:l.most=some n) (t:d.params.defaults=[])
  (call:∀w  z c  mg u  h  o  pm m e  a  vs  s,
   Ground q b [] A w z mg u c.heap->B w c.heap->
   c.heap.get? h=some o->o.data=.func (docDef d.name d.params d.body d.scope pm m e)->c.heap.CodeRec m d.name->mg d.name=some (.ref h)->
   c.heap.get? a=some { cls:=.type "list",data:=.seq vs.toArray }->IntsAre vs s->s.length<=n->c.gens = #[]->
   codeAny (model l.prog w) callerA (.call (.ref h) ⟨[.ref a],[]⟩) (fun r p=>r=.ok (.ret (.bool true))/\OldK c.heap p.heap/\p.os=c.os/\AllBare p.gens) c) :
  WalkO q b A B l.row.toRowW d [] (fun f vs=>PySem.call f vs):=by
 intro w z c mg u G I h o pm m e dV kV T hd v C x J args D as i E L y M;obtain rfl:dV=.none:=Dflts.none C t;obtain rfl:kV=.none:=Dflts.noKw C;obtain⟨a,vs,s,rfl,rfl,j,g,k⟩:=Jn H i y;refine enter_call (codeAny_mono (call w z c mg u h o pm m e a vs s G I T (fd_plain hd) v x j g k J) fun r p N=>?_);obtain⟨rfl,h2,h3,O⟩:=N;exact⟨.inl ⟨.bool true,.bool true,[],rfl,fun _=>rfl,.bool true,Jo l _,fun _=>⟨List.Pairwise.nil,fun _ Q=>(nomatch Q)⟩⟩,h2,h3,O⟩
end Att
namespace L2
open PySem PySem.Spec PyProof.Rows
theorem yg:∀{vs a},IntsAre vs a->bi (a.map V.int) vs
 |_,_,.nil=>.nil
 |_,_,.cons n t h=>.cons ⟨t,rfl⟩ (yg h)
def ui(H:Hp):Prop:=∀b,H b=none\/∃o a,H b=some (.frz o (.lst a))
theorem Jp{K}
  (X:K.In c.heap) (p:c.heap.Ns mainGlobals mg) (g:c.heap.Ns builtinsNs L) (N:∀x:Str,x≠"__name__"->L x=bootBuiltins x) (t:c.heap.NoLimit) (hg:c.gens = #[])
  (J:c.heap.get? a=some { cls:=.type "list",data:=.seq vs.toArray }) (Y:IntsAre vs G) (Z:G.length<=sizeLine) (hr:bx k callerA)
  (F:∀base,K.In base->base.Ns mainGlobals mg->cj P w K mg base T k M fd [x] U) (l:∀s  u,BindsTo s fd ⟨[u],[]⟩ [(x,u)])
  (hsp:∀H,ui H->cE K H a (G.map V.int)->U [.ref a] H (fun v _=>v=.bl true) fun _ _ _=>False)
  (O:∀H e i,T [] H c (fun _ _ _=>False) e i->False) :
  codeAny (model P w) callerA (.call (.ref M) ⟨[.ref a],[]⟩) (fun r i=>r=.ok (.ret (.bool true))/\OldK c.heap i.heap/\i.os=c.os/\AllBare i.gens) c:=by
 have rv:=yg Y;have y:=Y.length;have core:∀H:Hp,ui H->cE K H a (G.map V.int)->bG P w H c.heap->(∀b,H b≠none->b=a)->(H a≠none->K.lookup a=none)->
   codeAny (model P w) callerA (.call (.ref M) ⟨[.ref a],[]⟩) (fun r i=>r=.ok (.ret (.bool true))/\OldK c.heap i.heap/\i.os=c.os/\AllBare i.gens) c:=by
  intro H hO hS I hA hK;have f:∀{b:Addr}{o:Obj},c.heap.get? b=some o->H b=none->(jc c.heap H).get? b=some o:=fun e n=>Gk e n;have Q:∀{b:Addr}{o:Obj}{A:Array DictEntry}{B:Nat},c.heap.get? b=some o->o.data=.dict A B->H b=none:=fun {b o A B} e d=>by
   cases q:H b with
   |none=>rfl
   |some u=>have R:b=a:=hA b (by rw[q];simp);subst R;rw[J]at e;cases e;have d':Data.seq vs.toArray _=Data.dict A B:=d;cases d'
  have j:∀{b:Addr}{m:Str->Option Value},c.heap.Ns b m->(jc c.heap H).Ns b m:=fun {b m} C=>by obtain⟨o,A,B,e,d,r⟩:=C;exact⟨o,A,B,f e (Q e d),d,r⟩
  have D:K.In (jc c.heap H):=fun b o e=>f (X b o e) (by
   cases q:H b with
   |none=>rfl
   |some u=>
    have R:b=a:=hA b (by rw[q];simp);subst R;rw[hK (by rw[q];simp)]at e;cases e)
  have hM:Mod K mg (jc c.heap H):=⟨D,j p,⟨L,j g,N⟩,let⟨mc,h1,h2⟩:=t;⟨mc,j h1,h2⟩⟩
  have e0:fo P w K mg (jc c.heap H) callerA [] c H:=⟨rfl,hM,fun b o e=>Gm e,Nat.le_of_eq (Gj _ _),trivial,fun b g=>absurd (show b∈([]:List Addr) from g) (by simp),I,.of_eq hg⟩
  refine codeAny_mono ((F _ D (j p)).run callerA [] c H ⟨[.ref a],[]⟩ [.ref a] [.ref a] _ _ hr e0 (l c (.ref a)) (.cons rfl .nil) (hsp H hO hS)) fun r i h=>?_;cases r with
  |error e=>exact(O H e i h).elim
  |ok fl=>
   cases fl with
   |next=>exact False.elim h
   |brk=>exact False.elim h
   |cont=>exact False.elim h
   |ret u=>
    obtain⟨v,H',os,bare,un,E,r',q⟩:=h;have q':v=.bl true:=q;subst q';obtain rfl:u=Value.bool true:=r';refine⟨rfl,OldK.of_keep fun b o e=>?_,os,bare⟩;cases q:H b with
    |none=>exact un.keep b o e q (by intro z;exact absurd (show b∈([]:List Addr) from z) (by simp)) (by simp)
    |some u=>
     rcases hO b with z |⟨ob,xs,z⟩
     .rw[q]at z;cases z
     .have z2:=un.frzs b ob _ z;obtain⟨e1,_⟩:=I b _ z;obtain⟨e2,_⟩:=E b _ z2;rw[e]at e1;cases e1;exact e2
 cases S:K.lookup a with
 |some o=>have e:=X a o S;rw[J]at e;cases e;refine core (fun _=>none) (fun _=>.inl rfl) (.inr ⟨_,vs.toArray,_,S,rfl,rfl,rfl,by rw[List.size_toArray,y];exact Z,by simpa using rv⟩) (fun b u z=>by have z':(none:Option HO)=some u:=z;cases z') (fun b z=>absurd rfl z) fun z=>absurd rfl z
 |none=>
  refine core (fun b=>if b=a then some (.frz { cls:=.type "list",data:=.seq vs.toArray } (.lst (G.map V.int))) else none) (fun b=>?_) (.inl (.inr ⟨{ cls:=.type "list",data:=.seq vs.toArray },if_pos rfl⟩)) (fun b u z=>?_) (fun b z=>?_) fun _=>S
  .by_cases g:b=a
   .exact .inr ⟨_,_,if_pos g⟩
   .exact .inl (if_neg g)
  .by_cases g:b=a
   .have z':=(if_pos g).symm.trans z;cases z';subst g;exact⟨J,by rw[List.length_map];exact Z,vs,_,rv,J⟩
   .have z':=(if_neg g).symm.trans z;cases z'
  .by_cases g:b=a
   .exact g
   .exact absurd (if_neg g) z
theorem walk_of{l:PySem.W.OpenLaw}{K:Params->Frag}{CX:World->gV}{sp:World->Sp}
  (I:l.most=some n) (t:n<=sizeLine) (y:d.params.defaults=[]) (J:bx k callerA)
  (L:∀w  h,C w h->(K w.params).In h)
  (F:∀w  mg  p  h,(K w.params).In h->h.Ns mainGlobals mg->mg d.name=some (.ref p)->
   ∃fd,(∀s  u,BindsTo s fd ⟨[u],[]⟩ [(x,u)])/\
    ∀base,(K w.params).In base->base.Ns mainGlobals mg->cj l.prog w (K w.params) mg base (CX w) k p fd [x] (sp w))
  (hsp:∀w  H  a (r:List Int),r.length<=n->ui H->cE (K w.params) H a (r.map V.int)->sp w [.ref a] H (fun v _=>v=.bl true) fun _ _ _=>False)
  (z:∀w  H  s  e  A,CX w [] H s (fun _ _ _=>False) e A->False) :
  PySem.W.WalkO q i E C l.row.toRowW d [] (fun f vs=>PySem.call f vs):=by
 refine Att.attach_call I y fun w s₀ M mg Y p o pm Z N a vs r G O ho hd Q B m j c R=>?_;have D:=L w _ O;obtain⟨fd,hb,S⟩:=F w mg p _ D G.T.g B;exact Jp D G.T.g G.T.b G.T.builtins G.T.nolimit R m j (Nat.le_trans c t) J S hb (fun H U X=>hsp w H a r c U X) fun H e A=>z w H M e A
noncomputable def fK(s:Stmt)(j:Nat):Stmt:=match s with
 |.ClassDef _ _ _ body _ _ _ _ _ _ _=>body.getD j (.Pass ⟨0,0,0,0⟩)
 |_=>.Pass ⟨0,0,0,0⟩
noncomputable def ji(s:Stmt):Arguments:=match s with
 |.FunctionDef _ a _ _ _ _ _ _ _ _=>a
 |_=>{ posonlyargs:=[],args:=[],vararg:=none,kwonlyargs:=[],kw_defaults:=[],kwarg:=none,defaults:=[] }
noncomputable def gE(s:Stmt):List Stmt:=match s with
 |.FunctionDef _ _ b _ _ _ _ _ _ _=>b
 |_=>[]
noncomputable def dJ(s:Stmt):Scope:=match s with
 |.FunctionDef _ _ _ _ _ _ a _ _ _=>a
 |_=>{ kind:=.function,names:=[],isGenerator:=false,isCoroutine:=false }
structure lP (K:Frag) (x qual:Str) (st:Stmt) (f:Addr) (fd:FuncData):Prop where
 ex:∃(oc:Value) (od:Option Addr) (kV doc pm:Value) (an:Option Addr) (cdv ct:Value) (osl:Array (Option Value)),
  fd=fnOf x qual (ji st) (gE st) (dJ st) .none kV doc pm an cdv ct/\K.lookup f=some ⟨oc,od,.func fd,osl⟩/\codeIn K cdv qual=true
 kp:keepIn K (.ref f)=true
theorem lP.binds{K:Frag}{st}(F:lP K x a st f fd)
  (h:∀kV b pm  e  c i  g,g.length=d.length->bindArgs (fnOf x a (ji st) (gE st) (dJ st) .none kV b pm e c i) ⟨g,[]⟩=pure (d.zip g)):iy K fd d []:=by
 obtain⟨l,m,kV,b,pm,e,c,i,j,rfl,lk,k⟩:=F.ex;exact .all (h kV b pm e c i)
theorem nX{K:Frag}{st}{kV }(l:K.lookup f=some ⟨i,j,.func (fnOf x a (ji st) (gE st) (dJ st) .none kV d pm g b h),e⟩)
  (c:codeIn K b a=true) (k:keepIn K (.ref f)=true):lP K x a st f (fnOf x a (ji st) (gE st) (dJ st) .none kV d pm g b h):=⟨⟨i,j,kV,d,pm,g,b,h,e,rfl,l,c⟩,k⟩
theorem uj(a:bx k A):A.units+1<cLine:=Nat.lt_of_le_of_lt (Nat.add_le_add_left (by decide:1<=64) _) a.units
section
variable{X:Cx}
theorem pv(i){pos}(b:autoParam (X.N[i]? = some x) Zq._auto_1)(c:nO X.env.scope x:=by first |exact Or.inl rfl |exact Or.inr (Or.inl rfl) |exact Or.inr (Or.inr rfl))(hd:autoParam ((x==("__debug__":Str))=false) Zr._auto_1)
  (a:autoParam ((x==("__classdict__":Str))=false) Zr._auto_1):PE X (.Name x pos) (cf i):=Go b c hd a
end
theorem eh{B:Prop}(h:B):if false=true then A else B:=by rw[if_neg Bool.false_ne_true];exact h
theorem ei{B:Prop}(h:A):if true=true then A else B:=by rw[if_pos rfl];exact h
def bR(H a:Hp):Prop:=∀b o,H b=some o->a b=some o
theorem bR.seq{K}(e:bR H b)(h:cE K H a c):cE K b a c:=by
 rcases h with(h |⟨o,h⟩) |h
 .exact .inl (.inl (e _ _ h))
 .exact .inl (.inr ⟨o,e _ _ h⟩)
 .exact .inr h
end L2
set_option maxHeartbeats 4000000
namespace L2
open PySem PySem.Spec PyProof.Rows
section
variable{κ:Type}[DecidableEq κ]
noncomputable def iA(a:List (κ×V))(k:κ):Option V:=(a.find? fun b=>decide (b.1=k)).map (·.2)
noncomputable def eW(a:List (κ×V))(k:κ)(v:V):List (κ×V):=
 if (a.any fun b=>decide (b.1=k))=true then a.map (fun b=>if b.1=k then(b.1,v) else b) else a++[(k,v)]
theorem uk{p:κ×V}(e:p.1=k):iA (p::r) k=some p.2:=by simp[iA,List.find?_cons,e]
theorem um{p:κ×V}(e:¬ p.1=k):iA (p::r) k=iA r k:=by simp[iA,List.find?_cons,e]
theorem qm(k):∀a:List (κ×V),(a.any fun b=>decide (b.1=k))=(iA a k).isSome
 |[]=>rfl
 |p::r=>by
  rw[List.any_cons]
  by_cases e:p.1=k
  .simp only[uk e,decide_eq_true e,Bool.true_or,Option.isSome_some]
  .rw[um e,decide_eq_false e,Bool.false_or];exact qm k r
theorem yh(a)(k:κ)(v):(eW a k v).length<=a.length+1:=by
 unfold eW;split
 .rw[List.length_map];lia
 .rw[List.length_append,List.length_cons,List.length_nil];lia
theorem Jq{a:List (κ×V)}(v)(h:iA a k=none):eW a k v=a++[(k,v)]:=by unfold eW;rw[qm,h];exact if_neg (by decide)
theorem gn.isSome_eq(r:gn o u):o.isSome=u.isSome:=by
 cases o with
 |none=>cases u with
  |none=>rfl
  |some _=>exact(show False from r).elim
 |some _=>cases u with
  |none=>exact(show False from r).elim
  |some _=>rfl
theorem KV.any(r:KV a vs)(k:κ):(a.any fun b=>decide (b.1=k))=vs.any fun b=>decide (b.1=k):=by
 unfold KV at r
 induction r with
 |nil=>rfl
 |cons h t c=>rw[List.any_cons,List.any_cons,c,h.1]
theorem KV.repl(r:KV b vs)(k:κ)(d:bf y u) :
  KV (b.map fun a=>if a.1=k then(a.1,y) else a) (vs.map fun a=>if a.1=k then(a.1,u) else a):=by
 unfold KV at r ⊢
 induction r with
 |nil=>exact .nil
 | @cons p q g i h t f=>
  rw[List.map_cons,List.map_cons];refine .cons ?_ f;obtain⟨c,h2⟩:=h
  by_cases e:p.1=k
  .rw[if_pos e,if_pos (c.symm.trans e)];exact⟨c,d⟩
  .rw[if_neg e,if_neg (fun z=>e (c.trans z))];exact⟨c,h2⟩
theorem KV.put(r:KV a vs)(k:κ)(b:bf y u):KV (eW a k y) (stored vs k u):=by
 unfold eW stored;rw[r.any k]
 by_cases e:(vs.any fun c=>decide (c.1=k))=true
 .rw[if_pos e,if_pos e];exact r.repl k b
 .rw[if_neg e,if_neg e];exact Paired.snoc r ⟨rfl,b⟩
theorem KV.length{a:List (κ×V)}(r:KV a vs):a.length=vs.length:=Paired.length r
end
theorem yi(r:bf (kV k) u):(gm P w).is k u=true:=by
 cases k with
 |inl i=>obtain⟨t,e⟩:=(show ∃t,u=Value.int i t from r);subst e;exact Gg P w i t
 |inr x=>obtain⟨t,e⟩:=(show ∃t,u=Value.str x t from r);subst e;exact Gh P w x t
theorem yj:∀{a b},bi (a.map kV) b->ItemsAre (gm P w) a b
 |[],_,r=>by rw[List.map_nil]at r;cases r;exact .nil
 |k::a,_,r=>by
  rw[List.map_cons]at r;cases r with
  |cons h t=>exact .cons (yi h) (yj t)
abbrev KT(H:Hp):List (List be×V)->List (List be×Addr×Value)->Prop:=Paired fun p q=>p.1=q.1/\H q.2.1=some (.tup (p.1.map kV))/\bf p.2 q.2.2
theorem KT.val(r:KT H a f)(k):gn (iA a k) ((atKey f k).map (·.2)):=by
 induction r with
 |nil=>exact True.intro
 | @cons p q j c h t i=>
  obtain⟨g,_,h2⟩:=h
  by_cases e:p.1=k
  .have d:q.1=k:=g.symm.trans e;have b:atKey (q::c) k=some q.2:=by simp[atKey,List.find?_cons,d]
   rw[uk e,b];exact h2
  .have d:¬ q.1=k:=fun z=>e (g.trans z);have b:atKey (q::c) k=atKey c k:=by simp[atKey,List.find?_cons,d]
   rw[um e,b];exact i
theorem KT.repl(r:KT H a d)(k)(f:bf y u) :
  KT H (a.map fun c=>if c.1=k then(c.1,y) else c) (d.map (putAt k u)):=by
 induction r with
 |nil=>exact .nil
 | @cons p q i j h t g=>
  rw[List.map_cons,List.map_cons];refine .cons ?_ g;obtain⟨b,h2,h3⟩:=h;unfold putAt
  by_cases e:p.1=k
  .rw[if_pos e,if_pos (b.symm.trans e)];exact⟨b,h2,f⟩
  .rw[if_neg e,if_neg (fun z=>e (b.trans z))];exact⟨b,h2,h3⟩
theorem KT.put(r:KT H a c)(k)(g:H b=some (.tup (k.map kV)))(d:bf y u) :
  KT H (eW a k y) (storedH c k b u):=by
 have e:(a.any fun f=>decide (f.1=k))=(atKey c k).isSome:=by rw[qm,(r.val k).isSome_eq,Option.isSome_map]
 unfold eW storedH;rw[e]
 by_cases q:(atKey c k).isSome=true
 .rw[if_pos q,if_pos q];exact r.repl k d
 .rw[if_neg q,if_neg q];exact Paired.snoc r ⟨rfl,g,d⟩
theorem KT.keeps(r:KT H a d)(f:∀b e,H b=some (.tup e)->c b=some (.tup e)):KT c a d:=
 Paired.mapP r fun _ _ z=>⟨z.1,f _ _ z.2.1,z.2.2⟩
theorem yk(ok:bG P w H h)(e:Rd H a u):cz P w H h a u:=e.ok ok
theorem Jr(ok:bG P w H h)(e:Rd H a (.dK b)):b.length<=sizeLine/\(a==sysModules)=false/\∃vs,KV b vs/\h.DictOf (gm P w) a vs:=
 show cz P w H h a (.dK b) from yk ok e
theorem Js(ok:bG P w H h)(e:H a=some (.dK b)):b.length<=sizeLine/\(a==sysModules)=false/\∃vs,KV b vs/\h.DictOf (gm P w) a vs:=Jr ok (.inl e)
theorem yl(ok:bG P w H h)(e:H a=some (.tup (b.map kV))):(tupleKind (gm P w)).is h b a:=by
 obtain⟨_,c,r,o,h1,h2,n,h3⟩:=(show cz P w H h a (.tup (b.map kV)) from ok a _ e)
 exact⟨o,c.toArray,n,h1,h2,h3,by simpa using yj r⟩
theorem Jt(ok:bG P w H h)(e:Rd H a (.dT b)):b.length<=sizeLine/\(a==sysModules)=false/\
  ∃d,KT H b d/\h.DictOfH (tupleKind (gm P w)) a d:=by
 obtain⟨z,y,d,r,o,g,i,h1,h2,h3,j,k⟩:=(show cz P w H h a (.dT b) from yk ok e)
 refine⟨z,y,d,r,o,g,i,h1,h2,h3,j,fun x c=>?_,k⟩;have all:∀{l:List (List be×V)}{m:List (List be×Addr×Value)},KT H l m->∀x∈m,(tupleKind (gm P w)).is h x.1 x.2.1:=by
  intro l m q
  induction q with
  |nil=>intro x c;exact nomatch c
  | @cons p q s u f t n=>
   intro x c;rcases List.mem_cons.mp c with e |c
   .subst e;exact yl ok (by rw[<-f.1];exact f.2.1)
   .exact n x c
 exact all r x c
theorem Ju(ok:bG P w H h)(e:H a=some (.dT b)):b.length<=sizeLine/\(a==sysModules)=false/\
  ∃c,KT H b c/\h.DictOfH (tupleKind (gm P w)) a c:=Jt ok (.inl e)
def kW(H:Hp)(a:Addr)(y v:V)(d:Hp):Prop:=
 (∃c k,H a=some (.dK c)/\y=kV k/\c.length<sizeLine/\d = aI H a (.dK (eW c k v)))\/
 ∃c k b,H a=some (.dT c)/\y=.ref b/\H b=some (.tup (k.map kV))/\c.length<sizeLine/\d = aI H a (.dT (eW c k v))
theorem kW.k{k}(e:H a=some (.dK b))(c:b.length<sizeLine):kW H a (kV k) v (aI H a (.dK (eW b k v))):=.inl ⟨b,k,e,rfl,c,rfl⟩
theorem kW.t{k}(e:H a=some (.dT c))(d:H b=some (.tup (k.map kV)))(f:c.length<sizeLine) :
  kW H a (.ref b) v (aI H a (.dT (eW c k v))):=.inr ⟨c,k,b,e,rfl,d,f,rfl⟩
theorem Inv.big{Y:St}(I:Inv X pins Y H s):sysModules<s.heap.objs.size:=by have h:mainGlobals<s.heap.objs.size:=(I.mod.glob.keeps I.bk).lt;exact Nat.lt_trans (by decide) h
theorem ym{Y:St}(I:Inv X pins Y H s)(f:nN (H a))(g:Heap.SameBut a s.heap c)(h:∃q,c.get? a=some q)(new:cz X.prog X.w (aI H a d) c a d) :
  Inv X pins Y (aI H a d) { s with heap:=c,toks:=t' }:=
 I.write (x:=a) (e:=a) f (.inl rfl) (fun b q i z=>(g.2 b i).trans z) h new
theorem Jv(z:b.length<=sizeLine)(hd:(a==sysModules)=false)(rel:KV b vs)(e:c.DictOf (gm P w) a vs) :
  cz P w d c a (.dK b):=⟨z,hd,vs,rel,e⟩
theorem Jw{Y:St}(M:A.units+1<cLine)(I:Inv X pins Y H s)(g:kW H a y v x)(B:bf y u)(C:bf v r)(h:∀D,Inv X pins Y x D->Q () D) :
  wpAny (model X.prog X.w) A (setItem (.ref a) u r) Q E s:=by
 rcases g with⟨d,k,e,j,l,m⟩ |⟨d,k,b,e,j,G,l,m⟩
 .subst j m;obtain⟨z,hd,vs,rel,dd⟩:=Js I.hok e;have n:vs.length<=sizeLine:=by rw[<-rel.length];exact z
  have p:(eW d k v).length<=sizeLine:=by have:=yh d k v;lia
  refine wpAny_setItem_pairs (hsz:=n) (yi B) dd fun J f t=>h _ ?_;have N:∃q,J.get? a=some q:=let⟨q,_,_,i,_⟩:=f;⟨q,i⟩;exact ym I (by rw[e];exact True.intro) t N (Jv p hd (rel.put k C) f)
 .subst j m;cases(show u=Value.ref b from B);obtain⟨z,hd,O,rel,dd⟩:=Ju I.hok e;have n:O.length<=sizeLine:=by rw[<-Paired.length rel];exact z
  have p:(eW d k v).length<=sizeLine:=by have:=yh d k v;lia
  refine wpAny_setItem_heap (hsz:=n) (tupleKind_room_in1 M) (yl I.hok G) dd fun J f t=>h _ ?_;obtain⟨q,R,S,i,h2,h3,T,_,U⟩:=f;refine ym I (by rw[e];exact True.intro) t ⟨q,i⟩ ⟨p,hd,_,(rel.put k G C).keeps fun c Z L=>?_,q,R,S,i,h2,h3,T,U⟩;rw[bv (Gi L e (fun z=>nomatch z))];exact L
def Jx(c h d:TE):TS:=fun D Y H=>d Y H fun v e=>c Y e fun x f=>h Y f fun y g=>∃a b,x=.ref a/\kW g a y v b/\D.nx Y b
theorem Jy(d:X.A.units+1<cLine)(M:PE X o td)(f:PE X i ty)(j:PE X value tv)(k:swapsWith value (some (.Subscript o i pos')) pos.line X.env=pure false) :
  PS X (.Assign [.Subscript o i pos'] value pos) (Jx td ty tv):=by
 intro b s Y H D I h;refine wpAny_Assign_Subscript (aN (j b s Y H _ I h) fun r l ⟨v,m,I1,n,p⟩=>aN (M b l Y m _ I1 p) fun u q ⟨x,t,w,z,B⟩=>aN (f b q Y t _ w B) fun N O c=>?_) k;obtain⟨y,Q,C,E,a,G,ex,g,J⟩:=c;subst ex;obtain rfl:u=Value.ref a:=z;exact Jw d C g E n fun R L=>⟨Y,G,L,J⟩
theorem Jz(h:Heap)(a:sysModules<h.objs.size):cz P w H (h.push { cls:=.type "dict",data:=.dict #[] }) h.objs.size (.dT []):=
 ⟨Nat.zero_le _,beq_eq_false_iff_ne.mpr (Ne.symm (Nat.ne_of_lt a)),[],.nil,_,#[],0,Heap.get?_push_size _ rfl,⟨rfl,rfl,rfl⟩,rfl,rfl,List.nodup_nil⟩
def JA:TE:=fun _ H Q=>∀p,H p=none->Q (.ref p) (aI H p (.dT []))
theorem JB:PE X (.Dict [] [] pos) JA:=fun b s Y H Q I h=>wpAny_Dict_empty ⟨.ref s.heap.objs.size,_,I.laid (a:=s.heap.objs.size) (o:=.dT []) (t':=s.toks) (fun _ _ q=>aS _ q) (bb _) (Jz s.heap I.big),rfl,h _ (I.hok.fresh (bb _))⟩
noncomputable def dq(b:Env):List (Str×NameKind)->List (Str×Addr)->List (Str×Addr)
 |[],a=>a
 |(n,k)::r,a=>if k==.free then dq b r ((n,(b.cells.lookup n).getD 0)::a) else dq b r a
theorem yn(d):∀b  e,(∀y∈b,y.2=.free->(d.cells.lookup y.1).isSome=true)->
  (forIn b e fun(x:Str×NameKind) (g:List (Str×Addr))=>if (x.2==NameKind.free)=true then(do let c <-cellOf d x.1;pure (ForInStep.yield ((x.1,c)::g))) else(pure (ForInStep.yield g):Sem (ForInStep (List (Str×Addr)))))=pure (dq d b e)
 |[],e,_=>rfl
 | (n,k)::r,e,h=>by
  have i:=fun a=>yn d r a fun y l=>h y (bq _ l);rw[List.forIn_cons];unfold dq
  by_cases f:(k==NameKind.free)=true
  .obtain⟨c,j⟩:=Option.isSome_iff_exists.mp (h (n,k) List.mem_cons_self (by simpa using f));simp only[f,if_true];have:cellOf d n=pure c:=by unfold cellOf;rw[j]
   rw[this,j];exact i _
  .simp only[f];exact i _
theorem yo(h:∀y∈a.names,y.2=.free->(b.cells.lookup y.1).isSome=true):closureFor a b=pure (dq b a.names []):=by have e:=yn b a.names [] h;unfold closureFor;exact congrArg (fun m=>m >>= pure) e
theorem uo:∀{a f c},(∀y∈a,y.2=.free->(b.cells.lookup y.1).isSome=true)->
  (∀c,f.lookup x=some c->b.cells.lookup x=some c)->(dq b a f).lookup x=some c->b.cells.lookup x=some c
 |[],_,_,_,g,h=>g _ h
 | (n,k)::r,f,c,i,g,h=>by
  unfold dq at h
  by_cases j:(k==NameKind.free)=true
  .rw[if_pos j]at h;refine uo (fun y l=>i y (bq _ l)) (fun o e=>?_) h;rw[List.lookup_cons]at e;cases m:x==n with
   |true=>
    rw[m]at e;have:x=n:=by simpa using m
    subst this;obtain⟨d,hd⟩:=Option.isSome_iff_exists.mp (i (x,k) List.mem_cons_self (by simpa using j));rw[hd]at e ⊢;exact e
   |false=>rw[m]at e;exact g _ e
  .rw[if_neg j]at h;exact uo (fun y l=>i y (bq _ l)) g h
theorem qo:∀{a acc},((x,NameKind.free)∈a\/(acc.lookup x).isSome=true)->((dq env a acc).lookup x).isSome=true
 |[],_,h=>by rcases h with h |h;cases h;exact h
 | (n,k)::r,acc,h=>by
  unfold dq
  by_cases b:(k==NameKind.free)=true
  .rw[if_pos b];refine qo ?_;rw[List.lookup_cons];cases c:x==n with
   |true=>exact .inr rfl
   |false=>
    rcases h with h |h
    .rcases List.mem_cons.mp h with e |h
     .cases e;simp at c
     .exact .inl h
    .exact .inr h
  .rw[if_neg b];refine qo ?_;rcases h with h |h
   .rcases List.mem_cons.mp h with e |h
    .cases e;simp at b
    .exact .inl h
   .exact .inr h
noncomputable abbrev fq(a:Env):Str×NameKind->Str×NameKind:=fun(n,k)=>if (k==NameKind.free&&a.scope.kind==.function&&a.kindOf n==some .cell) then(n,NameKind.cell) else(n,k)
theorem uq:∀{a:List (Str×NameKind)}{x}{k},a.lookup x=some k->
  (a.map (fq env)).lookup x=some k\/(k=.free/\(a.map (fq env)).lookup x=some .cell)
 |[],_,_,h=>by simp at h
 | (n,k)::r,x,f,h=>by
  have g:=@uq env r x f;rw[List.map_cons];have e:fq env (n,k)=(n,k)\/(k=.free/\fq env (n,k)=(n,.cell)):=by
   by_cases c:(k==NameKind.free&&env.scope.kind==.function&&env.kindOf n==some .cell)=true
   .refine .inr ⟨?_,if_pos c⟩;cases k<;>first |rfl |(simp at c)
   .exact .inl (if_neg c)
  cases b:x==n with
  |true=>
   simp only[List.lookup_cons,b]at h;cases h;rcases e with e |⟨d,e⟩
   .rw[e];exact .inl (by simp only[List.lookup_cons,b])
   .rw[e];exact .inr ⟨d,by simp only[List.lookup_cons,b]⟩
  |false=>simp only[List.lookup_cons,b]at h;rcases e with e |⟨d,e⟩<;>(rw[e];simp only[List.lookup_cons,b];exact g h)
theorem yp:∀{a:List (Str×NameKind)}{x},a.lookup x=none->(a.map (fq env)).lookup x=none
 |[],_,_=>rfl
 | (n,k)::r,x,h=>by
  have d:=@yp env r x;rw[List.map_cons];have e:fq env (n,k)=(n,k)\/fq env (n,k)=(n,.cell):=by
   by_cases c:(k==NameKind.free&&env.scope.kind==.function&&env.kindOf n==some .cell)=true
   .exact .inr (if_pos c)
   .exact .inl (if_neg c)
  cases b:x==n with
  |true=>simp only[List.lookup_cons,b]at h;cases h
  |false=>simp only[List.lookup_cons,b]at h;rcases e with e |e<;>(rw[e];simp only[List.lookup_cons,b];exact d h)
theorem JC(I:Nat->Shared->Prop)
  (turn:∀n s,I n s->wpAny (model prog w) A (pyNext it) (fun r j=>match r with
   |none=>R (.ok .next) j
   |some v=>wpAny (model prog w) A (letOwnedTupleGo target it v) (fun _ i=>wpAny (model prog w) A (assign target a v) (fun _ o=>
     wpAny (model prog w) A (forIn f true fun c r=>if r=true then do let ok <-isTrue c a (eval c a);pure (ForInStep.yield ok) else pure (ForInStep.yield r)) (fun ok k=>
      if ok=true then wpAny (model prog w) A (eval e a) (fun x p=>
       wpAny (model prog w) A (call (.builtin "list.append") [g,x]) (fun _ q=>∃m,m<n/\I m q) (fun _ _=>False) p) (fun _ _=>False) k
      else ∃m,m<n/\I m k) (fun _ _=>False) o) (fun _ _=>False) i) (fun _ _=>False) j) (fun _ _=>False) s)
  (n) (h:I n s) :
  codeAny (model prog w) A (.compLoop (.ListComp e [⟨target,iter,f,0⟩] d pos) 0 it g a) R s:=by
 refine codeAny_loop rfl I (fun n s C=>?_) n h;show wpAny _ A ((compTurn (.ListComp e [⟨target,iter,f,0⟩] d pos) 0 it g a).onRaise (fun x=>do noteFrame x a;theTreesLotGoes x)) _ _ s;refine wpAny_noted (wpAny_noRaise ?_);rw[compTurn_list];refine ae (wpAny_standAt (ae (wpAny_mono (turn n s C) (fun r j t=>?_) fun _ _ b=>b)));cases r with
 |none=>exact aR t
 |some v=>
  refine ae (wpAny_mono t (fun _ i l=>?_) fun _ _ b=>b);refine ae (wpAny_mono l (fun _ o y=>ae (wpAny_mono y (fun ok k u=>?_) fun _ _ b=>b)) fun _ _ b=>b);cases ok with
  |false=>exact aR ⟨rfl,u⟩
  |true=>exact ae (ae (wpAny_mono u (fun x p z=>ae (wpAny_mono z (fun _ q B=>aR (aR ⟨rfl,B⟩)) fun _ _ b=>b)) fun _ _ b=>b))
theorem qp:∀a  n  b,((x,NameKind.cell)∉a)->(cellsFrom n a b).lookup x=b.lookup x
 |[],_,_,_=>rfl
 | (y,k)::r,n,b,h=>by
  unfold cellsFrom;have c:(x,NameKind.cell)∉r:=fun z=>h (bq _ z);split
  .rename_i d;rw[qp r _ _ c,List.lookup_cons];have:(x==y)=false:=by
    cases e:x==y with
    |false=>rfl
    |true=>exact absurd (by rw[eq_of_beq e,<-eq_of_beq d];exact List.mem_cons_self) h
   rw[this]
  .exact qp r _ _ c
theorem ur:∀a (h:Heap)  b,(cellsFrom h.objs.size a b).lookup x=some c->b.lookup x=some c\/(h.objs.size<=c/\(x,NameKind.cell)∈a/\(pushCells h a).IsCell c none)
 |[],_,_,e=>.inl e
 | (y,k)::r,h,b,e=>by
  unfold cellsFrom at e;unfold pushCells;split at e
  .rename_i d;rw[if_pos d];have sz:(h.push { cls:=.type "cell",data:=.cell none }).objs.size=h.objs.size+1:=Heap.size_push ..;rw[<-sz]at e;rcases ur r _ _ e with z |⟨f,g,i⟩
   .rw[List.lookup_cons]at z;split at z
    .rename_i j;cases z;refine .inr ⟨bb _,?_,⟨_,pushCells_keeps r _ _ _ (Heap.get?_push_size _ rfl),rfl⟩⟩;rw[eq_of_beq j,<-eq_of_beq d];exact List.mem_cons_self
    .exact .inl z
   .exact .inr ⟨by rw[sz]at f;lia,bq _ g,i⟩
  .rename_i d;rw[if_neg d];rcases ur r _ _ e with z |⟨f,g,i⟩
   .exact .inl z
   .exact .inr ⟨f,bq _ g,i⟩
theorem uu:∀a  n  b,(x,NameKind.cell)∈a->(cellsFrom n a b).lookup x=some c->n<=c
 | (y,k)::r,n,b,f,e=>by
  unfold cellsFrom at e
  by_cases d:(x,NameKind.cell)∈r
  .split at e
   .have:=uu r _ _ d e;lia
   .exact uu r _ _ d e
  .rcases List.mem_cons.mp f with z |z
   .cases z;rw[if_pos (by rfl),qp r _ _ d,List.lookup_cons,beq_self_eq_true]at e;cases e;exact bb _
   .exact absurd z d
theorem uv:∀a  n  b,((x,NameKind.cell)∈a\/(b.lookup x).isSome=true)->((cellsFrom n a b).lookup x).isSome=true
 |[],_,_,h=>by rcases h with h |h;cases h;exact h
 | (y,k)::r,n,b,h=>by
  unfold cellsFrom;split
  .rename_i c;refine uv r _ _ ?_;rcases h with h |h
   .rcases List.mem_cons.mp h with z |z
    .cases z;right;rw[List.lookup_cons,beq_self_eq_true];rfl
    .exact .inl z
   .right;rw[List.lookup_cons];split
    .rfl
    .exact h
  .rename_i c;refine uv r _ _ ?_;rcases h with h |h
   .rcases List.mem_cons.mp h with z |z
    .cases z;exact absurd rfl c
    .exact .inl z
   .exact .inr h
theorem uw{c:Addr}{lo:Nat}:∀i (n:Nat) (d:List (Str×Addr)),(∀x y c,lo<=c->d.lookup x=some c->d.lookup y=some c->x=y)->(∀x c,d.lookup x=some c->c<n)->lo<=c->(cellsFrom n i d).lookup x=some c->(cellsFrom n i d).lookup y=some c->x=y
 |[],_,_,h,_,l,g,f=>h _ _ _ l g f
 | (z,k)::r,n,d,h,hb,l,g,f=>by
  unfold cellsFrom at g f;split at g
  .rename_i j;rw[if_pos j]at f;refine uw r (n+1) ((z,n)::d) (fun x y c l g f=>?_) (fun x c e=>?_) l g f
   .rw[List.lookup_cons]at g f;split at g<;>split at f
    .rename_i a _ b;rw[eq_of_beq a,eq_of_beq b]
    .cases g;exact absurd (hb _ _ f) (Nat.lt_irrefl _)
    .cases f;exact absurd (hb _ _ g) (Nat.lt_irrefl _)
    .exact h _ _ _ l g f
   .rw[List.lookup_cons]at e;split at e
    .cases e;exact Nat.lt_succ_self _
    .exact Nat.lt_succ_of_lt (hb _ _ e)
  .rename_i j;rw[if_neg j]at f;exact uw r n d h hb l g f
theorem JD
  (h:Q { scope,locals:=s.heap.objs.size,globals,cells:=cellsFrom (s.heap.objs.size+1) scope.names cl,qual,func:=none,code:=a.code,frame:=a.frame,builtins:=a.builtins } { s with heap:=pushCells (s.heap.push { cls:=.type "dict",data:=.dict #[] }) scope.names }) :
  wpAny M A (newFunctionEnv scope globals cl [] qual none .none (some a)) Q E s:=by
 simp only[newFunctionEnv,Option.isSome_some,if_true];refine ae (wpAny_alloc ?_);refine ae (wpAny_layCells _ (fun name kind cells=>by cases b:kind==NameKind.cell<;>simp[b]) _ _ _ _ ?_);rw[show({ s with heap:=s.heap.push { cls:=.type "dict",data:=.dict #[] } }:Shared).heap.objs.size=s.heap.objs.size+1 from Heap.size_push ..];exact ae (aR (aR h))
abbrev bX(X:Cx)(scope:Scope)(N':List Str)(C:Addr)(fp:List Addr)(s₂:Shared)(H₂:Hp)(pl:List (Addr×Obj)):Cx where
 prog:=X.prog
 w:=X.w
 K:=X.K
 mg:=X.mg
 base:=X.base
 A:=X.A
 N:=N'
 s₀:=s₂
 H₀:=H₂
 env:=compEnvC scope (cellsFrom (C+1) scope.names (dq X.env scope.names [])) C X.env
 outer:=X.stack
 stack:=X.stack
 ex:=fp
 fn:=fun y=>scope.names.lookup y==some .cell
 calm:=X.calm
 pn:=X.pn++pl
 xe:=fun _ _=>False
structure af (X:Cx) (scope:Scope) (own capN:List Str) (caps:List Nat):Prop where
 kind:scope.kind=.function
 one:∀y∈scope.names,scope.names.lookup y.1=some y.2
 free:∀y∈scope.names,y.2=.free->X.env.kindOf y.1=some .cell\/X.env.kindOf y.1=some .free
 loc:∀y∈scope.names,y.2=.local->scope.names.lookup y.1=some .local
 caps:caps.map (fun j=>X.N[j]?)=capN.map some
 capf:∀x∈capN,scope.names.lookup x=some .free
noncomputable def fL(own:List Str)(a:List Nat)(Y:St):St:=own.map (fun _=>none)++a.map (fun j=>(Y[j]?).getD none)
theorem af.cells{caps:List Nat}(S:af X scope own capN caps)(ok:X.Ok):∀y∈scope.names,y.2=.free->(X.env.cells.lookup y.1).isSome=true:=fun y a b=>by obtain⟨c,d⟩:=ok.has y.1 (S.free y a b);rw[d];rfl
theorem af.cl{caps:List Nat}(S:af X scope own capN caps)(ok:X.Ok)(h:(dq X.env scope.names []).lookup x=some c):X.env.cells.lookup x=some c:=
 uo (S.cells ok) (fun _ e=>by simp at e) h
theorem JE{Y:St}{C:Addr}{fp:List Addr}(S:af X scope own capN caps)(I:Inv X f Y H₂ B)
  (hf:∀b∈fp,gC X f H₂ b) (M:∀b∈fp,b<B.heap.objs.size) (t:B.heap.objs.size<=C) (O:∀b o,B.heap.get? b=some o->L.get? b=some o) (hn:L.Ns C m) (Q:∀x c,(cellsFrom (C+1) scope.names (dq X.env scope.names [])).lookup x=some c->(dq X.env scope.names []).lookup x=some c\/(C+1<=c/\L.IsCell c none)) :
  Inv (bX X scope (own++capN) C fp B H₂ f) [] (fL own caps Y) H₂ { B with heap:=L,toks:=tk }:=by
 have cl:=fun {x:Str}{c:Addr}=>S.cl (x:=x) (c:=c) I.ok;have lt:∀{x:Str}{c:Addr},X.env.cells.lookup x=some c->c<B.heap.objs.size:=fun e=>by obtain⟨v,q⟩:=I.cell _ _ e;exact q.lt
 have D:∀{x:Str}{c:Addr},X.env.cells.lookup x=some c->C+1<=c->False:=fun e z=>absurd (Nat.lt_of_lt_of_le (lt e) (Nat.le_trans t (Nat.le_of_succ_le z))) (Nat.lt_irrefl _);have a:∀{x:Str}{c:Addr},(cellsFrom (C+1) scope.names (dq X.env scope.names [])).lookup x=some c->X.env.cells.lookup x=some c\/(C+1<=c/\L.IsCell c none):=fun {x c} e=>(Q x c e).imp (fun z=>cl z) fun z=>z;have r:∀x,((relabel scope X.env).names.lookup x=some .cell\/(relabel scope X.env).names.lookup x=some .free)->scope.names.lookup x=some .free\/scope.names.lookup x=some .cell:=fun x H=>by
  cases e:scope.names.lookup x with
  |none=>have z:(relabel scope X.env).names.lookup x=none:=yp (env:=X.env) e;rw[z]at H;rcases H with q |q<;>cases q
  |some k=>
   rcases uq (env:=X.env) e with z |⟨z,_⟩
   .have z':(relabel scope X.env).names.lookup x=some k:=z;rw[z']at H;rcases H with q |q
    .cases q;exact .inr rfl
    .cases q;exact .inl rfl
   .rw[z];exact .inl rfl
 have stk:∀b,b≠X.env.locals->b∉X.fs->b∉bQ X.stack:=fun b J g z=>(List.mem_cons.mp (I.stkSub b z)).elim J g;refine⟨⟨I.ok.mod,S.kind,I.ok.glob,I.ok.blt,t,fun x y c J g=>?inj,fun x H=>?_,fun x c h e=>?cab,I.ok.hd,I.ok.frames,.inl rfl,fun b A=>⟨?_,fun x c h=>?exf⟩,
   I.bs,Nat.le_trans I.ok.bsz I.sz,fun b o e A=>?_,fun b A=>stk b (hf b A).2.1 (hf b A).2.2.1,I.stack,I.stkFree⟩,
  rfl,I.bare,Un.kept O,⟨m,hn,fun i x v J g h3=>?_⟩,fun x c h=>?_,I.hok.fresh t,fun x c h=>?frc,fun p hp=>?_,I.hok.kept O,?_⟩
 case inj=>
  rcases a J with R |⟨R,_⟩<;>rcases a g with z2 |⟨z2,_⟩
  .exact I.ok.inj x y c R z2
  .exact(D R z2).elim
  .exact(D z2 R).elim
  .exact uw (lo:=C+1) scope.names (C+1) (dq X.env scope.names []) (fun x y c l e _=>(D (cl e) l).elim) (fun x c e=>Nat.lt_succ_of_le (Nat.le_trans (Nat.le_of_lt (lt (cl e))) t)) R J g
 case cab=>have e1:=eq_of_beq (show(scope.names.lookup x==some NameKind.cell)=true from h);have:=uu scope.names (C+1) (dq X.env scope.names []) (PySem.mem_of_lookup e1) e;exact Nat.le_trans t (Nat.le_of_succ_le this)
 case exf=>
  rcases a h with z |⟨z,_⟩
  .exact(hf b A).2.2.2.2.1 x c z
  .exact Ne.symm (Nat.ne_of_lt (Nat.lt_of_lt_of_le (M b A) (Nat.le_trans t (Nat.le_of_succ_le z))))
 case frc=>
  rcases a h with z |⟨z,_⟩
  .exact I.freeC x c z
  .exact I.hok.fresh (Nat.le_trans t (Nat.le_of_succ_le z))
 .refine Option.isSome_iff_exists.mp (uv scope.names (C+1) (dq X.env scope.names []) ?_);rcases r x H with q |q
  .exact .inr (qo (env:=X.env) (.inl (PySem.mem_of_lookup q)))
  .exact .inl (PySem.mem_of_lookup q)
 .exact Nat.ne_of_lt (Nat.lt_of_lt_of_le (M b A) t)
 .rcases(hf b A).2.2.2.1 with z |z
  .exact I.ok.noex b o e z
  .exact absurd (Nat.lt_of_lt_of_le (bj (I.ok.bs b o e).1) z) (Nat.lt_irrefl _)
 .
  have hi:own.length<=i:=by
   refine Nat.le_of_not_lt fun a1=>?_;unfold fL at g;rw[List.getElem?_append_left (by simpa using a1),List.getElem?_map]at g;cases q:own[i]? with
   |none=>rw[q]at g;cases g
   |some y=>rw[q]at g;cases g
  have T:capN[i - own.length]? = some x:=by
   have:(own++capN)[i]? = some x:=J
   rwa [List.getElem?_append_right hi]at this
  have U:(caps.map (fun j=>(Y[j]?).getD none))[i - own.length]? = some (some v):=by
   unfold fL at g
   rwa [List.getElem?_append_right (by simpa using hi),List.length_map]at g
  rw[List.getElem?_map]at U;obtain⟨j,hj,s⟩:=Option.map_eq_some_iff.mp U;have hX:X.N[j]? = some x:=by have q:=congrArg (fun l=>l[i - own.length]?) S.caps;simp only[List.getElem?_map,hj,T,Option.map_some]at q;exact Option.some.inj q
  have hY:Y[j]? = some (some v):=by
   cases q:Y[j]? with
   |none=>rw[q]at s;cases s
   |some z=>rw[q]at s;simp at s;rw[s]
  have E:=S.capf x (List.mem_of_getElem? T);have w:(x,NameKind.free)∈scope.names:=PySem.mem_of_lookup E;have Z:=S.free _ w rfl;obtain⟨m',a3,hl⟩:=I.loc;obtain⟨u,ru,l⟩:=hl j x v hX hY (Z.elim (fun q=>.inr (.inl q)) fun q=>.inr (.inr q));refine⟨u,ru,.inr ⟨?_,?_⟩⟩
  .rcases uq (env:=X.env) E with z |⟨_,z⟩
   .exact .inr z
   .exact .inl z
  .rcases l with⟨l,_⟩ |⟨_,c,hc,G⟩
   .have l':X.env.kindOf x=some .local:=l;rcases Z with q |q<;>(rw[l']at q;cases q)
   .obtain⟨c',a0⟩:=Option.isSome_iff_exists.mp (qo (env:=X.env) (acc:=[]) (.inl w));have:=cl a0;rw[hc]at this;cases this;obtain⟨o,ho,hd⟩:=G;have nc:(x,NameKind.cell)∉scope.names:=fun z=>by have:=S.one _ z;rw[E]at this;cases this
    exact⟨c,(qp scope.names (C+1) (dq X.env scope.names []) nc).trans a0,o,O c o ho,hd⟩
 .rcases a h with z |⟨_,z⟩
  .obtain⟨v,o,ho,hd⟩:=I.cell x c z;exact⟨v,o,O c o ho,hd⟩
  .exact⟨_,z⟩
 .have a2:p∈X.pn++f:=by simpa using hp
  obtain⟨e,n,ne,nf,d⟩:=I.pin p a2;exact⟨O _ _ e,n,Nat.ne_of_lt (Nat.lt_of_lt_of_le (bj e) t),stk p.1 ne nf,d⟩
 .unfold fL;have hl:=congrArg List.length S.caps;simp only[List.length_map]at hl;show(own.map (fun _=>(none:Option V))++caps.map (fun j=>(Y[j]?).getD none)).length=(own++capN).length;rw[List.length_append,List.length_append,List.length_map,List.length_map,hl]
def lQ(X:Cx)(b:List Expr)(t:TT):Prop:=
 ∀(a:List (Addr×Obj)) (s:Shared) (Y:St) (H:Hp) (Q:Bool->Hp->Prop),Inv X a Y H s->t Y H Q->
  wpAny (model X.prog X.w) X.A (forIn b true fun c r=>if r=true then do let ok <-isTrue c X.env (eval c X.env);pure (ForInStep.yield ok) else pure (ForInStep.yield r)) (TP X a Y Q) X.xe s
def JF:TT:=fun _ H Q=>Q true H
theorem JG:lQ X [] JF:=fun _ _ _ H _ I h=>wpAny_tests_nil ⟨H,I,h⟩
theorem JH(h:PT X c t):lQ X [c] t:=fun a s Y H Q I q=>wpAny_tests_one (h a s Y H Q I q)
def kX(own:List Str)(d:List Nat)(k:TI)(g:TG)(l:TT)(n:TE):TE:=fun Y H Q=>k Y H fun J o=>∃W:Nat->Nat->List V->St->Hp->Prop,(∃m,W 0 m [] (fL own d Y) o)/\∀i m a f H,W i m a f H->
 (J.stop i H/\a.length<=sizeLine/\∀p,H p=none->Q (.ref p) (aI H p (.lst a)))\/
 (J.go i H/\∀x h,J.yld i H x h->g x f h fun e q=>l e q fun b j=>if b=true then n e j fun y r=>a.length<sizeLine/\∃c,c<m/\W (i+1) c (a++[y]) e r else ∃c,c<m/\W (i+1) c a e j)
theorem yq{Y:St}{RR:Value->Addr->Result->Shared->Prop}(S:af X scope own capN caps)(hc:X.calm=true)(hi:PI X tg iter wi)
  (c5:∀C E s₂ H₂ pl,PG (bX X scope (own++capN) C E s₂ H₂ pl) tg g/\lQ (bX X scope (own++capN) C E s₂ H₂ pl) ifs tc/\PE (bX X scope (own++capN) C E s₂ H₂ pl) elt te)
  (I:Inv X f Y H s) (h:kX own caps wi g tc te Y H Q)
  (c6:∀D C  s'  L  m,Inv X f Y L s'->gC X f L C->s'.heap.Ns C m->Q (.ref D) L->RR (.ref D) C (.ok .next) s') :
  wpAny (model X.prog X.w) X.A (eval iter X.env) (fun x s₁=>wpAny (model X.prog X.w) X.A (pyIter x) (fun it s₂=>wpAny (model X.prog X.w) X.A (newList []) (fun b4 s₃=>
   wpAny (model X.prog X.w) X.A (newFunctionEnv scope X.env.globals (dq X.env scope.names []) [] X.env.qual none .none (some X.env)) (fun a8 s₄=>
    codeAny (model X.prog X.w) X.A (.compStart (.ListComp elt [⟨tg,iter,ifs,0⟩] scope pos) 0 it b4 { a8 with scope:=relabel scope X.env }) (RR b4 a8.locals) s₄) X.xe s₃) X.xe s₂) X.xe s₁) X.xe s:=by
 refine aN (hi f s Y H _ I h) fun v s1 h1=>aN h1 fun d3 B h2=>?_;obtain⟨it,E,tn,J,U,e,Z,T,b1,f2,W,⟨m0,w0⟩,turn⟩:=h2;subst e;have a0:∀b∈E,b<B.heap.objs.size:=fun b t=>by obtain⟨o,e,_⟩:=T.obj _ _ b1 b t;exact bj e
 refine wpAny_newObj_type (JD ?_);dsimp only;generalize a4:B.heap.push { cls:=.type "list",dict:=none,data:=.seq ([]:List Value).toArray }=HH;have hC:HH.objs.size=B.heap.objs.size+1:=by rw[<-a4,Heap.size_push]
 have l:B.heap.objs.size<=HH.objs.size:=by rw[hC];exact Nat.le_succ _
 have a5:B.heap.objs.size≠HH.objs.size:=by rw[hC];exact Nat.ne_of_lt (Nat.lt_succ_self _)
 have below:∀b,b<B.heap.objs.size->b≠HH.objs.size:=fun b t=>by rw[hC];exact Nat.ne_of_lt (Nat.lt_succ_of_lt t)
 have b5:(HH.push { cls:=.type "dict",data:=.dict #[] }).objs.size=HH.objs.size+1:=Heap.size_push ..;have G:∀x c,(cellsFrom (HH.objs.size+1) scope.names (dq X.env scope.names [])).lookup x=some c->(dq X.env scope.names []).lookup x=some c\/(HH.objs.size+1<=c/\(pushCells (HH.push { cls:=.type "dict",data:=.dict #[] }) scope.names).IsCell c none):=fun x c e=>by rw[<-b5]at e ⊢;exact(ur scope.names _ _ e).imp (fun z=>z) fun b6=>by obtain⟨z1,_,z2⟩:=b6;exact⟨z1,z2⟩
 have a1:(pushCells (HH.push { cls:=.type "dict",data:=.dict #[] }) scope.names).Ns HH.objs.size (fun _=>none):=(Heap.Ns.new HH (.type "dict")).keeps (pushCells_keeps _ _);have old:∀b o,B.heap.get? b=some o->(pushCells (HH.push { cls:=.type "dict",data:=.dict #[] }) scope.names).get? b=some o:=fun b o e=>pushCells_keeps _ _ b o (aS _ (a4▸aS _ e));have a2:(pushCells (HH.push { cls:=.type "dict",data:=.dict #[] }) scope.names).get? B.heap.objs.size=some { cls:=.type "list",dict:=none,data:=.seq ([]:List Value).toArray }:=pushCells_keeps _ _ _ _ (aS _ (a4▸Heap.get?_push_size _ rfl));generalize pushCells (HH.push { cls:=.type "dict",data:=.dict #[] }) scope.names=h₁ at G a1 old a2 ⊢;generalize c7:HH.objs.size=C at a1 a5 l below G ⊢;generalize j:B.heap.objs.size=D at a2 a5 ⊢;clear a4 hC c7 b5 HH;obtain⟨hg,ht,he⟩:=c5 C E B U f;have Ic:Inv (bX X scope (own++capN) C E B U f) [] (fL own caps Y) U { B with heap:=h₁,toks:=B.toks }:=JE S Z f2 a0 (by rw[j];rw[j]at l;exact l) old a1 G;have a6:∀x c,(cellsFrom (C+1) scope.names (dq X.env scope.names [])).lookup x=some c->c≠D:=fun x c e z=>by
  rcases G x c e with e |⟨e,_⟩
  .obtain⟨v,q⟩:=Z.cell x c (S.cl Z.ok e);exact absurd q.lt (by rw[z,j];exact Nat.lt_irrefl _)
  .rw[j]at l;exact absurd (Nat.lt_of_le_of_lt l (Nat.lt_of_lt_of_le (Nat.lt_succ_self C) e)) (by rw[z];exact Nat.lt_irrefl _)
 have a7:D∉bQ X.stack:=fun z=>by
  rcases List.mem_cons.mp (Z.stkSub D z) with q |q
  .exact absurd Z.lt (by rw[<-q,j];exact Nat.lt_irrefl _)
  .exact Z.nofs (by rw[j];exact bb _) q
 have a3:∀p∈X.pn++f,p.1≠D:=fun p M z=>absurd (bj (Z.pin p M).1) (by rw[z,j];exact Nat.lt_irrefl _);have a9:∀{Y':St}{L:Hp}{s':Shared}{N:List Value}{k:Nat},Inv (bX X scope (own++capN) C E B U f) [] Y' L s'->s'.heap.get? D=some { cls:=.type "list",data:=.seq N.toArray k }->L D=none->
   Inv (bX X scope (own++capN) C E B U f) [(D,{ cls:=.type "list",data:=.seq N.toArray k })] Y' L s':=fun J e n=>J.pins_of fun p M=>by
  obtain rfl:=List.mem_singleton.mp M;exact⟨e,n,a5,a7,fun v z=>by cases z⟩
 have b2:∀{L:Hp}{o:Obj},(∀b∈E,L b=none)->∀b∈E,gC (bX X scope (own++capN) C E B U f) [(D,o)] L b:=fun hn b t=>by
  obtain⟨f0,f1,c8,f3,f4,f5⟩:=f2 b t;refine⟨hn b t,Nat.ne_of_lt (Nat.lt_of_lt_of_le (a0 b t) (by rw[j];rw[j]at l;exact l)),fun z=>(List.mem_cons.mp (Z.stkSub b z)).elim f1 c8,.inl t,fun x c e=>?cl,fun p M=>?_⟩
  case cl=>
   rcases G x c e with e |⟨e,_⟩
   .exact f4 x c (S.cl Z.ok e)
   .exact Ne.symm (Nat.ne_of_lt (Nat.lt_of_lt_of_le (a0 b t) (Nat.le_trans (by rw[j];rw[j]at l;exact l) (Nat.le_of_succ_le e))))
  rcases List.mem_append.mp M with M |M
  .exact f5 p M
  .obtain rfl:=List.mem_singleton.mp M;intro z;have z':D=b:=z;exact absurd (a0 b t) (by rw[<-z',j];exact Nat.lt_irrefl _)
 have b0:codeAny (model X.prog X.w) X.A (.compLoop (.ListComp elt [⟨tg,iter,ifs,0⟩] scope pos) 0 (.ref it) (.ref D) (compEnvC scope (cellsFrom (C+1) scope.names (dq X.env scope.names [])) C X.env)) (RR (.ref D) C) { B with heap:=h₁,toks:=B.toks }:=by
  refine JC (fun n s'=>∃i ys N k Y' L,Inv (bX X scope (own++capN) C E B U f) [(D,{ cls:=.type "list",data:=.seq N.toArray k })] Y' L s'/\tn i s'.heap/\(∀b∈E,L b=none)/\bi ys N/\W i n ys Y' L) ?_ m0
   ⟨0,[],[],0,_,U,a9 Ic a2 (Z.hok.fresh (by rw[j];exact bb _)),T.keep _ _ _ b1 fun b _ o e=>old b o e,fun b t=>(f2 b t).1,.nil,w0⟩
  rintro n s3 ⟨i,ys,N,k,Y3,H3,I3,b7,b8,r3,w3⟩;rcases turn i n ys Y3 H3 w3 with⟨stop,hz,qn⟩ |⟨go,step⟩
  .refine aN (T.done (bX X scope (own++capN) C E B U f) rfl rfl rfl hc i _ s3 Y3 H3 _ I3 (b2 b8) b7 stop) fun r s4 b9=>?_;obtain⟨hr,O⟩:=b9;subst hr;obtain⟨eD,nD,_⟩:=O.pin (D,_) (bu _ (List.mem_singleton.mpr rfl));have R:H3 D=none:=nD;have I5:Inv X f Y (aI H3 D (.lst ys)) s4:=by
    refine Z.call' (ch:=E) O.os ⟨O.base.keep,O.base.slot,fun b o e n hx=>?_,O.base.there,fun b xs e=>?_,fun b o u e=>?_,fun b ps e=>?_⟩ (fun b u e=>?_) O.bare fun b t=>⟨(f2 b t).2.2.2.1,(f2 b t).2.1,(f2 b t).2.2.2.2.1,(f2 b t).2.2.2.2.2⟩
    .rw[bv (by intro z;exact absurd (bj e) (by rw[z,j];exact Nat.lt_irrefl _))];exact O.base.free b o e n hx
    .have q:=O.base.tups b xs e;rw[bv (gT q R)];exact q
    .have q:=O.base.frzs b o u e;rw[bv (gT q R)];exact q
    .obtain⟨dG,q⟩:=O.base.tbls b ps e;exact⟨dG,by rw[bv (gT q R)];exact q⟩
    .by_cases t:b=D
     .subst t;rw[cK]at e;cases e;exact⟨hz,N,k,r3,eD⟩
     .rw[bv t]at e;exact(O.hok b u e).stay (fun _ _ _ q=>q) (fun c q=>by rw[bv (gT q R)];exact q) fun c xs q=>by rw[bv (gT q R)];exact q
   obtain⟨m,hm,_⟩:=O.loc;exact c6 D C s4 _ m I5 (Z.fpOk (by rw[j];rw[j]at l;exact l) (by rw[bv (Ne.symm a5)];exact O.free)) hm (qn D R)
  .refine aN (T.item (bX X scope (own++capN) C E B U f) rfl rfl rfl hc i _ s3 Y3 H3 _ I3 (b2 b8) b7 go) fun r s4 c0=>?_;obtain⟨u,hr,h4⟩:=c0;subst hr;refine aN h4 fun _ s5 c1=>?_;obtain⟨x,H5,I5,r5,y5,b3,c9⟩:=c1;have d0:=I5.pinned (b2 c9) (T.obj _ _ b3);refine aN (hg _ s5 Y3 H5 x u _ d0 r5 (step x H5 y5)) fun _ s6 c2=>?_;obtain⟨Y6,H6,I6,q6⟩:=c2;refine aN (ht _ s6 Y6 H6 _ I6 q6) fun ok s7 c3=>?_;obtain⟨H7,I7,q7⟩:=c3;have df:∀{Y8:St}{H8:Hp}{s8:Shared},Inv (bX X scope (own++capN) C E B U f) ([(D,{ cls:=.type "list",data:=.seq N.toArray k })]++nQ E s5.heap) Y8 H8 s8->tn (i+1) s8.heap/\(∀b∈E,H8 b=none):=fun {Y8 H8 s8} I8=>by refine⟨T.keep _ _ _ b3 fun b t o e=>(I8.pin (b,o) (bu _ (bu _ (qf t e)))).1,fun b t=>?_⟩;obtain⟨o,e,d⟩:=T.obj _ _ b3 b t;exact(I8.pin (b,o) (bu _ (bu _ (qf t e)))).2.1
   cases ok with
   |false=>obtain⟨m',hm,w7⟩:=q7;obtain⟨t7,n7⟩:=df I7;exact⟨m',hm,i+1,ys,N,k,Y6,H7,I7.unpinned,t7,n7,r3,w7⟩
   |true=>
    refine aN (he _ s7 Y6 H7 _ I7 q7) fun u8 s8 c4=>?_;obtain⟨y,H8,I8,r8,hz,m',hm,w8⟩:=c4;obtain⟨t8,n8⟩:=df I8;have I9:=I8.unpinned;obtain⟨eD,nD,d1,d4,_⟩:=I9.pin (D,_) (bu _ (List.mem_singleton.mpr rfl));have hl:=r3.length;refine call_meets F.slot_list_append ⟨_,eD,rfl⟩ F.entry_list_append (F.args_list_append_2 _ _) (PySem.list_append D N.toArray k u8 (by rw[List.size_toArray];lia)) ⟨eD,?_⟩;have q:=PySem.IsL.update eD (fun a=>a.push u8);have e2:N.toArray.push u8=(N++[u8]).toArray:=by simp
    rw[e2]at q;have keep:∀b o,b≠D->s8.heap.get? b=some o->(s8.heap.update D (Obj.mapSeq fun a=>a.push u8)).get? b=some o:=fun b o t e=>(Heap.get?_update_other s8.heap _ (Ne.symm t)).trans e;have d2:Inv (bX X scope (own++capN) C E B U f) [] Y6 H8 { s8 with heap:=s8.heap.update D (Obj.mapSeq fun a=>a.push u8) }:=by refine(I9.pins_of (pins':=[]) fun p M=>absurd M (by simp)).turned (t':=s8.toks) (it:=D) keep nD d1 (.inr (by rw[j];exact bb _)) a6 fun p M=>?_;exact a3 p (by simpa using M)
    exact⟨m',hm,i+1,ys++[y],N++[u8],_,Y6,H8,a9 d2 q nD,T.keep _ _ _ t8 fun b t o e=>keep b o (by intro z;exact absurd (a0 b t) (by rw[z,j];exact Nat.lt_irrefl _)) e,n8,r3.append (.cons r8 .nil),w8⟩
 exact codeAny_compStart_list b0 (wpAny_noRaise (T.self _ 0 _ _ _ (T.keep _ _ _ b1 fun b _ o e=>old b o e) b0))
theorem ux(S:af X scope own capN caps)(n:X.calm=true)(p:PI X tg iter wi)
  (a:∀C c d i k,PG (bX X scope (own++capN) C c d i k) tg g/\lQ (bX X scope (own++capN) C c d i k) ifs tc/\PE (bX X scope (own++capN) C c d i k) elt te)
  (r:autoParam (∀x,foldedSetIterable iter X.env x=pure x) Zs._auto_1):PE X (.ListComp elt [⟨tg,iter,ifs,0⟩] scope pos) (kX own caps wi g tc te):=by
 intro l s Y H Q I h;rw[eval_ListComp];refine wpAny_comprehension_free (use:=none) rfl r (yo (S.cells I.ok)) S.kind S.loc ?_;refine yq S n p a I h fun D C t u m v f w q=>⟨m,w,fun z j=>?_⟩
 exact⟨.ref D,u,v.turned (t':=t.toks) (it:=C) (fun b o y e=>(j.2 b y).trans e) f.1 f.2.1 f.2.2.2.1 f.2.2.2.2.1 f.2.2.2.2.2,rfl,q⟩
theorem JI{c}(B:X.N.Nodup)(j:X.N[i]? = some y)(E:Loc X.env.scope y)(S:af X scope own capN caps)(G:X.calm=true)(J:PI X tg iter wi)
  (k:∀C l n p w,PG (bX X scope (own++capN) C l n p w) tg g/\lQ (bX X scope (own++capN) C l n p w) ifs tc/\PE (bX X scope (own++capN) C l n p w) elt te)
  (r:autoParam (swapsWith (.ListComp elt [⟨tg,iter,ifs,0⟩] scope pos) (some (.Name y py)) c.line X.env=pure true) Zq._auto_1)
  (L:autoParam (∀x,foldedSetIterable iter X.env x=pure x) Zs._auto_1) (M:X.fn y=true\/X.env.scope.names.lookup y=some .local:=by first |exact .inl rfl |exact .inr rfl |assumption) :
  PS X (.Assign [.Name y py] (.ListComp elt [⟨tg,iter,ifs,0⟩] scope pos) c) (tN (kX own caps wi g tc te) (qc i)):=by
 intro d s Y H D I h;rw[exec_Assign_Name_used _ _ _ _ r];refine ae (wpAny_standAt (ae ?_));show wpAny _ X.A (do let _ <-comprehension (.ListComp elt [⟨tg,iter,ifs,0⟩] scope pos) scope X.env _ (newList []) false (eval iter X.env) (some (assign (.Name y py) X.env))) _ _ s;refine ae (wpAny_mono (wpAny_comprehension_free (use:=some (assign (.Name y py) X.env)) (Q:=fun _ t=>SP X d D .next t) rfl L (yo (S.cells I.ok)) S.kind S.loc ?_) (fun _ t O=>aR (aR O)) fun _ _ e=>e);refine yq S G J k I h fun Da C t R m T f U q=>?_;show wpAny _ X.A (assign (.Name y py) X.env (.ref Da)) _ _ _;refine wpAny_assign_Name (xq T B j E (v:=.ref Da) rfl (fun Z I2 ⟨a,sb,ha⟩=>⟨m,?_,fun h' u=>?_⟩) M)
 .refine U.sameBut sb ?_;rcases ha with z |z
  .rw[z];exact f.2.1
  .exact Ne.symm (f.2.2.2.2.1 y a z)
 .exact⟨_,R,I2.turned (t':=Z.toks) (it:=C) (fun b o hb e=>(u.2 b hb).trans e) f.1 f.2.1 f.2.2.2.1 f.2.2.2.2.1 f.2.2.2.2.2,q⟩
end L2
namespace L2
open PySem
theorem JK(h:Q (s.heap.get? a) s):wpAny M A (loadIfAlive a) Q E s:=by intro Γ p b;unfold loadIfAlive;rw[Sem.wp_loadIfAlive];exact aR h Γ p b
abbrev eX(h:Heap)(z TI TO:Addr)(a f1:Value):Prop:=
 h.get? z=some { cls:=.type "zip",dict:=none,data:=.fields #[a,f1,.bool false,.ref TI,.ref TO],slots:=#[] }
abbrev dr(h:Heap)(T:Addr)(a b c:Value):Prop:=h.get? T=some { cls:=.type "tuple",data:=.seq #[a,b,c] }
theorem uy(e:dr s.heap T a b c)
  (h:∀d,d.get? T=some { cls:=.type "tuple",data:=.seq ((#[a,b,c]:Array Value).setIfInBounds k x) }->Heap.SameBut T s.heap d->Q () { s with heap:=d }) :
  wpAny (model prog w) A (updateSeq T (·.setIfInBounds k x)) Q E s:=by
 refine wpAny_updateSeq e rfl (h _ ?_ (Heap.SameBut.update ..));rw[Heap.get?_update_self _ e rfl];simp[Obj.mapSeq]
theorem JL{TI TO }{Q:Value->Shared->Prop}
  (nd:[z,TI,TO,n,r,B].Nodup) (hl:∀l∈[l1,l2,l3],∀j∈[z,TI,TO,n,r,B],l≠j)
  (hz:eX s.heap z TI TO .none (.bool false)) (a6:dr s.heap TI (.ref n) (.ref r) (.ref B)) (a7:dr s.heap TO a b c)
  (h1:s.heap.IsListIter n l1 k) (h2:s.heap.IsListIter r l2 k) (h3:s.heap.IsListIter B l3 k) (a8:s.heap.IsList l1 xs) (a9:s.heap.IsList l2 ys) (b0:s.heap.IsList l3 zs)
  (hx:xs[k]? = some x) (hy:ys[k]? = some y) (hv:zs[k]? = some v)
  (hQ:∀H,eX H z TI TO (rawInt s.heap.objs.size) (.bool false)->dr H TO x y v->H.IsListIter n l1 (k+1)->H.IsListIter r l2 (k+1)->H.IsListIter B l3 (k+1)->dr H s.heap.objs.size x y v->H.objs.size=s.heap.objs.size+1->
   (∀c o,c∉[z,TO,n,r,B]->s.heap.get? c=some o->H.get? c=some o)->Q (.ref s.heap.objs.size) { s with heap:=H }) :
  wpAny (model prog w) A (Builtin.«zip.__next__» ⟨[.ref z],[]⟩) (fun fin s'=>∃v,fin=.done (.ret v)/\Q v s') E s:=by
 simp only[List.nodup_cons,List.mem_cons,List.not_mem_nil,or_false,not_or,not_false_eq_true,and_true,List.nodup_nil]at nd;obtain⟨⟨c0,C,z1,z2,z3⟩,⟨b9,c6,c7,c8⟩,⟨I,J,L⟩,⟨a0,a1⟩,a2⟩:=nd;have n1:∀j∈[z,TI,TO,n,r,B],l1≠j:=hl l1 (by simp);have n2:∀j∈[z,TI,TO,n,r,B],l2≠j:=hl l2 (by simp);have n3:∀j∈[z,TI,TO,n,r,B],l3≠j:=hl l3 (by simp);show wpAny _ _ (field (.ref z) 2 >>= _) _ _ _;refine ae (wpAny_field hz rfl (x:=.bool false) rfl ?_);show wpAny _ _ (field (.ref z) 3 >>= _) _ _ _;refine ae (wpAny_field hz rfl (x:=.ref TI) rfl ?_);refine ae (wpAny_seqItems a6 rfl ?_);show wpAny _ _ (Builtin.SmallTypes.ownedTupleIsFree (.ref z) >>= _) _ _ _;refine ae ?_;unfold Builtin.SmallTypes.ownedTupleIsFree;refine ae (wpAny_field hz rfl (x:=.none) rfl (aR ?_));simp only[if_true];refine ae (wpAny_rule ?_);refine ae (wpAny_field hz rfl (x:=.ref TO) rfl ?_);refine ae (wpAny_setField_rec hz (by simp) fun h₁ U d=>?_)
 replace U:eX h₁ z TI TO .ellipsis (.bool false):=U
 refine ae ?_;simp only[List.zipIdx_cons,List.zipIdx_nil,List.forIn_cons,List.forIn_nil];refine ae (ae (wpAny_onRaise ?_));show wpAny _ _ (Builtin.SmallTypes.nextOf (.ref n) >>= _) _ _ _;refine ae (wpAny_nextOf_list_item (h1.extBut d.extBut (Ne.symm z1)) (a8.extBut d.extBut (n1 z (by simp))) hx fun h₂ b1 f=>aR ?_);have N:dr h₂ TO a b c:=f.extBut _ _ I (d.extBut _ _ (Ne.symm C) a7);refine ae (wpAny_seqItems N rfl ?_);refine ae (uy N fun h₃ D g=>?_)
 replace D:dr h₃ TO x b c:=D
 refine ae (wpAny_letGo (aR ?_));refine ae (ae (wpAny_onRaise ?_));show wpAny _ _ (Builtin.SmallTypes.nextOf (.ref r) >>= _) _ _ _;refine ae (wpAny_nextOf_list_item (((h2.extBut d.extBut (Ne.symm z2)).extBut f.extBut (Ne.symm a0)).extBut g.extBut (Ne.symm J))
  (((a9.extBut d.extBut (n2 z (by simp))).extBut f.extBut (n2 n (by simp))).extBut g.extBut (n2 TO (by simp))) hy fun h₄ b2 i=>aR ?_)
 have O:dr h₄ TO x b c:=i.extBut _ _ J D;refine ae (wpAny_seqItems O rfl ?_);refine ae (uy O fun h₅ G m=>?_)
 replace G:dr h₅ TO x y c:=G
 refine ae (wpAny_letGo (aR ?_));refine ae (ae (wpAny_onRaise ?_));show wpAny _ _ (Builtin.SmallTypes.nextOf (.ref B) >>= _) _ _ _;refine ae (wpAny_nextOf_list_item (((((h3.extBut d.extBut (Ne.symm z3)).extBut f.extBut (Ne.symm a1)).extBut g.extBut (Ne.symm L)).extBut i.extBut (Ne.symm a2)).extBut m.extBut (Ne.symm L))
  (((((b0.extBut d.extBut (n3 z (by simp))).extBut f.extBut (n3 n (by simp))).extBut g.extBut (n3 TO (by simp))).extBut i.extBut (n3 r (by simp))).extBut m.extBut (n3 TO (by simp))) hv fun h₆ b3 t=>aR ?_)
 have R:dr h₆ TO x y c:=t.extBut _ _ L G;refine ae (wpAny_seqItems R rfl ?_);refine ae (uy R fun h p u=>?_)
 replace p:dr h TO x y v:=p
 refine ae (wpAny_letGo (aR (aR ?_)));refine ae (wpAny_seqItems p rfl ?_);refine ae (wpAny_newTuple ?_);have b4:∀c o,c∉[z,TO,n,r,B]->s.heap.get? c=some o->h.get? c=some o:=fun c o hc e=>by simp only[List.mem_cons,List.not_mem_nil,or_false,not_or]at hc;obtain⟨c1,c2,c3,c4,c5⟩:=hc;exact u.extBut _ _ c2 (t.extBut _ _ c5 (m.extBut _ _ c2 (i.extBut _ _ c4 (g.extBut _ _ c2 (f.extBut _ _ c3 (d.extBut _ _ c1 e))))))
 have a3:h.objs.size=s.heap.objs.size:=by rw[u.1,t.1,m.1,i.1,g.1,f.1,d.1]
 have a4:eX h z TI TO .ellipsis (.bool false):=u.extBut _ _ C (t.extBut _ _ z3 (m.extBut _ _ C (i.extBut _ _ z2 (g.extBut _ _ C (f.extBut _ _ z1 U)))));have b5:h.IsListIter n l1 (k+1):=((((b1.extBut g.extBut (Ne.symm I)).extBut i.extBut a0).extBut m.extBut (Ne.symm I)).extBut t.extBut a1).extBut u.extBut (Ne.symm I);have b6:h.IsListIter r l2 (k+1):=((b2.extBut m.extBut (Ne.symm J)).extBut t.extBut a2).extBut u.extBut (Ne.symm J);have b7:h.IsListIter B l3 (k+1):=b3.extBut u.extBut (Ne.symm L);have S:z<h.objs.size:=bj a4;show wpAny _ _ (Builtin.SmallTypes.ownedTupleHandOut (.ref z) (.ref h.objs.size) >>= _) _ _ _;refine ae ?_;unfold Builtin.SmallTypes.ownedTupleHandOut;have b8:eX (h.push { cls:=.type "tuple",data:=.seq #[x,y,v] }) z TI TO .ellipsis (.bool false):=aS _ a4;refine ae (wpAny_setField_rec b8 (by simp) fun h₉ X Y=>?_)
 replace X:eX h₉ z TI TO (rawInt h.objs.size) (.bool false):=X
 refine wpAny_setField_rec X (by simp) fun hA M Z=>?_
 replace M:eX hA z TI TO (rawInt h.objs.size) (.bool false):=M
 have up:∀c o,c≠z->h.get? c=some o->hA.get? c=some o:=fun c o c1 e=>Z.extBut _ _ c1 (Y.extBut _ _ c1 (aS _ e));have a5:dr hA h.objs.size x y v:=Z.extBut _ _ (Nat.ne_of_gt S) (Y.extBut _ _ (Nat.ne_of_gt S) (Heap.get?_push_size _ rfl));have T:hA.objs.size=h.objs.size+1:=by rw[Z.1,Y.1,Heap.size_push]
 rw[a3]at M a5 T;refine aR ⟨_,rfl,?_⟩;show Q (.ref h.objs.size) _;rw[a3];exact hQ hA M (up _ _ (Ne.symm C) p) (b5.at fun o e=>up _ o (Ne.symm z1) e) (b6.at fun o e=>up _ o (Ne.symm z2) e) (b7.at fun o e=>up _ o (Ne.symm z3) e) a5 T fun c o hc e=>up c o (fun q=>hc (by simp[q])) (b4 c o hc e)
theorem yr{TI TO T:Addr}(b:f1=.bool false\/f1=.bool true)(a:eX s.heap z TI TO (rawInt T) f1)(h:s.heap.get? T=some g)
  (f:∀c,eX c z TI TO (rawInt T) (.bool true)->Heap.SameBut z s.heap c->Q false { s with heap:=c }):wpAny (model prog w) A (Builtin.SmallTypes.ownedTupleIsFree (.ref z)) Q E s:=by
 unfold Builtin.SmallTypes.ownedTupleIsFree;refine ae (wpAny_field a rfl (x:=rawInt T) rfl ?_);show wpAny _ _ (loadIfAlive (Int.toNat T) >>= _) _ _ _;refine ae (JK ?_);rw[Int.toNat_natCast,h];show wpAny _ _ (field (.ref z) 1 >>= _) _ _ _;refine ae (wpAny_field a rfl (x:=f1) rfl ?_);rcases b with rfl |rfl
 .show wpAny _ _ (setField (.ref z) 1 (.bool true) >>= _) _ _ _;exact ae (wpAny_setField_rec a (by simp) fun i d e=>aR (f i d e))
 .exact aR (f s.heap a (Heap.SameBut.refl ..))
theorem JM{TI TO T:Addr}{Q:Value->Shared->Prop}
  (nd:[z,TI,TO,d,g,h].Nodup) (G:∀l∈[p,q,r],∀j∈[z,TI,TO,d,g,h],l≠j) (H:f1=.bool false\/f1=.bool true)
  (I:eX s.heap z TI TO (rawInt T) f1) (hT:s.heap.get? T=some oT) (J:dr s.heap TI (.ref d) (.ref g) (.ref h))
  (h1:s.heap.IsListIter d p k) (h2:s.heap.IsListIter g q k) (h3:s.heap.IsListIter h r k) (L:s.heap.IsList p Y) (M:s.heap.IsList q Z) (N:s.heap.IsList r zs)
  (hx:Y[k]? = some x) (hy:Z[k]? = some y) (hv:zs[k]? = some v)
  (hQ:∀m,eX m z TI TO (rawInt T) (.bool true)->m.IsListIter d p (k+1)->m.IsListIter g q (k+1)->m.IsListIter h r (k+1)->dr m s.heap.objs.size x y v->m.objs.size=s.heap.objs.size+1->
   (∀c o,c∉[z,d,g,h]->s.heap.get? c=some o->m.get? c=some o)->Q (.ref s.heap.objs.size) { s with heap:=m }) :
  wpAny (model prog w) A (Builtin.«zip.__next__» ⟨[.ref z],[]⟩) (fun fin s'=>∃v,fin=.done (.ret v)/\Q v s') E s:=by
 simp only[List.nodup_cons,List.mem_cons,List.not_mem_nil,or_false,not_or,not_false_eq_true,and_true,List.nodup_nil]at nd;obtain⟨⟨a1,a2,z1,z2,z3⟩,⟨a0,a3,a4,a5⟩,⟨a6,a7,a8⟩,⟨t,u⟩,B⟩:=nd;have n1:∀j∈[z,TI,TO,d,g,h],p≠j:=G p (by simp);have n2:∀j∈[z,TI,TO,d,g,h],q≠j:=G q (by simp);have O:∀j∈[z,TI,TO,d,g,h],r≠j:=G r (by simp);show wpAny _ _ (field (.ref z) 2 >>= _) _ _ _;refine ae (wpAny_field I rfl (x:=.bool false) rfl ?_);show wpAny _ _ (field (.ref z) 3 >>= _) _ _ _;refine ae (wpAny_field I rfl (x:=.ref TI) rfl ?_);refine ae (wpAny_seqItems J rfl ?_);show wpAny _ _ (Builtin.SmallTypes.ownedTupleIsFree (.ref z) >>= _) _ _ _;refine ae (yr H I hT fun h₁ R a=>?_);simp only[Bool.false_eq_true,if_false];refine ae ?_;simp only[List.forIn_toArray,List.forIn_cons,List.forIn_nil];refine ae (ae (wpAny_holding ?_));show wpAny _ _ (Builtin.SmallTypes.nextOf (.ref d) >>= _) _ _ _;refine ae (wpAny_nextOf_list_item (h1.extBut a.extBut (Ne.symm z1)) (L.extBut a.extBut (n1 z (by simp))) hx fun h₂ S b=>aR (aR ?_));refine ae (ae (wpAny_holding ?_));show wpAny _ _ (Builtin.SmallTypes.nextOf (.ref g) >>= _) _ _ _;refine ae (wpAny_nextOf_list_item ((h2.extBut a.extBut (Ne.symm z2)).extBut b.extBut (Ne.symm t)) ((M.extBut a.extBut (n2 z (by simp))).extBut b.extBut (n2 d (by simp))) hy fun h₃ U f=>aR (aR ?_));refine ae (ae (wpAny_holding ?_));show wpAny _ _ (Builtin.SmallTypes.nextOf (.ref h) >>= _) _ _ _;refine ae (wpAny_nextOf_list_item (((h3.extBut a.extBut (Ne.symm z3)).extBut b.extBut (Ne.symm u)).extBut f.extBut (Ne.symm B)) (((N.extBut a.extBut (O z (by simp))).extBut b.extBut (O d (by simp))).extBut f.extBut (O g (by simp))) hv fun C X i=>aR (aR (aR ?_)));show wpAny _ _ (newTuple [x,y,v] >>= _) _ _ _;refine ae (wpAny_newTuple ?_);refine aR ⟨_,rfl,?_⟩;have n:C.objs.size=s.heap.objs.size:=by rw[i.1,f.1,b.1,a.1]
 show Q (.ref C.objs.size) { s with heap:=C.push { cls:=.type "tuple",data:=.seq #[x,y,v] } };have up:∀c o,c∉[z,d,g,h]->s.heap.get? c=some o->C.get? c=some o:=fun c o D e=>by simp only[List.mem_cons,List.not_mem_nil,or_false,not_or]at D;obtain⟨c1,c2,c3,c4⟩:=D;exact i.extBut _ _ c4 (f.extBut _ _ c3 (b.extBut _ _ c2 (a.extBut _ _ c1 e)))
 rw[n];refine hQ _ (aS _ (i.extBut _ _ z3 (f.extBut _ _ z2 (b.extBut _ _ z1 R)))) (((S.extBut f.extBut t).extBut i.extBut u).at fun o e=>aS _ e) ((U.extBut i.extBut B).at fun o e=>aS _ e)
  (X.at fun o e=>aS _ e) ?_ (by rw[Heap.size_push,n]) fun c o D e=>aS _ (up c o D e)
 rw[<-n];exact Heap.get?_push_size _ rfl
theorem JN{TI TO T:Addr}(hh:A.handled=none)
  (v:[z,TI,TO,a,f,g].Nodup) (B:∀l∈[d,l2,l3],∀j∈[z,TI,TO,a,f,g],l≠j) (h:f1=.bool false\/f1=.bool true)
  (i:eX s.heap z TI TO (rawInt T) f1) (C:s.heap.get? T=some y) (m:dr s.heap TI (.ref a) (.ref f) (.ref g))
  (h1:s.heap.IsListIter a d k) (n:s.heap.IsList d t) (D:t[k]? = none)
  (G:∀p e,(∀c o,c∉[z,a]->s.heap.get? c=some o->p.get? c=some o)->(∃o,p.get? e=some o/\o.cls=.type "StopIteration")->E (.ref e) { s with heap:=p }) :
  wpAny (model prog w) A (Builtin.«zip.__next__» ⟨[.ref z],[]⟩) Q E s:=by
 simp only[List.nodup_cons,List.mem_cons,List.not_mem_nil,or_false,not_or,not_false_eq_true,and_true,List.nodup_nil]at v;obtain⟨⟨H,I,J,z2,z3⟩,⟨u,L,M,N⟩,⟨O,R,S⟩,⟨U,X⟩,Y⟩:=v;have Z:∀j∈[z,TI,TO,a,f,g],d≠j:=B d (by simp);show wpAny _ _ (field (.ref z) 2 >>= _) _ _ _;refine ae (wpAny_field i rfl (x:=.bool false) rfl ?_);show wpAny _ _ (field (.ref z) 3 >>= _) _ _ _;refine ae (wpAny_field i rfl (x:=.ref TI) rfl ?_);refine ae (wpAny_seqItems m rfl ?_);show wpAny _ _ (Builtin.SmallTypes.ownedTupleIsFree (.ref z) >>= _) _ _ _;refine ae (yr h i C fun h₁ a0 b=>?_);simp only[Bool.false_eq_true,if_false];refine ae ?_;simp only[List.forIn_toArray,List.forIn_cons,List.forIn_nil];refine ae (ae (wpAny_holding ?_));show wpAny _ _ (Builtin.SmallTypes.nextOf (.ref a) >>= _) _ _ _;refine ae (wpAny_nextOf_list_end hh (h1.extBut b.extBut (Ne.symm J)) (n.extBut b.extBut (Z z (by simp))) D fun h₂ e q he=>?_);refine G h₂ e (fun c o r x=>?_) he;simp only[List.mem_cons,List.not_mem_nil,or_false,not_or]at r;exact q _ _ r.2 (b.extBut _ _ r.1 x)
structure Z3 (h:Heap) (z TI TO i1 i2 i3 l1 l2 l3:Addr) (xs ys zs:Array Value) (S:Addr) (i:Nat):Prop where
 zrec:∃(f0 f1:Value),eX h z TI TO f0 f1/\(f1=.bool false\/f1=.bool true)/\((i=0/\f0=.none/\f1=.bool false)\/(0<i/\∃(T:Addr) (oT:Obj),f0=rawInt T/\h.get? T=some oT/\T∉[S,z,TO,i1,i2,i3]))
 ti:dr h TI (.ref i1) (.ref i2) (.ref i3)
 to:∃a b c,dr h TO a b c
 h1:h.IsListIter i1 l1 i
 h2:h.IsListIter i2 l2 i
 h3:h.IsListIter i3 l3 i
 l1:h.IsList l1 xs
 l2:h.IsList l2 ys
 l3:h.IsList l3 zs
def qr(h:Heap)(n:Addr)(b c d:Array Value)(a:List Value):Prop:=
 ∀(j:Nat) (v:Value),a[j]? = some v->∃(T:Addr) (x y u:Value),v=Value.ref T/\n<=T/\dr h T x y u/\b[j]? = some x/\c[j]? = some y/\d[j]? = some u
theorem JO{TI TO }
  (D:[z,TI,TO,f,g,h].Nodup) (Y:∀l∈[u,B,C],∀j∈[z,TI,TO,f,g,h],l≠j) (st:Z3 s.heap z TI TO f g h u B C R U X S i) (hS:S<s.heap.objs.size)
  (hx:R[i]? = some x) (hy:U[i]? = some y) (hv:X[i]? = some v)
  (hQ:∀k,Z3 k z TI TO f g h u B C R U X S (i+1)->dr k s.heap.objs.size x y v->k.objs.size=s.heap.objs.size+1->(∀c o,c∉[z,TO,f,g,h]->s.heap.get? c=some o->k.get? c=some o)->Q (some (.ref s.heap.objs.size)) { s with heap:=k }) :
  wpAny (model prog w) A (pyNext (.ref z)) Q E s:=by
 obtain⟨⟨f0,f1,N,Z,hf⟩,ti,⟨a,b,c,to⟩,h1,h2,h3,m,n,p⟩:=st;have hT:s.TypeIs (.ref z) "zip":=⟨_,N,rfl⟩
 have lt:∀{c o},s.heap.get? c=some o->s.heap.objs.size≠c:=fun e=>Nat.ne_of_gt (bj e);have new:s.heap.objs.size∉[S,z,TO,f,g,h]:=by simp only[List.mem_cons,List.not_mem_nil,or_false,not_or];exact⟨Nat.ne_of_gt hS,lt N,lt to,(by obtain⟨_,e,_⟩:=h1;exact lt e),(by obtain⟨_,e,_⟩:=h2;exact lt e),(by obtain⟨_,e,_⟩:=h3;exact lt e)⟩
 have sub:∀l∈[u,B,C],l∉[z,TO,f,g,h]:=fun l hm z'=>by simp only[List.mem_cons,List.not_mem_nil,or_false]at z';rcases z' with q |q |q |q |q<;>exact Y l hm _ (by simp) q
 have G:TI∉[z,TO,f,g,h]:=by simp only[List.nodup_cons,List.mem_cons,List.not_mem_nil,or_false,not_or,not_false_eq_true,and_true,List.nodup_nil]at D;obtain⟨⟨H,I,z1,z2,z3⟩,⟨r,J,L,M⟩,_⟩:=D;simp only[List.mem_cons,List.not_mem_nil,or_false,not_or];exact⟨Ne.symm H,r,J,L,M⟩
 unfold pyNext;refine ae (wpAny_attempt (wpAny_callSpecial?_slot (name:=Str.ofString "__next__") hT F.slot_zip_next (wpAny_call_entry F.slot_zip_next hT F.entry_zip_next ?_ (F.args_zip_next_1 _))));rcases hf with⟨hi,rfl,rfl⟩ |⟨hi,T,oT,rfl,eT,nT⟩
 .refine JL D Y N ti to h1 h2 h3 m n p hx hy hv fun k a1 a2 a3 a4 a5 O a7 t=>aR ?_;exact hQ k ⟨⟨_,_,a1,.inl rfl,.inr ⟨Nat.succ_pos _,_,_,rfl,O,new⟩⟩,t _ _ G ti,⟨_,_,_,a2⟩,a3,a4,a5,m.at fun o e=>t _ o (sub u (by simp)) e,n.at fun o e=>t _ o (sub B (by simp)) e,p.at fun o e=>t _ o (sub C (by simp)) e⟩ O a7 t
 .refine JM D Y Z N eT ti h1 h2 h3 m n p hx hy hv fun k a1 a3 a4 a5 O a7 t=>aR ?_;have d:∀c o,c∉[z,TO,f,g,h]->s.heap.get? c=some o->k.get? c=some o:=fun c o hc e=>t c o (fun q=>hc (by simp only[List.mem_cons,List.not_mem_nil,or_false]at q ⊢;rcases q with q |q |q |q<;>simp[q])) e;have a0:TO∉[z,f,g,h]:=by simp only[List.nodup_cons,List.mem_cons,List.not_mem_nil,or_false,not_or,not_false_eq_true,and_true,List.nodup_nil]at D;obtain⟨⟨H,I,z1,z2,z3⟩,⟨r,J,L,M⟩,⟨a9,b0,b1⟩,_⟩:=D;simp only[List.mem_cons,List.not_mem_nil,or_false,not_or];exact⟨Ne.symm I,a9,b0,b1⟩
  refine hQ k ⟨⟨_,_,a1,.inr rfl,.inr ⟨Nat.succ_pos _,_,_,rfl,d T oT (fun q=>nT (bq _ q)) eT,nT⟩⟩,d _ _ G ti,⟨a,b,c,t _ _ a0 to⟩,a3,a4,a5,m.at fun o e=>d _ o (sub u (by simp)) e,n.at fun o e=>d _ o (sub B (by simp)) e,p.at fun o e=>d _ o (sub C (by simp)) e⟩ O a7 d
theorem JP{TI TO }(O:A.handled=none)
  (R:[z,TI,TO,d,f,g].Nodup) (y:∀l∈[r,t,u],∀j∈[z,TI,TO,d,f,g],l≠j) (st:Z3 s.heap z TI TO d f g r t u n v x S i) (U:0<i) (B:n[i]? = none)
  (C:∀h,(∀c o,c∉[z,d]->s.heap.get? c=some o->h.get? c=some o)->Q none { s with heap:=h }) :
  wpAny (model prog w) A (pyNext (.ref z)) Q E s:=by
 obtain⟨⟨X,f1,p,k,D⟩,ti,⟨a,b,c,to⟩,h1,h2,h3,m,G,H⟩:=st;have q:s.TypeIs (.ref z) "zip":=⟨_,p,rfl⟩
 rcases D with⟨I,_⟩ |⟨_,T,Y,rfl,J,Z⟩
 .omega
 .unfold pyNext;refine ae (wpAny_attempt (wpAny_callSpecial?_slot (name:=Str.ofString "__next__") q F.slot_zip_next
   (wpAny_call_entry F.slot_zip_next q F.entry_zip_next (JN O R y k p J ti h1 m B fun h e L M=>?_) (F.args_zip_next_1 _))))
  obtain⟨o,ho,N⟩:=M;refine ae (wpAny_isInstance (T:="StopIteration") (b:=true) ⟨o,ho,N⟩ isSubtype_stop ?_);exact aR (C _ L)
theorem Z3.keep{TI TO }(st:Z3 h z TI TO d f g r s t v x y S i)(B:S∉[z,TI,TO,d,f,g,r,s,t])(k:∀b o,b≠S->h.get? b=some o->u.get? b=some o) :
  Z3 u z TI TO d f g r s t v x y S i:=by
 simp only[List.mem_cons,List.not_mem_nil,or_false,not_or]at B;obtain⟨D,E,G,H,I,J,L,M,N⟩:=B;obtain⟨⟨O,f1,Q,j,l⟩,ti,⟨a,b,c,to⟩,h1,h2,h3,m,n,p⟩:=st;refine⟨⟨O,f1,k _ _ (Ne.symm D) Q,j,?_⟩,k _ _ (Ne.symm E) ti,⟨a,b,c,k _ _ (Ne.symm G) to⟩,h1.at fun o e=>k _ o (Ne.symm H) e,h2.at fun o e=>k _ o (Ne.symm I) e,h3.at fun o e=>k _ o (Ne.symm J) e,m.at fun o e=>k _ o (Ne.symm L) e,n.at fun o e=>k _ o (Ne.symm M) e,p.at fun o e=>k _ o (Ne.symm N) e⟩;rcases l with l |⟨U,T,X,e,Y,C⟩
 .exact .inl l
 .exact .inr ⟨U,T,X,e,k _ _ (fun q=>C (by simp[q])) Y,C⟩
noncomputable abbrev aX(a:Array Value)(v:Value)(c:Nat):Nat:=if (a.push v).size==a.size then c else c+1
theorem JQ{TI TO }(hh:A.handled=none)
  (nd:[z,TI,TO,p,D,E].Nodup) (hl:∀l∈[l1,l2,l3],∀j∈[z,TI,TO,p,D,E],l≠j) (hS:S∉[z,TI,TO,p,D,E,l1,l2,l3]) (I:∀j∈[S,z,TI,TO,p,D,E],j<n₀)
  (e2:L.size=h.size) (e3:M.size=h.size) (a6:0<h.size) (hn:h.size<=sizeLine) (res) :
  ∀k i  s  a  c,h.size - i=k->i<=h.size->Z3 s.heap z TI TO p D E l1 l2 l3 h L M S i->n₀<=s.heap.objs.size->s.heap.get? S=some { cls:=.type "list",dict:=none,data:=.seq a.toArray c,slots:=#[] }->a.length=i->qr s.heap n₀ h L M a->
  (∀n d c',(∀b o,b∉[S,z,TO,p,D,E]->s.heap.get? b=some o->n.get? b=some o)->n.get? S=some { cls:=.type "list",dict:=none,data:=.seq d.toArray c',slots:=#[] }->d.length=h.size->qr n n₀ h L M d->R (.ok (.ret res)) { s with heap:=n })->
  codeAny (model prog w) A (.builtin "list.extend.loop" ⟨[.ref S,.ref z,res],[]⟩) R s:=by
 intro k
 induction k with
 |zero=>
  intro i s a c hk hi st r B f tr hR;have N:i=h.size:=by lia
  refine codeAny_builtin F.entry_extend_loop ?_;rw[Around.under_plainId F.plain_extend_loop _];show wpAny _ A.in1 (pyNext (.ref z) >>= _) _ _ s;have nS:S∉[z,p]:=fun q=>hS (by simp only[List.mem_cons,List.not_mem_nil,or_false]at q ⊢;rcases q with q |q<;>simp[q]);refine ae (JP hh nd hl st (by lia) (by rw[N];exact Array.getElem?_eq_none (bb _)) fun n g=>?_);refine aR (hR n a c (fun b o I e=>g b o (fun q=>I (by simp only[List.mem_cons,List.not_mem_nil,or_false]at q ⊢;rcases q with q |q<;>simp[q])) e) (g S _ nS B) (f.trans N) fun j v H=>?_);obtain⟨T,x,y,u,e,G,t,q⟩:=tr j v H;refine⟨T,x,y,u,e,G,g T _ (fun m=>?_) t,q⟩;simp only[List.mem_cons,List.not_mem_nil,or_false]at m;rcases m with m |m
  .exact absurd (I z (by simp)) (by rw[<-m];exact Nat.not_lt.mpr G)
  .exact absurd (I p (by simp)) (by rw[<-m];exact Nat.not_lt.mpr G)
 |succ k ih=>
  intro i s a c hk hi st r B f tr hR;have O:i<h.size:=by lia
  refine codeAny_builtin F.entry_extend_loop ?_;rw[Around.under_plainId F.plain_extend_loop _];show wpAny _ A.in1 (pyNext (.ref z) >>= _) _ _ s;refine ae (JO nd hl st (bj B) (x:=h[i]) (y:=L[i]) (v:=M[i]) (Array.getElem?_eq_getElem O) (Array.getElem?_eq_getElem (by lia)) (Array.getElem?_eq_getElem (by lia)) fun n a0 a1 Q g=>?_);have nS:S∉[z,TO,p,D,E]:=fun q=>hS (by simp only[List.mem_cons,List.not_mem_nil,or_false]at q ⊢;rcases q with q |q |q |q |q<;>simp[q]);have U:=g S _ nS B;have ha:a.toArray.size=i:=by rw[List.size_toArray];exact f
  show wpAny _ A.in1 (updateSeq S (·.push (.ref s.heap.objs.size)) >>= _) _ _ _;refine ae ?_;have old:∀b o,b≠S->n.get? b=some o->(n.update S (Obj.mapSeq (·.push (.ref s.heap.objs.size)))).get? b=some o:=fun b o I e=>(Heap.get?_update_other _ _ (Ne.symm I)).trans e;have big:∀T,n₀<=T->T∉[S,z,TO,p,D,E]:=fun T G m=>by simp only[List.mem_cons,List.not_mem_nil,or_false]at m;rcases m with m |m |m |m |m |m<;>exact absurd (I T (by rw[m];simp)) (Nat.not_lt.mpr G)
  refine wpAny_updateSeq U rfl (aR ⟨plainId_quiet F.plain_extend_loop _,ih (i+1) _ (a++[.ref s.heap.objs.size]) (aX a.toArray (.ref s.heap.objs.size) c) (by lia) O (a0.keep hS old) ?_ ?_ (by rw[List.length_append,f];rfl) ?_ fun a2 d c' X Y a3 Z=>?_⟩)
   (by rw[ha];lia) (by show(a.toArray.push _).size<=sizeLine+1;rw[Array.size_push,ha];lia)
  .show n₀<=(n.update S (Obj.mapSeq (·.push (.ref s.heap.objs.size)))).objs.size;rw[show(n.update S (Obj.mapSeq (·.push (Value.ref s.heap.objs.size)))).objs.size=n.objs.size from(Heap.SameBut.update ..).1,Q];exact Nat.le_succ_of_le r
  .have q:=Heap.get?_update_self (Obj.mapSeq (·.push (Value.ref s.heap.objs.size))) U rfl;have e:a.toArray.push (Value.ref s.heap.objs.size)=(a++[Value.ref s.heap.objs.size]).toArray:=by simp
   have q':(n.update S (Obj.mapSeq (·.push (Value.ref s.heap.objs.size)))).get? S=some { cls:=.type "list",dict:=none,data:=.seq (a.toArray.push (Value.ref s.heap.objs.size)) (aX a.toArray (Value.ref s.heap.objs.size) c),slots:=#[] }:=q;rw[e]at q';exact q'
  .intro j v H
   by_cases a4:j<a.length
   .rw[List.getElem?_append_left a4]at H;obtain⟨T,x,y,u,e,G,t,q⟩:=tr j v H;have nb:=big T G;exact⟨T,x,y,u,e,G,old T _ (fun C=>nb (by simp[C])) (g T _ (fun C=>nb (bq _ C)) t),q⟩
   .have a5:j=a.length:=by have:=(List.getElem?_eq_some_iff.mp H).1;rw[List.length_append,List.length_singleton]at this;lia
    subst a5;rw[List.getElem?_append_right (bb _),Nat.sub_self]at H;cases H;have nb:=big s.heap.objs.size r;refine⟨s.heap.objs.size,h[i],L[i],M[i],rfl,r,old _ _ (fun C=>nb (by simp[C])) a1,?_,?_,?_⟩<;>(rw[f];exact Array.getElem?_eq_getElem (by lia))
  .refine hR a2 d c' (fun b o J e=>X b o J (old b o (fun C=>J (by simp[C])) (g b o (fun C=>J (bq _ C)) e))) Y a3 Z
namespace F3
theorem zip_no_len:typeLookup (.type "zip") "__len__" = pure none:=by rw[typeLookup_type,builtinLookup_eq_fast];kernel_rfl
theorem zip_no_hint:typeLookup (.type "zip") "__length_hint__" = pure none:=by rw[typeLookup_type,builtinLookup_eq_fast];kernel_rfl
theorem typeCall_zip_3(a b c):checkTypeCall "zip" ⟨[a,b,c],[]⟩=pure ():=by kernel_rfl
theorem newCall_zip_3(a b c):checkBuiltinCall "zip.__new__" ⟨[.type "zip",a,b,c],[]⟩=pure ():=by kernel_rfl
theorem args_object_init_4(a b c d):argsOk "object.__init__" ⟨[a,b,c,d],[]⟩:=by unfold argsOk;rw[signature?_of (id:="object.__init__") (n:=['_','_','t','i','n','i','_','_']) (o:=['t','c','e','j','b','o']) (by kernel_rfl) F.owner_object];kernel_rfl
end F3
noncomputable abbrev zA(h:Heap)(a:Addr):Heap:=h.push { cls:=.type "list_iterator",data:=.fields #[.ref a,.int 0 0] }
abbrev zB(h:Heap)(a b:Addr):Heap:=(zA h a).push { cls:=.type "list_iterator",data:=.fields #[.ref b,.int 0 0] }
abbrev zC(h:Heap)(a b c:Addr):Heap:=(zB h a b).push { cls:=.type "list_iterator",data:=.fields #[.ref c,.int 0 0] }
abbrev zD(h:Heap)(a b c:Addr):Heap:=(zC h a b c).push { cls:=.type "tuple",data:=.seq #[.ref h.objs.size,.ref (zA h a).objs.size,.ref (zB h a b).objs.size] }
abbrev zE(h:Heap)(a b c:Addr):Heap:=(zD h a b c).push { cls:=.type "tuple",data:=.seq #[.none,.none,.none] }
abbrev zF(h:Heap)(a b c:Addr):Heap:=(zE h a b c).push { cls:=.type "zip",data:=.fields #[.none,.bool false,.bool false,.ref (zC h a b c).objs.size,.ref (zD h a b c).objs.size] }
theorem JR(a b c)(o p q) :
  Meets (Builtin.«zip.__new__» ⟨[.type "zip",.ref a,.ref b,.ref c],[]⟩) (fun _ R s=>s.heap.IsList a o/\s.heap.IsList b p/\s.heap.IsList c q/\
   R (.ok (.ret (.ref (zE s.heap a b c).objs.size))) { s with heap:=zF s.heap a b c }):=
 .of_wp fun t w A R s h=>by
  obtain⟨e,g,d,f,os⟩:=s;obtain⟨i,j,k,h⟩:=h;have r:=sub_zip;have l:Heap.IsList (Shared.heap ⟨e,g,d,f,os⟩) a o:=i;have m:Heap.IsList (Shared.heap ⟨e.push { cls:=.type "list_iterator",data:=.fields #[.ref a,.int 0 0] },g,d,f,os⟩) b p:=Heap.IsList.push j _;have n:Heap.IsList (Shared.heap ⟨(e.push { cls:=.type "list_iterator",data:=.fields #[.ref a,.int 0 0] }).push { cls:=.type "list_iterator",data:=.fields #[.ref b,.int 0 0] },g,d,f,os⟩) c q:=Heap.IsList.push (Heap.IsList.push k _) _
  wp_walk using wpAny_pyIter_list l,wpAny_pyIter_list m,wpAny_pyIter_list n
  exact⟨_,rfl,h⟩
theorem JS{s:Shared}(f:s.heap.IsList a q)(g:s.heap.IsList b r)(i:s.heap.IsList d t)
  (h:∀e,eX e (s.heap.objs.size+5) (s.heap.objs.size+3) (s.heap.objs.size+4) .none (.bool false)->dr e (s.heap.objs.size+3) (.ref s.heap.objs.size) (.ref (s.heap.objs.size+1)) (.ref (s.heap.objs.size+2))->
   dr e (s.heap.objs.size+4) .none .none .none->e.IsListIter s.heap.objs.size a 0->e.IsListIter (s.heap.objs.size+1) b 0->e.IsListIter (s.heap.objs.size+2) d 0->e.objs.size=s.heap.objs.size+6->
   (∀c o,s.heap.get? c=some o->e.get? c=some o)->Q (.ref (s.heap.objs.size+5)) { s with heap:=e }) :
  wpAny (model prog w) A (call (.type "zip") [.ref a,.ref b,.ref d]) Q E s:=by
 refine callType_new F.called_zip (by decide) (F3.typeCall_zip_3 _ _ _) (F3.newCall_zip_3 _ _ _) (fun obj=>F3.args_object_init_4 obj _ _ _) F.entry_zip_new
  (JR a b d q r t) ⟨f,g,i,?_⟩
 have j:(zA s.heap a).objs.size=s.heap.objs.size+1:=Heap.size_push ..;have k:(zB s.heap a b).objs.size=s.heap.objs.size+2:=by rw[Heap.size_push,j]
 have l:(zC s.heap a b d).objs.size=s.heap.objs.size+3:=by rw[Heap.size_push,k]
 have m:(zD s.heap a b d).objs.size=s.heap.objs.size+4:=by rw[Heap.size_push,l]
 have n:(zE s.heap a b d).objs.size=s.heap.objs.size+5:=by rw[Heap.size_push,m]
 have y:(zF s.heap a b d).objs.size=s.heap.objs.size+6:=by rw[Heap.size_push,n]
 have p:(zF s.heap a b d).get? (zE s.heap a b d).objs.size=some _:=Heap.get?_push_size _ rfl;have u:(zF s.heap a b d).get? (zD s.heap a b d).objs.size=some _:=aS _ (Heap.get?_push_size _ rfl);have v:(zF s.heap a b d).get? (zC s.heap a b d).objs.size=some _:=aS _ (aS _ (Heap.get?_push_size _ rfl));have g3:(zF s.heap a b d).get? (zB s.heap a b).objs.size=some _:=aS _ (aS _ (aS _ (Heap.get?_push_size _ rfl)));have g2:(zF s.heap a b d).get? (zA s.heap a).objs.size=some _:=aS _ (aS _ (aS _ (aS _ (Heap.get?_push_size _ rfl))));have g1:(zF s.heap a b d).get? s.heap.objs.size=some _:=aS _ (aS _ (aS _ (aS _ (aS _ (Heap.get?_push_size _ rfl)))));show _/\_;rw[l,m,n]at p;rw[j,k,l]at v;rw[m]at u;rw[k]at g3;rw[j]at g2;rw[n];exact⟨⟨_,p,rfl⟩,h _ p v u ⟨_,g1,rfl,rfl⟩ ⟨_,g2,rfl,rfl⟩ ⟨_,g3,rfl,rfl⟩ y fun c o x=>
  aS _ (aS _ (aS _ (aS _ (aS _ (aS _ x)))))⟩
theorem JT{s:Shared}{TI TO :Addr}(hh:A.handled=none)
  (nd:[z,TI,TO,k,n,p].Nodup) (hl:∀l∈[L,M,N],∀j∈[z,TI,TO,k,n,p],l≠j) (x:∀j∈[z,TI,TO,k,n,p,L,M,N],j<s.heap.objs.size)
  (y:eX s.heap z TI TO .none (.bool false)) (ti:dr s.heap TI (.ref k) (.ref n) (.ref p)) (to:dr s.heap TO .none .none .none)
  (h1:s.heap.IsListIter k L 0) (h2:s.heap.IsListIter n M 0) (h3:s.heap.IsListIter p N 0) (U:s.heap.IsList L g) (X:s.heap.IsList M S) (Y:s.heap.IsList N T)
  (e2:S.size=g.size) (e3:T.size=g.size) (B:0<g.size) (hn:g.size<=sizeLine)
  (hQ:∀f r c,(∀b o,b∉[z,TO,k,n,p]->s.heap.get? b=some o->f.get? b=some o)->f.get? s.heap.objs.size=some { cls:=.type "list",dict:=none,data:=.seq r.toArray c,slots:=#[] }->r.length=g.size->qr f (s.heap.objs.size+1) g S T r->
   Q (.ref s.heap.objs.size) { s with heap:=f }):wpAny (model prog w) A (call (.type "list") [.ref z]) Q E s:=by
 have C:s.heap.objs.size∉[z,TI,TO,k,n,p,L,M,N]:=fun hm=>Nat.lt_irrefl _ (x _ hm);have Z:s.heap.objs.size≠z:=fun e=>C (by simp[e]);refine callType_codes (Q₁:=fun obj s₁=>obj=.ref s.heap.objs.size/\s₁ = { s with heap:=s.heap.push { cls:=.type "list",data:=.seq #[] } }) F.called_list (F.typeCall_list_1 _) F.entry_list_init
  (code_list_new _ ⟨rfl,rfl⟩) fun obj s₁ h₁=>?_
 obtain⟨rfl,rfl⟩:=h₁;have O:(s.heap.push { cls:=.type "list",data:=.seq #[] }).get? s.heap.objs.size=some { cls:=.type "list",data:=.seq #[] }:=Heap.get?_push_size _ rfl;have t:∀f,eX f z TI TO .none (.bool false)->Shared.TypeIs { s with heap:=f } (.ref z) "zip":=fun f q=>⟨_,q,rfl⟩
 refine⟨⟨_,O,rfl⟩,F.args_list_init_2 _ _,?_⟩;have pu:∀b o,s.heap.get? b=some o->(s.heap.push { cls:=.type "list",data:=.seq #[] }).get? b=some o:=fun b o e=>aS _ e;show wpAny _ A.in1.in1 (do let old <-Builtin.List.listItems (.ref s.heap.objs.size);Builtin.List.listUpdate (.ref s.heap.objs.size) (fun _=>#[]);letGo old.toList.reverse;Builtin.List.listExtendWith (.ref s.heap.objs.size) (.ref z) .none) _ _ _;refine ae ?_;unfold Builtin.List.listItems;refine ae (wpAny_seqItems O rfl (aR ?_));show wpAny _ _ (updateSeq s.heap.objs.size (fun _=>#[]) >>= fun _=>letGo (#[]:Array Value).toList.reverse >>= fun _=>Builtin.List.listExtendWith (.ref s.heap.objs.size) (.ref z) .none) _ _ _;refine ae (wpAny_updateSeq O rfl ?_);have u:=Heap.get?_update_self (Obj.mapSeq (fun _=>(#[]:Array Value))) O rfl;refine ae (wpAny_letGo ?_);generalize D:(s.heap.push { cls:=.type "list",data:=.seq #[] }).update s.heap.objs.size (Obj.mapSeq (fun _=>(#[]:Array Value)))=i at u ⊢;have d:∀b o,s.heap.get? b=some o->i.get? b=some o:=fun b o e=>by rw[<-D];exact(Heap.get?_update_other _ _ (Nat.ne_of_gt (bj e))).trans (pu b o e)
 have EF:i.objs.size=s.heap.objs.size+1:=by rw[<-D,show((s.heap.push { cls:=.type "list",data:=.seq #[] }).update s.heap.objs.size (Obj.mapSeq (fun _=>(#[]:Array Value)))).objs.size=(s.heap.push { cls:=.type "list",data:=.seq #[] }).objs.size from(Heap.SameBut.update ..).1,Heap.size_push]
 unfold Builtin.List.listExtendWith;refine ae (wpAny_typeOf (t _ (d _ _ y)) ?_);have g1:Builtin.List.listSameRef (.ref s.heap.objs.size) (.ref z)=false:=by simp[Builtin.List.listSameRef,Z]
 have g2:(Value.type "zip"==Value.type "list")=false:=by decide
 have g3:(Value.type "zip"==Value.type "tuple")=false:=by decide
 simp only[g1,g2,g3,Bool.or_false,Bool.false_eq_true,if_false];refine ae (wpAny_pyIter_zip (s:={ s with heap:=i }) (d _ _ y) ?_);refine ae (wpAny_holding ?_);unfold Builtin.List.listLengthHint;refine ae (wpAny_specialOf (t _ (d _ _ y)) F3.zip_no_len ?_);show wpAny _ _ (specialOf (Value.ref z) (Str.ofString "__length_hint__") >>= _) _ _ _;refine ae (wpAny_specialOf (t _ (d _ _ y)) F3.zip_no_hint ?_);refine aR ?_;show wpAny _ _ (rule "list.extend.makes-room" >>= fun _=>Builtin.List.listTouch (.ref s.heap.objs.size) >>= fun _=>
  again (.builtin "list.extend.loop" ⟨[.ref s.heap.objs.size,.ref z,.none],[]⟩)) _ _ _
 refine ae (wpAny_rule ?_);refine ae ?_;show wpAny _ _ (updateSeq s.heap.objs.size (·.push .none) >>= fun _=>updateSeq s.heap.objs.size (·.pop)) _ _ _;refine ae (wpAny_updateSeq u rfl ?_);have G:=Heap.get?_update_self (Obj.mapSeq (·.push Value.none)) u rfl;refine wpAny_updateSeq (hz:=by seq_fits) G rfl ?_;have H:=Heap.get?_update_self (Obj.mapSeq (·.pop)) G rfl;generalize I:(i.update s.heap.objs.size (Obj.mapSeq (·.push Value.none))).update s.heap.objs.size (Obj.mapSeq (·.pop))=H2 at H ⊢;have a:∀b o,s.heap.get? b=some o->H2.get? b=some o:=fun b o e=>by rw[<-I];exact(Heap.get?_update_other _ _ (Nat.ne_of_gt (bj e))).trans ((Heap.get?_update_other _ _ (Nat.ne_of_gt (bj e))).trans (d b o e))
 have EG:H2.objs.size=s.heap.objs.size+1:=by
  rw[<-I,show((i.update s.heap.objs.size (Obj.mapSeq (·.push Value.none))).update s.heap.objs.size (Obj.mapSeq (·.pop))).objs.size=(i.update s.heap.objs.size (Obj.mapSeq (·.push Value.none))).objs.size from(Heap.SameBut.update ..).1,
   show(i.update s.heap.objs.size (Obj.mapSeq (·.push Value.none))).objs.size=i.objs.size from(Heap.SameBut.update ..).1,EF]
 refine aR ⟨plainId_quiet F.plain_extend_loop _,JQ (A:=A.in1) (n₀:=s.heap.objs.size+1) (show A.in1.handled=none from hh) nd hl C (fun j R=>?_) e2 e3 B hn _ g.size 0 _ [] _ rfl (Nat.zero_le _)
  ⟨⟨_,_,a _ _ y,.inl rfl,.inl ⟨rfl,rfl,rfl⟩⟩,a _ _ ti,⟨_,_,_,a _ _ to⟩,h1.at fun o e=>a _ o e,h2.at fun o e=>a _ o e,h3.at fun o e=>a _ o e,U.at fun o e=>a _ o e,X.at fun o e=>a _ o e,Y.at fun o e=>a _ o e⟩
  (Nat.le_of_eq EG.symm) H rfl (fun j v h=>by simp at h) fun f J c' a0 a1 a2 a3=>?_⟩
 .rcases List.mem_cons.mp R with rfl |R
  .exact Nat.lt_succ_self _
  .refine Nat.lt_succ_of_lt (x j ?_);simp only[List.mem_cons,List.not_mem_nil,or_false]at R ⊢;rcases R with q |q |q |q |q |q<;>simp[q]
 .refine⟨rfl,hQ f J c' (fun b o hb e=>a0 b o (fun m=>?_) (a b o e)) a1 a2 a3⟩;rcases List.mem_cons.mp m with q |q
  .exact absurd (bj e) (by rw[q];exact Nat.lt_irrefl _)
  .exact hb q
end L2
namespace L2
open PySem PySem.Spec PyProof.Rows
theorem JU(s:bR H b)(h:Rd H a u):Rd b a u:=h.imp (fun e=>s _ _ e) fun⟨o,e⟩=>⟨o,s _ _ e⟩
theorem yt(n:H a=none)(h:Rd H a u):False:=by rcases h with h |⟨o,h⟩<;>(rw[n]at h;cases h)
theorem JV(h:Rd H a (.tup c))(b:Rd H a (.tup d)):c=d:=by rcases h with h |⟨o,h⟩<;>rcases b with b |⟨e,b⟩<;>(rw[h]at b;cases b<;>rfl)
noncomputable def cL:List PyData->Bool
 |[]=>true
 |.tuple _::_=>true
 |_::ds=>!ds.isEmpty&&cL ds
def lR(H:Hp)(a:Addr)(b:List V)(c:List PyData):Prop:=H a=some (.tup b)\/(∃o,H a=some (.frz o (.tup b)))/\cL c=true
theorem lR.mono(s:bR H c)(h:lR H a d f):lR c a d f:=h.imp (fun e=>s _ _ e) fun b=>by obtain⟨⟨o,e⟩,k⟩:=b;exact⟨⟨o,s _ _ e⟩,k⟩
theorem lR.rd(h:lR H a b c):Rd H a (.tup b):=h.imp id fun z=>z.1
mutual
inductive DV (H:Hp):V->PyData->Prop where
 |non:DV H .non .none
 |bl (b:Bool):DV H (.bl b) (.bool b)
 |int (i:Int):DV H (.int i) (.int i)
 |str (x:Str):DV H (.str x) (.str x)
 |lst {a:Addr}{xs:List V}{ds:List PyData}:H a=some (.lst xs)->aG H xs ds->DV H (.ref a) (.list ds)
 |tup {a:Addr}{xs:List V}{ds:List PyData}:lR H a xs ds->aG H xs ds->DV H (.ref a) (.tuple ds)
inductive aG (H:Hp):List V->List PyData->Prop where
 |nil:aG H [] []
 |cons {x:V}{xs:List V}{d:PyData}{ds:List PyData}:DV H x d->aG H xs ds->aG H (x::xs) (d::ds)
end
mutual
theorem DV.mono(s:bR H H'):∀{v:V}{d:PyData},DV H v d->DV H' v d
 |_,_,.non=>.non
 |_,_,.bl b=>.bl b
 |_,_,.int i=>.int i
 |_,_,.str x=>.str x
 |_,_,.lst h r=>.lst (s _ _ h) (aG.mono s r)
 |_,_,.tup h r=>.tup (h.mono s) (aG.mono s r)
theorem aG.mono(s:bR H H'):∀{vs:List V}{ds:List PyData},aG H vs ds->aG H' vs ds
 |_,_,.nil=>.nil
 |_,_,.cons h r=>.cons (DV.mono s h) (aG.mono s r)
theorem aG.length:∀{vs a},aG H vs a->vs.length=a.length
 |_,_,.nil=>rfl
 |_,_,.cons _ r=>congrArg (·+1) r.length
theorem aG.append:∀{vs a c b},aG H vs c->aG H a b->aG H (vs++a) (c++b)
 |_,_,_,_,.nil,s=>s
 |_,_,_,_,.cons h r,s=>.cons h (r.append s)
theorem aG.get:∀{vs a}{i:Nat}{d},aG H vs a->a[i]? = some d->∃v,vs[i]? = some v/\DV H v d
 |_,_,_,_,.nil,e=>by simp at e
 |_,_,0,_,.cons h _,e=>by simp at e;subst e;exact⟨_,rfl,h⟩
 |_,_,i+1,d,.cons _ r,e=>by obtain⟨v,h1,h2⟩:=r.get (i:=i) (d:=d) (by simpa using e);exact⟨v,by simpa using h1,h2⟩
theorem aG.get':∀{vs a}{i:Nat}{v},aG H vs a->vs[i]? = some v->∃d,a[i]? = some d/\DV H v d
 |_,_,_,_,.nil,e=>by simp at e
 |_,_,0,_,.cons h _,e=>by simp at e;subst e;exact⟨_,rfl,h⟩
 |_,_,i+1,d,.cons _ r,e=>by obtain⟨v,h1,h2⟩:=r.get' (i:=i) (v:=d) (by simpa using e);exact⟨v,by simpa using h1,h2⟩
theorem aG.drop:∀{vs a} n,aG H vs a->aG H (vs.drop n) (a.drop n)
 |_,_,0,r=>r
 |_,_,_+1,.nil=>.nil
 |_,_,n+1,.cons _ r=>r.drop n
theorem bS(h:H a=none):bR H (aI H a o):=fun b u e=>by rw[bv (gT e h)];exact e
theorem DV.tup_inv(h:DV H v (.tuple c)):∃a b,v=.ref a/\Rd H a (.tup b)/\aG H b c:=by cases h with |tup h r=>exact⟨_,_,rfl,h.rd,r⟩
theorem DV.tup_invK(h:DV H v (.tuple b))(d:cL b=false):∃a c,v=.ref a/\H a=some (.tup c)/\aG H c b:=by cases h with |tup h r=>exact⟨_,_,rfl,h.elim id (fun z=>by rw[d]at z;cases z.2),r⟩
theorem DV.lst_inv(h:DV H v (.list c)):∃a b,v=.ref a/\H a=some (.lst b)/\aG H b c:=by cases h with |lst h r=>exact⟨_,_,rfl,h,r⟩
theorem DV.int_inv(h:DV H v (.int i)):v=.int i:=by cases h;rfl
theorem DV.str_inv(h:DV H v (.str x)):v=.str x:=by cases h;rfl
theorem DV.bl_inv(h:DV H v (.bool b)):v=.bl b:=by cases h;rfl
theorem DV.non_inv(h:DV H v .none):v=.non:=by cases h;rfl
end
mutual
theorem Inv.reads(I:Inv X pins Y H s):∀{v:V}{d:PyData}{u:Value},DV H v d->bf v u->∃as,Reads s.heap u d as
 |_,_,_,.non,r=>by cases r;exact⟨_,.none⟩
 |_,_,_,.bl b,r=>by cases r;exact⟨_,.bool b⟩
 |_,_,_,.int i,r=>by obtain⟨t,rfl⟩:=r;exact⟨_,.int i t⟩
 |_,_,_,.str x,r=>by obtain⟨t,rfl⟩:=r;exact⟨_,.str x t⟩
 |_,_,_,.lst h q,r=>by cases r;obtain⟨_,its,n,rv,e⟩:=I.hok _ _ h;obtain⟨as,z⟩:=I.readsAll q rv;exact⟨_,reads_list_at e rfl rfl (by simpa using z)⟩
 |_,_,_,.tup h q,r=>by cases r;obtain⟨_,its,rv,o,e,c,n,d⟩:=h.rd.ok I.hok;obtain⟨as,z⟩:=I.readsAll q rv;exact⟨_,reads_tuple_at e c d (by simpa using z)⟩
theorem Inv.readsAll(I:Inv X pins Y H s):∀{vs:List V}{ds:List PyData}{us:List Value},aG H vs ds->bi vs us->∃as,ReadsAll s.heap us ds as
 |_,_,_,.nil,.nil=>⟨_,.nil⟩
 |_,_,_,.cons h q,.cons r rr=>by obtain⟨as,z⟩:=I.reads h r;obtain⟨bs,z'⟩:=I.readsAll q rr;exact⟨_,.cons z z'⟩
end
def uz(neg:Bool):R2:=fun x y H Q=>∃d e,DV H x d/\DV H y e/\SeqAt.shaped d=true/\SeqAt.shaped e=true/\Q (.bl (PyData.eqv d e != neg)) H
theorem yu(b:X.A.units+64<cLine):cx X (compareOp .Eq) (uz false):=by intro a s Y H x y v u Q I c f h;obtain⟨d,e,h1,h2,h3,g,q⟩:=h;obtain⟨as,i⟩:=I.reads h1 c;obtain⟨bs,j⟩:=I.reads h2 f;exact eq_dataH i j h3 g b ⟨_,H,I,by show Value.bool (PyData.eqv d e)=Value.bool (PyData.eqv d e != false);rw[Bool.bne_false],q⟩
theorem JW(b:X.A.units+64<cLine):cx X (compareOp .NotEq) (uz true):=by intro a s Y H x y v u Q I c f h;obtain⟨d,e,h1,h2,h3,g,q⟩:=h;obtain⟨as,i⟩:=I.reads h1 c;obtain⟨bs,j⟩:=I.reads h2 f;exact ne_dataH i j h3 g b ⟨_,H,I,by show Value.bool (!PyData.eqv d e)=Value.bool (PyData.eqv d e != true);rw[Bool.bne_true],q⟩
@[simp]noncomputable def uA:PyData->String
 |.none=>"NoneType"
 |.bool _=>"bool"
 |.int _=>"int"
 |.str _=>"str"
 |.list _=>"list"
 |.tuple _=>"tuple"
 |.dict _=>"dict"
def JX:List V->Hp->VK->Prop:=fun a H Q=>∃x d n b,a=[x,.ty n]/\DV H x d/\(∀K:Frag,kitOne K (.type (uA d)) (.type n)=some b)/\Q (.bl b) H
theorem JY:gr X (.builtin "isinstance") JX:=by
 intro g s Y H k m Q I r h;obtain⟨x,d,n,b,rfl,hd,e,q⟩:=h;obtain⟨u,w,rfl,f,l⟩:=vals2 r;cases l;have fin:∀j,EP X g Y Q (.bool b) { s with toks:=j }:=fun j=>⟨.bl b,H,I.tok j,rfl,q⟩
 cases hd with
 |non=>exact nV I f .non (e _) fin
 |bl c=>exact nV I f (.bl c) (e _) fin
 |int i=>exact nV I f (.int i) (e _) fin
 |str z=>exact nV I f (.str z) (e _) fin
 |lst h r=>exact nV I f (.lst h) (e _) fin
 | @tup a k ds h r=>cases(show u=Value.ref a from f);obtain⟨_,_,_,p⟩:=h.rd.ok I.hok;obtain⟨o,h1,h2,_⟩:=p;exact kia_one PySem.W.kitx_tuple I.kIn ⟨o,h1,h2⟩ (e _) (fun z=>nomatch z) fin
theorem Inv.turnedNew{Y:St}{ch:List Addr}{a:Addr}(I:Inv X pins Y H s)(f:∀b∈ch,gC X pins H b)(k:∀b d,b∉ch->s.heap.get? b=some d->h'.get? b=some d)(p:s.heap.objs.size<=a)
  (there:∀b∈ch,∀d,s.heap.get? b=some d->∃l,h'.get? b=some l) (new:cz X.prog X.w (aI H a o) h' a o):Inv X pins Y (aI H a o) { s with heap:=h',toks:=t' }:=by
 have i:=I.hok.fresh p;have j:∀b u,H b=some u->b∉ch:=fun b u e z=>by rw[(f b z).1]at e;cases e
 refine I.step (g':=s.gens) (d':=s.drawn) (ch:=ch) (fun b h=>⟨(f b h).2.2.2.1,(f b h).2.1,(f b h).2.2.2.2.1,(f b h).2.2.2.2.2⟩) (fun b d _ _ g e _=>k b d g e) (fun b d _ _ g e _=>⟨d.slots,k b d g e⟩)
  (fun b d _ e n=>by rw[bv (Nat.ne_of_lt (Nat.lt_of_lt_of_le (bj e) p))];exact n) (fun b d g e=>⟨d,k b d g e⟩) (fun b x e=>bS i b _ e) (fun b d u e=>bS i b _ e) (fun b C e=>⟨#[],by rw[bS i b _ e];simp⟩) (fun m y=>?_) (fun b u e=>?_) I.bare
 .obtain⟨t,A,B,ho,r⟩:=y;exact⟨t,A,B,k _ t (fun z=>(f _ z).2.1 rfl) ho,r⟩
 .by_cases h:b=a
  .subst h;rw[cK]at e;cases e;exact new
  .rw[bv h]at e;refine(I.hok b u e).stay (fun c v g q=>k c v ?_ q) (fun c q=>bS i c _ q) fun c x q=>bS i c _ q;rcases g with z |z
   .rw[z];exact j b u e
   .exact j c _ z
noncomputable def yv(K:Frag)(a:Addr):It:=
 ⟨fun i H=>∃b x,cE K H a b/\b[i]? = some x,fun i H v c=>∃T x,v=.ref T/\H T=none/\c = aI H T (.tup [.int i,x])/\∀b,cE K H a b->b[i]? = some x,fun i H=>∃b,cE K H a b/\b.length<=i⟩
theorem JZ{K}(a e it)(hne:e≠it):fj P w K (.Tuple elts kk tpos) (yv K a) [e,it] e (fun i h=>(∃old,IsEnum h e it i old)/\h.IsListIter it a i) where
 mem:=by simp
 obj:=fun i h st b hb=>by
  obtain⟨⟨old,he⟩,o,e1,c,d⟩:=st;rcases List.mem_cons.mp hb with rfl |hb
  .exact⟨_,he,fun v z=>by cases z⟩
  .obtain rfl:=List.mem_singleton.mp hb;exact⟨o,e1,fun v z=>by rw[d]at z;cases z⟩
 keep:=fun i h h' st k=>⟨st.1.elim fun old he=>⟨old,k e (by simp) _ he⟩,st.2.at fun o e'=>k it (by simp) o e'⟩
 item:=by
  intro X hP hw hK hc i pins s Y H E I hf st hg;subst hP hw hK;obtain⟨⟨old,he⟩,hit⟩:=st;obtain⟨xs,x,hq,hx⟩:=hg;obtain⟨its,rv,p,hz⟩:=I.list hq;obtain⟨u,hu,ru⟩:=rv.get hx;refine wpAny_pyNext_enum_item he hit p.isList (x:=u) (by simpa using hu) hne fun h' ho hi' hT hsz hk=>⟨_,rfl,?_⟩
  refine wpAny_letOwnedTupleGo_enum (s:={ s with heap:=h',toks:=s.toks+1 }) ho fun h2 he2 hs2=>?_;have hel:s.heap.objs.size≠e:=Nat.ne_of_gt (bj he);have k2:∀b ob,b∉[e,it]->s.heap.get? b=some ob->h2.get? b=some ob:=fun b ob hb q=>by simp only[List.mem_cons,List.not_mem_nil,or_false,not_or]at hb;exact(hs2.2 b hb.1).trans (hk b ob hb.1 hb.2 q)
  have I1:Inv X pins Y (aI H s.heap.objs.size (.tup [.int i,x])) { s with heap:=h2,toks:=s.toks+1 }:=by
   refine I.turnedNew (ch:=[e,it]) hf k2 (bb _) (fun b hb ob q=>?_) ?_
   .rcases List.mem_cons.mp hb with rfl |hb
    .exact⟨_,he2⟩
    .obtain rfl:=List.mem_singleton.mp hb;obtain⟨o,e1,_⟩:=hi';exact⟨o,(hs2.2 b (Ne.symm hne)).trans e1⟩
   .exact⟨by show 2<=sizeLine;decide,[.int i s.toks,u],.cons ⟨_,rfl⟩ (.cons ru .nil),⟨_,(hs2.2 _ hel).trans hT,rfl,_,rfl⟩⟩
  refine⟨.ref s.heap.objs.size,_,I1,rfl,⟨_,x,rfl,I.hok.fresh (bb _),rfl,fun ys hy=>by rw[I.list_inj hy hq];exact hx⟩,⟨⟨_,by simpa using he2⟩,hi'.at fun o e1=>(hs2.2 it (Ne.symm hne)).trans e1⟩,fun b hb=>?_⟩;have hb':b<s.heap.objs.size:=by
   rcases List.mem_cons.mp hb with rfl |hb
   .exact bj he
   .obtain rfl:=List.mem_singleton.mp hb;obtain⟨o,e1,_⟩:=hit;exact bj e1
  rw[bv (Nat.ne_of_lt hb')];exact(hf b hb).1
 done:=by intro X hP hw hK hc i pins s Y H E I hf st hg;subst hP hw hK;obtain⟨⟨old,he⟩,hit⟩:=st;obtain⟨xs,hq,hx⟩:=hg;obtain⟨its,rv,p,hz⟩:=I.list hq;obtain⟨f0,f1,f2,f3,f4,f5⟩:=hf it (by simp);have hl:=rv.length;exact wpAny_pyNext_enum_end (I.ok.hd hc) he hit p.isList (by simp;lia) fun h' eb=>⟨rfl,I.turned (t':=s.toks) (fun b o hb e=>eb b o hb e) f0 f1 f3 f4 f5⟩
 self:=fun _ _ _ _ _ st h=>st.1.elim fun _ he=>wpAny_pyIter_enum he h
def Ka(K:Frag)(c:TA):TI:=fun Y H R=>c Y H fun vs b=>∃a d,vs=[.ref a]/\cE K b a d/\R (yv K a) b
theorem Kb(j:Gl X "enumerate")(k:X.mg "enumerate" = none)(m:PA X [a] g)(n:autoParam (starEach [a] X.env=[(false,eval a X.env)]) Zq._auto_1):PI X (.Tuple elts kk tpos) (.Call (.Name "enumerate" p) [a] [] pos) (Ka X.K g):=by
 intro d s Y H R I h;refine Call_ (iw I j k (show bootBuiltins "enumerate" = some (.type "enumerate") by decide +kernel) (PyProof.Rows.callWith_type1 (aN (m pos d s Y H _ I h) fun B c e=>?_) n rfl));obtain⟨vs,o,I1,r,t⟩:=e;obtain⟨l,C,rfl,v,q⟩:=t;obtain⟨u,rfl,ru⟩:=vals1 r;cases ru;obtain⟨w,D,p,E⟩:=I1.list v;refine call_enumerate_list p.isList fun x i y z A=>?_;refine wpAny_pyIter_enum (s:={ c with heap:=x }) i ?_;refine⟨c.heap.objs.size+1,[c.heap.objs.size+1,c.heap.objs.size],_,_,o,rfl,I1.kept (t':=c.toks) A,JZ l _ _ (Nat.succ_ne_self _),⟨⟨_,i⟩,y⟩,fun b f=>?_,q⟩;have hb':c.heap.objs.size<=b:=by
  rcases List.mem_cons.mp f with rfl |f
  .exact Nat.le_succ _
  .obtain rfl:=List.mem_singleton.mp f;exact bb _
 exact I1.fpOk hb' (I1.hok.fresh hb')
end L2
namespace L2.L3
open PySem PySem.Spec PyProof.Rows
noncomputable def aq(O:List Addr)(H:Hp):Hp:=fun b=>if b∈O then none else H b
theorem gW(h:H b=some o)(n:b∉O):aq O H b=some o:=by unfold aq;rw[if_neg n];exact h
theorem cT(h:aq O H b=some o):H b=some o/\b∉O:=by
 unfold aq at h
 by_cases e:b∈O
 .rw[if_pos e]at h;cases h
 .rw[if_neg e]at h;exact⟨h,e⟩
theorem fM(h:Rd (aq O H) a u):Rd H a u/\a∉O:=by
 rcases h with h |⟨o,h⟩
 .obtain⟨e,n⟩:=cT h;exact⟨.inl e,n⟩
 .obtain⟨e,n⟩:=cT h;exact⟨.inr ⟨o,e⟩,n⟩
theorem qt:bR (aq O H) H:=fun b o h=>(cT h).1
structure aP (O:List Addr) (H:Hp) (O':List Addr) (H':Hp):Prop where
 keep:∀b o,b∉O->H b=some o->H' b=some o
 new:∀a∈O',a∈O\/H a=none
theorem aP.refl:aP O H O H:=⟨fun _ _ _ h=>h,fun _ h=>.inl h⟩
theorem aP.trans(a:aP f H1 g H2)(b:aP g H2 i j):aP f H1 i j:=by
 have k:∀c o,c∉f->H1 c=some o->c∉g:=fun c o d e z=>(a.new c z).elim d fun n=>by rw[n]at e;cases e
 refine⟨fun c o d e=>b.keep c o (k c o d e) (a.keep c o d e),fun c h=>?_⟩
 by_cases d:c∈f
 .exact .inl d
 .refine .inr ?_;cases e:H1 c with
  |none=>rfl
  |some o=>
   rcases b.new c h with z |z
   .exact absurd z (k c o d e)
   .rw[a.keep c o d e]at z;cases z
theorem aP.same(s:bR H H'):aP O H O H':=⟨fun b o _ e=>s b o e,fun _ h=>.inl h⟩
theorem aP.hid(s:aP O H O' H'):bR (aq O H) (aq O' H'):=fun b o e=>by
 obtain⟨a,n⟩:=cT e;refine gW (s.keep b o n a) fun z=>?_;rcases s.new b z with q |q
 .exact n q
 .rw[q]at a;cases a
theorem lS(s:bR H H'):bR (aq O H) (aq O H'):=(aP.same s).hid
theorem yw(s:∀a∈O',a∈O):bR (aq O H) (aq O' H):=fun b o e=>by obtain⟨c,n⟩:=cT e;exact gW c fun z=>n (s b z)
inductive Fl where
 |d (x:PyData) |l (ds:List PyData) |m (tk:Bool) (kvs:List (PyData×PyData))
inductive Bx where
 |l (ds:List PyData) |m (tk:Bool) (kvs:List (PyData×PyData)) |o (C:Addr) (fs:List (Str×Fl)) |sd (fs:List (Str×Fl)) |ll (xs:List (List PyData)) |pr (C:Addr) (fs:List (Str×Fl)) (d:PyData)
inductive ab where
 |dat (d:PyData)
 |own (io:Bool) (b:Bx)
 |scr (ns:List Int)
 |exc (c:Str)
 |vw (b:Bx)
abbrev ak:=List (Option ab)
structure Fx where
 H₀:Hp
 A₀:List Addr
 O₀:List Addr
 I₀:Nat->Addr
def iB(K:Frag)(H:Hp)(a:Addr)(c:List Int):Prop:=c.length<=63/\((∃o,H a=some (.frz o (.lst (c.map V.int))))\/
 ∃(o:Obj) (b:Array Value) (n:Nat),K.lookup a=some o/\o.cls=.type "list"/\o.dict=none/\o.data=.seq b n/\b.size<=sizeLine/\bi (c.map V.int) b.toList)
theorem iB.sq{K}(h:iB K H a b):cE K H a (b.map V.int):=h.2.elim (fun⟨o,e⟩=>.inl (.inr ⟨o,e⟩)) .inr
theorem iB.mono{K}(h:iB K H a d)(k:∀o u,H a=some (.frz o u)->c a=some (.frz o u)):iB K c a d:=⟨h.1,h.2.imp (fun b=>by obtain⟨o,e⟩:=b;exact⟨o,k _ _ e⟩) id⟩
def Kc(K:Frag)(a:Addr)(c:Str)(h:Heap):Prop:=∃C o,nsIn K mainGlobals c=some (some (.ref C))/\h.get? a=some o/\o.cls=.ref C
noncomputable def gX:be->PyData
 |.inl i=>.int i
 |.inr x=>.str x
def qu(a:List be):PyData:=.tuple (a.map gX)
def jj(G H:Hp)(a:Addr):Bool->List (PyData×PyData)->Prop
 |false,b=>∃c:List (be×V),H a=some (.dK c)/\Paired (fun(p:be×V) (q:PyData×PyData)=>gX p.1=q.1/\DV G p.2 q.2) c b
 |true,b=>∃c:List (List be×V),H a=some (.dT c)/\Paired (fun(p:List be×V) (q:PyData×PyData)=>qu p.1=q.1/\DV G p.2 q.2) c b
def fN(G H:Hp)(v:V):Fl->List Addr->Prop
 |.d x,b=>b=[]/\DV G v x
 |.l ds,b=>∃a e,v=.ref a/\b=[a]/\H a=some (.lst e)/\aG G e ds
 |.m f c,b=>∃a,v=.ref a/\b=[a]/\jj G H a f c
inductive bo (G H:Hp):List (Str×V)->List (Str×Fl)->List (List Addr)->Prop where
 |nil:bo G H [] [] []
 |cons {n:Str}{v:V}{f:Fl}{fp:List Addr}{gs:List (Str×V)}{fs:List (Str×Fl)}{fps:List (List Addr)}:fN G H v f fp->bo G H gs fs fps->bo G H ((n,v)::gs) ((n,f)::fs) (fp::fps)
def qv(G H:Hp)(b:Addr)(a:List PyData):Prop:=∃vs,H b=some (.lst vs)/\aG G vs a
def ft(G H:Hp)(a:Addr):Bx->List Addr->Prop
 |.l ds,c=>c=[a]/\∃g,H a=some (.lst g)/\aG G g ds
 |.m j i,c=>c=[a]/\jj G H a j i
 |.o C fs,c=>∃f e b,c=a::f::b.flatten/\H a=some (.ins C f e)/\H f=some (.own a)/\bo G H e fs b
 |.sd fs,c=>∃e b,c=a::b.flatten/\H a=some (.dK (e.map fun p=>(Sum.inr p.1,p.2)))/\bo G H e fs b
 |.ll g,c=>∃bs:List Addr,c=a::bs/\H a=some (.lst (bs.map V.ref))/\Paired (qv G H) bs g
 |.pr C fs d,c=>∃h v f e b,G a=some (.tup [.ref h,v])/\c=h::f::b.flatten/\H h=some (.ins C f e)/\H f=some (.own h)/\bo G H e fs b/\DV G v d
def Mv:HO->Prop
 |.lst _=>True
 |.dK _=>True
 |.dT _=>True
 |.ins _ _ _=>True
 |.own _=>True
 |_=>False
def dL(K:Frag)(H:Hp)(O:List Addr)(v:V):ab->List Addr->Prop
 |.dat d,_=>DV (aq O H) v d
 |.own _ b,e=>∃a,v=.ref a/\ft (aq O H) H a b e
 |.scr ns,_=>∃a,v=.ref a/\iB K H a ns
 |.exc c,_=>∃a φ,v=.ref a/\aq O H a=some (.ext φ)/\∀h,φ h->Kc K a c h
 |.vw b,_=>∃a e,v=.ref a/\ft (aq O H) (aq O H) a b e
theorem jj.keep(h:jj G H a c b)(k:H' a=H a)(g:bR G G'):jj G' H' a c b:=by
 cases c with
 |false=>obtain⟨d,e,p⟩:=h;exact⟨d,k.trans e,Paired.mapP p fun _ _ z=>⟨z.1,DV.mono g z.2⟩⟩
 |true=>obtain⟨d,e,p⟩:=h;exact⟨d,k.trans e,Paired.mapP p fun _ _ z=>⟨z.1,DV.mono g z.2⟩⟩
theorem jj.live(h:jj G H a c b):∃o,H a=some o/\Mv o:=by
 cases c with
 |false=>obtain⟨d,e,p⟩:=h;exact⟨_,e,trivial⟩
 |true=>obtain⟨d,e,p⟩:=h;exact⟨_,e,trivial⟩
theorem fN.keep(h:fN G H v f fp)(k:∀c∈fp,H' c=H c)(g:bR G G'):fN G' H' v f fp:=by
 cases f with
 |d x=>exact⟨h.1,DV.mono g h.2⟩
 |l ds=>obtain⟨a,j,e,b,i,e4⟩:=h;exact⟨a,j,e,b,(k a (by simp[b])).trans i,aG.mono g e4⟩
 |m o n=>obtain⟨a,e,b,i⟩:=h;exact⟨a,e,b,i.keep (k a (by simp[b])) g⟩
theorem fN.live(h:fN G H v f fp):∀c∈fp,∃o,H c=some o/\Mv o:=by
 cases f with
 |d x=>obtain⟨rfl,_⟩:=h;intro c b;cases b
 |l ds=>obtain⟨a,j,g,rfl,e,e4⟩:=h;intro c b;obtain rfl:=List.mem_singleton.mp b;exact⟨_,e,trivial⟩
 |m k i=>obtain⟨a,g,rfl,e⟩:=h;intro c b;obtain rfl:=List.mem_singleton.mp b;exact e.live
theorem bo.keep(h:bo G H f fs d)(k:∀c∈d.flatten,H' c=H c)(g:bR G G'):bo G' H' f fs d:=by
 induction h with
 |nil=>exact .nil
 |cons a b i=>exact .cons (a.keep (fun c e=>k c (by simp[e])) g) (i fun c e=>k c (by rw[List.flatten_cons];exact bu _ e))
theorem bo.live(h:bo G H f fs e):∀c∈e.flatten,∃o,H c=some o/\Mv o:=by
 induction h with
 |nil=>intro c d;cases d
 |cons a b g=>
  intro c d;rw[List.flatten_cons]at d;rcases List.mem_append.mp d with d |d
  .exact a.live c d
  .exact g c d
theorem Lls.keep(h:Paired (qv G H) bs f)(k:∀c∈bs,H' c=H c)(g:bR G G'):Paired (qv G' H') bs f:=by
 induction h with
 |nil=>exact .nil
 |cons a b i=>obtain⟨vs,e,d⟩:=a;exact .cons ⟨vs,(k _ List.mem_cons_self).trans e,aG.mono g d⟩ (i fun c j=>k c (bq _ j))
theorem Lls.live(h:Paired (qv G H) bs g):∀c∈bs,∃o,H c=some o/\Mv o:=by
 induction h with
 |nil=>intro c f;cases f
 |cons a b i=>
  intro c f;obtain⟨vs,e,d⟩:=a;rcases List.mem_cons.mp f with rfl |f
  .exact⟨_,e,trivial⟩
  .exact i c f
theorem ft.keep(h:ft G H a b fp)(k:∀c∈fp,H' c=H c)(g:bR G G'):ft G' H' a b fp:=by
 cases b with
 |l ds=>obtain⟨rfl,s,e,d⟩:=h;exact⟨rfl,s,(k a (by simp)).trans e,aG.mono g d⟩
 |m y u=>obtain⟨rfl,d⟩:=h;exact⟨rfl,d.keep (k a (by simp)) g⟩
 |o C fs=>obtain⟨p,q,i,rfl,j,r,f⟩:=h;exact⟨p,q,i,rfl,(k a (by simp)).trans j,(k p (by simp)).trans r,f.keep (fun c n=>k c (by simp[n])) g⟩
 |sd fs=>obtain⟨q,i,rfl,j,f⟩:=h;exact⟨q,i,rfl,(k a (by simp)).trans j,f.keep (fun c n=>k c (by simp[n])) g⟩
 |ll s=>obtain⟨bs,rfl,j,f⟩:=h;exact⟨bs,rfl,(k a (by simp)).trans j,Lls.keep f (fun c n=>k c (by simp[n])) g⟩
 |pr C fs d=>obtain⟨t,v,p,q,i,w,rfl,j,r,f,x⟩:=h;exact⟨t,v,p,q,i,g _ _ w,rfl,(k t (by simp)).trans j,(k p (by simp)).trans r,f.keep (fun c n=>k c (by simp[n])) g,DV.mono g x⟩
theorem ft.live(h:ft G H a b fp):∀c∈fp,∃o,H c=some o/\Mv o:=by
 cases b with
 |l ds=>obtain⟨rfl,p,e,d⟩:=h;intro c g;obtain rfl:=List.mem_singleton.mp g;exact⟨_,e,trivial⟩
 |m s q=>obtain⟨rfl,d⟩:=h;intro c g;obtain rfl:=List.mem_singleton.mp g;exact d.live
 |o C fs=>
  obtain⟨r,n,j,rfl,i,k,f⟩:=h;intro c g;rcases List.mem_cons.mp g with rfl |g
  .exact⟨_,i,trivial⟩
  .rcases List.mem_cons.mp g with rfl |g
   .exact⟨_,k,trivial⟩
   .exact f.live c g
 |sd fs=>
  obtain⟨n,j,rfl,i,f⟩:=h;intro c g;rcases List.mem_cons.mp g with rfl |g
  .exact⟨_,i,trivial⟩
  .exact f.live c g
 |ll p=>
  obtain⟨bs,rfl,i,f⟩:=h;intro c g;rcases List.mem_cons.mp g with rfl |g
  .exact⟨_,i,trivial⟩
  .exact Lls.live f c g
 |pr C fs d=>
  obtain⟨t,v,r,n,j,u,rfl,i,k,f,w⟩:=h;intro c g;rcases List.mem_cons.mp g with rfl |g
  .exact⟨_,i,trivial⟩
  .rcases List.mem_cons.mp g with rfl |g
   .exact⟨_,k,trivial⟩
   .exact f.live c g
theorem dL.keep{K}(h:dL K H O v c fp)(s:aP O H j H')(k:∀b∈fp,H' b=H b)(z:∀b o u,H b=some (.frz o u)->H' b=some (.frz o u)):dL K H' j v c fp:=by
 cases c with
 |dat d=>exact DV.mono s.hid h
 |own io b=>obtain⟨a,e,q⟩:=h;exact⟨a,e,q.keep k s.hid⟩
 |scr ns=>obtain⟨a,f,q⟩:=h;exact⟨a,f,q.mono fun o u w=>z _ _ _ w⟩
 |exc c=>obtain⟨a,φ,f,g,q⟩:=h;exact⟨a,φ,f,s.hid _ _ g,q⟩
 |vw b=>obtain⟨a,i,f,q⟩:=h;exact⟨a,i,f,q.keep (fun c l=>by obtain⟨o,g,_⟩:=q.live c l;rw[g];exact s.hid _ _ g) s.hid⟩
structure cB (K:Frag) (F:Fx) (H:Hp) (Y:St) (U:ak) (W:List (List Addr)):Prop where
 at_:∀(i:Nat) (c:ab),U[i]? = some (some c)->∃v fp,Y[i]? = some (some v)/\W[i]? = some fp/\dL K H (W.flatten++F.O₀) v c fp
 nd:(W.flatten++F.O₀).Nodup
 kept:∀b o,b∉F.A₀->F.H₀ b=some o->H b=some o
 new:∀a∈W.flatten,a∈F.A₀\/F.H₀ a=none
 live:∀a∈W.flatten++F.O₀,∃o,H a=some o/\Mv o
 len:U.length=Y.length
 lw:W.length=U.length
 io:∀(i:Nat) (b:Bx),U[i]? = some (some (.own true b))->Y[i]? = some (some (.ref (F.I₀ i)))
def aB(K:Frag)(F:Fx)(H:Hp)(Y:St)(U:ak)(O:List Addr):Prop:=∃W,cB K F H Y U W/\O=W.flatten++F.O₀
theorem jk{α:Type}{l:List α}{x y}(e:(l.set i x)[j]? = some y):(j=i/\y=x/\i<l.length)\/(j≠i/\l[j]? = some y):=by
 by_cases b:j=i
 .subst b;have a:j<l.length:=by
   have:=(List.getElem?_eq_some_iff.mp e).1
   rwa [List.length_set]at this
  rw[List.getElem?_set_self a]at e;exact .inl ⟨rfl,(Option.some.inj e).symm,a⟩
 .rw[List.getElem?_set_ne (Ne.symm b)]at e;exact .inr ⟨b,e⟩
theorem fO{α:Type}{W:List (List α)}{c}{a}(h:a∈(W.set i c).flatten):a∈c\/∃j l,j≠i/\W[j]? = some l/\a∈l:=by
 obtain⟨l,f,d⟩:=List.mem_flatten.mp h;obtain⟨j,g⟩:=List.getElem?_of_mem f;rcases jk g with⟨_,rfl,_⟩ |⟨b,e⟩
 .exact .inl d
 .exact .inr ⟨j,l,b,e,d⟩
theorem ck{α:Type}{W:List (List α)}{j:Nat}{l}{a}(h:W[j]? = some l)(b:a∈l):a∈W.flatten:=List.mem_flatten.mpr ⟨l,List.mem_of_getElem? h,b⟩
theorem Kd{α:Type}{W:List (List α)}{b l}{a}(c:j≠i)(h:W[j]? = some l)(d:a∈l):a∈(W.set i b).flatten:=ck (j:=j) (by rw[List.getElem?_set_ne (Ne.symm c)];exact h) d
theorem yx{α:Type}{W:List (List α)}{b}{a}(c:i<W.length)(d:a∈b):a∈(W.set i b).flatten:=ck (j:=i) (List.getElem?_set_self c) d
theorem kY{α:Type}:∀{W:List (List α)}{i j:Nat}{l m}{a},W.flatten.Nodup->W[i]? = some l->W[j]? = some m->i≠j->a∈l->a∉m
 |[],_,_,_,_,_,_,h,_,_,_=>by simp at h
 |w::W,0,0,_,_,_,_,_,_,d,_=>absurd rfl d
 |w::W,0,j+1,l,m,a,nd,h1,h2,_,b=>fun c=>by
  have e:w=l:=by simpa using h1
  subst e;rw[List.flatten_cons]at nd;exact(List.nodup_append.mp nd).2.2 a b a (ck (j:=j) (by simpa using h2) c) rfl
 |w::W,i+1,0,l,m,a,nd,h1,h2,_,b=>fun c=>by
  have e:w=m:=by simpa using h2
  subst e;rw[List.flatten_cons]at nd;exact(List.nodup_append.mp nd).2.2 a c a (ck (j:=i) (by simpa using h1) b) rfl
 |w::W,i+1,j+1,l,m,a,nd,h1,h2,d,b=>kY (W:=W) (i:=i) (j:=j) (by rw[List.flatten_cons]at nd;exact(List.nodup_append.mp nd).2.1) (by simpa using h1) (by simpa using h2) (by lia) b
theorem qw{α:Type}[DecidableEq α]:∀{W:List (List α)}{i}{fp O},(W.flatten++O).Nodup->fp.Nodup->(∀a∈fp,(∀j l,j≠i->W[j]? = some l->a∉l)/\a∉O)->((W.set i fp).flatten++O).Nodup
 |[],i,fp,O,h,_,_=>by simpa using h
 |w::W,0,fp,O,h,f,hd=>by
  rw[List.set_cons_zero,List.flatten_cons,List.append_assoc];rw[List.flatten_cons,List.append_assoc]at h;refine List.nodup_append.mpr ⟨f,(List.nodup_append.mp h).2.1,fun a d b c e=>?_⟩;subst e;rcases List.mem_append.mp c with c |c
  .obtain⟨l,g,k⟩:=List.mem_flatten.mp c;obtain⟨j,m⟩:=List.getElem?_of_mem g;exact(hd a d).1 (j+1) l (by lia) (by simpa using m) k
  .exact(hd a d).2 c
 |w::W,i+1,fp,O,h,f,hd=>by
  rw[List.set_cons_succ,List.flatten_cons,List.append_assoc];rw[List.flatten_cons,List.append_assoc]at h;obtain⟨o,h2,h3⟩:=List.nodup_append.mp h;have n:=qw (W:=W) (i:=i) (fp:=fp) (O:=O) h2 f fun a d=>⟨fun j l m e=>(hd a d).1 (j+1) l (by lia) (by simpa using e),(hd a d).2⟩
  refine List.nodup_append.mpr ⟨o,n,fun a d b c e=>?_⟩;subst e;rcases List.mem_append.mp c with c |c
  .rcases fO c with c |⟨j,l,m,e,g⟩
   .exact(hd a c).1 0 w (by lia) (by simp) d
   .exact h3 a d a (bC _ (ck e g)) rfl
  .exact h3 a d a (bu _ c) rfl
section
variable{K:Frag}{F:Fx}{H H':Hp}{Y:St}{U:ak}{O O':List Addr}{W:List (List Addr)}
theorem cB.nofrz(st:cB K F H Y U W)(h:b∈W.flatten++F.O₀):H b≠some (.frz o u):=fun z=>by obtain⟨a,e,m⟩:=st.live b h;rw[z]at e;cases e;exact m
theorem cB.put(st:cB K F H Y U W)(r:i<U.length)
  (keep:∀j l b,j≠i->W[j]? = some l->b∈l->H' b=H b) (f:∀b∈F.O₀,H' b=H b) (frz:∀b o,b∉W.flatten++F.O₀->H b=some o->H' b=some o)
  (C:fp.Nodup) (ap:∀a∈fp,(∀j l,j≠i->W[j]? = some l->a∉l)/\a∉F.O₀) (new:∀a∈fp,a∈W.flatten\/H a=none) (s:∀a∈fp,∃o,H' a=some o/\Mv o)
  (A:aP (W.flatten++F.O₀) H ((W.set i fp).flatten++F.O₀) H'->dL K H' ((W.set i fp).flatten++F.O₀) v c fp) (t:∀b,c=.own true b->v=.ref (F.I₀ i)) :
  cB K F H' (Y.set i (some v)) (U.set i (some c)) (W.set i fp)/\aP (W.flatten++F.O₀) H ((W.set i fp).flatten++F.O₀) H':=by
 have k:aP (W.flatten++F.O₀) H ((W.set i fp).flatten++F.O₀) H':=⟨frz,fun a h=>by
  rcases List.mem_append.mp h with h |h
  .rcases fO h with h |⟨j,l,_,e,n⟩
   .exact(new a h).imp (bC _) id
   .exact .inl (bC _ (ck e n))
  .exact .inl (bu _ h)⟩
 have B:∀b o u,H b=some (.frz o u)->H' b=some (.frz o u):=fun b o u e=>frz b _ (fun z=>st.nofrz z e) e;have x:i<W.length:=by rw[st.lw];exact r
 refine⟨⟨fun j d e=>?_,qw st.nd C ap,fun b o p e=>?_,fun a h=>?_,fun a h=>?_,by rw[List.length_set,List.length_set,st.len],by rw[List.length_set,List.length_set,st.lw],fun j b e=>?_⟩,k⟩
 .rcases jk e with⟨rfl,g,_⟩ |⟨m,g⟩
  .cases g;exact⟨v,fp,List.getElem?_set_self (by rw[<-st.len];exact r),List.getElem?_set_self x,A k⟩
  .obtain⟨w,l,h1,h2,h3⟩:=st.at_ j d g;exact⟨w,l,by rw[List.getElem?_set_ne (Ne.symm m)];exact h1,by rw[List.getElem?_set_ne (Ne.symm m)];exact h2,h3.keep k (fun b D=>keep j l b m h2 D) B⟩
 .have g:=st.kept b o p e
  by_cases y:b∈F.O₀
  .rw[f b y];exact g
  .refine frz b o (fun z=>?_) g;rcases List.mem_append.mp z with z |z
   .rcases st.new b z with q |q
    .exact p q
    .rw[q]at e;cases e
   .exact y z
 .rcases fO h with h |⟨j,l,_,e,n⟩
  .rcases new a h with q |q
   .exact st.new a q
   .by_cases p:a∈F.A₀
    .exact .inl p
    .refine .inr ?_;cases e:F.H₀ a with
     |none=>rfl
     |some o=>rw[st.kept a o p e]at q;cases q
  .exact st.new a (ck e n)
 .rcases List.mem_append.mp h with h |h
  .rcases fO h with h |⟨j,l,m,e,n⟩
   .exact s a h
   .obtain⟨o,h1,h2⟩:=st.live a (bC _ (ck e n));exact⟨o,by rw[keep j l a m e n];exact h1,h2⟩
  .obtain⟨o,h1,h2⟩:=st.live a (bu _ h);exact⟨o,by rw[f a h];exact h1,h2⟩
 .rcases jk e with⟨rfl,g,_⟩ |⟨m,g⟩
  .rw[List.getElem?_set_self (by rw[<-st.len];exact r),t b (Option.some.inj g).symm]
  .rw[List.getElem?_set_ne (Ne.symm m)];exact st.io j b g
theorem cB.grow(st:cB K F H Y U W)(s:bR H H'):cB K F H' Y U W where
 at_:=fun i c e=>let⟨v,fp,h1,h2,h3⟩:=st.at_ i c e;⟨v,fp,h1,h2,h3.keep (.same s) (fun b hb=>by
  obtain⟨o,e1,_⟩:=st.live b (bC _ (ck h2 hb));rw[e1];exact s _ _ e1) fun b o u e=>s _ _ e⟩
 nd:=st.nd
 kept:=fun b o n e=>s b o (st.kept b o n e)
 new:=st.new
 live:=fun a h=>let⟨o,e,m⟩:=st.live a h;⟨o,s _ _ e,m⟩
 len:=st.len
 lw:=st.lw
 io:=st.io
theorem aB.grow(st:aB K F H Y U O)(s:bR H H'):aB K F H' Y U O:=let⟨W,h,e⟩:=st;⟨W,h.grow s,e⟩
theorem aB.nofree(st:aB K F H Y U O):∀p,H p=none->p∉O:=fun p a z=>by obtain⟨W,h,rfl⟩:=st;obtain⟨o,e,_⟩:=h.live p z;rw[a]at e;cases e
theorem aB.dat(st:aB K F H Y U O){i:Nat}(e:U[i]? = some (some (.dat d))):∃v,Y[i]? = some (some v)/\DV (aq O H) v d:=by obtain⟨W,h,rfl⟩:=st;obtain⟨v,a,h1,h2,h3⟩:=h.at_ i _ e;exact⟨v,h1,h3⟩
theorem aB.scr(st:aB K F H Y U O){i:Nat}(e:U[i]? = some (some (.scr b))):∃a,Y[i]? = some (some (.ref a))/\iB K H a b:=by obtain⟨W,h,rfl⟩:=st;obtain⟨v,c,h1,h2,a,rfl,h3⟩:=h.at_ i _ e;exact⟨a,h1,h3⟩
theorem aB.set(st:aB K F H Y U O)(h:DV (aq O H) v d):aB K F H (Y.set i (some v)) (U.set i (some (.dat d))) O:=by
 obtain⟨W,st,rfl⟩:=st;refine⟨W,⟨fun j c e=>?_,st.nd,st.kept,st.new,st.live,by rw[List.length_set,List.length_set,st.len],by rw[List.length_set,st.lw],fun j b e=>?_⟩,rfl⟩
 rotate_left
 .rcases jk e with⟨rfl,a,_⟩ |⟨g,a⟩
  .cases a
  .rw[List.getElem?_set_ne (Ne.symm g)];exact st.io j b a
 rcases jk e with⟨rfl,a,f⟩ |⟨g,a⟩
 .cases a;obtain⟨k,m⟩:∃k,W[j]? = some k:=⟨W[j]'(by rw[st.lw];exact f),List.getElem?_eq_getElem _⟩
  exact⟨v,k,List.getElem?_set_self (by rw[<-st.len];exact f),m,h⟩
 .obtain⟨w,l,h1,h2,h3⟩:=st.at_ j c a;exact⟨w,l,by rw[List.getElem?_set_ne (Ne.symm g)];exact h1,h2,h3⟩
theorem aB.box(st:aB K F H Y U O)(e:U[i]? = some (some (.own io b))):∃a m,Y[i]? = some (some (.ref a))/\ft (aq O H) H a b m/\(∀c∈m,c∈O)/\
  ∀H'  t  f,(∀c o,c∉m->H c=some o->H' c=some o)->f.Nodup->(∀c∈f,c∈m\/H c=none)->(∀G,(∀O',aP O H O' H'->G=aq O' H'->(∀c∈f,c∈O')->bR (aq O H) G/\ft G H' a t f))->
   ∃O',aB K F H' Y (U.set i (some (.own io t))) O'/\aP O H O' H'/\(∀c∈O',c∈f\/c∈O):=by
 obtain⟨W,st,rfl⟩:=st;obtain⟨v,m,h1,h2,a,rfl,h3⟩:=st.at_ i _ e;have A:i<U.length:=(List.getElem?_eq_some_iff.mp e).1;have u:i<W.length:=by rw[st.lw];exact A
 refine⟨a,m,h1,h3,fun c d=>bC _ (ck h2 d),fun H' t f keep M w N=>?_⟩;have p:W.flatten.Nodup:=(List.nodup_append.mp st.nd).1;have B:∀c∈m,c∉F.O₀:=fun c d z=>(List.nodup_append.mp st.nd).2.2 c (ck h2 d) c z rfl;have D:∀j l c,j≠i->W[j]? = some l->c∈l->H' c=H c:=fun j l c n k d=>by obtain⟨o,g,_⟩:=st.live c (bC _ (ck k d));rw[g];exact keep c o (fun z=>kY p k h2 n d z) g
 have E:∀c∈F.O₀,H' c=H c:=fun c d=>by obtain⟨o,g,_⟩:=st.live c (bu _ d);rw[g];exact keep c o (fun z=>B c z d) g
 have ap:∀c∈f,(∀j l,j≠i->W[j]? = some l->c∉l)/\c∉F.O₀:=fun c d=>by
  rcases w c d with q |q
  .exact⟨fun j l n k z=>kY p h2 k (Ne.symm n) q z,B c q⟩
  .refine⟨fun j l _ k z=>?_,fun z=>?_⟩
   .obtain⟨o,g,_⟩:=st.live c (bC _ (ck k z));rw[q]at g;cases g
   .obtain⟨o,g,_⟩:=st.live c (bu _ z);rw[q]at g;cases g
 have frz:∀c o,c∉W.flatten++F.O₀->H c=some o->H' c=some o:=fun c o d I=>keep c o (fun z=>d (bC _ (ck h2 z))) I;have x:aP (W.flatten++F.O₀) H ((W.set i f).flatten++F.O₀) H':=⟨frz,fun c h=>by
  rcases List.mem_append.mp h with h |h
  .rcases fO h with h |⟨j,l,_,k,y⟩
   .exact(w c h).imp (fun z=>bC _ (ck h2 z)) id
   .exact .inl (bC _ (ck k y))
  .exact .inl (bu _ h)⟩
 have r:∀c∈f,c∈(W.set i f).flatten++F.O₀:=fun c d=>bC _ (yx u d);have s:=(N _ _ x rfl r).2;obtain⟨C,J⟩:=st.put (H':=H') (i:=i) (v:=.ref a) (c:=.own io t) (fp:=f) A D E frz M ap (fun c d=>(w c d).imp (fun z=>ck h2 z) id) (fun c d=>s.live c d) (fun _=>⟨a,rfl,s⟩) (fun Q z=>by cases z;have:=st.io i b e;rw[h1]at this;exact(Option.some.inj (Option.some.inj this)));have L:Y.set i (some (.ref a))=Y:=by
  apply List.ext_getElem?;intro j
  by_cases n:j=i
  .subst n;rw[List.getElem?_set_self (List.getElem?_eq_some_iff.mp h1).1,h1]
  .rw[List.getElem?_set_ne (Ne.symm n)]
 rw[L]at C;refine⟨_,⟨_,C,rfl⟩,J,fun c d=>?_⟩;rcases List.mem_append.mp d with d |d
 .rcases fO d with d |⟨j,l,_,k,y⟩
  .exact .inl d
  .exact .inr (bC _ (ck k y))
 .exact .inr (bu _ d)
theorem aB.freeze(st:aB K F H Y U O)(e:U[i]? = some (some (.own false (.l b)))) :
  ∃v O',Y[i]? = some (some v)/\aB K F H Y (U.set i (some (.dat (.list b)))) O'/\aP O H O' H/\DV (aq O' H) v (.list b):=by
 obtain⟨W,st,rfl⟩:=st;obtain⟨v,u,h1,h2,a,rfl,rfl,w,h3,o⟩:=st.at_ i _ e;have p:i<U.length:=(List.getElem?_eq_some_iff.mp e).1;have f:W.flatten.Nodup:=(List.nodup_append.mp st.nd).1;have g:a∉(W.set i []).flatten++F.O₀:=fun z=>by
  rcases List.mem_append.mp z with z |z
  .rcases fO z with z |⟨j,l,d,q,r⟩
   .cases z
   .exact kY f h2 q (Ne.symm d) List.mem_cons_self r
  .exact(List.nodup_append.mp st.nd).2.2 a (ck h2 List.mem_cons_self) a z rfl
 have k:aP (W.flatten++F.O₀) H ((W.set i []).flatten++F.O₀) H->DV (aq ((W.set i []).flatten++F.O₀) H) (.ref a) (.list b):=fun s=>.lst (gW h3 g) (aG.mono s.hid o);obtain⟨m,n⟩:=st.put (H':=H) (i:=i) (v:=.ref a) (c:=.dat (.list b)) (fp:=[]) p (fun _ _ _ _ _ _=>rfl) (fun _ _=>rfl) (fun _ _ _ e=>e) List.nodup_nil (fun a h=>by cases h) (fun a h=>by cases h) (fun a h=>by cases h) (fun s=>k s) (fun _ z=>by cases z);have t:Y.set i (some (.ref a))=Y:=by
  apply List.ext_getElem?;intro j
  by_cases d:j=i
  .subst d;rw[List.getElem?_set_self (List.getElem?_eq_some_iff.mp h1).1,h1]
  .rw[List.getElem?_set_ne (Ne.symm d)]
 rw[t]at m;exact⟨_,_,h1,⟨_,m,rfl⟩,n,k n⟩
end
abbrev DT:=ak->(PyData->ak->Prop)->Prop
def Mn(t:DT):Prop:=∀U Q a,(∀d b,Q d b->a d b)->t U Q->t U a
def gF(K:Frag)(F:Fx)(t:DT):TE:=fun Y H Q=>∃U O,aB K F H Y U O/\t U fun d c=>∀v a b,aB K F a Y c b->aP O H b a->DV (aq b a) v d->Q v a
structure DE (X:Cx) (F:Fx) (e:Expr) (t:DT):Prop where
 mn:Mn t
 pe:PE X e (gF X.K F t)
theorem _root_.L2.PE.imp(h:PE X e t)(k:∀Y H Q,t' Y H Q->t Y H Q):PE X e t':=fun a s Y H Q I q=>h a s Y H Q I (k Y H Q q)
theorem _root_.L2.PT.imp(h:PT X e t)(k:∀Y H Q,t' Y H Q->t Y H Q):PT X e t':=fun a s Y H Q I q=>h a s Y H Q I (k Y H Q q)
theorem _root_.L2.PS.imp(h:PS X e t)(k:∀D Y H,t' D Y H->t D Y H):PS X e t':=fun a s Y H D I q=>h a s Y H D I (k D Y H q)
theorem _root_.L2.PSs.imp(h:PSs X e t)(k:∀D Y H,t' D Y H->t D Y H):PSs X e t':=fun a s Y H D I q=>h a s Y H D I (k D Y H q)
def dC(d:PyData):DT:=fun U Q=>Q d U
def dV(i:Nat):DT:=fun U Q=>(∃d,U[i]? = some (some (.dat d))/\Q d U)\/∃c,U[i]? = some (some (.own false (.l c)))/\Q (.list c) (U.set i (some (.dat (.list c))))
theorem Ke:Mn (dC d):=fun _ _ _ h q=>h _ _ q
theorem nY(h:PE X e (tC v))(hd:∀H,DV H v d):DE X F e (dC d):=
 ⟨Ke,h.imp fun Y H Q c=>by obtain⟨U,O,st,q⟩:=c;exact q v H O st .refl (hd _)⟩
theorem au:DE X F (.Constant (.int i) j pos) (dC (.int i)):=nY qa fun _=>.int i
theorem gu:DE X F (.Constant (.bool i) j pos) (dC (.bool i)):=nY Gp fun _=>.bl i
theorem ec:DE X F (.Constant .none j pos) (dC .none):=nY xr fun _=>.non
theorem cG:DE X F (.Constant (.str x) j pos) (dC (.str x)):=nY Gq fun _=>.str x
theorem yy(i)(h:PE X (.Name x pos) (cf i)):DE X F (.Name x pos) (dV i):=
 ⟨fun _ _ _ k q=>q.imp (fun c=>by obtain⟨d,e,q⟩:=c;exact⟨d,e,k _ _ q⟩) fun f=>by obtain⟨d,e,q⟩:=f;exact⟨d,e,k _ _ q⟩,h.imp fun Y H Q g=>by
  obtain⟨U,O,st,q⟩:=g;rcases q with⟨d,e,q⟩ |⟨ds,e,q⟩
  .obtain⟨v,h1,h2⟩:=st.dat e;exact⟨v,h1,q v H O st .refl h2⟩
  .obtain⟨v,j,h1,h2,h3,l⟩:=st.freeze e;exact⟨v,h1,q v H j h2 h3 l⟩⟩
abbrev D2:=PyData->PyData->(PyData->Prop)->Prop
def cM(f:D2)(ta tb:DT):DT:=fun U Q=>ta U fun x c=>tb c fun y g=>f x y fun d=>Q d g
structure en (r:R2) (f:D2):Prop where
 mn:∀x y Q Q',(∀d,Q d->Q' d)->f x y Q->f x y Q'
 ok:∀(O:List Addr) (H:Hp) (u v:V) (x y:PyData) (Q:VK),(∀p,H p=none->p∉O)->DV (aq O H) u x->DV (aq O H) v y->f x y (fun d=>∀w H',bR H H'->DV (aq O H') w d->Q w H')->r u v H Q
theorem qx(o:en r f)(l:Mn ta)(E:Mn tb){K}:∀Y H Q,gF K F (cM f ta tb) Y H Q->nR r (gF K F ta) (gF K F tb) Y H Q:=fun Y H Q c=>by obtain⟨U,O,st,q⟩:=c;refine⟨U,O,st,l _ _ _ (fun x m n v1 G p h s t=>?_) q⟩;refine⟨m,p,h,E _ _ _ (fun y I u v z i g j A=>?_) n⟩;refine o.ok i z v1 v x y Q g.nofree (DV.mono j.hid t) A (o.mn _ _ _ _ (fun d B w C k D=>?_) u);exact B w C i (g.grow k) (s.trans (j.trans (.same k))) D
theorem nZ(o:en r f)(c:Mn ta)(i:Mn tb):Mn (cM f ta tb):=fun _ _ _ k q=>c _ _ _ (fun _ _ d=>i _ _ _ (fun _ _ g=>o.mn _ _ _ _ (fun _ h=>k _ _ h) g) d) q
theorem iD(g:cx X (binaryOp op) r)(o:en r f)(c:DE X F a ta)(d:DE X F b tb):DE X F (.BinOp a op b pos) (cM f ta tb):=
 ⟨nZ o c.mn d.mn,(HJ g c.pe d.pe).imp (qx o c.mn d.mn)⟩
theorem lT(h:cx X (compareOp op) r)(o:en r f)(c:DE X F a ta)(d:DE X F b tb)(g:behindInMarks op b=false):DE X F (.Compare a [op] [b] pos) (cM f ta tb):=
 ⟨nZ o c.mn d.mn,(HW h c.pe d.pe g).imp (qx o c.mn d.mn)⟩
theorem Kf(g:jf X r)(o:en r f)(c:DE X F a ta)(d:DE X F b tb)(h:nW b):DE X F (.Subscript a b pos) (cM f ta tb):=
 ⟨nZ o c.mn d.mn,(ub g c.pe d.pe h).imp (qx o c.mn d.mn)⟩
def fI(C:Int->Int->Prop)(g:Int->Int->PyData):D2:=fun x y Q=>∃i j,x=.int i/\y=.int j/\C i j/\Q (g i j)
theorem qy(hg:∀i j H,DV H (g i j) (g' i j)):en (rI C g) (fI C g') where
 mn:=fun _ _ _ _ k zq1a=>by obtain⟨i,j,e1,e2,c,q⟩:=zq1a;exact⟨i,j,e1,e2,c,k _ q⟩
 ok:=fun O H u v x y Q hO h1 h2 zq2a=>by obtain⟨i,j,e1,e2,c,q⟩:=zq2a;subst e1 e2;exact⟨i,j,h1.int_inv,h2.int_inv,c,q _ H (fun _ _ h=>h) (hg i j _)⟩
theorem jU(hg:∀i j H,DV H (g i j) (g' i j)):en (ix g) (fI (fun _ _=>True) g') where
 mn:=fun _ _ _ _ k zq1a=>by obtain⟨i,j,e1,e2,c,q⟩:=zq1a;exact⟨i,j,e1,e2,c,k _ q⟩
 ok:=fun O H u v x y Q hO h1 h2 zq2a=>by obtain⟨i,j,e1,e2,_,q⟩:=zq2a;subst e1 e2;exact⟨i,j,h1.int_inv,h2.int_inv,q _ H (fun _ _ h=>h) (hg i j _)⟩
def oa(neg:Bool):D2:=fun x y Q=>SeqAt.shaped x=true/\SeqAt.shaped y=true/\Q (.bool (PyData.eqv x y != neg))
theorem uB:en (uz neg) (oa neg) where
 mn:=fun _ _ _ _ k ⟨e1,e2,q⟩=>⟨e1,e2,k _ q⟩
 ok:=fun O H u v x y Q hO h1 h2 ⟨e1,e2,q⟩=>⟨x,y,DV.mono qt h1,DV.mono qt h2,e1,e2,q _ H (fun _ _ h=>h) (.bl _)⟩
@[simp]noncomputable def isNone:PyData->Bool
 |.none=>true
 |_=>false
def qz:D2:=fun x y Q=>y=.none/\Q (.bool (isNone x))
def uC:D2:=fun x y Q=>y=.none/\Q (.bool (!isNone x))
theorem yz(h:DV H v d):decide (v=.non)=isNone d:=by cases h<;>first |rfl |(exact decide_eq_false (fun z=>by cases z))
theorem yA:en (fun x y H Q=>y=.non/\Q (.bl (decide (x=.non))) H) qz where
 mn:=fun _ _ _ _ k ⟨e,q⟩=>⟨e,k _ q⟩
 ok:=fun O H u v x y Q hO h1 h2 ⟨e,q⟩=>by subst e;exact⟨h2.non_inv,by rw[yz h1];exact q _ H (fun _ _ h=>h) (.bl _)⟩
theorem yB:en (fun x y H Q=>y=.non/\Q (.bl (!decide (x=.non))) H) uC where
 mn:=fun _ _ _ _ k ⟨e,q⟩=>⟨e,k _ q⟩
 ok:=fun O H u v x y Q hO h1 h2 ⟨e,q⟩=>by subst e;exact⟨h2.non_inv,by rw[yz h1];exact q _ H (fun _ _ h=>h) (.bl _)⟩
def yC:D2:=fun x y Q=>∃c i d,x=.tuple c/\y=.int i/\bI c i=some d/\Q d
def yD:D2:=fun x y Q=>∃c i d,x=.list c/\y=.int i/\bI c i=some d/\Q d
theorem yE(h:aG H vs c)(e:bI c i=some d):∃v,bI vs i=some v/\DV H v d:=by
 unfold bI at e ⊢;rw[h.length];cases q:dj c.length i with
 |none=>rw[q]at e;cases e
 |some j=>rw[q]at e;exact h.get e
theorem yF{K}:en (ud K) yC where
 mn:=fun _ _ _ _ k zq1a=>by obtain⟨ds,i,d,e1,e2,e3,q⟩:=zq1a;exact⟨ds,i,d,e1,e2,e3,k _ q⟩
 ok:=fun O H u v x y Q hO h1 h2 zq2a=>by obtain⟨ds,i,d,e1,e2,e3,q⟩:=zq2a;subst e1 e2;obtain⟨a,xs,rfl,ha,hd⟩:=h1.tup_inv;obtain⟨w,ew,hw⟩:=yE hd e3;exact⟨a,xs,i,w,rfl,h2.int_inv,.inl (fM ha).1,ew,q w H (fun _ _ h=>h) hw⟩
theorem yG{K}:en (uc K) yD where
 mn:=fun _ _ _ _ k zq1a=>by obtain⟨ds,i,d,e1,e2,e3,q⟩:=zq1a;exact⟨ds,i,d,e1,e2,e3,k _ q⟩
 ok:=fun O H u v x y Q hO h1 h2 zq2a=>by obtain⟨ds,i,d,e1,e2,e3,q⟩:=zq2a;subst e1 e2;obtain⟨a,xs,rfl,ha,hd⟩:=h1.lst_inv;obtain⟨w,ew,hw⟩:=yE hd e3;exact⟨a,xs,i,w,rfl,h2.int_inv,.of (cT ha).1,ew,q w H (fun _ _ h=>h) hw⟩
theorem jV(f:H p=none)(g:p∉O)(h:aG (aq O H) c d):DV (aq O (aI H p (.lst c))) (.ref p) (.list d):=
 .lst (gW cK g) (aG.mono (lS (bS f)) h)
theorem jW(f:H p=none)(g:p∉O)(h:aG (aq O H) c d):DV (aq O (aI H p (.tup c))) (.ref p) (.tuple d):=
 .tup (.inl (gW cK g)) (aG.mono (lS (bS f)) h)
def uD:D2:=fun x y Q=>∃d c,x=.list d/\y=.list c/\d.length+c.length<=sizeLine/\Q (.list (d++c))
theorem Kg:en ye uD where
 mn:=fun _ _ _ _ k zq1a=>by obtain⟨ds,es,e1,e2,e3,q⟩:=zq1a;exact⟨ds,es,e1,e2,e3,k _ q⟩
 ok:=fun O H u v x y Q hO h1 h2 zq2a=>by obtain⟨ds,es,e1,e2,e3,q⟩:=zq2a;subst e1 e2;obtain⟨a,xs,rfl,ha,hd⟩:=h1.lst_inv;obtain⟨b,ys,rfl,hb,he⟩:=h2.lst_inv;refine⟨a,b,xs,ys,rfl,rfl,(cT ha).1,(cT hb).1,by rw[hd.length,he.length];exact e3,fun p hp=>q _ _ (bS hp) (jV hp (hO p hp) (hd.append he))⟩
def uE:D2:=fun x y Q=>∃d c,x=.tuple d/\y=.tuple c/\d.length+c.length<=sizeLine/\Q (.tuple (d++c))
theorem jl{B:Prop}(h:if true=true then A else B):A:=by rw[if_pos rfl]at h;exact h
theorem jm{B:Prop}(h:if false=true then A else B):B:=by rw[if_neg Bool.false_ne_true]at h;exact h
abbrev dk:=ak->(List PyData->ak->Prop)->Prop
def qA(t:dk):Prop:=∀U Q a,(∀d b,Q d b->a d b)->t U Q->t U a
def yH(K:Frag)(F:Fx)(t:dk):TA:=fun Y H Q=>∃U O,aB K F H Y U O/\t U fun d c=>∀vs a b,aB K F a Y c b->aP O H b a->aG (aq b a) vs d->Q vs a
structure DA (X:Cx) (F:Fx) (es:List Expr) (t:dk):Prop where
 mn:qA t
 pa:PA X es (yH X.K F t)
theorem _root_.L2.PA.imp(h:PA X e t)(k:∀Y H Q,t' Y H Q->t Y H Q):PA X e t':=fun pos a s Y H Q I q=>h pos a s Y H Q I (k Y H Q q)
def Kh:dk:=fun U Q=>Q [] U
def Ki(ta:DT)(tr:dk):dk:=fun U Q=>ta U fun d f=>tr f fun h g=>Q (d::h) g
theorem Kj:DA X F [] Kh:=⟨fun _ _ _ k q=>k _ _ q,fm.imp fun Y H Q d=>by obtain⟨U,O,st,q⟩:=d;exact q [] H O st .refl .nil⟩
theorem Kk(g:DE X F e ta)(h:DA X F es tA)(o:autoParam (starEach (e::es) X.env=(false,eval e X.env)::starEach es X.env) Zq._auto_1):DA X F (e::es) (Ki ta tA):=
 ⟨fun _ _ _ k q=>g.mn _ _ _ (fun _ _ i=>h.mn _ _ _ (fun _ _ j=>k _ _ j) i) q,(em g.pe h.pa o).imp fun Y H Q f=>by obtain⟨U,O,st,q⟩:=f;exact 
  ⟨U,O,st,g.mn _ _ _ (fun d p i v y r l s t=>⟨p,r,l,h.mn _ _ _ (fun A z j vs u w m n x=>j (v::vs) u w m (s.trans n) (.cons (DV.mono n.hid t) x)) i⟩) q⟩⟩
def Kl(t:dk):DT:=fun U Q=>t U fun d f=>d.length<=sizeLine/\Q (.tuple d) f
def Km(t:dk):DT:=fun U Q=>t U fun d f=>d.length<=sizeLine/\Q (.list d) f
theorem Kn(h:DA X F es tA):DE X F (.Tuple es l pos) (Kl tA):=
 ⟨fun _ _ _ k q=>h.mn _ _ _ (fun _ _ d=>⟨d.1,k _ _ d.2⟩) q,(xQ h.pa).imp fun Y H Q f=>by obtain⟨U,O,st,q⟩:=f;exact 
  ⟨U,O,st,h.mn _ _ _ (fun s o d vs r m g n j=>⟨by rw[j.length];exact d.1,fun p i=>d.2 _ _ m (g.grow (bS i)) (n.trans (.same (bS i))) (jW i (g.nofree p i) j)⟩) q⟩⟩
theorem Ko(h:DA X F es tA):DE X F (.List es pos) (Km tA):=
 ⟨fun _ _ _ k q=>h.mn _ _ _ (fun _ _ d=>⟨d.1,k _ _ d.2⟩) q,(qk h.pa).imp fun Y H Q f=>by obtain⟨U,O,st,q⟩:=f;exact 
  ⟨U,O,st,h.mn _ _ _ (fun r n d vs o l g m j=>⟨by rw[j.length];exact d.1,fun p i=>d.2 _ _ l (g.grow (bS i)) (m.trans (.same (bS i))) (jV i (g.nofree p i) j)⟩) q⟩⟩
def Kp(ta:DT):DT:=fun U Q=>ta U fun d f=>∃i,d=.int i/\Q (.int (-i)) f
theorem Kq(j:DE X F a ta):DE X F (.UnaryOp .USub a pos) (Kp ta):=
 ⟨fun _ _ _ k q=>j.mn _ _ _ (fun _ _ f=>by obtain⟨i,e,q⟩:=f;exact⟨i,e,k _ _ q⟩) q,(HK HV j.pe).imp fun Y H Q g=>by obtain⟨U,O,st,q⟩:=g;exact 
  ⟨U,O,st,j.mn _ _ _ (fun d s h v m n l o p=>by obtain⟨i,e,r⟩:=h;subst e;exact⟨i,p.int_inv,r _ m n l o (.int _)⟩) q⟩⟩
def Kr(ta:DT):DT:=fun U Q=>ta U fun d f=>∃b,d=.bool b/\Q (.bool (!b)) f
theorem Ks(j:DE X F a ta):DE X F (.UnaryOp .Not a pos) (Kr ta):=
 ⟨fun _ _ _ k q=>j.mn _ _ _ (fun _ _ f=>by obtain⟨i,e,q⟩:=f;exact⟨i,e,k _ _ q⟩) q,(GK j.pe).imp fun Y H Q g=>by obtain⟨U,O,st,q⟩:=g;exact 
  ⟨U,O,st,j.mn _ _ _ (fun d s h v m n l o p=>by obtain⟨i,e,r⟩:=h;subst e;exact⟨i,p.bl_inv,r _ m n l o (.bl _)⟩) q⟩⟩
def Kt(ta tb:DT):DT:=fun U Q=>ta U fun d f=>∃b,d=.bool b/\if b=true then tb f Q else Q (.bool false) f
def Ku(ta tb:DT):DT:=fun U Q=>ta U fun d f=>∃b,d=.bool b/\if b=true then Q (.bool true) f else tb f Q
theorem Kv(h:DE X F a ta):DE X F (.BoolOp op [a] pos) ta:=⟨h.mn,GG h.pe⟩
theorem Kw(l:DE X F a ta)(n:DE X F (.BoolOp .And (b::rest) pos) tb):DE X F (.BoolOp .And (a::b::rest) pos) (Kt ta tb):=
 ⟨fun _ _ _ k q=>l.mn _ _ _ (fun _ _ f=>by obtain⟨i,e,q⟩:=f;exact⟨i,e,by cases i<;>first |exact k _ _ q |exact n.mn _ _ _ k q⟩) q,(GI l.pe n.pe).imp fun Y H Q g=>by obtain⟨U,O,st,q⟩:=g;exact 
  ⟨U,O,st,l.mn _ _ _ (fun d s h v t o j p u=>by
   obtain⟨i,e,r⟩:=h;subst e;refine⟨i,u.bl_inv,?_⟩;cases i with
   |true=>exact ei ⟨s,o,j,n.mn _ _ _ (fun d C x w y z m A B=>x w y z m (p.trans A) B) (jl r)⟩
   |false=>exact eh (jm r _ t o j p (.bl _))) q⟩⟩
theorem Kx(l:DE X F a ta)(n:DE X F (.BoolOp .Or (b::rest) pos) tb):DE X F (.BoolOp .Or (a::b::rest) pos) (Ku ta tb):=
 ⟨fun _ _ _ k q=>l.mn _ _ _ (fun _ _ f=>by obtain⟨i,e,q⟩:=f;exact⟨i,e,by cases i<;>first |exact k _ _ q |exact n.mn _ _ _ k q⟩) q,(GJ l.pe n.pe).imp fun Y H Q g=>by obtain⟨U,O,st,q⟩:=g;exact 
  ⟨U,O,st,l.mn _ _ _ (fun d s h v t o j p u=>by
   obtain⟨i,e,r⟩:=h;subst e;refine⟨i,u.bl_inv,?_⟩;cases i with
   |false=>exact eh ⟨s,o,j,n.mn _ _ _ (fun d C x w y z m A B=>x w y z m (p.trans A) B) (jm r)⟩
   |true=>exact ei (jl r _ t o j p (.bl _))) q⟩⟩
def uF(p f:Int->Int->Bool)(ta tb tc:DT):DT:=fun U Q=>ta U fun x g=>tb g fun y d=>∃i j,x=.int i/\y=.int j/\if p i j=true then tc d (fun z h=>∃k,z=.int k/\Q (.bool (f j k)) h) else Q (.bool false) d
theorem Ky(ho:cx X (compareOp op) (ix fun i j=>.bl (p i j)))(s:cx X (compareOp f) (ix fun i j=>.bl (M i j)))(t:DE X F a ta)(L:DE X F b tb)(A:DE X F c tc)
  (Z:lastMarks [op,f] [b,c]=false:=by with_unfolding_all rfl):DE X F (.Compare a [op,f] [b,c] pos) (uF p M ta tb tc):=
 ⟨fun _ _ _ k q=>t.mn _ _ _ (fun _ _ B=>L.mn _ _ _ (fun _ _ ⟨i,j,C,D,d⟩=>⟨i,j,C,D,by
   by_cases h:p i j=true
   .rw[if_pos h]at d ⊢;exact A.mn _ _ _ (fun _ _ g=>by obtain⟨l,e,E⟩:=g;exact⟨l,e,k _ _ E⟩) d
   .rw[if_neg h]at d ⊢;exact k _ _ d⟩) B) q,
  (HZ ho s t.pe L.pe A.pe Z).imp fun Y H Q m=>by obtain⟨U,O,st,q⟩:=m;exact 
  ⟨U,O,st,t.mn _ _ _ (fun x U1 B v H1 O1 G N d1=>⟨U1,O1,G,L.mn _ _ _ (fun y U2 n w H2 R o I S=>by
   obtain⟨i,j,C,D,d⟩:=n;subst C D;refine⟨i,j,(DV.mono I.hid d1).int_inv,S.int_inv,p i j,rfl,?_⟩
   by_cases h:p i j=true
   .rw[if_pos h]at d ⊢;exact⟨U2,R,o,A.mn _ _ _ (fun z U3 r u H3 O3 J T d3=>by obtain⟨l,e,E⟩:=r;subst e;exact⟨j,l,(DV.mono T.hid S).int_inv,d3.int_inv,E _ H3 O3 J (N.trans (I.trans T)) (.bl _)⟩) d⟩
   .rw[if_neg h]at d ⊢;exact d _ H2 R o (N.trans I) (.bl _)) B⟩) q⟩⟩
abbrev cH:=ak->(Bool->ak->Prop)->Prop
def jn(t:cH):Prop:=∀U Q a,(∀d b,Q d b->a d b)->t U Q->t U a
def jX(K:Frag)(F:Fx)(t:cH):TT:=fun Y H Q=>∃U O,aB K F H Y U O/\t U fun b d=>∀a c,aB K F a Y d c->aP O H c a->Q b a
structure DB (X:Cx) (F:Fx) (e:Expr) (t:cH):Prop where
 mn:jn t
 pt:PT X e (jX X.K F t)
def fP(ta:DT):cH:=fun U Q=>ta U fun d f=>∃b,d=.bool b/\Q b f
theorem yI(h:Mn ta):jn (fP ta):=fun _ _ _ k q=>h _ _ _ (fun _ _ ⟨b,e,d⟩=>⟨b,e,k _ _ d⟩) q
theorem yJ{K}(h:Mn ta):∀Y H Q,jX K F (fP ta) Y H Q->gF K F ta Y H fun x j=>∃k,x=.bl k/\Q k j:=fun Y H Q f=>by obtain⟨U,O,st,q⟩:=f;exact 
 ⟨U,O,st,h _ _ _ (fun d r g v l m i n o=>by obtain⟨b,e,p⟩:=g;subst e;exact⟨b,o.bl_inv,p l m i n⟩) q⟩
theorem dt(h:DE X F e ta)(d:autoParam (∀whole,isTrue e X.env whole=(do let v <-whole;standAt e.pos;holding [v] (truthy v))) Zs._auto_1):DB X F e (fP ta):=⟨yI h.mn,(Gr h.pe d).imp (yJ h.mn)⟩
theorem kZ(i:cx X (compareOp op) r)(o:en r f)(d:DE X F a ta)(g:DE X F b tb)(h:behindInMarks op b=false):DB X F (.Compare a [op] [b] pos) (fP (cM f ta tb)):=
 ⟨yI (nZ o d.mn g.mn),(xH i d.pe g.pe h).imp fun Y H Q q=>qx o d.mn g.mn Y H _ (yJ (nZ o d.mn g.mn) Y H Q q)⟩
def Kz(t:cH):cH:=fun U Q=>t U fun b d=>Q (!b) d
theorem KA(h:DB X F a tA):DB X F (.UnaryOp .Not a pos) (Kz tA):=⟨fun _ _ _ k q=>h.mn _ _ _ (fun _ _ q=>k _ _ q) q,(GA h.pt).imp fun Y H Q d=>by obtain⟨U,O,st,q⟩:=d;exact⟨U,O,st,h.mn _ _ _ (fun b m g i j f l=>g i j f l) q⟩⟩
structure DW (X:Cx) (F:Fx) (e:Expr) (t:cH):Prop where
 mn:jn t
 pw:PW X e (jX X.K F t)
theorem _root_.L2.PW.imp(h:PW X e t)(k:∀Y H Q,t' Y H Q->t Y H Q):PW X e t':=fun f d s Y H Q I q=>h f d s Y H Q I (k Y H Q q)
theorem DW.db(h:DW X F e t):DB X F e t:=⟨h.mn,h.pw.pt⟩
def KB(t u:cH):cH:=fun U Q=>t U fun b d=>if b=true then u d Q else Q false d
def KC(t u:cH):cH:=fun U Q=>t U fun b d=>if b=true then Q true d else u d Q
theorem KD(h:DB X F a tA):DW X F (.BoolOp .And [a] pos) tA:=⟨h.mn,Gw h.pt⟩
theorem KE(h:DB X F a tA):DW X F (.BoolOp .Or [a] pos) tA:=⟨h.mn,Gx h.pt⟩
theorem KF{tB:cH}(g:DB X F a tA)(i:DW X F (.BoolOp .And (b::rest) pos) tB):DW X F (.BoolOp .And (a::b::rest) pos) (KB tA tB):=
 ⟨fun _ _ _ k q=>g.mn _ _ _ (fun b _ q=>by cases b<;>first |exact k _ _ q |exact i.mn _ _ _ k q) q,(Gy g.pt i.pw).imp fun Y H Q d=>by obtain⟨U,O,st,q⟩:=d;exact 
  ⟨U,O,st,g.mn _ _ _ (fun b n j o l f m=>by
   cases b with
   |true=>exact ei ⟨n,l,f,i.mn _ _ _ (fun b u p r s h t=>p r s h (m.trans t)) (jl j)⟩
   |false=>exact eh (jm j o l f m)) q⟩⟩
theorem KG{tB:cH}(g:DB X F a tA)(i:DW X F (.BoolOp .Or (b::rest) pos) tB):DW X F (.BoolOp .Or (a::b::rest) pos) (KC tA tB):=
 ⟨fun _ _ _ k q=>g.mn _ _ _ (fun b _ q=>by cases b<;>first |exact k _ _ q |exact i.mn _ _ _ k q) q,(Gz g.pt i.pw).imp fun Y H Q d=>by obtain⟨U,O,st,q⟩:=d;exact 
  ⟨U,O,st,g.mn _ _ _ (fun b n j o l f m=>by
   cases b with
   |false=>exact eh ⟨n,l,f,i.mn _ _ _ (fun b u p r s h t=>p r s h (m.trans t)) (jm j)⟩
   |true=>exact ei (jl j o l f m)) q⟩⟩
def KH(t:cH)(ta tb:DT):DT:=fun U Q=>t U fun b d=>if b=true then ta d Q else tb d Q
theorem KJ(i:DB X F c tA)(j:DE X F a ta)(r:DE X F b tb):DE X F (.IfExp c a b pos) (KH tA ta tb):=
 ⟨fun _ _ _ k q=>i.mn _ _ _ (fun b _ q=>by cases b<;>first |exact j.mn _ _ _ k q |exact r.mn _ _ _ k q) q,(GN i.pt j.pe r.pe).imp fun Y H Q g=>by obtain⟨U,O,st,q⟩:=g;exact 
  ⟨U,O,st,i.mn _ _ _ (fun b s t y u h w=>by
   cases b with
   |true=>exact ei ⟨s,u,h,j.mn _ _ _ (fun d x l v m n f o p=>l v m n f (w.trans o) p) (jl t)⟩
   |false=>exact eh ⟨s,u,h,r.mn _ _ _ (fun d x l v m n f o p=>l v m n f (w.trans o) p) (jm t)⟩) q⟩⟩
abbrev DN:=List PyData->(PyData->Prop)->Prop
structure iF (r:List V->Hp->VK->Prop) (f:DN):Prop where
 mn:∀xs Q Q',(∀d,Q d->Q' d)->f xs Q->f xs Q'
 ok:∀(O:List Addr) (H:Hp) (vs:List V) (xs:List PyData) (Q:VK),(∀p,H p=none->p∉O)->aG (aq O H) vs xs->f xs (fun d=>∀w H',bR H H'->DV (aq O H') w d->Q w H')->r vs H Q
def og(f:DN)(t:dk):DT:=fun U Q=>t U fun b a=>f b fun d=>Q d a
theorem yK{K}(o:iF r f)(h:qA tA):∀Y H Q,gF K F (og f tA) Y H Q->tZ r (yH K F tA) Y H Q:=fun Y H Q a=>by obtain⟨U,O,st,q⟩:=a;exact 
 ⟨U,O,st,h _ _ _ (fun t u i vs j c b k l=>o.ok c j vs t Q b.nofree l (o.mn _ _ _ (fun d m w n g s=>m w n c (b.grow g) (k.trans (.same g)) s) i)) q⟩
theorem yL(o:iF r f)(h:qA tA):Mn (og f tA):=fun _ _ _ k q=>h _ _ _ (fun _ _ a=>o.mn _ _ _ (fun _ b=>k _ _ b) a) q
theorem fQ{pos:Pos}{p:Pos}{id:String}(d:gr X (.builtin id) r)(o:iF r f)(g:Gl X x)(h:X.mg x=none)(i:bootBuiltins x=some (.builtin id))(a:DA X F (e::es) tA)(j:autoParam (x≠"__name__") Zr._auto_1)(b:autoParam ((x==("__debug__":Str))=false) Zr._auto_1)
  (k:autoParam (starEach (e::es) X.env=(false,eval e X.env)::starEach es X.env) Zq._auto_1) (c:autoParam ((backTo pos (starEach es X.env)).any (·.1)=false) Zq._auto_1):DE X F (.Call (.Name x p) (e::es) [] pos) (og f tA):=
 ⟨yL o a.mn,(ql d g h i a.pa j b k c).imp (yK o a.mn)⟩
theorem KL{pos:Pos}{p:Pos}(d:gr X (.type T) r)(o:iF r f)(g:Gl X x)(h:X.mg x=none)(i:bootBuiltins x=some (.type T))(a:DA X F (e::es) tA)(j:autoParam (x≠"__name__") Zr._auto_1)(b:autoParam ((x==("__debug__":Str))=false) Zr._auto_1)
  (k:autoParam (starEach (e::es) X.env=(false,eval e X.env)::starEach es X.env) Zq._auto_1) (c:autoParam ((backTo pos (starEach es X.env)).any (·.1)=false) Zq._auto_1):DE X F (.Call (.Name x p) (e::es) [] pos) (og f tA):=
 ⟨yL o a.mn,(xY d g h i a.pa j b k c).imp (yK o a.mn)⟩
def yM(n:String)(a:DT):DT:=fun U Q=>a U fun d c=>∃b,(∀K:Frag,kitOne K (.type (uA d)) (.type n)=some b)/\Q (.bool b) c
theorem jY{pos:Pos}{p:Pos}(m:Gl X "isinstance")(n:X.mg "isinstance" = none)(h:DE X F e ta)(o:PE X (.Name x p2) (tC (.ty T)))
  (l:autoParam (starEach [e,.Name x p2] X.env=(false,eval e X.env)::starEach [.Name x p2] X.env) Zq._auto_1) (g:autoParam (starEach [.Name x p2] X.env=(false,eval (.Name x p2) X.env)::starEach [] X.env) Zq._auto_1) (i:autoParam ((backTo pos (starEach [.Name x p2] X.env)).any (·.1)=false) Zq._auto_1) :
  DE X F (.Call (.Name "isinstance" p) [e,.Name x p2] [] pos) (yM T ta):=
 ⟨fun _ _ _ k q=>h.mn _ _ _ (fun _ _ a=>by obtain⟨b,e,q⟩:=a;exact⟨b,e,k _ _ q⟩) q,
  (ql JY m n (show bootBuiltins "isinstance" = some (.builtin "isinstance") by decide +kernel) (em h.pe (em o fm g) l) (by decide) (by decide) l i).imp fun Y H Q c=>by obtain⟨U,O,st,q⟩:=c;exact 
  ⟨U,O,st,h.mn _ _ _ (fun d y f v r s j t u=>by obtain⟨b,e,w⟩:=f;exact⟨v,d,T,b,rfl,DV.mono qt u,e,w _ r s j t (.bl b)⟩) q⟩⟩
structure gv (g:Heap) (H:Hp) (h:Heap) (a:Addr) (C:Value) (fl:Option Value):Prop where
 gh:∀b o,g.get? b=some o->∃o',h.get? b=some o'
 lo:g.get? a=none
 un:H a=none
 ob:∃oe vs a0,h.get? a=some oe/\oe.cls=C/\oe.data=.fields vs/\vs[0]? = some a0/\
  ((fl=none/\vs[1]? = some .none)\/∃T oT ts f,fl=some f/\vs[1]? = some (.ref T)/\g.get? T=none/\H T=none/\T≠a/\h.get? T=some oT/\oT.data=.fields ts/\ts[3]? = some f)
structure Ch (g:Heap) (H:Hp) (fs:List Addr) (h h':Heap):Prop where
 keep:∀b o,h.get? b=some o->((∃o',g.get? b=some o')\/H b≠none)->b∉fs->h'.get? b=some o
 slot:∀b o,b∈fs->h.get? b=some o->∃sl,h'.get? b=some { o with slots:=sl }
 there:∀b o,h.get? b=some o->∃o',h'.get? b=some o'
theorem Ch.refl:Ch g H fs h h:=⟨fun _ _ e _ _=>e,fun b o _ e=>⟨o.slots,e⟩,fun b o e=>⟨o,e⟩⟩
theorem Ch.trans(x:Ch g H fs h h1)(y:Ch g H fs h1 h2):Ch g H fs h h2 where
 keep:=fun b o e q n=>y.keep b o (x.keep b o e q n) q n
 slot:=fun b o m e=>let⟨_,e1⟩:=x.slot b o m e;let⟨sl,e2⟩:=y.slot b _ m e1;⟨sl,e2⟩
 there:=fun b o e=>let⟨o1,e1⟩:=x.there b o e;y.there b o1 e1
theorem bG.some_of(k:bG P w H h)(e:h.get? b=none):H b=none:=by
 cases q:H b with
 |none=>rfl
 |some u=>
  exfalso;have x:=k b u q;have:∀(u:HO),cz P w H h b u->∃o,h.get? b=some o:=by
   intro u
   induction u with
   |lst z=>exact fun d=>by obtain⟨_,_,_,_,e⟩:=d;exact⟨_,e⟩
   |tup z=>exact fun g=>by obtain⟨_,_,_,o,e,_⟩:=g;exact⟨_,e⟩
   |dK t=>exact fun i=>by obtain⟨_,_,_,_,o,_,_,e,_⟩:=i;exact⟨_,e⟩
   |dT t=>exact fun j=>by obtain⟨_,_,_,_,o,_,_,e,_⟩:=j;exact⟨_,e⟩
   |set S n=>exact fun l=>by obtain⟨o,_,_,_,e,_⟩:=l;exact⟨_,e⟩
   |ins C A fs=>exact fun m=>by obtain⟨_,_,_,e,_⟩:=m;exact⟨_,e⟩
   |own y=>exact fun p=>by obtain⟨_,e⟩:=p;exact⟨_,e⟩
   |xd fs=>exact fun r=>by obtain⟨_,⟨_,_,_,e,_⟩,_⟩:=r;exact⟨_,e⟩
   |rng lo B=>exact fun s=>by obtain⟨_,_,_,e⟩:=s;exact⟨_,e⟩
   |frz ob u _=>exact fun a=>by obtain⟨e,_⟩:=a;exact⟨_,e⟩
   |tbl D=>exact fun e=>⟨_,e⟩
   |met f y=>exact fun e=>⟨_,e⟩
   |ext φ=>exact fun c=>by obtain⟨_,⟨_,e⟩,_⟩:=c;exact⟨_,e⟩
  obtain⟨o,v⟩:=this u x;rw[e]at v;cases v
theorem yN{h :Heap}:∀{l},(∀b∈bQ l,a.get? b=none)->h.FunFrames base l->h.FunFrames a l
 |[],_,_=>trivial
 |c::r,hb,⟨f,⟨L,o,d,_,ho,hd⟩,g⟩=>by
  have e:bQ (c::r)=L::bQ r:=by unfold bQ;rw[List.filterMap_cons,d]
  exact⟨f,⟨L,o,d,hb L (by rw[e];exact List.mem_cons_self),ho,hd⟩,yN (fun b h=>hb b (by rw[e];exact bq _ h)) g⟩
theorem yO{L:Addr}(v:A.frames=some (env::outer))(y:s.heap.FunFrames base (env::outer))(hf:env.frame=some L)(hk:∀b,s.heap.get? b=none->H b=none)
  (gh:∀b o,g.get? b=some o->∃i,s.heap.get? b=some i) (lo:g.get? a=none) (un:H a=none) (he:s.heap.get? a=some u) (hc:u.cls=C) (hd:u.data=.fields vs) (B:1<vs.size) (h0:vs[0]? = some Z)
  (h:∀f,Ch g H (bQ (env::outer)) s.heap f->gv g H f a C (some (rawInt L))->Q () { s with heap:=f }) :
  wpAny M A (do let x <-frameOf env;let pl <-entryPlaceOf L d;let b <-EntryCells.newEntry head x .none (rawInt L) .none pl;setField (.ref a) 1 b) Q E s:=by
 refine wpAny_entryW (base:=PySem.W.hideAll s.heap (a::bQ (env::outer))) v (yN (fun b m=>PySem.W.hideAll_none _ (bq _ m)) y) hf he (fun b o e=>PySem.W.of_hideAll _ e) (PySem.W.hideAll_none _ List.mem_cons_self) hd B h0 fun f k=>?_;obtain⟨k1,k2,k3,k4⟩:=k;obtain⟨D,G,T,oT,O,R,⟨e2,I⟩,e3,e4,S,U,e7,X,e9⟩:=k3;have p:∀b o,b∈bQ (env::outer)->s.heap.get? b=some o->∃p,f.get? b=some { o with slots:=p }:=fun b o m e=>by obtain⟨_,i,c,J⟩:=y.mem m;rw[e]at c;cases c;exact k4 b o e J
 have kp:∀b o,s.heap.get? b=some o->b≠a->b∉bQ (env::outer)->f.get? b=some o:=fun b o e r t=>k1 b o (PySem.W.hideAll_get _ e fun z=>(List.mem_cons.mp z).elim r t);have Y:g.get? T=none/\H T=none:=by
  cases q:s.heap.get? T with
  |some o=>
   exfalso
   by_cases j:T∈bQ (env::outer)
   .obtain⟨_,i,c,J⟩:=y.mem j;rw[q]at c;cases c;obtain⟨N,l⟩:=p T o j q;rw[e7]at l;cases l;exact J O X
   .rw[PySem.W.hideAll_get _ q (fun z=>(List.mem_cons.mp z).elim U j)]at S;cases S
  |none=>
   refine⟨?_,hk T q⟩;cases q2:g.get? T with
   |none=>rfl
   |some o=>obtain⟨i,c⟩:=gh T o q2;rw[q]at c;cases c
 have ch:Ch g H (bQ (env::outer)) s.heap f:=⟨fun b o e q n=>kp b o e (fun z=>?_) n,fun b o m e=>p b o m e,fun b o e=>?_⟩
 .refine h f ch ⟨fun b o e=>?_,lo,un,D,G,Z,R,e2.trans hc,e3,I,.inr ⟨T,oT,O,_,rfl,e4,Y.1,Y.2,U,e7,X,e9⟩⟩;obtain⟨i,c⟩:=gh b o e;exact ch.there b i c
 .subst z;rcases q with⟨i,q⟩ |q
  .rw[lo]at q;cases q
  .exact q un
 .by_cases t:b∈bQ (env::outer)
  .obtain⟨N,c⟩:=p b o t e;exact⟨_,c⟩
  .by_cases r:b=a
   .subst r;exact⟨_,R⟩
   .exact⟨o,kp b o e r t⟩
theorem KM{h:Heap}(i:h.FunFrames base l)(j:h.get? T=some d)(hd:d.data=.fields e):(h.update T f).FunFrames base l:=
 i.of_keeps fun b o c k=>⟨o,by rw[Heap.get?_update_other _ _ (fun z=>k e (by subst z;rw[j]at c;cases c;exact hd))];exact c,rfl⟩
theorem yP(j:h.get? T=some c)(hd:c.data=.fields i)(k:g.get? T=none)(l:H T=none)(d:T∉fs):Ch g H fs h (h.update T (Obj.mapFields f)):=by
 have self:(h.update T (Obj.mapFields f)).get? T=some (c.mapFields f):=Heap.get?_update_self _ j (Obj.isFreed_of_fields (Obj.data_mapFields hd f));refine⟨fun b o e q n=>?_,fun b o m e=>⟨o.slots,?_⟩,fun b o e=>?_⟩
 .rw[Heap.get?_update_other _ _ (fun z=>?_)]
  .exact e
  .subst z;rcases q with⟨p,q⟩ |q
   .rw[k]at q;cases q
   .exact q l
 .rw[Heap.get?_update_other _ _ (fun z=>d (by rw[z];exact m))];exact e
 .by_cases z:b=T
  .subst z;exact⟨_,self⟩
  .exact⟨o,by rw[Heap.get?_update_other _ _ (Ne.symm z)];exact e⟩
theorem KN{L:Addr}(k:A.frames=some (env::outer))(t:s.heap.FunFrames base (env::outer))(u:env.frame=some L)(J:∀b,s.heap.get? b=none->H b=none)(x:gv g H s.heap a C fl)
  (h:∀l,Ch g H (bQ (env::outer)) s.heap l->gv g H l a C (some (rawInt L))->Q () { s with heap:=l }):wpAny M A (noteFrame (.ref a) env) Q E s:=by
 obtain⟨I,lo,un,N,vs,a0,m,v,hd,y,R⟩:=x;unfold noteFrame;simp only[u];rcases R with⟨_,h1⟩ |⟨T,S,O,f,_,h1,n,p,r,j,c,h3⟩
 .refine ae (wpAny_field m hd h1 ?_);rw[if_neg (by decide)];exact yO k t u J I lo un m v hd (Array.getElem?_eq_some_iff.mp h1).1 y h
 .refine ae (wpAny_field m hd h1 ?_);rw[if_pos (show(Value.ref T != Value.none)=true from by simp)];refine ae (wpAny_field j c h3 ?_)
  by_cases d:(f==rawInt L)=true
  .rw[if_pos d];have e:f=rawInt L:=by simpa using d
   subst e;exact aR (h s.heap .refl ⟨I,lo,un,N,vs,a0,m,v,hd,y,.inr ⟨T,S,O,_,rfl,h1,n,p,r,j,c,h3⟩⟩)
  .rw[if_neg d];refine ae (wpAny_setField j c (Array.getElem?_eq_some_iff.mp h3).1 ?_);have B:T∉bQ (env::outer):=fun z=>by obtain⟨_,D,i,U⟩:=t.mem z;rw[j]at i;cases i;exact U O c
   have G:=yP (g:=g) (H:=H) (f:=(·.setIfInBounds 3 Value.none)) j c n p B;refine yO (s:={ s with heap:=s.heap.update T (Obj.mapFields (·.setIfInBounds 3 Value.none)) }) k (KM t j c) u (fun b e=>?_) (fun b o e=>?_) lo un ?_ v hd (Array.getElem?_eq_some_iff.mp h1).1 y fun l ch X=>h l (G.trans ch) X
   .refine J b ?_;cases q:s.heap.get? b with
    |none=>rfl
    |some o=>obtain⟨D,i⟩:=G.there b o q;rw[show({ s with heap:=s.heap.update T (Obj.mapFields (·.setIfInBounds 3 Value.none)) }:Shared).heap=s.heap.update T (Obj.mapFields (·.setIfInBounds 3 Value.none)) from rfl]at e;rw[e]at i;cases i
   .obtain⟨D,i⟩:=I b o e;exact G.there b D i
   .show(s.heap.update T _).get? a=some N;rw[Heap.get?_update_other _ _ r];exact m
theorem KO(m)(n:∀b∈fs,∃o,s.heap.get? b=some o/\∀vs,o.data≠.fields vs)(x:gv g H s.heap a C (some fv))
  (h:∀p,Ch g H fs s.heap p->gv g H p a C (some (m.elim Value.none fun f=>rawInt f))->Q () { s with heap:=p }):wpAny M A (setFlight (.ref a) m) Q E s:=by
 obtain⟨O,lo,un,v,vs,a0,r,y,hd,B,D⟩:=x;rcases D with⟨z,_⟩ |⟨T,R,G,f,_,h1,d,i,j,l,c,h3⟩
 .cases z
 .unfold setFlight;refine ae (wpAny_field r hd h1 ?_);rw[if_pos (show(Value.ref T != Value.none)=true from by simp)];have q:T∉fs:=fun z=>by obtain⟨o,t,I⟩:=n T z;rw[l]at t;cases t;exact I G c
  have k:=(Array.getElem?_eq_some_iff.mp h3).1;have u:=yP (g:=g) (H:=H) (f:=(·.setIfInBounds 3 (m.elim Value.none fun f=>rawInt f))) l c d i q;refine wpAny_setField l c k (h _ u ⟨fun b o e=>?_,lo,un,v,vs,a0,?_,y,hd,B,.inr ⟨T,_,_,_,rfl,h1,d,i,j,Heap.get?_update_self _ l (Obj.isFreed_of_fields (Obj.data_mapFields c _)),Obj.data_mapFields c _,?_⟩⟩)
  .obtain⟨J,N⟩:=O b o e;exact u.there b J N
  .rw[Heap.get?_update_other _ _ j];exact r
  .simp[k]
theorem KP{h:Heap}(c:h.FunFrames base l):∀b∈bQ l,∃o,h.get? b=some o/\∀vs,o.data≠.fields vs:=fun b d=>let⟨_,o,e,n⟩:=c.mem d;⟨o,e,n⟩
theorem Ch.frames(c:Ch g H fs h d)(f:∀b∈bQ l,b∈fs)(j:h.FunFrames base l):d.FunFrames base l:=by
 induction l with
 |nil=>trivial
 |cons env r k=>
  obtain⟨m,⟨L,o,i,n,ho,hd⟩,p⟩:=j;have e:bQ (env::r)=L::bQ r:=by unfold bQ;rw[List.filterMap_cons,i]
  obtain⟨u,q⟩:=c.slot L o (f L (by rw[e];exact List.mem_cons_self)) ho;exact⟨m,⟨L,_,i,n,q,hd⟩,k (fun b t=>f b (by rw[e];exact bq _ t)) p⟩
theorem KQ(c:A.frames=some (env::outer))(e:s.heap.FunFrames base (env::outer))(i:env.frame=some L)(j:∀b,s.heap.get? b=none->H b=none)(x:gv g H s.heap a C fl)
  (h:∀d,Ch g H (bQ (env::outer)) s.heap d->gv g H d a C (some .none)->Q () { s with heap:=d }):wpAny M A (leaving env (.ref a)) Q E s:=by
 unfold leaving;refine ae (KN c e i j x fun n f k=>?_);refine KO (s:={ s with heap:=n }) (fs:=bQ (env::outer)) none (KP (f.frames (fun _ h=>h) e)) k fun o l m=>h o (f.trans l) m
structure qC (X:Cx) (pins:List (Addr×Obj)) (g:Heap):Prop where
 s0:∀b o,X.s₀.heap.get? b=some o->b∉X.ex->∃o',g.get? b=some o'
 loc:∃o,g.get? X.env.locals=some o
 cell:∀x c,X.env.cells.lookup x=some c->∃o,g.get? c=some o
 pin:∀p∈X.pn++pins,∃o,g.get? p.1=some o
theorem _root_.L2.Inv.cov{Y:St}(I:Inv X pins Y H s):qC X pins s.heap:=by
 refine⟨fun b o e n=>I.base.there b o e n,?_,fun x c e=>?_,fun p a=>⟨_,(I.pin p a).1⟩⟩
 .obtain⟨m,⟨o,d,f,ho,_⟩,_⟩:=I.loc;exact⟨o,ho⟩
 .obtain⟨v,o,ho,_⟩:=I.cell x c e;exact⟨o,ho⟩
theorem _root_.L2.Inv.stkIn{Y:St}(I:Inv X pins Y H s)(h:b∉bQ X.stack):b∉X.fs:=by
 rcases I.ok.stk with e |⟨e,a⟩
 .rw[e]at h;exact h
 .rw[e]at h;unfold bQ at h;rw[List.filterMap_cons,a]at h;exact fun z=>h (bq _ z)
theorem _root_.L2.Inv.stkOut{Y:St}(I:Inv X pins Y H s)(h:b∉X.fs)(a:b≠X.env.locals):b∉bQ X.stack:=fun z=>(List.mem_cons.mp (I.stkSub b z)).elim a h
theorem KR{h h':Heap}(k:∀o,h.get? a=some o->∃b,h'.get? a=some { o with slots:=b })(c:h.Ns a m):h'.Ns a m:=by obtain⟨o,d,e,ho,hd,r⟩:=c;obtain⟨b,f⟩:=k o ho;exact⟨_,d,e,f,hd,r⟩
theorem _root_.L2.Inv.ch{Y:St}(I:Inv X pins Y H s)(C:qC X pins g)(c:Ch g H (bQ X.stack) s.heap h'):Inv X pins Y H { s with heap:=h' }:=by
 have M:∀b o,s.heap.get? b=some o->H b≠none->h'.get? b=some o:=fun b o e n=>c.keep b o e (.inr n) fun z=>n (I.stkFree b z);have G:∀x a,X.env.cells.lookup x=some a->∀o,s.heap.get? a=some o->∃A,h'.get? a=some A/\A.data=o.data:=fun x a e o h=>by
  by_cases t:a∈bQ X.stack
  .obtain⟨T,y⟩:=c.slot a o t h;exact⟨_,y,rfl⟩
  .exact⟨o,c.keep a o h (.inl (C.cell x a e)) t,rfl⟩
 refine⟨I.ok,I.os,I.bare,⟨fun b o e n B w=>?_,fun b o e n B w=>?_,fun b o e n w=>I.base.free b o e n w,fun b o e w=>?_,I.base.tups,I.base.frzs,I.base.tbls⟩,?_,fun x a e=>?_,I.free,I.freeC,fun p J=>?_,fun b u e=>?_,I.len⟩
 .have y:=I.base.keep b o e n B w;refine c.keep b o y (.inl (C.s0 b o e w)) (I.stkOut B fun z=>?_);have j:=I.ok.above;have f:b<X.s₀.heap.objs.size:=bj e;rw[z]at f;exact Nat.lt_irrefl _ (Nat.lt_of_lt_of_le f j)
 .obtain⟨T,y⟩:=I.base.slot b o e n B w
  by_cases t:b∈bQ X.stack
  .obtain⟨E,N⟩:=c.slot b _ t y;exact⟨E,N⟩
  .exact absurd B (I.stkIn t)
 .obtain⟨O,y⟩:=I.base.there b o e w;exact c.there b O y
 .obtain⟨m,Q,R⟩:=I.loc;refine⟨m,KR (fun o h=>?_) Q,fun i x v j f D=>?_⟩
  .by_cases t:X.env.locals∈bQ X.stack
   .exact c.slot _ o t h
   .exact⟨o.slots,c.keep _ o h (.inl C.loc) t⟩
  .obtain⟨u,r,l⟩:=R i x v j f D;refine⟨u,r,?_⟩;rcases l with l |⟨k,a,e,o,h,hd⟩
   .exact .inl l
   .obtain⟨A,j,f⟩:=G x a e o h;exact .inr ⟨k,a,e,A,j,f.trans hd⟩
 .obtain⟨v,o,h,hd⟩:=I.cell x a e;obtain⟨A,j,f⟩:=G x a e o h;exact⟨v,A,j,f.trans hd⟩
 .obtain⟨j,f,D,L,S⟩:=I.pin p J;exact⟨c.keep _ _ j (.inl (C.pin p J)) (I.stkOut L D),f,D,L,S⟩
 .refine(I.hok b u e).stay (fun d v hd q=>M d v q ?_) (fun _ q=>q) fun _ _ q=>q;rcases hd with rfl |hd
  .rw[e];exact fun z=>by cases z
  .rw[hd];exact fun z=>by cases z
def dS(P:Program)(w:World):gV:=fun b H s E e c=>∃a C d,e=.ref a/\c.os=s.os/\AllBare c.gens/\Un (bQ b) [] H d s.heap c.heap/\bG P w d c.heap/\gv s.heap d c.heap a C (some .none)/\E C none d
structure KS (X:Cx) (pins:List (Addr×Obj)) (Y:St) (H:Hp) (s:Shared) (e:Value) (c:Str):Prop where
 inv:Inv X pins Y H s
 ex:∃a C g fl,e=.ref a/\qC X pins g/\gv g H s.heap a C fl/\X.mg c=some C
noncomputable def glob(x:Str):Option PyData:=if x="ANY_ZONE" then some (.tuple [.int 0,.tuple []]) else if x="NO_DEEDS" then some (.tuple []) else none
noncomputable def fR:HO->Bool
 |.tup _=>true
 |.frz _ (.tup _)=>true
 |_=>false
theorem KU(h:fR u=true):¬ Mv u:=fun m=>by
 cases u with
 |tup _=>exact m
 |frz _ _=>exact m
 |_=>cases h
def oh(H:Hp):Hp:=fun b=>match H b with
 |some u=>if fR u=true then some u else none
 |none=>none
theorem KW(h:oh H b=some o):fR o=true/\H b=some o:=by
 unfold oh at h;split at h
 .rename_i u e;split at h
  .rename_i t;cases h;exact⟨t,e⟩
  .cases h
 .cases h
theorem KX(t:fR u=true)(h:H b=some u):oh H b=some u:=by unfold oh;rw[h];exact if_pos t
def GH(mg:Str->Option Value)(H:Hp):Prop:=∀x d u,glob x=some d->mg x=some u->∃v,bf v u/\DV (oh H) v d
def GF(mg:Str->Option Value)(F:Fx):Prop:=GH mg fun b=>if b∈F.A₀ then none else F.H₀ b
theorem GH.mono(g:GH mg H)(k:∀b u,fR u=true->H b=some u->a b=some u):GH mg a:=fun x d u h i=>by obtain⟨v,r,c⟩:=g x d u h i;exact⟨v,r,DV.mono (fun b o e=>by obtain⟨t,f⟩:=KW e;exact KX t (k b o t f)) c⟩
theorem GF.at{K}(g:GF mg F)(st:aB K F H Y U O):GH mg H:=GH.mono g fun b c t e=>by
 obtain⟨W,st,rfl⟩:=st;split at e
 .cases e
 .rename_i a;exact st.kept b _ a e
theorem GH.frame(g:GH mg H)(h:∀a∈A,∃o,H a=some o/\Mv o):GF mg ⟨H,A,O,io⟩:=GH.mono g fun b d t e=>by show(if b∈A then none else H b)=_;rw[if_neg,e];intro z;obtain⟨o,c,m⟩:=h b z;rw[e]at c;cases c;exact KU t m
theorem GF.into{K}(g:GF mg F)(st:aB K F H Y U O):GF mg ⟨H,[],b,io⟩:=(g.at st).frame fun a h=>by cases h
def fS(X:Cx)(F:Fx)(E:Str->ak->Prop):Prop:=GF X.mg F/\∀(pins:List (Addr×Obj)) (Y:St) (H:Hp) (s:Shared) (e:Value) (c:Str) (U:ak) (O:List Addr),KS X pins Y H s e c->aB X.K F H Y U O->E c U->X.xe e s
theorem gv.weak(x:gv g H h a C j)(k:∀b o,c.get? b=some o->∃d,g.get? b=some d):gv c H h a C j:=by
 have l:∀b,g.get? b=none->c.get? b=none:=fun b e=>by
  cases q:c.get? b with
  |none=>rfl
  |some o=>obtain⟨d,i⟩:=k b o q;rw[e]at i;cases i
 obtain⟨y,lo,un,m,vs,a0,n,p,hd,r,t⟩:=x;refine⟨fun b o e=>let⟨d,i⟩:=k b o e;y b d i,l a lo,un,m,vs,a0,n,p,hd,r,t.imp id ?_⟩;rintro⟨T,u,v,f,h1,h2,h3,w⟩;exact⟨T,u,v,f,h1,h2,l T h3,w⟩
theorem _root_.L2.Inv.flies{Y:St}(I:Inv X pins Y H s)(h:dS X.prog X.w X.stack H s E e f):∃a C c,e=.ref a/\Inv X pins Y c f/\qC X pins s.heap/\gv s.heap c f.heap a C (some .none)/\E C none c:=by obtain⟨a,C,c,j,os,bare,un,hok,ex,q⟩:=h;obtain⟨k,g,d,t,i⟩:=f;obtain rfl:i = s.os:=os;exact⟨a,C,c,j,I.call (h':=k) (g':=g) (d':=d) (t':=t) (ch:=[]) un hok bare (fun b z=>absurd z (by simp)),I.cov,ex,q⟩
theorem KY{K}
  (u:GF mg F) (v:∀c C n x p y,mg c=some C->aB K F p x n y->m c n->E C none p):fS (gD (dS P w) P w K mg base N i d f j A h s H E) F m:=by
 refine⟨u,?_⟩;intro r Y k B e c U O ⟨I,a,C,g,Q,D,t,ex,G⟩ st q;subst D;have L:(A.deeper (envOfC i d s.heap.objs.size f j)).frames=some (envOfC i d s.heap.objs.size f j::h):=I.ok.frames;have hb:∀b,B.heap.get? b=none->k b=none:=fun b z=>bG.some_of I.hok z;have stk:bQ (envOfC i d s.heap.objs.size f j::h)=s.heap.objs.size::bQ h:=rfl;refine KQ (base:=base) L I.stack rfl hb ex fun R ch l=>?_;have J:=I.ch t ch;refine⟨a,C,k,rfl,J.os,J.bare,J.base,J.hok,l.weak fun b o M=>t.s0 b o M (by intro z;cases z),v c C U Y k O G st q⟩
noncomputable def Fx.plus(F:Fx)(a:List Addr):Fx:={ F with O₀:=a++F.O₀ }
theorem Fx.plus_plus{F:Fx}:(F.plus l).plus m=F.plus (m++l):=by unfold Fx.plus;simp
structure gY (K:Frag) (F:Fx) (H:Hp) (Y:St) (U:ak) (O:List Addr) (v:V) (c:ab) (fp:List Addr):Prop where
 st:aB K (F.plus fp) H Y U O
 at_:dL K H O v c fp
 new:∀a∈fp,a∈F.A₀\/F.H₀ a=none
theorem iG(h:∀a∈O',a∈O):aP O H O' H:=⟨fun _ _ _ e=>e,fun a z=>.inl (h a z)⟩
theorem cB.less{K:Frag}(st:cB K F H Y U W)(d:b.H₀=F.H₀)(f:b.A₀=F.A₀)(g:b.I₀=F.I₀)(m:b.O₀.Sublist F.O₀):cB K b H Y U W:=by have sub:(W.flatten++b.O₀).Sublist (W.flatten++F.O₀):=List.Sublist.append (List.Sublist.refl _) m;have mem:∀a∈W.flatten++b.O₀,a∈W.flatten++F.O₀:=fun a h=>sub.subset h;refine⟨fun i c e=>?_,st.nd.sublist sub,by rw[d,f];exact st.kept,by rw[d,f];exact st.new,fun a h=>st.live a (mem a h),st.len,st.lw,by rw[g];exact st.io⟩;obtain⟨v,fp,j,k,l⟩:=st.at_ i c e;exact⟨v,fp,j,k,l.keep (iG mem) (fun _ _=>rfl) (fun _ _ _ e=>e)⟩
theorem aB.unplus{K:Frag}(st:aB K (F.plus fp) H Y U O):∃O',aB K F H Y U O'/\aP O H O' H/\(∀a∈fp,a∉O'):=by
 obtain⟨W,st,rfl⟩:=st;have b:cB K F H Y U W:=st.less rfl rfl rfl (List.sublist_append_right _ _);refine⟨_,⟨W,b,rfl⟩,iG fun a h=>?_,fun a d z=>?_⟩
 .rcases List.mem_append.mp h with h |h
  .exact bC _ h
  .exact bu _ (bu _ h)
 .have nd:(W.flatten++(fp++F.O₀)).Nodup:=st.nd;obtain⟨_,e,f⟩:=List.nodup_append.mp nd;rcases List.mem_append.mp z with z |z
  .exact f a z a (bC _ d) rfl
  .exact(List.nodup_append.mp e).2.2 a d a z rfl
theorem gY.drop{K:Frag}(r:gY K F H Y U O v c fp):∃O',aB K F H Y U O'/\aP O H O' H:=let⟨O',h1,h2,_⟩:=r.st.unplus;⟨O',h1,h2⟩
@[simp]noncomputable def frz:ab->Option PyData
 |.dat d=>some d
 |.own _ (.l ds)=>some (.list ds)
 |_=>none
theorem gY.frz{K:Frag}(r:gY K F H Y U O v c fp)(e:frz c=some d):∃O',aB K F H Y U O'/\aP O H O' H/\DV (aq O' H) v d:=by
 obtain⟨O',h1,h2,h3⟩:=r.st.unplus;refine⟨O',h1,h2,?_⟩;have f:=r.at_;cases c with
 |dat x=>cases e;exact DV.mono h2.hid f
 |scr ns=>cases e
 |exc c=>cases e
 |vw c=>cases e
 |own io b=>
  cases b with
  |l ds=>cases e;obtain⟨a,rfl,rfl,i,g,h⟩:=f;exact .lst (gW g (h3 a (by simp))) (aG.mono h2.hid h)
  |m _ _=>cases e
  |o _ _=>cases e
  |sd _=>cases e
  |ll _=>cases e
  |pr _ _ _=>cases e
theorem KZ{K:Frag}(st:aB K F H Y U O)(h:DV (aq O H) v d):gY K F H Y U O v (.dat d) []:=⟨st,h,fun a h=>by cases h⟩
theorem aB.put1{K:Frag}{io:Bool}(st:aB K (F.plus fp) H Y U O)(s:dL K H O v c fp)(new:∀a∈fp,a∈F.A₀\/F.H₀ a=none)(n:i<U.length)(o:∀b,c=.own true b->v=.ref (F.I₀ i)) :
  ∃O',aB K F H (Y.set i (some v)) (U.set i (some c)) O'/\aP O H O' H:=by
 obtain⟨W,st,rfl⟩:=st;have nd:(W.flatten++(fp++F.O₀)).Nodup:=st.nd;obtain⟨t,u,r⟩:=List.nodup_append.mp nd;obtain⟨x,y,A⟩:=List.nodup_append.mp u;have p:i<W.length:=by rw[st.lw];exact n
 have sub:∀a∈(W.set i fp).flatten++F.O₀,a∈W.flatten++(fp++F.O₀):=fun a h=>by
  rcases List.mem_append.mp h with h |h
  .rcases fO h with h |⟨j,l,_,e,q⟩
   .exact bu _ (bC _ h)
   .exact bC _ (ck e q)
  .exact bu _ (bu _ h)
 have f:=iG (H:=H) sub;refine⟨_,⟨W.set i fp,⟨fun j d e=>?_,qw (List.nodup_append.mpr ⟨t,y,fun a k b B=>r a k b (bu _ B)⟩) x fun a k=>⟨fun j l _ e z=>r a (ck e z) a (bC _ k) rfl,fun z=>A a k a z rfl⟩,st.kept,fun a h=>?_,fun a h=>st.live a (sub a h),by rw[List.length_set,List.length_set,st.len],by rw[List.length_set,List.length_set,st.lw],fun j b e=>?_⟩,rfl⟩,f⟩
 .rcases jk e with⟨rfl,g,_⟩ |⟨m,g⟩
  .cases g;exact⟨v,fp,List.getElem?_set_self (by rw[<-st.len];exact n),List.getElem?_set_self p,s.keep f (fun _ _=>rfl) (fun _ _ _ e=>e)⟩
  .obtain⟨w,l,h1,h2,h3⟩:=st.at_ j d g;exact⟨w,l,by rw[List.getElem?_set_ne (Ne.symm m)];exact h1,by rw[List.getElem?_set_ne (Ne.symm m)];exact h2,h3.keep f (fun _ _=>rfl) (fun _ _ _ e=>e)⟩
 .rcases fO h with h |⟨j,l,_,e,q⟩
  .exact new a h
  .exact st.new a (ck e q)
 .rcases jk e with⟨rfl,g,_⟩ |⟨m,g⟩
  .rw[List.getElem?_set_self (by rw[<-st.len];exact n),o b (Option.some.inj g).symm]
  .rw[List.getElem?_set_ne (Ne.symm m)];exact st.io j b g
theorem aB.take{K:Frag}(st:aB K F H Y U O)(e:U[i]? = some (some (.own io b))):∃a fp O',Y[i]? = some (some (.ref a))/\aB K (F.plus fp) H Y (U.set i none) O'/\ft (aq O' H) H a b fp/\aP O H O' H/\aP O' H O H/\(∀a∈fp,a∈F.A₀\/F.H₀ a=none)/\(io=true->a=F.I₀ i):=by
 obtain⟨W,st,rfl⟩:=st;obtain⟨v,fp,h1,h2,a,rfl,h3⟩:=st.at_ i _ e;have G:i<U.length:=(List.getElem?_eq_some_iff.mp e).1;have I:i<W.length:=by rw[st.lw];exact G
 obtain⟨D,J,L⟩:=List.nodup_append.mp st.nd;have E:∀x∈(W.set i []).flatten++(fp++F.O₀),x∈W.flatten++F.O₀:=fun x h=>by
  rcases List.mem_append.mp h with h |h
  .rcases fO h with h |⟨j,l,_,g,m⟩
   .cases h
   .exact bC _ (ck g m)
  .rcases List.mem_append.mp h with h |h
   .exact bC _ (ck h2 h)
   .exact bu _ h
 have M:∀x∈W.flatten++F.O₀,x∈(W.set i []).flatten++(fp++F.O₀):=fun x h=>by
  rcases List.mem_append.mp h with h |h
  .obtain⟨l,m,f⟩:=List.mem_flatten.mp h;obtain⟨j,n⟩:=List.getElem?_of_mem m
   by_cases s:j=i
   .subst s;rw[h2]at n;cases n;exact bu _ (bC _ f)
   .exact bC _ (Kd s n f)
  .exact bu _ (bu _ h)
 have t:fp.Nodup:=by
  have:∀{W:List (List Addr)}{i:Nat}{l:List Addr},W.flatten.Nodup->W[i]? = some l->l.Nodup:=fun {W i l} R m=>R.sublist (by
   have:=List.mem_of_getElem? m;exact List.sublist_flatten_of_mem this)
  exact this D h2
 have u:((W.set i []).flatten++(fp++F.O₀)).Nodup:=by
  have q:((W.set i []).flatten++([]++F.O₀)).Nodup:=qw (fp:=[]) (O:=F.O₀) st.nd List.nodup_nil (fun a h=>by cases h);obtain⟨A,_,B⟩:=List.nodup_append.mp q;refine List.nodup_append.mpr ⟨A,List.nodup_append.mpr ⟨t,J,fun x f y o z=>L x (ck h2 f) y o z⟩,fun x f y o z=>?_⟩;subst z;rcases List.mem_append.mp o with o |o
  .rcases fO f with f |⟨j,l,n,g,m⟩
   .cases f
   .exact kY D h2 g (Ne.symm n) o m
  .exact B x f x o rfl
 have p:=iG (H:=H) E;have k:=iG (H:=H) M;refine⟨a,fp,_,h1,⟨W.set i [],⟨fun j d g=>?_,u,st.kept,fun x h=>?_,fun x h=>st.live x (E x h),by rw[List.length_set,st.len],by rw[List.length_set,List.length_set,st.lw],fun j N g=>?_⟩,rfl⟩,h3.keep (fun _ _=>rfl) p.hid,p,k,fun x f=>st.new x (ck h2 f),fun C=>?_⟩
 .rcases jk g with⟨rfl,r,_⟩ |⟨n,r⟩
  .cases r
  .obtain⟨w,l,A,Q,B⟩:=st.at_ j d r;exact⟨w,l,A,by rw[List.getElem?_set_ne (Ne.symm n)];exact Q,B.keep p (fun _ _=>rfl) (fun _ _ _ e=>e)⟩
 .rcases fO h with h |⟨j,l,_,g,m⟩
  .cases h
  .exact st.new x (ck g m)
 .rcases jk g with⟨rfl,r,_⟩ |⟨n,r⟩
  .cases r
  .exact st.io j N r
 .subst C;have:=st.io i b e;rw[h1]at this;cases this;rfl
theorem aB.swap{K:Frag}{F:Fx}(st:aB K (F.plus L) H Y U O)(keep:∀b o,b∉L->H b=some o->H' b=some o)(D:L'.Nodup)(new:∀a∈L',a∈L\/H a=none)(t:∀a∈L,a∈F.A₀\/F.H₀ a=none)(l:∀a∈L',∃o,H' a=some o/\Mv o) :
  ∃O',aB K (F.plus L') H' Y U O'/\aP O H O' H'/\(∀a∈L',a∈O')/\(∀a∈O',a∈L'\/a∈O/\a∉L)/\∀a∈O,a∉L->a∈O':=by
 obtain⟨W,st,rfl⟩:=st;have m:(W.flatten++(L++F.O₀)).Nodup:=st.nd;obtain⟨w,x,p⟩:=List.nodup_append.mp m;obtain⟨E,y,A⟩:=List.nodup_append.mp x;have wl:∀a∈W.flatten,a∉L:=fun a h z=>p a h a (bC _ z) rfl;have ol:∀a∈F.O₀,a∉L:=fun a h z=>A a z a h rfl;have j:∀a∈W.flatten++F.O₀,∃o,H a=some o/\Mv o:=fun a h=>st.live a (by
  rcases List.mem_append.mp h with h |h
  .exact bC _ h
  .exact bu _ (bu _ h))
 have kp:∀a∈W.flatten++F.O₀,H' a=H a:=fun a h=>by obtain⟨o,e,_⟩:=j a h;rw[e];exact keep a o ((List.mem_append.mp h).elim (wl a) (ol a)) e
 have ap:∀a∈L',a∉W.flatten++F.O₀:=fun a h z=>by
  rcases new a h with q |q
  .rcases List.mem_append.mp z with z |z
   .exact wl a z q
   .exact ol a z q
  .obtain⟨o,e,_⟩:=j a z;rw[q]at e;cases e
 have f:aP (W.flatten++(L++F.O₀)) H (W.flatten++(L'++F.O₀)) H':=⟨fun b o d e=>keep b o (fun z=>d (bu _ (bC _ z))) e,fun a h=>by
  rcases List.mem_append.mp h with h |h
  .exact .inl (bC _ h)
  .rcases List.mem_append.mp h with h |h
   .exact(new a h).imp (fun z=>bu _ (bC _ z)) id
   .exact .inl (bu _ (bu _ h))⟩
 have B:∀b o u,H b=some (.frz o u)->H' b=some (.frz o u):=fun b o u e=>keep b _ (fun z=>st.nofrz (bu _ (bC _ z)) e) e;refine⟨_,⟨W,⟨fun i c e=>?_,?_,fun b o d e=>?_,st.new,fun a h=>?_,st.len,st.lw,st.io⟩,rfl⟩,f,fun a h=>bu _ (bC _ h),fun a h=>?_,fun a h C=>?_⟩
 .obtain⟨v,fp,h1,h2,h3⟩:=st.at_ i c e;exact⟨v,fp,h1,h2,h3.keep f (fun b d=>kp b (bC _ (ck h2 d))) B⟩
 .refine List.nodup_append.mpr ⟨w,List.nodup_append.mpr ⟨D,y,fun a k b d z=>?_⟩,fun a k b d z=>?_⟩
  .subst z;exact ap a k (bu _ d)
  .subst z;rcases List.mem_append.mp d with d |d
   .exact ap a d (bC _ k)
   .exact p a k a (bu _ d) rfl
 .have g:=st.kept b o d e
  by_cases r:b∈L
  .rcases t b r with q |q
   .exact absurd q d
   .have s:F.H₀ b=some o:=e;rw[q]at s;cases s
  .exact keep b o r g
 .rcases List.mem_append.mp h with h |h
  .obtain⟨o,g,n⟩:=j a (bC _ h);exact⟨o,by rw[kp a (bC _ h)];exact g,n⟩
  .rcases List.mem_append.mp h with h |h
   .exact l a h
   .obtain⟨o,g,n⟩:=j a (bu _ h);exact⟨o,by rw[kp a (bu _ h)];exact g,n⟩
 .rcases List.mem_append.mp h with h |h
  .exact .inr ⟨bC _ h,wl a h⟩
  .rcases List.mem_append.mp h with h |h
   .exact .inl h
   .exact .inr ⟨bu _ (bu _ h),ol a h⟩
 .rcases List.mem_append.mp h with h |h
  .exact bC _ h
  .rcases List.mem_append.mp h with h |h
   .exact absurd h C
   .exact bu _ (bu _ h)
abbrev gG:=ak->(ab->ak->Prop)->Prop
def yQ(t:gG):Prop:=∀U Q a,(∀c b,Q c b->a c b)->t U Q->t U a
def La(K:Frag)(F:Fx)(t:gG):TE:=fun Y H Q=>∃U O,aB K F H Y U O/\t U fun c d=>∀v a b e,gY K F a Y d b v c e->aP O H b a->Q v a
structure DO (X:Cx) (F:Fx) (e:Expr) (t:gG):Prop where
 mn:yQ t
 pe:PE X e (La X.K F t)
def Lb(t:gG):DT:=fun U Q=>t U fun c a=>∃d,frz c=some d/\Q d a
theorem DO.de(h:DO X F e to):DE X F e (Lb to):=
 ⟨fun _ _ _ k q=>h.mn _ _ _ (fun _ _ a=>by obtain⟨d,e,q⟩:=a;exact⟨d,e,k _ _ q⟩) q,h.pe.imp fun Y H Q ⟨U,O,st,q⟩=>⟨U,O,st,h.mn _ _ _ (fun c m b v g n o r s=>by
  obtain⟨d,e,q⟩:=b;obtain⟨i,f,j,l⟩:=r.frz e;exact q v g i f (s.trans j) l) q⟩⟩
abbrev ez:=PyData->ak->(ak->Prop)->Prop
def oi(K:Frag)(F:Fx)(t:ez):TG:=fun v Y H Q=>∃U O d,aB K F H Y U O/\DV (aq O H) v d/\t d U fun e=>∀b a c,aB K F a b e c->aP O H c a->Q b a
structure DG (X:Cx) (F:Fx) (tg:Expr) (t:ez):Prop where
 mn:∀d U Q Q',(∀U',Q U'->Q' U')->t d U Q->t d U Q'
 pg:PG X tg (oi X.K F t)
abbrev jZ:=List PyData->ak->(ak->Prop)->Prop
def Lc(K:Frag)(F:Fx)(t:jZ):jd:=fun vs Y H Q=>∃U O d,aB K F H Y U O/\aG (aq O H) vs d/\t d U fun e=>∀b a c,aB K F a b e c->aP O H c a->Q b a
structure oj (X:Cx) (F:Fx) (tg:List Expr) (t:jZ):Prop where
 mn:∀d U Q Q',(∀U',Q U'->Q' U')->t d U Q->t d U Q'
 pg:PGs X tg (Lc X.K F t)
theorem _root_.L2.PG.imp(h:PG X e t)(k:∀v Y H Q,t' v Y H Q->t v Y H Q):PG X e t':=fun a s Y H v u Q I r q=>h a s Y H v u Q I r (k v Y H Q q)
theorem _root_.L2.PGs.imp(h:PGs X e t)(k:∀v Y H Q,t' v Y H Q->t v Y H Q):PGs X e t':=fun a s Y H v u Q I r q=>h a s Y H v u Q I r (k v Y H Q q)
def gN(i:Nat):ez:=fun d U Q=>Q (U.set i (some (.dat d)))
theorem Ld(h:PG X (.Name x pos) (qc i)):DG X F (.Name x pos) (gN i):=⟨fun _ _ _ _ k q=>k _ q,h.imp fun v Y H Q a=>by obtain⟨U,O,d,st,hd,q⟩:=a;exact q _ H O (st.set hd) .refl⟩
def Le:jZ:=fun a U Q=>a=[]/\Q U
def Lf(t:ez)(u:jZ):jZ:=fun b U Q=>∃d r,b=d::r/\t d U fun a=>u r a Q
theorem Lg:oj X F [] Le:=⟨fun _ _ _ _ k q=>⟨q.1,k _ q.2⟩,Hg.imp fun vs Y H Q a=>by
 obtain⟨U,O,ds,st,hd,e,q⟩:=a;subst e;cases hd;exact⟨rfl,q _ H O st .refl⟩⟩
theorem Lh(h:DG X F e t)(i:oj X F es ts)(l:autoParam ((assignEach (e::es) X.env).map (·.2)=assign e X.env::(assignEach es X.env).map (·.2)) Zq._auto_1):oj X F (e::es) (Lf t ts):=
 ⟨fun _ _ _ _ k a=>by obtain⟨d,r,e,q⟩:=a;exact⟨d,r,e,h.mn _ _ _ _ (fun _ c=>i.mn _ _ _ _ k c) q⟩,(Hh h.pg i.pg l).imp fun vs Y H Q b=>by
  obtain⟨U,O,ds,st,hd,d,r,e,q⟩:=b;subst e;cases hd with
  |cons hd m=>
   exact⟨_,_,rfl,U,O,d,st,hd,h.mn _ _ _ _ (fun n c y z o f j=>⟨n,o,r,f,aG.mono j.hid m,i.mn _ _ _ _ (fun A p s u v g w=>p s u v g (j.trans w)) c⟩) q⟩⟩
def Li(n:Nat)(t:jZ):ez:=fun d U Q=>∃a,d=.tuple a/\a.length=n/\t a U Q
theorem Lj{pos:Pos}{k }(j:X.calm=true)(h:oj X F es ts)(m:autoParam ((assignEach es X.env).length=n) Zq._auto_1)(f:autoParam ((assignEach es X.env).findIdx? (·.1)=none) Zq._auto_1):DG X F (.Tuple es k pos) (Li n ts):=
 ⟨fun _ _ _ _ k b=>by obtain⟨g,e,l,q⟩:=b;exact⟨g,e,l,h.mn _ _ _ _ k q⟩,(Hj j h.pg m f).imp fun v Y H Q c=>by
  obtain⟨U,O,d,st,hd,g,e,l,q⟩:=c;subst e;obtain⟨a,o,rfl,p,i⟩:=hd.tup_inv;exact⟨a,o,rfl,.inl (fM p).1,by rw[i.length];exact l,U,O,g,st,i,q⟩⟩
structure eE where
 nx:ak->Prop
 rt:ab->ak->Prop
 bk:ak->Prop:=fun _=>False
 ct:ak->Prop:=fun _=>False
abbrev cX:=eE->ak->Prop
structure jo (K:Frag) (F:Fx) (O:List Addr) (H:Hp) (D:gp) (DD:eE):Prop where
 nx:∀Y' H' U' O',aB K F H' Y' U' O'->aP O H O' H'->DD.nx U'->D.nx Y' H'
 rt:∀v Y' H' c U' O' fp,gY K F H' Y' U' O' v c fp->aP O H O' H'->DD.rt c U'->D.rt v H'
 bk:∀Y' H' U' O',aB K F H' Y' U' O'->aP O H O' H'->DD.bk U'->D.bk Y' H'
 ct:∀Y' H' U' O',aB K F H' Y' U' O'->aP O H O' H'->DD.ct U'->D.ct Y' H'
theorem jo.later{K}(f:jo K F O H D e)(s:aP O H b d):jo K F b d D e:=
 ⟨fun Y H U O st a q=>f.nx Y H U O st (s.trans a) q,fun v Y H c U O g r a q=>f.rt v Y H c U O g r (s.trans a) q,fun Y H U O st a q=>f.bk Y H U O st (s.trans a) q,fun Y H U O st a q=>f.ct Y H U O st (s.trans a) q⟩
def yR(K:Frag)(F:Fx)(t:cX):TS:=fun D Y H=>∃U O a,aB K F H Y U O/\t a U/\jo K F O H D a
def DS(X:Cx)(F:Fx)(s:Stmt)(t:cX):Prop:=PS X s (yR X.K F t)
def gw(X:Cx)(F:Fx)(s:List Stmt)(t:cX):Prop:=PSs X s (yR X.K F t)
def Lk:cX:=fun D U=>D.nx U
def Ll(t u:cX):cX:=fun D U=>t { D with nx:=fun a=>u D a } U
theorem Lm:gw X F [] Lk:=GS.imp fun D Y H a=>by obtain⟨U,O,b,st,q,f⟩:=a;exact f.nx Y H U O st .refl q
theorem Ln{st:Stmt}(j:DS X F st t)(k:gw X F rest u):gw X F (st::rest) (Ll t u):=
 (GU j k).imp fun D Y H a=>by obtain⟨U,O,c,s,q,f⟩:=a;exact⟨U,O,_,s,q,⟨fun l m d g b h i=>⟨d,g,c,b,i,f.later h⟩,f.rt,f.bk,f.ct⟩⟩
theorem Lo{st:Stmt}(h:DS X F st t):gw X F [st] t:=GV h
def qD(te:DT)(tg:ez):cX:=fun D U=>te U fun d a=>tg d a D.nx
theorem Lp{pos:Pos}(h:DE X F e te)(i:DG X F a tg)(j:autoParam (swapsWithSole [a] e pos.line X.env=pure false) Zq._auto_1)(k:autoParam (swappedStores [a] e X.env=pure none) Zq._auto_1)
  (B:autoParam ((assignEach [a] X.env).map (·.2)=[assign a X.env]) Zq._auto_1):DS X F (.Assign [a] e pos) (qD te tg):=
 (xv h.pe i.pg j k B).imp fun D Y H b=>by obtain⟨U,O,C,st,q,f⟩:=b;exact⟨U,O,st,h.mn _ _ _ (fun d l m v E n c o p=>⟨l,n,d,c,p,i.mn _ _ _ _ (fun r s w y z g A=>f.nx w y r z g (o.trans A) s) m⟩) q⟩
theorem Lq{pos:Pos}(h:X.N.Nodup)(j:X.N[i]? = some x)(k:Loc X.env.scope x)(g:DE X F e te)(l:autoParam (swapsWith e (some (.Name x a)) pos.line X.env=pure false) Zq._auto_1)
  (m:X.fn x=true\/X.env.scope.names.lookup x=some .local:=by first |exact .inl rfl |exact .inr rfl |assumption):DS X F (.Assign [.Name x a] e pos) (qD te (gN i)):=
 (xw h j k g.pe l m).imp fun D Y H b=>by obtain⟨U,O,w,st,q,f⟩:=b;exact⟨U,O,st,g.mn _ _ _ (fun d y n v o p c r s=>f.nx _ o _ p (c.set s) r n) q⟩
def Lr(te:DT):cX:=fun D U=>te U fun d a=>D.rt (.dat d) a
theorem yS(c:DE X F e te):DS X F (.Return (some e) pos) (Lr te):=
 (tK c.pe).imp fun D Y H a=>by obtain⟨U,O,m,st,q,f⟩:=a;exact⟨U,O,st,c.mn _ _ _ (fun d g h v i j b k l=>f.rt v Y i (.dat d) g j [] (KZ b l) k h) q⟩
def Ls(to:gG):cX:=fun D U=>to U fun c a=>D.rt c a
theorem Lu(b:DO X F e to):DS X F (.Return (some e) pos) (Ls to):=
 (tK b.pe).imp fun D Y H a=>by obtain⟨U,O,l,st,q,f⟩:=a;exact⟨U,O,st,b.mn _ _ _ (fun c d g v h i j r k=>f.rt v Y h c d i j r k g) q⟩
def Lv(i:Nat):cX:=fun D U=>∃b,U[i]? = some (some (.own false b))/\D.rt (.own false b) (U.set i none)
theorem Lw(g:PE X (.Name x d) (cf i)):DS X F (.Return (some (.Name x d)) pos) (Lv i):=
 (tK g).imp fun D Y H c=>by obtain⟨U,O,m,st,⟨b,e,q⟩,f⟩:=c;obtain⟨a,h,j,h1,h2,h3,k,n,l,_⟩:=st.take e;exact⟨_,h1,f.rt _ Y H (.own false b) _ j h ⟨h2,⟨a,rfl,h3⟩,l⟩ k q⟩
def Lx(i:Nat)(to:gG):cX:=fun D U=>to U fun c a=>i<a.length/\(∀b,c≠.own true b)/\D.nx (a.set i (some c))
theorem Ly{pos:Pos}(j:X.N.Nodup)(k:X.N[i]? = some x)(l:Loc X.env.scope x)(h:DO X F e to)(m:autoParam (swapsWith e (some (.Name x a)) pos.line X.env=pure false) Zq._auto_1)
  (n:X.fn x=true\/X.env.scope.names.lookup x=some .local:=by first |exact .inl rfl |exact .inr rfl |assumption):DS X F (.Assign [.Name x a] e pos) (Lx i to):=
 (xw j k l h.pe m n).imp fun D Y H ⟨U,O,C,st,q,f⟩=>⟨U,O,st,h.mn _ _ _ (fun c E d v o G I r p=>by
  obtain⟨s,w,y⟩:=d;obtain⟨A,g,B⟩:=aB.put1 (io:=true) r.st r.at_ r.new s (fun b z=>absurd z (w b));exact f.nx _ o _ A g (p.trans B) y) q⟩
def Lz(to:gG):cX:=fun D U=>to U fun _ a=>D.nx a
theorem LA(b:DO X F e to)(d:autoParam (swapsWith e none pos.line X.env=pure false) Zq._auto_1):DS X F (.Expr e pos) (Lz to):=
 (tI b.pe d).imp fun D Y H ⟨U,O,j,st,q,f⟩=>⟨U,O,st,b.mn _ _ _ (fun c k g v l m n r h=>by
  obtain⟨o,a,i⟩:=r.drop;exact f.nx _ _ _ _ a (h.trans i) g) q⟩
def LB(tc:cH)(t u:cX):cX:=fun D U=>tc U fun b a=>if b=true then t D a else u D a
theorem LC(g:DB X F c tc)(m:gw X F a t)(n:gw X F b u):DS X F (.If c a b pos) (LB tc t u):=
 (Hb g.pt m n).imp fun D Y H ⟨U,O,h,st,q,f⟩=>⟨U,O,st,g.mn _ _ _ (fun b i j o k d l=>by
  cases b with
  |true=>exact ei ⟨i,k,h,d,jl j,f.later l⟩
  |false=>exact eh ⟨i,k,h,d,jm j,f.later l⟩) q⟩
def yT(i:Nat)(te:DT)(g:Int->Int->Int):cX:=fun D U=>∃k,U[i]? = some (some (.dat (.int k)))/\te U fun d a=>∃l,d=.int l/\D.nx (a.set i (some (.dat (.int (g k l)))))
theorem LD(o:X.N.Nodup)(p:X.N[i]? = some x)(r:Loc X.env.scope x)(n:DE X F e te)(E:tM X op (xx g))(s:X.fn x=true\/X.env.scope.names.lookup x=some .local:=by first |exact .inl rfl |exact .inr rfl |assumption) :
  DS X F (.AugAssign (.Name x a) op e pos) (yT i te g):=
 (Hq o p r n.pe E s).imp fun D Y H b=>by obtain⟨U,O,G,st,⟨k,y,q⟩,f⟩:=b;obtain⟨v,h,j⟩:=st.dat y;obtain rfl:=j.int_inv;exact⟨_,h,U,O,st,n.mn _ _ _ (fun d I c w J L m z A=>by obtain⟨l,B,C⟩:=c;subst B;exact⟨k,l,rfl,A.int_inv,f.nx _ _ _ _ (m.set (.int _)) z C⟩) q⟩
inductive uG where
 |rt (c:ab) (outs:List Bx) |ex (c:Str) (outs:List Bx) |bad
abbrev FM:=List ab->uG
inductive aQ (K:Frag) (H:Hp) (O:List Addr):List V->List ab->List (List Addr)->Prop where
 |nil:aQ K H O [] [] []
 |dat {v:V}{d:PyData}{vs:List V}{cs:List ab}{fps:List (List Addr)}:DV (aq O H) v d->aQ K H O vs cs fps->aQ K H O (v::vs) (.dat d::cs) ([]::fps)
 |oth {v:V}{c:ab}{vs:List V}{cs:List ab}{fps:List (List Addr)}:(∀d,c≠.dat d)->(∀io b,c≠.own io b)->dL K H O v c []->aQ K H O vs cs fps->aQ K H O (v::vs) (c::cs) ([]::fps)
 |own {a:Addr}{b:Bx}{fp:List Addr}{vs:List V}{cs:List ab}{fps:List (List Addr)}:ft (aq O H) H a b fp->aQ K H O vs cs fps->aQ K H O (.ref a::vs) (.own true b::cs) (fp::fps)
inductive ba (H:Hp) (O:List Addr):List V->List ab->List Bx->List (List Addr)->Prop where
 |nil:ba H O [] [] [] []
 |skip {v:V}{c:ab}{vs:List V}{cs:List ab}{bs:List Bx}{fps:List (List Addr)}:(∀io b,c≠.own io b)->ba H O vs cs bs fps->ba H O (v::vs) (c::cs) bs fps
 |own {a:Addr}{io:Bool}{b b':Bx}{fp:List Addr}{vs:List V}{cs:List ab}{bs:List Bx}{fps:List (List Addr)}:ft (aq O H) H a b' fp->ba H O vs cs bs fps->ba H O (.ref a::vs) (.own io b::cs) (b'::bs) (fp::fps)
structure jq (H H':Hp) (L L' O₀:List Addr):Prop where
 nd:(L'++O₀).Nodup
 live:∀a∈L',∃o,H' a=some o/\Mv o
 keep:∀b o,b∉L->H b=some o->H' b=some o
 new:∀a∈L',a∈L\/H a=none
def fT(K:Frag)(mg:Str->Option Value)(f:FM):Sp:=fun vs H Q E=>GH mg H/\∃(i:List ab) (d:List (List Addr)) (h:List Addr),aQ K H (d.flatten++h) vs i d/\(d.flatten++h).Nodup/\(∀a∈d.flatten++h,∃o,H a=some o/\Mv o)/\
 match f i with
 |.rt c e=>∀v g j b,dL K g (b.flatten++j++h) v c j->ba g (b.flatten++j++h) vs i e b->jq H g d.flatten (b.flatten++j) h->Q v g
 |.ex c e=>∀C g b,mg c=some C->ba g (b.flatten++h) vs i e b->jq H g d.flatten b.flatten h->E C none g
 |.bad=>False
theorem aQ.len{K}(h:aQ K H O vs c b):vs.length=c.length/\b.length=c.length:=by
 induction h with
 |nil=>exact⟨rfl,rfl⟩
 |dat _ _ a=>exact⟨congrArg Nat.succ a.1,congrArg Nat.succ a.2⟩
 |oth _ _ _ _ a=>exact⟨congrArg Nat.succ a.1,congrArg Nat.succ a.2⟩
 |own _ _ a=>exact⟨congrArg Nat.succ a.1,congrArg Nat.succ a.2⟩
theorem aQ.get{K}(h:aQ K H O vs d a):∀(i:Nat)  c,d[i]? = some c->∃v f,vs[i]? = some v/\a[i]? = some f/\dL K H O v c f:=by
 induction h with
 |nil=>intro i c e;simp at e
 |dat h _ b=>
  intro i c e;cases i with
  |zero=>simp at e;subst e;exact⟨_,_,rfl,rfl,h⟩
  |succ i=>exact b i c (by simpa using e)
 |oth _ _ h _ b=>
  intro i c e;cases i with
  |zero=>simp at e;subst e;exact⟨_,_,rfl,rfl,h⟩
  |succ i=>exact b i c (by simpa using e)
 |own h _ b=>
  intro i c e;cases i with
  |zero=>simp at e;subst e;exact⟨_,_,rfl,rfl,⟨_,rfl,h⟩⟩
  |succ i=>exact b i c (by simpa using e)
theorem aQ.mono{K}(h:aQ K H O vs d a)(s:aP O H c H):aQ K H c vs d a:=by
 induction h with
 |nil=>exact .nil
 |dat h _ b=>exact .dat (DV.mono s.hid h) b
 |oth h1 h2 h _ b=>exact .oth h1 h2 (h.keep s (fun _ _=>rfl) (fun _ _ _ e=>e)) b
 |own h _ b=>exact .own (h.keep (fun _ _=>rfl) s.hid) b
theorem ba.mono(h:ba H O vs d bs a)(s:aP O H c H):ba H c vs d bs a:=by
 induction h with
 |nil=>exact .nil
 |skip h1 _ b=>exact .skip h1 b
 |own h _ b=>exact .own (h.keep (fun _ _=>rfl) s.hid) b
inductive eF where
 |nx (U:ak) |rt (c:ab) (U:ak) |bk (U:ak) |ct (U:ak) |ex (c:Str) (U:ak) |bad
abbrev SM:=ak->eF
def wpS(E:Str->ak->Prop)(m:SM):cX:=fun D U=>match m U with
 |.nx a=>D.nx a
 |.rt c a=>D.rt c a
 |.bk a=>D.bk a
 |.ct a=>D.ct a
 |.ex c a=>E c a
 |.bad=>False
@[simp]noncomputable def dU:List ab->ak->Option (List Bx)
 |[],_=>some []
 |.own _ _::a,some (.own true b)::U=>(dU a U).map (b::·)
 |.own _ _::_,_=>none
 |_::a,_::U=>dU a U
 |_::_,[]=>none
@[simp] def bm(n N:Nat)(m:SM):FM:=fun a=>if a.length=n then(match m (a.map some++List.replicate (N - n) none) with
 |.nx U=>(match dU a U with |some o=>.rt (.dat .none) o |none=>.bad)
 |.rt c U=>(match dU a U with |some o=>.rt c o |none=>.bad)
 |.ex c U=>(match dU a U with |some o=>.ex c o |none=>.bad)
 |_=>.bad) else .bad
theorem uH{α:Type}{l:List α}{x}{r}(h:l.drop k=x::r):l[k]? = some x/\l.drop (k+1)=r:=by
 constructor
 .rw[<-List.head?_drop,h];rfl
 .rw[<-List.drop_drop,h];rfl
theorem uI{K:Frag}(st:cB K F H Y U W):∀l  vs  k  g,vs.length=l.length->(∀(i:Nat) io b,l[i]? = some (.own io b)->vs[i]? = some (.ref (F.I₀ (k+i))))->dU l (U.drop k)=some g->
  ∃j,ba H (W.flatten++F.O₀) vs l g j/\j.flatten.Sublist (W.drop k).flatten
 |[],[],k,g,_,_,e=>by cases e;exact⟨[],.nil,by simp⟩
 |[],_::_,_,_,m,_,_=>by cases m
 |_::_,[],_,_,m,_,_=>by cases m
 |c::l,v::vs,k,g,m,hI,e=>by
  have p:vs.length=l.length:=Nat.succ.inj m;have t:∀(i:Nat) io b,l[i]? = some (.own io b)->vs[i]? = some (.ref (F.I₀ (k+1+i))):=fun i io b h=>by have:=hI (i+1) io b (by simpa using h);rw[show k+1+i=k+(i+1) by lia];simpa using this
  have y:(W.drop (k+1)).flatten.Sublist (W.drop k).flatten:=by
   cases A:W.drop k with
   |nil=>rw[show W.drop (k+1)=[] from by rw[<-List.drop_drop,A];rfl];exact List.Sublist.refl _
   |cons w r=>rw[(uH A).2,List.flatten_cons];exact List.sublist_append_right _ _
  cases hd:U.drop k with
  |nil=>
   rw[hd]at e;cases c with
   |own io b=>cases e
   |dat d=>cases e
   |scr n=>cases e
   |exc n=>cases e
   |vw n=>cases e
  |cons x r=>
   obtain⟨I,h2⟩:=uH hd;rw[hd]at e;have f:(∀io b,c≠.own io b)->dU l r=some g->∃j,ba H (W.flatten++F.O₀) (v::vs) (c::l) g j/\j.flatten.Sublist (W.drop k).flatten:=fun J L=>by obtain⟨j,o,s⟩:=uI st l vs (k+1) g p t (by rw[h2];exact L);exact⟨j,.skip J o,s.trans y⟩
   cases c with
   |dat d=>exact f (fun _ _ z=>by cases z) e
   |scr n=>exact f (fun _ _ z=>by cases z) e
   |exc n=>exact f (fun _ _ z=>by cases z) e
   |vw n=>exact f (fun _ _ z=>by cases z) e
   |own io b=>
    cases x with
    |none=>cases e
    |some x=>
     cases x with
     |dat d=>cases e
     |scr n=>cases e
     |exc n=>cases e
     |vw n=>cases e
     |own B M=>
      cases B with
      |false=>cases e
      |true=>
       cases q:dU l r with
       |none=>simp[dU,q]at e
       |some N=>
        simp[dU,q]at e;subst e;obtain⟨j,o,s⟩:=uI st l vs (k+1) N p t (by rw[h2];exact q);obtain⟨u,O,Q,C,a,rfl,R⟩:=st.at_ k _ I;have E:=st.io k M I;rw[Q]at E;have S:a=F.I₀ k:=by cases E;rfl
        have T:=hI 0 io b rfl;have D:v=.ref a:=by rw[S];simpa using T
        subst D;refine⟨O::j,.own R o,?_⟩;cases A:W.drop k with
        |nil=>rw[<-List.head?_drop,A]at C;cases C
        |cons w Z=>obtain⟨G,X⟩:=uH A;rw[C]at G;cases G;rw[List.flatten_cons,List.flatten_cons];rw[X]at s;exact List.Sublist.append (List.Sublist.refl _) s
theorem om{α:Type}(n):(List.replicate n ([]:List α)).flatten=[]:=by induction n with |zero=>rfl |succ n a=>rw[List.replicate_succ,List.flatten_cons,a];rfl
noncomputable def jr(N n:Nat)(a:List ab):ak:=a.map some++List.replicate (N - n) none
noncomputable def lU(vs:List V)(i:Nat):Addr:=match vs[i]? with
 |some (.ref a)=>a
 |_=>0
theorem LF{K:Frag}(p:aQ K H (g.flatten++n) vs j g)(r:(g.flatten++n).Nodup)(live:∀a∈g.flatten++n,∃o,H a=some o/\Mv o)(t:j.length<=N.length) :
  cB K ⟨H,g.flatten,n,lU vs⟩ H (start N vs) (jr N.length j.length j) (g++List.replicate (N.length - j.length) []):=by
 have l:(g++List.replicate (N.length - j.length) ([]:List Addr)).flatten=g.flatten:=by rw[List.flatten_append,om,List.append_nil]
 obtain⟨s,l2⟩:=p.len;have get:∀(i:Nat) c,(jr N.length j.length j)[i]? = some (some c)->j[i]? = some c:=fun i c e=>by
  unfold jr at e
  by_cases h:i<j.length
  .rw[List.getElem?_append_left (by simpa using h),List.getElem?_map]at e;obtain⟨d,h1,h2⟩:=Option.map_eq_some_iff.mp e;cases h2;exact h1
  .rw[List.getElem?_append_right (by simpa using Nat.le_of_not_lt h),List.getElem?_replicate]at e;split at e<;>cases e
 have put:∀(i:Nat) v,vs[i]? = some v->(start N vs)[i]? = some (some v):=fun i v e=>by unfold start;rw[List.getElem?_append_left (by simpa using(List.getElem?_eq_some_iff.mp e).1),List.getElem?_map,e];rfl
 refine⟨fun i c e=>?_,by rw[l];exact r,fun _ _ _ h=>h,fun a h=>.inl (by rw[l]at h;exact h),by rw[l];exact live,?_,?_,fun i b e=>?_⟩
 .obtain⟨v,q,h1,h2,h3⟩:=p.get i c (get i c e);exact⟨v,q,put i v h1,by rw[List.getElem?_append_left (List.getElem?_eq_some_iff.mp h2).1];exact h2,by rw[l];exact h3⟩
 .unfold jr start;rw[List.length_append,List.length_append,List.length_map,List.length_map,List.length_replicate,List.length_replicate,s]
 .unfold jr;rw[List.length_append,List.length_append,List.length_map,List.length_replicate,List.length_replicate,l2]
 .obtain⟨v,q,h1,h2,a,rfl,h3⟩:=p.get i _ (get i _ e);rw[put i _ h1];show _=some (some (V.ref (lU vs i)));unfold lU;rw[h1]
theorem aQ.ios{K:Frag}(h:aQ K H O vs d c):∀(i:Nat) io b,d[i]? = some (.own io b)->vs[i]? = some (.ref (lU vs (0+i))):=fun i io b e=>by obtain⟨v,g,h1,_,a,rfl,_⟩:=h.get i _ e;rw[Nat.zero_add];unfold lU;rw[h1]
theorem uJ{K:Frag}{st:Stmt}(Fn:lP K x qual st f fd)(S:bY N ps (dJ st))(hN:ps.length<=N.length)
  (Z:∀y  A  t  s  H  E  F  Y,bx k (A.deeper (envOfC qual (dJ st) s.heap.objs.size f y))->fS (gD (dS P w) P w K mg base N qual (dJ st) f y A t s H E) F Y->
   gw (gD (dS P w) P w K mg base N qual (dJ st) f y A t s H E) F (gE st) (wpS Y m)):cj P w K mg base (dS P w) (k+1) f fd ps (fT K mg (bm ps.length N.length m)):=by
 obtain⟨oc,od,kV,a3,pm,an,y,ct,a4,rfl,lk,a0⟩:=Fn.ex;have D:∀vs H Q E,fT K mg (bm ps.length N.length m) vs H Q E->vs.length=ps.length:=fun vs H Q E J=>by
  obtain⟨_,l,u,O₀,L,_,_,q⟩:=J;rw[L.len.1];unfold bm at q
  by_cases h:l.length=ps.length
  .exact h
  .rw[if_neg h]at q;exact q.elim
 refine IB lk a0 S D fun A t s H vs Q E hr M=>?_;have a5:=D vs H Q E M;obtain⟨gh,l,u,O₀,L,nd,live,q⟩:=M;obtain⟨l1,l2⟩:=L.len;have O:l.length=ps.length:=by lia
 let F:Fx:=⟨H,u.flatten,O₀,lU vs⟩
 have R:=LF (N:=N) L nd live (by lia);have fin:∀{T:St}{j:Hp}{n:ak}{I:List Addr}{fp:List Addr}{g:List Bx},aB K (F.plus fp) j T n I->(∀a∈fp,a∈F.A₀\/F.H₀ a=none)->dU l n = some g->∃d,ba j (d.flatten++fp++O₀) vs l g d/\jq H j u.flatten (d.flatten++fp) O₀/\aP I j (d.flatten++fp++O₀) j:=by
  rintro T j n I fp g ⟨W,p,rfl⟩ a1 ho;obtain⟨d,o,sb⟩:=uI p l vs 0 g l1 (fun i io b e=>L.ios i io b e) ho;have X:d.flatten.Sublist W.flatten:=sb;have sub:(d.flatten++fp++O₀).Sublist (W.flatten++(fp++O₀)):=by rw[List.append_assoc];exact List.Sublist.append X (List.Sublist.refl _)
  have B:aP (W.flatten++(fp++O₀)) j (d.flatten++fp++O₀) j:=iG fun a h=>sub.subset h;refine⟨d,o.mono B,⟨p.nd.sublist sub,fun a h=>p.live a (sub.subset (bC _ h)),fun b o hb e=>p.kept b o hb e,fun a h=>?_⟩,B⟩;rcases List.mem_append.mp h with h |h
  .exact p.new a (X.subset h)
  .exact a1 a h
 have a2:bm ps.length N.length m l=(match m (jr N.length ps.length l) with
  |.nx U=>(match dU l U with |some o=>.rt (.dat .none) o |none=>.bad)
  |.rt c U=>(match dU l U with |some o=>.rt c o |none=>.bad)
  |.ex c U=>(match dU l U with |some o=>.ex c o |none=>.bad)
  |_=>.bad):=by unfold bm jr;rw[if_pos O]
 rw[a2]at q;rw[O]at R;let Y:Str->ak->Prop:=fun c n=>∃g,dU l n = some g/\∀C j d,mg c=some C->ba j (d.flatten++O₀) vs l g d->jq H j u.flatten d.flatten O₀->E C none j;refine⟨_,Z y A t s H E F Y hr (KY (gh.frame fun a h=>live a (bC _ h)) fun c C n T j I G p ⟨g,ho,k⟩=>?_),?_⟩
 .obtain⟨d,o,b,_⟩:=fin (fp:=[]) p (fun a h=>by cases h) ho;rw[List.append_nil]at o b;exact k C j d G o b
 .refine⟨jr N.length ps.length l,_,⟨fun n=>∃g,dU l n = some g/\∀j d,ba j (d.flatten++[]++O₀) vs l g d->jq H j u.flatten (d.flatten++[]) O₀->Q .non j,fun c n=>∃g,dU l n = some g/\∀v j fp d,dL K j (d.flatten++fp++O₀) v c fp->ba j (d.flatten++fp++O₀) vs l g d->jq H j u.flatten (d.flatten++fp) O₀->Q v j,fun _=>False,fun _=>False⟩,⟨_,R,rfl⟩,?_,?_⟩
  .unfold wpS;cases G:m (jr N.length ps.length l) with
   |nx n=>
    rw[G]at q;cases ho:dU l n with
    |none=>simp[ho]at q
    |some g=>simp only[ho]at q;exact⟨g,ho,fun j d o b=>q .non j [] d .non o b⟩
   |rt c n=>
    rw[G]at q;cases ho:dU l n with
    |none=>simp[ho]at q
    |some g=>simp only[ho]at q;exact⟨g,ho,q⟩
   |ex c n=>
    rw[G]at q;cases ho:dU l n with
    |none=>simp[ho]at q
    |some g=>simp only[ho]at q;exact⟨g,ho,q⟩
   |bk n=>rw[G]at q;exact q
   |ct n=>rw[G]at q;exact q
   |bad=>rw[G]at q;exact q
  .refine⟨fun T j n I p s' ⟨g,ho,k⟩=>?_,fun v T j c n I fp r s' ⟨g,ho,k⟩=>?_,fun _ _ _ _ _ _ z=>z.elim,fun _ _ _ _ _ _ z=>z.elim⟩
   .obtain⟨d,o,b,_⟩:=fin (fp:=[]) p (fun a h=>by cases h) ho;exact k j d o b
   .obtain⟨d,o,b,B⟩:=fin r.st r.new ho;exact k v j fp d (r.at_.keep B (fun _ _=>rfl) (fun _ _ _ e=>e)) o b
inductive AX where
 |d (x:PyData) |s (j:Nat)
inductive dc (Y:St) (G:Hp):List V->List AX->Prop where
 |nil:dc Y G [] []
 |d {v:V}{x:PyData}{vs:List V}{as:List AX}:DV G v x->dc Y G vs as->dc Y G (v::vs) (.d x::as)
 |s {v:V}{j:Nat}{vs:List V}{as:List AX}:Y[j]? = some (some v)->dc Y G vs as->dc Y G (v::vs) (.s j::as)
abbrev gH:=ak->(List AX->ak->Prop)->Prop
def yU(t:gH):Prop:=∀U Q a,(∀d b,Q d b->a d b)->t U Q->t U a
def LG(K:Frag)(F:Fx)(t:gH):TA:=fun Y H Q=>∃U O,aB K F H Y U O/\t U fun as c=>∀vs a b,aB K F a Y c b->aP O H b a->dc Y (aq b a) vs as->Q vs a
structure DX (X:Cx) (F:Fx) (es:List Expr) (t:gH):Prop where
 mn:yU t
 pa:PA X es (LG X.K F t)
def LH:gH:=fun U Q=>Q [] U
def LI(te:DT)(t:gH):gH:=fun U Q=>te U fun d a=>t a fun as b=>Q (.d d::as) b
def LJ(j:Nat)(t:gH):gH:=fun U Q=>(∃c,U[j]? = some (some c))/\t U fun as a=>Q (.s j::as) a
theorem LM:DX X F [] LH:=⟨fun _ _ _ k q=>k _ _ q,fm.imp fun Y H Q a=>by obtain⟨U,O,st,q⟩:=a;exact q [] H O st .refl .nil⟩
theorem LN(b:DE X F e te)(c:DX X F es tX)(m:autoParam (starEach (e::es) X.env=(false,eval e X.env)::starEach es X.env) Zq._auto_1):DX X F (e::es) (LI te tX):=
 ⟨fun _ _ _ k q=>b.mn _ _ _ (fun _ _ f=>c.mn _ _ _ (fun _ _ g=>k _ _ g) f) q,(em b.pe c.pa m).imp fun Y H Q a=>by obtain⟨U,O,st,q⟩:=a;exact 
  ⟨U,O,st,b.mn _ _ _ (fun d n f v y o h r s=>⟨n,o,h,c.mn _ _ _ (fun as z g vs t u i l w=>g (v::vs) t u i (r.trans l) (.d (DV.mono l.hid s) w)) f⟩) q⟩⟩
theorem LO(i:PE X (.Name x p) (cf j))(d:DX X F es tX)(l:autoParam (starEach (.Name x p::es) X.env=(false,eval (.Name x p) X.env)::starEach es X.env) Zq._auto_1):DX X F (.Name x p::es) (LJ j tX):=
 ⟨fun _ _ _ k a=>by obtain⟨h,q⟩:=a;exact⟨h,d.mn _ _ _ (fun _ _ f=>k _ _ f) q⟩,(em i d.pa l).imp fun Y H Q b=>by
  obtain⟨U,O,st,⟨c,m⟩,q⟩:=b;obtain⟨W,h,rfl⟩:=id st;obtain⟨v,u,h1,h2,h3⟩:=h.at_ j c m;exact⟨v,h1,U,_,st,d.mn _ _ _ (fun as w f vs n o g r t=>f (v::vs) n o g r (.s h1 t)) q⟩⟩
@[simp]noncomputable def gJ(U:ak):List AX->Option (List ab×List (Nat×Bool))
 |[]=>some ([],[])
 |.d x::as=>(match gJ U as with |some (e,a)=>some (.dat x::e,a) |none=>none)
 |.s j::as=>(match gJ U as with
  |some (e,a)=>(match U[j]? with
   |some (some (.own io b))=>if a.any (fun p=>p.1==j) then none else some (.own true b::e,(j,io)::a)
   |some (some c)=>some (c::e,a)
   |_=>none)
  |none=>none)
@[simp]noncomputable def fU:List (Nat×Bool)->ak->ak
 |[],U=>U
 |(j,_)::r,U=>(fU r U).set j none
@[simp]noncomputable def df:List (Nat×Bool)->List Bx->ak->ak
 |(j,io)::r,b::bs,U=>df r bs (U.set j (some (.own io b)))
 |_,_,U=>U
theorem yV:(fU a U).length=U.length:=by
 induction a with
 |nil=>rfl
 |cons p r b=>obtain⟨j,io⟩:=p;rw[fU,List.length_set,b]
theorem LP(h:∀p∈a,p.1≠i):(fU a U)[i]? = U[i]?:=by
 induction a with
 |nil=>rfl
 |cons p r b=>obtain⟨j,io⟩:=p;rw[fU,List.getElem?_set_ne (h (j,io) List.mem_cons_self),b fun q c=>h q (bq _ c)]
inductive eG (Y:St) (F:Fx) (n:Nat):List V->List ab->List (Nat×Bool)->Prop where
 |nil:eG Y F n [] [] []
 |skip {v:V}{c:ab}{vs:List V}{cs:List ab}{js:List (Nat×Bool)}:(∀io b,c≠.own io b)->eG Y F n vs cs js->eG Y F n (v::vs) (c::cs) js
 |own {a:Addr}{io:Bool}{b:Bx}{j:Nat}{vs:List V}{cs:List ab}{js:List (Nat×Bool)}:Y[j]? = some (some (.ref a))->(io=true->a=F.I₀ j)->j<n->eG Y F n vs cs js->eG Y F n (.ref a::vs) (.own true b::cs) ((j,io)::js)
section
variable{K:Frag}{F:Fx}{H H':Hp}{Y:St}{U:ak}{O O':List Addr}
theorem uK(st:aB K F H Y U O):∀as  vs  r  t,gJ U as=some (r,t)->dc Y (aq O H) vs as->
  ∃f O',aB K (F.plus f.flatten) H Y (fU t U) O'/\aQ K H O' vs r f/\aP O H O' H/\aP O' H O H/\(∀a∈f.flatten,a∈F.A₀\/F.H₀ a=none)/\eG Y F U.length vs r t
 |[],vs,r,t,e,h=>by cases e;cases h;refine⟨[],O,st,.nil,.refl,.refl,?_,.nil⟩;intro a h;cases h
 |.d x::as,vs,r,t,e,h=>by
  cases h with
  |d w E=>
   unfold gJ at e;cases q:gJ U as with
   |none=>rw[q]at e;cases e
   |some p=>obtain⟨k,g⟩:=p;rw[q]at e;simp only[Option.some.injEq,Prod.mk.injEq]at e;obtain⟨T,X⟩:=e;obtain⟨f,O',l,o,m,A,B,C⟩:=uK st as _ k g q E;subst T X;exact⟨[]::f,O',l,.dat (DV.mono m.hid w) o,m,A,B,.skip (fun _ _ z=>by cases z) C⟩
 |.s j::as,vs,r,t,e,h=>by
  cases h with
  | @s v _ vs _ w E=>
   unfold gJ at e;cases q:gJ U as with
   |none=>rw[q]at e;cases e
   |some p=>
    obtain⟨k,g⟩:=p;rw[q]at e;obtain⟨f,O',l,o,m,A,B,C⟩:=uK st as _ k g q E;cases u:U[j]? with
    |none=>rw[u]at e;cases e
    |some Z=>
     cases Z with
     |none=>rw[u]at e;cases e
     |some c=>
      rw[u]at e;obtain⟨W,G,I⟩:=id st;obtain⟨D,a0,h1,h2,h3⟩:=G.at_ j c u;rw[w]at h1;have J:D = v:=by cases h1;rfl
      subst J;rw[<-I]at h3;have other:(∀io b,c≠.own io b)->∃f O',aB K (F.plus f.flatten) H Y (fU g U) O'/\aQ K H O' (D::vs) (c::k) f/\aP O H O' H/\aP O' H O H/\(∀a∈f.flatten,a∈F.A₀\/F.H₀ a=none)/\eG Y F U.length (D::vs) (c::k) g:=fun N=>by
       refine⟨[]::f,O',l,?_,m,A,B,.skip N C⟩;cases c with
       |dat d=>exact .dat (DV.mono m.hid h3) o
       |own io b=>exact absurd rfl (N io b)
       |scr ns=>exact .oth (fun _ z=>by cases z) (fun _ _ z=>by cases z) (dL.keep (c:=.scr ns) (fp:=[]) h3 m (fun _ _=>rfl) (fun _ _ _ e=>e)) o
       |exc n=>exact .oth (fun _ z=>by cases z) (fun _ _ z=>by cases z) (dL.keep (c:=.exc n) (fp:=[]) h3 m (fun _ _=>rfl) (fun _ _ _ e=>e)) o
       |vw n=>exact .oth (fun _ z=>by cases z) (fun _ _ z=>by cases z) (dL.keep (c:=.vw n) (fp:=[]) h3 m (fun _ _=>rfl) (fun _ _ _ e=>e)) o
      cases c with
      |dat d=>simp only[Option.some.injEq,Prod.mk.injEq]at e;rw[<-e.1,<-e.2];exact other (fun _ _ z=>by cases z)
      |scr ns=>simp only[Option.some.injEq,Prod.mk.injEq]at e;rw[<-e.1,<-e.2];exact other (fun _ _ z=>by cases z)
      |exc n=>simp only[Option.some.injEq,Prod.mk.injEq]at e;rw[<-e.1,<-e.2];exact other (fun _ _ z=>by cases z)
      |vw n=>simp only[Option.some.injEq,Prod.mk.injEq]at e;rw[<-e.1,<-e.2];exact other (fun _ _ z=>by cases z)
      |own io b=>
       by_cases L:g.any (fun p=>p.1==j)=true
       .simp only[if_pos L]at e;cases e
       .simp only[if_neg L,Option.some.injEq,Prod.mk.injEq]at e;rw[<-e.1,<-e.2];have M:∀p∈g,p.1≠j:=fun p hp z=>L (List.any_eq_true.mpr ⟨p,hp,by simp[z]⟩);obtain⟨a,fp,O2,Q,R,t3,S,t5,t6,t7⟩:=l.take (i:=j) (io:=io) (b:=b) (by rw[LP M];exact u);rw[w]at Q;have J:D = .ref a:=by cases Q;rfl
        subst J;rw[Fx.plus_plus]at R;refine⟨fp::f,O2,R,.own t3 (o.mono S),m.trans S,t5.trans A,fun x y=>?_,.own w t7 (List.getElem?_eq_some_iff.mp u).1 C⟩;rcases List.mem_append.mp y with y |y
        .exact t6 x y
        .exact B x y
theorem yW(t:eG Y F n vs m o):∀{d e U O},U.length=n->aB K (F.plus (e.flatten++fp)) H Y U O->ba H O vs m d e->(∀a∈e.flatten,a∈F.A₀\/F.H₀ a=none)->
  ∃O',aB K (F.plus fp) H Y (df o d U) O'/\aP O H O' H:=by
 induction t with
 |nil=>intro d e U O h st f k;cases f;exact⟨O,st,.refl⟩
 |skip g _ p=>
  intro d e U O h st f k;cases f with
  |skip _ f=>exact p h st f k
  |own _ _=>exact absurd rfl (g _ _)
 | @own a io b j vs m o h1 h2 h3 t p=>
  intro d e U O h st f k;cases f with
  |skip g _=>exact absurd rfl (g _ _)
  | @own _ _ _ y f1 _ _ bs A hb f=>
   have q:aB K ((F.plus (A.flatten++fp)).plus f1) H Y U O:=by rw[Fx.plus_plus,<-List.append_assoc];exact st
   obtain⟨E,l,u⟩:=aB.put1 (io:=true) (c:=.own io y) (v:=.ref a) (i:=j) q ⟨a,rfl,hb⟩ (fun x r=>k x (by rw[List.flatten_cons];exact bC _ r)) (by rw[h];exact h3) (fun b z=>by cases z;rw[h2 rfl];rfl);have B:Y.set j (some (.ref a))=Y:=by
    apply List.ext_getElem?;intro i
    by_cases w:i=j
    .subst w;rw[List.getElem?_set_self (List.getElem?_eq_some_iff.mp h1).1,h1]
    .rw[List.getElem?_set_ne (Ne.symm w)]
   rw[B]at l;obtain⟨C,s,D⟩:=p (by rw[List.length_set];exact h) l (f.mono u) (fun x r=>k x (by rw[List.flatten_cons];exact bu _ r));exact⟨C,s,u.trans D⟩
end
def gZ(f:FM)(E:Str->ak->Prop)(Q:ab->ak->Prop)(as:List AX)(U:ak):Prop:=match gJ U as with
 |some (d,b)=>(match f d with
  |.rt c a=>Q c (df b a (fU b U))
  |.ex c a=>E c (df b a (fU b U))
  |.bad=>False)
 |none=>False
def yX(f:FM)(E:Str->ak->Prop)(t:gH):gG:=fun U Q=>t U fun as a=>gZ f E Q as a
theorem LQ(h:∀c d,Q c d->b c d)(q:gZ f E Q as U):gZ f E b as U:=by
 unfold gZ at q ⊢;split
 .rename_i i j e;rw[e]at q;simp only at q;split
  .rename_i a;rw[a]at q;exact h _ _ q
  .rename_i a;rw[a]at q;exact q
  .rename_i a;rw[a]at q;exact q
 .rename_i e;rw[e]at q;exact q
theorem uL{Y:St}(hx:fS X F E)(G:cj X.prog X.w X.K X.mg X.base (dS X.prog X.w) k g fd ps (fT X.K X.mg f))(hr:bx k X.A)(hb:iy X.K fd ps [])
  (I:Inv X m Y H s) (r:bi vs us) (st:aB X.K F H Y U O) (ax:dc Y (aq O H) vs as) (q:gZ f E QC as U) (hQ:∀c L,QC c L->∀v b S M,gY X.K F b Y L S v c M->aP O H S b->Q v b) :
  wpAny (model X.prog X.w) X.A (call (.ref g) us) (EP X m Y Q) X.xe s:=by
 unfold gZ at q;cases hc:gJ U as with
 |none=>rw[hc]at q;exact q.elim
 |some p=>
  obtain⟨cs,js⟩:=p;rw[hc]at q;simp only at q;obtain⟨i,O2,T,ar,s1,a6,nw,ja⟩:=uK st as vs cs js hc ax;obtain⟨W,y,Z⟩:=id T;have a2:(W.flatten++(i.flatten++F.O₀)).Nodup:=y.nd;have l:∀a,a∈O2↔a∈i.flatten++(W.flatten++F.O₀):=fun a=>by
   rw[Z];show a∈W.flatten++(i.flatten++F.O₀)↔_;simp only[List.mem_append];constructor
   .rintro(h |h |h)<;>simp[h]
   .rintro(h |h |h)<;>simp[h]
  have perm:(i.flatten++(W.flatten++F.O₀)).Perm (W.flatten++(i.flatten++F.O₀)):=by rw[<-List.append_assoc,<-List.append_assoc];exact List.Perm.append_right _ List.perm_append_comm
  have a0:(i.flatten++(W.flatten++F.O₀)).Nodup:=perm.nodup_iff.mpr a2;have a3:aP O2 H (i.flatten++(W.flatten++F.O₀)) H:=iG fun a h=>(l a).mpr h;have N:∀(b:Hp) (n:List Addr) (a:Addr),(a∈n++(W.flatten++F.O₀))->a∈n\/(a∈O2/\a∉i.flatten):=fun b n a h=>by
   rcases List.mem_append.mp h with h |h
   .exact .inl h
   .refine .inr ⟨(l a).mpr (bu _ h),fun z=>?_⟩;exact(List.nodup_append.mp a0).2.2 a z a h rfl
  have j:∀(b:Hp) (n:List Addr),jq H b i.flatten n (W.flatten++F.O₀)->∃B,aB X.K (F.plus n) b Y (fU js U) B/\aP O2 H B b/\∀a,a∈B↔a∈n++(W.flatten++F.O₀):=fun b n t=>by
   obtain⟨B,t1,t2,t3,t4,t5⟩:=T.swap (H':=b) (L':=n) t.keep (List.nodup_append.mp t.nd).1 t.new nw t.live;refine⟨B,t1,t2,fun a=>⟨fun h=>?_,fun h=>?_⟩⟩
   .rcases t4 a h with z |⟨z1,z2⟩
    .exact bC _ z
    .rcases List.mem_append.mp ((l a).mp z1) with z |z
     .exact absurd z z2
     .exact bu _ z
   .rcases N b n a h with z |⟨z1,z2⟩
    .exact t3 a z
    .exact t5 a z1 z2
  have r2:bi (vs++[]) (us++[]):=by rw[List.append_nil,List.append_nil];exact r
  let EX:XK:=fun C _ b=>∃c L S,X.mg c=some C/\aB X.K F b Y L S/\E c L;have sp:fT X.K X.mg f vs H Q EX:=by
   refine⟨hx.1.at st,cs,i,W.flatten++F.O₀,ar.mono a3,a0,fun a h=>?_,?_⟩
   .exact y.live a (by have:=(l a).mpr h;rw[Z]at this;exact this)
   .cases hf:f cs with
    |bad=>rw[hf]at q;exact q
    |rt c a1=>
     rw[hf]at q;simp only at q ⊢;intro v b M d a4 R t;obtain⟨B,t1,t2,t3⟩:=j b (d.flatten++M) t;have D:aP (d.flatten++M++(W.flatten++F.O₀)) b B b:=iG fun a h=>(t3 a).mp h;have J:∀a∈d.flatten++M,a∈F.A₀\/F.H₀ a=none:=fun a h=>by
      rcases t.new a h with z |z
      .exact nw a z
      .by_cases hA:a∈F.A₀
       .exact .inl hA
       .refine .inr ?_;cases e:F.H₀ a with
        |none=>rfl
        |some o=>have:=y.kept a o hA e;rw[z]at this;cases this
     have lj:(fU js U).length=U.length:=yV;obtain⟨O4,u1,u2⟩:=yW (fp:=M) ja lj t1 (R.mono D) fun a h=>J a (bC _ h);exact hQ c _ q v b O4 M ⟨u1,a4.keep (D.trans u2) (fun _ _=>rfl) (fun _ _ _ e=>e),fun a h=>J a (bu _ h)⟩ (s1.trans (t2.trans u2))
    |ex c a1=>
     rw[hf]at q;simp only at q ⊢;intro C b d hm R t;obtain⟨B,t1,t2,t3⟩:=j b d.flatten t;have D:aP (d.flatten++(W.flatten++F.O₀)) b B b:=iG fun a h=>(t3 a).mp h;have J:∀a∈d.flatten,a∈F.A₀\/F.H₀ a=none:=fun a h=>by
      rcases t.new a h with z |z
      .exact nw a z
      .by_cases hA:a∈F.A₀
       .exact .inl hA
       .refine .inr ?_;cases e:F.H₀ a with
        |none=>rfl
        |some o=>have:=y.kept a o hA e;rw[z]at this;cases this
     have lj:(fU js U).length=U.length:=yV;obtain⟨O4,u1,u2⟩:=yW (fp:=[]) ja lj (by rw[List.append_nil];exact t1) (R.mono D) J;exact⟨c,_,O4,hm,u1,q⟩
  have hl:(us++[]).length=ps.length:=by rw[List.append_nil,<-r.length];exact G.len _ _ _ _ sp
  refine wpAny_call (codeAny_mono (G.run X.A X.stack s H ⟨us,[]⟩ us vs Q EX hr I.env0 (by have:=hb s us I.kIn hl;rw[List.append_nil]at this;exact this) r sp) fun r s' hq=>?_);cases r with
  |error e=>obtain⟨a,C,b,e1,I',cv,ex,c,L,S,hm,a5,hE⟩:=I.flies hq;exact hx.2 m Y b s' e c L S ⟨I',a,C,s.heap,_,e1,cv,ex,hm⟩ a5 hE
  |ok fl=>
   cases fl with
   |ret u=>exact I.after hq
   |next=>exact False.elim hq
   |brk=>exact False.elim hq
   |cont=>exact False.elim hq
theorem LR{pos:Pos}{p:Pos}(L:fS X F E)(G:cj X.prog X.w X.K X.mg X.base (dS X.prog X.w) k g fd ps (fT X.K X.mg f))(M:bx k X.A)(N:Gl X x)(R:X.mg x=some (.ref g))(S:keepIn X.K (.ref g)=true)(hb:iy X.K fd ps [])
  (t:DX X F (e::es) tX) (u:autoParam ((x==("__debug__":Str))=false) Zr._auto_1) (T:autoParam (starEach (e::es) X.env=(false,eval e X.env)::starEach es X.env) Zq._auto_1) (y:autoParam ((backTo pos (starEach es X.env)).any (·.1)=false) Zq._auto_1) :
  DO X F (.Call (.Name x p) (e::es) [] pos) (yX f E tX):=by
 refine⟨fun U Q Q' k q=>t.mn _ _ _ (fun as b i=>LQ k i) q,fun j s Y H Q I l=>?_⟩;obtain⟨U,O,st,q⟩:=l;refine wpAny_Call_Name_kw (tH I N R ?_ u);refine PySem.W.callWith_K (h₀:=X.base) I.ok.mod.kin S (aN (t.pa pos j s Y H (fun vs m=>∃as b d,aB X.K F m Y b d/\aP O H d m/\dc Y (aq d m) vs as/\gZ f E (fun c D=>∀v n o z,gY X.K F n Y D o v c z->aP O H o n->Q v n) as b) I ⟨U,O,st,t.mn _ _ _ (fun as b i vs m d a J B=>⟨as,b,d,a,J,B,i⟩) q⟩) fun us J zz=>⟨by obtain⟨_,_,I1,_⟩:=zz;exact I1.kIn,?_⟩) T y;obtain⟨vs,m,I1,r,as,b,d,a,C,B,i⟩:=zz;exact uL L G M hb I1 r a B i fun c D h v n o z res Z=>h v n o z res (C.trans Z)
def lb(H:Hp)(O:List Addr):Prop:=∀a∈O,∃o,H a=some o/\Mv o
theorem lb.nofree(h:lb H O):∀p,H p=none->p∉O:=fun p a z=>by obtain⟨o,e,_⟩:=h p z;rw[a]at e;cases e
theorem aB.live{K}(st:aB K F H Y U O):lb H O:=by obtain⟨W,h,rfl⟩:=st;exact h.live
abbrev ej:=ak->(List PyData->ak->Prop)->Prop
def Wk(O:List Addr)(H:Hp)(J:It)(c:List PyData):Prop:=∀e b,aP O H e b->lb b e->
 (∀i d,c[i]? = some d->J.go i b/\∀x a,J.yld i b x a->bR b a/\DV (aq e a) x d)/\J.stop c.length b
def qE(K:Frag)(F:Fx)(s:ej):TI:=fun Y H R=>∃U O,aB K F H Y U O/\s U fun b d=>∀J a c,aB K F a Y d c->aP O H c a->Wk c a J b->R J a
structure DI (X:Cx) (F:Fx) (tg iter:Expr) (s:ej):Prop where
 mn:∀U Q Q',(∀d U',Q d U'->Q' d U')->s U Q->s U Q'
 pi:PI X tg iter (qE X.K F s)
theorem _root_.L2.PI.imp(h:PI X b e t)(k:∀Y H Q,t' Y H Q->t Y H Q):PI X b e t':=fun a s Y H Q I q=>h a s Y H Q I (k Y H Q q)
def iL(te:DT):ej:=fun U Q=>te U fun d f=>∃c,d=.list c/\Q c f
def iT(te:DT):ej:=fun U Q=>te U fun d f=>∃c,d=.tuple c/\Q c f
theorem LS{K}(k:aq O H a=some (.lst c))(hd:aG (aq O H) c j):Wk O H (tP K a) j:=fun t u s ok=>by obtain⟨r,l⟩:=cT k;have h2:=s.keep a _ l r;have f:=aG.mono s.hid hd;refine⟨fun i d e=>?_,⟨c,.of h2,by rw[hd.length];exact bb _⟩⟩;obtain⟨v,g,m⟩:=f.get e;refine⟨⟨c,v,.of h2,g⟩,fun x n ⟨o,q⟩=>?_⟩;subst o;have:=q c (.of h2);rw[g]at this;cases this;exact⟨fun _ _ h=>h,m⟩
theorem LU{K}(l:Rd (aq O H) a (.tup c))(hd:aG (aq O H) c k):Wk O H (qd K a) k:=fun w m s ok=>by
 obtain⟨u,g⟩:=fM l;have h2:Rd m a (.tup c):=u.imp (fun e=>s.keep a _ g e) fun⟨o,e⟩=>⟨o,s.keep a _ g e⟩
 have f:=aG.mono s.hid hd;refine⟨fun i d e=>?_,⟨c,.inl h2,by rw[hd.length];exact bb _⟩⟩;obtain⟨v,j,n⟩:=f.get e;refine⟨⟨c,v,.inl h2,j⟩,fun x q ⟨r,t⟩=>?_⟩;subst r;have:=t c (.inl h2);rw[j]at this;cases this;exact⟨fun _ _ h=>h,n⟩
theorem LV(h:DE X F e te):DI X F tg e (iL te):=
 ⟨fun _ _ _ k q=>h.mn _ _ _ (fun _ _ c=>by obtain⟨l,e,q⟩:=c;exact⟨l,e,k _ _ q⟩) q,(Hz h.pe).imp fun Y H R f=>by obtain⟨U,O,st,q⟩:=f;exact 
  ⟨U,O,st,h.mn _ _ _ (fun d u g v m n i o r=>by
   obtain⟨l,e,s⟩:=g;subst e;obtain⟨a,t,rfl,j,hd⟩:=r.lst_inv;exact⟨a,rfl,⟨t,.of (cT j).1⟩,s _ m n i o (LS j hd)⟩) q⟩⟩
theorem LW(h:DE X F e te):DI X F tg e (iT te):=
 ⟨fun _ _ _ k q=>h.mn _ _ _ (fun _ _ c=>by obtain⟨l,e,q⟩:=c;exact⟨l,e,k _ _ q⟩) q,(xz h.pe).imp fun Y H R f=>by obtain⟨U,O,st,q⟩:=f;exact 
  ⟨U,O,st,h.mn _ _ _ (fun d u g v m n i o r=>by
   obtain⟨l,e,s⟩:=g;subst e;obtain⟨a,t,rfl,j,hd⟩:=r.tup_inv;exact⟨a,rfl,⟨t,.inl (fM j).1⟩,s _ m n i o (LU j hd)⟩) q⟩⟩
noncomputable def intsFrom(lo:Int)(n:Nat):List PyData:=(List.range n).map fun(i:Nat)=>PyData.int (lo+i)
theorem qF(lo n):(intsFrom lo n).length=n:=by unfold intsFrom;rw[List.length_map,List.length_range]
theorem LX{lo}:Wk O H (qe lo n) (intsFrom lo n):=fun q r s ok=>by refine⟨fun i d e=>?_,by show n<=(intsFrom lo n).length;rw[qF];exact bb _⟩;unfold intsFrom at e;rw[List.getElem?_map]at e;obtain⟨j,g,k⟩:=Option.map_eq_some_iff.mp e;obtain⟨c,f⟩:=List.getElem?_eq_some_iff.mp g;rw[List.length_range]at c;rw[List.getElem_range]at f;subst f k;exact⟨c,fun x l ⟨m,o⟩=>by subst m o;exact⟨fun _ _ h=>h,.int _⟩⟩
def yY(t:dk):ej:=fun U Q=>t U fun d c=>∃j:Int,d=[.int j]/\-(2 ^ 62)<=j/\j<2 ^ 62/\Q (intsFrom 0 j.toNat) c
theorem lV(l:Gl X "range")(m:X.mg "range" = none)(h:DA X F [a] tA)(n:autoParam (starEach [a] X.env=[(false,eval a X.env)]) Zq._auto_1):DI X F tg (.Call (.Name "range" p) [a] [] pos) (yY tA):=
 ⟨fun _ _ _ k q=>h.mn _ _ _ (fun _ _ c=>by obtain⟨j,e,h1,h2,q⟩:=c;exact⟨j,e,h1,h2,k _ _ q⟩) q,(HD l m h.pa n).imp fun Y H R f=>by obtain⟨U,O,st,q⟩:=f;exact 
  ⟨U,O,st,h.mn _ _ _ (fun x w g vs o s i t u=>by
   obtain⟨j,e,h1,h2,v⟩:=g;subst e;cases u with
   |cons d r=>
    cases r;obtain rfl:=d.int_inv;exact⟨j,rfl,h1,h2,v _ o s i t LX⟩) q⟩⟩
noncomputable def numbered(c:List PyData):List PyData:=c.mapIdx fun i d=>PyData.tuple [.int i,d]
def iE(t:dk):ej:=fun U Q=>t U fun f d=>∃c,f=[.list c]/\Q (numbered c) d
theorem LY(E:Gl X "enumerate")(G:X.mg "enumerate" = none)(t:DA X F [a] tA)(I:autoParam (starEach [a] X.env=[(false,eval a X.env)]) Zq._auto_1):DI X F (.Tuple c D f) (.Call (.Name "enumerate" p) [a] [] pos) (iE tA):=
 ⟨fun _ _ _ k q=>t.mn _ _ _ (fun _ _ g=>by obtain⟨j,e,q⟩:=g;exact⟨j,e,k _ _ q⟩) q,(Kb E G t.pa I).imp fun Y H R h=>by obtain⟨U,O,st,q⟩:=h;exact 
  ⟨U,O,st,t.mn _ _ _ (fun ds U1 l vs J L u M N=>by
   obtain⟨es,e,w⟩:=l;subst e;cases N with
   |cons d r=>
    cases r;obtain⟨a,o,rfl,Q,hd⟩:=d.lst_inv;obtain⟨m,z⟩:=cT Q;refine⟨a,o,rfl,.of m,w _ J L u M fun O' H' s ok=>?_⟩;have h2:=s.keep a _ z m;have A:=aG.mono s.hid hd;refine⟨fun i d e=>?_,⟨o,.of h2,by unfold numbered;rw[List.length_mapIdx,hd.length];exact bb _⟩⟩;unfold numbered at e;rw[List.getElem?_mapIdx]at e;obtain⟨d0,S,Z⟩:=Option.map_eq_some_iff.mp e;subst Z;obtain⟨v,C,dv⟩:=A.get S;refine⟨⟨o,v,.of h2,C⟩,fun x a0 n=>?_⟩;obtain⟨T,y,w,B,q3,q4⟩:=n;subst w q3;have:=q4 o (.of h2);rw[C]at this;cases this;exact⟨bS B,jW B (ok.nofree T B) (.cons (.int _) (.cons dv .nil))⟩) q⟩⟩
noncomputable def cn(d c:List PyData):List PyData:=(d.zip c).map fun q=>PyData.tuple [q.1,q.2]
def LZ(s:ej)(g:ez)(c:cX):cX:=fun D U=>s U fun a e=>∃b:Nat->ak->Prop,b 0 e/\(∀i d U,a[i]? = some d->b i U->g d U fun f=>c { D with nx:=b (i+1),ct:=b (i+1),bk:=D.nx } f)/\∀U,b a.length U->D.nx U
theorem Ma(hp:PassesOwn (model X.prog X.w) X.A X.env X.xe)(hc:X.calm=true)(hi:DI X F tg iter s)(hg:DG X F tg g)(hb:gw X F body tb)(hs:autoParam (∀x,foldedSetIterable iter X.env x=pure x) Zs._auto_1):DS X F (.For tg iter body [] pos) (LZ s g tb):=
 (HG hp hc hi.pi hg.pg hb hs).imp fun D Y H y=>by
  obtain⟨U,O,DD,st,q,f⟩:=y;refine⟨U,O,st,hi.mn _ _ _ (fun a U1 z J N B R S wk=>?_) q⟩;obtain⟨Q,i0,step,fin⟩:=z;refine⟨fun i m T C=>∃l u,aB X.K F C T l u/\aP B N u C/\Q i l/\i<=a.length/\m=a.length - i,⟨a.length,U1,B,R,.refl,i0,Nat.zero_le _,rfl⟩,?_⟩;rintro i m T C ⟨l,u,n,Z,iv,a4,rfl⟩;obtain⟨w1,w2⟩:=wk u C Z n.live
  by_cases o:i<a.length
  .obtain⟨go,yld⟩:=w1 i a[i] (List.getElem?_eq_getElem o);refine .inr ⟨go,fun Y2 E=>∃c p,aB X.K F E Y2 c p/\aP B N p E/\Q (i+1) c,fun Y2 E G=>by obtain⟨c,p,a0,s2,a1⟩:=G;exact⟨a.length - (i+1),by lia,c,p,a0,s2,a1,o,rfl⟩,fun x E hy=>?_⟩;obtain⟨sm,dv⟩:=yld x E hy;refine⟨l,u,a[i],n.grow sm,dv,hg.mn _ _ _ _ (fun c q2 Y3 H3 O3 a2 s3=>?_) (step i a[i] l (List.getElem?_eq_getElem o) iv)⟩;have r:aP B N O3 H3:=Z.trans ((aP.same sm).trans s3);have I:∀t h j k,aB X.K F h t j k->aP O3 H3 k h->Q (i+1) j->∃c p,aB X.K F h t c p/\aP B N p h/\Q (i+1) c:=fun t h j k b L M=>⟨j,k,b,r.trans L,M⟩
   exact⟨c,O3,_,a2,q2,⟨I,fun v t h d j k a3 b L M=>f.rt v t h d j k a3 b (S.trans (r.trans L)) M,fun t h j k b L M=>f.nx t h j k b (S.trans (r.trans L)) M,I⟩⟩
  .have e:i=a.length:=by lia
   subst e;exact .inl ⟨w2,f.nx T C l u n (S.trans Z) (fin l iv)⟩
def Mb(c:cH)(f:cX):cX:=fun D U=>∃(d:ak->Prop) (μ:ak->Nat),d U/\∀U,d U->c U fun b e=>if b=true then f { D with nx:=fun a=>d a/\μ a<μ U,ct:=fun a=>d a/\μ a<μ U,bk:=D.nx } e else D.nx e
theorem Mc(R:PassesOwn (model X.prog X.w) X.A X.env X.xe)(J:DB X F c tc)(hb:gw X F body tb):DS X F (.While c body [] pos) (Mb tc tb):=
 (Ht R J.pt hb).imp fun D Y H n=>by
  obtain⟨U,O,DD,st,⟨t,μ,S,step⟩,f⟩:=n;refine⟨fun m L z=>∃g u,aB X.K F z L g u/\aP O H u z/\t g/\m=μ g,⟨μ U,U,O,st,.refl,S,rfl⟩,?_⟩;rintro m L z ⟨g,u,B,x,T,rfl⟩;refine⟨g,u,B,J.mn _ _ _ (fun b Z M H1 N o y=>?_) (step g T)⟩;cases b with
  |false=>exact eh (f.nx _ _ _ _ o (x.trans y) (jm M))
  |true=>
   refine ei ⟨fun Q C=>∃e k,aB X.K F C Q e k/\aP O H k C/\t e/\μ e<μ g,fun Q C p=>by obtain⟨e,k,E,s2,G,lt⟩:=p;exact⟨μ e,lt,e,k,E,s2,G,rfl⟩,?_⟩;have q:∀l h i j,aB X.K F h l i j->aP N H1 j h->(t i/\μ i<μ g)->∃e k,aB X.K F h l e k/\aP O H k h/\t e/\μ e<μ g:=fun l h i j a r s=>⟨i,j,a,x.trans (y.trans r),s⟩
   exact⟨Z,N,_,o,jl M,⟨q,fun v l h d i j I a r s=>f.rt v l h d i j I a (x.trans (y.trans r)) s,fun l h i j a r s=>f.nx l h i j a (x.trans (y.trans r)) s,q⟩⟩
@[simp]noncomputable def yZ:Option (Option ab)->Option ab
 |some (some (.dat d))=>some (.dat d)
 |some (some (.scr ns))=>some (.scr ns)
 |some (some (.vw b))=>some (.vw b)
 |_=>none
def fV(own:List Str)(a:List Nat)(U:ak):ak:=own.map (fun _=>none)++a.map fun j=>yZ U[j]?
def on(own:List Str)(f:List Nat)(s:ej)(g:ez)(l:cH)(m:DT):DT:=fun U Q=>s U fun c j=>∃e:Nat->List PyData->ak->Prop,e 0 [] (fV own f j)/\
 (∀i d a h,c[i]? = some d->e i a h->g d h fun n=>l n fun b k=>if b=true then m k fun y o=>a.length<sizeLine/\e (i+1) (a++[y]) o else e (i+1) a k)/\
 ∀a h,e c.length a h->a.length<=sizeLine/\Q (.list a) j
def lW(s:ej):Prop:=∀U Q a,(∀d b,Q d b->a d b)->s U Q->s U a
theorem uM(d:lW s):Mn (on own caps s g tc te):=fun _ _ _ k q=>d _ _ _ (fun _ _ a=>by obtain⟨e,f,h1,h2⟩:=a;exact⟨e,f,h1,fun b c h=>⟨(h2 b c h).1,k _ _ (h2 b c h).2⟩⟩) q
theorem za{K:Frag}{Z:Fx->Prop}(hP:∀u Y w k O2,aB K F u Y w k->Z ⟨u,[],O2,fun _=>0⟩)(hs:lW s)(hg:∀d U Q Q',(∀n,Q n->Q' n)->g d U Q->g d U Q')(ht:jn tc)(he:Mn te):∀Y  H  Q,(∃U O,aB K F H Y U O/\s U fun f w=>∃G:Nat->List PyData->ak->Prop,G 0 [] (fV own caps w)/\
   (∀i d r n,f[i]? = some d->G i r n->g d n fun U2=>tc U2 fun b L=>if b=true then te L fun y U4=>r.length<sizeLine/\G (i+1) (r++[y]) U4 else G (i+1) r L)/\
   ∀r n,G f.length r n->r.length<=sizeLine/\∀t A vs p,aB K F t Y w A->aP O H A t->aG (aq A t) vs r->t p=none->Q (.ref p) (aI t p (.lst vs)))->
  kX own caps (qE K F s) (fun v Y H Q=>∃D,Z D/\oi K D g v Y H Q) (fun Y H Q=>∃D,Z D/\jX K D tc Y H Q) (fun Y H Q=>∃D,Z D/\gF K D te Y H Q) Y H Q:=fun Y H Q M=>by
 obtain⟨U,O,st,q⟩:=M;refine⟨U,O,st,hs _ _ _ (fun f w N J u k l s1 wk=>?_) q⟩;obtain⟨G,i0,step,fin⟩:=N;refine⟨fun i m r Y' t=>∃n A E,aB K ⟨u,[],k,fun _=>0⟩ t Y' n A/\G i E n/\aG (aq A t) r E/\i<=f.length/\m=f.length - i,⟨f.length,fV own caps w,k,[],?_,i0,.nil,Nat.zero_le _,rfl⟩,?_⟩
 .have cell:∀(i:Nat) (c:ab),(fV own caps w)[i]? = some (some c)->(∀io b,c≠.own io b)/\∃v,(fL own caps Y)[i]? = some (some v)/\dL K u k v c []:=fun i c e=>by
   unfold fV at e;unfold fL
   by_cases hi:i<own.length
   .rw[List.getElem?_append_left (by simpa using hi),List.getElem?_map]at e;cases h:own[i]? with
    |none=>rw[h]at e;cases e
    |some y=>rw[h]at e;cases e
   .rw[List.getElem?_append_right (by simpa using Nat.le_of_not_lt hi),List.length_map,List.getElem?_map]at e;rw[List.getElem?_append_right (by simpa using Nat.le_of_not_lt hi),List.length_map,List.getElem?_map];obtain⟨j,h1,h2⟩:=Option.map_eq_some_iff.mp e;rw[h1];show _/\∃v,some ((Y[j]?).getD none)=some (some v)/\_;cases h3:w[j]? with
    |none=>rw[h3]at h2;cases h2
    |some o=>
     cases o with
     |none=>rw[h3]at h2;cases h2
     |some c'=>
      rw[h3]at h2;obtain⟨W,I,rfl⟩:=id l;obtain⟨v,fp,e1,_,R⟩:=I.at_ j c' h3;rw[e1];cases c' with
      |dat d=>cases h2;exact⟨(fun _ _ z=>by cases z),v,rfl,R⟩
      |scr ns=>cases h2;exact⟨(fun _ _ z=>by cases z),v,rfl,R⟩
      |own _ _=>cases h2
      |exc _=>cases h2
      |vw b=>cases h2;exact⟨(fun _ _ z=>by cases z),v,rfl,R⟩
  obtain⟨W,I,a0⟩:=id l;have ln:(fV own caps w).length=(fL own caps Y).length:=by unfold fV fL;simp
  have fl:(List.replicate (fV own caps w).length ([]:List Addr)).flatten++k=k:=by rw[om];rfl
  refine⟨List.replicate (fV own caps w).length [],⟨fun i c e=>?_,by show(_++k).Nodup;rw[fl,a0];exact I.nd,fun _ _ _ h=>h,fun a h=>?_,by show lb u (_++k);rw[fl];exact l.live,ln,by simp,fun i b e=>absurd rfl ((cell i _ e).1 true b)⟩,fl.symm⟩
  .obtain⟨_,v,e1,R⟩:=cell i c e;refine⟨v,[],e1,?_,by show dL K u (_++k) v c [];rw[fl];exact R⟩;rw[List.getElem?_replicate,if_pos (List.getElem?_eq_some_iff.mp e).1]
  .rw[om]at h;cases h
 .rintro i m r Y' t ⟨n,A,E,B,iv,dv,hi,rfl⟩;have sm:bR u t:=fun b o e=>by obtain⟨W',h',_⟩:=id B;exact h'.kept b o (by simp) e
  have a1:aP k u A t:=⟨fun b o _ e=>sm b o e,fun a h=>by
   obtain⟨W',h',rfl⟩:=id B;rcases List.mem_append.mp h with h |h
   .exact(h'.new a h).elim (fun z=>absurd z (by simp)) .inr
   .exact .inl h⟩
  have S:∀a∈k,a∈A:=fun a h=>by obtain⟨W',h',rfl⟩:=id B;exact bu _ h
  obtain⟨w1,w2⟩:=wk A t a1 B.live
  by_cases C:i<f.length
  .obtain⟨go,yld⟩:=w1 i f[i] (List.getElem?_eq_getElem C);refine .inr ⟨go,fun x H2 hy=>?_⟩;obtain⟨T,dx⟩:=yld x H2 hy;refine⟨⟨u,[],k,fun _=>0⟩,hP _ _ _ _ _ l,n,A,f[i],B.grow T,dx,hg _ _ _ _ (fun U2 q2 Y3 H3 O3 a2 s3=>?_) (step i f[i] E n (List.getElem?_eq_getElem C) iv)⟩;refine⟨⟨u,[],k,fun _=>0⟩,hP _ _ _ _ _ l,U2,O3,a2,ht _ _ _ (fun b L q3 H4 O4 X s4=>?_) q2⟩;have d4:aG (aq O4 H4) r E:=aG.mono s4.hid (aG.mono s3.hid (aG.mono (lS T) dv));cases b with
   |false=>exact eh ⟨f.length - (i+1),by lia,L,O4,E,X,jm q3,d4,C,rfl⟩
   |true=>refine ei ⟨⟨u,[],k,fun _=>0⟩,hP _ _ _ _ _ l,L,O4,X,he _ _ _ (fun y U4 q4 v H5 O5 a3 s5 dy=>?_) (jl q3)⟩;refine⟨by rw[d4.length];exact q4.1,f.length - (i+1),by lia,U4,O5,E++[y],a3,q4.2,(aG.mono s5.hid d4).append (.cons dy .nil),C,rfl⟩
  .have e:i=f.length:=by lia
   subst e;obtain⟨hz,q⟩:=fin E n iv;exact .inl ⟨w2,by rw[dv.length];exact hz,fun p hp=>q t k r p (l.grow sm) (s1.trans (.same sm)) (aG.mono (yw S) dv) hp⟩
theorem zb{K:Frag}{i:Fx->Prop}(t:∀k Y l u w,aB K F k Y l u->i ⟨k,[],w,fun _=>0⟩)(m:lW s)(x:∀d U Q n,(∀c,Q c->n c)->g d U Q->g d U n)(y:jn tc)(A:Mn te):∀Y H Q,gF K F (on own caps s g tc te) Y H Q->
  kX own caps (qE K F s) (fun v Y H Q=>∃a,i a/\oi K a g v Y H Q) (fun Y H Q=>∃a,i a/\jX K a tc Y H Q) (fun Y H Q=>∃a,i a/\gF K a te Y H Q) Y H Q:=fun Y H Q z=>by
 obtain⟨U,O,st,q⟩:=z;refine za t m x y A Y H Q ⟨U,O,st,m _ _ _ (fun B l z=>?_) q⟩;obtain⟨C,D,step,fin⟩:=z;exact⟨C,D,step,fun r c h=>⟨(fin r c h).1,fun J E vs p f G I j=>(fin r c h).2 (.ref p) _ E (f.grow fun b o e=>bS j _ _ e) (G.trans (.same fun b o e=>bS j _ _ e)) (jV j (f.nofree p j) I)⟩⟩
def lZ(X:Cx)(F:Fx)(a:List Expr)(t:cH):Prop:=jn t/\lQ X a (jX X.K F t)
def Md:cH:=fun U Q=>Q true U
theorem Me:lZ X F [] Md:=⟨fun _ _ _ k q=>k _ _ q,fun a s Y H Q I b=>by obtain⟨U,O,st,q⟩:=b;exact JG a s Y H Q I (q H O st .refl)⟩
theorem Mf(h:DB X F c t):lZ X F [c] t:=⟨h.mn,JH h.pt⟩
theorem Mg(k:GF X.mg F)(S:af X scope own capN caps)(l:X.calm=true)(j:DI X F tg iter s)
  (c:∀C d e f h b,GF X.mg b->DG (bX X scope (own++capN) C d e f h) b tg g/\lZ (bX X scope (own++capN) C d e f h) b ifs tc/\DE (bX X scope (own++capN) C d e f h) b elt te)
  (m:autoParam (∀x,foldedSetIterable iter X.env x=pure x) Zs._auto_1):DE X F (.ListComp elt [⟨tg,iter,ifs,0⟩] scope pos) (on own caps s g tc te):=by
 have t:Fx:=F;obtain⟨n,o,p⟩:=c 0 [] (PySem.start X.prog).1 (fun _=>none) [] F k;refine⟨uM j.mn,(ux S l j.pi (fun C d e f h=>⟨fun a s Y H v u Q I r ⟨b,i,q⟩=>(c C d e f h b i).1.pg a s Y H v u Q I r q,fun a s Y H Q I ⟨b,i,q⟩=>(c C d e f h b i).2.1.2 a s Y H Q I q,fun a s Y H Q I ⟨b,i,q⟩=>(c C d e f h b i).2.2.pe a s Y H Q I q⟩) m).imp (zb (fun _ _ _ _ _ st=>k.into st) j.mn n.mn o.1 p.mn)⟩
theorem Mh{e}(z:X.N.Nodup)(n:X.N[i]? = some y)(A:Loc X.env.scope y)(w:GF X.mg F)(S:af X scope own capN caps)(B:X.calm=true)(o:DI X F tg iter s)
  (c:∀C h j k l b,GF X.mg b->DG (bX X scope (own++capN) C h j k l) b tg g/\lZ (bX X scope (own++capN) C h j k l) b ifs tc/\DE (bX X scope (own++capN) C h j k l) b elt te)
  (p:autoParam (swapsWith (.ListComp elt [⟨tg,iter,ifs,0⟩] scope pos) (some (.Name y py)) e.line X.env=pure true) Zq._auto_1)
  (E:autoParam (∀x,foldedSetIterable iter X.env x=pure x) Zs._auto_1) (G:X.fn y=true\/X.env.scope.names.lookup y=some .local:=by first |exact .inl rfl |exact .inr rfl |assumption) :
  DS X F (.Assign [.Name y py] (.ListComp elt [⟨tg,iter,ifs,0⟩] scope pos) e) (qD (on own caps s g tc te) (gN i)):=by
 obtain⟨J,L,M⟩:=c 0 [] (PySem.start X.prog).1 (fun _=>none) [] F w;refine(JI z n A S B o.pi (fun C h j k l=>⟨fun a s Y H v u Q I r ⟨b,m,q⟩=>(c C h j k l b m).1.pg a s Y H v u Q I r q,fun a s Y H Q I ⟨b,m,q⟩=>(c C h j k l b m).2.1.2 a s Y H Q I q,fun a s Y H Q I ⟨b,m,q⟩=>(c C h j k l b m).2.2.pe a s Y H Q I q⟩) p E G).imp
  fun D Y H ⟨U,O,DD,st,q,f⟩=>zb (fun _ _ _ _ _ st=>w.into st) o.mn J.mn L.1 M.mn Y H _ ⟨U,O,st,uM o.mn _ _ _ (fun d U1 R v T Z t s1 d1=>f.nx _ T _ Z (t.set d1) s1 R) q⟩
end L2.L3
namespace L2
open PySem PySem.Spec PyProof.Rows
theorem Inv.track{Y:St}(I:Inv X pins Y H s)(f:gC X pins H a)(new:cz X.prog X.w (aI H a o) s.heap a o):Inv X pins Y (aI H a o) s:=by
 have g:=f.1;refine I.step (h':=s.heap) (g':=s.gens) (d':=s.drawn) (t':=s.toks) (ch:=[a]) (fun b h=>by obtain rfl:=List.mem_singleton.mp h;exact⟨f.2.2.2.1,f.2.1,f.2.2.2.2.1,f.2.2.2.2.2⟩) (fun b d _ _ _ e _=>e) (fun b d _ _ _ e _=>⟨d.slots,e⟩)
  (fun b d i _ n=>by rw[bv (fun z=>i (by simp[z]))];exact n) (fun b d _ e=>⟨d,e⟩) (fun b j e=>bS g b _ e) (fun b d u e=>bS g b _ e) (fun b l e=>⟨#[],by rw[bS g b _ e];simp⟩) (fun m k=>k) (fun b u e=>?_) I.bare
 by_cases h:b=a
 .subst h;rw[cK]at e;cases e;exact new
 .rw[bv h]at e;exact(I.hok b u e).stay (fun _ _ _ q=>q) (fun c q=>bS g c _ q) fun c j q=>bS g c _ q
theorem vals3(r:bi [x,y,z] a):∃u v w,a=[u,v,w]/\bf x u/\bf y v/\bf z w:=by
 cases r with
 |cons b r=>cases r with
  |cons c r=>cases r with
   |cons d r=>cases r;exact⟨_,_,_,rfl,b,c,d⟩
def Mi(t:TA):TE:=fun Y H Q=>t Y H fun vs d=>∃k l m e g h,vs=[.ref k,.ref l,.ref m]/\d k=some (.lst e)/\d l=some (.lst g)/\d m=some (.lst h)/\g.length=e.length/\h.length=e.length/\0<e.length/\
 ∀p f (j:List Addr),bR d f->d p=none->f p=some (.lst (j.map V.ref))->j.length=e.length->(∀(i:Nat) (q:Addr),j[i]? = some q->∃x y z,e[i]? = some x/\g[i]? = some y/\h[i]? = some z/\d q=none/\f q=some (.tup [x,y,z]))->Q (.ref p) f
theorem zc:∀{acc},(∀(j:Nat)  w,acc[j]? = some w->∃T,w=Value.ref T)->∃d:List Addr,acc=d.map Value.ref
 |[],_=>⟨[],rfl⟩
 |v::r,h=>by obtain⟨T,e⟩:=h 0 v rfl;obtain⟨d,f⟩:=zc (acc:=r) fun j w e=>h (j+1) w (by simpa using e);exact⟨T::d,by rw[f,e];rfl⟩
theorem Mj(t:qr h n f g i d):∃k:List Addr,d=k.map Value.ref:=
 zc fun j w e=>by obtain⟨T,_,_,_,e,_⟩:=t j w e;exact⟨T,e⟩
theorem Ml{pos:Pos}{p1:Pos}(hc:X.calm=true)(c2:Gl X "list")(c3:X.mg "list" = none)(c4:Gl X "zip")(c5:X.mg "zip" = none)(ha:PA X [a,b,c] t)
  (he:autoParam (starEach [.Call (.Name "zip" p2) [a,b,c] [] pos2] X.env=[(false,eval (.Call (.Name "zip" p2) [a,b,c] [] pos2) X.env)]) Zq._auto_1)
  (hs:autoParam (starEach [a,b,c] X.env=(false,eval a X.env)::starEach [b,c] X.env) Zq._auto_1) (c6:autoParam ((backTo pos2 (starEach [b,c] X.env)).any (·.1)=false) Zq._auto_1) :
  PE X (.Call (.Name "list" p1) [.Call (.Name "zip" p2) [a,b,c] [] pos2] [] pos) (Mi t):=by
 intro g s Y H Q I h;refine wpAny_Call_Name_kw (iw I c2 c3 (show bootBuiltins "list" = some (.type "list") by decide +kernel) ?_ (by decide) (by decide));refine PyProof.Rows.callWith_type1 ?_ (by rw[he];rfl) rfl;rw[he];show wpAny _ _ (spliced [(false,eval (.Call (.Name "zip" p2) [a,b,c] [] pos2) X.env)]) _ _ s;refine Calls.spliced_cons ?_;refine wpAny_Call_Name_kw (iw I c4 c5 boot_zip ?_ (by decide) (by decide));refine PyProof.Rows.callWith_type1 (aN (ha pos2 g s Y H _ I h) fun us d U=>?_) hs c6;obtain⟨vs,B,I1,r1,q1⟩:=U;obtain⟨l1,l2,l3,A,R,S,rfl,h1,N,h3,e2,e3,e6,q⟩:=q1;obtain⟨u1,u2,u3,rfl,c7,c8,c9⟩:=vals3 r1;cases c7;cases c8;cases c9;obtain⟨z1,Z,n1,a0,g1⟩:=I1.hok _ _ h1;obtain⟨z2,a6,n2,a7,g2⟩:=I1.hok _ _ N;obtain⟨z3,a8,n3,a9,g3⟩:=I1.hok _ _ h3;have L1:d.heap.IsList l1 Z.toArray:=⟨_,g1,rfl,_,rfl⟩
 have b0:d.heap.IsList l2 a6.toArray:=⟨_,g2,rfl,_,rfl⟩
 have b1:d.heap.IsList l3 a8.toArray:=⟨_,g3,rfl,_,rfl⟩
 have b2:=a0.length;have e7:=a7.length;have e8:=a9.length;refine JS L1 b0 b1 fun v hz d0 d1 vj d2 d3 d4 hk=>?_;refine Calls.spliced_nil ?_;have b3:l1<d.heap.objs.size:=bj g1;have b4:l2<d.heap.objs.size:=bj g2;have b5:l3<d.heap.objs.size:=bj g3;have nd:[d.heap.objs.size+5,d.heap.objs.size+3,d.heap.objs.size+4,d.heap.objs.size,d.heap.objs.size+1,d.heap.objs.size+2].Nodup:=by generalize d.heap.objs.size=n;simp only[List.nodup_cons,List.mem_cons,List.not_mem_nil,or_false,not_or,not_false_eq_true,and_true,List.nodup_nil];refine⟨⟨?_,?_,?_,?_,?_⟩,⟨?_,?_,?_,?_⟩,⟨?_,?_,?_⟩,⟨?_,?_⟩,?_⟩<;>exact(by intro e;exact absurd (show(_:Nat)=_ from e) (by lia))
 have ge:∀j∈[d.heap.objs.size+5,d.heap.objs.size+3,d.heap.objs.size+4,d.heap.objs.size,d.heap.objs.size+1,d.heap.objs.size+2],d.heap.objs.size<=j:=fun j w=>by
  simp only[List.mem_cons,List.not_mem_nil,or_false]at w;rcases w with rfl |rfl |rfl |rfl |rfl |rfl
  .exact Nat.le_add_right _ _
  .exact Nat.le_add_right _ _
  .exact Nat.le_add_right _ _
  .exact bb _
  .exact Nat.le_add_right _ _
  .exact Nat.le_add_right _ _
 have I2:Inv X g Y B { d with heap:=v }:=I1.kept (t':=d.toks) hk;refine JT (s:={ d with heap:=v }) (I1.ok.hd hc) nd (fun l hl j w=>?_) (fun j w=>?_) hz d0 d1 vj d2 d3 (L1.at fun o e=>hk _ _ e) (b0.at fun o e=>hk _ _ e) (b1.at fun o e=>hk _ _ e)
  (by simp only[List.size_toArray];lia) (by simp only[List.size_toArray];lia) (by simp only[List.size_toArray];lia) (by simp only[List.size_toArray];lia) fun N e9 cc ox hS hl tr=>?_
 .simp only[List.mem_cons,List.not_mem_nil,or_false]at hl;rcases hl with rfl |rfl |rfl
  .exact Nat.ne_of_lt (Nat.lt_of_lt_of_le b3 (ge j w))
  .exact Nat.ne_of_lt (Nat.lt_of_lt_of_le b4 (ge j w))
  .exact Nat.ne_of_lt (Nat.lt_of_lt_of_le b5 (ge j w))
 .show j<v.objs.size;rw[d4];simp only[List.mem_cons,List.not_mem_nil,or_false]at w;generalize d.heap.objs.size=n at *;rcases w with rfl |rfl |rfl |rfl |rfl |rfl |rfl |rfl |rfl
  .exact Nat.lt_succ_self _
  .exact Nat.add_lt_add_left (show(3:Nat)<6 by decide) _
  .exact Nat.add_lt_add_left (show(4:Nat)<6 by decide) _
  .exact Nat.lt_add_of_pos_right (by decide)
  .exact Nat.add_lt_add_left (show(1:Nat)<6 by decide) _
  .exact Nat.add_lt_add_left (show(2:Nat)<6 by decide) _
  .exact Nat.lt_of_lt_of_le b3 (Nat.le_add_right _ _)
  .exact Nat.lt_of_lt_of_le b4 (Nat.le_add_right _ _)
  .exact Nat.lt_of_lt_of_le b5 (Nat.le_add_right _ _)
 .
  have kp:∀b ob,d.heap.get? b=some ob->N.get? b=some ob:=fun b ob e=>ox b ob (fun z=>absurd (ge b (by
   simp only[List.mem_cons,List.not_mem_nil,or_false]at z ⊢;rcases z with z |z |z |z |z<;>simp[z])) (Nat.not_le.mpr (bj e))) (hk b ob e)
  have I3:Inv X g Y B { d with heap:=N }:=I1.kept (t':=d.toks) kp;obtain⟨f,C⟩:=Mj tr;have big:∀b,v.objs.size<=b->gC X g B b:=fun b O=>I2.fpOk O (I2.hok.fresh O);have D:f.length=A.length:=by have:=congrArg List.length C;rw[List.length_map]at this;rw[<-this,hl,List.size_toArray];exact b2.symm
  have vq:∀f:List Addr,bi (f.map V.ref) (f.map Value.ref):=fun f=>by
   induction f with
   |nil=>exact .nil
   |cons q r ih=>exact .cons rfl ih
  have I4:Inv X g Y (aI B v.objs.size (.lst (f.map V.ref))) { d with heap:=N }:=I3.track (big _ (bb _)) ⟨by rw[List.length_map,D];exact z1,_,_,vq f,by rw[<-C];exact hS⟩;have all:∀k,k<=f.length->∃u,bR B u/\Inv X g Y u { d with heap:=N }/\u v.objs.size=some (.lst (f.map V.ref))/\(∀b,v.objs.size<b->u b=none\/∃row,u b=some (.tup row))/\
    ∀(i:Nat) (q:Addr),i<k->f[i]? = some q->∃x y z,A[i]? = some x/\R[i]? = some y/\S[i]? = some z/\B q=none/\u q=some (.tup [x,y,z]):=fun k=>by
   induction k with
   |zero=>exact fun _=>⟨_,bS (big _ (bb _)).1,I4,cK,fun b O=>.inl (by rw[bv (Nat.ne_of_gt O)];exact(big b (Nat.le_of_lt O)).1),fun i q h=>absurd h (Nat.not_lt_zero _)⟩
   |succ k ih=>
    intro b6;obtain⟨u,sm,J,hp,E,m⟩:=ih (Nat.le_of_succ_le b6);have b7:k<f.length:=b6;have G:f[k]? = some f[k]:=List.getElem?_eq_getElem b7;obtain⟨T,x',y',u',eT,hT,b8,ex,ey,eu⟩:=tr k (.ref f[k]) (by rw[C,List.getElem?_map,G];rfl);cases eT;have p:v.objs.size<f[k]:=hT;have kx:k<A.length:=by rw[<-D];exact b7
    have vx:A[k]? = some A[k]:=List.getElem?_eq_getElem kx;have vy:R[k]? = some (R[k]'(by lia)):=List.getElem?_eq_getElem (by lia);have vz:S[k]? = some (S[k]'(by lia)):=List.getElem?_eq_getElem (by lia);obtain⟨w1,d5,d6⟩:=a0.get vx;obtain⟨w2,d7,d8⟩:=a7.get vy;obtain⟨w3,d9,e0⟩:=a9.get vz;have e1:x' = w1:=by simp only[List.getElem?_toArray]at ex;rw[d5]at ex;exact(Option.some.inj ex).symm
    have e4:y' = w2:=by simp only[List.getElem?_toArray]at ey;rw[d7]at ey;exact(Option.some.inj ey).symm
    have e5:u' = w3:=by simp only[List.getElem?_toArray]at eu;rw[d9]at eu;exact(Option.some.inj eu).symm
    subst e1 e4 e5;have rel:bi [A[k],R[k]'(by lia),S[k]'(by lia)] [x',y',u']:=.cons d6 (.cons d8 (.cons e0 .nil));have b9:B f[k]=none:=(big _ (Nat.le_of_lt p)).1;rcases E f[k] p with hn |⟨row,hr⟩
    .refine⟨aI u f[k] (.tup [A[k],R[k]'(by lia),S[k]'(by lia)]),fun b o e=>bS hn _ _ (sm b o e),J.track ⟨hn,(big _ (Nat.le_of_lt p)).2⟩ ⟨by show 3<=sizeLine;decide,_,rel,⟨_,b8,rfl,_,rfl⟩⟩,
      by rw[bv (Nat.ne_of_lt p)];exact hp,fun b O=>?_,fun i q L M=>?_⟩
     .by_cases e:b=f[k]
      .subst e;exact .inr ⟨_,cK⟩
      .rw[bv e];exact E b O
     .rcases Nat.lt_succ_iff_lt_or_eq.mp L with L |rfl
      .obtain⟨x,y,z,a1,a2,a3,a4,a5⟩:=m i q L M;exact⟨x,y,z,a1,a2,a3,a4,bS hn _ _ a5⟩
      .rw[G]at M;cases M;exact⟨_,_,_,vx,vy,vz,b9,cK⟩
    .have same:row=[A[k],R[k]'(by lia),S[k]'(by lia)]:=by
      obtain⟨_,c0,rv,o,eo,co,n,dn⟩:=J.hok _ _ hr;have c1:N.get? f[k]=some o:=eo;rw[b8]at c1;cases c1;have d':(#[x',y',u']:Array Value)=c0.toArray:=by injection dn
      have:c0=[x',y',u']:=by have:=congrArg Array.toList d';simpa using this.symm
      subst this;exact rv.inj rel
     refine⟨u,sm,J,hp,E,fun i q L M=>?_⟩;rcases Nat.lt_succ_iff_lt_or_eq.mp L with L |rfl
     .exact m i q L M
     .rw[G]at M;cases M;exact⟨_,_,_,vx,vy,vz,b9,by rw[hr,same]⟩
  obtain⟨u,sm,J,hp,_,m⟩:=all f.length (bb _);exact⟨.ref v.objs.size,u,J,rfl,q v.objs.size u f sm (big _ (bb _)).1 hp D fun i qq e=>m i qq (List.getElem?_eq_some_iff.mp e).1 e⟩
theorem Mm(E:X.calm=true):gr X (.builtin "all") (fun p H Q=>∃(l:Addr) (bs:List Bool),p=[.ref l]/\H l=some (.lst (bs.map V.bl))/\Q (.bl (bs.all id)) H):=by
 intro y s Y H p U Q I r h;obtain⟨l,bs,rfl,G,q⟩:=h;obtain⟨u,rfl,ru⟩:=vals1 r;cases ru;obtain⟨z,d,n,B,e⟩:=I.hok _ _ G;have L:s.heap.IsList l d.toArray:=⟨_,e,rfl,_,rfl⟩
 have f:l<s.heap.objs.size:=bj e;have len:=B.length;rw[List.length_map]at len;refine call_all_walk (wpAny_pyIter_list L ?_);refine⟨s.heap.objs.size,_,_,_,_,_,fun i=>bs.getD i true,rfl,Walks.list (A:=X.A.in1) (show X.A.in1.handled=none from I.ok.hd E) s.heap.objs.size l (Nat.ne_of_lt f) d.toArray,⟨⟨_,Heap.get?_push_size _ rfl,rfl,rfl⟩,L.push _⟩,?_,fun Z tk J=>?_⟩
 .intro i v M N E' O k;have g:d[i]? = some v:=by simpa using O
  have f:i<bs.length:=by rw[len];exact(List.getElem?_eq_some_iff.mp g).1
  obtain⟨w,C,m⟩:=B.get (i:=i) (x:=.bl bs[i]) (by rw[List.getElem?_map,List.getElem?_eq_getElem f];rfl);rw[g]at C;cases C;cases m;refine wpAny_truthy_bool ?_;have:bs.getD i true=bs[i]:=by simp[List.getD,f]
  have k:N (bs.getD i true) M:=k;rw[this]at k;exact k
 .have R:(List.range d.toArray.size).all (fun i=>bs.getD i true)=bs.all id:=by
   rw[List.size_toArray,<-len];rw[Bool.eq_iff_iff,List.all_eq_true,List.all_eq_true];constructor
   .intro h b T;obtain⟨i,g,rfl⟩:=List.getElem_of_mem T;have:=h i (List.mem_range.mpr g);simpa[List.getD,g] using this
   .intro h i g;have j:=List.mem_range.mp g;have:=h bs[i] (List.getElem_mem j);simpa[List.getD,j] using this
  rw[R];exact⟨.bl (bs.all id),H,I.kept fun b o D=>J b o (fun S=>absurd (bj D) (by rw[List.mem_singleton.mp S];exact Nat.lt_irrefl _)) (aS _ D),rfl,q⟩
end L2
namespace L2.L3
open PySem PySem.Spec PyProof.Rows
def ze:DN:=fun b Q=>∃a,(b=[.list a]\/b=[.tuple a])/\Q (.int a.length)
theorem ka{K}:iF (fun xs H Q=>∃p ys,xs=[.ref p]/\(cE K H p ys\/cZ K H p ys)/\Q (.int ys.length) H) ze where
 mn:=fun _ _ _ k ⟨ds,e,q⟩=>⟨ds,e,k _ q⟩
 ok:=fun O H vs xs Q hO hd ⟨ds,e,q⟩=>by
  rcases e with rfl |rfl
  .cases hd with
   |cons d r=>cases r;obtain⟨a,ys,rfl,ha,hy⟩:=d.lst_inv;exact⟨a,ys,rfl,.inl (.of (cT ha).1),by rw[hy.length];exact q _ H (fun _ _ h=>h) (.int _)⟩
  .cases hd with
   |cons d r=>cases r;obtain⟨a,ys,rfl,ha,hy⟩:=d.tup_inv;exact⟨a,ys,rfl,.inr (.inl (fM ha).1),by rw[hy.length];exact q _ H (fun _ _ h=>h) (.int _)⟩
theorem uN(h:aG H vs [a,b]):∃x y,vs=[x,y]/\DV H x a/\DV H y b:=by cases h with |cons d r=>cases r with |cons c r=>cases r;exact⟨_,_,rfl,d,c⟩
theorem hJ(h:aG H vs [a]):∃x,vs=[x]/\DV H x a:=by cases h with |cons d r=>cases r;exact⟨_,rfl,d⟩
theorem uO(h:aG H vs [a,b,c]):∃x y z,vs=[x,y,z]/\DV H x a/\DV H y b/\DV H z c:=by cases h with |cons d r=>cases r with |cons f r=>cases r with |cons e r=>cases r;exact⟨_,_,_,rfl,d,f,e⟩
def zf:DN:=fun a Q=>∃i j:Int,a=[.int i,.int j]/\Q (.int (max i j))
theorem uP:iF (fun xs H Q=>∃i j,xs=[.int i,.int j]/\Q (.int (if j>i then j else i)) H) zf where
 mn:=fun _ _ _ k zq1a=>by obtain⟨i,j,e,q⟩:=zq1a;exact⟨i,j,e,k _ q⟩
 ok:=fun O H vs xs Q hO hd zq2a=>by
  obtain⟨i,j,e,q⟩:=zq2a;subst e;obtain⟨x,y,rfl,h1,h2⟩:=uN hd;have e:(if j>i then j else i)=max i j:=by split<;>lia
  exact⟨i,j,by rw[h1.int_inv,h2.int_inv],by rw[e];exact q _ H (fun _ _ h=>h) (.int _)⟩
def zg:DN:=fun b Q=>(∃a,b=[.list a]/\Q (.tuple a))\/∃a,b=[.tuple a]/\Q (.tuple a)
theorem Mo{K}:iF (fun xs H Q=>∃p ys,xs=[.ref p]/\((cE K H p ys/\∀l,H l=none->Q (.ref l) (aI H l (.tup ys)))\/(cZ K H p ys/\Q (.ref p) H))) zg where
 mn:=fun _ _ _ k q=>q.imp (fun⟨i,e,q⟩=>⟨i,e,k _ q⟩) fun⟨i,e,q⟩=>⟨i,e,k _ q⟩
 ok:=fun O H vs xs Q hO hd q=>by
  rcases q with⟨ds,e,q⟩ |⟨ds,e,q⟩
  .subst e;obtain⟨x,rfl,h1⟩:=hJ hd;obtain⟨a,ys,rfl,ha,hy⟩:=h1.lst_inv;exact⟨a,ys,rfl,.inl ⟨.of (cT ha).1,fun p hp=>q _ _ (bS hp) (jW hp (hO p hp) hy)⟩⟩
  .subst e;obtain⟨x,rfl,h1⟩:=hJ hd;obtain⟨a,ys,e,ha,hy⟩:=h1.tup_inv;subst e;exact⟨a,ys,rfl,.inr ⟨.inl (fM ha).1,q _ H (fun _ _ h=>h) h1⟩⟩
def zh:DN:=fun a Q=>∃bs:List Bool,a=[.list (bs.map .bool)]/\Q (.bool (bs.all id))
theorem zi:∀{bs:List Bool}{vs},aG H vs (bs.map PyData.bool)->vs=bs.map V.bl
 |[],_,h=>by cases h;rfl
 |b::r,_,h=>by
  cases h with
  |cons d q=>rw[d.bl_inv,zi q];rfl
theorem Mp:iF (fun xs H Q=>∃(l:Addr) (bs:List Bool),xs=[.ref l]/\H l=some (.lst (bs.map V.bl))/\Q (.bl (bs.all id)) H) zh where
 mn:=fun _ _ _ k ⟨bs,e,q⟩=>⟨bs,e,k _ q⟩
 ok:=fun O H vs xs Q hO hd ⟨bs,e,q⟩=>by subst e;obtain⟨x,rfl,h1⟩:=hJ hd;obtain⟨a,ys,rfl,ha,hy⟩:=h1.lst_inv;exact⟨a,bs,rfl,by rw[(cT ha).1,zi hy],q _ H (fun _ _ h=>h) (.bl _)⟩
noncomputable def oo(as bs a:List PyData):List PyData:=(as.zip (bs.zip a)).map fun q=>PyData.tuple [q.1,q.2.1,q.2.2]
def zj(t:dk):DT:=fun U Q=>t U fun c b=>∃as bs a,c=[.list as,.list bs,.list a]/\bs.length=as.length/\a.length=as.length/\0<as.length/\Q (.list (oo as bs a)) b
theorem zk:∀{H vs a},vs.length=a.length->(∀(i:Nat) v d,vs[i]? = some v->a[i]? = some d->DV H v d)->aG H vs a
 |_,[],[],_,_=>.nil
 |_,[],_::_,e,_=>by cases e
 |_,_::_,[],e,_=>by cases e
 |H,v::vs,d::a,e,h=>.cons (h 0 v d rfl rfl) (zk (by simpa using e) fun i b c f g=>h (i+1) b c (by simpa using f) (by simpa using g))
theorem Mq{pos:Pos}{p1:Pos}(hc:X.calm=true)(t:Gl X "list")(u:X.mg "list" = none)(w:Gl X "zip")(A:X.mg "zip" = none)(B:DA X F [a,b,c] tA)
  (he:autoParam (starEach [.Call (.Name "zip" p2) [a,b,c] [] pos2] X.env=[(false,eval (.Call (.Name "zip" p2) [a,b,c] [] pos2) X.env)]) Zq._auto_1)
  (hs:autoParam (starEach [a,b,c] X.env=(false,eval a X.env)::starEach [b,c] X.env) Zq._auto_1) (C:autoParam ((backTo pos2 (starEach [b,c] X.env)).any (·.1)=false) Zq._auto_1) :
  DE X F (.Call (.Name "list" p1) [.Call (.Name "zip" p2) [a,b,c] [] pos2] [] pos) (zj tA):=
 ⟨fun _ _ _ k q=>B.mn _ _ _ (fun _ _ g=>by obtain⟨x,y,z,e,h1,h2,h3,q⟩:=g;exact⟨x,y,z,e,h1,h2,h3,k _ _ q⟩) q,(Ml hc t u w A B.pa he hs C).imp fun Y H Q h=>by obtain⟨U,O,st,q⟩:=h;exact 
  ⟨U,O,st,B.mn _ _ _ (fun ds U1 j vs H1 D l s1 E=>by
   obtain⟨as,bs,cs,e,l1,l2,l3,q1⟩:=j;subst e;obtain⟨x,y,z,rfl,h1,h2,h3⟩:=uO E;obtain⟨a1,xs,rfl,G,n⟩:=h1.lst_inv;obtain⟨a2,ys,rfl,I,S⟩:=h2.lst_inv;obtain⟨a3,zs,rfl,J,T⟩:=h3.lst_inv;refine⟨a1,a2,a3,xs,ys,zs,rfl,(cT G).1,(cT I).1,(cT J).1,by rw[n.length,S.length];exact l1,by rw[n.length,T.length];exact l2,by rw[n.length];exact l3,fun p H2 qs R hp L hl o=>?_⟩;have Z:∀b,H1 b=none->b∉D:=l.nofree;refine q1 _ H2 D (l.grow R) (s1.trans (.same R)) (.lst (gW L (Z p hp)) (zk ?_ fun i v d e1 M=>?_))
   .unfold oo;rw[List.length_map,List.length_map,List.length_zip,List.length_zip,hl,n.length];lia
   .rw[List.getElem?_map]at e1;obtain⟨qq,e3,e4⟩:=Option.map_eq_some_iff.mp e1;subst e4;obtain⟨x,y,z,g1,g2,g3,g4,g5⟩:=o i qq e3;unfold oo at M;rw[List.getElem?_map]at M;obtain⟨⟨d0,E,d2⟩,e5,e6⟩:=Option.map_eq_some_iff.mp M;subst e6;obtain⟨e7,e8⟩:=List.getElem?_zip_eq_some.mp e5;obtain⟨e9,N⟩:=List.getElem?_zip_eq_some.mp e8;obtain⟨dx,k1,k2⟩:=n.get' g1;obtain⟨dy,k3,k4⟩:=S.get' g2;obtain⟨dz,k5,k6⟩:=T.get' g3;have r:as[i]? = some d0:=e7;have s:bs[i]? = some E:=e9;have f:cs[i]? = some d2:=N;rw[k1]at r;rw[k3]at s;rw[k5]at f;cases r;cases s;cases f;have m:=lS (O:=D) R;exact .tup (.inl (gW g5 (Z qq g4))) (.cons (DV.mono m k2) (.cons (DV.mono m k4) (.cons (DV.mono m k6) .nil)))) q⟩⟩
def zl(te:DT)(k:Nat):DT:=fun U Q=>te U fun d g=>∃f,d=.list f/\Q (.list (f.drop k)) g
theorem Mr{k :Nat}(o:DE X F e te):DE X F (.Subscript e (.Slice (some (.Constant (.int (k:Int)) j A)) none none s) pos) (zl te k):=
 ⟨fun _ _ _ k q=>o.mn _ _ _ (fun _ _ f=>by obtain⟨r,e,q⟩:=f;exact⟨r,e,k _ _ q⟩) q,(IM Jb o.pe (IK qa) IJ).imp fun Y H Q g=>by obtain⟨U,O,st,q⟩:=g;exact 
  ⟨U,O,st,o.mn _ _ _ (fun d B i v C t l u w=>by
   obtain⟨r,e,x⟩:=i;subst e;obtain⟨a,m,rfl,y,z⟩:=w.lst_inv;refine⟨(k:Int),rfl,a,m,rfl,.of (cT y).1,fun p n=>x _ _ t (l.grow (bS n)) (u.trans (.same (bS n))) (jV n (l.nofree p n) ?_)⟩;have:lO m (some (k:Int)) none=m.drop k:=by
    unfold lO;rw[HT.sIx_none,HT.sIx_nat]
    by_cases h:k<=m.length
    .rw[Nat.min_eq_left h,List.take_of_length_le (by rw[List.length_drop];exact bb _)]
    .rw[Nat.min_eq_right (by lia),List.drop_of_length_le (bb _),List.drop_of_length_le (by lia)];simp
   rw[this];exact z.drop k) q⟩⟩
def zm(i:Nat):DT:=fun U Q=>∃d,U[i]? = some (some (.scr d))/\(d.length<=63->Q (.int d.length) U)
theorem zn{F:Fx}{pos:Pos}{p:Pos}(n:Gl X "len")(o:X.mg "len" = none)(h:PE X (.Name x p1) (cf i))(l:autoParam (starEach [.Name x p1] X.env=(false,eval (.Name x p1) X.env)::starEach [] X.env) Zq._auto_1)(g:autoParam ((backTo pos (starEach [] X.env)).any (·.1)=false) Zq._auto_1) :
  DE X F (.Call (.Name "len" p) [.Name x p1] [] pos) (zm i):=
 ⟨fun _ _ _ k d=>by obtain⟨j,e,q⟩:=d;exact⟨j,e,fun h=>k _ _ (q h)⟩,(ql iz n o PySem.boot_len (em h fm l) (by decide) (by decide) l g).imp fun Y H Q f=>by
  obtain⟨U,O,st,j,e,q⟩:=f;obtain⟨s,r,m⟩:=st.scr e;refine⟨_,r,s,j.map V.int,rfl,.inl m.sq,?_⟩;rw[List.length_map];exact q m.1 _ H O st .refl (.int _)⟩
def zo(i:Nat)(te:DT):DT:=fun U Q=>∃f,U[i]? = some (some (.scr f))/\te U fun d g=>∃k n,d=.int k/\bI f k=some n/\Q (.int n) g
theorem Ms{g:α->β}{l}{n}(h:bI l k=some n):bI (l.map g) k=some (g n):=by
 unfold bI at h ⊢;rw[List.length_map];cases q:dj l.length k with
 |none=>rw[q]at h;cases h
 |some j=>rw[q]at h;show(l.map g)[j]? = some (g n);rw[List.getElem?_map];have h:l[j]? = some n:=h;rw[h];rfl
theorem zp(h:PE X (.Name x p1) (cf i))(s:DE X F e te)(t:nW e):DE X F (.Subscript (.Name x p1) e pos) (zo i te):=
 ⟨fun _ _ _ k f=>by obtain⟨r,e,q⟩:=f;exact⟨r,e,s.mn _ _ _ (fun _ _ g=>by obtain⟨G,n,v,y,q⟩:=g;exact⟨G,n,v,y,k _ _ q⟩) q⟩,(ub ue h s.pe t).imp fun Y H Q j=>by
  obtain⟨U,O,st,r,e,q⟩:=j;obtain⟨E,I,t⟩:=st.scr e;refine⟨_,I,U,O,st,s.mn _ _ _ (fun d N l w C J A D L=>?_) q⟩;obtain⟨k,n,v,y,M⟩:=l;subst v;have B:iB X.K C E r:=t.mono fun o u q=>D.keep _ _ (fun z=>by obtain⟨R,e,m⟩:=st.live _ z;rw[q]at e;cases e;exact m) q;exact⟨E,r.map V.int,k,.int n,rfl,L.int_inv,B.sq,Ms y,M _ C J A D (.int _)⟩⟩
def Mt(K:Frag):R2:=fun x y H Q=>∃a b d,x=.ref a/\y=.ref b/\cE K H a (d.map V.int)/\H b=some (.lst [])/\Q (.bl (decide (d=[]))) H
theorem zq:∀{d:List Int}{f},bi (d.map V.int) f->∃as,ReadsAll h f (d.map PyData.int) as
 |[],_,r=>by cases r;exact⟨_,.nil⟩
 |n::d,_,r=>by
  cases r with
  |cons g r=>obtain⟨t,rfl⟩:=g;obtain⟨as,q⟩:=zq r;exact⟨_,.cons (.int n t) q⟩
theorem Mu(l:X.A.units+64<cLine):cx X (compareOp .Eq) (Mt X.K):=by
 intro g s Y H x y v u Q I m t h;obtain⟨a,b,d,rfl,rfl,h1,h2,q⟩:=h;cases m;cases t;obtain⟨w,z,⟨o,n,e,B,_,C⟩,L⟩:=I.list h1;obtain⟨_,j,M,f,D⟩:=I.hok _ _ h2;cases f;obtain⟨as,E⟩:=zq (h:=s.heap) z;have G:PyData.eqv (.list (d.map .int)) (.list [])=decide (d=[]):=by cases d<;>rfl
 refine eq_dataH (reads_list_at e B C (by simpa using E)) (reads_list_at (xs:=[]) D rfl rfl .nil) ?_ (by decide) l (by rw[G];exact⟨.bl _,H,I,rfl,q⟩);unfold SeqAt.shaped;have J:PyData.canLay0 (.list (d.map .int))=true:=by
  have:∀d:List Int,PyData.canLayAll0 (d.map .int)=true:=fun d=>by
   induction d with
   |nil=>rfl
   |cons n r k=>rw[List.map_cons];simp only[PyData.canLayAll0,PyData.canLay0,k,Bool.and_self]
  simp only[PyData.canLay0,this]
 have dp:PyData.depth (.list (d.map .int))<=64:=by
  have:∀d:List Int,PyData.depthAll (d.map .int)<=1:=fun d=>by
   induction d with
   |nil=>simp[PyData.depthAll]
   |cons n r k=>rw[List.map_cons];simp only[PyData.depthAll,PyData.depth];lia
  have:=this d;simp only[PyData.depth];lia
 rw[J,Bool.true_and];exact decide_eq_true dp
def zr(i:Nat):cH:=fun U Q=>∃d,U[i]? = some (some (.scr d))/\Q (decide (d=[])) U
theorem Mw(m:X.A.units+64<cLine)(h:PE X (.Name x p1) (cf i)):DB X F (.Compare (.Name x p1) [.Eq] [.List [] l] pos) (zr i):=
 ⟨fun _ _ _ k d=>by obtain⟨j,e,q⟩:=d;exact⟨j,e,k _ _ q⟩,(xH (Mu m) h (qk fm) (bz _)).imp fun Y H Q f=>by
  obtain⟨U,O,st,j,e,q⟩:=f;obtain⟨r,n,o⟩:=st.scr e;refine⟨_,n,Nat.zero_le _,fun p g=>⟨r,p,j,rfl,rfl,(bS g).seq o.sq,cK,_,rfl,q _ O (st.grow (bS g)) (.same (bS g))⟩⟩⟩
structure FD (K:Frag) (mg:Str->Option Value) (x:Str) (st:Stmt) (ps:List Str) (g:Addr) (fd:FuncData):Prop where
 fn:lP K x x st g fd
 mgf:mg x=some (.ref g)
 b:iy K fd ps []
section
variable{X:Cx}{scope:Scope}{own capN:List Str}{caps:List Nat}
theorem af.of(h1:autoParam (scope.kind=.function) Zq._auto_1)(h2:autoParam ((scope.names.all fun y=>scope.names.lookup y.1==some y.2)=true) Zq._auto_1)
  (h3:autoParam ((scope.names.all fun y=>y.2 != .free||(X.env.kindOf y.1==some .cell||X.env.kindOf y.1==some .free))=true) Zq._auto_1)
  (h4:autoParam ((scope.names.all fun y=>y.2 != .local||scope.names.lookup y.1==some .local)=true) Zq._auto_1) (h5:autoParam (caps.map (fun j=>X.N[j]?)=capN.map some) Zq._auto_1)
  (h6:autoParam ((capN.all fun x=>scope.names.lookup x==some .free)=true) Zq._auto_1):af X scope own capN caps where
 kind:=h1
 one:=fun y hy=>eq_of_beq (List.all_eq_true.mp h2 y hy)
 free:=fun y hy e=>by
  have:=List.all_eq_true.mp h3 y hy;rw[e]at this;rw[Bool.or_eq_true]at this;rcases this with z |z
  .exact absurd z (by decide)
  .rw[Bool.or_eq_true]at z;exact z.imp (fun z=>eq_of_beq z) fun z=>eq_of_beq z
 loc:=fun y hy e=>by
  have:=List.all_eq_true.mp h4 y hy;rw[e]at this;rw[Bool.or_eq_true]at this;rcases this with z |z
  .exact absurd z (by decide)
  .exact eq_of_beq z
 caps:=h5
 capf:=fun x hx=>eq_of_beq (List.all_eq_true.mp h6 x hx)
end
abbrev qI(g:Int->Int->Int):D2:=fI (fun _ _=>True) fun i j=>.int (g i j)
abbrev qB(g:Int->Int->Bool):D2:=fI (fun _ _=>True) fun i j=>.bool (g i j)
theorem Mx(d:DE X F a ta)(f:DE X F b tb):DE X F (.BinOp a .Add b pos) (cM (qI fun i j=>i+j) ta tb):=iD HL (jU fun _ _ _=>.int _) d f
theorem My(d:DE X F a ta)(f:DE X F b tb):DE X F (.BinOp a .Sub b pos) (cM (qI fun i j=>i - j) ta tb):=iD HM (jU fun _ _ _=>.int _) d f
theorem Mz(d:DE X F a ta)(f:DE X F b tb):DE X F (.BinOp a .Mult b pos) (cM (fI nU fun i j=>.int (i * j)) ta tb):=iD HN (qy fun _ _ _=>.int _) d f
theorem MA(d:DE X F a ta)(f:DE X F b tb):DE X F (.BinOp a .FloorDiv b pos) (cM (fI tT fun i j=>.int (i / j)) ta tb):=iD HP (qy fun _ _ _=>.int _) d f
theorem MB(d:DE X F a ta)(f:DE X F b tb):DE X F (.BinOp a .Mod b pos) (cM (fI (fun _ j=>0<j) fun i j=>.int (i % j)) ta tb):=iD HQ (qy fun _ _ _=>.int _) d f
theorem MC(d:DE X F a ta)(f:DE X F b tb):DE X F (.BinOp a .Add b pos) (cM uD ta tb):=iD Jk Kg d f
theorem ME(d:DE X F a ta)(f:DE X F b tb):DE X F (.Compare a [.Lt] [b] pos) (cM (qB fun i j=>decide (i<j)) ta tb):=lT xD (jU fun _ _ _=>.bl _) d f (bz _)
theorem MG(d:DE X F a ta)(f:DE X F b tb):DE X F (.Compare a [.LtE] [b] pos) (cM (qB fun i j=>decide (i<=j)) ta tb):=lT qh (jU fun _ _ _=>.bl _) d f (bz _)
theorem MI(d:DE X F a ta)(f:DE X F b tb):DE X F (.Compare a [.Gt] [b] pos) (cM (qB fun i j=>decide (j<i)) ta tb):=lT xE (jU fun _ _ _=>.bl _) d f (bz _)
theorem MJ(d:DE X F a ta)(f:DE X F b tb):DB X F (.Compare a [.Lt] [b] pos) (fP (cM (qB fun i j=>decide (i<j)) ta tb)):=kZ xD (jU fun _ _ _=>.bl _) d f (bz _)
theorem MK(d:DE X F a ta)(f:DE X F b tb):DB X F (.Compare a [.LtE] [b] pos) (fP (cM (qB fun i j=>decide (i<=j)) ta tb)):=kZ qh (jU fun _ _ _=>.bl _) d f (bz _)
theorem ML(d:DE X F a ta)(f:DE X F b tb):DB X F (.Compare a [.Gt] [b] pos) (fP (cM (qB fun i j=>decide (j<i)) ta tb)):=kZ xE (jU fun _ _ _=>.bl _) d f (bz _)
theorem MM(d:X.A.units+64<cLine)(f:DE X F a ta)(g:DE X F b tb):DE X F (.Compare a [.Eq] [b] pos) (cM (oa false) ta tb):=lT (yu d) uB f g (bz _)
theorem MN(d:X.A.units+64<cLine)(f:DE X F a ta)(g:DE X F b tb):DB X F (.Compare a [.Eq] [b] pos) (fP (cM (oa false) ta tb)):=kZ (yu d) uB f g (bz _)
theorem MO(d:X.A.units+64<cLine)(f:DE X F a ta)(g:DE X F b tb):DB X F (.Compare a [.NotEq] [b] pos) (fP (cM (oa true) ta tb)):=kZ (JW d) uB f g (bz _)
theorem MP(d:DE X F a ta)(f:DE X F b tb):DE X F (.Compare a [.Is] [b] pos) (cM qz ta tb):=lT xF yA d f (bz _)
theorem MQ(d:DE X F a ta)(f:DE X F b tb):DB X F (.Compare a [.Is] [b] pos) (fP (cM qz ta tb)):=kZ xF yA d f (bz _)
theorem MR(d:DE X F a ta)(f:DE X F b tb):DB X F (.Compare a [.IsNot] [b] pos) (fP (cM uC ta tb)):=kZ xG yB d f (bz _)
theorem MS(d:DE X F a ta)(h:DE X F b tb)(f:DE X F c tc)(g:lastMarks [.LtE,.LtE] [b,c]=false:=by with_unfolding_all rfl):DE X F (.Compare a [.LtE,.LtE] [b,c] pos) (uF (fun i j=>decide (i<=j)) (fun i j=>decide (i<=j)) ta tb tc):=Ky qh qh d h f g
theorem du(d:Gl X x)(f:X.mg x=some (.int i t))(hd:autoParam ((x==("__debug__":Str))=false) Zr._auto_1):DE X F (.Name x pos) (dC (.int i)):=nY (v:=.int i) (xt d f ⟨t,rfl⟩ hd) fun _=>.int i
mutual
theorem zt:∀(d:PyData),d.canLay0=true->PyData.eqv d d=true
 |.none,_=>rfl
 |.bool b,_=>by simp[PyData.eqv]
 |.int i,_=>by simp[PyData.eqv]
 |.str s,_=>by simp[PyData.eqv]
 |.list xs,h=>by rw[PyData.eqv];exact uQ xs (by simpa[PyData.canLay0] using h)
 |.tuple xs,h=>by rw[PyData.eqv];exact uQ xs (by simpa[PyData.canLay0] using h)
 |.dict kvs,h=>by simp[PyData.canLay0]at h
theorem uQ:∀(ds:List PyData),PyData.canLayAll0 ds=true->PyData.eqvAll ds ds=true
 |[],_=>rfl
 |x::xs,h=>by simp only[PyData.canLayAll0,Bool.and_eq_true]at h;rw[PyData.eqvAll,zt x h.1,uQ xs h.2];rfl
theorem zu(h:SeqAt.shaped d=true):PyData.eqv d d=true:=zt d (SeqAt.canLay_of_shaped h)
end
end L2.L3
namespace L2
open PySem PySem.Spec PyProof.Rows
def zw(K:Frag):R2:=fun x y H Q=>∃a b c d,x=.ref a/\y=.ref b/\cZ K H a c/\cZ K H b d/\c.length+d.length<=sizeLine/\
 (c=[]->Q (.ref b) H)/\(c≠[]->d=[]->Q (.ref a) H)/\(c≠[]->d≠[]->∀p,H p=none->Q (.ref p) (aI H p (.tup (c++d))))
theorem MT:cx X (binaryOp .Add) (zw X.K):=by
 intro c s Y H x y v u Q I m o h;obtain⟨a,b,p,w,rfl,rfl,q,hb,z,A,B,C⟩:=h
 by_cases i:p=[]
 .subst i;cases m;cases o;obtain⟨j,D,E,_⟩:=I.tuple q;obtain⟨d,M,G,_⟩:=I.tuple hb;have J:j=[]:=D.nil_iff.mpr rfl;subst J;obtain⟨⟨cls,dd,data,sl⟩,ho,r,n,hd⟩:=id E;obtain⟨⟨t,k,data2,l⟩,e,f,L,g⟩:=id G;simp only at r hd f g;subst r hd f g;exact concat_meets ⟨_,ho,rfl⟩ ⟨_,e,rfl⟩ noFill_tuple_add seq_tuple_add PySem.F.slot_tuple_add PySem.F.entry_tuple_add (PySem.F.args_tuple_add_2 _ _)
   (tuple_addW0 a b [].toArray d.toArray n L dd k sl l rfl) ⟨ho,e,.ref b,H,I,rfl,A rfl⟩
 .exact IR c s Y H _ _ v u Q I m o ⟨a,b,p,w,rfl,rfl,q,hb,i,z,B i,C i⟩
end L2
namespace L2.L3
open PySem PySem.Spec PyProof.Rows
theorem MU{K}:en (zw K) uE where
 mn:=fun _ _ _ _ k zq1a=>by obtain⟨ds,es,e1,e2,e3,q⟩:=zq1a;exact⟨ds,es,e1,e2,e3,k _ q⟩
 ok:=fun O H u v x y Q hO h1 h2 zq2a=>by
  obtain⟨ds,es,e1,e2,e3,q⟩:=zq2a;subst e1 e2;obtain⟨a,xs,rfl,ha,hd⟩:=id h1.tup_inv;obtain⟨b,ys,rfl,hb,he⟩:=id h2.tup_inv;refine⟨a,b,xs,ys,rfl,rfl,.inl (fM ha).1,.inl (fM hb).1,by rw[hd.length,he.length];exact e3,fun z=>?_,fun _ z=>?_,fun _ _ p hp=>q _ _ (bS hp) (jW hp (hO p hp) (hd.append he))⟩
  .subst z;cases hd;exact q _ H (fun _ _ h=>h) h2
  .subst z;cases he;rw[List.append_nil]at q;exact q _ H (fun _ _ h=>h) h1
theorem MV(c:DE X F a ta)(d:DE X F b tb):DE X F (.BinOp a .Add b pos) (cM uE ta tb):=iD MT MU c d
theorem MW(c:DE X F a ta)(d:DE X F b tb):DE X F (.BinOp a .Pow b pos) (cM (fI tU fun i j=>.int (i ^ j.toNat)) ta tb):=iD HS (qy fun _ _ _=>.int _) c d
theorem zx:∀{c:List Int}{vs},aG H vs (c.map PyData.int)->vs=c.map V.int
 |[],_,h=>by cases h;rfl
 |b::r,_,h=>by
  cases h with
  |cons d q=>rw[d.int_inv,zx q];rfl
def uR:D2:=fun x y Q=>∃c k,x=.list c/\y=.int k/\(-(2 ^ 63)<=k/\k<2 ^ 63/\c.length * k.toNat<=sizeLine)/\Q (.list (List.replicate k.toNat c).flatten)
theorem uS(r:aG H vs c):∀k,aG H (List.replicate k vs).flatten (List.replicate k c).flatten
 |0=>.nil
 |k+1=>by rw[List.replicate_succ,List.replicate_succ,List.flatten_cons,List.flatten_cons];exact r.append (uS r k)
theorem MX:en yf uR where
 mn:=fun _ _ _ _ k zq1a=>by obtain⟨ds,n,e1,e2,e3,q⟩:=zq1a;exact⟨ds,n,e1,e2,e3,k _ q⟩
 ok:=fun O H u v x y Q hO h1 h2 zq2a=>by obtain⟨ds,k,e1,e2,⟨e3,e4,e5⟩,q⟩:=zq2a;subst e1 e2;obtain⟨a,xs,rfl,ha,hd⟩:=h1.lst_inv;refine⟨a,k,xs,rfl,h2.int_inv,(cT ha).1,e3,e4,by rw[hd.length];exact e5,fun p hp=>q _ _ (bS hp) (jV hp (hO p hp) (uS hd _))⟩
theorem MY(c:DE X F a ta)(d:DE X F b tb):DE X F (.BinOp a .Mult b pos) (cM uR ta tb):=iD Jl MX c d
end L2.L3
namespace L2
open PySem PySem.Spec PyProof.Rows
def zy:List V->Hp->VK->Prop:=fun c H Q=>∃(l:Addr) (b:List Int),c=[.ref l]/\H l=some (.lst (b.map V.int))/\b≠[]/\∀M,M∈b->(∀a,a∈b->a<=M)->Q (.int M) H
theorem MZ(J:X.calm=true):gr X (.builtin "max") zy:=by
 intro y s Y H Z us Q I r h;obtain⟨l,ns,rfl,M,f,q⟩:=h;obtain⟨u,rfl,ru⟩:=vals1 r;cases ru;obtain⟨z,d,n,B,e⟩:=I.hok _ _ M;have L:s.heap.IsList l d.toArray:=⟨_,e,rfl,_,rfl⟩
 have c:l<s.heap.objs.size:=bj e;have len:=B.length;rw[List.length_map]at len;have N:0<ns.length:=List.length_pos_iff.mpr f;have at_:∀(i:Nat) (v:Value),d.toArray[i]? = some v->∃t,v=.int (ns.getD i 0) t:=by
  intro i v O;have C:d[i]? = some v:=by simpa using O
  have c:i<ns.length:=by rw[len];exact(List.getElem?_eq_some_iff.mp C).1
  obtain⟨w,D,g⟩:=B.get (i:=i) (x:=.int ns[i]) (by rw[List.getElem?_map,List.getElem?_eq_getElem c];rfl);rw[C]at D;cases D;cases g;rename_i k m;refine⟨k,m.trans ?_⟩
  congr 1
  simp[List.getD,c]
 refine call_max_walk (wpAny_pyIter_list L ?_);refine⟨s.heap.objs.size,_,_,_,_,_,_,rfl,Walks.list (A:=X.A.in1) (show X.A.in1.handled=none from I.ok.hd J) s.heap.objs.size l (Nat.ne_of_lt c) d.toArray,⟨⟨_,Heap.get?_push_size _ rfl,rfl,rfl⟩,L.push _⟩,?_,?_,CmpOf.ints_gt (fun i=>ns.getD i 0) at_,fun v h' tk E R=>?_⟩
 .intro b p;rcases List.mem_cons.mp p with rfl |p
  .show _<(s.heap.push _).objs.size;rw[Heap.size_push];exact Nat.lt_succ_self _
  .rw[List.mem_singleton.mp p];show _<(s.heap.push _).objs.size;rw[Heap.size_push];exact Nat.lt_succ_of_lt c
 .rw[List.size_toArray,<-len];exact N
 .rw[List.size_toArray,<-len]at E;obtain⟨t,rfl⟩:=at_ _ _ E;obtain⟨h1,h2⟩:=argBest_gt (fun i=>ns.getD i 0) (ns.length - 1);refine⟨.int _,H,I.kept fun b o G=>R b o (fun S=>absurd (bj G) (by rw[List.mem_singleton.mp S];exact Nat.lt_irrefl _)) (aS _ G),⟨_,rfl⟩,q _ ?_ fun a T=>?_⟩
  .rw[PySem.getD_at (by lia)];exact List.getElem_mem _
  .obtain⟨j,U,rfl⟩:=List.getElem_of_mem T;have:=h2 j (by lia);simp only[PySem.getD_at U]at this;exact this
end L2
namespace L2.L3
open PySem PySem.Spec PyProof.Rows
def zG:DN:=fun c Q=>∃b:List Int,c=[.list (b.map .int)]/\b≠[]/\∀M,M∈b->(∀a,a∈b->a<=M)->Q (.int M)
theorem Na:iF zy zG where
 mn:=fun _ _ _ k zq1a=>by obtain⟨bs,e,h,q⟩:=zq1a;exact⟨bs,e,h,fun M h1 h2=>k _ (q M h1 h2)⟩
 ok:=fun O H vs xs Q hO hd zq2a=>by obtain⟨ns,e,h,q⟩:=zq2a;subst e;obtain⟨x,rfl,h1⟩:=hJ hd;obtain⟨a,ys,rfl,ha,hy⟩:=h1.lst_inv;exact⟨a,ns,rfl,by rw[(cT ha).1,zx hy],h,fun M h1 h2=>q M h1 h2 _ H (fun _ _ h=>h) (.int _)⟩
def Nb:cX:=fun D U=>D.bk U
theorem Nc:DS X F (.Break pos) Nb:=GX.imp fun D Y H a=>by obtain⟨U,O,b,st,q,f⟩:=a;exact f.bk Y H U O st .refl q
inductive fu (α:Type) where
 |ok (a:α) (U:ak) |ex (c:Str) (U:ak) |bad
@[simp]noncomputable def fu.bind{α β:Type}(o:fu α)(k:α->ak->fu β):fu β:=match o with
 |.ok a U=>k a U
 |.ex c U=>.ex c U
 |.bad=>.bad
@[simp]noncomputable def lift{α:Type}(o:Option α)(U:ak):fu α:=match o with
 |some a=>.ok a U
 |none=>.bad
abbrev XM(α:Type):=ak->fu α
def wp{α:Type}(E:Str->ak->Prop)(m:XM α):ak->(α->ak->Prop)->Prop:=fun U Q=>match m U with
 |.ok a b=>Q a b
 |.ex c b=>E c b
 |.bad=>False
theorem aE:∀U (Q e:α->ak->Prop),(∀d b,Q d b->e d b)->wp E m U Q->wp E m U e:=fun U Q e k q=>by
 unfold wp at q ⊢;generalize m U=o at q ⊢;cases o with
 |ok a b=>exact k _ _ q
 |ex c b=>exact q
 |bad=>exact q
theorem bT{k:α->XM β}(h:wp E (fun U=>(m U).bind k) U Q):wp E m U fun a b=>wp E (k a) b Q:=by
 unfold wp at h ⊢;unfold fu.bind at h;simp only at h;generalize m U=o at h ⊢;cases o with
 |ok a b=>exact h
 |ex c b=>exact h
 |bad=>exact h
theorem dg{o:Option α}(h:wp E (lift o) U Q):∃a,o=some a/\Q a U:=by
 unfold wp lift at h;cases o with
 |some a=>exact⟨a,rfl,h⟩
 |none=>exact h.elim
theorem DE.imp(h:DE X F e t)(f:Mn t')(k:∀U Q,t' U Q->t U Q):DE X F e t':=⟨f,h.pe.imp fun Y H Q d=>by obtain⟨U,O,st,q⟩:=d;exact⟨U,O,st,k U _ q⟩⟩
theorem DO.imp(h:DO X F e t)(f:yQ t')(k:∀U Q,t' U Q->t U Q):DO X F e t':=⟨f,h.pe.imp fun Y H Q d=>by obtain⟨U,O,st,q⟩:=d;exact⟨U,O,st,k U _ q⟩⟩
theorem DA.imp(h:DA X F es t)(f:qA t')(k:∀U Q,t' U Q->t U Q):DA X F es t':=⟨f,h.pa.imp fun Y H Q d=>by obtain⟨U,O,st,q⟩:=d;exact⟨U,O,st,k U _ q⟩⟩
theorem DX.imp(h:DX X F es t)(f:yU t')(k:∀U Q,t' U Q->t U Q):DX X F es t':=⟨f,h.pa.imp fun Y H Q d=>by obtain⟨U,O,st,q⟩:=d;exact⟨U,O,st,k U _ q⟩⟩
theorem DB.imp(h:DB X F e t)(f:jn t')(k:∀U Q,t' U Q->t U Q):DB X F e t':=⟨f,h.pt.imp fun Y H Q d=>by obtain⟨U,O,st,q⟩:=d;exact⟨U,O,st,k U _ q⟩⟩
theorem DW.imp(h:DW X F e t)(f:jn t')(k:∀U Q,t' U Q->t U Q):DW X F e t':=⟨f,h.pw.imp fun Y H Q d=>by obtain⟨U,O,st,q⟩:=d;exact⟨U,O,st,k U _ q⟩⟩
theorem gw.imp(h:gw X F d t)(k:∀D U,t' D U->t D U):gw X F d t':=PSs.imp h fun D Y H g=>by obtain⟨U,O,i,st,q,f⟩:=g;exact⟨U,O,i,st,k i U q,f⟩
theorem DS.imp(h:DS X F s t)(k:∀D U,t' D U->t D U):DS X F s t':=PS.imp h fun D Y H d=>by obtain⟨U,O,g,st,q,f⟩:=d;exact⟨U,O,g,st,k g U q,f⟩
abbrev FE(X:Cx)(F:Fx)(E:Str->ak->Prop)(e:Expr)(m:XM PyData):Prop:=DE X F e (wp E m)
abbrev FO(X:Cx)(F:Fx)(E:Str->ak->Prop)(e:Expr)(m:XM ab):Prop:=DO X F e (wp E m)
abbrev FB(X:Cx)(F:Fx)(E:Str->ak->Prop)(e:Expr)(m:XM Bool):Prop:=DB X F e (wp E m)
abbrev FW(X:Cx)(F:Fx)(E:Str->ak->Prop)(e:Expr)(m:XM Bool):Prop:=DW X F e (wp E m)
abbrev FA(X:Cx)(F:Fx)(E:Str->ak->Prop)(es:List Expr)(m:XM (List PyData)):Prop:=DA X F es (wp E m)
abbrev FX(X:Cx)(F:Fx)(E:Str->ak->Prop)(es:List Expr)(m:XM (List AX)):Prop:=DX X F es (wp E m)
abbrev FI(X:Cx)(F:Fx)(E:Str->ak->Prop)(d iter:Expr)(m:XM (List PyData)):Prop:=DI X F d iter (wp E m)
abbrev GM:=PyData->ak->Option ak
def eI(g:GM):ez:=fun d U Q=>match g d U with
 |some f=>Q f
 |none=>False
abbrev FG(X:Cx)(F:Fx)(d:Expr)(g:GM):Prop:=DG X F d (eI g)
abbrev FS(X:Cx)(F:Fx)(E:Str->ak->Prop)(s:Stmt)(m:SM):Prop:=DS X F s (wpS E m)
abbrev iH(X:Cx)(F:Fx)(E:Str->ak->Prop)(s:List Stmt)(m:SM):Prop:=gw X F s (wpS E m)
@[simp]noncomputable def xC(d:PyData):XM PyData:=fun U=>.ok d U
@[simp]noncomputable def xV(i:Nat):XM PyData:=fun U=>match U[i]? with
 |some (some (.dat d))=>.ok d U
 |some (some (.own false (.l ds)))=>.ok (.list ds) (U.set i (some (.dat (.list ds))))
 |_=>.bad
theorem aa(h:DE X F e (dC d)):FE X F E e (xC d):=h.imp aE fun _ _ q=>q
theorem Nd(h:DE X F e (dV i)):FE X F E e (xV i):=h.imp aE fun U Q q=>by
 unfold wp xV at q;unfold dV;cases h:U[i]? with
 |none=>rw[h]at q;exact q.elim
 |some o=>
  rw[h]at q;cases o with
  |none=>exact q.elim
  |some c=>
   cases c with
   |dat d=>exact .inl ⟨d,rfl,q⟩
   |scr n=>exact q.elim
   |exc n=>exact q.elim
   |vw n=>exact q.elim
   |own io f=>
    cases io with
    |true=>exact q.elim
    |false=>
     cases f with
     |l ds=>exact .inr ⟨ds,rfl,q⟩
     |m _ _=>exact q.elim
     |o _ _=>exact q.elim
     |sd _=>exact q.elim
     |ll _=>exact q.elim
     |pr _ _ _=>exact q.elim
@[simp] def ag(g:PyData->PyData->Option PyData)(a b:XM PyData):XM PyData:=fun U=>(a U).bind fun x d=>(b d).bind fun y=>lift (g x y)
def F2(f:D2)(g:PyData->PyData->Option PyData):Prop:=∀x y d Q,g x y=some d->Q d->f x y Q
theorem eJ(k:F2 f g)(h:DE X F e (cM f (wp E i) (wp E j))):FE X F E e (ag g i j):=h.imp aE fun U Q q=>by refine aE _ _ _ (fun x p l=>?_) (bT q);refine aE _ _ _ (fun y r m=>?_) (bT l);obtain⟨d,n,o⟩:=dg m;exact k x y d _ n o
@[simp] def aY(m:XM PyData):XM Bool:=fun U=>(m U).bind fun d=>lift (match d with |.bool b=>some b |_=>none)
theorem zH(q:wp E (aY m) U Q):fP (wp E m) U Q:=aE _ _ _ (fun d i g=>by
 obtain⟨b,f,h⟩:=dg g;cases d with
 |bool j=>cases f;exact⟨_,rfl,h⟩
 |_=>cases f) (bT q)
theorem lc(k:F2 f g)(h:DB X F e (fP (cM f (wp E i) (wp E j)))):FB X F E e (aY (ag g i j)):=h.imp aE fun U Q q=>by have l:=zH q;refine aE _ _ _ (fun x r m=>?_) (bT l);refine aE _ _ _ (fun y s n=>?_) (bT m);obtain⟨d,o,p⟩:=dg n;exact k x y d _ o p
theorem dA(h:DB X F e (fP (wp E m))):FB X F E e (aY m):=h.imp aE fun U Q q=>zH q
@[simp]noncomputable def gI(g:Int->Int->PyData):PyData->PyData->Option PyData:=fun x y=>match x,y with
 |.int i,.int j=>some (g i j)
 |_,_=>none
@[simp]noncomputable def me(C:Int->Int->Bool)(g:Int->Int->PyData):PyData->PyData->Option PyData:=fun x y=>match x,y with
 |.int i,.int j=>if C i j=true then some (g i j) else none
 |_,_=>none
theorem kb:F2 (fI (fun _ _=>True) g) (gI g):=fun x y d Q e q=>by
 unfold gI at e;split at e
 .cases e;exact⟨_,_,rfl,rfl,trivial,q⟩
 .cases e
theorem qG(h:∀i j,C i j=true->P i j):F2 (fI P g) (me C g):=fun x y d Q e q=>by
 unfold me at e;split at e
 .split at e
  .rename_i f;cases e;exact⟨_,_,rfl,rfl,h _ _ f,q⟩
  .cases e
 .cases e
noncomputable def kc(i j:Int):Bool:=(decide (-(2 ^ 64)<i)&&decide (i<2 ^ 64))||(decide (-(2 ^ 64)<j)&&decide (j<2 ^ 64))
noncomputable def mf(_ j:Int):Bool:=decide (0<j)&&decide (j<1073741824)
noncomputable def oq(_ j:Int):Bool:=decide (0<j)
noncomputable def qH(i j:Int):Bool:=decide (0<=j)&&decide (j<=1000000)&&decide (i.natAbs<2 ^ 64)
theorem Nf(i j)(h:kc i j=true):nU i j:=by unfold kc at h;simp only[Bool.or_eq_true,Bool.and_eq_true,decide_eq_true_eq]at h;exact h
theorem Ng(i j)(h:mf i j=true):tT i j:=by unfold mf at h;simp only[Bool.and_eq_true,decide_eq_true_eq]at h;exact h
theorem Nh(i j)(h:oq i j=true):0<j:=by unfold oq at h;simpa using h
theorem Ni(i j)(h:qH i j=true):tU i j:=by unfold qH at h;simp only[Bool.and_eq_true,decide_eq_true_eq]at h;exact⟨h.1.1,h.1.2,h.2⟩
noncomputable def aM(neg:Bool):PyData->PyData->Option PyData:=fun x y=>if (SeqAt.shaped x&&SeqAt.shaped y)=true then some (.bool (PyData.eqv x y != neg)) else none
theorem uT:F2 (oa neg) (aM neg):=fun x y d Q e q=>by
 unfold aM at e;split at e
 .rename_i h;cases e;exact⟨(Bool.and_eq_true_iff.mp h).1,(Bool.and_eq_true_iff.mp h).2,q⟩
 .cases e
@[simp] def iI:PyData->PyData->Option PyData:=fun x y=>match y with |.none=>some (.bool (isNone x)) |_=>none
@[simp] def eK:PyData->PyData->Option PyData:=fun x y=>match y with |.none=>some (.bool (!isNone x)) |_=>none
theorem zI:F2 qz iI:=fun x y d Q e q=>by
 unfold iI at e;split at e
 .cases e;exact⟨rfl,q⟩
 .cases e
theorem zJ:F2 uC eK:=fun x y d Q e q=>by
 unfold eK at e;split at e
 .cases e;exact⟨rfl,q⟩
 .cases e
@[simp]noncomputable def mh:PyData->PyData->Option PyData:=fun x y=>match x,y with
 |.list ds,.list es=>if ds.length+es.length<=sizeLine then some (.list (ds++es)) else none
 |_,_=>none
@[simp]noncomputable def mi:PyData->PyData->Option PyData:=fun x y=>match x,y with
 |.tuple ds,.tuple es=>if ds.length+es.length<=sizeLine then some (.tuple (ds++es)) else none
 |_,_=>none
theorem Nj:F2 uD mh:=fun x y d Q e q=>by
 unfold mh at e;split at e
 .split at e
  .rename_i h;cases e;exact⟨_,_,rfl,rfl,h,q⟩
  .cases e
 .cases e
theorem Nk:F2 uE mi:=fun x y d Q e q=>by
 unfold mi at e;split at e
 .split at e
  .rename_i h;cases e;exact⟨_,_,rfl,rfl,h,q⟩
  .cases e
 .cases e
@[simp]noncomputable def ot:PyData->PyData->Option PyData:=fun x y=>match x,y with
 |.list ds,.int k=>if (decide (-(2 ^ 63)<=k)&&decide (k<2 ^ 63)&&decide (ds.length * k.toNat<=sizeLine))=true then some (.list (List.replicate k.toNat ds).flatten) else none
 |_,_=>none
theorem Nl:F2 uR ot:=fun x y d Q e q=>by
 unfold ot at e;split at e
 .split at e
  .rename_i h;cases e;simp only[Bool.and_eq_true,decide_eq_true_eq]at h;exact⟨_,_,rfl,rfl,⟨h.1.1,h.1.2,h.2⟩,q⟩
  .cases e
 .cases e
@[simp] def lh(a:XM PyData):XM PyData:=fun U=>(a U).bind fun d=>lift (match d with |.int i=>some (.int (-i)) |_=>none)
theorem mj(h:FE X F E a f):FE X F E (.UnaryOp .USub a pos) (lh f):=(Kq h).imp aE fun U Q q=>aE _ _ _ (fun d l j=>by
 obtain⟨y,g,k⟩:=dg j;cases d with
 |int i=>cases g;exact⟨i,rfl,k⟩
 |_=>cases g) (bT q)
@[simp] def zK(a:XM PyData):XM PyData:=fun U=>(a U).bind fun d=>lift (match d with |.bool b=>some (.bool (!b)) |_=>none)
theorem Nm(h:FE X F E a f):FE X F E (.UnaryOp .Not a pos) (zK f):=(Ks h).imp aE fun U Q q=>aE _ _ _ (fun d k i=>by
 obtain⟨y,g,j⟩:=dg i;cases d with
 |bool b=>cases g;exact⟨b,rfl,j⟩
 |_=>cases g) (bT q)
@[simp]noncomputable def zL(b:XM PyData)(d:PyData):XM PyData:=fun f=>match d with
 |.bool true=>b f
 |.bool false=>.ok (.bool false) f
 |_=>.bad
@[simp]noncomputable def zM(b:XM PyData)(d:PyData):XM PyData:=fun f=>match d with
 |.bool true=>.ok (.bool true) f
 |.bool false=>b f
 |_=>.bad
@[simp] def eL(a b:XM PyData):XM PyData:=fun U=>(a U).bind (zL b)
@[simp] def uU(a b:XM PyData):XM PyData:=fun U=>(a U).bind (zM b)
theorem eY(i:FE X F E a h)(j:FE X F E (.BoolOp .And (b::rest) pos) f):FE X F E (.BoolOp .And (a::b::rest) pos) (eL h f):=(Kw i j).imp aE fun U Q q=>aE _ _ _ (fun d l g=>by
 cases d with
 |bool b=>cases b with
  |true=>exact⟨true,rfl,ei g⟩
  |false=>exact⟨false,rfl,eh g⟩
 |_=>exact g.elim) (bT (k:=zL f) q)
theorem zN(i:FE X F E a h)(j:FE X F E (.BoolOp .Or (b::rest) pos) f):FE X F E (.BoolOp .Or (a::b::rest) pos) (uU h f):=(Kx i j).imp aE fun U Q q=>aE _ _ _ (fun d l g=>by
 cases d with
 |bool b=>cases b with
  |true=>exact⟨true,rfl,ei g⟩
  |false=>exact⟨false,rfl,eh g⟩
 |_=>exact g.elim) (bT (k:=zM f) q)
theorem gx(h:FE X F E a d):FE X F E (.BoolOp op [a] pos) d:=Kv h
@[simp] def uV(p f:Int->Int->Bool)(a b c:XM PyData):XM PyData:=fun U=>(a U).bind fun x g=>(b g).bind fun y d=>match x,y with
 |.int i,.int j=>if p i j=true then(c d).bind (fun z=>lift (match z with |.int k=>some (.bool (f j k)) |_=>none)) else .ok (.bool false) d
 |_,_=>.bad
theorem Nn(h:DE X F e (uF p l (wp E o) (wp E r) (wp E n))):FE X F E e (uV p l o r n):=h.imp aE fun U Q q=>by
 refine aE _ _ _ (fun x w t=>?_) (bT q);refine aE _ _ _ (fun y A f=>?_) (bT t);unfold wp at f;cases x with
 |int i=>cases y with
  |int j=>
   refine⟨i,j,rfl,rfl,?_⟩
   by_cases g:p i j=true
   .simp only[if_pos g]at f;rw[if_pos g];refine aE _ _ _ (fun z B u=>?_) (bT (m:=n) (k:=fun z=>lift (match z with |.int k=>some (PyData.bool (l j k)) |_=>none)) f);obtain⟨d,s,v⟩:=dg u;cases z with
    |int k=>cases s;exact⟨k,rfl,v⟩
    |_=>cases s
   .simp only[if_neg g]at f;rw[if_neg g];exact f
  |_=>exact f.elim
 |_=>exact f.elim
@[simp] def eZ(a:XM Bool):XM Bool:=fun U=>(a U).bind fun b d=>.ok (!b) d
theorem fx(h:FB X F E a f):FB X F E (.UnaryOp .Not a pos) (eZ f):=(KA h).imp aE fun U Q q=>aE _ _ _ (fun d g i=>i) (bT (k:=fun b g=>.ok (!b) g) q)
@[simp] def uW(a b:XM Bool):XM Bool:=fun U=>(a U).bind fun x d=>if x=true then b d else .ok false d
@[simp] def kd(a b:XM Bool):XM Bool:=fun U=>(a U).bind fun x d=>if x=true then .ok true d else b d
theorem zO(h:FB X F E a d):FW X F E (.BoolOp .And [a] pos) d:=KD h
theorem ml(h:FB X F E a d):FW X F E (.BoolOp .Or [a] pos) d:=KE h
theorem zP(j:FB X F E a h)(l:FW X F E (.BoolOp .And (b::rest) pos) f):FW X F E (.BoolOp .And (a::b::rest) pos) (uW h f):=(KF j l).imp aE fun U Q q=>aE _ _ _ (fun d g i=>by
 cases d with
 |true=>exact ei i
 |false=>exact eh i) (bT (k:=fun x g=>if x=true then f g else .ok false g) q)
theorem mm(j:FB X F E a h)(l:FW X F E (.BoolOp .Or (b::rest) pos) f):FW X F E (.BoolOp .Or (a::b::rest) pos) (kd h f):=(KG j l).imp aE fun U Q q=>aE _ _ _ (fun d g i=>by
 cases d with
 |true=>exact ei i
 |false=>exact eh i) (bT (k:=fun x g=>if x=true then .ok true g else f g) q)
theorem ke(h:FW X F E e d):FB X F E e d:=h.db
@[simp] def li{α:Type}(t:XM Bool)(a b:XM α):XM α:=fun U=>(t U).bind fun x d=>if x=true then a d else b d
theorem mq{mt}(j:FB X F E c mt)(l:FE X F E a f)(m:FE X F E b g):FE X F E (.IfExp c a b pos) (li mt f g):=(KJ j l m).imp aE fun U Q q=>aE _ _ _ (fun d h i=>by
 cases d with
 |true=>exact ei i
 |false=>exact eh i) (bT (k:=fun x h=>if x=true then f h else g h) q)
@[simp]noncomputable def aT:XM (List PyData):=fun U=>.ok [] U
@[simp] def az(a:XM PyData)(r:XM (List PyData)):XM (List PyData):=fun U=>(a U).bind fun d f=>(r f).bind fun h g=>.ok (d::h) g
theorem bn:FA X F E [] aT:=Kj.imp aE fun _ _ q=>q
theorem No(l:FE X F E e i)(m:FA X F E es h)(n:autoParam (starEach (e::es) X.env=(false,eval e X.env)::starEach es X.env) Zq._auto_1):FA X F E (e::es) (az i h):=(Kk l m n).imp aE fun U Q q=>aE _ _ _ (fun d j o=>aE _ _ _ (fun g f p=>p) (bT (k:=fun g f=>.ok (d::g) f) o)) (bT (k:=fun d j=>(h j).bind fun g f=>.ok (d::g) f) q)
@[simp] def cN(a:XM (List PyData)):XM PyData:=fun U=>(a U).bind fun d=>lift (if d.length<=sizeLine then some (.tuple d) else none)
@[simp] def jt(a:XM (List PyData)):XM PyData:=fun U=>(a U).bind fun d=>lift (if d.length<=sizeLine then some (.list d) else none)
theorem cR(h:FA X F E es g):FE X F E (.Tuple es i pos) (cN g):=(Kn h).imp aE fun U Q q=>aE _ _ _ (fun m l j=>by
 obtain⟨d,f,k⟩:=dg j;split at f
 .rename_i h;cases f;exact⟨h,k⟩
 .cases f) (bT q)
theorem lm(h:FA X F E es g):FE X F E (.List es pos) (jt g):=(Ko h).imp aE fun U Q q=>aE _ _ _ (fun l k i=>by
 obtain⟨d,f,j⟩:=dg i;split at f
 .rename_i h;cases f;exact⟨h,j⟩
 .cases f) (bT q)
@[simp] def dB(g:List PyData->Option PyData)(a:XM (List PyData)):XM PyData:=fun U=>(a U).bind fun d=>lift (g d)
def FN(f:DN)(g:List PyData->Option PyData):Prop:=∀h d Q,g h=some d->Q d->f h Q
theorem fy(j:FN f g)(h:DE X F e (og f (wp E i))):FE X F E e (dB g i):=h.imp aE fun U Q q=>aE _ _ _ (fun n o k=>by
 obtain⟨d,l,m⟩:=dg k;exact j n d _ l m) (bT q)
@[simp]noncomputable def fz:List PyData->Option PyData:=fun d=>match d with
 |[.list ds]=>some (.int ds.length)
 |[.tuple ds]=>some (.int ds.length)
 |_=>none
theorem kf:FN ze fz:=fun f d Q e q=>by
 unfold fz at e;split at e
 .cases e;exact⟨_,.inl rfl,q⟩
 .cases e;exact⟨_,.inr rfl,q⟩
 .cases e
@[simp]noncomputable def ou:List PyData->Option PyData:=fun d=>match d with
 |[.int i,.int j]=>some (.int (max i j))
 |_=>none
theorem uX:FN zf ou:=fun f d Q e q=>by
 unfold ou at e;split at e
 .cases e;exact⟨_,_,rfl,q⟩
 .cases e
@[simp]noncomputable def uY:List PyData->Option PyData:=fun d=>match d with
 |[.list ds]=>some (.tuple ds)
 |[.tuple ds]=>some (.tuple ds)
 |_=>none
theorem Np:FN zg uY:=fun f d Q e q=>by
 unfold uY at e;split at e
 .cases e;exact .inl ⟨_,rfl,q⟩
 .cases e;exact .inr ⟨_,rfl,q⟩
 .cases e
noncomputable def ints?:List PyData->Option (List Int)
 |[]=>some []
 |.int i::r=>(ints? r).map (i::·)
 |_::_=>none
noncomputable def bools?:List PyData->Option (List Bool)
 |[]=>some []
 |.bool i::r=>(bools? r).map (i::·)
 |_::_=>none
theorem zQ:∀{g f},ints? g=some f->g=f.map .int
 |[],_,e=>by cases e;rfl
 |d::r,f,e=>by
  cases d with
  |int i=>
   cases q:ints? r with
   |none=>simp[ints?,q]at e
   |some l=>simp[ints?,q]at e;subst e;rw[zQ q];rfl
  |_=>cases e
theorem zR:∀{g f},bools? g=some f->g=f.map .bool
 |[],_,e=>by cases e;rfl
 |d::r,f,e=>by
  cases d with
  |bool i=>
   cases q:bools? r with
   |none=>simp[bools?,q]at e
   |some l=>simp[bools?,q]at e;subst e;rw[zR q];rfl
  |_=>cases e
theorem Nq(d):ints? (d.map .int)=some d:=by
 induction d with
 |nil=>rfl
 |cons i r f=>simp[ints?,f]
def mu:List PyData->Option PyData:=fun d=>match d with
 |[.list ds]=>(bools? ds).map fun bs=>.bool (bs.all id)
 |_=>none
theorem Nr:FN zh mu:=fun h d Q e q=>by
 unfold mu at e;split at e
 .obtain⟨bs,f,g⟩:=Option.map_eq_some_iff.mp e;rw[zR f];subst g;exact⟨bs,rfl,q⟩
 .cases e
noncomputable def uZ:List Int->Option Int
 |[]=>none
 |i::r=>some (r.foldl max i)
theorem Nt(r:List Int):∀i,i<=r.foldl max i/\(∀a∈r,a<=r.foldl max i)/\(r.foldl max i=i\/r.foldl max i∈r):=by
 induction r with
 |nil=>intro i;exact⟨Int.le_refl _,fun a h=>(by cases h),.inl rfl⟩
 |cons j r f=>
  intro i;obtain⟨d,h2,h3⟩:=f (max i j);refine⟨Int.le_trans (Int.le_max_left _ _) d,fun a h=>?_,?_⟩
  .rcases List.mem_cons.mp h with rfl |h
   .exact Int.le_trans (Int.le_max_right _ _) d
   .exact h2 a h
  .rcases h3 with h3 |h3
   .rw[List.foldl_cons,h3];rcases Int.le_total i j with q |q
    .exact .inr (by rw[Int.max_eq_right q];exact List.mem_cons_self)
    .exact .inl (Int.max_eq_left q)
   .exact .inr (bq _ h3)
def mw:List PyData->Option PyData:=fun d=>match d with
 |[.list ds]=>((ints? ds).bind uZ).map .int
 |_=>none
theorem Nu:∀g d (Q:PyData->Prop),mw g=some d->Q d->∃f,g=[.list (f.map .int)]/\f≠[]/\∃M,d=.int M/\M∈f/\(∀a∈f,a<=M):=fun n d Q e q=>by
 unfold mw at e;split at e
 .obtain⟨M,j,k⟩:=Option.map_eq_some_iff.mp e;obtain⟨f,l,e4⟩:=Option.bind_eq_some_iff.mp j;cases f with
  |nil=>cases e4
  |cons i r=>
   cases e4;obtain⟨m,h2,h3⟩:=Nt r i;refine⟨i::r,by rw[zQ l],by simp,_,k.symm,?_,fun a h=>?_⟩
   .rcases h3 with h3 |h3
    .rw[h3];exact List.mem_cons_self
    .exact bq _ h3
   .rcases List.mem_cons.mp h with rfl |h
    .exact m
    .exact h2 a h
 .cases e
theorem Nv:FN zG mw:=fun k d Q e q=>by obtain⟨l,h1,h2,M,h3,g,h⟩:=Nu k d Q e q;refine⟨l,h1,h2,fun f i j=>?_⟩;have:f = M:=Int.le_antisymm (h f i) (j M g);rw[this,<-h3];exact q
@[simp]noncomputable def qJ(i:Nat):XM PyData:=fun U=>match U[i]? with
 |some (some (.scr ns))=>if ns.length<=63 then .ok (.int ns.length) U else .bad
 |_=>.bad
@[simp] def qK(i:Nat)(a:XM PyData):XM PyData:=fun U=>match U[i]? with
 |some (some (.scr ns))=>(a U).bind fun d=>lift (match d with |.int k=>(bI ns k).map .int |_=>none)
 |_=>.bad
@[simp]noncomputable def va(i:Nat):XM Bool:=fun U=>match U[i]? with
 |some (some (.scr ns))=>.ok (decide (ns=[])) U
 |_=>.bad
theorem zS(h:DE X F e (zm i)):FE X F E e (qJ i):=h.imp aE fun U Q q=>by
 unfold wp qJ at q;cases h:U[i]? with
 |none=>rw[h]at q;exact q.elim
 |some o=>
  rw[h]at q;cases o with
  |none=>exact q.elim
  |some c=>
   cases c with
   |scr ns=>
    simp only at q
    by_cases d:ns.length<=63
    .rw[if_pos d]at q;exact⟨ns,h,fun _=>q⟩
    .rw[if_neg d]at q;exact q.elim
   |_=>exact q.elim
theorem zT(h:DE X F e (zo i (wp E f))):FE X F E e (qK i f):=h.imp aE fun U Q q=>by
 unfold wp qK at q;cases h:U[i]? with
 |none=>rw[h]at q;exact q.elim
 |some o=>
  rw[h]at q;cases o with
  |none=>exact q.elim
  |some c=>
   cases c with
   |scr ns=>
    refine⟨ns,h,aE _ _ _ (fun d s j=>?_) (bT (m:=f) (k:=fun d=>lift (match d with |.int k=>(bI ns k).map PyData.int |_=>none)) q)⟩;obtain⟨y,g,l⟩:=dg j;cases d with
    |int k=>obtain⟨n,p,r⟩:=Option.map_eq_some_iff.mp g;subst r;exact⟨k,n,rfl,p,l⟩
    |_=>cases g
   |_=>exact q.elim
theorem Nw(h:DB X F e (zr i)):FB X F E e (va i):=h.imp aE fun U Q q=>by
 unfold wp va at q;cases h:U[i]? with
 |none=>rw[h]at q;exact q.elim
 |some o=>
  rw[h]at q;cases o with
  |none=>exact q.elim
  |some c=>
   cases c with
   |scr ns=>exact⟨ns,h,q⟩
   |_=>exact q.elim
@[simp]noncomputable def av(i:Nat):GM:=fun d U=>some (U.set i (some (.dat d)))
theorem Nx(h:DG X F e (gN i)):FG X F e (av i):=⟨fun d U Q g k q=>k _ q,h.pg.imp fun v Y H Q f=>by obtain⟨U,O,d,st,hd,q⟩:=f;exact⟨U,O,d,st,hd,q⟩⟩
abbrev ju:=List PyData->ak->Option ak
def mx(g:ju):jZ:=fun d U Q=>match g d U with
 |some f=>Q f
 |none=>False
abbrev qL(X:Cx)(F:Fx)(d:List Expr)(g:ju):Prop:=oj X F d (mx g)
@[simp]noncomputable def cI:ju:=fun d U=>match d with |[]=>some U |_=>none
@[simp]noncomputable def bt(t:GM)(u:ju):ju:=fun g U=>match g with |d::r=>(t d U).bind fun f=>u r f |[]=>none
theorem Ny:∀d U  Q f,(∀h,Q h->f h)->eI g d U Q->eI g d U f:=fun d U Q f k q=>by
 unfold eI at q ⊢;generalize g d U=o at q ⊢;cases o with
 |some h=>exact k _ q
 |none=>exact q
theorem zU:∀d U  Q f,(∀h,Q h->f h)->mx g d U Q->mx g d U f:=fun d U Q f k q=>by
 unfold mx at q ⊢;generalize g d U=o at q ⊢;cases o with
 |some h=>exact k _ q
 |none=>exact q
theorem jv:qL X F [] cI:=⟨zU,Lg.pg.imp fun v Y H Q ⟨U,O,d,st,hd,q⟩=>⟨U,O,d,st,hd,by
 unfold mx cI at q;cases d with
 |nil=>exact⟨rfl,q⟩
 |cons _ _=>exact q.elim⟩⟩
theorem dW(j:FG X F e g)(k:qL X F es f)(i:autoParam ((assignEach (e::es) X.env).map (·.2)=assign e X.env::(assignEach es X.env).map (·.2)) Zq._auto_1):qL X F (e::es) (bt g f):=⟨zU,(Lh j k i).pg.imp fun v Y H Q ⟨U,O,d,st,hd,q⟩=>⟨U,O,d,st,hd,by
 unfold mx bt at q;cases d with
 |nil=>exact q.elim
 |cons d r=>
  refine⟨d,r,rfl,?_⟩;unfold eI;simp only at q;cases h:g d U with
  |none=>rw[h]at q;exact q
  |some l=>rw[h]at q;exact q⟩⟩
@[simp]noncomputable def cJ(n:Nat)(t:ju):GM:=fun d U=>match d with |.tuple ds=>if ds.length=n then t ds U else none |_=>none
theorem jw{pos:Pos}{k }(j:X.calm=true)(h:qL X F es i)(l:autoParam ((assignEach es X.env).length=n) Zq._auto_1)(f:autoParam ((assignEach es X.env).findIdx? (·.1)=none) Zq._auto_1):FG X F (.Tuple es k pos) (cJ n i):=⟨Ny,(Lj j h l f).pg.imp fun v Y H Q ⟨U,O,d,st,hd,q⟩=>⟨U,O,d,st,hd,by
 unfold eI cJ at q;cases d with
 |tuple ds=>
  simp only at q
  by_cases g:ds.length=n
  .rw[if_pos g]at q;exact⟨ds,rfl,g,q⟩
  .rw[if_neg g]at q;exact q.elim
 |_=>exact q.elim⟩⟩
@[simp]noncomputable def aC:XM (List AX):=fun U=>.ok [] U
@[simp] def aj(a:XM PyData)(r:XM (List AX)):XM (List AX):=fun U=>(a U).bind fun d f=>(r f).bind fun as g=>.ok (.d d::as) g
@[simp] def bZ(j:Nat)(r:XM (List AX)):XM (List AX):=fun U=>match U[j]? with
 |some (some _)=>(r U).bind fun as d=>.ok (.s j::as) d
 |_=>.bad
theorem aD:FX X F E [] aC:=LM.imp aE fun _ _ q=>q
theorem Nz(j:FE X F E e g)(l:FX X F E es h)(n:autoParam (starEach (e::es) X.env=(false,eval e X.env)::starEach es X.env) Zq._auto_1):FX X F E (e::es) (aj g h):=(LN j l n).imp aE fun U Q q=>aE _ _ _ (fun d i o=>aE _ _ _ (fun r f p=>p) (bT (k:=fun as f=>fu.ok (AX.d d::as) f) o)) (bT (m:=g) (k:=fun d i=>(h i).bind fun as f=>fu.ok (AX.d d::as) f) q)
theorem NA(g:PE X (.Name x p) (cf j))(i:FX X F E es d)(l:autoParam (starEach (.Name x p::es) X.env=(false,eval (.Name x p) X.env)::starEach es X.env) Zq._auto_1):FX X F E (.Name x p::es) (bZ j d):=(LO g i l).imp aE fun U Q q=>by
 unfold wp bZ at q;cases h:U[j]? with
 |none=>rw[h]at q;exact q.elim
 |some o=>
  rw[h]at q;cases o with
  |none=>exact q.elim
  |some c=>exact⟨⟨c,h⟩,aE _ _ _ (fun as f n=>n) (bT (m:=d) (k:=fun as f=>fu.ok (AX.s j::as) f) (show wp E (fun U=>(d U).bind fun as f=>fu.ok (AX.s j::as) f) U Q from q))⟩
@[simp] def lp(f:FM)(as:List AX):XM ab:=fun U=>match gJ U as with
 |some (h,g)=>(match f h with
  |.rt c d=>.ok c (df g d (fU g U))
  |.ex c d=>.ex c (df g d (fU g U))
  |.bad=>.bad)
 |none=>.bad
@[simp] def aJ(f:FM)(a:XM (List AX)):XM ab:=fun U=>(a U).bind (lp f)
theorem NB(h:DO X F e (yX g E (wp E j))):FO X F E e (aJ g j):=h.imp aE fun U Q q=>aE _ _ _ (fun as m d=>by
 unfold wp lp at d;unfold gZ;cases l:gJ m as with
 |none=>rw[l]at d;exact d
 |some p=>
  obtain⟨n,o⟩:=p;rw[l]at d;simp only at d ⊢;cases i:g n with
  |rt c f=>rw[i]at d;exact d
  |ex c f=>rw[i]at d;exact d
  |bad=>rw[i]at d;exact d) (bT (k:=lp g) q)
@[simp] def aV(a:XM ab):XM PyData:=fun U=>(a U).bind fun c=>lift (frz c)
theorem aZ(h:FO X F E e d):FE X F E e (aV d):=h.de.imp aE fun U Q q=>aE _ _ _ (fun c g f=>dg f) (bT q)
@[simp]noncomputable def bN:SM:=fun U=>.nx U
@[simp]noncomputable def ay(m k:SM):SM:=fun U=>match m U with
 |.nx d=>k d
 |o=>o
theorem bO:iH X F E [] bN:=Lm.imp fun _ _ q=>q
theorem eM{st:Stmt}(d:FS X F E st m)(f:iH X F E rest k):iH X F E (st::rest) (ay m k):=(Ln d f).imp fun D U q=>by
 show wpS E m _ U;unfold wpS ay at q;unfold wpS;generalize m U=o at q ⊢;cases o with
 |nx g=>exact q
 |_=>exact q
theorem di{st:Stmt}(h:FS X F E st m):iH X F E [st] m:=Lo h
@[simp]noncomputable def dD{α:Type}(o:fu α)(k:α->ak->eF):eF:=match o with
 |.ok a U=>k a U
 |.ex c U=>.ex c U
 |.bad=>.bad
theorem fA{m}{k:α->SM}(q:wpS E (fun U=>dD (m U) k) D U):wp E m U fun a d=>wpS E (k a) D d:=by
 unfold wpS dD at q;unfold wp;simp only at q;generalize m U=o at q ⊢;cases o with
 |ok a d=>exact q
 |ex c d=>exact q
 |bad=>exact q
@[simp]noncomputable def vb(o:Option ak):eF:=match o with
 |some U=>.nx U
 |none=>.bad
@[simp] def bH(m:XM PyData)(g:GM):SM:=fun U=>dD (m U) fun d f=>vb (g d f)
theorem vc(q:wpS E (bH m g) D U):qD (wp E m) (eI g) D U:=aE _ _ _ (fun d h f=>by
 unfold wpS vb at f;unfold eI;simp only at f;generalize g d h=o at f ⊢;cases o with
 |some i=>exact f
 |none=>exact f) (fA (k:=fun d h=>vb (g d h)) q)
theorem NC{pos:Pos}(f:FE X F E e m)(h:FG X F d g)(i:autoParam (swapsWithSole [d] e pos.line X.env=pure false) Zq._auto_1)(j:autoParam (swappedStores [d] e X.env=pure none) Zq._auto_1)
  (k:autoParam ((assignEach [d] X.env).map (·.2)=[assign d X.env]) Zq._auto_1):FS X F E (.Assign [d] e pos) (bH m g):=(Lp f h i j k).imp fun D U q=>vc q
theorem zV{pos:Pos}(f:X.N.Nodup)(g:X.N[i]? = some x)(h:Loc X.env.scope x)(j:FE X F E e m)(k:autoParam (swapsWith e (some (.Name x d)) pos.line X.env=pure false) Zq._auto_1)
  (l:X.fn x=true\/X.env.scope.names.lookup x=some .local:=by first |exact .inl rfl |exact .inr rfl |assumption):FS X F E (.Assign [.Name x d] e pos) (bH m (av i)):=(Lq f g h j k l).imp fun D U q=>vc q
@[simp]noncomputable def vd(i:Nat)(c:ab):SM:=fun d=>if i<d.length then(match c with |.own true _=>.bad |c=>.nx (d.set i (some c))) else .bad
@[simp] def jx(i:Nat)(m:XM ab):SM:=fun U=>dD (m U) (vd i)
theorem ND{pos:Pos}(j:X.N.Nodup)(l:X.N[i]? = some x)(n:Loc X.env.scope x)(o:FO X F E e m)(p:autoParam (swapsWith e (some (.Name x g)) pos.line X.env=pure false) Zq._auto_1)
  (r:X.fn x=true\/X.env.scope.names.lookup x=some .local:=by first |exact .inl rfl |exact .inr rfl |assumption):FS X F E (.Assign [.Name x g] e pos) (jx i m):=(Ly j l n o p r).imp fun D U q=>aE _ _ _ (fun c s f=>by
 unfold wpS vd at f
 by_cases h:i<s.length
 .simp only[if_pos h]at f;cases c with
  |own io b=>cases io with
   |true=>exact f.elim
   |false=>exact⟨h,(fun _ z=>by cases z),f⟩
  |dat d=>exact⟨h,(fun _ z=>by cases z),f⟩
  |scr d=>exact⟨h,(fun _ z=>by cases z),f⟩
  |exc d=>exact⟨h,(fun _ z=>by cases z),f⟩
  |vw d=>exact⟨h,(fun _ z=>by cases z),f⟩
 .simp only[if_neg h]at f) (fA (k:=vd i) q)
@[simp] def br(m:XM PyData):SM:=fun U=>dD (m U) fun d f=>.rt (.dat d) f
@[simp] def fB(m:XM ab):SM:=fun U=>dD (m U) fun c d=>.rt c d
@[simp] def dm(m:XM ab):SM:=fun U=>dD (m U) fun _ d=>.nx d
theorem NE(g:FE X F E e m):FS X F E (.Return (some e) pos) (br m):=(yS g).imp fun D U q=>aE _ _ _ (fun c f h=>h) (fA (k:=fun d f=>.rt (.dat d) f) q)
theorem NF(g:FO X F E e m):FS X F E (.Return (some e) pos) (fB m):=(Lu g).imp fun D U q=>aE _ _ _ (fun c f h=>h) (fA (k:=fun d f=>.rt d f) q)
theorem zW(f:FO X F E e m)(g:autoParam (swapsWith e none pos.line X.env=pure false) Zq._auto_1):FS X F E (.Expr e pos) (dm m):=(LA f g).imp fun D U q=>aE _ _ _ (fun c d h=>h) (fA (k:=fun _ d=>.nx d) q)
@[simp]noncomputable def qM(i:Nat):SM:=fun U=>match U[i]? with
 |some (some (.own false b))=>.rt (.own false b) (U.set i none)
 |some (some (.dat d))=>.rt (.dat d) U
 |_=>.bad
@[simp] def bJ(t:XM Bool)(a b:SM):SM:=fun U=>dD (t U) fun x d=>if x=true then a d else b d
theorem zX{mt}(m:FB X F E d mt)(n:iH X F E j f)(o:iH X F E l g):FS X F E (.If d j l pos) (bJ mt f g):=(LC m n o).imp fun D U q=>aE _ _ _ (fun x h i=>by
 cases x with
 |true=>exact ei i
 |false=>exact eh i) (fA (k:=fun x h=>if x=true then f h else g h) q)
@[simp]noncomputable def zY:SM:=fun U=>.bk U
theorem NG:FS X F E (.Break pos) zY:=Nc.imp fun _ _ q=>q
@[simp] def ve(i:Nat)(m:XM PyData)(g:Int->Int->Int):SM:=fun U=>match U[i]? with
 |some (some (.dat (.int k)))=>dD (m U) fun d f=>(match d with |.int l=>.nx (f.set i (some (.dat (.int (g k l))))) |_=>.bad)
 |_=>.bad
noncomputable def cq(d n:String):Option Bool:=if d=n then some true else
 if d="bool"/\n="int" then some true else
 if (d="int"\/d="bool"\/d="str"\/d="list"\/d="tuple"\/d="NoneType")/\(n="int"\/n="bool"\/n="str"\/n="list"\/n="tuple") then some false else none
theorem NH(h:cq d n=some b)(K):kitOne K (.type d) (.type n)=some b:=by
 unfold cq at h;split at h
 .rename_i e;cases h;subst e;unfold kitOne;rw[if_pos (by simp)]
 .split at h
  .rename_i e;cases h;obtain⟨rfl,rfl⟩:=e;rfl
  .rename_i a c;split at h
   .rename_i e;cases h;obtain⟨f,g⟩:=e;rcases f with rfl |rfl |rfl |rfl |rfl |rfl<;>rcases g with rfl |rfl |rfl |rfl |rfl<;>first |rfl |(exact absurd rfl a) |(exact absurd ⟨rfl,rfl⟩ c)
   .cases h
@[simp] def jy(n:String)(a:XM PyData):XM PyData:=fun U=>(a U).bind fun d=>lift ((cq (uA d) n).map .bool)
theorem kg(h:DE X F e (yM n (wp E f))):FE X F E e (jy n f):=h.imp aE fun U Q q=>aE _ _ _ (fun d m g=>by
 obtain⟨y,i,j⟩:=dg g;obtain⟨b,k,l⟩:=Option.map_eq_some_iff.mp i;subst l;exact⟨b,NH k,j⟩) (bT q)
theorem zZ(m:PE X (.Name x l) (cf i)):FS X F E (.Return (some (.Name x l)) pos) (qM i):=fun g s Y H D I j=>by
 obtain⟨U,O,p,k,q,f⟩:=j;unfold wpS qM at q;cases h:U[i]? with
 |none=>rw[h]at q;exact q.elim
 |some o=>
  rw[h]at q;cases o with
  |none=>exact q.elim
  |some c=>
   cases c with
   |own io b=>cases io with
    |true=>exact q.elim
    |false=>exact Lw m g s Y H D I ⟨U,O,p,k,⟨b,h,q⟩,f⟩
   |dat d=>exact yS (yy i m) g s Y H D I ⟨U,O,p,k,.inl ⟨d,h,q⟩,f⟩
   |scr n=>exact q.elim
   |exc n=>exact q.elim
   |vw n=>exact q.elim
theorem NJ{st:Stmt}{op:Operator}{pos':Pos}(h:DS X F st (yT i (wp E m) g)):FS X F E st (ve i m g):=h.imp fun D U q=>by
 unfold wpS ve at q;cases h:U[i]? with
 |none=>rw[h]at q;exact q.elim
 |some o=>
  rw[h]at q;cases o with
  |none=>exact q.elim
  |some c=>
   cases c with
   |dat d=>cases d with
    |int k=>
     refine⟨k,h,aE _ _ _ (fun d f j=>?_) (fA (m:=m) (k:=fun d f=>(match d with |.int l=>eF.nx (f.set i (some (.dat (.int (g k l))))) |_=>.bad)) (show wpS E (fun U=>dD (m U) fun d f=>(match d with |.int l=>eF.nx (f.set i (some (.dat (.int (g k l))))) |_=>.bad)) D U from q))⟩;unfold wpS at j;cases d with
     |int l=>exact⟨l,rfl,j⟩
     |_=>exact j.elim
    |_=>exact q.elim
   |_=>exact q.elim
noncomputable def bU(g:GM)(b:SM):List PyData->SM
 |[],U=>.nx U
 |d::r,U=>(match g d U with
  |some h=>(match b h with
   |.nx f=>bU g b r f
   |.ct f=>bU g b r f
   |.bk f=>.nx f
   |o=>o)
  |none=>.bad)
@[simp] def fC(s:XM (List PyData))(g:GM)(b:SM):SM:=fun U=>dD (s U) (bU g b)
theorem Aa(t:PassesOwn (model X.prog X.w) X.A X.env X.xe)(u:X.calm=true)(f:FI X F E n iter s)(v:FG X F n g)(G:iH X F E body l)(y:autoParam (∀x,foldedSetIterable iter X.env x=pure x) Zs._auto_1):FS X F E (.For n iter body [] pos) (fC s g l):=
 (Ma t u f v G y).imp fun D U q=>aE _ _ _ (fun j p z=>by
  refine⟨fun i U=>wpS E (bU g l (j.drop i)) D U,z,fun i d U hd f=>?_,fun U h=>?_⟩
  .have e:j.drop i=d::j.drop (i+1):=by obtain⟨r,B⟩:=List.getElem?_eq_some_iff.mp hd;rw[<-B];exact List.drop_eq_getElem_cons r
   simp only[e]at f;unfold wpS bU at f;unfold eI;generalize g d U=o at f ⊢;cases o with
   |none=>exact f
   |some p=>
    show wpS E l _ p;simp only at f;unfold wpS;generalize l p=C at f ⊢;cases C with
    |nx m=>exact f
    |ct m=>exact f
    |bk m=>exact f
    |rt c m=>exact f
    |ex c m=>exact f
    |bad=>exact f
  .simp only[List.drop_length]at h;exact h) (fA (k:=bU g l) q)
def hU(c:XM Bool)(b:SM):Nat->SM
 |0,_=>.bad
 |n+1,U=>dD (c U) fun t f=>if t=true then(match b f with
   |.nx d=>hU c b n d
   |.ct d=>hU c b n d
   |.bk d=>.nx d
   |o=>o) else .nx f
theorem dE{p:Nat->Prop}:(∃k,p k)->∃k,p k/\∀j,p j->k<=j:=by
 rintro⟨k,d⟩
 induction k using Nat.strongRecOn with
 |_ k f=>
  by_cases h:∃j,j<k/\p j
  .obtain⟨j,h1,h2⟩:=h;exact f j h1 h2
  .exact⟨k,d,fun j g=>Nat.le_of_not_lt fun z=>h ⟨j,z,g⟩⟩
theorem NK(y:PassesOwn (model X.prog X.w) X.A X.env X.xe)(z:FB X F E l i)(C:iH X F E body g):FS X F E (.While l body [] pos) (hU i g n):=
 (Mc y z C).imp fun D U q=>by
  classical
  let ok:Nat->ak->Prop:=fun k U=>wpS E (hU i g k) D U;let p:ak->Prop:=fun U=>∃k,ok k U;let μ:ak->Nat:=fun U=>if h:p U then(dE h).choose else 0
  have u:∀U,p U->ok (μ U) U/\∀j,ok j U->μ U<=j:=fun U h=>by rw[show μ U=(dE h).choose from dif_pos h];exact(dE h).choose_spec
  refine⟨p,μ,⟨n,q⟩,fun U G=>?_⟩;have h1:ok (μ U) U:=(u U G).1;cases v:μ U with
  |zero=>rw[v]at h1;exact h1.elim
  |succ k=>
   rw[v]at h1;have less:∀d,ok k d->p d/\μ d<k+1:=fun d s=>⟨⟨k,s⟩,Nat.lt_succ_of_le ((u d ⟨k,s⟩).2 k s)⟩
   refine aE _ _ _ (fun t r f=>?_) (fA (m:=i) (k:=fun t r=>if t=true then(match g r with |.nx d=>hU i g k d |.ct d=>hU i g k d |.bk d=>.nx d |o=>o) else .nx r) h1);cases t with
   |false=>exact eh f
   |true=>
    refine ei ?_;unfold wpS at f ⊢;simp only[if_true]at f;generalize g r=B at f ⊢;cases B with
    |nx d=>exact less d f
    |ct d=>exact less d f
    |bk d=>exact f
    |rt c d=>exact f
    |ex c d=>exact f
    |bad=>exact f
@[simp] def jz(a:XM PyData):XM (List PyData):=fun U=>(a U).bind fun d=>lift (match d with |.list ds=>some ds |_=>none)
@[simp] def kh(a:XM PyData):XM (List PyData):=fun U=>(a U).bind fun d=>lift (match d with |.tuple ds=>some ds |_=>none)
theorem DI.imp(h:DI X F g iter t)(l:∀U Q i,(∀d j,Q d j->i d j)->t' U Q->t' U i)(k:∀U Q,t' U Q->t U Q):DI X F g iter t':=⟨l,h.pi.imp fun Y H Q f=>by obtain⟨U,O,st,q⟩:=f;exact⟨U,O,st,k U _ q⟩⟩
theorem lq(h:FE X F E e f):FI X F E i e (jz f):=(LV h).imp aE fun U Q q=>aE _ _ _ (fun d l j=>by
 obtain⟨y,g,k⟩:=dg j;cases d with
 |list ds=>cases g;exact⟨_,rfl,k⟩
 |_=>cases g) (bT q)
theorem lr(h:FE X F E e f):FI X F E i e (kh f):=(LW h).imp aE fun U Q q=>aE _ _ _ (fun d l j=>by
 obtain⟨y,g,k⟩:=dg j;cases d with
 |tuple ds=>cases g;exact⟨_,rfl,k⟩
 |_=>cases g) (bT q)
@[simp] def er(g:List PyData->Option (List PyData))(a:XM (List PyData)):XM (List PyData):=fun U=>(a U).bind fun d=>lift (g d)
@[simp] def cu:List PyData->Option (List PyData):=fun d=>match d with
 |[.int j]=>if (decide (-(2 ^ 62)<=j)&&decide (j<2 ^ 62))=true then some (intsFrom 0 j.toNat) else none
 |_=>none
theorem my(h:DI X F f e (yY (wp E g))):FI X F E f e (er cu g):=h.imp aE fun U Q q=>aE _ _ _ (fun l k i=>by
 obtain⟨y,d,j⟩:=dg i;unfold cu at d;split at d
 .split at d
  .rename_i h;cases d;simp only[Bool.and_eq_true,decide_eq_true_eq]at h;exact⟨_,rfl,h.1,h.2,j⟩
  .cases d
 .cases d) (bT q)
@[simp] def ls:List PyData->Option (List PyData):=fun d=>match d with
 |[.list ds]=>some (numbered ds)
 |_=>none
theorem NL(h:DI X F f e (iE (wp E g))):FI X F E f e (er ls g):=h.imp aE fun U Q q=>aE _ _ _ (fun l k i=>by
 obtain⟨y,d,j⟩:=dg i;unfold ls at d;split at d
 .cases d;exact⟨_,rfl,j⟩
 .cases d) (bT q)
noncomputable def bD(g:GM)(t:XM Bool)(m:XM PyData):List PyData->List PyData->ak->Option (List PyData)
 |[],f,_=>some f
 |d::r,f,U=>(match g d U with
  |some i=>(match t i with
   |.ok true h=>(match m h with
    |.ok y j=>if f.length<sizeLine then bD g t m r (f++[y]) j else none
    |_=>none)
   |.ok false h=>bD g t m r f h
   |_=>none)
  |none=>none)
@[simp] def iJ(own:Nat)(d:List Nat)(U:ak):ak:=List.replicate own none++d.map fun j=>yZ U[j]?
@[simp] def Ab(own:Nat)(d:List Nat)(g:GM)(t:XM Bool)(m:XM PyData)(f:List PyData):XM PyData:=fun h=>lift ((bD g t m f [] (iJ own d h)).bind fun i=>if i.length<=sizeLine then some (.list i) else none) h
@[simp] def eN(own:Nat)(d:List Nat)(s:XM (List PyData))(g:GM)(t:XM Bool)(m:XM PyData):XM PyData:=fun U=>(s U).bind (Ab own d g t m)
abbrev eO:Str->ak->Prop:=fun _ _=>False
theorem Ac(q:wp E (eN own.length j s g t m) U Q):on own j (wp E s) (eI g) (wp eO t) (wp eO m) U Q:=aE _ _ _ (fun l r G=>by
 obtain⟨y,H,A⟩:=dg (o:=(bD g t m l [] (iJ own.length j r)).bind fun p=>if p.length<=sizeLine then some (PyData.list p) else none) (U:=r) (E:=E) (Q:=Q) G;obtain⟨n,I,u⟩:=Option.bind_eq_some_iff.mp H;have B:n.length<=sizeLine/\y=.list n:=by
  split at u
  .rename_i h;cases u;exact⟨h,rfl⟩
  .cases u
 have J:fV own j r=iJ own.length j r:=by unfold fV iJ;rw[List.map_const']
 refine⟨fun i p U=>bD g t m (l.drop i) p U=some n,by rw[J];exact I,fun i d p U hd f=>?_,fun p U h=>?_⟩
 .have e:l.drop i=d::l.drop (i+1):=by obtain⟨v,L⟩:=List.getElem?_eq_some_iff.mp hd;rw[<-L];exact List.drop_eq_getElem_cons v
  simp only[e]at f;unfold bD at f;unfold eI;cases C:g d U with
  |none=>rw[C]at f;cases f
  |some M=>
   rw[C]at f;simp only at f ⊢;unfold wp;cases w:t M with
   |ex c D=>rw[w]at f;cases f
   |bad=>rw[w]at f;cases f
   |ok b D=>
    rw[w]at f;cases b with
    |false=>exact eh f
    |true=>
     refine ei ?_;simp only at f ⊢;cases z:m D with
     |ex c N=>rw[z]at f;cases f
     |bad=>rw[z]at f;cases f
     |ok O N=>
      rw[z]at f;simp only at f ⊢;split at f
      .rename_i h;exact⟨h,f⟩
      .cases f
 .simp only[List.drop_length]at h;have:p=n:=by unfold bD at h;exact Option.some.inj h
  subst this;rw[B.2]at A;exact⟨B.1,A⟩) (bT (k:=Ab own.length j g t m) q)
abbrev mz(X:Cx)(F:Fx)(E:Str->ak->Prop)(d:List Expr)(m:XM Bool):Prop:=lZ X F d (wp E m)
noncomputable def cO:XM Bool:=fun U=>.ok true U
theorem jA:mz X F E [] cO:=⟨aE,fun d s Y H Q I f=>by obtain⟨U,O,st,q⟩:=f;exact Me.2 d s Y H Q I ⟨U,O,st,q⟩⟩
theorem ow(h:FB X F E c d):mz X F E [c] d:=Mf h
theorem iK(w:GF X.mg F)(S:af X d own f h)(y:X.calm=true)(z:own.length=n)(A:FI X F E l iter s)
  (o:∀C p r u v k,GF X.mg k->FG (bX X d (own++f) C p r u v) k l g/\mz (bX X d (own++f) C p r u v) k eO j t/\FE (bX X d (own++f) C p r u v) k eO i m)
  (B:autoParam (∀x,foldedSetIterable iter X.env x=pure x) Zs._auto_1):FE X F E (.ListComp i [⟨l,iter,j,0⟩] d pos) (eN n h s g t m):=by
 subst z;exact(Mg w S y A o B).imp aE fun U Q q=>Ac q
theorem Ad{j}(H:X.N.Nodup)(r:X.N[i]? = some y)(I:Loc X.env.scope y)(J:GF X.mg F)(S:af X f own capN caps)(L:X.calm=true)(M:own.length=n)(O:FI X F E o iter s)
  (u:∀C v w z B p,GF X.mg p->FG (bX X f (own++capN) C v w z B) p o g/\mz (bX X f (own++capN) C v w z B) p eO l t/\FE (bX X f (own++capN) C v w z B) p eO k m)
  (A:autoParam (swapsWith (.ListComp k [⟨o,iter,l,0⟩] f pos) (some (.Name y py)) j.line X.env=pure true) Zq._auto_1)
  (R:autoParam (∀x,foldedSetIterable iter X.env x=pure x) Zs._auto_1) (T:X.fn y=true\/X.env.scope.names.lookup y=some .local:=by first |exact .inl rfl |exact .inr rfl |assumption) :
  FS X F E (.Assign [.Name y py] (.ListComp k [⟨o,iter,l,0⟩] f pos) j) (bH (eN n caps s g t m) (av i)):=by
 subst M;exact(Mh H r I J S L O u A R T).imp fun D U q=>by have Y:=vc q;exact uM (s:=wp E s) aE U _ _ (fun d G h=>h) (Ac (Q:=fun d G=>eI (av i) d G D.nx) Y)
theorem aB.fresh{K:Frag}(st:aB K F H Y U O)(c:H p=none)(d:Mv o):∃O',aB K (F.plus [p]) (aI H p o) Y U O'/\aP O H O' (aI H p o):=by obtain⟨O',h1,h2,_⟩:=aB.swap (L:=[]) (L':=[p]) (H':=aI H p o) (F:=F) st (fun b u _ e=>bS c b u e) (by simp) (fun a h=>.inr (by obtain rfl:=List.mem_singleton.mp h;exact c)) (fun a h=>by cases h) (fun a h=>by obtain rfl:=List.mem_singleton.mp h;exact⟨o,cK,d⟩);exact⟨O',h1,h2⟩
theorem aB.new1{K:Frag}(st:aB K F H Y U O)(c:H p=none):∀a∈[p],a∈F.A₀\/F.H₀ a=none:=fun a h=>by
 obtain rfl:=List.mem_singleton.mp h
 by_cases b:a∈F.A₀
 .exact .inl b
 .refine .inr ?_;cases e:F.H₀ a with
  |none=>rfl
  |some o=>obtain⟨W,h,_⟩:=st;have:=h.kept a o b e;rw[c]at this;cases this
def NM(t:dk):gG:=fun U Q=>t U fun d f=>d.length<=sizeLine/\Q (.own false (.l d)) f
theorem NN(h:DA X F es j):DO X F (.List es pos) (NM j):=
 ⟨fun _ _ _ k q=>h.mn _ _ _ (fun _ _ d=>⟨d.1,k _ _ d.2⟩) q,(qk h.pa).imp fun Y H Q f=>by obtain⟨U,O,st,q⟩:=f;exact 
  ⟨U,O,st,h.mn _ _ _ (fun w t d vs u v g r l=>⟨by rw[l.length];exact d.1,fun p m=>by
   obtain⟨s,i,n⟩:=g.fresh (o:=.lst vs) m trivial;exact d.2 _ _ s [p] ⟨i,⟨p,rfl,rfl,vs,cK,aG.mono n.hid l⟩,g.new1 m⟩ (r.trans n)⟩) q⟩⟩
@[simp] def jB(a:XM (List PyData)):XM ab:=fun U=>(a U).bind fun d=>lift (if d.length<=sizeLine then some (.own false (.l d)) else none)
theorem mB(h:FA X F E es g):FO X F E (.List es pos) (jB g):=(NN h).imp aE fun U Q q=>aE _ _ _ (fun l k i=>by
 obtain⟨d,f,j⟩:=dg i;split at f
 .rename_i h;cases f;exact⟨h,j⟩
 .cases f) (bT q)
@[simp]noncomputable def vf(i:Nat)(d:PyData):SM:=fun f=>match f[i]? with
 |some (some (.own io (.l ds)))=>if ds.length<sizeLine then .nx (f.set i (some (.own io (.l (ds++[d]))))) else .bad
 |_=>.bad
@[simp] def jC(i:Nat)(m:XM PyData):SM:=fun U=>match U[i]? with
 |some (some (.own _ (.l _)))=>dD (m U) (vf i)
 |_=>.bad
theorem Ae{pos:Pos}(Q:PE X (.Name x r) (cf i))(R:FE X F E e m)(z:autoParam (swapsWith (.Call (.Attribute (.Name x r) "append" apos) [e] [] g) none pos.line X.env=pure false) Zq._auto_1)
  (n:autoParam (attributeBase (.Name x r) "append" X.env (eval (.Name x r) X.env)=eval (.Name x r) X.env) Zq._auto_1)
  (t:autoParam (((backTo g (starEach [e] X.env)).all (fun x=>!x.1)&&(backToKw g (keywordEach [] X.env)).all (fun x=>x.1.isSome)&&decide (([e]:List Expr).length+([]:List Keyword).length+(if ([]:List Keyword).isEmpty then 0 else 1)<30))=true) Zq._auto_1)
  (p:autoParam ((apos.endLine==g.line)=true) Zq._auto_1) (N:autoParam (starEach [e] X.env=(false,eval e X.env)::starEach [] X.env) Zq._auto_1) (j:autoParam ((backTo g (starEach [] X.env)).any (·.1)=false) Zq._auto_1) :
  FS X F E (.Expr (.Call (.Attribute (.Name x r) "append" apos) [e] [] g) pos) (jC i m):=
 (tI (uf PySem.F.plainAttrs_list PySem.F.slot_list_append PySem.F.type_list_append yd Q (em R.pe fm N) n t p N j) z).imp fun D Y H u=>by
  obtain⟨U,O,DD,st,q,f⟩:=u;unfold wpS jC at q;cases A:U[i]? with
  |none=>rw[A]at q;exact q.elim
  |some o=>
   rw[A]at q;cases o with
   |none=>exact q.elim
   |some S=>
    cases S with
    |dat d=>exact q.elim
    |scr d=>exact q.elim
    |exc d=>exact q.elim
    |vw d=>exact q.elim
    |own T b0=>
     cases b0 with
     |m _ _=>exact q.elim
     |o _ _=>exact q.elim
     |sd _=>exact q.elim
     |ll _=>exact q.elim
     |pr _ _ _=>exact q.elim
     |l Z=>
      obtain⟨a,fp,v,⟨_,xs,hH,_⟩,_,_⟩:=st.box A;refine⟨_,v,.inl ⟨rfl,xs,.of hH⟩,U,O,st,aE _ _ _ (fun d U1 h w H1 O1 B s1 d1=>?_) (fA (m:=m) (k:=vf i) q)⟩;unfold wpS vf at h;cases h1:U1[i]? with
      |none=>rw[h1]at h;exact h.elim
      |some o=>
       rw[h1]at h;cases o with
       |none=>exact h.elim
       |some c1=>
        cases c1 with
        |dat d=>exact h.elim
        |scr d=>exact h.elim
        |exc d=>exact h.elim
        |vw d=>exact h.elim
        |own a0 b1=>
         cases b1 with
         |m _ _=>exact h.elim
         |o _ _=>exact h.elim
         |sd _=>exact h.elim
         |ll _=>exact h.elim
         |pr _ _ _=>exact h.elim
         |l ds=>
          simp only at h;obtain⟨a1,a2,y,⟨e1,C,I,hd⟩,hO,up⟩:=B.box h1;rw[v]at y;cases y;subst e1
          by_cases J:ds.length<sizeLine
          .rw[if_pos J]at h;refine⟨a,C,w,rfl,rfl,I,by rw[hd.length];exact J,?_⟩;obtain⟨O2,L,s2,_⟩:=up (aI H1 a (.lst (C++[w]))) (.l (ds++[d])) [a] (fun c o M e=>by rw[bv (by simpa using M)];exact e) (by simp) (fun c M=>.inl M) (fun G O' s hG _=>by
            subst hG;exact⟨s.hid,rfl,C++[w],cK,(aG.mono s.hid hd).append (.cons (DV.mono s.hid d1) .nil)⟩)
           exact f.nx _ _ _ _ L (s1.trans s2) h
          .rw[if_neg J]at h;exact h.elim
@[simp]noncomputable def NO:ab->Option PyData
 |.dat (.list ds)=>some (.int ds.length)
 |.dat (.tuple ds)=>some (.int ds.length)
 |.own _ (.l ds)=>some (.int ds.length)
 |_=>none
@[simp] def vg(i:Nat):XM PyData:=fun U=>match U[i]? with
 |some (some c)=>lift (NO c) U
 |_=>.bad
theorem NP{F:Fx}{E:Str->ak->Prop}{pos:Pos}{p }(u:Gl X "len")(w:X.mg "len" = none)(h:PE X (.Name x k) (cf i))(t:autoParam (starEach [.Name x k] X.env=(false,eval (.Name x k) X.env)::starEach [] X.env) Zq._auto_1)(r:autoParam ((backTo pos (starEach [] X.env)).any (·.1)=false) Zq._auto_1) :
  FE X F E (.Call (.Name "len" p) [.Name x k] [] pos) (vg i):=
 ⟨aE,(ql iz u w PySem.boot_len (em h fm t) (by decide) (by decide) t r).imp fun Y H Q f=>by
  obtain⟨U,O,st,q⟩:=f;unfold wp vg at q;cases m:U[i]? with
  |none=>rw[m]at q;exact q.elim
  |some o=>
   rw[m]at q;cases o with
   |none=>exact q.elim
   |some y=>
    unfold lift at q;cases y with
    |scr d=>exact q.elim
    |exc d=>exact q.elim
    |vw d=>exact q.elim
    |dat d=>
     obtain⟨v,n,hd⟩:=st.dat m;cases d with
     |list ds=>obtain⟨a,g,rfl,s,j⟩:=hd.lst_inv;exact⟨_,n,a,g,rfl,.inl (.of (cT s).1),by rw[j.length];exact q _ H O st .refl (.int _)⟩
     |tuple ds=>obtain⟨a,g,rfl,s,j⟩:=hd.tup_inv;exact⟨_,n,a,g,rfl,.inr (.inl (fM s).1),by rw[j.length];exact q _ H O st .refl (.int _)⟩
     |_=>exact q.elim
    |own io b=>
     cases b with
     |l ds=>obtain⟨a,A,n,⟨_,g,z,j⟩,_,_⟩:=st.box m;exact⟨_,n,a,g,rfl,.inl (.of z),by rw[j.length];exact q _ H O st .refl (.int _)⟩
     |_=>exact q.elim⟩
noncomputable def iM:PyData->Option be
 |.int i=>some (.inl i)
 |.str x=>some (.inr x)
 |_=>none
def iN:List PyData->Option (List be)
 |[]=>some []
 |d::r=>(match iM d,iN r with |some k,some l=>some (k::l) |_,_=>none)
def hV:Bool->PyData->Option (List be)
 |false,d=>(iM d).map fun k=>[k]
 |true,.tuple ds=>iN ds
 |true,_=>none
abbrev jD:=List (PyData×PyData)
def ki(a:Bool):jD->List be->Option PyData
 |[],_=>none
 |p::r,k=>if hV a p.1=some k then some p.2 else ki a r k
def lu(a:Bool)(k:List be)(v:PyData):jD->jD
 |[]=>[]
 |p::r=>(if hV a p.1=some k then(p.1,v) else p)::lu a k v r
def kj(b:Bool)(a:jD)(d:PyData)(k:List be)(v:PyData):jD:=if (ki b a k).isSome=true then lu b k v a else a++[(d,v)]
theorem Af(h:DV G v d)(e:iM d=some k):v=kV k:=by
 cases d with
 |int i=>cases e;exact h.int_inv
 |str x=>cases e;exact h.str_inv
 |_=>cases e
theorem vh:iM (gX k)=some k:=by cases k<;>rfl
theorem Ag(e:iM d=some k):d=gX k:=by
 cases d with
 |int i=>cases e;rfl
 |str x=>cases e;rfl
 |_=>cases e
theorem Ah:∀{a},iN (a.map gX)=some a
 |[]=>rfl
 |k::r=>by show(match iM (gX k),iN (r.map gX) with |some k,some l=>some (k::l) |_,_=>none)=_;rw[vh,Ah]
theorem vi:∀{b a},iN b=some a->b=a.map gX
 |[],a,e=>by cases e;rfl
 |d::r,a,e=>by
  unfold iN at e;cases h1:iM d with
  |none=>rw[h1]at e;cases e
  |some k=>
   cases h2:iN r with
   |none=>rw[h1,h2]at e;cases e
   |some l=>rw[h1,h2]at e;cases e;rw[Ag h1,vi h2];rfl
theorem Ai:∀{vs}{a:List be},aG G vs (a.map gX)->vs=a.map kV
 |[],[],_=>rfl
 |_::_,k::r,.cons h1 h2=>by rw[Af h1 vh,Ai h2];rfl
theorem Aj[DecidableEq κ]{R:κ->PyData->Prop}{G}{f}{inj:κ->List be}(g:∀k d,R k d->hV f d=some (inj k))(j:∀a b,inj a=inj b->a=b) :
  ∀{i}{c:jD} k,Paired (fun(p:κ×V) (q:PyData×PyData)=>R p.1 q.1/\DV G p.2 q.2) i c->(iA i k=none/\ki f c (inj k)=none)\/∃v d,iA i k=some v/\ki f c (inj k)=some d/\DV G v d
 |[],[],k,_=>.inl ⟨rfl,rfl⟩
 |p::r,q::s,k,.cons h t=>by
  by_cases e:p.1=k
  .refine .inr ⟨p.2,q.2,uk e,?_,h.2⟩;unfold ki;rw[if_pos (by rw[g _ _ h.1,e])]
  .rw[um e];unfold ki;rw[if_neg (by rw[g _ _ h.1];exact fun z=>e (j _ _ (Option.some.inj z)))];exact Aj g j k t
theorem Ak[DecidableEq κ]{R:κ->PyData->Prop}{G}{i}{inj:κ->List be}(f:∀k d,R k d->hV i d=some (inj k))(j:∀a b,inj a=inj b->a=b){v}{x}(l:DV G v x) :
  ∀{m}{c:jD} k,Paired (fun(p:κ×V) (q:PyData×PyData)=>R p.1 q.1/\DV G p.2 q.2) m c->Paired (fun(p:κ×V) (q:PyData×PyData)=>R p.1 q.1/\DV G p.2 q.2) (m.map fun g=>if g.1=k then(g.1,v) else g) (lu i (inj k) x c)
 |[],[],k,_=>.nil
 |p::r,q::s,k,.cons h t=>by
  refine .cons ?_ (Ak f j l k t);dsimp only
  by_cases e:p.1=k
  .rw[if_pos e,if_pos (by rw[f _ _ h.1,e])];exact⟨h.1,l⟩
  .rw[if_neg e,if_neg (by rw[f _ _ h.1];exact fun z=>e (j _ _ (Option.some.inj z)))];exact h
theorem Al:∀{a b}{c:List α}{vs},Paired R a b->Paired R c vs->Paired R (a++c) (b++vs)
 |_,_,_,_,.nil,h=>h
 |_,_,_,_,.cons h t,r=>.cons h (Al t r)
theorem Am[DecidableEq κ]{R:κ->PyData->Prop}{G}{g}{inj:κ->List be}(i:∀k d,R k d->hV g d=some (inj k))(j:∀a b,inj a=inj b->a=b){v}{x d}(l:DV G v x)
  {m}{c:jD}{k}(hd:R k d) (h:Paired (fun(p:κ×V) (q:PyData×PyData)=>R p.1 q.1/\DV G p.2 q.2) m c):Paired (fun(p:κ×V) (q:PyData×PyData)=>R p.1 q.1/\DV G p.2 q.2) (eW m k v) (kj g c d (inj k) x):=by
 rcases Aj i j k h with⟨e,f⟩ |⟨n,o,e,f,_⟩
 .rw[Jq v e];unfold kj;rw[f,if_neg (by simp)];exact Al h (.cons ⟨hd,l⟩ .nil)
 .unfold kj;rw[f,if_pos (by rfl)];unfold eW;rw[if_pos (by rw[qm,e];rfl)];exact Ak i j l k h
theorem fc:∀k  d,gX k=d->hV false d=some [k]:=fun k d e=>by subst e;show(iM (gX k)).map _=_;rw[vh];rfl
theorem vj:∀(a b:be),[a]=[b]->a=b:=fun a b e=>by cases e;rfl
theorem ox:∀k  d,qu k=d->hV true d=some k:=fun k d e=>by subst e;exact Ah
@[simp] def oy(a:Bool)(d:PyData):Option (List be):=match d with
 |.tuple []=>none
 |d=>hV a d
theorem NQ(e:oy a d=some k):hV a d=some k/\d≠.tuple []:=by
 unfold oy at e;split at e
 .cases e
 .rename_i h;exact⟨e,h⟩
theorem An:∀{ds k},iN ds=some k->ds≠[]->cL ds=false
 |[],_,_,h=>absurd rfl h
 |[d],k,e,_=>by cases d<;>first |rfl |(simp[iN,iM]at e)
 |d::f::r,k,e,_=>by
  unfold iN at e;split at e
  .rename_i g l a b;have c:=An (ds:=f::r) b (by simp);cases d<;>first |(exact(by simpa[cL] using c)) |(exfalso;simp[iM]at a)
  .cases e
theorem NR{kvs:jD}(h:jj G H a tk kvs)(p:bR G H)(i:DV G y d)(j:DV G v x)(e:oy tk d=some k)(l:kvs.length<sizeLine) :
  ∃o,kW H a y v (aI H a o)/\Mv o/\∀c,bR G c->jj c (aI H a o) a tk (kj tk kvs d k x):=by
 obtain⟨e,f⟩:=NQ e;cases tk with
 |false=>obtain⟨q,g,pr⟩:=h;obtain⟨u,m,r⟩:=Option.map_eq_some_iff.mp e;subst r;obtain rfl:=Af i m;refine⟨_,.k g (by rw[Paired.length pr];exact l),trivial,fun c s=>⟨_,cK,Am fc vj (DV.mono s j) (Ag m).symm (Paired.mapP pr fun _ _ z=>⟨z.1,DV.mono s z.2⟩)⟩⟩
 |true=>
  obtain⟨q,g,pr⟩:=h;cases d with
  |tuple ds=>obtain⟨b,w,rfl,hb,n⟩:=i.tup_invK (An e fun z=>f (by rw[z]));rw[vi e]at n;rw[Ai n]at hb;exact⟨_,.t g (p _ _ hb) (by rw[Paired.length pr];exact l),trivial,fun c s=>⟨_,cK,Am (inj:=id) ox (fun _ _ z=>z) (DV.mono s j) (show qu k=_ by unfold qu;rw[<-vi e]) (Paired.mapP pr fun _ _ z=>⟨z.1,DV.mono s z.2⟩)⟩⟩
  |_=>cases e
@[simp] def vk:List PyData->Option PyData:=fun f=>match f with
 |[.list as,.list bs,.list d]=>if bs.length=as.length/\d.length=as.length/\0<as.length then some (.list (oo as bs d)) else none
 |_=>none
theorem NS(h:DE X F e (zj (wp E g))):FE X F E e (dB vk g):=h.imp aE fun U Q q=>aE _ _ _ (fun l k i=>by
 obtain⟨d,f,j⟩:=dg i;unfold vk at f;split at f
 .split at f
  .rename_i h;cases f;exact⟨_,_,_,rfl,h.1,h.2.1,h.2.2,j⟩
  .cases f
 .cases f) (bT q)
@[simp]noncomputable def Ao(k:Nat):PyData->Option PyData:=fun d=>match d with |.list ds=>some (.list (ds.drop k)) |_=>none
@[simp] def xU(g:PyData->Option PyData)(a:XM PyData):XM PyData:=fun U=>(a U).bind fun d=>lift (g d)
theorem NT(h:DE X F e (zl (wp E f) k)):FE X F E e (xU (Ao k) f):=h.imp aE fun U Q q=>aE _ _ _ (fun d l i=>by
 obtain⟨y,g,j⟩:=dg i;cases d with
 |list ds=>cases g;exact⟨_,rfl,j⟩
 |_=>cases g) (bT q)
noncomputable def oz:Value->V
 |.bool b=>.bl b
 |.int i _=>.int i
 |.str x _=>.str x
 |_=>.non
theorem Ap(r:bf v z)(f:jg v=true):oz z=v:=by
 cases v with
 |non=>cases r;rfl
 |bl b=>cases r;rfl
 |int i=>obtain⟨t,rfl⟩:=r;rfl
 |str i=>obtain⟨t,rfl⟩:=r;rfl
 |_=>cases f
theorem Aq(e:bf y u)(f:jg y=true):∀{c a},bi c a->c.all jg=true->(∀z∈a,SeqAt.EqAt A s z u (jh (oz z) y))/\a.map oz=c
 |_,_,.nil,_=>⟨(fun _ h=>nomatch h),rfl⟩
 |_,_,.cons h t,b=>by
  rw[List.all_cons,Bool.and_eq_true]at b;obtain⟨g,h2⟩:=Aq (A:=A) (s:=s) e f t b.2;refine⟨fun z d=>?_,?_⟩
  .rcases List.mem_cons.mp d with rfl |d
   .rw[Ap h b.1];exact Jc h e b.1 f
   .exact g z d
  .rw[List.map_cons,h2,Ap h b.1]
def Ar:V->List V->Hp->VK->Prop:=fun x vs H Q=>∃l d y,x=.ref l/\vs=[y]/\H l=some (.lst d)/\d.all jg=true/\jg y=true/\Q (.int (d.countP fun z=>jh z y:Nat)) H
theorem NU:ua X "list.count" Ar:=by
 intro f s Y H x vs v w Q I g i h;obtain⟨l,j,y,rfl,rfl,k,m,o,q⟩:=h;cases g;obtain⟨u,rfl,ru⟩:=i.one;obtain⟨z,d,n,r,B,e⟩:=I.lstM k;obtain⟨t,h2⟩:=Aq (A:=X.A.in1) (s:=s) ru o r m;refine call_meets F.slot_list_count ⟨_,e,rfl⟩ F.entry_list_count (F.args_list_count_2 _ _) (SeqAt.list_countAt l d.toArray n none #[] u fun z=>jh (oz z) y) ⟨e,fun z p=>t z (by simpa using p),?_⟩;refine⟨.int _,H,I.tok _,⟨_,rfl⟩,?_⟩;have:d.countP (fun z=>jh (oz z) y)=j.countP fun z=>jh z y:=by rw[<-h2,List.countP_map];rfl
 rw[this];exact q
@[simp]noncomputable def As:ab->Option (List PyData)
 |.dat (.list ds)=>some ds
 |.own _ (.l ds)=>some ds
 |_=>none
@[simp] def kl(U:ak)(i:Nat):Option (List PyData):=match U[i]? with
 |some (some c)=>As c
 |_=>none
theorem At{K}(st:aB K F H Y U O)(h:kl U i=some j):∃p vs,Y[i]? = some (some (.ref p))/\H p=some (.lst vs)/\aG (aq O H) vs j:=by
 unfold kl at h;split at h
 .rename_i c e;unfold As at h;split at h
  .cases h;obtain⟨v,d,hd⟩:=st.dat e;obtain⟨p,f,rfl,k,g⟩:=hd.lst_inv;exact⟨p,f,d,(cT k).1,g⟩
  .cases h;obtain⟨p,m,d,⟨_,f,l,g⟩,_⟩:=st.box e;exact⟨p,f,d,l,g⟩
  .cases h
 .cases h
@[simp]noncomputable def oA:PyData->Option V
 |.none=>some .non
 |.bool b=>some (.bl b)
 |.int i=>some (.int i)
 |.str x=>some (.str x)
 |_=>none
@[simp] def lv:List PyData->Option (List V)
 |[]=>some []
 |d::r=>(match oA d,lv r with |some v,some l=>some (v::l) |_,_=>none)
theorem Au(h:DV G v d)(e:oA d=some w):v=w/\jg v=true:=by
 cases d with
 |none=>cases e;rw[h.non_inv];exact⟨rfl,rfl⟩
 |bool b=>cases e;rw[h.bl_inv];exact⟨rfl,rfl⟩
 |int b=>cases e;rw[h.int_inv];exact⟨rfl,rfl⟩
 |str b=>cases e;rw[h.str_inv];exact⟨rfl,rfl⟩
 |_=>cases e
theorem Av:∀{vs g f},aG G vs f->lv f=some g->vs=g/\vs.all jg=true
 |[],_,[],.nil,e=>by cases e;exact⟨rfl,rfl⟩
 |v::vs,_,d::f,.cons h t,e=>by
  unfold lv at e;cases h1:oA d with
  |none=>rw[h1]at e;cases e
  |some w=>
   cases h2:lv f with
   |none=>rw[h1,h2]at e;cases e
   |some l=>rw[h1,h2]at e;cases e;obtain⟨i,f1⟩:=Au h h1;obtain⟨j,f2⟩:=Av t h2;exact⟨by rw[i,j],by rw[List.all_cons,f1,f2];rfl⟩
@[simp] def km(f:List PyData)(y:PyData):Option PyData:=match lv f,oA y with
 |some d,some w=>some (.int (d.countP fun z=>jh z w:Nat))
 |_,_=>none
@[simp] def Aw(g:List PyData->PyData->Option PyData)(i:Nat)(d:PyData):XM PyData:=fun U=>lift (match kl U i with
 |some ds=>g ds d
 |none=>none) U
@[simp] def vl(g:List PyData->PyData->Option PyData)(i:Nat)(m:XM PyData):XM PyData:=fun U=>match kl U i with
 |some _=>(m U).bind (Aw g i)
 |none=>.bad
theorem NW{apos f}{id}(slot:Slot "list" J id)(L:typeOf (.builtin id)=pure (.type "method_descriptor"))(hm:ua X id r)
  (hg:∀G l xs I y d z H Q,H l=some (.lst xs)->aG G xs I->DV G y d->g I d=some z->(∀u,DV G u z->Q u H)->r (.ref l) [y] H Q)
  (hv:PE X (.Name x s) (cf i)) (he:FE X F E e m)
  (j:autoParam (attributeBase (.Name x s) J X.env (eval (.Name x s) X.env)=eval (.Name x s) X.env) Zq._auto_1)
  (t:autoParam (((backTo f (starEach [e] X.env)).all (fun x=>!x.1)&&(backToKw f (keywordEach [] X.env)).all (fun x=>x.1.isSome)&&decide (([e]:List Expr).length+([]:List Keyword).length+(if ([]:List Keyword).isEmpty then 0 else 1)<30))=true) Zq._auto_1)
  (n:autoParam ((apos.endLine==f.line)=true) Zq._auto_1) (hs:autoParam (starEach [e] X.env=(false,eval e X.env)::starEach [] X.env) Zq._auto_1) (h:autoParam ((backTo f (starEach [] X.env)).any (·.1)=false) Zq._auto_1) :
  FE X F E (.Call (.Attribute (.Name x s) J apos) [e] [] f) (vl g i m):=
 ⟨aE,(uf PySem.F.plainAttrs_list slot L hm hv (em he.pe fm hs) j t n hs h).imp fun Y H Q v=>by
  obtain⟨U,O,st,q⟩:=v;unfold wp vl at q;cases M:kl U i with
  |none=>rw[M]at q;exact q.elim
  |some a0=>
   rw[M]at q;obtain⟨p,N,A,R,_⟩:=At st M;refine⟨_,A,.inl ⟨rfl,N,.of R⟩,U,O,st,aE _ _ _ (fun d S q1 w H1 O1 B s1 d1=>?_) (bT (m:=m) (k:=Aw g i) q)⟩;obtain⟨z,D,q2⟩:=dg (o:=match kl S i with |some I=>g I d |none=>none) (U:=S) (E:=E) q1;cases h1:kl S i with
   |none=>rw[h1]at D;cases D
   |some a1=>
    rw[h1]at D;obtain⟨p',a2,C,T,Z⟩:=At B h1;rw[A]at C;cases C;exact hg _ _ _ _ _ _ _ _ _ T Z d1 D fun u hu=>q2 u H1 O1 B s1 hu⟩
theorem NX:∀G l f g y d z H Q,H l=some (.lst f)->aG G f g->DV G y d->km g d=some z->(∀u,DV G u z->Q u H)->Ar (.ref l) [y] H Q:=fun G l f g y d z H Q h i j e q=>by
 unfold km at e;split at e
 .rename_i k w h1 h2;cases e;obtain⟨rfl,f1⟩:=Av i h1;obtain⟨rfl,f2⟩:=Au j h2;exact⟨l,f,y,rfl,rfl,h,f1,f2,q _ (.int _)⟩
 .cases e
@[simp]noncomputable def mC(U:ak)(i:Nat):Option (Bool×List PyData):=match U[i]? with
 |some (some (.own io (.l ds)))=>some (io,ds)
 |_=>none
theorem NY(h:mC U i=some (io,d)):U[i]? = some (some (.own io (.l d))):=by
 unfold mC at h;split at h
 .rename_i e;cases h;exact e
 .cases h
@[simp] def dM:=gI fun i j=>.int (i+j)
@[simp] def gq:=gI fun i j=>.int (i - j)
@[simp] def mD:=me kc fun i j=>.int (i * j)
@[simp] def qN:=me mf fun i j=>.int (i / j)
@[simp] def mE:=me oq fun i j=>.int (i % j)
@[simp] def kn:=gI fun i j=>.bool (decide (i<j))
@[simp] def ko:=gI fun i j=>.bool (decide (i<=j))
@[simp] def mF:=gI fun i j=>.bool (decide (j<i))
theorem dX(d:FE X F E a ma)(f:FE X F E b mb):FE X F E (.BinOp a .Add b pos) (ag dM ma mb):=eJ kb (Mx d f)
theorem iO(d:FE X F E a ma)(f:FE X F E b mb):FE X F E (.BinOp a .Sub b pos) (ag gq ma mb):=eJ kb (My d f)
theorem oB(d:FE X F E a ma)(f:FE X F E b mb):FE X F E (.BinOp a .Mult b pos) (ag mD ma mb):=eJ (qG Nf) (Mz d f)
theorem vm(d:FE X F E a ma)(f:FE X F E b mb):FE X F E (.BinOp a .FloorDiv b pos) (ag qN ma mb):=eJ (qG Ng) (MA d f)
theorem oC(d:FE X F E a ma)(f:FE X F E b mb):FE X F E (.BinOp a .Mod b pos) (ag mE ma mb):=eJ (qG Nh) (MB d f)
theorem vn(d:FE X F E a ma)(f:FE X F E b mb):FE X F E (.BinOp a .Add b pos) (ag mh ma mb):=eJ Nj (MC d f)
theorem vo(d:FE X F E a ma)(f:FE X F E b mb):FE X F E (.BinOp a .Add b pos) (ag mi ma mb):=eJ Nk (MV d f)
theorem Oa(d:FE X F E a ma)(f:FE X F E b mb):FE X F E (.BinOp a .Mult b pos) (ag ot ma mb):=eJ Nl (MY d f)
theorem Ax(d:FE X F E a ma)(f:FE X F E b mb):FE X F E (.Compare a [.Lt] [b] pos) (ag kn ma mb):=eJ kb (ME d f)
theorem Ob(d:FE X F E a ma)(f:FE X F E b mb):FE X F E (.Compare a [.LtE] [b] pos) (ag ko ma mb):=eJ kb (MG d f)
theorem Oc(d:FE X F E a ma)(f:FE X F E b mb):FE X F E (.Compare a [.Gt] [b] pos) (ag mF ma mb):=eJ kb (MI d f)
theorem qO(d:FE X F E a ma)(f:FE X F E b mb):FB X F E (.Compare a [.Lt] [b] pos) (aY (ag kn ma mb)):=lc kb (MJ d f)
theorem oD(d:FE X F E a ma)(f:FE X F E b mb):FB X F E (.Compare a [.LtE] [b] pos) (aY (ag ko ma mb)):=lc kb (MK d f)
theorem vp(d:FE X F E a ma)(f:FE X F E b mb):FB X F E (.Compare a [.Gt] [b] pos) (aY (ag mF ma mb)):=lc kb (ML d f)
theorem oE(d:X.A.units+64<cLine)(f:FE X F E a ma)(g:FE X F E b mb):FE X F E (.Compare a [.Eq] [b] pos) (ag (aM false) ma mb):=eJ uT (MM d f g)
theorem fe(d:X.A.units+64<cLine)(f:FE X F E a ma)(g:FE X F E b mb):FB X F E (.Compare a [.Eq] [b] pos) (aY (ag (aM false) ma mb)):=lc uT (MN d f g)
theorem mG(d:X.A.units+64<cLine)(f:FE X F E a ma)(g:FE X F E b mb):FB X F E (.Compare a [.NotEq] [b] pos) (aY (ag (aM true) ma mb)):=lc uT (MO d f g)
theorem Od(d:FE X F E a ma)(f:FE X F E b mb):FE X F E (.Compare a [.Is] [b] pos) (ag iI ma mb):=eJ zI (MP d f)
theorem vr(d:FE X F E a ma)(f:FE X F E b mb):FE X F E (.Compare a [.IsNot] [b] pos) (ag eK ma mb):=eJ zJ (lT xG yB d f (bz _))
theorem vt(d:FE X F E a ma)(f:FE X F E b mb):FB X F E (.Compare a [.Is] [b] pos) (aY (ag iI ma mb)):=lc zI (MQ d f)
theorem oF(d:FE X F E a ma)(f:FE X F E b mb):FB X F E (.Compare a [.IsNot] [b] pos) (aY (ag eK ma mb)):=lc zJ (MR d f)
theorem Oe(d:FE X F E a ma)(h:FE X F E b mb)(f:FE X F E c mc)(g:lastMarks [.LtE,.LtE] [b,c]=false:=by with_unfolding_all rfl):FE X F E (.Compare a [.LtE,.LtE] [b,c] pos) (uV (fun i j=>decide (i<=j)) (fun i j=>decide (i<=j)) ma mb mc):=Nn (MS d h f g)
@[simp] def aH:PyData->PyData->Option PyData:=fun x y=>match x,y with
 |.tuple ds,.int i=>bI ds i
 |.list ds,.int i=>bI ds i
 |_,_=>none
def Ay:D2:=fun x y Q=>yC x y Q\/yD x y Q
theorem Of{K}:en (fun x y H Q=>ud K x y H Q\/uc K x y H Q) Ay where
 mn:=fun x y Q Q' k h=>h.imp (yF (K:=K).mn x y Q Q' k) (yG (K:=K).mn x y Q Q' k)
 ok:=fun O H u v x y Q hO h1 h2 h=>h.imp (yF.ok O H u v x y Q hO h1 h2) (yG.ok O H u v x y Q hO h1 h2)
theorem Og:F2 Ay aH:=fun x y d Q e q=>by
 unfold aH at e;split at e
 .exact .inl ⟨_,_,_,rfl,rfl,e,q⟩
 .exact .inr ⟨_,_,_,rfl,rfl,e,q⟩
 .cases e
theorem aW(d:FE X F E a ma)(g:FE X F E b mb)(f:nW b:=by intro _ _;rfl):FE X F E (.Subscript a b pos) (ag aH ma mb):=eJ Og (Kf (jf.or IS ue) Of d g f)
noncomputable def vu:Expr->Bool
 |.Starred ..=>true
 |_=>false
theorem vv(h:vu e=false):starEach (e::b) a=(false,eval e a)::starEach b a:=by cases e<;>first |rfl |cases h
theorem aA(g:FE X F E e d)(h:FA X F E es f)(i:autoParam (vu e=false) Zq._auto_1):FA X F E (e::es) (az d f):=No g h (vv i)
theorem ao(g:FE X F E e d)(h:FX X F E es f)(i:autoParam (vu e=false) Zq._auto_1):FX X F E (e::es) (aj d f):=Nz g h (vv i)
theorem cm(f:PE X (.Name x p) (cf j))(g:FX X F E es d):FX X F E (.Name x p::es) (bZ j d):=NA f g (vv rfl)
@[simp] def Az:=me qH fun i j=>.int (i ^ j.toNat)
theorem Oh(d:FE X F E a ma)(f:FE X F E b mb):FE X F E (.BinOp a .Pow b pos) (ag Az ma mb):=eJ (qG Ni) (MW d f)
@[simp]noncomputable def gK:SM:=fun _=>.bad
theorem hW{st:Stmt}:FS X F E st gK:=fun _ _ _ _ _ _ d=>by obtain⟨_,_,_,_,q,_⟩:=d;exact q.elim
end L2.L3
namespace L2
open PySem PySem.Spec PyProof.Rows
theorem Oi(a t l)(items)(n c)(e) :
  Meets (Builtin.«int.__rmul__» ⟨[.int a t,.ref l],[]⟩) (fun _ R s=>s.heap.get? l=some { cls:=.type "tuple",dict:=c,data:=.seq items n,slots:=e }/\R (.ok (.ret Value.notImplemented)) s):=
 .of_wp fun b w A R s h=>by obtain⟨f,g,d,i,os⟩:=s;obtain⟨j,h⟩:=h;wp_walk;exact⟨_,rfl,h⟩
theorem Oj(l)(items)(n k m x u)(a:¬ (decide (x < -(2 ^ 63))||decide (x≥2 ^ 63))=true)(f:¬ (items.isEmpty||x==1)=true)(i:¬ (decide (x<=0)||items.isEmpty)=true)(b:¬ (items.size:Int) * x>(2 ^ 63 - 1) / 8)(j:¬ Builtin.Tuple.tupleTooMany ((items.size:Int) * x)=true)(o:((List.replicate x.toNat items).foldl (·++·) #[]).size<=sizeLine) :
  Meets (Builtin.«tuple.__mul__» ⟨[.ref l,.int x u],[]⟩) (fun _ R s=>s.heap.get? l=some { cls:=.type "tuple",dict:=k,data:=.seq items n,slots:=m }/\R (.ok (.ret (Value.ref s.heap.objs.size))) { s with heap:=s.heap.push { cls:=Value.type "tuple",data:=Data.seq ((List.replicate x.toNat items).foldl (·++·) #[]) },toks:=s.toks }):=
 .of_wp fun e w A R s h=>by
  obtain⟨p,g,d,q,os⟩:=s;obtain⟨c,h⟩:=h;have f1:=@PySem.AutoSeq1.idx_int
  wp_walk using wpAny_loadPart' c
  refine wpAny_ite_false (decide_eq_false a) ?_
  wp_walk using wpAny_loadPart' c
  refine wpAny_ite_false (decide_eq_false b) ?_
  wp_walk using wpAny_loadPart' c
  exact⟨_,rfl,h⟩
theorem Ol:fillsNumberSlot (.type "tuple") "mul" = pure false:=
 PySem.fillsNumberSlot_seq (id:="tuple.__mul__") (r:=some (.builtin "tuple.__rmul__")) F.slot_tuple_mul.lookup (by decide +kernel) F.slot_tuple_rmul.lookup (by decide +kernel)
theorem Om:seqRepeat? (.type "tuple")=pure (some (.builtin "tuple.__mul__")):=by unfold seqRepeat?;rw[PySem.seqSlot_of (T:="tuple") (name:="__mul__") (id:="tuple.__mul__") F.slot_tuple_mul.lookup (by decide +kernel),PySem.seqSlot_of (T:="tuple") (name:="__rmul__") (id:="tuple.__rmul__") F.slot_tuple_rmul.lookup (by decide +kernel)];rfl
def AA(K:Frag):R2:=fun x y H Q=>∃l k a,x=.ref l/\y=.int k/\cZ K H l a/\a≠[]/\2<=k/\k<2 ^ 40/\a.length * k.toNat<=sizeLine/\∀p,H p=none->Q (.ref p) (aI H p (.tup (List.replicate k.toNat a).flatten))
theorem Oo:cx X (binaryOp .Mult) (AA X.K):=by
 intro i s Y H x y v u Q I A B h;obtain⟨l,k,C,rfl,rfl,D,g,h1,h2,j,q⟩:=h;cases A;obtain⟨t,rfl⟩:=B;obtain⟨a,r,E,_⟩:=I.tuple D;have G:=r.length;obtain⟨⟨cls,dd,data,sl⟩,e,m,n,hd⟩:=id E;simp only at m hd;subst m hd;have c:a≠[]:=fun z=>g (r.nil_iff.mp z);have p:0<a.length:=List.length_pos_iff.mpr c;have d:a.length * k.toNat<=sizeLine:=by rw[<-G];exact j
 have sz:sizeLine<2 ^ 59:=by decide
 have w:((a.toArray.size:Nat):Int) * k=((a.length * k.toNat:Nat):Int):=by rw[List.size_toArray,Int.natCast_mul,Int.toNat_of_nonneg (by lia)]
 have f:List.foldl (fun J L=>J++L) #[] (List.replicate k.toNat a.toArray)=(List.replicate k.toNat a).flatten.toArray:=by have:=ug a k.toNat [];rw[List.nil_append]at this;exact this
 refine wpAny_binaryOp_repeat_ref (T:="tuple") (U:="int") (by decide) ⟨_,e,rfl⟩ (fun M=>typeIs_int M k t) Ol F.fills_int_mul F.slot_int_rmul Om F.slot_int_index.lookup
  (call_meets F.slot_int_rmul (typeIs_int s k t) F.entry_int_rmul (F.args_int_rmul_2 _ _) (Oi k t l a.toArray n dd sl)
   ⟨e,rfl,⟨_,e,rfl⟩,call_meets F.slot_tuple_mul ⟨_,e,rfl⟩ F.entry_tuple_mul (F.args_tuple_mul_2 _ _) (Oj l a.toArray n dd sl k t (by simp;lia) (by simp[c];lia) (by simp[c];lia) (by rw[w];lia) (by rw[w];intro N;exact absurd (of_decide_eq_true N) (Int.not_lt.mpr (Int.ofNat_le.mpr d))) (by rw[f,List.size_toArray,uh,Nat.mul_comm];exact d)) ⟨e,?_⟩⟩)
 rw[f];refine⟨.ref s.heap.objs.size,_,I.laid (t':=s.toks) (o:=.tup (List.replicate k.toNat C).flatten) (fun b O q=>aS _ q) (bb _) ?_,rfl,q _ (I.hok.fresh (bb _))⟩;exact⟨by rw[uh,Nat.mul_comm];exact j,_,r.rep k.toNat,IsTup.new _ _⟩
end L2
namespace L2.L3
open PySem PySem.Spec PyProof.Rows
def AB:D2:=fun x y Q=>∃c k,x=.tuple c/\y=.int k/\(c≠[]/\2<=k/\k<2 ^ 40/\c.length * k.toNat<=sizeLine)/\Q (.tuple (List.replicate k.toNat c).flatten)
theorem Op{K}:en (AA K) AB where
 mn:=fun _ _ _ _ k zq1a=>by obtain⟨ds,n,e1,e2,e3,q⟩:=zq1a;exact⟨ds,n,e1,e2,e3,k _ q⟩
 ok:=fun O H u v x y Q hO h1 h2 zq2a=>by obtain⟨ds,k,e1,e2,⟨e3,e4,e5,e6⟩,q⟩:=zq2a;subst e1 e2;obtain⟨a,xs,rfl,ha,hd⟩:=h1.tup_inv;have hl:=hd.length;exact⟨a,k,xs,rfl,h2.int_inv,.inl (fM ha).1,fun z=>e3 (by rw[<-List.length_eq_zero_iff,<-hl,z];rfl),e4,e5,by rw[hl];exact e6,fun p hp=>q _ _ (bS hp) (jW hp (hO p hp) (uS hd _))⟩
noncomputable def mH:PyData->PyData->Option PyData:=fun x y=>match x,y with
 |.tuple ds,.int k=>if ds≠[]/\2<=k/\k<2 ^ 40/\ds.length * k.toNat<=sizeLine then some (.tuple (List.replicate k.toNat ds).flatten) else none
 |_,_=>none
theorem Oq:F2 AB mH:=fun x y d Q e q=>by
 unfold mH at e;split at e
 .split at e
  .rename_i h;cases e;exact⟨_,_,rfl,rfl,h,q⟩
  .cases e
 .cases e
theorem Ot(c:FE X F E a ma)(d:FE X F E b mb):FE X F E (.BinOp a .Mult b pos) (ag mH ma mb):=eJ Oq (iD Oo Op c d)
end L2.L3
namespace L2
open PySem
abbrev dN(h:Heap)(T:Addr)(a b:Value):Prop:=h.get? T=some { cls:=.type "tuple",data:=.seq #[a,b] }
end L2
namespace L2.L3
open PySem PySem.Spec PyProof.Rows
noncomputable def bK(f:Str)(v:Fl):List (Str×Fl)->List (Str×Fl)
 |[]=>[(f,v)]
 |(g,x)::r=>if g=f then(g,v)::r else(g,x)::bK f v r
noncomputable def fE:Option Fl->Bool
 |none=>true
 |some (.d _)=>true
 |_=>false
noncomputable def bV(C:Addr)(U:ak)(i:Nat):Option (Bool×List (Str×Fl)):=match U[i]? with
 |some (some (.own io (.o a fs)))=>if a = C then some (io,fs) else none
 |_=>none
theorem jE(h:bV C U i=some (io,fs)):U[i]? = some (some (.own io (.o C fs))):=by
 unfold bV at h;split at h
 .rename_i e;split at h
  .rename_i a;cases h;rw[e,a]
  .cases h
 .cases h
theorem kq(h:bo G H b fs a)(f):(b.lookup f=none/\fs.lookup f=none)\/∃v x c,b.lookup f=some v/\fs.lookup f=some x/\fN G H v x c/\c∈a:=by
 induction h with
 |nil=>exact .inl ⟨rfl,rfl⟩
 | @cons n v x c b fs a h1 h2 g=>
  by_cases e:f=n
  .subst e;exact .inr ⟨v,x,c,by simp[List.lookup],by simp[List.lookup],h1,List.mem_cons_self⟩
  .have i:(f==n)=false:=by simpa using e
   rw[List.lookup_cons,List.lookup_cons,i];rcases g with q |⟨j,k,d,l,m,o,p⟩
   .exact .inl q
   .exact .inr ⟨j,k,d,l,m,o,bq _ p⟩
theorem AC{α:Type}:∀{W:List (List α)}{i:Nat}{l},W.flatten.Nodup->W[i]? = some l->l.Nodup
 |w::W,0,l,nd,h=>by simp only[List.getElem?_cons_zero,Option.some.injEq]at h;subst h;rw[List.flatten_cons]at nd;exact(List.nodup_append.mp nd).1
 |w::W,i+1,l,nd,h=>by rw[List.flatten_cons]at nd;exact AC (List.nodup_append.mp nd).2.1 (by simpa using h)
theorem aB.boxN{K}(st:aB K F H Y U O)(e:U[i]? = some (some (.own io b))):∃a n,Y[i]? = some (some (.ref a))/\ft (aq O H) H a b n/\(∀c∈n,c∈O)/\n.Nodup/\
  ∀g  w  f,(∀c o,c∉n->H c=some o->g c=some o)->f.Nodup->(∀c∈f,c∈n\/H c=none)->(∀G,(∀p,aP O H p g->G=aq p g->(∀c∈f,c∈p)->bR (aq O H) G/\ft G g a w f))->
   ∃p,aB K F g Y (U.set i (some (.own io w))) p/\aP O H p g/\(∀c∈p,c∈f\/c∈O):=by
 obtain⟨W,st,rfl⟩:=st;obtain⟨v,n,h1,h2,a,rfl,h3⟩:=st.at_ i _ e;have C:i<U.length:=(List.getElem?_eq_some_iff.mp e).1;have x:i<W.length:=by rw[st.lw];exact C
 refine⟨a,n,h1,h3,fun c d=>bC _ (ck h2 d),(AC (List.nodup_append.mp st.nd).1 h2),fun g w f keep Q y R=>?_⟩;have s:W.flatten.Nodup:=(List.nodup_append.mp st.nd).1;have D:∀c∈n,c∉F.O₀:=fun c d z=>(List.nodup_append.mp st.nd).2.2 c (ck h2 d) c z rfl;have I:∀j l c,j≠i->W[j]? = some l->c∈l->g c=H c:=fun j l c r m d=>by obtain⟨o,k,_⟩:=st.live c (bC _ (ck m d));rw[k];exact keep c o (fun z=>kY s m h2 r d z) k
 have J:∀c∈F.O₀,g c=H c:=fun c d=>by obtain⟨o,k,_⟩:=st.live c (bu _ d);rw[k];exact keep c o (fun z=>D c z d) k
 have ap:∀c∈f,(∀j l,j≠i->W[j]? = some l->c∉l)/\c∉F.O₀:=fun c d=>by
  rcases y c d with q |q
  .exact⟨fun j l r m z=>kY s h2 m (Ne.symm r) q z,D c q⟩
  .refine⟨fun j l _ m z=>?_,fun z=>?_⟩
   .obtain⟨o,k,_⟩:=st.live c (bC _ (ck m z));rw[q]at k;cases k
   .obtain⟨o,k,_⟩:=st.live c (bu _ z);rw[q]at k;cases k
 have frz:∀c o,c∉W.flatten++F.O₀->H c=some o->g c=some o:=fun c o d L=>keep c o (fun z=>d (bC _ (ck h2 z))) L;have A:aP (W.flatten++F.O₀) H ((W.set i f).flatten++F.O₀) g:=⟨frz,fun c h=>by
  rcases List.mem_append.mp h with h |h
  .rcases fO h with h |⟨j,l,_,m,B⟩
   .exact(y c h).imp (fun z=>bC _ (ck h2 z)) id
   .exact .inl (bC _ (ck m B))
  .exact .inl (bu _ h)⟩
 have t:∀c∈f,c∈(W.set i f).flatten++F.O₀:=fun c d=>bC _ (yx x d);have u:=(R _ _ A rfl t).2;obtain⟨E,M⟩:=st.put (H':=g) (i:=i) (v:=.ref a) (c:=.own io w) (fp:=f) C I J frz Q ap (fun c d=>(y c d).imp (fun z=>ck h2 z) id) (fun c d=>u.live c d) (fun _=>⟨a,rfl,u⟩) (fun S z=>by cases z;have:=st.io i b e;rw[h1]at this;exact(Option.some.inj (Option.some.inj this)));have N:Y.set i (some (.ref a))=Y:=by
  apply List.ext_getElem?;intro j
  by_cases r:j=i
  .subst r;rw[List.getElem?_set_self (List.getElem?_eq_some_iff.mp h1).1,h1]
  .rw[List.getElem?_set_ne (Ne.symm r)]
 rw[N]at E;refine⟨_,⟨_,E,rfl⟩,M,fun c d=>?_⟩;rcases List.mem_append.mp d with d |d
 .rcases fO d with d |⟨j,l,_,m,B⟩
  .exact .inl d
  .exact .inr (bC _ (ck m B))
 .exact .inr (bu _ d)
theorem bo.len(h:bo G H b fs a):b.length=fs.length:=by
 induction h with
 |nil=>rfl
 |cons _ _ c=>simp[c]
theorem bo.putD(h:bo G H s fs a)(i:fE (fs.lookup f)=true)(hd:DV r v d)(g:bR G r)(k:∀c∈a.flatten,p c=H c) :
  bo r p (cF f v s) (bK f (.d d) fs) (if (fs.lookup f).isSome=true then a else a++[[]]):=by
 induction h with
 |nil=>exact .cons ⟨rfl,hd⟩ .nil
 | @cons n w x D s fs a h1 h2 u=>
  unfold cF bK
  by_cases e:n=f
  .subst e;have A:List.lookup n ((n,x)::fs)=some x:=by simp[List.lookup]
   rw[A]at i ⊢;rw[if_pos rfl,if_pos rfl];have t:=h2.keep (H':=p) (fun c j=>k c (by simp only[List.flatten_cons,List.mem_append];exact .inr j)) g;cases x with
   |d y=>obtain⟨rfl,_⟩:=h1;exact .cons ⟨rfl,hd⟩ t
   |l ds=>cases i
   |m E B=>cases i
  .have C:(f==n)=false:=by simpa using fun z=>e z.symm
   rw[List.lookup_cons,C]at i ⊢;rw[if_neg e,if_neg e];have o:=h1.keep (H':=p) (fun c j=>k c (by simp only[List.flatten_cons,List.mem_append];exact .inl j)) g;have b:=u i fun c j=>k c (by simp only[List.flatten_cons,List.mem_append];exact .inr j);simp only at b ⊢;split
   .rename_i q;rw[if_pos q]at b;exact .cons o b
   .rename_i q;rw[if_neg q]at b;exact .cons o b
noncomputable def cp(C:Addr)(i:Nat)(f:Str):XM PyData:=fun U=>match bV C U i with
 |some (_,fs)=>(match fs.lookup f with
  |some (.d d)=>.ok d U
  |_=>.bad)
 |none=>.bad
theorem cY(cl:cS X.K C)(j:cA X.K C f)(k:PE X (.Name x p1) (cf i))(w:autoParam (attributeBase (.Name x p1) f X.env (eval (.Name x p1) X.env)=eval (.Name x p1) X.env) Zq._auto_1):FE X F E (.Attribute (.Name x p1) f pos) (cp C i f):=
 ⟨aE,(je k w).imp fun Y H Q g=>by
  obtain⟨U,O,st,q⟩:=g;unfold wp cp at q;cases ho:bV C U i with
  |none=>rw[ho]at q;exact q.elim
  |some p=>
   obtain⟨io,fs⟩:=p;rw[ho]at q;simp only at q;obtain⟨z,A,h,⟨n,o,r,B,s,D,e4⟩,_,_⟩:=st.box (jE ho);rcases kq e4 f with⟨l1,l2⟩ |⟨v,y,t,l1,l2,l3,_⟩
   .rw[l2]at q;exact q.elim
   .rw[l2]at q;cases y with
    |d d=>exact⟨_,h,z,C,n,o,v,rfl,s,cl,j,l1,q v H O st (.refl ..) l3.2⟩
    |l ds=>exact q.elim
    |m G u=>exact q.elim⟩
def fF(C:Addr)(i:Nat)(f:Str)(d:PyData):SM:=fun U=>match bV C U i with
 |some (io,fs)=>if fs.length<1000/\fE (fs.lookup f)=true then .nx (U.set i (some (.own io (.o C (bK f (.d d) fs))))) else .bad
 |none=>.bad
def cU(C:Addr)(i:Nat)(f:Str)(m:XM PyData):SM:=fun U=>dD (m U) (fF C i f)
theorem AD(cl:cS X.K C)(J:cA X.K C f)(L:PE X (.Name x p1) (cf i))(M:FE X F E e m)(N:autoParam (swapsWith e (some (.Attribute (.Name x p1) f h)) pos.line X.env=pure false) Zq._auto_1):FS X F E (.Assign [.Attribute (.Name x p1) f h] e pos) (cU C i f m):=
 (qj L M.pe N).imp fun D Y H ⟨U,O,DD,st,q,Q⟩=>⟨U,O,st,aE _ _ _ (fun d R g I S O1 t T Z=>by
  unfold wpS fF at g;cases ho:bV C R i with
  |none=>rw[ho]at g;exact g.elim
  |some p=>
   obtain⟨io,fs⟩:=p;rw[ho]at g;simp only at g
   by_cases j:fs.length<1000/\fE (fs.lookup f)=true
   .rw[if_pos j]at g;obtain⟨r,fp,u,⟨n,v,l,e1,e2,e3,e4⟩,hO,nd,up⟩:=t.boxN (jE ho);subst e1;obtain⟨y,_⟩:n≠r/\True:=⟨fun z=>by subst z;simp at nd,trivial⟩
    refine⟨_,u,r,C,n,v,rfl,e2,cl,J,by rw[e4.len];exact j.1,?_⟩;obtain⟨O3,A,s3,_⟩:=up (aI S r (.ins C n (cF f I v))) (.o C (bK f (.d d) fs)) (r::n::l.flatten) (fun c o B e=>by rw[bv (fun z=>B (by simp[z]))];exact e) nd (fun c j=>.inl j) (fun G O' s hG _=>by
     subst hG;refine⟨s.hid,n,cF f I v,if (fs.lookup f).isSome=true then l else l++[[]],?_,cK,by rw[bv y];exact e3,?_⟩
     .split
      .rfl
      .simp
     .refine e4.putD j.2 (DV.mono s.hid Z) s.hid fun c j=>bv (fun z=>?_);subst z;exact absurd j (by
       have:=(List.nodup_cons.mp nd).1;exact fun w=>this (bq _ w)))
    exact Q.nx _ _ _ _ A (T.trans s3) g
   .rw[if_neg j]at g;exact g.elim) (fA (m:=m) (k:=fF C i f) q)⟩
theorem AE(a:wp E (lp f as) d Q):gZ f E Q as d:=by
 unfold wp lp at a;unfold gZ;cases j:gJ d as with
 |none=>rw[j]at a;exact a
 |some p=>
  obtain⟨l,n⟩:=p;rw[j]at a;simp only at a ⊢;cases h:f l with
  |rt c b=>rw[h]at a;exact a
  |ex c b=>rw[h]at a;exact a
  |bad=>rw[h]at a;exact a
def dY(f:FM)(i:Nat)(as:List AX):XM ab:=lp f (.s i::as)
def cw(C:Addr)(i:Nat)(m:Str)(f:FM)(mX:XM (List AX)):XM ab:=fun U=>match bV C U i with
 |some (_,fs)=>if fs.lookup m=none then(mX U).bind (dY f i) else .bad
 |none=>.bad
theorem Ou{pos:Pos}{apos:Pos}{pl}(hx:fS X F E)(cl:cS X.K C)(hm:gU X.K C m g)(G:cj X.prog X.w X.K X.mg X.base (dS X.prog X.w) k g fd ps (fT X.K X.mg f))(hr:bx k X.A)(hb:iy X.K fd ps [])(hv:PE X (.Name x p1) (cf i))(ha:FX X F E (e::es) mX)
  (L:autoParam (starEach (e::es) X.env=(false,eval e X.env)::starEach es X.env) Zq._auto_1) (M:autoParam ((backTo pos (starEach es X.env)).any (·.1)=false) Zq._auto_1)
  (ht:autoParam (eval (.Call (.Attribute (.Name x p1) m apos) (e::es) [] pos) X.env=(do
   let ov <-eval (.Name x p1) X.env
   standAt apos.atName
   let(f,first) <-holding [ov] (getMethod ov m pl)
   callWith pos f first (backTo pos (starEach (e::es) X.env)) (backToKw pos (keywordEach [] X.env)))) Zq._auto_1) :
  FO X F E (.Call (.Attribute (.Name x p1) m apos) (e::es) [] pos) (cw C i m f mX):=by
 refine⟨aE,fun a s Y H Q I l=>?_⟩;obtain⟨U,O,st,q⟩:=l;unfold wp cw at q;cases ho:bV C U i with
 |none=>rw[ho]at q;exact q.elim
 |some p=>
  obtain⟨io,fs⟩:=p;rw[ho]at q;simp only at q
  by_cases N:fs.lookup m=none
  .rw[if_pos N]at q;obtain⟨d,D,n,⟨dx,gs,a1,e1,e2,e3,e4⟩,_,_⟩:=st.box (jE ho);have hg:gs.lookup m=none:=by
    rcases kq e4 m with⟨l1,_⟩ |⟨_,_,_,_,l2,_⟩
    .exact l1
    .rw[N]at l2;cases l2
   refine PySem.W.methodCall_KW (pl:=pl) (aN (hv a s Y H (fun v o=>v=.ref d/\o=H) I ⟨_,n,rfl,rfl⟩) fun u R t=>?_) ht;obtain⟨v,o,I1,rx,ex,eH⟩:=t;subst ex eH;obtain rfl:u=Value.ref d:=rx;refine xL I1 e2 cl hm hg ?_;have q':=bT (E:=E) (m:=mX) (k:=dY f i) (U:=U) q;refine PySem.W.callWith_K (first:=[.ref d]) (h₀:=X.base) I.ok.mod.kin hm.kp (aN (ha.pa pos a R Y o (fun vs y=>∃as z j,aB X.K F y Y z j/\aP O o j y/\dc Y (aq j y) vs as/\gZ f E (fun c U'=>∀v B J D,gY X.K F B Y U' J v c D->aP O o J B->Q v B) (.s i::as) z) I1 ⟨U,O,st,ha.mn _ _ _ (fun as z S vs y j b R T=>⟨as,z,j,b,R,T,AE S⟩) q'⟩) fun us s2 zz=>⟨by obtain⟨_,_,I2,_⟩:=zz;exact I2.kIn,?_⟩) L M;obtain⟨vs,y,I2,r,as,z,j,b,Z,T,S⟩:=zz;exact uL hx G hr hb I2 (vs:=V.ref d::vs) (us:=Value.ref d::us) (.cons (show bf (.ref d) (.ref d) from rfl) r) b (dc.s n T) S fun c U' h v B J D res s2=>h v B J D res (Z.trans s2)
  .rw[if_neg N]at q;exact q.elim
def dO(C:Addr)(i:Nat)(m:Str)(f:FM):XM ab:=fun U=>match bV C U i with
 |some (_,fs)=>if fs.lookup m=none then lp f [.s i] U else .bad
 |none=>.bad
theorem Ov(z:fS X F E)(cl:cS X.K C)(o:gU X.K C m g)(G:cj X.prog X.w X.K X.mg X.base (dS X.prog X.w) k g fd ps (fT X.K X.mg f))(B:bx k X.A)(hb:iy X.K fd ps [])(D:PE X (.Name x p1) (cf i))
  (J:autoParam (eval (.Call (.Attribute (.Name x p1) m apos) [] [] pos) X.env=(do
   let r <-eval (.Name x p1) X.env
   standAt apos.atName
   let(f,first) <-holding [r] (getMethod r m pl)
   callWith pos f first (backTo pos (starEach [] X.env)) (backToKw pos (keywordEach [] X.env)))) Zq._auto_1) :
  FO X F E (.Call (.Attribute (.Name x p1) m apos) [] [] pos) (dO C i m f):=by
 refine⟨aE,fun b s Y H Q I d=>?_⟩;obtain⟨U,O,st,q⟩:=d;unfold wp dO at q;cases ho:bV C U i with
 |none=>rw[ho]at q;exact q.elim
 |some p=>
  obtain⟨io,fs⟩:=p;rw[ho]at q;simp only at q
  by_cases n:fs.lookup m=none
  .rw[if_pos n]at q;obtain⟨a,t,j,⟨dx,L,M,e1,N,e3,e4⟩,_,_⟩:=st.box (jE ho);have R:L.lookup m=none:=by
    rcases kq e4 m with⟨l1,_⟩ |⟨_,_,_,_,l2,_⟩
    .exact l1
    .rw[n]at l2;cases l2
   refine PySem.W.methodCall_KW (pl:=pl) (aN (D b s Y H (fun v y=>v=.ref a/\y=H) I ⟨_,j,rfl,rfl⟩) fun u s1 l=>?_) J;obtain⟨v,y,I1,S,ex,T⟩:=l;subst ex T;obtain rfl:u=Value.ref a:=S;refine xL I1 N cl o R ?_;refine PySem.W.callWith_K0 (first:=[.ref a]) I1.kIn o.kp ?_;exact uL (vs:=[V.ref a]) (us:=[Value.ref a]) (as:=[.s i]) z G B hb I1 (.cons (show bf (.ref a) (.ref a) from rfl) .nil) st (dc.s j .nil) (AE q) fun c U' h v Z O' t res s2=>h v Z O' t res s2
  .rw[if_neg n]at q;exact q.elim
noncomputable def oG(C:Addr)(f:FM)(a:List PyData):XM ab:=fun U=>match f (.own true (.o C [])::a.map .dat) with
 |.rt (.dat .none) [b]=>.ok (.own false b) U
 |.ex c _=>.ex c U
 |_=>.bad
def vA(C:Addr)(f:FM)(a:XM (List PyData)):XM ab:=fun U=>(a U).bind (oG C f)
theorem AF{K}:∀{vs a},aG (aq O H) vs a->aQ K H O vs (a.map .dat) (a.map fun _=>[])
 |_,_,.nil=>.nil
 |_,_,.cons h t=>.dat h (AF t)
theorem AG{a:Addr}{b:Bx}:∀{j:List PyData}{vs}{bs}{c},ba H O vs (j.map ab.dat) bs c->bs=[]/\c=[]
 |[],_,_,_,.nil=>⟨rfl,rfl⟩
 |d::j,_,_,_,.skip _ h=>AG (a:=a) (b:=b) h
theorem vB{α β:Type}:∀l:List α,(l.map fun _=>([]:List β)).flatten=[]
 |[]=>rfl
 |_::r=>by simp[vB r]
theorem Ow{pos:Pos}{p:Pos}(hx:fS X F E)(M:Mk X.K C g)(G:cj X.prog X.w X.K X.mg X.base (dS X.prog X.w) k g fd ps (fT X.K X.mg f))(hr:bx (k+1) X.A)(hg:Gl X x)(hm:X.mg x=some (.ref C))(hb:iy X.K fd ps [])(j:FA X F E (e::es) mA)
  (b4:autoParam ((x==("__debug__":Str))=false) Zr._auto_1) (he:autoParam (starEach (e::es) X.env=(false,eval e X.env)::starEach es X.env) Zq._auto_1) (b5:autoParam ((backTo pos (starEach es X.env)).any (·.1)=false) Zq._auto_1) :
  FO X F E (.Call (.Name x p) (e::es) [] pos) (vA C f mA):=by
 refine⟨aE,fun T s Y H Q I a8=>?_⟩;obtain⟨U,O,st,q⟩:=a8;refine wpAny_Call_Name_kw (tH I hg hm ?_ b4);have q':=bT (E:=E) (m:=mA) (k:=oG C f) (U:=U) q;refine PySem.W.callWith_K (h₀:=X.base) I.ok.mod.kin M.kp (aN (j.pa pos T s Y H (fun vs t=>∃R Z n,aB X.K F t Y Z n/\aP O H n t/\aG (aq n t) vs R/\wp E (oG C f R) Z (fun c U'=>∀v l O' fp,gY X.K F l Y U' O' v c fp->aP O H O' l->Q v l)) I ⟨U,O,st,j.mn _ _ _ (fun R Z B vs t n D J dv=>⟨R,Z,n,D,J,dv,B⟩) q'⟩) fun us J zz=>⟨by obtain⟨_,_,I1,_⟩:=zz;exact I1.kIn,?_⟩) he b5;obtain⟨vs,t,I1,r,R,Z,n,D,b6,dv,B⟩:=zz;let EX:XK:=fun C _ l=>∃c U' O',X.mg c=some C/\aB X.K F l Y U' O'/\E c U';have h:∀x d,t x=none->t d=none->d≠x->fT X.K X.mg f (.ref x::vs) (aI (aI t d (.own x)) x (.ins C d [])) (fun v H2=>v=.non/\Q (.ref x) H2) EX:=fun x d h1 h2 a1=>by
  obtain⟨W,a2,a9⟩:=id D;have a3:∀a∈n,∃o,t a=some o/\Mv o:=fun a h=>a2.live a (by rw[<-a9];exact h);have nx:x∉n:=fun z=>by obtain⟨o,e,_⟩:=a3 x z;rw[h1]at e;cases e
  have b7:d∉n:=fun z=>by obtain⟨o,e,_⟩:=a3 d z;rw[h2]at e;cases e
  have a4:n.Nodup:=by rw[a9];exact a2.nd
  have up:∀b o,t b=some o->aI (aI t d (.own x)) x (.ins C d []) b=some o:=fun b o e=>by rw[bv (fun z=>by subst z;rw[h1]at e;cases e),bv (fun z=>by subst z;rw[h2]at e;cases e)];exact e
  have fl:(([x,d]::R.map fun _=>([]:List Addr)).flatten++n)=x::d::n:=by rw[List.flatten_cons,vB];rfl
  have hid:bR (aq n t) (aq (x::d::n) (aI (aI t d (.own x)) x (.ins C d []))):=fun b o e=>by
   obtain⟨S,n1⟩:=cT e;refine gW (up b o S) fun z=>?_;rcases List.mem_cons.mp z with z |z
   .subst z;rw[h1]at S;cases S
   .rcases List.mem_cons.mp z with z |z
    .subst z;rw[h2]at S;cases S
    .exact n1 z
  refine⟨(hx.1.at D).mono fun b u _ e=>up b u e,.own true (.o C [])::R.map .dat,[x,d]::R.map fun _=>[],n,?_,?_,?_,?_⟩
  .rw[fl];exact .own ⟨d,[],[],rfl,cK,by rw[bv a1,cK],.nil⟩ (AF (aG.mono hid dv))
  .rw[fl];refine List.nodup_cons.mpr ⟨fun z=>?_,List.nodup_cons.mpr ⟨b7,a4⟩⟩;rcases List.mem_cons.mp z with z |z
   .exact a1 z.symm
   .exact nx z
  .rw[fl];intro a j;rcases List.mem_cons.mp j with rfl |j
   .exact⟨.ins C d [],cK,trivial⟩
   .rcases List.mem_cons.mp j with rfl |j
    .exact⟨.own x,by rw[bv a1,cK],trivial⟩
    .obtain⟨o,S,e2⟩:=a3 a j;exact⟨o,up a o S,e2⟩
  .unfold wp oG at B;have hL:([x,d]::R.map fun _=>([]:List Addr)).flatten=[x,d]:=by rw[List.flatten_cons,vB];rfl
   have b0:aB X.K (F.plus []) t Y Z n:=D;have lift:∀(l:Hp) (L':List Addr),jq (aI (aI t d (.own x)) x (.ins C d [])) l [x,d] L' n->∃N,aB X.K (F.plus L') l Y Z N/\aP n t N l/\(∀a∈L',a∈N)/\(∀a∈N,a∈L'\/a∈n)/\∀a∈L',a∈F.A₀\/F.H₀ a=none:=fun l L' y=>by
    have new1:∀a∈L',t a=none:=fun a j=>by
     rcases y.new a j with z |z
     .simp only[List.mem_cons,List.not_mem_nil,or_false]at z;rcases z with rfl |rfl
      .exact h1
      .exact h2
     .cases e:t a with
      |none=>rfl
      |some o=>rw[up a o e]at z;cases z
    obtain⟨N,t1,t2,t3,t4,_⟩:=b0.swap (L':=L') (H':=l) (fun b o _ e=>y.keep b o (fun z=>by
     simp only[List.mem_cons,List.not_mem_nil,or_false]at z;rcases z with rfl |rfl
     .rw[h1]at e;cases e
     .rw[h2]at e;cases e) (up b o e)) (List.nodup_append.mp y.nd).1 (fun a j=>.inr (new1 a j)) (fun a h=>by cases h) y.live
    refine⟨N,t1,t2,t3,fun a j=>(t4 a j).imp id (·.1),fun a j=>?_⟩
    by_cases hA:a∈F.A₀
    .exact .inl hA
    .refine .inr ?_;cases e:F.H₀ a with
     |none=>rfl
     |some o=>have:=a2.kept a o hA e;rw[new1 a j]at this;cases this
   cases hf:f (.own true (.o C [])::R.map .dat) with
   |bad=>rw[hf]at B;exact B
   |ex c a0=>rw[hf]at B;intro C' l b1 a5 b2 y;rw[hL]at y;obtain⟨N,t1,t2,t3,t4,t5⟩:=lift l [] ⟨a4,fun a h=>(by cases h),y.keep,fun a h=>(by cases h)⟩;exact⟨c,Z,N,a5,t1,B⟩
   |rt c a0=>
    rw[hf]at B;intro v l fp b1 b8 b2 y;rw[hL]at y
    match c,a0,B with
    |.dat .none,[b'],B=>
     have hv:v=.non:=DV.non_inv b8;cases b2 with
     |skip b9 _=>exact absurd rfl (b9 _ _)
     | @own _ _ _ _ a6 _ _ _ c2 b3 a7=>
      obtain⟨_,rfl⟩:=AG (a:=0) (b:=b') a7;refine⟨hv,?_⟩;simp only[List.flatten_cons,List.flatten_nil,List.append_nil]at b3 y;have c0:jq (aI (aI t d (.own x)) x (.ins C d [])) l [x,d] a6 n:=⟨by
       have n1:=y.nd;rw[List.append_assoc]at n1;obtain⟨m1,m2,m3⟩:=List.nodup_append.mp n1;exact List.nodup_append.mpr ⟨m1,a4,fun a j b hb=>m3 a j b (bu _ hb)⟩,fun a j=>y.live a (bC _ j),y.keep,fun a j=>y.new a (bC _ j)⟩
      obtain⟨N,t1,t2,t3,t4,t5⟩:=lift l a6 c0;refine B (.ref x) l N a6 ⟨t1,⟨x,rfl,b3.keep (fun _ _=>rfl) (yw fun a j=>?_)⟩,t5⟩ (b6.trans t2);rcases t4 a j with z |z
      .exact bC _ (bC _ z)
      .exact bu _ z
 have hq:=h (J.heap.objs.size+1) J.heap.objs.size (I1.hok.fresh (Nat.le_succ _)) (I1.hok.fresh (bb _)) (Nat.ne_of_lt (Nat.lt_succ_self _));have I2:=Inv.made (C:=C) I1;have r2:bi (V.ref (J.heap.objs.size+1)::vs) (Value.ref (J.heap.objs.size+1)::us):=.cons rfl r;have hl:(Value.ref (J.heap.objs.size+1)::us++[]).length=ps.length:=by have e:=r2.length;rw[G.len _ _ _ _ hq]at e;rw[List.append_nil];exact e.symm
 refine wpAny_call (Ih (f:=g) I1.kIn M.makes M.init (beq_iff_eq.mp M.fn) (codeAny_mono (G.run _ X.stack _ _ ⟨Value.ref (J.heap.objs.size+1)::us,[]⟩ (Value.ref (J.heap.objs.size+1)::us) _ _ EX (hr.make C us [])
  (I2.env0.make C us []) (by have:=hb _ (Value.ref (J.heap.objs.size+1)::us) I2.kIn hl;rw[List.append_nil]at this;exact this) r2 hq) fun r s' L=>?_))
 cases r with
 |error e=>obtain⟨a,C',l,S,I',cv,ex,c,U',O',a5,c1,hE⟩:=I2.flies L;exact hx.2 T Y l s' e c U' O' ⟨I',a,C',_,_,S,cv,ex,a5⟩ c1 hE
 |ok fl=>
  cases fl with
  |ret u=>obtain⟨v,l,I3,rv,ev,q3⟩:=I2.after L;subst ev;exact⟨rv,⟨V.ref (J.heap.objs.size+1),l,I3,rfl,q3⟩⟩
  |next=>exact False.elim L
  |brk=>exact False.elim L
  |cont=>exact False.elim L
noncomputable def vC:Fl->Bool
 |.d _=>false
 |_=>true
theorem Ox(h:fN G H v x f)(i:vC x=true):∃b,v=.ref b/\f=[b]:=by
 cases x with
 |d _=>cases i
 |l ds=>obtain⟨a,j,c,e,_⟩:=h;exact⟨a,c,e⟩
 |m k g=>obtain⟨a,c,e,_⟩:=h;exact⟨a,c,e⟩
theorem AH(t:vC x=true):∀{o fs a},bo G H o fs a->fs.lookup f=some x->a.flatten.Nodup->
  ∃b,o.lookup f=some (.ref b)/\fN G H (.ref b) x [b]/\b∈a.flatten/\∀i j  l,bR G i->(∀c∈a.flatten,c≠b->j c=H c)->fN i j (.ref b) l [b]->bo i j o (bK f l fs) a
 |_,_,_,.nil,m,_=>by cases m
 | (n,v)::o,(_,y)::fs,D::a,.cons h1 h2,m,nd=>by
  rw[List.flatten_cons]at nd;obtain⟨E,u,q⟩:=List.nodup_append.mp nd
  by_cases e:f=n
  .subst e;have w:y=x:=by simpa[List.lookup] using m
   subst w;obtain⟨b,rfl,rfl⟩:=Ox h1 t;refine⟨b,by simp[List.lookup],h1,by simp,fun i j l g k d=>?_⟩;unfold bK;rw[if_pos rfl];refine .cons d (h2.keep (fun c h=>k c (by rw[List.flatten_cons];exact bu _ h) fun z=>?_) g);exact q b (by simp) c h z.symm
  .have r:(f==n)=false:=by simpa using e
   rw[List.lookup_cons,r]at m;obtain⟨b,A,B,s,C⟩:=AH t h2 m u;refine⟨b,by rw[List.lookup_cons,r];exact A,B,by rw[List.flatten_cons];exact bu _ s,fun i j l g k d=>?_⟩;unfold bK;rw[if_neg (fun z=>e z.symm)];refine .cons (h1.keep (fun c h=>k c (by rw[List.flatten_cons];exact bC _ h) fun z=>?_) g) (C i j l g (fun c h p=>k c (by rw[List.flatten_cons];exact bu _ h) p) d);exact q c h b s z
theorem aB.fldUp{K}(st:aB K F H Y U O)(S:bV C U i=some (io,fs))(lk:fs.lookup f=some x)(w:vC x=true) :
  ∃a d h b,Y[i]? = some (some (.ref a))/\H a=some (.ins C d h)/\h.lookup f=some (.ref b)/\fN (aq O H) H (.ref b) x [b]/\
   ∀g  j,Mv g->(∀G,bR (aq O H) G->fN G (aI H b g) (.ref b) j [b])->∃k,aB K F (aI H b g) Y (U.set i (some (.own io (.o C (bK f j fs))))) k/\aP O H k (aI H b g):=by
 obtain⟨a,T,n,⟨d,h,l,y,v,A,e4⟩,X,nd,up⟩:=st.boxN (jE S);subst y;have m:=nd;rw[List.nodup_cons,List.nodup_cons]at m;obtain⟨B,p,D⟩:=m;obtain⟨b,E,I,q,J⟩:=AH w e4 lk D;have L:a≠b:=fun z=>B (by rw[z];exact bq _ q);have M:d≠b:=fun z=>p (by rw[z];exact q);refine⟨a,d,h,b,n,v,E,I,fun g j Z N=>?_⟩;obtain⟨k,r,Q,_⟩:=up (aI H b g) (.o C (bK f j fs)) (a::d::l.flatten) (fun c o t e=>by rw[bv (fun z=>t (by rw[z];exact bq _ (bq _ q)))];exact e) nd (fun c t=>.inl t) (fun G k s R _=>by
  subst R;exact⟨s.hid,d,h,l,rfl,by rw[bv L];exact v,by rw[bv M];exact A,J _ _ j s.hid (fun c _ u=>bv u) (N _ s.hid)⟩)
 exact⟨k,r,Q⟩
def mI(C:Addr)(i:Nat)(f:Str)(d:PyData):SM:=fun U=>match bV C U i with
 |some (io,fs)=>(match fs.lookup f with
  |some (.l ds)=>if ds.length<sizeLine then .nx (U.set i (some (.own io (.o C (bK f (.l (ds++[d])) fs))))) else .bad
  |_=>.bad)
 |none=>.bad
noncomputable def et(U:ak)(j:Nat):Option PyData:=match U[j]? with
 |some (some (.dat d))=>some d
 |_=>none
theorem oH(h:et U j=some d):U[j]? = some (some (.dat d)):=by
 unfold et at h;split at h
 .rename_i e;cases h;exact e
 .cases h
def lx(C:Addr)(i:Nat)(f:Str)(j:Nat):SM:=fun U=>match et U j with
 |some d=>mI C i f d U
 |none=>.bad
theorem Oy{F:Fx}{E:Str->ak->Prop}{pos:Pos}{apos:Pos}{cpos:Pos}{fpos:Pos}(cl:cS X.K C)(R:cA X.K C f)(S:PE X (.Name x p1) (cf i))(T:PE X (.Name y k) (cf j))(hb:autoParam (attributeBase (.Name x p1) f X.env (eval (.Name x p1) X.env)=eval (.Name x p1) X.env) Zq._auto_1)
  (B:autoParam (swapsWith (.Call (.Attribute (.Attribute (.Name x p1) f fpos) "append" apos) [.Name y k] [] cpos) none pos.line X.env=pure false) Zq._auto_1)
  (n:autoParam (attributeBase (.Attribute (.Name x p1) f fpos) "append" X.env (eval (.Attribute (.Name x p1) f fpos) X.env)=eval (.Attribute (.Name x p1) f fpos) X.env) Zq._auto_1)
  (t:autoParam (((backTo cpos (starEach [.Name y k] X.env)).all (fun x=>!x.1)&&(backToKw cpos (keywordEach [] X.env)).all (fun x=>x.1.isSome)&&decide (([.Name y k]:List Expr).length+([]:List Keyword).length+(if ([]:List Keyword).isEmpty then 0 else 1)<30))=true) Zq._auto_1)
  (o:autoParam ((apos.endLine==cpos.line)=true) Zq._auto_1) (N:autoParam (starEach [.Name y k] X.env=(false,eval (.Name y k) X.env)::starEach [] X.env) Zq._auto_1) (h:autoParam ((backTo cpos (starEach [] X.env)).any (·.1)=false) Zq._auto_1) :
  FS X F E (.Expr (.Call (.Attribute (.Attribute (.Name x p1) f fpos) "append" apos) [.Name y k] [] cpos) pos) (lx C i f j):=
 (tI (uf PySem.F.plainAttrs_list PySem.F.slot_list_append PySem.F.type_list_append yd (je S hb) (em T fm N) n t o N h) B).imp fun D Y H u=>by
  obtain⟨U,O,DD,st,q,Z⟩:=u;unfold wpS lx at q;cases r:et U j with
  |none=>rw[r]at q;exact q.elim
  |some d=>
   have hd:=oH r;rw[r]at q;simp only at q;unfold mI at q;cases ho:bV C U i with
   |none=>rw[ho]at q;exact q.elim
   |some p=>
    obtain⟨io,fs⟩:=p;rw[ho]at q;simp only at q;cases s:fs.lookup f with
    |none=>rw[s]at q;exact q.elim
    |some z=>
     rw[s]at q;cases z with
     |d _=>exact q.elim
     |m _ _=>exact q.elim
     |l ds=>
      simp only at q
      by_cases I:ds.length<sizeLine
      .rw[if_pos I]at q;obtain⟨a0,dx,gs,b0,J,e2,q1,⟨b1,A,eb,_,Q,v⟩,up⟩:=st.fldUp ho s rfl;cases eb;obtain⟨w,hw,L⟩:=st.dat hd;obtain⟨O2,M,s2⟩:=up (.lst (A++[w])) (.l (ds++[d])) trivial (fun G g=>⟨b0,A++[w],rfl,rfl,cK,(aG.mono g v).append (.cons (DV.mono g L) .nil)⟩);exact⟨_,J,a0,C,dx,gs,.ref b0,rfl,e2,cl,R,q1,.inl ⟨rfl,A,.of Q⟩,w,hw,b0,A,w,rfl,rfl,Q,by rw[v.length];exact I,Z.nx _ _ _ _ M s2 q⟩
      .rw[if_neg I]at q;exact q.elim
def ly(C:Addr)(i:Nat)(f:Str)(j l:Nat)(v:PyData):SM:=fun U=>match bV C U i,et U j,et U l with
 |some (io,fs),some y,some z=>(match fs.lookup f,oy true (.tuple [y,z]) with
  |some (.m true d),some k=>if d.length<sizeLine then .nx (U.set i (some (.own io (.o C (bK f (.m true (kj true d (.tuple [y,z]) k v)) fs))))) else .bad
  |_,_=>.bad)
 |_,_,_=>.bad
def mJ(C:Addr)(i:Nat)(f:Str)(j l:Nat)(m:XM PyData):SM:=fun U=>dD (m U) (ly C i f j l)
theorem Oz{pos:Pos}{fpos:Pos}{p4 r}{kx}(hu:X.A.units+1<cLine)(cl:cS X.K C)(na:cA X.K C f)(hv:PE X (.Name x p1) (cf i))(hy:PE X (.Name y w) (cf j))(hz:PE X (.Name z s) (cf l))(he:FE X F E e m)(hb:autoParam (attributeBase (.Name x p1) f X.env (eval (.Name x p1) X.env)=eval (.Name x p1) X.env) Zq._auto_1)
  (h1:autoParam (starEach [.Name y w,.Name z s] X.env=(false,eval (.Name y w) X.env)::starEach [.Name z s] X.env) Zq._auto_1) (h2:autoParam (starEach [.Name z s] X.env=(false,eval (.Name z s) X.env)::starEach [] X.env) Zq._auto_1)
  (hs:autoParam (swapsWith e (some (.Subscript (.Attribute (.Name x p1) f fpos) (.Tuple [.Name y w,.Name z s] kx p4) r)) pos.line X.env=pure false) Zq._auto_1) :
  FS X F E (.Assign [.Subscript (.Attribute (.Name x p1) f fpos) (.Tuple [.Name y w,.Name z s] kx p4) r] e pos) (mJ C i f j l m):=
 (Jy hu (je hv hb) (xQ (em hy (em hz fm h2) h1)) he.pe hs).imp fun D Y H ⟨U,O,DD,st,q,fD⟩=>⟨U,O,st,aE _ _ _ (fun v M h vy H1 O1 n s1 d1=>by
  unfold wpS ly at h;cases ho:bV C M i with
  |none=>rw[ho]at h;exact h.elim
  |some p=>
   obtain⟨io,fs⟩:=p;cases L:et M j with
   |none=>rw[ho,L]at h;exact h.elim
   |some y0=>
    cases N:et M l with
    |none=>rw[ho,L,N]at h;exact h.elim
    |some z0=>
     rw[ho,L,N]at h;simp only at h;cases o:fs.lookup f with
     |none=>rw[o]at h;exact h.elim
     |some t=>
      rw[o]at h;cases t with
      |d _=>exact h.elim
      |l _=>exact h.elim
      |m tk B=>
       cases tk with
       |false=>exact h.elim
       |true=>
        cases Q:oy true (.tuple [y0,z0]) with
        |none=>rw[Q]at h;exact h.elim
        |some k=>
         rw[Q]at h;simp only at h
         by_cases u:B.length<sizeLine
         .rw[if_pos u]at h;obtain⟨a0,dx,gs,b0,I,e2,l1,_,_⟩:=n.fldUp ho o rfl;obtain⟨w1,R,S⟩:=n.dat (oH L);obtain⟨w2,T,Z⟩:=n.dat (oH N);refine⟨_,I,a0,C,dx,gs,.ref b0,rfl,e2,cl,na,l1,w1,R,w2,T,show 2<=sizeLine by decide,fun p hp=>?_⟩;have sm:bR H1 (aI H1 p (.tup [w1,w2])):=bS hp;have a2:=n.grow sm;have hd:=lS (O:=O1) sm;obtain⟨a1,a5,a6,b1,J,e3,l2,⟨b2,eb,_,a3⟩,up⟩:=a2.fldUp ho o rfl;rw[I]at J;cases J;rw[sm _ _ e2]at e3;cases e3;rw[l1]at l2;cases l2;cases eb;obtain⟨o',g1,mv,g2⟩:=NR a3 qt (jW hp (n.nofree p hp) (.cons S (.cons Z .nil))) (DV.mono hd d1) Q u;obtain⟨O3,a4,s3⟩:=up o' (.m true (kj true B (.tuple [y0,z0]) k v)) mv (fun G g=>⟨b0,rfl,rfl,g2 G g⟩);exact⟨b0,_,rfl,g1,fD.nx _ _ _ _ a4 (s1.trans ((aP.same sm).trans s3)) h⟩
         .rw[if_neg u]at h;exact h.elim) (fA (m:=m) (k:=ly C i f j l) q)⟩
def oI(C:Addr)(i:Nat)(f:Str)(j:Nat):XM PyData:=fun U=>match bV C U i,et U j with
 |some (_,fs),some (.int k)=>(match fs.lookup f with
  |some (.l ds)=>lift (bI ds k) U
  |some (.d (.list ds))=>lift (bI ds k) U
  |some (.d (.tuple ds))=>.bad
  |_=>.bad)
 |_,_=>.bad
theorem AI(h:aG G l g)(e:bI g k=some d):∃v,bI l k=some v/\DV G v d:=by
 unfold bI at e ⊢;rw[h.length];cases n:dj g.length k with
 |none=>rw[n]at e;cases e
 |some j=>rw[n]at e;exact h.get e
theorem OA{F:Fx}{E:Str->ak->Prop}{pos:Pos}{fpos:Pos}(cl:cS X.K C)(S:cA X.K C f)(Z:PE X (.Name x p1) (cf i))(hy:PE X (.Name y u) (cf j))(hb:autoParam (attributeBase (.Name x p1) f X.env (eval (.Name x p1) X.env)=eval (.Name x p1) X.env) Zq._auto_1)(hs:nW (.Name y u):=by intro _ _;rfl) :
  FE X F E (.Subscript (.Attribute (.Name x p1) f fpos) (.Name y u) pos) (oI C i f j):=
 ⟨aE,(ub ue (je Z hb) hy hs).imp fun Y H Q r=>by
  obtain⟨U,O,st,q⟩:=r;unfold wp oI at q;cases ho:bV C U i with
  |none=>rw[ho]at q;exact q.elim
  |some p=>
   obtain⟨io,fs⟩:=p;cases z:et U j with
   |none=>rw[ho,z]at q;exact q.elim
   |some y0=>
    rw[ho,z]at q;cases y0 with
    |int k=>
     simp only at q;obtain⟨w,T,dw⟩:=st.dat (oH z);obtain rfl:=dw.int_inv;cases g:fs.lookup f with
     |none=>rw[g]at q;exact q.elim
     |some t=>
      rw[g]at q;cases t with
      |m _ _=>exact q.elim
      |l ds=>obtain⟨R,A,B,b0,h,D,l1,⟨G,I,eb,_,J,n⟩,_⟩:=st.fldUp ho g rfl;cases eb;obtain⟨d,s,L⟩:=dg (o:=bI ds k) (U:=U) (E:=E) q;obtain⟨v,M,N⟩:=AI n s;exact⟨_,h,R,C,A,B,.ref b0,rfl,D,cl,S,l1,_,T,b0,I,k,v,rfl,rfl,.of J,M,L v H O st .refl N⟩
      |d x0=>
       cases x0 with
       |list ds=>
        obtain⟨R,fp,h,⟨A,B,a1,s,D,e3,e4⟩,_,_⟩:=st.box (jE ho);rcases kq e4 f with⟨_,l2⟩ |⟨v,y1,a2,l1,l2,l3,_⟩
        .rw[g]at l2;cases l2
        .rw[g]at l2;cases l2;obtain⟨G,I,rfl,J,n⟩:=l3.2.lst_inv;obtain⟨d,s,L⟩:=dg (o:=bI ds k) (U:=U) (E:=E) q;obtain⟨v,M,N⟩:=AI n s;exact⟨_,h,R,C,A,B,.ref G,rfl,D,cl,S,l1,_,T,G,I,k,v,rfl,rfl,.of (cT J).1,M,L v H O st .refl N⟩
       |_=>exact q.elim
    |_=>exact q.elim⟩
def lA(C:Addr)(i:Nat)(f:Str)(j:Nat)(v:PyData):SM:=fun U=>match bV C U i,et U j with
 |some (io,fs),some (.int k)=>(match fs.lookup f with
  |some (.l ds)=>(match dj ds.length k with
   |some n=>.nx (U.set i (some (.own io (.o C (bK f (.l (ds.set n v)) fs)))))
   |none=>.bad)
  |_=>.bad)
 |_,_=>.bad
def mK(C:Addr)(i:Nat)(f:Str)(j:Nat)(m:XM PyData):SM:=fun U=>dD (m U) (lA C i f j)
theorem AJ(hd:DV G v d):∀{g j} n,aG G g j->aG G (g.set n v) (j.set n d)
 |_,_,_,.nil=>.nil
 |_,_,0,.cons _ t=>.cons hd t
 |_,_,n+1,.cons h t=>.cons h (AJ hd n t)
theorem OB{pos:Pos}{fpos:Pos}{h}(cl:cS X.K C)(T:cA X.K C f)(Z:PE X (.Name x p1) (cf i))(hy:PE X (.Name y r) (cf j))(he:FE X F E e m)(hb:autoParam (attributeBase (.Name x p1) f X.env (eval (.Name x p1) X.env)=eval (.Name x p1) X.env) Zq._auto_1)
  (hs:autoParam (swapsWithSole [.Subscript (.Attribute (.Name x p1) f fpos) (.Name y r) h] e pos.line X.env=pure false) Zq._auto_1) (hw:autoParam (swappedStores [.Subscript (.Attribute (.Name x p1) f fpos) (.Name y r) h] e X.env=pure none) Zq._auto_1)
  (h1:autoParam ((assignEach [.Subscript (.Attribute (.Name x p1) f fpos) (.Name y r) h] X.env).map (·.2)=[assign (.Subscript (.Attribute (.Name x p1) f fpos) (.Name y r) h) X.env]) Zq._auto_1)
  (hq:autoParam (∀v,assign (.Subscript (.Attribute (.Name x p1) f fpos) (.Name y r) h) X.env v=(do
   let A <-holding [v] (eval (.Attribute (.Name x p1) f fpos) X.env);let B <-holding [v,A] (eval (.Name y r) X.env)
   standAt h
   holding [v,A,B] (setItem A B v)
   release [v,A,B] [])) Zs._auto_1) :
  FS X F E (.Assign [.Subscript (.Attribute (.Name x p1) f fpos) (.Name y r) h] e pos) (mK C i f j m):=
 (xv he.pe (Hk (je Z hb) hy IW hq) hs hw h1).imp fun D Y H ⟨U,O,DD,st,q,fD⟩=>⟨U,O,st,aE _ _ _ (fun v R o S H1 O1 u s1 d1=>by
  unfold wpS lA at o;cases ho:bV C R i with
  |none=>rw[ho]at o;exact o.elim
  |some p=>
   obtain⟨io,fs⟩:=p;cases I:et R j with
   |none=>rw[ho,I]at o;exact o.elim
   |some y0=>
    rw[ho,I]at o;cases y0 with
    |int k=>
     simp only at o;cases s:fs.lookup f with
     |none=>rw[s]at o;exact o.elim
     |some t=>
      rw[s]at o;cases t with
      |d _=>exact o.elim
      |m _ _=>exact o.elim
      |l ds=>
       simp only at o;cases J:dj ds.length k with
       |none=>rw[J]at o;exact o.elim
       |some n=>rw[J]at o;obtain⟨w,L,dw⟩:=u.dat (oH I);obtain rfl:=dw.int_inv;obtain⟨a0,dx,gs,b0,M,e2,l1,⟨b1,N,eb,_,hH,z⟩,up⟩:=u.fldUp ho s rfl;cases eb;obtain⟨O2,Q,s2⟩:=up (.lst (N.set n S)) (.l (ds.set n v)) trivial (fun G g=>⟨b0,N.set n S,rfl,rfl,cK,AJ (DV.mono g d1) n (aG.mono g z)⟩);exact⟨_,M,a0,C,dx,gs,.ref b0,rfl,e2,cl,T,l1,_,L,b0,N,k,n,rfl,rfl,hH,by rw[z.length];exact J,fD.nx _ _ _ _ Q (s1.trans s2) o⟩
    |_=>exact o.elim) (fA (m:=m) (k:=lA C i f j) q)⟩
def qP(C:Addr)(i:Nat)(f:Str)(n:Int):SM:=fun U=>match bV C U i with
 |some (io,fs)=>(match fs.lookup f with
  |some (.d (.int v))=>if fs.length<1000 then .nx (U.set i (some (.own io (.o C (bK f (.d (.int (v+n))) fs))))) else .bad
  |_=>.bad)
 |none=>.bad
theorem OC(cl:cS X.K C)(R:cA X.K C f)(S:PE X (.Name x p1) (cf i))(T:PE X e (fun Y H Q=>Q (.int n) H)):FS X F E (.AugAssign (.Attribute (.Name x p1) f k) .Add e pos) (qP C i f n):=
 (Io S T Iq).imp fun D Y H r=>by
  obtain⟨U,O,DD,st,q,Z⟩:=r;unfold wpS qP at q;cases ho:bV C U i with
  |none=>rw[ho]at q;exact q.elim
  |some p=>
   obtain⟨io,fs⟩:=p;rw[ho]at q;simp only at q;cases g:fs.lookup f with
   |none=>rw[g]at q;exact q.elim
   |some t=>
    rw[g]at q;cases t with
    |l _=>exact q.elim
    |m _ _=>exact q.elim
    |d x0=>
     cases x0 with
     |int v0=>
      simp only at q
      by_cases A:fs.length<1000
      .rw[if_pos A]at q;obtain⟨y,fp,B,⟨j,u,h,e1,N,e3,e4⟩,hO,nd,up⟩:=st.boxN (jE ho);subst e1;have I:j≠y:=fun z=>by subst z;simp at nd
       rcases kq e4 f with⟨_,l2⟩ |⟨v,y1,a1,l1,l2,l3,_⟩
       .rw[g]at l2;cases l2
       .rw[g]at l2;cases l2;obtain rfl:=l3.2.int_inv;obtain⟨O3,J,s3,_⟩:=up (aI H y (.ins C j (cF f (.int (v0+n)) u))) (.o C (bK f (.d (.int (v0+n))) fs)) (y::j::h.flatten) (fun c o L e=>by rw[bv (fun z=>L (by simp[z]))];exact e) nd (fun c M=>.inl M) (fun G O' s hG _=>by
         subst hG;refine⟨s.hid,j,cF f (.int (v0+n)) u,if (fs.lookup f).isSome=true then h else h++[[]],?_,cK,by rw[bv I];exact e3,?_⟩
         .split
          .rfl
          .simp
         .refine e4.putD (by rw[g];rfl) (.int _) s.hid fun c M=>bv (fun z=>?_);subst z;exact absurd M (fun w=>(List.nodup_cons.mp nd).1 (bq _ w)))
        exact⟨_,B,y,C,j,u,_,rfl,N,cl,R,l1,v0,n,rfl,rfl,j,u,N,by rw[e4.len];exact A,Z.nx _ _ _ _ J s3 q⟩
      .rw[if_neg A]at q;exact q.elim
     |_=>exact q.elim
theorem AK:∀{i fs a},bo G H i fs a->fs.lookup f=none->bR G b->(∀c∈a.flatten,d c=H c)->fN b d (.ref p) y [p]->bo b d (cF f (.ref p) i) (bK f y fs) (a++[[p]])
 |_,_,_,.nil,_,_,_,h=>.cons h .nil
 | (n,v)::i,(_,z)::fs,o::a,.cons h1 h2,j,g,k,h=>by
  by_cases e:f=n
  .subst e;simp[List.lookup]at j
  .have m:(f==n)=false:=by simpa using e
   rw[List.lookup_cons,m]at j;unfold cF bK;rw[if_neg (fun z=>e z.symm),if_neg (fun z=>e z.symm)];exact .cons (h1.keep (fun c l=>k c (by rw[List.flatten_cons];exact bC _ l)) g) (AK h2 j g (fun c l=>k c (by rw[List.flatten_cons];exact bu _ l)) h)
theorem aB.fldNew{K}(st:aB K F H Y U O)(R:bV C U i=some (io,fs))(lk:fs.lookup f=none) :
  ∃a d g,Y[i]? = some (some (.ref a))/\H a=some (.ins C d g)/\g.length=fs.length/\
   ∀p  h  y,H p=none->Mv h->(∀G,bR (aq O H) G->fN G (aI (aI H p h) a (.ins C d (cF f (.ref p) g))) (.ref p) y [p])->aI H p h a=some (.ins C d g)/\∃l,aB K F (aI (aI H p h) a (.ins C d (cF f (.ref p) g))) Y (U.set i (some (.own io (.o C (bK f y fs))))) l/\aP O H l (aI (aI H p h) a (.ins C d (cF f (.ref p) g))):=by
 obtain⟨a,S,n,⟨d,g,j,B,q,v,e4⟩,D,nd,up⟩:=st.boxN (jE R);subst B;have m:=nd;rw[List.nodup_cons,List.nodup_cons]at m;obtain⟨r,t,E⟩:=m;have ad:d≠a:=fun z=>r (by rw[z];exact List.mem_cons_self);refine⟨a,d,g,n,q,e4.len,fun p h y k T I=>?_⟩;have pa:a≠p:=fun z=>by subst z;rw[q]at k;cases k
 have w:d≠p:=fun z=>by subst z;rw[v]at k;cases k
 have J:=st.live;have A:p∉j.flatten:=fun z=>by exact absurd (D p (bq _ (bq _ z))) (st.nofree p k)
 refine⟨by rw[bv pa];exact q,?_⟩;obtain⟨l,u,L,_⟩:=up (aI (aI H p h) a (.ins C d (cF f (.ref p) g))) (.o C (bK f y fs)) (a::d::(j++[[p]]).flatten) (fun c o b e=>by
   rw[bv (fun z=>b (by simp[z])),bv (fun z=>by subst z;rw[k]at e;cases e)];exact e) (by
   rw[List.flatten_append];simp only[List.flatten_cons,List.flatten_nil,List.append_nil];refine List.nodup_cons.mpr ⟨fun z=>?_,List.nodup_cons.mpr ⟨fun z=>?_,List.nodup_append.mpr ⟨E,by simp,fun x M y N=>?_⟩⟩⟩
   .rcases List.mem_cons.mp z with z |z
    .exact ad z.symm
    .rcases List.mem_append.mp z with z |z
     .exact r (bq _ z)
     .exact pa (List.mem_singleton.mp z)
   .rcases List.mem_append.mp z with z |z
    .exact t z
    .exact w (List.mem_singleton.mp z)
   .rw[List.mem_singleton.mp N];exact fun z=>A (by rw[<-z];exact M)) (fun c b=>by
   rw[List.flatten_append]at b;simp only[List.flatten_cons,List.flatten_nil,List.append_nil]at b;rcases List.mem_cons.mp b with rfl |b
   .exact .inl List.mem_cons_self
   .rcases List.mem_cons.mp b with rfl |b
    .exact .inl (by simp)
    .rcases List.mem_append.mp b with b |b
     .exact .inl (bq _ (bq _ b))
     .exact .inr (by rw[List.mem_singleton.mp b];exact k)) (fun G l s Q _=>by
  subst Q;refine⟨s.hid,d,cF f (.ref p) g,j++[[p]],rfl,cK,by rw[bv ad,bv w];exact v,AK e4 lk s.hid (fun c b=>?_) (I _ s.hid)⟩;rw[bv (fun z=>r (by rw[<-z];exact bq _ b)),bv (fun z=>A (by rw[<-z];exact b))])
 exact⟨l,u,L⟩
def lB(C:Addr)(i:Nat)(f:Str)(y:Fl):SM:=fun U=>match bV C U i with
 |some (io,fs)=>if fs.lookup f=none/\fs.length<1000 then .nx (U.set i (some (.own io (.o C (bK f y fs))))) else .bad
 |none=>.bad
theorem OD(cl:cS X.K C)(r:cA X.K C f)(s:PE X (.Name x p1) (cf i))(t:autoParam (swapsWith (.List [] p2) (some (.Attribute (.Name x p1) f pos')) pos.line X.env=pure false) Zq._auto_1):FS X F E (.Assign [.Attribute (.Name x p1) f pos'] (.List [] p2) pos) (lB C i f (.l [])):=
 (qj s (qk fm) t).imp fun D Y H d=>by
  obtain⟨U,O,L,st,q,u⟩:=d;unfold wpS lB at q;cases ho:bV C U i with
  |none=>rw[ho]at q;exact q.elim
  |some p=>
   obtain⟨io,fs⟩:=p;rw[ho]at q;simp only at q
   by_cases h:fs.lookup f=none/\fs.length<1000
   .rw[if_pos h]at q;obtain⟨o,v,w,j,y,A,B⟩:=st.fldNew ho h.1;refine⟨Nat.zero_le _,fun p k=>?_⟩;have pa:o≠p:=fun z=>by subst z;rw[y]at k;cases k
    obtain⟨J,M,n,I⟩:=B p (.lst []) (.l []) k trivial (fun G g=>⟨p,[],rfl,rfl,by rw[bv (fun z=>pa z.symm),cK],.nil⟩);exact⟨_,j,o,C,v,w,rfl,J,cl,r,by rw[A];exact h.2,u.nx _ _ _ _ n I q⟩
   .rw[if_neg h]at q;exact q.elim
theorem OE(cl:cS X.K C)(o:cA X.K C f)(r:PE X (.Name x p1) (cf i))(s:autoParam (swapsWith (.Dict [] [] p2) (some (.Attribute (.Name x p1) f pos')) pos.line X.env=pure false) Zq._auto_1):FS X F E (.Assign [.Attribute (.Name x p1) f pos'] (.Dict [] [] p2) pos) (lB C i f (.m true [])):=
 (qj r JB s).imp fun D Y H d=>by
  obtain⟨U,O,J,st,q,t⟩:=d;unfold wpS lB at q;cases ho:bV C U i with
  |none=>rw[ho]at q;exact q.elim
  |some p=>
   obtain⟨io,fs⟩:=p;rw[ho]at q;simp only at q
   by_cases h:fs.lookup f=none/\fs.length<1000
   .rw[if_pos h]at q;obtain⟨n,u,v,j,w,y,A⟩:=st.fldNew ho h.1;intro p k;have pa:n≠p:=fun z=>by subst z;rw[w]at k;cases k
    obtain⟨I,L,l,B⟩:=A p (.dT []) (.m true []) k trivial (fun G g=>⟨p,rfl,rfl,[],by rw[bv (fun z=>pa z.symm),cK],.nil⟩);exact⟨_,j,n,C,u,v,rfl,I,cl,o,by rw[y];exact h.2,t.nx _ _ _ _ l B q⟩
   .rw[if_neg h]at q;exact q.elim
noncomputable def qQ(C:Addr)(i:Nat)(f:Str):XM PyData:=fun U=>match bV C U i with
 |some (_,fs)=>(match fs.lookup f with
  |some (.l ds)=>.ok (.list ds) U
  |_=>.bad)
 |none=>.bad
theorem OF{F:Fx}{E:Str->ak->Prop}{pos:Pos}{fpos:Pos}{s}(u:Gl X "list")(v:X.mg "list" = none)(cl:cS X.K C)(w:cA X.K C f)(y:PE X (.Name x p1) (cf i))(J:autoParam (attributeBase (.Name x p1) f X.env (eval (.Name x p1) X.env)=eval (.Name x p1) X.env) Zq._auto_1)
  (r:autoParam (starEach [.Attribute (.Name x p1) f fpos] X.env=(false,eval (.Attribute (.Name x p1) f fpos) X.env)::starEach [] X.env) Zq._auto_1) (k:autoParam ((backTo pos (starEach [] X.env)).any (·.1)=false) Zq._auto_1) :
  FE X F E (.Call (.Name "list" s) [.Attribute (.Name x p1) f fpos] [] pos) (qQ C i f):=
 ⟨aE,(xY Jd u v (show bootBuiltins "list" = some (.type "list") by decide +kernel) (em (je y J) fm r) (by decide) (by decide) r k).imp fun Y H Q h=>by
  obtain⟨U,O,st,q⟩:=h;unfold wp qQ at q;cases ho:bV C U i with
  |none=>rw[ho]at q;exact q.elim
  |some p=>
   obtain⟨io,fs⟩:=p;rw[ho]at q;simp only at q;cases g:fs.lookup f with
   |none=>rw[g]at q;exact q.elim
   |some t=>
    rw[g]at q;cases t with
    |d _=>exact q.elim
    |m _ _=>exact q.elim
    |l ds=>
     obtain⟨L,z,A,b0,n,B,l1,⟨M,D,G,_,I,o⟩,_⟩:=st.fldUp ho g rfl;cases G;exact⟨_,n,L,C,z,A,.ref b0,rfl,B,cl,w,l1,b0,D,rfl,.inl (.of I),fun p j=>q _ _ O (st.grow (bS j)) (.same (bS j)) (jV j (st.nofree p j) o)⟩⟩
end L2.L3
namespace L2
open PySem
theorem AL(a d):argsOk "min" ⟨[a],[("default",d)]⟩:=by unfold argsOk;kernel_rfl
theorem AM{s:Shared}{id}(k:builtinKind id=none)(l:plainId id=true)(n:entryFor table id=some b)(m:argsOk id ⟨args,d⟩)
  (i:wpAny (model prog w) A.in1 (b ⟨args,d⟩) (fun fin a=>match fin with
   |.done f=>(match (Except.ok f:Result) with |.ok (.ret v)=>Q v a |.ok _=>False |.error e=>E e a)
   |.again j=>j.quiet=true/\codeAny (model prog w) A j (fun r a=>match r with |.ok (.ret v)=>Q v a |.ok _=>False |.error e=>E e a) a) E s):wpAny (model prog w) A (call (.builtin id) args d) Q E s:=by
 refine wpAny_call (codeAny_call_builtin l n ?_);simp only[checkBuiltinCall,k];cases c:Manifest.signature? id with
 |none=>exact aR i
 |some g=>
  have h:Bind.checkArgs id g ⟨args,d⟩=pure ():=by simpa only[argsOk,c] using m
  simp only[h];exact aR i
theorem OG(t:A.handled=none)(k:s.heap.IsList l #[])(p:∀c,(∀b o,s.heap.get? b=some o->c.get? b=some o)->Q d { s with heap:=c }) :
  wpAny (model prog w) A (call (.builtin "min") [.ref l] [("default",d)]) Q E s:=by
 refine AM F.kind_min F.plain_min F.entry_min (AL _ _) ?_;show wpAny _ A.in1 (Builtin.Builtins.bindParams "min" ["key","default"] 0 ⟨[],[("default",d)]⟩ >>= _) _ _ s;refine ae (wpAny_of_eq (show Builtin.Builtins.bindParams "min" ["key","default"] 0 ⟨[],[("default",d)]⟩=pure [none,some d] from rfl) ?_);refine ae (aR ?_);refine ae (wpAny_pyIter_list k ?_);refine ae (wpAny_newObj_type ?_);have a:(toString "min"++toString ".loop":String)="min.loop":=by decide
 rw[a];obtain⟨ol,f,g,nl,h⟩:=id k;generalize m:(s.heap.push { cls:=.type "list_iterator",data:=.fields #[.ref l,.int 0 0] })=h1;have q:h1.get? s.heap.objs.size=some { cls:=.type "list_iterator",data:=.fields #[.ref l,.int 0 0] }:=by rw[<-m];exact Heap.get?_push_size _ rfl
 have n:∀b o,s.heap.get? b=some o->h1.get? b=some o:=fun b o e=>by rw[<-m];exact aS _ e
 refine aR ⟨plainId_quiet F.plain_min_loop _,?_⟩;refine codeAny_builtin F.entry_min_loop ?_;rw[Around.under_plainId F.plain_min_loop _];have r:(h1.push { cls:=.type "list",data:=.seq #[] }).get? h1.objs.size=some { cls:=.type "list",data:=.seq #[] }:=Heap.get?_push_size _ rfl;show wpAny _ A.in1 (seqItems? (.ref h1.objs.size) >>= _) _ _ _;refine ae (wpAny_seqItems r rfl ?_);show wpAny _ A.in1 (tryCatch (pyNext (.ref s.heap.objs.size)) _ >>= _) _ _ _;refine ae (wpAny_tryCatch (wpAny_pyNext_list_end (i:=0) (l:=l) (items:=#[]) t ⟨_,aS _ q,rfl,rfl⟩ ⟨ol,aS _ (n _ _ f),g,nl,h⟩ rfl fun c j=>?_));refine ae (wpAny_rule (aR ?_));exact p c fun b o e=>j b o (Nat.ne_of_lt (bj e)) (aS _ (n b o e))
theorem OH(hit:s.heap.IsTupleIter it t i)(d:s.heap.IsTuple t items)(e:items[i]? = some x)
  (f:∀a,a.IsTupleIter it t (i+1)->Heap.SameBut it s.heap a->Q x { s with heap:=a }):wpAny (model prog w) A (Builtin.SmallTypes.nextOf (.ref it)) Q E s:=by
 obtain⟨o,ho,g,hd⟩:=id hit;obtain⟨ol,b,_,nl,c⟩:=d;unfold Builtin.SmallTypes.nextOf;refine ae (wpAny_callSpecial?_slot (name:=Str.ofString "__next__") hit.typeIs F.slot_tuple_iterator_next (wpAny_call_entry F.slot_tuple_iterator_next hit.typeIs F.entry_tuple_iterator_next ?_ (F.args_tuple_iterator_next_1 _)));show wpAny _ _ (field (.ref it) 0 >>= _) _ _ s;refine ae (wpAny_field ho hd (x:=.ref t) rfl ?_);show wpAny _ _ (if (Value.ref t==Value.none)=true then _ else _) _ _ s;rw[if_neg (by exact Bool.false_ne_true)];show wpAny _ _ (field (.ref it) 1 >>= _) _ _ s;refine ae (wpAny_field ho hd (x:=.int i 0) rfl ?_);show wpAny _ _ (seqItems? (.ref t) >>= _) _ _ s;refine ae (wpAny_seqItems b c ?_);simp only[Int.toNat_natCast,e];refine ae (wpAny_setField ho hd (by simp) (aR ⟨x,rfl,aR (f _ ⟨_,Heap.get?_update_self _ ho (Obj.isFreed_of_fields (Obj.data_mapFields hd _)),(Obj.cls_mapFields ..).trans g,?_⟩ (Heap.SameBut.update ..))⟩));rw[Obj.data_mapFields hd];simp[rawInt]
theorem OI(f:A.handled=none)(hit:s.heap.IsTupleIter it t i)(g:s.heap.IsTuple t items)(h:items[i]? = none)
  (j:∀b e,Heap.ExtBut it s.heap b->(∃o,b.get? e=some o/\o.cls=.type "StopIteration")->E (.ref e) { s with heap:=b }):wpAny (model prog w) A (Builtin.SmallTypes.nextOf (.ref it)) Q E s:=by
 obtain⟨o,ho,k,hd⟩:=id hit;obtain⟨ol,c,_,nl,d⟩:=g;unfold Builtin.SmallTypes.nextOf;refine ae (wpAny_callSpecial?_slot (name:=Str.ofString "__next__") hit.typeIs F.slot_tuple_iterator_next (wpAny_call_entry F.slot_tuple_iterator_next hit.typeIs F.entry_tuple_iterator_next ?_ (F.args_tuple_iterator_next_1 _)));show wpAny _ _ (field (.ref it) 0 >>= _) _ _ s;refine ae (wpAny_field ho hd (x:=.ref t) rfl ?_);show wpAny _ _ (if (Value.ref t==Value.none)=true then _ else _) _ _ s;rw[if_neg (by exact Bool.false_ne_true)];show wpAny _ _ (field (.ref it) 1 >>= _) _ _ s;refine ae (wpAny_field ho hd (x:=.int i 0) rfl ?_);show wpAny _ _ (seqItems? (.ref t) >>= _) _ _ s;refine ae (wpAny_seqItems c d ?_);simp only[Int.toNat_natCast,h];refine ae (wpAny_rule (ae (wpAny_setField ho hd (by simp) ?_)));show wpAny _ _ (newExc (.type "StopIteration") [] >>= _) _ _ _;refine ae ?_;simp only[newExc,newTuple];refine ae (wpAny_newObj_type ?_ (by size_fits));refine ae (m:=firstArgMember _ _) (wpAny_of_eq (a:=Value.none) (by first |rfl |(simp only[firstArgMember];rfl)) ?_);refine wpAny_newObj_type ?_ (by size_fits);simp only[raiseNew];refine ae (wpAny_handled ?_)
 first |rw[show A.in1.handled=none from f] |rw[f]
 exact ae (aR (wpAny_throw (j _ _ (((Heap.SameBut.update ..).extBut.push _).push _) ⟨_,Heap.get?_push_size _ rfl,rfl⟩)))
theorem qR(hh:A.handled=none)(it l)(hne:l≠it)(items):Draws prog w A it [it,l] items.size (fun i v=>items[i]? = some v) (fun i h=>h.IsTupleIter it l i/\h.IsTuple l items) where
 live:=fun _ _ st=>let⟨o,ho,_⟩:=st.1;⟨o,ho⟩
 frame:=fun _ _ _ st hk=>⟨let⟨o,ho,r⟩:=st.1;⟨o,hk it (by simp) o ho,r⟩,let⟨o,ho,r⟩:=st.2;⟨o,hk l (by simp) o ho,r⟩⟩
 item:=fun i s Q E hi st hQ=>OH st.1 st.2 (x:=items[i]) (by simp[hi]) fun h' hit' hs'=>hQ _ h' s.toks (by simp[hi]) ⟨hit',st.2.extBut hs'.extBut hne⟩ hs'
 done:=fun s Q E st hE=>OI hh st.1 st.2 (by simp) hE
theorem OJ{TI TO }{Q:Value->Shared->Prop}(X:Draws prog w A t f1 n1 P1 T)(D2:Draws prog w A u f2 n2 P2 U)
  (nd:[z,TI,TO,t,u].Nodup) (g1:∀c∈f1,c≠z/\c≠TO/\c≠u) (g2:∀c∈f2,c≠z/\c≠TO/\c≠t) (I:IsZip s.heap z TI TO .none) (Y:dN s.heap TI (.ref t) (.ref u)) (Z:dN s.heap TO a b) (h1:T k s.heap) (h2:U k s.heap) (l1:k<n1) (l2:k<n2)
  (hQ:∀x y B tk,P1 k x->P2 k y->IsZip B z TI TO (rawInt s.heap.objs.size)->dN B TO x y->T (k+1) B->U (k+1) B->dN B s.heap.objs.size x y->B.objs.size=s.heap.objs.size+1->
   (∀c o,c∉[z,TO,t,u]->s.heap.get? c=some o->B.get? c=some o)->Q (.ref s.heap.objs.size) { s with heap:=B,toks:=tk }) :
  wpAny (model prog w) A (Builtin.«zip.__next__» ⟨[.ref z],[]⟩) (fun fin s'=>∃v,fin=.done (.ret v)/\Q v s') E s:=by
 simp only[List.nodup_cons,List.mem_cons,List.not_mem_nil,or_false,not_or,not_false_eq_true,and_true,List.nodup_nil]at nd;obtain⟨⟨a4,p,z1,z2⟩,⟨a3,a5,a6⟩,⟨a0,a1⟩,a7⟩:=nd;obtain⟨hp,g,d,a8,os⟩:=s;show wpAny _ _ (field (.ref z) 2 >>= _) _ _ _;refine ae (wpAny_field I rfl (x:=.bool false) rfl ?_);show wpAny _ _ (field (.ref z) 3 >>= _) _ _ _;refine ae (wpAny_field I rfl (x:=.ref TI) rfl ?_);refine ae (wpAny_seqItems Y rfl ?_);show wpAny _ _ (Builtin.SmallTypes.ownedTupleIsFree (.ref z) >>= _) _ _ _;refine ae ?_;unfold Builtin.SmallTypes.ownedTupleIsFree;refine ae (wpAny_field I rfl (x:=.none) rfl (aR ?_));simp only[if_true];refine ae (wpAny_rule ?_);refine ae (wpAny_field I rfl (x:=.ref TO) rfl ?_);refine ae (wpAny_setField_rec I (by simp) fun hA C h=>?_)
 replace C:IsZip hA z TI TO .ellipsis:=C
 replace h:Heap.SameBut z hp hA:=h
 refine ae ?_;simp only[List.zipIdx_cons,List.zipIdx_nil,List.forIn_cons,List.forIn_nil];refine ae (ae (wpAny_onRaise ?_));show wpAny _ _ (Builtin.SmallTypes.nextOf (.ref t) >>= _) _ _ _;refine ae (X.item k _ _ _ l1 (X.frame _ _ _ h1 fun c f o e=>h.extBut _ _ (g1 c f).1 e) fun x hB a9 px sB i=>aR ?_)
 replace i:Heap.SameBut t hA hB:=i
 have tB:dN hB TO a b:=i.extBut _ _ a0 (h.extBut _ _ (Ne.symm p) Z);refine ae (wpAny_seqItems tB rfl ?_);refine ae (wpAny_updateSeq_pair tB fun hC tC j=>?_)
 replace tC:dN hC TO x b:=tC
 replace j:Heap.SameBut TO hB hC:=j
 refine ae (wpAny_letGo (aR ?_));refine ae (ae (wpAny_onRaise ?_));show wpAny _ _ (Builtin.SmallTypes.nextOf (.ref u) >>= _) _ _ _;refine ae (D2.item k _ _ _ l2 (D2.frame _ _ _ h2 fun c f o e=>j.extBut _ _ (g2 c f).2.1 (i.extBut _ _ (g2 c f).2.2 (h.extBut _ _ (g2 c f).1 e))) fun y hD b0 py sD l=>aR ?_)
 replace l:Heap.SameBut u hC hD:=l
 have tD:dN hD TO x b:=l.extBut _ _ a1 tC;refine ae (wpAny_seqItems tD rfl ?_);refine ae (wpAny_updateSeq_pair tD fun n R m=>?_)
 replace R:dN n TO x y:=R
 replace m:Heap.SameBut TO hD n:=m
 refine ae (wpAny_letGo (aR (aR ?_)));refine ae (wpAny_seqItems R rfl ?_);refine ae (wpAny_newTuple ?_);have J:n.objs.size=hp.objs.size:=by rw[m.1,l.1,j.1,i.1,h.1]
 have L:IsZip n z TI TO .ellipsis:=m.extBut _ _ p (l.extBut _ _ z2 (j.extBut _ _ p (i.extBut _ _ z1 C)));have kF:∀c o,c∉[z,TO,t,u]->hp.get? c=some o->n.get? c=some o:=fun c o f e=>by simp only[List.mem_cons,List.not_mem_nil,or_false,not_or]at f;obtain⟨S,c2,c3,c4⟩:=f;exact m.extBut _ _ c2 (l.extBut _ _ c4 (j.extBut _ _ c2 (i.extBut _ _ c3 (h.extBut _ _ S e))))
 have M:z<n.objs.size:=bj L;show wpAny _ _ (Builtin.SmallTypes.ownedTupleHandOut (.ref z) (.ref n.objs.size) >>= _) _ _ _;refine ae ?_;unfold Builtin.SmallTypes.ownedTupleHandOut;have a2:IsZip (n.push { cls:=.type "tuple",data:=.seq #[x,y] }) z TI TO .ellipsis:=aS _ L;refine ae (wpAny_setField_rec a2 (by simp) fun hI D G=>?_)
 replace D:IsZip hI z TI TO (rawInt n.objs.size):=D
 refine wpAny_setField_rec D (by simp) fun N r H=>?_
 replace r:IsZip N z TI TO (rawInt n.objs.size):=r
 have up:∀c o,c≠z->n.get? c=some o->N.get? c=some o:=fun c o S e=>H.extBut _ _ S (G.extBut _ _ S (aS _ e));have tJ:dN N n.objs.size x y:=H.extBut _ _ (Nat.ne_of_gt M) (G.extBut _ _ (Nat.ne_of_gt M) (Heap.get?_push_size _ rfl));have O:N.objs.size=n.objs.size+1:=by rw[H.1,G.1,Heap.size_push]
 rw[J]at r tJ O;refine aR ⟨_,rfl,?_⟩;show Q (.ref n.objs.size) _;rw[J];exact hQ x y N _ px py r (up _ _ (Ne.symm p) R) (X.frame _ _ _ sB fun c f o e=>up c o (g1 c f).1 (m.extBut _ _ (g1 c f).2.1 (l.extBut _ _ (g1 c f).2.2 (j.extBut _ _ (g1 c f).2.1 e)))) (D2.frame _ _ _ sD fun c f o e=>up c o (g2 c f).1 (m.extBut _ _ (g2 c f).2.1 e)) tJ O
  fun c o f e=>up c o (fun q=>f (by simp[q])) (kF c o f e)
theorem OK{TI TO }(N:Draws prog w A t f1 M P1 Z)(D2:Draws prog w A u f2 Y P2 S2)
  (nd:[z,TI,TO,t,u].Nodup) (g1:∀c∈f1,c≠z/\c≠TO/\c≠u) (g2:∀c∈f2,c≠z/\c≠TO/\c≠t) (y:IsZip s.heap z TI TO .none) (O:dN s.heap TI (.ref t) (.ref u)) (R:dN s.heap TO a b) (h1:Z k s.heap) (h2:S2 k s.heap) (he:k=M\/k<M/\k=Y)
  (hE:∀S e tk,(∀c o,c∉[z,TO,t,u]->s.heap.get? c=some o->S.get? c=some o)->(∃o,S.get? e=some o/\o.cls=.type "StopIteration")->E (.ref e) { s with heap:=S,toks:=tk }) :
  wpAny (model prog w) A (Builtin.«zip.__next__» ⟨[.ref z],[]⟩) Q E s:=by
 simp only[List.nodup_cons,List.mem_cons,List.not_mem_nil,or_false,not_or,not_false_eq_true,and_true,List.nodup_nil]at nd;obtain⟨⟨a1,B,z1,z2⟩,⟨a0,a2,a3⟩,⟨T,a4⟩,a5⟩:=nd;obtain⟨hp,g,d,a6,os⟩:=s;show wpAny _ _ (field (.ref z) 2 >>= _) _ _ _;refine ae (wpAny_field y rfl (x:=.bool false) rfl ?_);show wpAny _ _ (field (.ref z) 3 >>= _) _ _ _;refine ae (wpAny_field y rfl (x:=.ref TI) rfl ?_);refine ae (wpAny_seqItems O rfl ?_);show wpAny _ _ (Builtin.SmallTypes.ownedTupleIsFree (.ref z) >>= _) _ _ _;refine ae ?_;unfold Builtin.SmallTypes.ownedTupleIsFree;refine ae (wpAny_field y rfl (x:=.none) rfl (aR ?_));simp only[if_true];refine ae (wpAny_rule ?_);refine ae (wpAny_field y rfl (x:=.ref TO) rfl ?_);refine ae (wpAny_setField_rec y (by simp) fun J p l=>?_)
 replace p:IsZip J z TI TO .ellipsis:=p
 replace l:Heap.SameBut z hp J:=l
 refine ae ?_;simp only[List.zipIdx_cons,List.zipIdx_nil,List.forIn_cons,List.forIn_nil];refine ae (ae (wpAny_onRaise ?_));show wpAny _ _ (Builtin.SmallTypes.nextOf (.ref t) >>= _) _ _ _;have C:=N.frame _ _ _ h1 fun c h o e=>l.extBut _ _ (g1 c h).1 e;rcases he with rfl |⟨U,rfl⟩
 .refine ae (N.done _ _ _ C fun hB e f v=>?_);obtain⟨D,m,n⟩:=v
  replace f:Heap.ExtBut t J hB:=f
  have G:IsZip hB z TI TO .ellipsis:=f _ _ z1 p;have ne:e≠z:=fun q=>by subst q;have i:hB.get? e=some D:=m;rw[G]at i;cases i;simp at n
  refine wpAny_setField_rec G (by simp) fun L _ j=>hE L e _ (fun c o h q=>?_) ⟨D,j.extBut _ _ ne m,n⟩;simp only[List.mem_cons,List.not_mem_nil,or_false,not_or]at h;exact j.extBut _ _ h.1 (f _ _ h.2.2.1 (l.extBut _ _ h.1 q))
 .refine ae (N.item k _ _ _ U C fun x hB a7 px sB f=>aR ?_)
  replace f:Heap.SameBut t J hB:=f
  have tB:dN hB TO a b:=f.extBut _ _ T (l.extBut _ _ (Ne.symm B) R);refine ae (wpAny_seqItems tB rfl ?_);refine ae (wpAny_updateSeq_pair tB fun L tC j=>?_)
  replace j:Heap.SameBut TO hB L:=j
  refine ae (wpAny_letGo (aR ?_));refine ae (ae (wpAny_onRaise ?_));show wpAny _ _ (Builtin.SmallTypes.nextOf (.ref u) >>= _) _ _ _;refine ae (D2.done _ _ _ (D2.frame _ _ _ h2 fun c h o e=>j.extBut _ _ (g2 c h).2.1 (f.extBut _ _ (g2 c h).2.2 (l.extBut _ _ (g2 c h).1 e))) fun X e r v=>?_);obtain⟨D,m,n⟩:=v
  replace r:Heap.ExtBut u L X:=r
  have H:IsZip X z TI TO .ellipsis:=r _ _ z2 (j.extBut _ _ B (f.extBut _ _ z1 p));have ne:e≠z:=fun q=>by subst q;have i:X.get? e=some D:=m;rw[H]at i;cases i;simp at n
  refine wpAny_setField_rec H (by simp) fun hF _ I=>hE hF e _ (fun c o h q=>?_) ⟨D,I.extBut _ _ ne m,n⟩;simp only[List.mem_cons,List.not_mem_nil,or_false,not_or]at h;exact I.extBut _ _ h.1 (r _ _ h.2.2.2 (j.extBut _ _ h.2.1 (f.extBut _ _ h.2.2.1 (l.extBut _ _ h.1 q))))
theorem OL{TI TO }(u:Draws prog w A.in1 e f1 m p g)(D2:Draws prog w A.in1 f f2 n q h)
  (N:[z,TI,TO,e,f].Nodup) (g1:∀c∈f1,c≠z/\c≠TO/\c≠f) (g2:∀c∈f2,c≠z/\c≠TO/\c≠e) (r:IsZip s.heap z TI TO .none) (i:dN s.heap TI (.ref e) (.ref f)) (j:dN s.heap TO a b) (O:g k s.heap) (R:h k s.heap) (S:k<m) (T:k<n)
  (v:∀x y d l,p k x->q k y->IsZip d z TI TO (rawInt s.heap.objs.size)->dN d TO x y->g (k+1) d->h (k+1) d->dN d s.heap.objs.size x y->d.objs.size=s.heap.objs.size+1->
   (∀c o,c∉[z,TO,e,f]->s.heap.get? c=some o->d.get? c=some o)->Q (some (.ref s.heap.objs.size)) { s with heap:=d,toks:=l }) :
  wpAny (model prog w) A (pyNext (.ref z)) Q E s:=by
 have t:s.TypeIs (.ref z) "zip":=⟨_,r,rfl⟩
 unfold pyNext;exact ae (wpAny_attempt (wpAny_callSpecial?_slot (name:=Str.ofString "__next__") t F.slot_zip_next (wpAny_call_entry F.slot_zip_next t F.entry_zip_next
   (OJ u D2 N g1 g2 r i j O R S T fun x y d l B C D G H I J L M=>aR (v x y d l B C D G H I J L M)) (F.args_zip_next_1 _))))
theorem OM{TI TO }(x:Draws prog w A.in1 d f1 g u n)(D2:Draws prog w A.in1 f f2 m v p)
  (G:[z,TI,TO,d,f].Nodup) (g1:∀c∈f1,c≠z/\c≠TO/\c≠f) (g2:∀c∈f2,c≠z/\c≠TO/\c≠d) (q:IsZip s.heap z TI TO .none) (h:dN s.heap TI (.ref d) (.ref f)) (i:dN s.heap TO a b) (H:n k s.heap) (I:p k s.heap) (y:k=g\/k<g/\k=m)
  (B:∀j r,(∀c o,c∉[z,TO,d,f]->s.heap.get? c=some o->j.get? c=some o)->Q none { s with heap:=j,toks:=r }):wpAny (model prog w) A (pyNext (.ref z)) Q E s:=by
 have t:s.TypeIs (.ref z) "zip":=⟨_,q,rfl⟩
 unfold pyNext;refine ae (wpAny_attempt (wpAny_callSpecial?_slot (name:=Str.ofString "__next__") t F.slot_zip_next (wpAny_call_entry F.slot_zip_next t F.entry_zip_next (OK x D2 G g1 g2 q h i H I y fun j e r C l=>?_) (F.args_zip_next_1 _))));obtain⟨o,ho,D⟩:=l;exact ae (wpAny_isInstance (T:="StopIteration") (b:=true) ⟨o,ho,D⟩ isSubtype_stop (aR (B _ _ C)))
noncomputable abbrev qS(h:Heap)(a:Addr):Heap:=h.push { cls:=.type "tuple_iterator",data:=.fields #[.ref a,.int 0 0] }
abbrev qT(h:Heap)(a b:Addr):Heap:=(qS h a).push { cls:=.type "list_iterator",data:=.fields #[.ref b,.int 0 0] }
abbrev qU(h:Heap)(a b:Addr):Heap:=(qT h a b).push { cls:=.type "tuple",data:=.seq #[.ref h.objs.size,.ref (qS h a).objs.size] }
abbrev qV(h:Heap)(a b:Addr):Heap:=(qU h a b).push { cls:=.type "tuple",data:=.seq #[.none,.none] }
abbrev mL(h:Heap)(a b:Addr):Heap:=(qV h a b).push { cls:=.type "zip",data:=.fields #[.none,.bool false,.bool false,.ref (qT h a b).objs.size,.ref (qU h a b).objs.size] }
theorem ON(a b)(j k) :
  Meets (Builtin.«zip.__new__» ⟨[.type "zip",.ref a,.ref b],[]⟩) (fun _ R s=>s.heap.IsTuple a j/\s.heap.IsList b k/\R (.ok (.ret (.ref (qV s.heap a b).objs.size))) { s with heap:=mL s.heap a b }):=
 .of_wp fun o w A R s h=>by
  obtain⟨l,g,d,m,os⟩:=s;obtain⟨c,e,h⟩:=h;have n:=sub_zip;have f:Heap.IsTuple (Shared.heap ⟨l,g,d,m,os⟩) a j:=c;have i:Heap.IsList (Shared.heap ⟨l.push { cls:=.type "tuple_iterator",data:=.fields #[.ref a,.int 0 0] },g,d,m,os⟩) b k:=Heap.IsList.push e _
  wp_walk using wpAny_pyIter_tuple f,wpAny_pyIter_list i
  exact⟨_,rfl,h⟩
theorem OO{s:Shared}(e:s.heap.IsTuple a l)(f:s.heap.IsList b m)
  (h:∀d,IsZip d (s.heap.objs.size+4) (s.heap.objs.size+2) (s.heap.objs.size+3) .none->dN d (s.heap.objs.size+2) (.ref s.heap.objs.size) (.ref (s.heap.objs.size+1))->
   dN d (s.heap.objs.size+3) .none .none->d.IsTupleIter s.heap.objs.size a 0->d.IsListIter (s.heap.objs.size+1) b 0->(∀c o,s.heap.get? c=some o->d.get? c=some o)->Q (.ref (s.heap.objs.size+4)) { s with heap:=d }) :
  wpAny (model prog w) A (call (.type "zip") [.ref a,.ref b]) Q E s:=by
 refine callType_new F.called_zip (by decide) (F.typeCall_zip_2 _ _) (F.newCall_zip_2 _ _) (fun obj=>F.args_object_init_3 obj _ _) F.entry_zip_new (ON a b l m) ⟨e,f,?_⟩;have g:(qS s.heap a).objs.size=s.heap.objs.size+1:=Heap.size_push ..;have i:(qT s.heap a b).objs.size=s.heap.objs.size+2:=by rw[Heap.size_push,g]
 have j:(qU s.heap a b).objs.size=s.heap.objs.size+3:=by rw[Heap.size_push,i]
 have n:(qV s.heap a b).objs.size=s.heap.objs.size+4:=by rw[Heap.size_push,j]
 have k:(mL s.heap a b).get? (qV s.heap a b).objs.size=some _:=Heap.get?_push_size _ rfl;have p:(mL s.heap a b).get? (qU s.heap a b).objs.size=some _:=aS _ (Heap.get?_push_size _ rfl);have g3:(mL s.heap a b).get? (qT s.heap a b).objs.size=some _:=aS _ (aS _ (Heap.get?_push_size _ rfl));have g2:(mL s.heap a b).get? (qS s.heap a).objs.size=some _:=aS _ (aS _ (aS _ (Heap.get?_push_size _ rfl)));have g1:(mL s.heap a b).get? s.heap.objs.size=some _:=aS _ (aS _ (aS _ (aS _ (Heap.get?_push_size _ rfl))));show _/\_;rw[i,j,n]at k;rw[g,i]at g3;rw[j]at p;rw[g]at g2;rw[n];exact⟨⟨_,k,rfl⟩,h _ k g3 p ⟨_,g1,rfl,rfl⟩ ⟨_,g2,rfl,rfl⟩ fun c o x=>aS _ (aS _ (aS _ (aS _ (aS _ x))))⟩
end L2
namespace L2
open PySem PySem.Spec PyProof.Rows
noncomputable def AN(a b:Addr):It:=
 ⟨fun i H=>∃c x d y,Rd H a (.tup c)/\c[i]? = some x/\H b=some (.lst d)/\d[i]? = some y,fun i H v e=>∃T x y,v=.ref T/\H T=none/\e = aI H T (.tup [x,y])/\(∀c,Rd H a (.tup c)->c[i]? = some x)/\∀d,H b=some (.lst d)->d[i]? = some y,
  fun i H=>∃c d,Rd H a (.tup c)/\H b=some (.lst d)/\(c.length=i\/i<c.length/\d.length=i)⟩
theorem OP{K}(a b z TI TO i1 i2)(nd:[z,TI,TO,i1,i2].Nodup) :
  fj P w K (.Tuple elts kk tpos) (AN a b) [z,TI,TO,i1,i2] z (fun i h=>IsZip h z TI TO .none/\dN h TI (.ref i1) (.ref i2)/\(∃u v,dN h TO u v)/\h.IsTupleIter i1 a i/\h.IsListIter i2 b i) where
 mem:=by simp
 obj:=fun i h st c hc=>by
  obtain⟨h0,h1,⟨u,v,h2⟩,⟨o3,e3,c3,d3⟩,⟨o4,e4,c4,d4⟩⟩:=st;simp only[List.mem_cons,List.not_mem_nil,or_false]at hc;rcases hc with rfl |rfl |rfl |rfl |rfl
  .exact⟨_,h0,fun v z=>by cases z⟩
  .exact⟨_,h1,fun v z=>by cases z⟩
  .exact⟨_,h2,fun v z=>by cases z⟩
  .exact⟨_,e3,fun v z=>by rw[d3]at z;cases z⟩
  .exact⟨_,e4,fun v z=>by rw[d4]at z;cases z⟩
 keep:=fun i h h' st k=>by obtain⟨h0,h1,⟨u,v,h2⟩,h3,h4⟩:=st;exact⟨k _ (by simp) _ h0,k _ (by simp) _ h1,⟨u,v,k _ (by simp) _ h2⟩,(let⟨o,e,r⟩:=h3;⟨o,k _ (by simp) o e,r⟩),h4.at fun o e=>k _ (by simp) o e⟩
 item:=by
  intro X hP hw hK hc i pins s Y H E I hf st hg;subst hP hw hK;obtain⟨h0,h1,⟨p1,p2,h2⟩,h3,h4⟩:=st;obtain⟨xs,x,ys,y,hq1,hx,hq2,hy⟩:=hg;obtain⟨hz,its,rv,p⟩:=hq1.ok I.hok;obtain⟨u,hu,ru⟩:=rv.get hx;obtain⟨hz',jts,nn,rw',p'⟩:=I.hok _ _ hq2;obtain⟨v,hv,rv'⟩:=rw'.get hy;have e3:=h3;have e4:=h4;obtain⟨o3,e3,c3,_⟩:=e3;obtain⟨o4,e4,c4,_⟩:=e4;have nd':=nd;simp only[List.nodup_cons,List.mem_cons,List.not_mem_nil,or_false,not_or,not_false_eq_true,and_true,List.nodup_nil]at nd';obtain⟨⟨zTI,zTO,z1,z2⟩,⟨TITO,TI1,TI2⟩,⟨TO1,TO2⟩,i12⟩:=nd';have na:∀c∈[z,TI,TO,i1,i2],a≠c:=fun c hc q=>by rw[q]at hq1;exact yt (hf c hc).1 hq1
  have nb:∀c∈[z,TI,TO,i1,i2],b≠c:=fun c hc q=>by rw[q,(hf c hc).1]at hq2;cases hq2
  have hh:X.A.in1.handled=none:=I.ok.hd hc;refine OL (qR hh i1 a (na i1 (by simp)) its.toArray) (Draws.list hh i2 b (nb i2 (by simp)) jts.toArray) nd (fun c hc'=>?_) (fun c hc'=>?_) h0 h1 h2 ⟨h3,p⟩ ⟨h4,⟨_,p',rfl,_,rfl⟩⟩ (by simpa using(List.getElem?_eq_some_iff.mp hu).1) (by simpa using(List.getElem?_eq_some_iff.mp hv).1) fun x' y' h' tk ex ey a1 a2 a3 a4 a5 a6 a7=>⟨_,rfl,?_⟩
  .simp only[List.mem_cons,List.not_mem_nil,or_false]at hc';rcases hc' with rfl |rfl
   .exact⟨Ne.symm z1,Ne.symm TO1,i12⟩
   .exact⟨na z (by simp),na TO (by simp),na i2 (by simp)⟩
  .simp only[List.mem_cons,List.not_mem_nil,or_false]at hc';rcases hc' with rfl |rfl
   .exact⟨Ne.symm z2,Ne.symm TO2,Ne.symm i12⟩
   .exact⟨nb z (by simp),nb TO (by simp),nb i1 (by simp)⟩
  have ex':x' = u:=by simp only[List.getElem?_toArray]at ex;rw[hu]at ex;exact(Option.some.inj ex).symm
  have ey':y' = v:=by simp only[List.getElem?_toArray]at ey;rw[hv]at ey;exact(Option.some.inj ey).symm
  subst ex' ey';refine wpAny_letOwnedTupleGo_zip (s:={ s with heap:=h',toks:=tk }) a1 fun hh b1 hs2=>?_;have k2:∀c ob,c∉[z,TO,i1,i2]->s.heap.get? c=some ob->hh.get? c=some ob:=fun c ob hc q=>by have hc':=hc;simp only[List.mem_cons,List.not_mem_nil,or_false,not_or]at hc';exact(hs2.2 c hc'.1).trans (a7 c ob hc q)
  have up:∀c o,c≠z->h'.get? c=some o->hh.get? c=some o:=fun c o hc q=>(hs2.2 c hc).trans q;have I1:Inv X pins Y (aI H s.heap.objs.size (.tup [x,y])) { s with heap:=hh,toks:=tk }:=by
   refine I.turnedNew (ch:=[z,TO,i1,i2]) (t':=tk) (fun c hc=>hf c (by simp only[List.mem_cons,List.not_mem_nil,or_false]at hc ⊢;rcases hc with q |q |q |q<;>simp[q])) k2 (bb _) (fun c hc ob q=>?_) ?_
   .simp only[List.mem_cons,List.not_mem_nil,or_false]at hc;rcases hc with rfl |rfl |rfl |rfl
    .exact⟨_,b1⟩
    .exact⟨_,up _ _ (Ne.symm zTO) a2⟩
    .obtain⟨o,e1,_⟩:=a3.1;exact⟨o,up _ _ (Ne.symm z1) e1⟩
    .obtain⟨o,e1,_⟩:=a4.1;exact⟨o,up _ _ (Ne.symm z2) e1⟩
   .exact⟨by show 2<=sizeLine;decide,[_,_],.cons ru (.cons rv' .nil),⟨_,up _ _ (Nat.ne_of_gt (bj h0)) a5,rfl,_,rfl⟩⟩
  refine⟨.ref s.heap.objs.size,_,I1,rfl,⟨_,x,y,rfl,I.hok.fresh (bb _),rfl,fun zs hy'=>by rw[JV hy' hq1];exact hx,fun zs hy'=>by rw[hq2]at hy';cases hy';exact hy⟩,
   ⟨b1,k2 _ _ (by simp only[List.mem_cons,List.not_mem_nil,or_false,not_or];exact⟨Ne.symm zTI,TITO,TI1,TI2⟩) h1,⟨_,_,up _ _ (Ne.symm zTO) a2⟩,(let⟨o,e,r⟩:=a3.1;⟨o,up _ _ (Ne.symm z1) e,r⟩),a4.1.at fun o e1=>up _ _ (Ne.symm z2) e1⟩,fun c hc=>?_⟩
  have hb':c<s.heap.objs.size:=by
   simp only[List.mem_cons,List.not_mem_nil,or_false]at hc;rcases hc with rfl |rfl |rfl |rfl |rfl
   .exact bj h0
   .exact bj h1
   .exact bj h2
   .exact bj e3
   .exact bj e4
  rw[bv (Nat.ne_of_lt hb')];exact(hf c hc).1
 done:=by
  intro X hP hw hK hc i pins s Y H E I hf st hg;subst hP hw hK;obtain⟨h0,h1,⟨p1,p2,h2⟩,h3,h4⟩:=st;obtain⟨xs,ys,hq1,hq2,hx⟩:=hg;obtain⟨hz,its,rv,p⟩:=hq1.ok I.hok;obtain⟨hz',jts,nn,rw',p'⟩:=I.hok _ _ hq2;have nd':=nd;simp only[List.nodup_cons,List.mem_cons,List.not_mem_nil,or_false,not_or,not_false_eq_true,and_true,List.nodup_nil]at nd';obtain⟨⟨zTI,zTO,z1,z2⟩,⟨TITO,TI1,TI2⟩,⟨TO1,TO2⟩,i12⟩:=nd';have l1:=rv.length;have l2:=rw'.length;have na:∀c∈[z,TI,TO,i1,i2],a≠c:=fun c hc q=>by rw[q]at hq1;exact yt (hf c hc).1 hq1
  have nb:∀c∈[z,TI,TO,i1,i2],b≠c:=fun c hc q=>by rw[q,(hf c hc).1]at hq2;cases hq2
  have hh:X.A.in1.handled=none:=I.ok.hd hc;refine OM (qR hh i1 a (na i1 (by simp)) its.toArray) (Draws.list hh i2 b (nb i2 (by simp)) jts.toArray) nd (fun c hc'=>?_) (fun c hc'=>?_) h0 h1 h2 ⟨h3,p⟩ ⟨h4,⟨_,p',rfl,_,rfl⟩⟩ (hx.imp (fun q=>by simp;lia) fun q=>by simp;lia) fun h' tk hk=>⟨rfl,?_⟩
  .simp only[List.mem_cons,List.not_mem_nil,or_false]at hc';rcases hc' with rfl |rfl
   .exact⟨Ne.symm z1,Ne.symm TO1,i12⟩
   .exact⟨na z (by simp),na TO (by simp),na i2 (by simp)⟩
  .simp only[List.mem_cons,List.not_mem_nil,or_false]at hc';rcases hc' with rfl |rfl
   .exact⟨Ne.symm z2,Ne.symm TO2,Ne.symm i12⟩
   .exact⟨nb z (by simp),nb TO (by simp),nb i1 (by simp)⟩
  refine I.step (g':=s.gens) (d':=s.drawn) (t':=tk) (ch:=[z,TO,i1,i2]) (fun c hc=>?_) (fun c o _ _ hc e _=>hk c o hc e) (fun c o _ _ hc e _=>⟨o.slots,hk c o hc e⟩) (fun _ _ _ _ n=>n) (fun c o hc e=>⟨o,hk c o hc e⟩) (fun _ _ e=>e) (fun _ _ _ e=>e) (fun c ps e=>⟨#[],by rw[e];simp⟩) (fun m hm=>?_) (fun c u e=>?_) I.bare
  .obtain⟨f0,f1,f2,f3,f4,f5⟩:=hf c (by simp only[List.mem_cons,List.not_mem_nil,or_false]at hc ⊢;rcases hc with q |q |q |q<;>simp[q]);exact⟨f3,f1,f4,f5⟩
  .obtain⟨oL,es,ep,ho,r⟩:=hm;refine⟨oL,es,ep,hk _ oL (fun zz=>?_) ho,r⟩;exact(hf _ (by simp only[List.mem_cons,List.not_mem_nil,or_false]at zz ⊢;rcases zz with q |q |q |q<;>simp[q])).2.1 rfl
  .have nch:∀b u,H b=some u->b∉[z,TO,i1,i2]:=fun b u e zz=>by rw[(hf b (by simp only[List.mem_cons,List.not_mem_nil,or_false]at zz ⊢;rcases zz with q |q |q |q<;>simp[q])).1]at e;cases e
   refine(I.hok c u e).stay (fun d v hd q=>hk d v ?_ q) (fun _ q=>q) fun _ _ q=>q;rcases hd with q |q
   .rw[q];exact nch c u e
   .exact nch d _ q
 self:=fun _ _ _ _ _ st h=>wpAny_pyIter_zip st.1 h
def OQ(d:TA):TI:=fun Y H R=>d Y H fun vs c=>∃a b e f,vs=[.ref a,.ref b]/\Rd c a (.tup e)/\c b=some (.lst f)/\R (AN a b) c
theorem OR{elts:List Expr}{kk:Nat}{tpos:Pos}{p pos}(t:Gl X "zip")(w:X.mg "zip" = none)(x:PA X [a,b] k)(y:autoParam (starEach [a,b] X.env=[(false,eval a X.env),(false,eval b X.env)]) Zq._auto_1)(d:autoParam (starEach [b] X.env=[(false,eval b X.env)]) Zq._auto_1) :
  PI X (.Tuple elts kk tpos) (.Call (.Name "zip" p) [a,b] [] pos) (OQ k):=by
 intro f s Y H R I h;refine Call_ (iw I t w boot_zip (PyProof.Rows.callWith_type1 (aN (x pos f s Y H _ I h) fun T c ⟨vs,z,I1,A,B⟩=>?_) (by rw[y,d]) (by rw[d];rfl)));obtain⟨l,m,U,Z,rfl,C,g,q⟩:=B;obtain⟨u,v,rfl,ru,i⟩:=vals2 A;cases ru;cases i;obtain⟨hz,j,rv,p⟩:=C.ok I1.hok;obtain⟨D,E,nn,G,J⟩:=I1.hok _ _ g;refine OO (show c.heap.IsTuple l j.toArray from p) ⟨_,J,rfl,_,rfl⟩ fun L o O Q S M N=>?_;refine wpAny_pyIter_zip (s:={ c with heap:=L }) o ?_;have nd:[c.heap.objs.size+4,c.heap.objs.size+2,c.heap.objs.size+3,c.heap.objs.size,c.heap.objs.size+1].Nodup:=by generalize c.heap.objs.size=n;simp only[List.nodup_cons,List.mem_cons,List.not_mem_nil,or_false,not_or,not_false_eq_true,and_true,List.nodup_nil];refine⟨⟨?_,?_,?_,?_⟩,⟨?_,?_,?_⟩,⟨?_,?_⟩,?_⟩<;>exact(by intro e;exact absurd (show(_:Nat)=_ from e) (by lia))
 refine⟨c.heap.objs.size+4,[c.heap.objs.size+4,c.heap.objs.size+2,c.heap.objs.size+3,c.heap.objs.size,c.heap.objs.size+1],_,_,z,rfl,I1.kept (t':=c.toks) N,OP l m _ _ _ _ _ nd,⟨o,O,⟨_,_,Q⟩,S,M⟩,fun b r=>?_,q⟩;have hb':c.heap.objs.size<=b:=by
  simp only[List.mem_cons,List.not_mem_nil,or_false]at r;rcases r with rfl |rfl |rfl |rfl |rfl
  .exact Nat.le_add_right _ _
  .exact Nat.le_add_right _ _
  .exact Nat.le_add_right _ _
  .exact bb _
  .exact Nat.le_add_right _ _
 exact I1.fpOk hb' (I1.hok.fresh hb')
end L2
namespace L2.L3
open PySem PySem.Spec PyProof.Rows
def OS(O:List Addr)(H:Hp)(J:It)(c:List PyData):Prop:=∀e a,aP O H e a->bR H a->lb a e->
 (∀i d,c[i]? = some d->J.go i a/\∀x b,J.yld i a x b->bR a b/\DV (aq e b) x d)/\J.stop c.length a
def AO(K:Frag)(F:Fx)(s:ej):TI:=fun Y H R=>∃U O,aB K F H Y U O/\s U fun b d=>∀J a c,aB K F a Y d c->aP O H c a->OS c a J b->R J a
structure vD (X:Cx) (F:Fx) (tg iter:Expr) (s:ej):Prop where
 mn:lW s
 pi:PI X tg iter (AO X.K F s)
@[simp]noncomputable def vE:Option (Option ab)->Option ab
 |some (some (.own _ b))=>some (.vw b)
 |some (some (.exc _))=>none
 |some o=>o
 |none=>none
def iP(own:List Str)(a:List Nat)(U:ak):ak:=own.map (fun _=>none)++a.map fun j=>vE U[j]?
mutual
@[simp]noncomputable def hZ:PyData->Bool
 |.int _=>true
 |.bool _=>true
 |.none=>true
 |.str _=>true
 |.tuple ds=>mM ds
 |.list _=>false
 |.dict _=>false
@[simp]noncomputable def mM:List PyData->Bool
 |[]=>true
 |d::ds=>hZ d&&mM ds
end
theorem AQ:∀a,a.all hZ=mM a
 |[]=>rfl
 |d::a=>by rw[List.all_cons,AQ a,mM]
mutual
theorem OT{G G':Hp}(k:∀a u,¬ Mv u->G a=some u->G' a=some u):∀{v:V}{d:PyData},DV G v d->hZ d=true->DV G' v d
 |_,_,.non,_=>.non
 |_,_,.bl b,_=>.bl b
 |_,_,.int i,_=>.int i
 |_,_,.str x,_=>.str x
 |_,_,.tup h r,f=>.tup (h.imp (fun e=>k _ _ id e) fun⟨⟨o,e⟩,z⟩=>⟨⟨o,k _ _ id e⟩,z⟩) (vF k r (by simpa[hZ] using f))
theorem vF{G G':Hp}(k:∀a u,¬ Mv u->G a=some u->G' a=some u):∀{vs:List V}{ds:List PyData},aG G vs ds->mM ds=true->aG G' vs ds
 |_,_,.nil,_=>.nil
 |_,_,.cons h t,f=>by rw[mM,Bool.and_eq_true]at f;exact .cons (OT k h f.1) (vF k t f.2)
end
theorem OU(k:∀a u,¬ Mv u->G a=some u->c a=some u)(h:aG G vs b)(f:b.all hZ=true):aG c vs b:=vF k h (by rw[<-AQ];exact f)
def qW(own:List Str)(f:List Nat)(s:ej)(g:ez)(l:cH)(m:DT):DT:=fun U Q=>s U fun c j=>∃e:Nat->List PyData->ak->Prop,e 0 [] (iP own f j)/\
 (∀i d a h,c[i]? = some d->e i a h->g d h fun n=>l n fun b k=>if b=true then m k fun y o=>a.length<sizeLine/\e (i+1) (a++[y]) o else e (i+1) a k)/\
 ∀a h,e c.length a h->a.length<=sizeLine/\a.all hZ=true/\Q (.list a) j
theorem OV(d:lW s):Mn (qW own caps s g tc te):=fun _ _ _ k q=>d _ _ _ (fun _ _ a=>by obtain⟨e,f,h1,h2⟩:=a;exact⟨e,f,h1,fun b c h=>⟨(h2 b c h).1,(h2 b c h).2.1,k _ _ (h2 b c h).2.2⟩⟩) q
theorem OW{K:Frag}{PF:Fx->Prop}(hP:∀k Y A I O2,aB K F k Y A I->PF ⟨k,[],O2,fun _=>0⟩)(hs:lW s)(hg:∀d U Q Q',(∀B,Q B->Q' B)->g d U Q->g d U Q')(ht:jn tc)(he:Mn te):∀Y H Q,gF K F (qW own caps s g tc te) Y H Q->
  kX own caps (AO K F s) (fun v Y H Q=>∃L,PF L/\oi K L g v Y H Q) (fun Y H Q=>∃L,PF L/\jX K L tc Y H Q) (fun Y H Q=>∃L,PF L/\gF K L te Y H Q) Y H Q:=fun Y H Q S=>by
 obtain⟨U,O,st,q⟩:=S;refine⟨U,O,st,hs _ _ _ (fun f A T J k I n s1 wk=>?_) q⟩;obtain⟨Iv,i0,step,fin⟩:=T;obtain⟨W,X,Z⟩:=id n;let V:List Addr:=(caps.map fun j=>(W[j]?).getD []).flatten;let r:List Addr:=I.filter fun a=>decide (a∉V);have sub:∀a∈r,a∈I:=fun a h=>(List.mem_filter.mp h).1;have a3:r.Nodup:=by
  have:I.Nodup:=by rw[Z];exact X.nd
  exact this.filter _
 have a4:∀j∈caps,∀l,W[j]? = some l->∀a∈l,a∉r:=fun j hj l hl a ha z=>by have h1:=(List.mem_filter.mp z).2;simp only[decide_eq_true_eq]at h1;exact h1 (List.mem_flatten.mpr ⟨l,List.mem_map.mpr ⟨j,hj,by rw[hl];rfl⟩,ha⟩)
 have a0:∀j∈caps,∀c,vE A[j]? = some c->(∀io b,c≠.own io b)/\∃v,Y[j]? = some (some v)/\dL K k r v c []:=fun j hj c w=>by
  cases h3:A[j]? with
  |none=>rw[h3]at w;cases w
  |some o=>
   cases o with
   |none=>rw[h3]at w;cases w
   |some c'=>
    rw[h3]at w;obtain⟨v,fp,t,e0,C⟩:=X.at_ j c' h3;rw[<-Z]at C;have D:aP I k r k:=iG sub;cases c' with
    |dat d=>cases w;exact⟨(fun _ _ z=>by cases z),v,t,dL.keep (c:=.dat d) (fp:=[]) C D (fun _ _=>rfl) fun _ _ _ e=>e⟩
    |scr ns=>cases w;exact⟨(fun _ _ z=>by cases z),v,t,dL.keep (c:=.scr ns) (fp:=[]) C D (fun _ _=>rfl) fun _ _ _ e=>e⟩
    |exc _=>cases w
    |vw b=>cases w;exact⟨(fun _ _ z=>by cases z),v,t,dL.keep (c:=.vw b) (fp:=[]) C D (fun _ _=>rfl) fun _ _ _ e=>e⟩
    |own io b=>cases w;obtain⟨a,ev,q2⟩:=C;refine⟨(fun _ _ z=>by cases z),v,t,a,fp,ev,q2.keep (fun c hc=>?_) D.hid⟩;obtain⟨o,eo,_⟩:=q2.live c hc;rw[eo];exact gW eo (a4 j hj fp e0 c hc)
 refine⟨fun i m ys Y' N=>∃B R M,aB K ⟨k,[],r,fun _=>0⟩ N Y' B R/\Iv i M B/\aG (aq R N) ys M/\i<=f.length/\m=f.length - i,⟨f.length,iP own caps A,r,[],?_,i0,.nil,Nat.zero_le _,rfl⟩,?_⟩
 .have cell:∀(i:Nat) (c:ab),(iP own caps A)[i]? = some (some c)->(∀io b,c≠.own io b)/\∃v,(fL own caps Y)[i]? = some (some v)/\dL K k r v c []:=fun i c e=>by
   unfold iP at e;unfold fL
   by_cases hi:i<own.length
   .rw[List.getElem?_append_left (by simpa using hi),List.getElem?_map]at e;cases h:own[i]? with
    |none=>rw[h]at e;cases e
    |some y=>rw[h]at e;cases e
   .rw[List.getElem?_append_right (by simpa using Nat.le_of_not_lt hi),List.length_map,List.getElem?_map]at e;rw[List.getElem?_append_right (by simpa using Nat.le_of_not_lt hi),List.length_map,List.getElem?_map];obtain⟨j,h1,w⟩:=Option.map_eq_some_iff.mp e;rw[h1];show _/\∃v,some ((Y[j]?).getD none)=some (some v)/\_;obtain⟨n1,v,t,C⟩:=a0 j (List.mem_of_getElem? h1) c w;rw[t];exact⟨n1,v,rfl,C⟩
  have ln:(iP own caps A).length=(fL own caps Y).length:=by unfold iP fL;simp
  have fl:(List.replicate (iP own caps A).length ([]:List Addr)).flatten++r=r:=by rw[om];rfl
  refine⟨List.replicate (iP own caps A).length [],⟨fun i c e=>?_,by show(_++r).Nodup;rw[fl];exact a3,fun _ _ _ h=>h,fun a h=>?_,by show lb k (_++r);rw[fl];exact fun a ha=>n.live a (sub a ha),ln,by simp,fun i b e=>absurd rfl ((cell i _ e).1 true b)⟩,fl.symm⟩
  .obtain⟨_,v,t,C⟩:=cell i c e;refine⟨v,[],t,?_,by show dL K k (_++r) v c [];rw[fl];exact C⟩;rw[List.getElem?_replicate,if_pos (List.getElem?_eq_some_iff.mp e).1]
  .rw[om]at h;cases h
 .rintro i m ys Y' N ⟨B,R,M,E,iv,dv,hi,rfl⟩;have sm:bR k N:=fun b o e=>by obtain⟨W',h',_⟩:=id E;exact h'.kept b o (by simp) e
  have a5:aP I k R N:=⟨fun b o _ e=>sm b o e,fun a h=>by
   obtain⟨W',h',rfl⟩:=id E;rcases List.mem_append.mp h with h |h
   .exact(h'.new a h).elim (fun z=>absurd z (by simp)) .inr
   .exact .inl (sub a h)⟩
  obtain⟨w1,w2⟩:=wk R N a5 sm E.live
  by_cases G:i<f.length
  .obtain⟨go,yld⟩:=w1 i f[i] (List.getElem?_eq_getElem G);refine .inr ⟨go,fun x H2 hy=>?_⟩;obtain⟨a1,dx⟩:=yld x H2 hy;refine⟨⟨k,[],r,fun _=>0⟩,hP _ _ _ _ _ n,B,R,f[i],E.grow a1,dx,hg _ _ _ _ (fun U2 q2 Y3 H3 O3 a6 s3=>?_) (step i f[i] M B (List.getElem?_eq_getElem G) iv)⟩;refine⟨⟨k,[],r,fun _=>0⟩,hP _ _ _ _ _ n,U2,O3,a6,ht _ _ _ (fun b U3 q3 H4 O4 a2 s4=>?_) q2⟩;have d4:aG (aq O4 H4) ys M:=aG.mono s4.hid (aG.mono s3.hid (aG.mono (lS a1) dv));cases b with
   |false=>exact eh ⟨f.length - (i+1),by lia,U3,O4,M,a2,jm q3,d4,G,rfl⟩
   |true=>refine ei ⟨⟨k,[],r,fun _=>0⟩,hP _ _ _ _ _ n,U3,O4,a2,he _ _ _ (fun y U4 q4 v H5 O5 a7 s5 dy=>?_) (jl q3)⟩;refine⟨by rw[d4.length];exact q4.1,f.length - (i+1),by lia,U4,O5,M++[y],a7,q4.2,(aG.mono s5.hid d4).append (.cons dy .nil),G,rfl⟩
  .have e:i=f.length:=by lia
   subst e;obtain⟨hz,a8,q⟩:=fin M B iv;refine .inl ⟨w2,by rw[dv.length];exact hz,fun p hp=>?_⟩;have a9:k p=none:=by
    cases e:k p with
    |none=>rfl
    |some o=>rw[sm p o e]at hp;cases hp
   exact q _ _ I (n.grow fun b o e=>bS hp _ _ (sm b o e)) (s1.trans (.same fun b o e=>bS hp _ _ (sm b o e))) (jV hp (n.nofree p a9) (OU (fun a u nm e=>by
    obtain⟨t,_⟩:=cT e;refine gW t fun z=>?_;obtain⟨o,eo,mo⟩:=n.live a z;rw[sm a o eo]at t;cases t;exact nm mo) dv a8))
theorem OX(k:GF X.mg F)(S:af X scope own capN caps)(l:X.calm=true)(j:vD X F tg iter s)
  (c:∀C d e f h b,GF X.mg b->DG (bX X scope (own++capN) C d e f h) b tg g/\lZ (bX X scope (own++capN) C d e f h) b ifs tc/\DE (bX X scope (own++capN) C d e f h) b elt te)
  (m:autoParam (∀x,foldedSetIterable iter X.env x=pure x) Zs._auto_1):DE X F (.ListComp elt [⟨tg,iter,ifs,0⟩] scope pos) (qW own caps s g tc te):=by
 obtain⟨n,o,p⟩:=c 0 [] (PySem.start X.prog).1 (fun _=>none) [] F k;refine⟨OV j.mn,(ux S l j.pi (fun C d e f h=>⟨fun a s Y H v u Q I r ⟨b,i,q⟩=>(c C d e f h b i).1.pg a s Y H v u Q I r q,fun a s Y H Q I ⟨b,i,q⟩=>(c C d e f h b i).2.1.2 a s Y H Q I q,fun a s Y H Q I ⟨b,i,q⟩=>(c C d e f h b i).2.2.pe a s Y H Q I q⟩) m).imp (OW (fun _ _ _ _ _ st=>k.into st) j.mn n.mn o.1 p.mn)⟩
@[simp] def oJ(own:Nat)(a:List Nat)(U:ak):ak:=List.replicate own none++a.map fun j=>vE U[j]?
@[simp] def vG(own:Nat)(a:List Nat)(g:GM)(t:XM Bool)(m:XM PyData)(b:List PyData):XM PyData:=fun d=>lift ((bD g t m b [] (oJ own a d)).bind fun c=>if c.length<=sizeLine/\c.all hZ=true then some (.list c) else none) d
@[simp] def mN(own:Nat)(a:List Nat)(s:XM (List PyData))(g:GM)(t:XM Bool)(m:XM PyData):XM PyData:=fun U=>(s U).bind (vG own a g t m)
theorem OY(q:wp E (mN own.length f s g t m) U Q):qW own f (wp E s) (eI g) (wp eO t) (wp eO m) U Q:=aE _ _ _ (fun l p C=>by
 obtain⟨y,D,z⟩:=dg (o:=(bD g t m l [] (oJ own.length f p)).bind fun n=>if n.length<=sizeLine/\n.all hZ=true then some (PyData.list n) else none) (U:=p) (E:=E) (Q:=Q) C;obtain⟨j,G,r⟩:=Option.bind_eq_some_iff.mp D;have u:(j.length<=sizeLine/\j.all hZ=true)/\y=.list j:=by
  split at r
  .rename_i h;cases r;exact⟨h,rfl⟩
  .cases r
 have H:iP own f p=oJ own.length f p:=by unfold iP oJ;rw[List.map_const']
 refine⟨fun i n U=>bD g t m (l.drop i) n U=some j,by rw[H];exact G,fun i d n U hd a=>?_,fun n U h=>?_⟩
 .have e:l.drop i=d::l.drop (i+1):=by obtain⟨v,I⟩:=List.getElem?_eq_some_iff.mp hd;rw[<-I];exact List.drop_eq_getElem_cons v
  simp only[e]at a;unfold bD at a;unfold eI;cases A:g d U with
  |none=>rw[A]at a;cases a
  |some J=>
   rw[A]at a;simp only at a ⊢;unfold wp;cases w:t J with
   |ex c B=>rw[w]at a;cases a
   |bad=>rw[w]at a;cases a
   |ok b B=>
    rw[w]at a;cases b with
    |false=>exact eh a
    |true=>
     refine ei ?_;simp only at a ⊢;cases x:m B with
     |ex c L=>rw[x]at a;cases a
     |bad=>rw[x]at a;cases a
     |ok M L=>
      rw[x]at a;simp only at a ⊢;split at a
      .rename_i h;exact⟨h,a⟩
      .cases a
 .simp only[List.drop_length]at h;have:n=j:=by unfold bD at h;exact Option.some.inj h
  subst this;rw[u.2]at z;exact⟨u.1.1,u.1.2,z⟩) (bT (k:=vG own.length f g t m) q)
theorem DE.imp'(h:DE X F e t)(b:Mn t')(k:∀U Q,t' U Q->t U Q):DE X F e t':=⟨b,h.pe.imp fun Y H Q a=>by obtain⟨U,O,st,q⟩:=a;exact⟨U,O,st,k U _ q⟩⟩
theorem OZ(p:GF X.mg F)(S:af X a own b c)(r:X.calm=true)(u:own.length=n)(v:vD X F h iter (wp E s))
  (i:∀C j k l o f,GF X.mg f->FG (bX X a (own++b) C j k l o) f h g/\mz (bX X a (own++b) C j k l o) f eO e t/\FE (bX X a (own++b) C j k l o) f eO d m)
  (w:autoParam (∀x,foldedSetIterable iter X.env x=pure x) Zs._auto_1):FE X F E (.ListComp d [⟨h,iter,e,0⟩] a pos) (mN n c s g t m):=by
 subst u;exact DE.imp' (OX p S r v i w) aE fun U Q q=>OY q
def kr(C:Addr)(i:Nat)(f g:Str):XM (List PyData):=fun U=>match bV C U i with
 |some (_,fs)=>(match fs.lookup f,fs.lookup g with
  |some (.d (.tuple ds)),some (.l a)=>.ok (cn ds a) U
  |_,_=>.bad)
 |none=>.bad
theorem Pa{F:Fx}{E:Str->ak->Prop}{pos:Pos}{k}{kk}{n p o c}(hg:Gl X "zip")(hm:X.mg "zip" = none)(cl:cS X.K C)(na:cA X.K C f)(N:cA X.K C f2)(G:PE X (.Name x j) (cf i))(Q:PE X (.Name x b) (cf i))
  (hb:autoParam (attributeBase (.Name x j) f X.env (eval (.Name x j) X.env)=eval (.Name x j) X.env) Zq._auto_1) (S:autoParam (attributeBase (.Name x b) f2 X.env (eval (.Name x b) X.env)=eval (.Name x b) X.env) Zq._auto_1)
  (hs:autoParam (starEach [.Attribute (.Name x j) f o,.Attribute (.Name x b) f2 c] X.env=[(false,eval (.Attribute (.Name x j) f o) X.env),(false,eval (.Attribute (.Name x b) f2 c) X.env)]) Zq._auto_1)
  (r:autoParam (starEach [.Attribute (.Name x b) f2 c] X.env=[(false,eval (.Attribute (.Name x b) f2 c) X.env)]) Zq._auto_1) :
  vD X F (.Tuple k kk n) (.Call (.Name "zip" p) [.Attribute (.Name x j) f o,.Attribute (.Name x b) f2 c] [] pos) (wp E (kr C i f f2)):=
 ⟨aE,(OR hg hm (em (je G hb) (em (je Q S) fm r) hs) hs r).imp fun Y H R t=>by
  obtain⟨U,O,st,q⟩:=t;unfold wp kr at q;cases ho:bV C U i with
  |none=>rw[ho]at q;exact q.elim
  |some p=>
   obtain⟨io,fs⟩:=p;rw[ho]at q;simp only at q;cases a:fs.lookup f with
   |none=>rw[a]at q;exact q.elim
   |some Z=>
    cases g:fs.lookup f2 with
    |none=>rw[a,g]at q;cases Z<;>simp only at q<;>exact q.elim
    |some y2=>
     rw[a,g]at q;obtain⟨a0,fp,u,⟨dx,gs,a4,e1,I,e3,e4⟩,_,_⟩:=st.box (jE ho);cases Z with
     |l _=>exact q.elim
     |m _ _=>exact q.elim
     |d J=>
      cases y2 with
      |d _=>cases J<;>exact q.elim
      |m _ _=>cases J<;>exact q.elim
      |l es=>
       cases J with
       |tuple ds=>
        simp only at q;rcases kq e4 f with⟨_,l2⟩ |⟨v1,Z,a5,l1,l2,l3,_⟩
        .rw[a]at l2;cases l2
        rw[a]at l2;cases l2;rcases kq e4 f2 with⟨_,A⟩ |⟨v2,y2,a6,m1,A,m3,_⟩
        .rw[g]at A;cases A
        rw[g]at A;cases A;obtain⟨a1,L,rfl,hx,hd⟩:=l3.2.tup_inv;obtain⟨b1,M,rfl,_,hy,he⟩:=m3;obtain⟨B,a7⟩:=fM hx;refine⟨_,u,a0,C,dx,gs,_,rfl,I,cl,na,l1,_,u,a0,C,dx,gs,_,rfl,I,cl,N,m1,a1,b1,L,M,rfl,B,hy,q _ H O st .refl fun O' H' s sm ok=>?_⟩;have h2:=JU sm B;have h3:=sm _ _ hy;have a2:=aG.mono s.hid hd;have a3:=aG.mono s.hid he;refine⟨fun i d e=>?_,⟨L,M,h2,h3,?_⟩⟩
        .unfold cn at e;rw[List.getElem?_map]at e;obtain⟨⟨d0,J⟩,e1,I⟩:=Option.map_eq_some_iff.mp e;subst I;obtain⟨e3,e4⟩:=List.getElem?_zip_eq_some.mp e1;obtain⟨v,G,dv⟩:=a2.get e3;obtain⟨w,hw,dw⟩:=a3.get e4;refine⟨⟨L,v,M,w,h2,G,h3,hw⟩,fun x a8 D=>?_⟩;obtain⟨T,y,z,o,c,q3,q4,q5⟩:=D;subst o q3;have:=q4 L h2;rw[G]at this;cases this;have:=q5 M h3;rw[hw]at this;cases this;exact⟨bS c,jW c (ok.nofree T c) (.cons dv (.cons dw .nil))⟩
        .unfold cn;rw[List.length_map,List.length_zip,hd.length,he.length];rcases Nat.lt_or_ge es.length ds.length with h |h
         .exact .inr ⟨by lia,by lia⟩
         .exact .inl (by lia)
       |_=>exact q.elim⟩
theorem aB.view{K}(st:aB K F H Y U O){i:Nat}(e:U[i]? = some (some (.vw b))):∃a d,Y[i]? = some (some (.ref a))/\ft (aq O H) (aq O H) a b d:=by obtain⟨W,h,rfl⟩:=st;obtain⟨v,d,h1,h2,a,c,rfl,h3⟩:=h.at_ i _ e;exact⟨a,c,h1,h3⟩
noncomputable def mO(C:Addr)(U:ak)(i:Nat):Option (List (Str×Fl)):=match U[i]? with
 |some (some (.vw (.o a fs)))=>if a = C then some fs else none
 |_=>none
theorem Pb(h:mO C U i=some fs):U[i]? = some (some (.vw (.o C fs))):=by
 unfold mO at h;split at h
 .rename_i e;split at h
  .rename_i a;cases h;rw[e,a]
  .cases h
 .cases h
noncomputable def iQ(C:Addr)(i:Nat)(f:Str):XM PyData:=fun U=>match mO C U i with
 |some fs=>(match fs.lookup f with
  |some (.d d)=>.ok d U
  |_=>.bad)
 |none=>.bad
theorem AR(cl:cS X.K C)(e:cA X.K C f)(g:PE X (.Name x a) (cf i))(r:autoParam (attributeBase (.Name x a) f X.env (eval (.Name x a) X.env)=eval (.Name x a) X.env) Zq._auto_1):FE X F E (.Attribute (.Name x a) f pos) (iQ C i f):=
 ⟨aE,(je g r).imp fun Y H Q b=>by
  obtain⟨U,O,st,q⟩:=b;unfold wp iQ at q;cases ho:mO C U i with
  |none=>rw[ho]at q;exact q.elim
  |some fs=>
   rw[ho]at q;simp only at q;obtain⟨s,t,c,⟨h,j,k,u,n,w,e4⟩⟩:=st.view (Pb ho);rcases kq e4 f with⟨l1,l2⟩ |⟨v,y,o,l1,l2,l3,_⟩
   .rw[l2]at q;exact q.elim
   .rw[l2]at q;cases y with
    |d d=>exact⟨_,c,s,C,h,j,v,rfl,(cT n).1,cl,e,l1,q v H O st (.refl ..) l3.2⟩
    |l ds=>exact q.elim
    |m z p=>exact q.elim⟩
theorem Pc{P:List PyData->ak->Prop}(q:wp E s U fun f l=>∃j,bD g t m f [] (iJ own.length k l)=some j/\j.length<=sizeLine/\P j l) :
  wp E s U fun f l=>∃n:Nat->List PyData->ak->Prop,n 0 [] (fV own k l)/\
   (∀i d j r,f[i]? = some d->n i j r->eI g d r fun u=>wp eO t u fun b o=>if b=true then wp eO m o fun y v=>j.length<sizeLine/\n (i+1) (j++[y]) v else n (i+1) j o)/\
   ∀j r,n f.length j r->j.length<=sizeLine/\P j l:=aE _ _ _ (fun f l ⟨p,B,C,D⟩=>by
 have G:fV own k l=iJ own.length k l:=by unfold fV iJ;rw[List.map_const']
 refine⟨fun i j U=>bD g t m (f.drop i) j U=some p,by rw[G];exact B,fun i d j U hd a=>?_,fun j U h=>?_⟩
 .have e:f.drop i=d::f.drop (i+1):=by obtain⟨w,H⟩:=List.getElem?_eq_some_iff.mp hd;rw[<-H];exact List.drop_eq_getElem_cons w
  simp only[e]at a;unfold bD at a;unfold eI;cases A:g d U with
  |none=>rw[A]at a;cases a
  |some u=>
   rw[A]at a;simp only at a ⊢;unfold wp;cases x:t u with
   |ex c o=>rw[x]at a;cases a
   |bad=>rw[x]at a;cases a
   |ok b o=>
    rw[x]at a;cases b with
    |false=>exact eh a
    |true=>
     refine ei ?_;simp only at a ⊢;cases z:m o with
     |ex c v=>rw[z]at a;cases a
     |bad=>rw[z]at a;cases a
     |ok I v=>
      rw[z]at a;simp only at a ⊢;split at a
      .rename_i h;exact⟨h,a⟩
      .cases a
 .simp only[List.drop_length]at h;have:j=p:=by unfold bD at h;exact Option.some.inj h
  subst this;exact⟨C,D⟩) q
def qX(C:Addr)(i:Nat)(f:Str)(own:Nat)(a:List Nat)(g:GM)(t:XM Bool)(m:XM PyData)(b:List PyData):SM:=fun U=>match bD g t m b [] (iJ own a U),bV C U i with
 |some c,some (io,fs)=>if c.length<=sizeLine/\fs.lookup f=none/\fs.length<1000 then .nx (U.set i (some (.own io (.o C (bK f (.l c) fs))))) else .bad
 |_,_=>.bad
def vH(C:Addr)(i:Nat)(f:Str)(own:Nat)(a:List Nat)(s:XM (List PyData))(g:GM)(t:XM Bool)(m:XM PyData):SM:=fun U=>dD (s U) (qX C i f own a g t m)
theorem Pd{y}(cl:cS X.K C)(na:cA X.K C f)(hv:PE X (.Name x p1) (cf i))(hG:GF X.mg F)(S:af X a own capN caps)(hc:X.calm=true)(hn:own.length=n)(hi:FI X F E N iter s)
  (o:∀C A B J M b,GF X.mg b->FG (bX X a (own++capN) C A B J M) b N g/\mz (bX X a (own++capN) C A B J M) b eO j t/\FE (bX X a (own++capN) C A B J M) b eO h m)
  (a3:autoParam (swapsWith (.ListComp h [⟨N,iter,j,0⟩] a pos) (some (.Attribute (.Name x p1) f w)) y.line X.env=pure false) Zq._auto_1)
  (hs:autoParam (∀x,foldedSetIterable iter X.env x=pure x) Zs._auto_1):FS X F E (.Assign [.Attribute (.Name x p1) f w] (.ListComp h [⟨N,iter,j,0⟩] a pos) y) (vH C i f n caps s g t m):=by
 subst hn;obtain⟨hg,ht,he⟩:=o 0 [] (PySem.start X.prog).1 (fun _=>none) [] F hG;have pe:PE X (.ListComp h [⟨N,iter,j,0⟩] a pos) (kX own caps (qE X.K F (wp E s)) (fun v Y H Q=>∃b,GF X.mg b/\oi X.K b (eI g) v Y H Q) (fun Y H Q=>∃b,GF X.mg b/\jX X.K b (wp eO t) Y H Q) (fun Y H Q=>∃b,GF X.mg b/\gF X.K b (wp eO m) Y H Q)):=ux S hc hi.pi (fun C A B J M=>⟨fun c s Y H v u Q I r R=>by obtain⟨b,T,q⟩:=R;exact(o C A B J M b T).1.pg c s Y H v u Q I r q,fun c s Y H Q I Z=>by obtain⟨b,T,q⟩:=Z;exact(o C A B J M b T).2.1.2 c s Y H Q I q,fun c s Y H Q I a1=>by obtain⟨b,T,q⟩:=a1;exact(o C A B J M b T).2.2.pe c s Y H Q I q⟩) hs;refine(qj hv pe a3).imp fun D Y H a2=>?_;obtain⟨U,O,DD,st,q,fD⟩:=a2;refine za (fun _ _ _ _ _ st=>hG.into st) hi.mn hg.mn ht.1 he.mn Y H _ ⟨U,O,st,Pc (aE _ _ _ (fun a4 U1 e=>?_) (fA (m:=s) (k:=qX C i f own.length caps g t m) q))⟩;unfold wpS qX at e;cases L:bD g t m a4 [] (iJ own.length caps U1) with
 |none=>rw[L]at e;exact e.elim
 |some ys=>
  cases ho:bV C U1 i with
  |none=>rw[L,ho]at e;exact e.elim
  |some p=>
   obtain⟨io,fs⟩:=p;rw[L,ho]at e;simp only at e
   by_cases d:ys.length<=sizeLine/\fs.lookup f=none/\fs.length<1000
   .rw[if_pos d]at e;refine⟨ys,rfl,d.1,fun H' O' vs p a5 s' dv hp=>?_⟩;obtain⟨a0,dx,gs,a6,e2,hl,nw⟩:=a5.fldNew ho d.2.1;have pa:a0≠p:=fun z=>by subst z;rw[e2]at hp;cases hp
    obtain⟨h1,O3,a7,s3⟩:=nw p (.lst vs) (.l ys) hp trivial (fun G gg=>⟨p,vs,rfl,rfl,by rw[bv (fun z=>pa z.symm),cK],aG.mono gg dv⟩);exact⟨_,a6,a0,C,dx,gs,rfl,h1,cl,na,by rw[hl];exact d.2.2,fD.nx _ _ _ _ a7 (s'.trans s3) e⟩
   .rw[if_neg d]at e;exact e.elim
end L2.L3
namespace L2
open PySem PyProof.Rows
def vI(h:Heap)(a:List Value)(rows:List (List Int)):Prop:=a.length=rows.length/\∀(i:Nat) (v:Value),a[i]? = some v->∃(T:Addr) (items:Array Value) (r:List Int),v=.ref T/\IsTup h T items/\rows[i]? = some r/\IntsAre items.toList r
abbrev gL(rows:List (List Int)):Nat->Nat->Bool:=fun i j=>HT.lexLt (rows.getD i []) (rows.getD j [])
section
variable{prog:Program}{w:World}{A:Around}{R:Result->Shared->Prop}{E:Value->Shared->Prop}{s:Shared}{h0:Heap}{I l S:Addr}{its:Array Value}{rows:List (List Int)}{d:Value}
theorem Pe(g:A.units<cLine)(a:vI h0 its.toList rows)(f:∀b o,h0.get? b=some o->s.heap.get? b=some o)(h:its[i]? = some u)(k:its[j]? = some v)(q:Q (.bool (gL rows i j)) s):wpAny (model prog w) A (richCompare .Lt u v) Q E s:=by
 obtain⟨T,m,r,rfl,n,p,t⟩:=a.2 i u (by simpa using h);obtain⟨c,y,z,rfl,B,C,D⟩:=a.2 j v (by simpa using k);have G:rows.getD i []=r:=by rw[List.getD_eq_getElem?_getD,p];rfl
 have H:rows.getD j []=z:=by rw[List.getD_eq_getElem?_getD,C];rfl
 unfold gL at q;rw[G,H]at q;have J:IsTup s.heap T m:=let⟨o,e,x⟩:=n;⟨o,f _ _ e,x⟩;have L:IsTup s.heap c y:=let⟨o,e,x⟩:=B;⟨o,f _ _ e,x⟩;exact(HT.lt_tupInts J L t D g q:wpAny (model prog w) A (compareOp .Lt (.ref T) (.ref c)) Q E s)
theorem Pf(hh:A.handled=none)(T:A.in1.units<cLine)(U:vI h0 its.toList rows)(L:h0.IsList l its)(hI:h0.objs.size<=I)(X:h0.objs.size<=S)(q:I≠S) :
  ∀k j  s  n  c,its.size - (j+1)=k->j+1<=its.size->(∀b o,h0.get? b=some o->s.heap.get? b=some o)->s.heap.IsListIter I l (j+1)->its[argBest (gL rows) j]? = some n->
  s.heap.get? S=some { cls:=.type "list",dict:=none,data:=.seq #[n,n] c,slots:=#[] }->
  (∀v u y,its[argBest (gL rows) (its.size - 1)]? = some v->(∀b o,h0.get? b=some o->u.get? b=some o)->R (.ok (.ret v)) { s with heap:=u,toks:=y })->
  codeAny (model prog w) A (.builtin "min.loop" ⟨[.ref I,.none,.ref S],[("default",d)]⟩) R s:=by
 have a:(toString "min"++toString ".loop":String)="min.loop":=by decide
 have M:∀{b:Addr}{o:Obj},h0.get? b=some o->b≠I:=fun e z=>by subst z;exact absurd (bj e) (Nat.not_lt.mpr hI)
 have N:∀{b:Addr}{o:Obj},h0.get? b=some o->S≠b:=fun e z=>by subst z;exact absurd (bj e) (Nat.not_lt.mpr X)
 intro k
 induction k with
 |zero=>
  intro j s n c Y Z C hit G f D;have H:j+1=its.size:=by lia
  refine codeAny_builtin F.entry_min_loop ?_;rw[Around.under_plainId F.plain_min_loop _];show wpAny _ A.in1 (seqItems? (.ref S) >>= _) _ _ s;refine ae (wpAny_seqItems f rfl ?_);show wpAny _ A.in1 (tryCatch (pyNext (.ref I)) _ >>= _) _ _ s;refine ae (wpAny_tryCatch (wpAny_pyNext_list_end hh hit (L.at fun o e=>C _ _ e) (by simp;lia) fun Q g=>?_));have h:=g S _ (Ne.symm q) f;show wpAny _ A.in1 (updateSeq S (fun _=>#[]) >>= _) _ _ _;refine ae (wpAny_updateSeq h rfl (ae (wpAny_letGo (aR ?_))));refine D n _ _ (by rw[<-H];exact G) fun b o e=>?_;exact(Heap.get?_update_other _ _ (N e)).trans (g _ _ (M e) (C _ _ e))
 |succ k O=>
  intro j s n c Y Z C hit G f D;have m:j+1<its.size:=by lia
  refine codeAny_builtin F.entry_min_loop ?_;rw[Around.under_plainId F.plain_min_loop _];show wpAny _ A.in1 (seqItems? (.ref S) >>= _) _ _ s;refine ae (wpAny_seqItems f rfl ?_);show wpAny _ A.in1 (tryCatch (pyNext (.ref I)) _ >>= _) _ _ s;refine ae (wpAny_tryCatch (wpAny_pyNext_list_item hit (L.at fun o e=>C _ _ e) (x:=its[j+1]) (by simp[m]) fun Q p g=>?_));have h:=g.extBut S _ (Ne.symm q) f;have r:∀b o,h0.get? b=some o->Q.get? b=some o:=fun b o e=>g.extBut _ _ (M e) (C _ _ e);show wpAny _ A.in1 (tryCatch (holding [its[j+1],its[j+1]] (richCompare .Lt its[j+1] n >>= _)) _ >>= _) _ _ _;refine ae (wpAny_tryCatch (wpAny_holding (ae (Pe (i:=j+1) (j:=argBest (gL rows) j) T U r (by simp[m]) G ?_))));refine ae (wpAny_holding (wpAny_truthy_bool ?_));refine ae (wpAny_letGo (aR ?_));cases B:gL rows (j+1) (argBest (gL rows) j) with
  |true=>simp only[if_true];refine ae (wpAny_updateSeq h rfl (ae (wpAny_letGo ?_)));rw[a];refine aR ⟨plainId_quiet F.plain_min_loop _,O (j+1) _ its[j+1] _ (by lia) m (fun b o e=>(Heap.get?_update_other _ _ (N e)).trans (r _ _ e)) (p.at fun o e=>(Heap.get?_update_other _ _ (Ne.symm q)).trans e) (by simp only[argBest,B,if_true];simp[m]) (Heap.get?_update_self _ h rfl) fun v u y J t=>D v u y J t⟩
  |false=>simp only[Bool.false_eq_true,if_false];refine ae (wpAny_letGo ?_);rw[a];exact aR ⟨plainId_quiet F.plain_min_loop _,O (j+1) _ n c (by lia) m r p (by simp only[argBest,B,Bool.false_eq_true,if_false];exact G) h fun v u y J t=>D v u y J t⟩
theorem Pg(H:A.handled=none)(t:A.in1.units<cLine)(j:s.heap.IsList l its)(u:vI s.heap its.toList rows)(k:0<its.size)(y:∀v h m,its[argBest (gL rows) (its.size - 1)]? = some v->(∀b o,s.heap.get? b=some o->h.get? b=some o)->Q v { s with heap:=h,toks:=m }) :
  wpAny (model prog w) A (call (.builtin "min") [.ref l] [("default",d)]) Q E s:=by
 refine AM F.kind_min F.plain_min F.entry_min (AL _ _) ?_;show wpAny _ A.in1 (Builtin.Builtins.bindParams "min" ["key","default"] 0 ⟨[],[("default",d)]⟩ >>= _) _ _ s;refine ae (wpAny_of_eq (show Builtin.Builtins.bindParams "min" ["key","default"] 0 ⟨[],[("default",d)]⟩=pure [none,some d] from rfl) ?_);refine ae (aR ?_);refine ae (wpAny_pyIter_list j ?_);refine ae (wpAny_newObj_type ?_);have a:(toString "min"++toString ".loop":String)="min.loop":=by decide
 rw[a];generalize n:(s.heap.push { cls:=.type "list_iterator",data:=.fields #[.ref l,.int 0 0] })=h1;have B:h1.get? s.heap.objs.size=some { cls:=.type "list_iterator",data:=.fields #[.ref l,.int 0 0] }:=by rw[<-n];exact Heap.get?_push_size _ rfl
 have C:∀b o,s.heap.get? b=some o->h1.get? b=some o:=fun b o e=>by rw[<-n];exact aS _ e
 have p:h1.objs.size=s.heap.objs.size+1:=by rw[<-n,Heap.size_push]
 refine aR ⟨plainId_quiet F.plain_min_loop _,?_⟩;refine codeAny_builtin F.entry_min_loop ?_;rw[Around.under_plainId F.plain_min_loop _];have q:(h1.push { cls:=.type "list",data:=.seq #[] }).get? h1.objs.size=some { cls:=.type "list",data:=.seq #[] }:=Heap.get?_push_size _ rfl;have r:∀b o,s.heap.get? b=some o->(h1.push { cls:=.type "list",data:=.seq #[] }).get? b=some o:=fun b o e=>aS _ (C b o e);show wpAny _ A.in1 (seqItems? (.ref h1.objs.size) >>= _) _ _ _;refine ae (wpAny_seqItems q rfl ?_);show wpAny _ A.in1 (tryCatch (pyNext (.ref s.heap.objs.size)) _ >>= _) _ _ _;refine ae (wpAny_tryCatch (wpAny_pyNext_list_item (i:=0) (l:=l) (items:=its) (x:=its[0]) ⟨_,aS _ B,rfl,rfl⟩ (j.at fun o e=>r _ _ e) (by simp[k]) fun J c f=>?_));have ne:s.heap.objs.size≠h1.objs.size:=by rw[p];exact Nat.ne_of_lt (Nat.lt_succ_self _)
 have g:=f.extBut _ _ (Ne.symm ne) q;have D:∀b o,s.heap.get? b=some o->J.get? b=some o:=fun b o e=>f.extBut _ _ (Nat.ne_of_lt (bj e)) (r _ _ e);show wpAny _ A.in1 (updateSeq h1.objs.size (fun _=>#[its[0],its[0]]) >>= _) _ _ _;refine ae (wpAny_updateSeq g rfl ?_);rw[a];refine aR ⟨plainId_quiet F.plain_min_loop _,Pf (h0:=s.heap) (its:=its) (rows:=rows) H t u j (bb _) (by rw[p];exact Nat.le_succ _) ne _ 0 _ its[0] _ rfl k (fun b o e=>(Heap.get?_update_other _ _ (fun z=>by subst z;exact absurd (bj e) (by rw[p];exact Nat.not_lt.mpr (Nat.le_succ _)))).trans (D _ _ e)) (c.at fun o e=>(Heap.get?_update_other _ _ (Ne.symm ne)).trans e) (by simp[argBest,k]) (Heap.get?_update_self _ g rfl) fun v h m G L=>y v h m G L⟩
end
end L2
namespace L2.L3
open PySem PySem.Spec PyProof.Rows
noncomputable def ic:List PyData->Option (List Int)
 |[]=>some []
 |.int i::r=>(ic r).map (i::·)
 |_=>none
def iR:List PyData->Option (List (List Int))
 |[]=>some []
 |.tuple ds::r=>(match ic ds,iR r with |some x,some y=>some (x::y) |_,_=>none)
 |_=>none
theorem vJ:∀{b a},ic b=some a->b=a.map PyData.int
 |[],a,h=>by cases h;rfl
 |.int i::r,a,h=>by unfold ic at h;obtain⟨m,h1,h2⟩:=Option.map_eq_some_iff.mp h;subst h2;rw[vJ h1];rfl
 |.none::_,_,h=>by cases h
 |.bool _::_,_,h=>by cases h
 |.str _::_,_,h=>by cases h
 |.list _::_,_,h=>by cases h
 |.tuple _::_,_,h=>by cases h
 |.dict _::_,_,h=>by cases h
theorem vK:∀{b a},iR b=some a->b=a.map fun r=>PyData.tuple (r.map PyData.int)
 |[],a,h=>by cases h;rfl
 |.tuple l::r,a,h=>by
  unfold iR at h;cases h1:ic l with
  |none=>rw[h1]at h;cases h
  |some x=>
   cases h2:iR r with
   |none=>rw[h1,h2]at h;cases h
   |some y=>rw[h1,h2]at h;cases h;rw[vK h2,vJ h1];rfl
 |.none::_,_,h=>by cases h
 |.bool _::_,_,h=>by cases h
 |.str _::_,_,h=>by cases h
 |.list _::_,_,h=>by cases h
 |.int _::_,_,h=>by cases h
 |.dict _::_,_,h=>by cases h
theorem vL:∀{vs}{a:List Int},aG H vs (a.map PyData.int)->vs=a.map V.int
 |_,[],.nil=>rfl
 |_,n::a,.cons h t=>by rw[h.int_inv,vL t];rfl
theorem ints_are:∀{a b},bi (a.map V.int) b->IntsAre b a
 |[],_,.nil=>.nil
 |n::a,_,.cons r t=>by obtain⟨c,rfl⟩:=r;exact .cons n c (ints_are t)
def ek:List (List Int)->List Int->List Int
 |[],b=>b
 |r::a,b=>ek a (if HT.lexLt r b=true then r else b)
theorem AS(rows:List (List Int)):∀k j,j+1+k=rows.length->ek (rows.drop (j+1)) (rows.getD (argBest (gL rows) j) [])=rows.getD (argBest (gL rows) (rows.length - 1)) []
 |0,j,h=>by have e:rows.drop (j+1)=[]:=List.drop_eq_nil_of_le (by lia);rw[e,ek,show rows.length - 1=j by lia]
 |k+1,j,h=>by
  have a:j+1<rows.length:=by lia
  rw[List.drop_eq_getElem_cons a,ek,<-AS rows k (j+1) (by lia)]
  congr 1
  have b:rows.getD (j+1) []=rows[j+1]:=by rw[List.getD_eq_getElem?_getD,List.getElem?_eq_getElem a];rfl
  simp only[argBest];unfold gL;rw[b];split
  .exact b.symm
  .rfl
theorem Ph{A:Around}(a:A.units+1<cLine):A.in1.units<cLine:=by
 have:A.in1.units<=A.units+1:=by first |exact bb _ |exact Nat.le_succ _
 exact Nat.lt_of_le_of_lt this a
def ie(i:Nat):XM PyData:=fun U=>match mC U i with
 |some (_,ds)=>(match iR ds with
  |some []=>.ok .none U
  |some (r::a)=>.ok (.tuple ((ek a r).map PyData.int)) U
  |none=>.bad)
 |none=>.bad
theorem AU{F:Fx}{E:Str->ak->Prop}{pos:Pos}{p:Pos}{kp:Pos}{kpos:Pos}{S}(hu:X.A.units+1<cLine)(hc:X.calm=true)(hg:Gl X "min")(C:X.mg "min" = none)(Z:PE X (.Name x p1) (cf i))
  (a0:autoParam (starEach [.Name x p1] X.env=(false,eval (.Name x p1) X.env)::starEach [] X.env) Zq._auto_1)
  (he:autoParam (backTo pos (starEach [.Name x p1] X.env)=(false,eval (.Name x p1) X.env)::backTo pos (starEach [] X.env)) Zq._auto_1)
  (f:autoParam ((backTo pos (starEach [.Name x p1] X.env)).any (·.1)=false) Zq._auto_1)
  (D:autoParam ((backToKw pos (keywordEach [⟨some "default",.Constant .none S kp,kpos⟩] X.env)).all (·.1.isSome)=true) Zq._auto_1)
  (a1:autoParam ((backToKw pos (keywordEach [⟨some "default",.Constant .none S kp,kpos⟩] X.env)).any (·.1.isNone)=false) Zq._auto_1)
  (hn:autoParam ((backToKw pos (keywordEach [⟨some "default",.Constant .none S kp,kpos⟩] X.env)).filterMap (·.1)=[("default":Str)]) Zq._auto_1) :
  FE X F E (.Call (.Name "min" p) [.Name x p1] [⟨some "default",.Constant .none S kp,kpos⟩] pos) (ie i):=by
 refine⟨aE,fun h s Y H Q I G=>?_⟩;obtain⟨U,O,st,q⟩:=G;unfold wp ie at q;cases ho:mC U i with
 |none=>rw[ho]at q;exact q.elim
 |some pr=>
  obtain⟨io,ds⟩:=pr;rw[ho]at q;simp only at q;cases hr:iR ds with
  |none=>rw[hr]at q;exact q.elim
  |some rows=>
   rw[hr]at q;obtain⟨a,fp,a2,⟨_,xs,hH,hd⟩,_,_⟩:=st.box (NY ho);refine wpAny_Call_Name_kw (iw I hg C PyProof.Rows.boot_min ?_ (by decide) (by decide));refine PyProof.Rows.callWith_kw ?_ he f D a1;refine aN ((em Z fm a0) pos h s Y H (fun vs H1=>vs=[.ref a]/\H1=H) I ⟨_,a2,rfl,rfl⟩) fun us s1 J=>?_;obtain⟨vs,H1,I1,r1,t,y⟩:=J;subst t y;obtain⟨u,rfl,ru⟩:=vals1 r1;cases ru;refine aN ((Iz (nm:=some "default") (kpos:=kpos) xr Iy) pos h s1 Y H1 (fun vs m=>vs=[.non]/\m=H1) I1 ⟨rfl,rfl⟩) fun us s2 M=>?_;obtain⟨vs,m,z,r2,t,y⟩:=M;subst t y;obtain⟨u,rfl,ru⟩:=vals1 r2;cases ru;rw[hn];obtain⟨z1,g,n1,rv,g1⟩:=z.hok _ _ hH;have n:=vK hr;have L:s2.heap.IsList a g.toArray:=⟨_,g1,rfl,_,rfl⟩
   cases rows with
   |nil=>subst n;cases hd;cases rv;simp only at q;refine OG (l:=a) (d:=.none) (z.ok.hd hc) L fun h' j=>?_;exact⟨.non,m,z.kept (t':=s2.toks) j,rfl,q _ m O st .refl .non⟩
   |cons r e=>
    simp only at q;have c:g.length=(r::e).length:=by rw[<-rv.length,hd.length,n,List.length_map]
    have item:∀(k:Nat) (v:Value),g[k]? = some v->∃(T:Addr) (o:List Int) (b:List Value) (B:V),v=.ref T/\IsTup s2.heap T b.toArray/\(r::e)[k]? = some o/\IntsAre b o/\bf B v/\DV (aq O m) B (.tuple (o.map PyData.int)):=fun k v j=>by
     have N:k<(r::e).length:=by rw[<-c];exact(List.getElem?_eq_some_iff.mp j).1
     have a3:ds[k]? = some (.tuple (((r::e)[k]).map PyData.int)):=by rw[n,List.getElem?_map,List.getElem?_eq_getElem N];rfl
     obtain⟨B,a4,R⟩:=hd.get a3;obtain⟨w,hw,a5⟩:=rv.get a4;rw[j]at hw;cases hw;obtain⟨T,ys,rfl,hT,hy⟩:=R.tup_inv;obtain⟨_,b,rj,pj⟩:=(fM hT).1.ok z.hok;rw[vL hy]at rj;cases a5;exact⟨T,_,b,.ref T,rfl,pj,List.getElem?_eq_getElem N,ints_are rj,rfl,R⟩
    refine Pg (l:=a) (its:=g.toArray) (rows:=r::e) (d:=.none) (z.ok.hd hc) (Ph hu) L ⟨c,fun k v j=>by
     obtain⟨T,o,b,B,t,y,e3,e4,_,_⟩:=item k v j;exact⟨T,b.toArray,o,t,y,e3,e4⟩⟩ (by simp only[List.size_toArray];rw[c];simp) fun v h' tk Z j=>?_
    simp only[List.size_toArray,List.getElem?_toArray]at Z;obtain⟨T,o,b,B,t,y,e3,e4,e5,e6⟩:=item _ v Z;have C:=AS (r::e) e.length 0 (by simp;lia);have a6:(r::e).getD (argBest (gL (r::e)) 0) []=r:=by simp[argBest]
    rw[a6]at C;change ek e r=_ at C;rw[c]at e3;have:o=ek e r:=by rw[C,List.getD_eq_getElem?_getD,e3];rfl
    subst this;exact⟨B,m,z.kept (t':=tk) j,e5,q _ m O st .refl e6⟩
structure MD (K:Frag) (C:Addr) (m qual:Str) (st:Stmt) (ps:List Str) (g:Addr) (fd:FuncData):Prop where
 fn:lP K m qual st g fd
 mt:gU K C m g
 b:iy K fd ps []
theorem bA{N P}{a}(f:autoParam (a.kind=.function) Zq._auto_1)(g:autoParam (a.isCoroutine=false) Zq._auto_1)(h:autoParam (a.isGenerator=false) Zq._auto_1)(b:N.Nodup:=by decide +kernel)(c:autoParam (N.take P.length=P) Zq._auto_1)(d:∀x∈P,a.names.lookup x=some .local\/a.names.lookup x=some .cell:=by decide +kernel)(e:∀y∈a.names,y.2≠.free:=by decide +kernel):bY N P a:=⟨f,g,h,b,c,d,e⟩
theorem fv{X:Cx}{F:Fx}{E:Str->ak->Prop}{pos:Pos}(i)(b:autoParam (X.N[i]? = some x) Zq._auto_1)(c:nO X.env.scope x:=by first |exact Or.inl rfl |exact Or.inr (Or.inl rfl) |exact Or.inr (Or.inr rfl))(hd:autoParam ((x==("__debug__":Str))=false) Zr._auto_1)(a:autoParam ((x==("__classdict__":Str))=false) Zr._auto_1):FE X F E (.Name x pos) (xV i):=Nd (yy i (pv i b c hd a))
theorem Pj{X:Cx}{F:Fx}{pos:Pos}(i)(a:X.N.Nodup)(b:autoParam (X.N[i]? = some x) Zq._auto_1)(c:Loc X.env.scope x:=by first |exact Or.inl rfl |exact Or.inr rfl)(d:X.fn x=true\/X.env.scope.names.lookup x=some .local:=by first |exact .inl rfl |exact .inr rfl |assumption):FG X F (.Name x pos) (av i):=Nx (Ld (Hc a b c d))
theorem mP{pos:Pos}{p:Pos}{st:Stmt}(d:fS X F E)(G:cj X.prog X.w X.K X.mg X.base (dS X.prog X.w) k g fd ps (fT X.K X.mg f))(D:FD X.K X.mg x st ps g fd)(h:bx j X.A)(l:FX X F E (e::es) mX)(n:autoParam (k<=j) Zr._auto_1)(o:autoParam (Gl X x) Zq._auto_1)(a:autoParam ((x==("__debug__":Str))=false) Zr._auto_1)
  (r:autoParam (starEach (e::es) X.env=(false,eval e X.env)::starEach es X.env) Zq._auto_1) (c:autoParam ((backTo pos (starEach es X.env)).any (·.1)=false) Zq._auto_1):FO X F E (.Call (.Name x p) (e::es) [] pos) (aJ f mX):=NB (LR d G (h.mono n) o D.mgf D.fn.kp D.b l a r c)
end L2.L3
namespace L2.TS
open PySem PyProof.Rows
section
variable{α:Type}{le:α->α->Bool}
theorem qY:∀{xs},(∀x∈xs,le x b=true)->List.merge (xs++as) (b::bs) le=xs++List.merge as (b::bs) le
 |[],_=>rfl
 |x::xs,h=>by rw[List.cons_append,List.cons_merge_cons,if_pos (h x List.mem_cons_self),qY fun y a=>h y (bq _ a)];rfl
theorem vM:∀{ys},(∀y∈ys,le a y=false)->List.merge (a::as) (ys++bs) le=ys++List.merge (a::as) bs le
 |[],_=>rfl
 |y::ys,h=>by rw[List.cons_append,List.cons_merge_cons,if_neg (by rw[h y List.mem_cons_self];exact Bool.false_ne_true),vM fun z b=>h z (bq _ b)];rfl
theorem vN(h:∀y∈bs,∀x∈b,le x y=false):List.merge b bs le=bs++b:=by
 cases b with
 |nil=>simp
 |cons x b=>have:=vM (le:=le) (as:=b) (bs:=[]) (a:=x) (ys:=bs) fun y c=>h y c x List.mem_cons_self;rw[List.append_nil,List.merge_right]at this;exact this
theorem Pk(h:∀x∈as,∀y∈a,le x y=true):List.merge as a le=as++a:=by
 cases a with
 |nil=>simp
 |cons y a=>have:=qY (le:=le) (as:=[]) (bs:=a) (b:=y) (xs:=as) fun x c=>h x c y List.mem_cons_self;simpa using this
theorem vO:∀as bs,(∀y∈bs,∀x∈c,le x y=false)->List.merge (as++c) bs le=List.merge as bs le++c
 |[],bs,h=>by simpa using vN h
 |a::as,[],h=>by simp
 |a::as,b::bs,h=>by
  rw[List.cons_append,List.cons_merge_cons,List.cons_merge_cons];split
  .rw[vO as (b::bs) h];rfl
  .rw[<-List.cons_append,vO (a::as) bs fun y d=>h y (bq _ d)];rfl
termination_by as bs=>as.length+bs.length
theorem qZ:∀as bs,(∀x∈as,∀y∈c,le x y=true)->List.merge as (bs++c) le=List.merge as bs le++c
 |as,[],h=>by simpa using Pk h
 |[],b::bs,h=>by simp
 |a::as,b::bs,h=>by
  rw[List.cons_append,List.cons_merge_cons,List.cons_merge_cons];split
  .rw[<-List.cons_append,qZ as (b::bs) fun x d=>h x (bq _ d)];rfl
  .rw[qZ (a::as) bs h];rfl
termination_by as bs=>as.length+bs.length
end
noncomputable def cV:Bool->Keyed->Array Keyed->Nat->Nat->Nat->StateT SortSt Sem (Option Nat):=sortPriv% PySem.Builtin.gallop
noncomputable def mQ(lf:Bool)(a:Keyed)(b:Array Keyed)(bs i:Nat):StateT SortSt Sem (Option Bool):=do
 let x <-elem' b (bs+i)
 if lf then lt' x a else return (<-lt' a x).map (!·)
def ra(lf:Bool)(ky:Keyed)(ar:Array Keyed)(bs n l0 h0:Nat):StateT SortSt Sem (Option Nat):=do
 let mut lo:=l0;let mut hi:=h0
 for _ in [0:n] do
  if lo≥hi then break
  let m:=lo+(hi - lo) / 2
  let some mo <-mQ lf ky ar bs m |return none
  if mo then lo:=m+1 else hi:=m
 return some hi
theorem Pm(lf ky ar bs n hn):cV lf ky ar bs n hn=(do
 let mut la:=0;let mut of:=1
 let some rt <-mQ lf ky ar bs hn |return none
 if rt then
  for _ in [0:n] do
   if of≥n - hn then break
   let some mo <-mQ lf ky ar bs (hn+of) |return none
   if !mo then break
   la:=of
   of:=2 * of+1
  ra lf ky ar bs n (hn+la+1) (hn+min of (n - hn))
 else
  for _ in [0:n] do
   if of≥hn+1 then break
   let some fd <-mQ lf ky ar bs (hn - of) |return none
   if fd then break
   la:=of
   of:=2 * of+1
  ra lf ky ar bs n (hn+1 - min of (hn+1)) (hn - la)):=rfl
def dP(prog:Program)(w:World)(A:Around)(E:Value->Shared->Prop)(s:Shared)(le:Keyed->Keyed->Bool)(κ:SortKind)(S:Keyed->Prop):Prop:=
 ∀x y,S x->S y->∀(Q:Option Bool->SortSt->Prop) (st:SortSt),kindOf st=κ->Q (some (!le y x)) st->wpS (model prog w) A E s (lt' x y) Q st
theorem dF{st}(h:a[i]? = some x)(q:Q x st):wpS (model prog w) A E s (elem' a i) Q st:=by rw[elem'_eq,h];exact bd q
noncomputable def dQ(le:Keyed->Keyed->Bool)(lf:Bool)(a x:Keyed):Bool:=if lf then !le a x else le x a
theorem rb(b:dP prog w A E s le κ S){st}(d:kindOf st=κ)(g:c[bs+i]? = some x)(e:S x)(f:S a)
  (q:Q (some (dQ le lf a x)) st):wpS (model prog w) A E s (mQ lf a c bs i) Q st:=by
 unfold mQ;refine aL (dF g ?_);cases lf with
 |true=>exact b x a e f Q st d q
 |false=>exact aL (b a x f e _ st d (bd (by simpa[dQ] using q)))
theorem AV{p:Nat->Bool}{st:SortSt}(t:dP prog w A E s le κ S)(u:kindOf st=κ)(v:S ky)(q:∀i,i<n->∃x,ar[bs+i]? = some x/\S x/\dQ le lf ky x=p i)(mono:∀i j,i<=j->j<n->p j=true->p i=true)
  (h:∀k,k<=n->(∀i,i<k->p i=true)->(∀i,k<=i->i<n->p i=false)->Q (some k) st) (r:o<=l) (y:l<=n) (M:∀i,i<o->p i=true) (N:∀i,l<=i->i<n->p i=false) :
  wpS (model prog w) A E s (ra lf ky ar bs n o l) Q st:=by
 unfold ra;dsimp only;refine aL (wpS_mono (wpS_forRange (I:=fun x c a=>a = st/\∃lo b,c=(none,lo,b)/\lo<=b/\b<=n/\b - lo<=n - x/\(∀i,i<lo->p i=true)/\(∀i,b<=i->i<n->p i=false))
  (Q:=fun c a=>a = st/\∃k,c=(none,k,k)/\k<=n/\(∀i,i<k->p i=true)/\(∀i,k<=i->i<n->p i=false)) ?_ ?_ ⟨rfl,o,l,rfl,r,y,by lia,M,N⟩) ?_)
 .rintro x c a _ R ⟨rfl,lo,b,rfl,z,d,B,f,g⟩;dsimp only
  by_cases m:lo≥b
  .rw[if_pos m];have:lo=b:=by lia
   subst this;exact bd ⟨rfl,lo,rfl,d,f,g⟩
  .rw[if_neg m];obtain⟨x,C,D,G⟩:=q (lo+(b - lo) / 2) (by lia);refine aL (rb t u C D v ?_);rw[G];cases e:p (lo+(b - lo) / 2) with
   |true=>exact bd ⟨rfl,_,_,rfl,by lia,d,by lia,fun i H=>mono i _ (by lia) (by lia) e,g⟩
   |false=>
    refine bd ⟨rfl,_,_,rfl,by lia,by lia,by lia,f,fun i O J=>?_⟩;cases L:p i with
    |false=>rfl
    |true=>rw[mono _ i O J L]at e;cases e
 .rintro c a ⟨rfl,lo,b,rfl,z,d,B,f,g⟩;have:lo=b:=by lia
  subst this;exact⟨rfl,lo,rfl,d,f,g⟩
 .rintro c a ⟨rfl,k,rfl,d,f,g⟩;exact bd (h k d f g)
theorem Pn{p:Nat->Bool}{st:SortSt}(r:dP prog w A E s le κ S)(t:kindOf st=κ)(u:S ky)(l:∀i,i<n->∃x,ar[bs+i]? = some x/\S x/\dQ le lf ky x=p i)(mono:∀i j,i<=j->j<n->p j=true->p i=true)
  (h:∀k,k<=n->(∀i,i<k->p i=true)->(∀i,k<=i->i<n->p i=false)->Q (some k) st) (M:b<n) :
  wpS (model prog w) A E s (cV lf ky ar bs n b) Q st:=by
 rw[Pm];have o:∀i j,i<=j->j<n->p i=false->p j=false:=fun i j C v e=>by
  cases H:p j with
  |false=>rfl
  |true=>rw[mono i j C v H]at e;cases e
 obtain⟨x,y,z,B⟩:=l b M;refine aL (rb r t y z u ?_);rw[B];dsimp only;cases e:p b with
 |true=>
  rw[if_pos rfl];refine aL (wpS_mono (wpS_forRange (I:=fun x c a=>a = st/\∃la of,c=(none,la,of)/\la<of/\x+1<=of/\b+la<n/\p (b+la)=true)
   (Q:=fun c a=>a = st/\∃la of,c=(none,la,of)/\la<of/\b+la<n/\p (b+la)=true/\(n - b<=of\/(b+of<n/\p (b+of)=false))) ?_ ?_ ⟨rfl,0,1,rfl,by lia,by lia,by lia,e⟩) ?_)
  .rintro x c a _ J ⟨rfl,la,of,rfl,m,D,g,f⟩;dsimp only
   by_cases d:of≥n - b
   .rw[if_pos d];exact bd ⟨rfl,la,of,rfl,m,g,f,.inl d⟩
   .rw[if_neg d];obtain⟨x,y,z,B⟩:=l (b+of) (by lia);refine aL (rb r t y z u ?_);rw[B];cases e:p (b+of) with
    |true=>exact bd ⟨rfl,of,_,rfl,by lia,by lia,by lia,e⟩
    |false=>exact bd ⟨rfl,la,of,rfl,m,g,f,.inr ⟨by lia,e⟩⟩
  .rintro c a ⟨rfl,la,of,rfl,m,D,g,f⟩;exact⟨rfl,la,of,rfl,m,g,f,.inl (by lia)⟩
  .rintro c a ⟨rfl,la,of,rfl,m,g,f,q⟩;dsimp only;refine AV r t u l mono h (by lia) (by lia) (fun i L=>mono i _ (by lia) g f) (fun i C v=>?_);rcases q with q |⟨q,G⟩
   .omega
   .exact o _ i (by lia) v G
 |false=>
  rw[if_neg Bool.false_ne_true];refine aL (wpS_mono (wpS_forRange (I:=fun x c a=>a = st/\∃la of,c=(none,la,of)/\la<of/\x+1<=of/\la<=b/\p (b - la)=false)
   (Q:=fun c a=>a = st/\∃la of,c=(none,la,of)/\la<of/\la<=b/\p (b - la)=false/\(b+1<=of\/(of<=b/\p (b - of)=true))) ?_ ?_ ⟨rfl,0,1,rfl,by lia,by lia,by lia,e⟩) ?_)
  .rintro x c a _ J ⟨rfl,la,of,rfl,m,D,g,f⟩;dsimp only
   by_cases d:of≥b+1
   .rw[if_pos d];exact bd ⟨rfl,la,of,rfl,m,g,f,.inl d⟩
   .rw[if_neg d];obtain⟨x,y,z,B⟩:=l (b - of) (by lia);refine aL (rb r t y z u ?_);rw[B];cases e:p (b - of) with
    |false=>exact bd ⟨rfl,of,_,rfl,by lia,by lia,by lia,e⟩
    |true=>exact bd ⟨rfl,la,of,rfl,m,g,f,.inr ⟨by lia,e⟩⟩
  .rintro c a ⟨rfl,la,of,rfl,m,D,g,f⟩;exact⟨rfl,la,of,rfl,m,g,f,.inl (by lia)⟩
  .rintro c a ⟨rfl,la,of,rfl,m,g,f,q⟩;dsimp only;refine AV r t u l mono h (by lia) (by lia) (fun i L=>?_) (fun i C v=>o _ i C v f);rcases q with q |⟨q,G⟩
   .omega
   .exact mono i _ (by lia) (by lia) G
theorem mR{st:SortSt}(f:dP prog w A E s le κ S)(tr:∀x y z,le x y=true->le y z=true->le x z=true)(g:kindOf st=κ)(l:S ky)(m:∀(i:Nat)  x,ar[i]? = some x->S x)(o:bs+n<=ar.size)
  (v:∀i j  x y,bs<=i->i<=j->j<bs+n->ar[i]? = some x->ar[j]? = some y->le x y=true)
  (h:∀k,k<=n->(∀i,i<k->∀x,ar[bs+i]? = some x->dQ le lf ky x=true)->(∀i,k<=i->i<n->∀x,ar[bs+i]? = some x->dQ le lf ky x=false)->Q (some k) st) (B:a<n) :
  wpS (model prog w) A E s (cV lf ky ar bs n a) Q st:=by
 refine Pn (p:=fun i=>match ar[bs+i]? with |some x=>dQ le lf ky x |none=>false) f g l (fun i b=>?_) (fun i j r H e=>?_) (fun k fc C D=>h k fc (fun i b x e=>?_) (fun i G t x e=>?_)) B
 .have e:ar[bs+i]? = some (ar[bs+i]'(by lia)):=getElem?_pos _ _ (by lia);exact⟨_,e,m _ _ e,by simp only[e]⟩
 .have c:ar[bs+i]? = some (ar[bs+i]'(by lia)):=getElem?_pos _ _ (by lia);have d:ar[bs+j]? = some (ar[bs+j]'(by lia)):=getElem?_pos _ _ (by lia);have q:=v _ _ _ _ (by lia) (by lia) (by lia) c d;simp only[c,d]at e ⊢;cases lf with
  |false=>exact tr _ _ _ q e
  |true=>
   simp only[dQ,if_true,Bool.not_eq_true']at e ⊢;cases u:le ky (ar[bs+i]'(by lia)) with
   |false=>rfl
   |true=>rw[tr _ _ _ u q]at e;cases e
 .have:=C i b;simp only[e]at this;exact this
 .have:=D i G t;simp only[e]at this;exact this
noncomputable def el:Nat->StateT SortSt Sem Unit:=sortPriv% PySem.Builtin.setMinGallop
theorem rc(g):el g=modify fun s=>SortSt.mk' (kindOf s) (arrOf s) (pendingOf s) g (failedOf s):=rfl
noncomputable def jF:Array Keyed->Array Keyed->StateT SortSt Sem (Array Keyed):=sortPriv% PySem.Builtin.mergeLo
abbrev ig:=Option (Array Keyed)×Array Keyed×Nat×Nat×Nat×Nat×Nat
abbrev oK:=Option (Array Keyed)×Array Keyed×Nat×Nat×Nat×Nat
noncomputable def dn(a b o:Array Keyed)(c d:Nat):Array Keyed:=o++a.extract c a.size++b.extract d b.size
noncomputable def la(a b o:Array Keyed)(c d:Nat):Array Keyed:=o++b.extract d b.size++a.extract c a.size
def oM(a b:Array Keyed)(mg ac d:Nat)(o:Array Keyed)(c e:Nat):StateT SortSt Sem (ForInStep ig):=do
 let x <-elem' a c
 if c+1+1==a.size then pure (.done (some (la a b (o.push x) (c+1) e),o.push x,c+1,e,mg,ac,d))
 else if ac<7&&d<7 then pure (.done (none,o.push x,c+1,e,mg,ac,d)) else pure (.yield (none,o.push x,c+1,e,mg,ac,d))
def oN(a b:Array Keyed)(mg ac e:Nat)(o:Array Keyed)(d c:Nat):StateT SortSt Sem (ForInStep ig):=do
 let y <-elem' b c
 if c+1==b.size then pure (.done (some (dn a b (o.push y) d (c+1)),o.push y,d,c+1,mg,ac,e))
 else
  let x <-elem' a d
  match <-cV true x b (c+1) (b.size - (c+1)) 0 with
  |some k=>
   if k>0 then
    if c+1+k==b.size then pure (.done (some (dn a b (o.push y++b.extract (c+1) (c+1+k)) d (c+1+k)),o.push y++b.extract (c+1) (c+1+k),d,c+1+k,mg,ac,k))
    else oM a b mg ac k (o.push y++b.extract (c+1) (c+1+k)) d (c+1+k)
   else oM a b mg ac k (o.push y) d (c+1)
  |_=>pure (.done (some (dn a b (o.push y) d (c+1)),o.push y,d,c+1,mg,ac,e))
def oO(a b:Array Keyed)(ac e:Nat)(o:Array Keyed)(c d mg:Nat):StateT SortSt Sem (ForInStep ig):=do
 el mg
 let y <-elem' b d
 match <-cV false y a c (a.size - c) 0 with
 |some k=>
  if k>0 then
   if c+k+1==a.size then pure (.done (some (la a b (o++a.extract c (c+k)) (c+k) d),o++a.extract c (c+k),c+k,d,mg,k,e))
   else if c+k==a.size then pure (.done (some (dn a b (o++a.extract c (c+k)) (c+k) d),o++a.extract c (c+k),c+k,d,mg,k,e))
   else oN a b mg k e (o++a.extract c (c+k)) (c+k) d
  else oN a b mg k e o c d
 |_=>pure (.done (some (dn a b o c d),o,c,d,mg,ac,e))
def re(a b:Array Keyed)(c:ig):StateT SortSt Sem (ForInStep ig):=
 if c.2.2.2.2.1>1 then oO a b c.2.2.2.2.2.1 c.2.2.2.2.2.2 c.2.1 c.2.2.1 c.2.2.2.1 (c.2.2.2.2.1 - 1) else oO a b c.2.2.2.2.2.1 c.2.2.2.2.2.2 c.2.1 c.2.2.1 c.2.2.2.1 c.2.2.2.2.1
def rf(a b:Array Keyed)(mg:Nat)(c:oK):StateT SortSt Sem (ForInStep oK):=do
 let y <-elem' b c.2.2.2.1;let x <-elem' a c.2.2.1
 match <-lt' y x with
 |some d=>
  if d then do
   let y <-elem' b c.2.2.2.1
   if c.2.2.2.1+1==b.size then pure (.done (some (dn a b (c.2.1.push y) c.2.2.1 (c.2.2.2.1+1)),c.2.1.push y,c.2.2.1,c.2.2.2.1+1,0,c.2.2.2.2.2+1))
   else if c.2.2.2.2.2+1≥mg then pure (.done (none,c.2.1.push y,c.2.2.1,c.2.2.2.1+1,0,c.2.2.2.2.2+1)) else pure (.yield (none,c.2.1.push y,c.2.2.1,c.2.2.2.1+1,0,c.2.2.2.2.2+1))
  else do
   let x <-elem' a c.2.2.1
   if c.2.2.1+1+1==a.size then pure (.done (some (la a b (c.2.1.push x) (c.2.2.1+1) c.2.2.2.1),c.2.1.push x,c.2.2.1+1,c.2.2.2.1,c.2.2.2.2.1+1,0))
   else if c.2.2.2.2.1+1≥mg then pure (.done (none,c.2.1.push x,c.2.2.1+1,c.2.2.2.1,c.2.2.2.2.1+1,0)) else pure (.yield (none,c.2.1.push x,c.2.2.1+1,c.2.2.2.1,c.2.2.2.2.1+1,0))
 |_=>pure (.done (some (dn a b c.2.1 c.2.2.1 c.2.2.2.1),c.2.1,c.2.2.1,c.2.2.2.1,c.2.2.2.2.1,c.2.2.2.2.2))
abbrev rg:=Option (Array Keyed)×Array Keyed×Nat×Nat×Nat
def rh(a b:Array Keyed)(c:rg):StateT SortSt Sem (ForInStep rg):=do
 let d <-forIn [:a.size+b.size] ((none,c.2.1,c.2.2.1,c.2.2.2.1,0,0):oK) fun _ d=>rf a b c.2.2.2.2 d
 match d.1 with
 |some r=>pure (.done (some r,d.2.1,d.2.2.1,d.2.2.2.1,c.2.2.2.2))
 |none=>
  rule "list.sort.gallop"
  let e <-forIn [:a.size+b.size] ((none,d.2.1,d.2.2.1,d.2.2.2.1,c.2.2.2.2+1,d.2.2.2.2.1,d.2.2.2.2.2):ig) fun _ e=>re a b e
  match e.1 with
  |some r=>pure (.done (some r,e.2.1,e.2.2.1,e.2.2.2.1,e.2.2.2.2.1))
  |none=>
   el (e.2.2.2.2.1+1)
   pure (.yield (none,e.2.1,e.2.2.1,e.2.2.2.1,e.2.2.2.2.1+1))
theorem fb{r:Std.Legacy.Range}{x}{f g}{k a:β->StateT SortSt Sem γ}(h:∀i c,f i c=g i c)(b:∀c,k c=a c):(forIn r x f >>= k)=(forIn r x g >>= a):=by have e:f=g:=funext fun i=>funext fun c=>h i c;have d:k=a:=funext b;rw[e,d]
theorem fW[Decidable p]{α:Type}{x a y b:α}(c:x=a)(d:y=b):(if p then x else y)=if p then a else b:=by rw[c,d]
theorem Po(a b):jF a b=(do
 rule "list.sort.merge-lo"
 let tt:=a.size+b.size;let dn (o:Array Keyed) (ia ib:Nat):=o++a.extract ia a.size++b.extract ib b.size;let la (o:Array Keyed) (ia ib:Nat):=o++b.extract ib b.size++a.extract ia a.size;let mut o:Array Keyed:=#[<-elem' b 0];let mut ia:=0;let mut ib:=1
 if ib==b.size then return dn o ia ib
 if ia+1==a.size then return la o ia ib
 let mut mg:=gallopOf (<-get)
 for _ in [0:tt] do
  let mut ac:=0;let mut bc:=0
  for _ in [0:tt] do
   let some bw <-lt' (<-elem' b ib) (<-elem' a ia) |return dn o ia ib
   if bw then
    o:=o.push (<-elem' b ib);ib:=ib+1;bc:=bc+1;ac:=0
    if ib==b.size then return dn o ia ib
    if bc≥mg then break
   else
    o:=o.push (<-elem' a ia);ia:=ia+1;ac:=ac+1;bc:=0
    if ia+1==a.size then return la o ia ib
    if ac≥mg then break
  rule "list.sort.gallop"
  mg:=mg+1
  for _ in [0:tt] do
   if mg>1 then mg:=mg - 1
   el mg
   let some k <-cV false (<-elem' b ib) a ia (a.size - ia) 0 |return dn o ia ib
   ac:=k
   if k>0 then
    o:=o++a.extract ia (ia+k);ia:=ia+k
    if ia+1==a.size then return la o ia ib
    if ia==a.size then return dn o ia ib
   o:=o.push (<-elem' b ib);ib:=ib+1
   if ib==b.size then return dn o ia ib
   let some k <-cV true (<-elem' a ia) b ib (b.size - ib) 0 |return dn o ia ib
   bc:=k
   if k>0 then
    o:=o++b.extract ib (ib+k);ib:=ib+k
    if ib==b.size then return dn o ia ib
   o:=o.push (<-elem' a ia);ia:=ia+1
   if ia+1==a.size then return la o ia ib
   if ac<7&&bc<7 then break
  mg:=mg+1
  el mg
 unsupported "internal:list.sort.merge-bound"):=rfl
theorem Pp(a b):jF a b=(do
 rule "list.sort.merge-lo"
 let y <-elem' b 0
 if 1==b.size then return dn a b #[y] 0 1
 if 0+1==a.size then return la a b #[y] 0 1
 let g <-get;let c <-forIn [:a.size+b.size] ((none,#[y],0,1,gallopOf g):rg) fun _ c=>rh a b c
 match c.1 with
 |some r=>pure r
 |none=>unsupported "internal:list.sort.merge-bound"):=by
 rw[Po];refine bL fun _=>?_;dsimp only;refine bL fun y=>?_;unfold dn la;refine congrArg _ (congrArg _ (bL fun g=>?_));refine fb (fun _ c=>?_) fun c=>?_
 .unfold rh;refine fb (fun _ d=>?_) fun d=>?_
  .unfold rf dn la;refine bL fun _=>bL fun _=>bL fun q=>?_;cases q<;>rfl
  .obtain⟨r,d⟩:=d;cases r with
   |some r=>rfl
   |none=>
    dsimp only;refine bL fun _=>fb (fun _ e=>?_) fun e=>?_
    .unfold re oO dn la;refine fW ?_ ?_ <;>
     .refine bL fun _=>bL fun _=>bL fun q=>?_;cases q with
      |none=>rfl
      |some k=>
       refine fW (fW rfl (fW rfl ?_)) ?_ <;>
       .unfold oN oM dn la;refine bL fun _=>fW rfl (bL fun _=>bL fun q=>?_);cases q<;>rfl
    .obtain⟨r,e⟩:=e;cases r<;>rfl
 .obtain⟨r,c⟩:=c;cases r<;>rfl
theorem jG{α:Type}{l:List α}{x}(h:l[i]? = some x):l.drop i=x::l.drop (i+1):=by obtain⟨a,h2⟩:=List.getElem?_eq_some_iff.mp h;rw[List.drop_eq_getElem_cons a,h2]
theorem drop_take{α:Type}(l:List α)(i k):l.drop i=(l.drop i).take k++l.drop (i+k):=by rw[<-List.drop_drop];exact(List.take_append_drop k (l.drop i)).symm
theorem gM{α:Type}(a:Array α)(i j):(a.extract i j).toList=(a.toList.drop i).take (j - i):=by simp[List.extract_eq_take_drop]
theorem cP{α:Type}{a:Array α}{i:Nat}:a[i]? = a.toList[i]?:=by simp
def JJ(le:Keyed->Keyed->Bool)(a b:Array Keyed)(o:Array Keyed)(c d:Nat):Prop:=o.toList++List.merge (a.toList.drop c) (b.toList.drop d) le=List.merge a.toList b.toList le
theorem JJ.pb(h:JJ le a b o ia ib)(c:a[ia]? = some x)(d:b[ib]? = some y)(e:le x y=false):JJ le a b (o.push y) ia (ib+1):=by unfold JJ at h ⊢;rw[cP]at c d;rw[<-h,jG c,jG d,List.cons_merge_cons,if_neg (by rw[e];exact Bool.false_ne_true)];simp
theorem JJ.pa(h:JJ le a b o ia ib)(c:a[ia]? = some x)(d:b[ib]? = some y)(e:le x y=true):JJ le a b (o.push x) (ia+1) ib:=by unfold JJ at h ⊢;rw[cP]at c d;rw[<-h,jG c,jG d,List.cons_merge_cons,if_pos e];simp
theorem oP{l:List Keyed}(h:x∈(l.drop i).take k):∃j,j<k/\l[i+j]? = some x:=by
 obtain⟨j,c⟩:=List.getElem?_of_mem h;rw[List.getElem?_take]at c;split at c
 .rename_i q;rw[List.getElem?_drop]at c;exact⟨j,q,c⟩
 .cases c
theorem JJ.ga(h:JJ le a b o ia ib)(c:b[ib]? = some y)(e:∀i,i<k->∀x,a[ia+i]? = some x->le x y=true):JJ le a b (o++a.extract ia (ia+k)) (ia+k) ib:=by unfold JJ at h ⊢;rw[cP]at c;rw[<-h,drop_take a.toList ia k,jG c,qY (fun x d=>by obtain⟨j,f,q⟩:=oP d;exact e j f x (by rw[cP];exact q))];simp only[Array.toList_append,gM,List.append_assoc,Nat.add_sub_cancel_left]
theorem JJ.gb(h:JJ le a b o ia ib)(c:a[ia]? = some x)(e:∀i,i<k->∀y,b[ib+i]? = some y->le x y=false):JJ le a b (o++b.extract ib (ib+k)) ia (ib+k):=by unfold JJ at h ⊢;rw[cP]at c;rw[<-h,drop_take b.toList ib k,jG c,vM (fun y d=>by obtain⟨j,f,q⟩:=oP d;exact e j f y (by rw[cP];exact q))];simp only[Array.toList_append,gM,List.append_assoc,Nat.add_sub_cancel_left]
theorem JJ.dn(h:JJ le a b o ia ib)(e:b.size<=ib):(dn a b o ia ib).toList=List.merge a.toList b.toList le:=by
 unfold JJ at h;unfold TS.dn;rw[<-h,show b.toList.drop ib=[] from List.drop_eq_nil_of_le (by simpa using e),List.merge_right];have c:(b.extract ib b.size).toList=[]:=by rw[gM,show b.size - ib=0 by lia,List.take_zero]
 have d:(a.extract ia a.size).toList=a.toList.drop ia:=by rw[gM,List.take_of_length_le (by simp)]
 simp only[Array.toList_append,c,d,List.append_nil]
theorem JJ.la(h:JJ le a b o ia ib)(e:∀i  x y,i+1=a.size->a[i]? = some x->y∈b.toList->le x y=false)(f:ia+1=a.size):(la a b o ia ib).toList=List.merge a.toList b.toList le:=by
 unfold JJ at h;unfold TS.la;have d:a[ia]? = some (a[ia]'(by lia)):=getElem?_pos _ _ (by lia);have c:=d;rw[cP]at c;rw[<-h,jG c,List.drop_eq_nil_of_le (by simp;lia),vN (fun y g z j=>by obtain rfl:=List.mem_singleton.mp j;exact e ia _ y f d (List.mem_of_mem_drop g))];have l:(b.extract ib b.size).toList=b.toList.drop ib:=by rw[gM,List.take_of_length_le (by simp)]
 have m:(a.extract ia a.size).toList=[a[ia]'(by lia)]:=by rw[gM,jG c,show a.size - ia=1 by lia];rfl
 simp only[Array.toList_append,l,m,List.append_assoc]
structure Sm (st st':SortSt):Prop where
 kind:kindOf st' = kindOf st
 arr:arrOf st' = arrOf st
 pend:pendingOf st' = pendingOf st
 failed:failedOf st' = failedOf st
theorem Sm.refl{st}:Sm st st:=⟨rfl,rfl,rfl,rfl⟩
theorem Sm.mg{st }(h:Sm st a)(g):Sm st (SortSt.mk' (kindOf a) (arrOf a) (pendingOf a) g (failedOf a)):=⟨h.kind,h.arr,h.pend,h.failed⟩
section
variable{prog:Program}{w:World}{A:Around}{E:Value->Shared->Prop}{s:Shared}{le:Keyed->Keyed->Bool}{κ:SortKind}{S:Keyed->Prop}{a b:Array Keyed}{st0:SortSt}
structure MH (le:Keyed->Keyed->Bool) (S:Keyed->Prop) (a b:Array Keyed):Prop where
 tr:∀x y z,le x y=true->le y z=true->le x z=true
 sa:∀(i j:Nat) (x y:Keyed),i<=j->a[i]? = some x->a[j]? = some y->le x y=true
 sb:∀(i j:Nat) (x y:Keyed),i<=j->b[i]? = some x->b[j]? = some y->le x y=true
 Sa:∀(i:Nat) (x:Keyed),a[i]? = some x->S x
 Sb:∀(i:Nat) (x:Keyed),b[i]? = some x->S x
 a0:0<a.size
 b0:0<b.size
 first:∀x y:Keyed,a[0]? = some x->b[0]? = some y->le x y=false
 last:∀(i:Nat) (x y:Keyed),i+1=a.size->a[i]? = some x->y∈b.toList->le x y=false
theorem at_{α:Type}{c:Array α}(h:i<c.size):∃x,c[i]? = some x:=⟨c[i],Array.getElem?_eq_getElem h⟩
def Gd(le:Keyed->Keyed->Bool)(a b o:Array Keyed)(c d:Nat):Prop:=JJ le a b o c d/\c+1<a.size/\d<b.size
def GR(le:Keyed->Keyed->Bool)(a b:Array Keyed)(m:Nat):ForInStep ig->Prop
 |.done (some r,_)=>r.toList=List.merge a.toList b.toList le
 |.done (none,o,c,d,_)=>Gd le a b o c d/\m<=c+d
 |.yield (none,o,c,d,_)=>Gd le a b o c d/\m<=c+d
 |.yield (some _,_)=>False
variable(M:MH le S a b)
include M
theorem AW{st}(h:JJ le a b o c d)(p:c+1<a.size)(n:d<b.size)(q:m<=c+d)
  (j:a[c]? = some x) (l:b[d]? = some y) (e:le x y=true) (f:∀r,GR le a b m r->Q r st):wpS (model prog w) A E s (oM a b mg ac k o c d) Q st:=by
 unfold oM;refine aL (dF j ?_);have h1:=h.pa j l e
 by_cases i:c+1+1=a.size
 .rw[if_pos (by simpa using i)];exact bd (f _ (h1.la M.last i))
 .rw[if_neg (by simpa using i)];have g:Gd le a b (o.push x) (c+1) d/\m<=c+1+d:=⟨⟨h1,by lia,n⟩,by lia⟩
  split
  .exact bd (f _ g)
  .exact bd (f _ g)
theorem AY(H:dP prog w A E s le κ S){st}(J:kindOf st=κ)(h:JJ le a b o l d)(t:l+1<a.size)(O:d<b.size)(N:m<=l+d)
  (g:a[l]? = some x) (B:b[d]? = some y) (e:le x y=false) (n:∀r,GR le a b m r->Q r st):wpS (model prog w) A E s (oN a b mg ac I o l d) Q st:=by
 unfold oN;refine aL (dF B ?_);have h1:=h.pb g B e
 by_cases C:d+1=b.size
 .rw[if_pos (by simpa using C)];exact bd (n _ (h1.dn (by lia)))
 .rw[if_neg (by simpa using C)];refine aL (dF g (aL (mR H M.tr J (M.Sa _ _ g) M.Sb (by lia) (fun i j u v _ p _=>M.sb i j u v p) (fun k fc g1 g2=>?_) (by lia))));dsimp only;have h2:=h1.gb (k:=k) g fun i L z f=>by have:=g1 i L z f;simpa[dQ] using this
  have h3:∀z:Keyed,k<b.size - (d+1)->b[d+1+k]? = some z->le x z=true:=fun z q f=>by have:=g2 k (bb _) q z f;simpa[dQ] using this
  by_cases D:k>0
  .rw[if_pos D]
   by_cases G:d+1+k=b.size
   .rw[if_pos (by simpa using G)];exact bd (n _ (h2.dn (by lia)))
   .rw[if_neg (by simpa using G)];obtain⟨z,f⟩:=at_ (c:=b) (i:=d+1+k) (by lia);exact AW M h2 t (by lia) (by lia) g f (h3 z (by lia) f) n
  .rw[if_neg D];have:k=0:=by lia
   subst this;obtain⟨z,f⟩:=at_ (c:=b) (i:=d+1) (by lia);exact AW M h1 t (by lia) (by lia) g f (h3 z (by lia) f) n
theorem AZ(x:dP prog w A E s le κ S){st}(J:Sm st0 st)(L:kindOf st0=κ)(h:JJ le a b o d t)(N:d+1<a.size)(G:t<b.size)(O:m<=d+t)
  (B:∀r n,Sm st0 n->GR le a b m r->Q r n):wpS (model prog w) A E s (oO a b ac I o d t mg) Q st:=by
 unfold oO;rw[rc];obtain⟨y,l⟩:=at_ G;refine aL (wpS_modify (aL (dF l ?_)));have f:=J.mg mg;generalize SortSt.mk' (kindOf st) (arrOf st) (pendingOf st) mg (failedOf st)=C at f ⊢;have fc:kindOf C=κ:=f.kind.trans L;refine aL (mR x M.tr fc (M.Sb _ _ l) M.Sa (by lia) (fun i j u v _ D _=>M.sa i j u v D) (fun k ox g1 g2=>?_) (by lia));dsimp only;have h2:=h.ga (k:=k) l fun i R z e=>by have:=g1 i R z e;simpa[dQ] using this
 have h3:∀z:Keyed,k<a.size - d->a[d+k]? = some z->le z y=false:=fun z q e=>by have:=g2 k (bb _) q z e;simpa[dQ] using this
 have T:d+k<a.size:=by
  rcases Nat.lt_or_ge (d+k) a.size with q |q
  .exact q
  .obtain⟨z,e⟩:=at_ (c:=a) (i:=a.size - 1) (by lia);have U:=M.last (a.size - 1) z y (by lia) e (by rw[cP]at l;exact List.mem_of_getElem? l);have p:=g1 (a.size - 1 - d) (by lia) z (by rw[show d+(a.size - 1 - d)=a.size - 1 by lia];exact e);simp[dQ,U]at p
 by_cases H:k>0
 .rw[if_pos H]
  by_cases p:d+k+1=a.size
  .rw[if_pos (by simpa using p)];exact bd (B _ _ f (h2.la M.last p))
  .rw[if_neg (by simpa using p),if_neg (by simp;lia)];obtain⟨z,e⟩:=at_ (c:=a) (i:=d+k) (by lia);exact AY M x fc h2 (by lia) G (by lia) e l (h3 z (by lia) e) fun r g=>B r _ f g
 .rw[if_neg H];have:k=0:=by lia
  subst this;obtain⟨z,e⟩:=at_ (c:=a) (i:=d) (by lia);exact AY M x fc h N G O e l (h3 z (by lia) e) fun r g=>B r _ f g
theorem Pq(f:dP prog w A E s le κ S){st}(g:Sm st0 st)(i:kindOf st0=κ)(h:Gd le a b o d e/\m<=d+e)
  (j:∀r c,Sm st0 c->GR le a b m r->Q r c):wpS (model prog w) A E s (re a b (none,o,d,e,mg,ac,k)) Q st:=by
 unfold re;dsimp only;split
 .exact AZ M f g i h.1.1 h.1.2.1 h.1.2.2 h.2 j
 .exact AZ M f g i h.1.1 h.1.2.1 h.1.2.2 h.2 j
def FR(le:Keyed->Keyed->Bool)(a b:Array Keyed)(m:Nat):oK->Prop
 |(some r,_)=>r.toList=List.merge a.toList b.toList le
 |(none,o,c,d,_)=>Gd le a b o c d/\m<=c+d
theorem Pr(u:dP prog w A E s le κ S){st}(z:kindOf st=κ)(h:Gd le a b o j l)(B:m<=j+l+1)
  (hd:∀c,FR le a b m c->Q (.done c) st) (q:∀r d f n p,Gd le a b r d f->m<=d+f->Q (.yield (none,r,d,f,n,p)) st):wpS (model prog w) A E s (rf a b mg (none,o,j,l,ac,v)) Q st:=by
 unfold rf;dsimp only;obtain⟨h,t,hb⟩:=h;obtain⟨y,k⟩:=at_ hb;obtain⟨x,ex⟩:=at_ (c:=a) (i:=j) (by lia);refine aL (dF k (aL (dF ex (aL (u y x (M.Sb _ _ k) (M.Sa _ _ ex) _ st z ?_)))));dsimp only;cases e:le x y with
 |false=>
  simp only[Bool.not_false,if_true];have h1:=h.pb ex k e;refine aL (dF k ?_)
  by_cases g:l+1=b.size
  .rw[if_pos (by simpa using g)];exact bd (hd _ (h1.dn (by lia)))
  .rw[if_neg (by simpa using g)];split
   .exact bd (hd _ ⟨⟨h1,t,by lia⟩,by lia⟩)
   .exact bd (q _ _ _ _ _ ⟨h1,t,by lia⟩ (by lia))
 |true=>
  simp only[Bool.not_true,Bool.false_eq_true,if_false];have h1:=h.pa ex k e;refine aL (dF ex ?_)
  by_cases g:j+1+1=a.size
  .rw[if_pos (by simpa using g)];exact bd (hd _ (h1.la M.last g))
  .rw[if_neg (by simpa using g)];split
   .exact bd (hd _ ⟨⟨h1,by lia,hb⟩,by lia⟩)
   .exact bd (q _ _ _ _ _ ⟨h1,by lia,hb⟩ (by lia))
theorem Ps(C:dP prog w A E s le κ S){st}(v:Sm st0 st)(D:kindOf st0=κ)(h:Gd le a b o e f)(N:m<=e+f)
  (hd:∀r c d,Sm st0 d->r.toList=List.merge a.toList b.toList le->Q (.done (some r,c)) d) (H:∀u k l y d,Sm st0 d->Gd le a b u k l->m+1<=k+l->Q (.yield (none,u,k,l,y)) d) :
  wpS (model prog w) A E s (rh a b (none,o,e,f,mg)) Q st:=by
 unfold rh;dsimp only;have fc:kindOf st=κ:=v.kind.trans D;refine aL (wpS_mono (wpS_forRange (I:=fun x c d=>d = st/\∃o e f ac j,c=(none,o,e,f,ac,j)/\Gd le a b o e f/\m+x<=e+f)
  (Q:=fun c d=>d = st/\FR le a b (m+1) c) ?_ ?_ ⟨rfl,o,e,f,0,0,rfl,h,by lia⟩) ?_)
 .rintro x c d _ J ⟨rfl,o,e,f,ac,j,rfl,g,q⟩;refine Pr M C (m:=m+x+1) fc g (by lia) (fun c n=>⟨rfl,?_⟩) (fun u k l z B L O=>⟨rfl,u,k,l,z,B,rfl,L,by lia⟩);obtain⟨_ |r,c⟩:=c
  .exact⟨n.1,by have:=n.2;lia⟩
  .exact n
 .rintro c d ⟨rfl,o,e,f,ac,j,rfl,g,q⟩;have:=g.2;lia
 .rintro⟨_ |r,c⟩ d ⟨rfl,n⟩
  .obtain⟨o,e,f,ac,j⟩:=c;dsimp only;refine aL (wpS_lift (wpAny_rule ⟨rfl,?_⟩));refine aL (wpS_mono (wpS_forRange (I:=fun _ c d=>Sm st0 d/\∃o e f mg ac j,c=(none,o,e,f,mg,ac,j)/\Gd le a b o e f/\m+1<=e+f)
    (Q:=fun c d=>Sm st0 d/\GR le a b (m+1) (.done c)) ?_ ?_ ⟨v,o,e,f,_,ac,j,rfl,n⟩) ?_)
   .rintro x c d _ J ⟨i,o,e,f,mg,ac,j,rfl,g⟩;refine Pq M C i D g fun r G p t=>?_
    match r,t with
    |.done c,t=>exact⟨p,t⟩
    |.yield (none,o,e,f,mg,ac,j),t=>exact⟨p,o,e,f,mg,ac,j,rfl,t⟩
    |.yield (some _,_),t=>exact t.elim
   .rintro c d ⟨i,o,e,f,mg,ac,j,rfl,g⟩;exact⟨i,g⟩
   .rintro⟨_ |r,c⟩ d ⟨i,n⟩
    .obtain⟨o,e,f,mg,ac,j⟩:=c;dsimp only;rw[rc];exact aL (wpS_modify (bd (H _ _ _ _ _ (i.mg _) n.1 n.2)))
    .exact bd (hd _ _ _ i n)
  .exact bd (hd _ _ _ v n)
theorem Pt(C:dP prog w A E s le κ S)(D:kindOf st0=κ)(h:∀r d,Sm st0 d->r.toList=List.merge a.toList b.toList le->Q r d):wpS (model prog w) A E s (jF a b) Q st0:=by
 rw[Pp];refine aL (wpS_lift (wpAny_rule ⟨rfl,?_⟩));obtain⟨y,m⟩:=at_ M.b0;obtain⟨x,n⟩:=at_ M.a0;refine aL (dF m ?_);have G:JJ le a b #[] 0 0:=by simp[JJ]
 have p:JJ le a b #[y] 0 1:=G.pb n m (M.first x y n m);have b0:=M.b0;have a0:=M.a0
 by_cases B:1=b.size
 .rw[if_pos (by simpa using B)];exact bd (h _ _ .refl (p.dn (by lia)))
 .rw[if_neg (by simpa using B)]
  by_cases t:0+1=a.size
  .rw[if_pos (by simpa using t)];exact bd (h _ _ .refl (p.la M.last t))
  .rw[if_neg (by simpa using t)];refine aL (wpS_get ?_);refine aL (wpS_mono (wpS_forRange (I:=fun x c d=>Sm st0 d/\∃o j k mg,c=(none,o,j,k,mg)/\Gd le a b o j k/\x+1<=j+k)
    (Q:=fun c d=>Sm st0 d/\∃r H,c=(some r,H)/\r.toList=List.merge a.toList b.toList le) ?_ ?_ ⟨.refl,#[y],0,1,_,rfl,⟨p,by lia,by lia⟩,by lia⟩) ?_)
   .rintro x c d _ n ⟨i,o,j,k,mg,rfl,g,q⟩;exact Ps M C i D g q (fun r c l f e=>⟨f,r,c,rfl,e⟩) fun J u v z l f L N=>⟨f,J,u,v,z,rfl,L,N⟩
   .rintro c d ⟨i,o,j,k,mg,rfl,g,q⟩;have:=g.2;lia
   .rintro c d ⟨i,r,c,rfl,e⟩;exact bd (h _ _ i e)
end
noncomputable def jH:Array Keyed->Array Keyed->StateT SortSt Sem (Array Keyed):=sortPriv% PySem.Builtin.mergeHi
noncomputable def dh(a b o:Array Keyed)(c d:Nat):Array Keyed:=a.extract 0 c++b.extract 0 d++o.reverse
noncomputable def fh(a b o:Array Keyed)(c d:Nat):Array Keyed:=b.extract 0 d++a.extract 0 c++o.reverse
abbrev ij:=Option (Array Keyed)×Nat×Nat×Array Keyed×Nat×Nat×Nat
abbrev oQ:=Option (Array Keyed)×Nat×Nat×Array Keyed×Nat×Nat
abbrev ri:=Option (Array Keyed)×Nat×Nat×Array Keyed×Nat
def oR(a b:Array Keyed)(mg ac d:Nat)(c:Nat)(e:Nat)(o:Array Keyed):StateT SortSt Sem (ForInStep ij):=do
 let x <-elem' a (c - 1)
 if c - 1==0 then pure (.done (some (dh a b (o.push x) (c - 1) e),c - 1,e,o.push x,mg,ac,d))
 else if ac<7&&d<7 then pure (.done (none,c - 1,e,o.push x,mg,ac,d)) else pure (.yield (none,c - 1,e,o.push x,mg,ac,d))
def oS(a b:Array Keyed)(mg ac e:Nat)(c d:Nat)(o:Array Keyed):StateT SortSt Sem (ForInStep ij):=do
 let y <-elem' b (c - 1)
 if c - 1==1 then pure (.done (some (fh a b (o.push y) d (c - 1)),d,c - 1,o.push y,mg,ac,e))
 else
  let x <-elem' a (d - 1)
  match <-cV true x b 0 (c - 1) (c - 1 - 1) with
  |some p=>
   if c - 1 - p>0 then
    if p==1 then pure (.done (some (fh a b (o.push y++(b.extract p (c - 1)).reverse) d p),d,p,o.push y++(b.extract p (c - 1)).reverse,mg,ac,c - 1 - p))
    else if p==0 then pure (.done (some (dh a b (o.push y++(b.extract p (c - 1)).reverse) d p),d,p,o.push y++(b.extract p (c - 1)).reverse,mg,ac,c - 1 - p))
    else oR a b mg ac (c - 1 - p) d p (o.push y++(b.extract p (c - 1)).reverse)
   else oR a b mg ac (c - 1 - p) d (c - 1) (o.push y)
  |_=>pure (.done (some (dh a b (o.push y) d (c - 1)),d,c - 1,o.push y,mg,ac,e))
def oU(a b:Array Keyed)(ac e:Nat)(c d:Nat)(o:Array Keyed)(mg:Nat):StateT SortSt Sem (ForInStep ij):=do
 el mg
 let y <-elem' b (d - 1)
 match <-cV false y a 0 c (c - 1) with
 |some p=>
  if c - p>0 then
   if p==0 then pure (.done (some (dh a b (o++(a.extract p c).reverse) p d),p,d,o++(a.extract p c).reverse,mg,c - p,e))
   else oS a b mg (c - p) e d p (o++(a.extract p c).reverse)
  else oS a b mg (c - p) e d c o
 |_=>pure (.done (some (dh a b o c d),c,d,o,mg,ac,e))
def rm(a b:Array Keyed)(c:ij):StateT SortSt Sem (ForInStep ij):=
 if c.2.2.2.2.1>1 then oU a b c.2.2.2.2.2.1 c.2.2.2.2.2.2 c.2.1 c.2.2.1 c.2.2.2.1 (c.2.2.2.2.1 - 1) else oU a b c.2.2.2.2.2.1 c.2.2.2.2.2.2 c.2.1 c.2.2.1 c.2.2.2.1 c.2.2.2.2.1
def rn(a b:Array Keyed)(mg:Nat)(c:oQ):StateT SortSt Sem (ForInStep oQ):=do
 let y <-elem' b (c.2.2.1 - 1);let x <-elem' a (c.2.1 - 1)
 match <-lt' y x with
 |some d=>
  if d then do
   let x <-elem' a (c.2.1 - 1)
   if c.2.1 - 1==0 then pure (.done (some (dh a b (c.2.2.2.1.push x) (c.2.1 - 1) c.2.2.1),c.2.1 - 1,c.2.2.1,c.2.2.2.1.push x,c.2.2.2.2.1+1,0))
   else if c.2.2.2.2.1+1≥mg then pure (.done (none,c.2.1 - 1,c.2.2.1,c.2.2.2.1.push x,c.2.2.2.2.1+1,0)) else pure (.yield (none,c.2.1 - 1,c.2.2.1,c.2.2.2.1.push x,c.2.2.2.2.1+1,0))
  else do
   let y <-elem' b (c.2.2.1 - 1)
   if c.2.2.1 - 1==1 then pure (.done (some (fh a b (c.2.2.2.1.push y) c.2.1 (c.2.2.1 - 1)),c.2.1,c.2.2.1 - 1,c.2.2.2.1.push y,0,c.2.2.2.2.2+1))
   else if c.2.2.2.2.2+1≥mg then pure (.done (none,c.2.1,c.2.2.1 - 1,c.2.2.2.1.push y,0,c.2.2.2.2.2+1)) else pure (.yield (none,c.2.1,c.2.2.1 - 1,c.2.2.2.1.push y,0,c.2.2.2.2.2+1))
 |_=>pure (.done (some (dh a b c.2.2.2.1 c.2.1 c.2.2.1),c.2.1,c.2.2.1,c.2.2.2.1,c.2.2.2.2.1,c.2.2.2.2.2))
def rq(a b:Array Keyed)(c:ri):StateT SortSt Sem (ForInStep ri):=do
 let d <-forIn [:a.size+b.size] ((none,c.2.1,c.2.2.1,c.2.2.2.1,0,0):oQ) fun _ d=>rn a b c.2.2.2.2 d
 match d.1 with
 |some r=>pure (.done (some r,d.2.1,d.2.2.1,d.2.2.2.1,c.2.2.2.2))
 |none=>
  rule "list.sort.gallop"
  let e <-forIn [:a.size+b.size] ((none,d.2.1,d.2.2.1,d.2.2.2.1,c.2.2.2.2+1,d.2.2.2.2.1,d.2.2.2.2.2):ij) fun _ e=>rm a b e
  match e.1 with
  |some r=>pure (.done (some r,e.2.1,e.2.2.1,e.2.2.2.1,e.2.2.2.2.1))
  |none=>
   el (e.2.2.2.2.1+1)
   pure (.yield (none,e.2.1,e.2.2.1,e.2.2.2.1,e.2.2.2.2.1+1))
theorem Pu(a b):jH a b=(do
 rule "list.sort.merge-hi"
 let tt:=a.size+b.size;let dn (o:Array Keyed) (na nb:Nat):=a.extract 0 na++b.extract 0 nb++o.reverse;let la (o:Array Keyed) (na nb:Nat):=b.extract 0 nb++a.extract 0 na++o.reverse;let mut na:=a.size - 1;let mut nb:=b.size;let mut o:Array Keyed:=#[<-elem' a na]
 if na==0 then return dn o na nb
 if nb==1 then return la o na nb
 let mut mg:=gallopOf (<-get)
 for _ in [0:tt] do
  let mut ac:=0;let mut bc:=0
  for _ in [0:tt] do
   let some aw <-lt' (<-elem' b (nb - 1)) (<-elem' a (na - 1)) |return dn o na nb
   if aw then
    na:=na - 1;o:=o.push (<-elem' a na);ac:=ac+1;bc:=0
    if na==0 then return dn o na nb
    if ac≥mg then break
   else
    nb:=nb - 1;o:=o.push (<-elem' b nb);bc:=bc+1;ac:=0
    if nb==1 then return la o na nb
    if bc≥mg then break
  rule "list.sort.gallop"
  mg:=mg+1
  for _ in [0:tt] do
   if mg>1 then mg:=mg - 1
   el mg
   let some p <-cV false (<-elem' b (nb - 1)) a 0 na (na - 1) |return dn o na nb
   let k:=na - p
   ac:=k
   if k>0 then
    o:=o++(a.extract p na).reverse;na:=p
    if na==0 then return dn o na nb
   nb:=nb - 1;o:=o.push (<-elem' b nb)
   if nb==1 then return la o na nb
   let some p <-cV true (<-elem' a (na - 1)) b 0 nb (nb - 1) |return dn o na nb
   let k:=nb - p
   bc:=k
   if k>0 then
    o:=o++(b.extract p nb).reverse;nb:=p
    if nb==1 then return la o na nb
    if nb==0 then return dn o na nb
   na:=na - 1;o:=o.push (<-elem' a na)
   if na==0 then return dn o na nb
   if ac<7&&bc<7 then break
  mg:=mg+1
  el mg
 unsupported "internal:list.sort.merge-bound"):=rfl
theorem Pw(a b):jH a b=(do
 rule "list.sort.merge-hi"
 let x <-elem' a (a.size - 1)
 if a.size - 1==0 then return dh a b #[x] (a.size - 1) b.size
 if b.size==1 then return fh a b #[x] (a.size - 1) b.size
 let g <-get;let c <-forIn [:a.size+b.size] ((none,a.size - 1,b.size,#[x],gallopOf g):ri) fun _ c=>rq a b c
 match c.1 with
 |some r=>pure r
 |none=>unsupported "internal:list.sort.merge-bound"):=by
 rw[Pu];refine bL fun _=>?_;dsimp only;refine bL fun y=>?_;unfold dh fh;refine congrArg _ (congrArg _ (bL fun g=>?_));refine fb (fun _ c=>?_) fun c=>?_
 .unfold rq;refine fb (fun _ d=>?_) fun d=>?_
  .unfold rn dh fh;refine bL fun _=>bL fun _=>bL fun q=>?_;cases q<;>rfl
  .obtain⟨r,d⟩:=d;cases r with
   |some r=>rfl
   |none=>
    dsimp only;refine bL fun _=>fb (fun _ e=>?_) fun e=>?_
    .unfold rm oU dh;refine fW ?_ ?_ <;>
     .refine bL fun _=>bL fun _=>bL fun q=>?_;cases q with
      |none=>rfl
      |some k=>
       refine fW (fW rfl ?_) ?_ <;>
       .unfold oS oR dh fh;refine bL fun _=>fW rfl (bL fun _=>bL fun q=>?_);cases q<;>rfl
    .obtain⟨r,e⟩:=e;cases r<;>rfl
 .obtain⟨r,c⟩:=c;cases r<;>rfl
def HH(le:Keyed->Keyed->Bool)(a b:Array Keyed)(o:Array Keyed)(c d:Nat):Prop:=List.merge (a.toList.take c) (b.toList.take d) le++o.toList.reverse=List.merge a.toList b.toList le
theorem Px{α:Type}{l:List α}{x}(h:l[i]? = some x):l.take (i+1)=l.take i++[x]:=by obtain⟨a,h2⟩:=List.getElem?_eq_some_iff.mp h;rw[List.take_succ,List.getElem?_eq_getElem a,h2];rfl
theorem take_take{α:Type}(l:List α)(h:p<=n):l.take n=l.take p++(l.drop p).take (n - p):=by have:l.take n=(l.take n).take p++(l.take n).drop p:=(List.take_append_drop p (l.take n)).symm;rw[List.take_take,Nat.min_eq_left h,List.drop_take]at this;exact this
theorem mS{l:List Keyed}(h:x∈l.take n):∃j,j<n/\l[j]? = some x:=by have:=oP (l:=l) (i:=0) (k:=n) (x:=x) (by simpa using h);simpa using this
theorem HH.ga(M:MH le S a b)(h:HH le a b o na (nb+1))(d:p<=na)(f:b[nb]? = some y)(e:∀i,p<=i->i<na->∀x,a[i]? = some x->le x y=false):HH le a b (o++(a.extract p na).reverse) p (nb+1):=by
 unfold HH at h ⊢;rw[take_take a.toList d,vO _ _ (fun z g x k=>?_)]at h
 .rw[<-h];simp[gM]
 .obtain⟨j,n,q⟩:=oP k;obtain⟨i,s,r⟩:=mS g;have c:=e (p+j) (by lia) (by lia) x (by rw[cP];exact q);have l:=M.sb i nb z y (by lia) (by rw[cP];exact r) f;cases m:le x z with
  |false=>rfl
  |true=>rw[M.tr _ _ _ m l]at c;cases c
theorem HH.gb(M:MH le S a b)(h:HH le a b o (na+1) nb)(c:p<=nb)(d:a[na]? = some x)(e:∀i,p<=i->i<nb->∀y,b[i]? = some y->le x y=true):HH le a b (o++(b.extract p nb).reverse) (na+1) p:=by
 unfold HH at h ⊢;rw[take_take b.toList c,qZ _ _ (fun z f y g=>?_)]at h
 .rw[<-h];simp[gM]
 .obtain⟨j,m,q⟩:=oP g;obtain⟨i,n,r⟩:=mS f;have k:=e (p+j) (by lia) (by lia) y (by rw[cP];exact q);have l:=M.sa i na z x (by lia) (by rw[cP];exact r) d;exact M.tr _ _ _ l k
theorem Ba{α:Type}{a:Array α}{x}(h:a[i]? = some x)(o):o++(a.extract i (i+1)).reverse=o.push x:=by apply Array.toList_inj.mp;rw[cP]at h;simp only[Array.toList_append,Array.toList_reverse,gM,Nat.add_sub_cancel_left,jG h,Array.toList_push];rfl
theorem HH.pa(M:MH le S a b)(h:HH le a b o (na+1) (nb+1))(c:a[na]? = some x)(f:b[nb]? = some y)(e:le x y=false):HH le a b (o.push x) na (nb+1):=by
 have g:∀(i:Nat),na<=i->i<na+1->∀z,a[i]? = some z->le z y=false:=fun i j k z d=>by
  obtain rfl:i=na:=by lia
  rw[c]at d;cases d;exact e
 have:=h.ga M (p:=na) (by lia) f g
 rwa [Ba c]at this
theorem HH.pb(M:MH le S a b)(h:HH le a b o (na+1) (nb+1))(f:a[na]? = some x)(c:b[nb]? = some y)(e:le x y=true):HH le a b (o.push y) (na+1) nb:=by
 have g:∀(i:Nat),nb<=i->i<nb+1->∀z,b[i]? = some z->le x z=true:=fun i j k z d=>by
  obtain rfl:i=nb:=by lia
  rw[c]at d;cases d;exact e
 have:=h.gb M (p:=nb) (by lia) f g
 rwa [Ba c]at this
theorem oV{α:Type}(a:Array α)(n):(a.extract 0 n).toList=a.toList.take n:=by rw[gM];simp
theorem HH.dh(h:HH le a b o 0 nb):(dh a b o 0 nb).toList=List.merge a.toList b.toList le:=by unfold HH at h;unfold TS.dh;rw[<-h];simp only[Array.toList_append,oV,Array.toList_reverse,List.take_zero,List.nil_append,List.nil_merge]
theorem HH.fh(M:MH le S a b)(h:HH le a b o na 1):(fh a b o na 1).toList=List.merge a.toList b.toList le:=by
 unfold HH at h;unfold TS.fh;rw[<-h,vN (fun y f x g=>?_)]
 .simp only[Array.toList_append,oV,Array.toList_reverse]
 .obtain⟨j,m,q⟩:=mS g;obtain⟨i,n,r⟩:=mS f;obtain rfl:i=0:=by lia
  obtain⟨d,c⟩:=at_ M.a0;have e:=M.first d y c (by rw[cP];exact r)
  have k:=M.sa 0 j d x (by lia) c (by rw[cP];exact q);cases l:le x y with
  |false=>rfl
  |true=>rw[M.tr _ _ _ k l]at e;cases e
section
variable{prog:Program}{w:World}{A:Around}{E:Value->Shared->Prop}{s:Shared}{le:Keyed->Keyed->Bool}{κ:SortKind}{S:Keyed->Prop}{a b:Array Keyed}{st0:SortSt}
def Hd(le:Keyed->Keyed->Bool)(a b o:Array Keyed)(c d:Nat):Prop:=HH le a b o c d/\0<c/\c<=a.size/\1<d/\d<=b.size
def HR(le:Keyed->Keyed->Bool)(a b:Array Keyed)(m:Nat):ForInStep ij->Prop
 |.done (some r,_)=>r.toList=List.merge a.toList b.toList le
 |.done (none,c,nb,o,_)=>Hd le a b o c nb/\c+nb<=m
 |.yield (none,c,nb,o,_)=>Hd le a b o c nb/\c+nb<=m
 |.yield (some _,_)=>False
variable(M:MH le S a b)
include M
theorem Bb{st}(h:HH le a b o (c+1) (d+1))(p:c+1<=a.size)(l:0<d)(t:d+1<=b.size)(q:c+1+(d+1)<=m)
  (i:a[c]? = some x) (n:b[d]? = some y) (e:le x y=false) (f:∀r,HR le a b m r->Q r st):wpS (model prog w) A E s (oR a b mg ac k (c+1) (d+1) o) Q st:=by
 unfold oR;simp only[Nat.add_sub_cancel];refine aL (dF i ?_);have h1:=h.pa M i n e
 by_cases j:c=0
 .subst j;rw[if_pos (by rfl)];exact bd (f _ h1.dh)
 .rw[if_neg (by simpa using j)];have g:Hd le a b (o.push x) c (d+1)/\c+(d+1)<=m:=⟨⟨h1,by lia,by lia,by lia,by lia⟩,by lia⟩
  split
  .exact bd (f _ g)
  .exact bd (f _ g)
theorem Bc(N:dP prog w A E s le κ S){st}(R:kindOf st=κ)(h:HH le a b o (k+1) (d+1))(G:k+1<=a.size)(T:0<d)(hb:d+1<=b.size)(hm:k+1+(d+1)<=m)
  (g:a[k]? = some x) (H:b[d]? = some y) (e:le x y=true) (B:∀r,HR le a b m r->Q r st):wpS (model prog w) A E s (oS a b mg ac O (d+1) (k+1) o) Q st:=by
 unfold oS;simp only[Nat.add_sub_cancel];refine aL (dF H ?_);have h1:=h.pb M g H e
 by_cases I:d=1
 .subst I;rw[if_pos (by rfl)];exact bd (B _ (h1.fh M))
 .rw[if_neg (by simpa using I)];refine aL (dF g (aL (mR N M.tr R (M.Sa _ _ g) M.Sb (by lia) (fun i j u v _ C _=>M.sb i j u v C) (fun p U g1 g2=>?_) (by lia))));simp only[Nat.zero_add]at g1 g2;dsimp only;have h2:=h1.gb M U g fun i X Y z f=>by have:=g2 i X Y z f;simpa[dQ] using this
  have h3:∀(i:Nat) (z:Keyed),i<p->b[i]? = some z->le x z=false:=fun i z q f=>by have:=g1 i q z f;simpa[dQ] using this
  have Z:0<p:=by
   rcases Nat.eq_zero_or_pos p with q |q
   .subst q;obtain⟨J,l⟩:=at_ M.a0;obtain⟨D,n⟩:=at_ M.b0;have t:=M.first J D l n
    have e3:=g2 0 (bb _) (by lia) D n;have e4:le x D=true:=by simpa[dQ] using e3
    have e5:=M.tr _ _ _ (M.sa 0 k J x (by lia) l g) e4;rw[e5]at t;cases t
   .exact q
  obtain⟨q,rfl⟩:∃q,p=q+1:=⟨p - 1,by lia⟩
  obtain⟨z,f⟩:=at_ (c:=b) (i:=q) (by lia)
  by_cases L:d - (q+1)>0
  .rw[if_pos L]
   by_cases t:q+1=1
   .rw[if_pos (by simpa using t)];obtain rfl:q=0:=by lia
    exact bd (B _ (h2.fh M))
   .rw[if_neg (by simpa using t),if_neg (by simp)];exact Bb M h2 G (by lia) (by lia) (by lia) g f (h3 q z (by lia) f) B
  .rw[if_neg L];obtain rfl:d=q+1:=by lia
   exact Bb M h1 G (by lia) (by lia) (by lia) g f (h3 q z (by lia) f) B
theorem Be(t:dP prog w A E s le κ S){st}(I:Sm st0 st)(J:kindOf st0=κ)(h:Hd le a b o f k/\f+k<=m)
  (x:∀r l,Sm st0 l->HR le a b m r->Q r l):wpS (model prog w) A E s (oU a b ac H f k o mg) Q st:=by
 obtain⟨⟨h,L,U,N,hb⟩,X⟩:=h;obtain⟨k,rfl⟩:∃q,k=q+1:=⟨k - 1,by lia⟩
 unfold oU;rw[rc];obtain⟨y,n⟩:=at_ (c:=b) (i:=k) (by lia);refine aL (wpS_modify (aL (dF n ?_)));have d:=I.mg mg;generalize SortSt.mk' (kindOf st) (arrOf st) (pendingOf st) mg (failedOf st)=B at d ⊢;have fc:kindOf B=κ:=d.kind.trans J;refine aL (mR t M.tr fc (M.Sb _ _ n) M.Sa (by lia) (fun i j u v _ C _=>M.sa i j u v C) (fun p O g1 g2=>?_) (by lia));simp only[Nat.zero_add]at g1 g2;dsimp only;have h2:=h.ga M O n fun i R T z e=>by have:=g2 i R T z e;simpa[dQ] using this
 have h3:∀(i:Nat) (z:Keyed),i<p->a[i]? = some z->le z y=true:=fun i z q e=>by have:=g1 i q z e;simpa[dQ] using this
 by_cases D:f - p>0
 .rw[if_pos D]
  by_cases G:p=0
  .subst G;rw[if_pos (by rfl)];exact bd (x _ _ d h2.dh)
  .rw[if_neg (by simpa using G)];obtain⟨q,rfl⟩:∃q,p=q+1:=⟨p - 1,by lia⟩
   obtain⟨z,e⟩:=at_ (c:=a) (i:=q) (by lia);exact Bc M t fc h2 (by lia) (by lia) hb (by lia) e n (h3 q z (by lia) e) fun r g=>x r _ d g
 .rw[if_neg D];obtain rfl:f=p:=by lia
  obtain⟨q,rfl⟩:∃q,f=q+1:=⟨f - 1,by lia⟩
  obtain⟨z,e⟩:=at_ (c:=a) (i:=q) (by lia);exact Bc M t fc h (by lia) (by lia) hb (by lia) e n (h3 q z (by lia) e) fun r g=>x r _ d g
theorem Py(f:dP prog w A E s le κ S){st}(g:Sm st0 st)(i:kindOf st0=κ)(h:Hd le a b o d e/\d+e<=m)
  (j:∀r c,Sm st0 c->HR le a b m r->Q r c):wpS (model prog w) A E s (rm a b (none,d,e,o,mg,ac,k)) Q st:=by
 unfold rm;dsimp only;split
 .exact Be M f g i h j
 .exact Be M f g i h j
def Bf(le:Keyed->Keyed->Bool)(a b:Array Keyed)(m:Nat):oQ->Prop
 |(some r,_)=>r.toList=List.merge a.toList b.toList le
 |(none,c,nb,o,_)=>Hd le a b o c nb/\c+nb<=m
theorem Pz(u:dP prog w A E s le κ S){st}(z:kindOf st=κ)(h:Hd le a b o d f)(D:d+f<=m+1)
  (hd:∀c,Bf le a b m c->Q (.done c) st) (r:∀t g j n p,Hd le a b t g j->g+j<=m->Q (.yield (none,g,j,t,n,p)) st):wpS (model prog w) A E s (rn a b mg (none,d,f,o,ac,v)) Q st:=by
 unfold rn;obtain⟨h,B,G,C,hb⟩:=h;obtain⟨f,rfl⟩:∃q,f=q+1:=⟨f - 1,by lia⟩
 obtain⟨d,rfl⟩:∃q,d=q+1:=⟨d - 1,by lia⟩
 simp only[Nat.add_sub_cancel];obtain⟨y,k⟩:=at_ (c:=b) (i:=f) (by lia);obtain⟨x,ex⟩:=at_ (c:=a) (i:=d) (by lia);refine aL (dF k (aL (dF ex (aL (u y x (M.Sb _ _ k) (M.Sa _ _ ex) _ st z ?_)))));dsimp only;cases e:le x y with
 |false=>
  simp only[Bool.not_false,if_true];have h1:=h.pa M ex k e;refine aL (dF ex ?_)
  by_cases l:d=0
  .subst l;rw[if_pos (by rfl)];exact bd (hd _ h1.dh)
  .rw[if_neg (by simpa using l)];split
   .exact bd (hd _ ⟨⟨h1,by lia,by lia,by lia,by lia⟩,by lia⟩)
   .exact bd (r _ _ _ _ _ ⟨h1,by lia,by lia,by lia,by lia⟩ (by lia))
 |true=>
  simp only[Bool.not_true,Bool.false_eq_true,if_false];have h1:=h.pb M ex k e;refine aL (dF k ?_)
  by_cases l:f=1
  .subst l;rw[if_pos (by rfl)];exact bd (hd _ (h1.fh M))
  .rw[if_neg (by simpa using l)];split
   .exact bd (hd _ ⟨⟨h1,by lia,by lia,by lia,by lia⟩,by lia⟩)
   .exact bd (r _ _ _ _ _ ⟨h1,by lia,by lia,by lia,by lia⟩ (by lia))
theorem PB(G:dP prog w A E s le κ S){st}(v:Sm st0 st)(H:kindOf st0=κ)(h:Hd le a b o e f)(T:e+f<=m)
  (hd:∀r c d,Sm st0 d->r.toList=List.merge a.toList b.toList le->Q (.done (some r,c)) d) (N:∀u n p y d,Sm st0 d->Hd le a b u n p->n+p+1<=m->Q (.yield (none,n,p,u,y)) d) :
  wpS (model prog w) A E s (rq a b (none,e,f,o,mg)) Q st:=by
 unfold rq;dsimp only;have fc:kindOf st=κ:=v.kind.trans H;have b0:=M.b0;have O:1<=m:=by have:=h.2.1;lia
 refine aL (wpS_mono (wpS_forRange (I:=fun x c d=>d = st/\∃o e f ac j,c=(none,e,f,o,ac,j)/\Hd le a b o e f/\e+f+x<=m)
  (Q:=fun c d=>d = st/\Bf le a b (m - 1) c) ?_ ?_ ⟨rfl,o,e,f,0,0,rfl,h,by lia⟩) ?_)
 .rintro x c d _ R ⟨rfl,o,e,f,ac,j,rfl,g,q⟩;have U:=g.2;refine Pz M G (m:=m - x - 1) fc g (by lia) (fun c k=>⟨rfl,?_⟩) (fun u z B C D J X=>⟨rfl,u,z,B,C,D,rfl,J,by have:=J.2;lia⟩);obtain⟨_ |r,c⟩:=c
  .exact⟨k.1,by have:=k.2;lia⟩
  .exact k
 .rintro c d ⟨rfl,o,e,f,ac,j,rfl,g,q⟩;exact⟨rfl,g,by lia⟩
 .rintro⟨_ |r,c⟩ d ⟨rfl,k⟩
  .obtain⟨e,f,o,ac,j⟩:=c;dsimp only;refine aL (wpS_lift (wpAny_rule ⟨rfl,?_⟩));refine aL (wpS_mono (wpS_forRange (I:=fun _ c d=>Sm st0 d/\∃o e f mg ac j,c=(none,e,f,o,mg,ac,j)/\Hd le a b o e f/\e+f<=m - 1)
    (Q:=fun c d=>Sm st0 d/\HR le a b (m - 1) (.done c)) ?_ ?_ ⟨v,o,e,f,_,ac,j,rfl,k⟩) ?_)
   .rintro x c d _ R ⟨i,o,e,f,mg,ac,j,rfl,g⟩;refine Py M G i H g fun r L l t=>?_
    match r,t with
    |.done c,t=>exact⟨l,t⟩
    |.yield (none,e,f,o,mg,ac,j),t=>exact⟨l,o,e,f,mg,ac,j,rfl,t⟩
    |.yield (some _,_),t=>exact t.elim
   .rintro c d ⟨i,o,e,f,mg,ac,j,rfl,g⟩;exact⟨i,g⟩
   .rintro⟨_ |r,c⟩ d ⟨i,k⟩
    .obtain⟨e,f,o,mg,ac,j⟩:=c;dsimp only;rw[rc];exact aL (wpS_modify (bd (N _ _ _ _ _ (i.mg _) k.1 (by have:=k.2;lia))))
    .exact bd (hd _ _ _ i k)
  .exact bd (hd _ _ _ v k)
theorem PC(N:dP prog w A E s le κ S)(O:kindOf st0=κ)(h:∀r d,Sm st0 d->r.toList=List.merge a.toList b.toList le->Q r d):wpS (model prog w) A E s (jH a b) Q st0:=by
 rw[Pw];refine aL (wpS_lift (wpAny_rule ⟨rfl,?_⟩));have b0:=M.b0;have a0:=M.a0;obtain⟨k,v⟩:∃k,a.size=k+1:=⟨a.size - 1,by lia⟩
 obtain⟨l,z⟩:∃l,b.size=l+1:=⟨b.size - 1,by lia⟩
 obtain⟨x,u⟩:=at_ (c:=a) (i:=k) (by lia);obtain⟨y,B⟩:=at_ (c:=b) (i:=l) (by lia);rw[v,z];simp only[Nat.add_sub_cancel];refine aL (dF u ?_);have R:HH le a b #[] (k+1) (l+1):=by unfold HH;rw[List.take_of_length_le (by simp;lia),List.take_of_length_le (by simp;lia)];simp
 have C:HH le a b #[x] k (l+1):=R.pa M u B (M.last k x y (by lia) u (by rw[cP]at B;exact List.mem_of_getElem? B))
 by_cases J:k=0
 .subst J;rw[if_pos (by rfl)];exact bd (h _ _ .refl C.dh)
 .rw[if_neg (by simpa using J)]
  by_cases L:l=0
  .subst L;rw[if_pos (by rfl)];exact bd (h _ _ .refl (C.fh M))
  .rw[if_neg (by simpa using L)];refine aL (wpS_get ?_);refine aL (wpS_mono (wpS_forRange (I:=fun x c d=>Sm st0 d/\∃o n p mg,c=(none,n,p,o,mg)/\Hd le a b o n p/\n+p+x+1<=a.size+b.size)
    (Q:=fun c d=>Sm st0 d/\∃r T,c=(some r,T)/\r.toList=List.merge a.toList b.toList le) ?_ ?_ ⟨.refl,#[x],k,l+1,_,rfl,⟨C,by lia,by lia,by lia,by lia⟩,by lia⟩) ?_)
   .rintro x c d _ u ⟨j,o,n,p,mg,rfl,g,q⟩;refine PB M N (m:=a.size+b.size - x - 1) j O g (by lia) (fun r c t f e=>⟨f,r,c,rfl,e⟩) fun U D G H t f X Y=>⟨f,U,D,G,H,rfl,X,by lia⟩
   .rintro c d ⟨j,o,n,p,mg,rfl,g,q⟩;have:=g.2;lia
   .rintro c d ⟨j,r,c,rfl,e⟩;exact bd (h _ _ j e)
end
abbrev CA:=Option (Option Nat)×Nat
abbrev CD:=Option (Option Nat)×Nat×Nat
noncomputable def oW(lo a b:Nat):StateT SortSt Sem CA:=forIn [a:b] ((none,a):CA) fun _ c=>do
 let q <-ltAt' (lo+c.2) (lo+c.2 - 1)
 match q with
 |some sm=>if sm=true then pure (.done (none,c.2)) else pure (.yield (none,c.2+1))
 |_=>pure (.done (some none,c.2))
def lC(lo n a:Nat):StateT SortSt Sem (Option Nat):=do
 reverseSlice' lo (lo+n)
 let c <-oW lo n a
 match c.1 with
 |some r=>pure r
 |none=>pure (some c.2)
noncomputable def vP(lo n a:Nat):StateT SortSt Sem CD:=forIn [n:a] ((none,n,0):CD) fun _ c=>do
 let q <-ltAt' (lo+c.2.1) (lo+c.2.1 - 1)
 match q with
 |some sm=>
  if sm=true then
   if c.2.2>0 then do
    reverseSlice' (lo+c.2.1 - (c.2.2+1)) (lo+c.2.1)
    pure (.yield (none,c.2.1+1,0))
   else pure (.yield (none,c.2.1+1,0))
  else do
   let q <-ltAt' (lo+c.2.1 - 1) (lo+c.2.1)
   match q with
   |some b=>if b=true then pure (.done (none,c.2.1,c.2.2)) else pure (.yield (none,c.2.1+1,c.2.2+1))
   |_=>pure (.done (some none,c.2.1,c.2.2))
 |_=>pure (.done (some none,c.2.1,c.2.2))
def mT(lo n a:Nat):StateT SortSt Sem (Option Nat):=do
 liftM (rule "list.sort.descending-run")
 let c <-vP lo (n+1) a
 match c.1 with
 |some r=>pure r
 |none=>
  if c.2.2>0 then do
   reverseSlice' (lo+c.2.1 - (c.2.2+1)) (lo+c.2.1)
   lC lo c.2.1 a
  else lC lo c.2.1 a
theorem PD(lo a):countRun' lo a=(do
  let c <-oW lo 1 a
  match c.1 with
  |some r=>pure r
  |none=>
   if (c.2==a)=true then pure (some c.2)
   else if c.2>1 then do
    let q <-ltAt' lo (lo+c.2 - 1)
    match q with
    |some ro=>if ro=true then pure (some c.2) else do
      reverseSlice' lo (lo+c.2)
      mT lo c.2 a
    |_=>pure none
   else mT lo c.2 a):=by
 rw[countRun'_eq];have f:∀n:Nat,lC lo n a=(do
   reverseSlice' lo (lo+n)
   let c <-oW lo n a
   match c.1 with
   |some r=>pure r
   |none=>pure (some c.2)):=fun _=>rfl
 refine bL fun c=>?_;obtain⟨_ |r,n⟩:=c
 .dsimp only;refine fW rfl (fW (bL fun q=>?_) ?_)
  .cases q with
   |none=>rfl
   |some ro=>
    refine fW rfl (bL fun _=>?_);unfold mT;refine bL fun _=>bL fun d=>?_;obtain⟨_ |r,m,b⟩:=d
    .dsimp only;unfold lC;refine fW (bL fun _=>bL fun _=>bL fun e=>?_) (bL fun _=>bL fun e=>?_)<;>(obtain⟨_ |r,e⟩:=e<;>rfl)
    .rfl
  .unfold mT;refine bL fun _=>bL fun d=>?_;obtain⟨_ |r,m,b⟩:=d
   .dsimp only;unfold lC;refine fW (bL fun _=>bL fun _=>bL fun e=>?_) (bL fun _=>bL fun e=>?_)<;>(obtain⟨_ |r,e⟩:=e<;>rfl)
   .rfl
 .rfl
structure Bs (κ:SortKind) (S:Keyed->Prop) (lo:Nat) (st0 st:SortSt):Prop where
 perm:(arrOf st).Perm (arrOf st0)
 kind:kindOf st=κ
 failed:failedOf st=none
 pend:pendingOf st=pendingOf st0
 keep:∀k,k<lo->(arrOf st)[k]? = (arrOf st0)[k]?
 mem:∀x∈(arrOf st0).toList,S x
section
variable{prog:Program}{w:World}{A:Around}{E:Value->Shared->Prop}{s:Shared}{le:Keyed->Keyed->Bool}{κ:SortKind}{S:Keyed->Prop}{lo:Nat}{st0 st:SortSt}
theorem Bs.size(h:Bs κ S lo st0 st):(arrOf st).size=(arrOf st0).size:=h.perm.size_eq
theorem Bs.at(h:Bs κ S lo st0 st)(b:i<(arrOf st0).size):∃x,(arrOf st)[i]? = some x/\S x:=by obtain⟨x,a⟩:=at_ (c:=arrOf st) (i:=i) (by rw[h.size];exact b);refine⟨x,a,h.mem x ((Array.perm_iff_toList_perm.mp h.perm).mem_iff.mp ?_)⟩;rw[cP]at a;exact List.mem_of_getElem? a
theorem Bs.setArr(h:Bs κ S lo st0 st)(b:a.Perm (arrOf st))(c:∀k,k<lo->a[k]? = (arrOf st)[k]?):Bs κ S lo st0 (setArr st a):=
 ⟨b.trans h.perm,h.kind,h.failed,h.pend,fun k q=>(c k q).trans (h.keep k q),h.mem⟩
theorem oX(c:dP prog w A E s le κ S)(hB:Bs κ S lo st0 st)(d:i<(arrOf st0).size)(e:j<(arrOf st0).size)
  (h:∀x y,(arrOf st)[i]? = some x->(arrOf st)[j]? = some y->Q (some (!le y x)) st):wpS (model prog w) A E s (ltAt' i j) Q st:=by
 obtain⟨x,a,f⟩:=hB.at d;obtain⟨y,b,g⟩:=hB.at e;rw[ltAt'_eq];refine aL (wpS_get ?_);exact aL (dF a (aL (dF b (c x y f g Q st hB.kind (h x y a b)))))
theorem ry(h:Q () (setArr st (mirror (arrOf st) i j ((j - i) / 2)))):wpS (model prog w) A E s (reverseSlice' i j) Q st:=by rw[reverseSlice'_eq];exact wpS_modify h
def gO(le:Keyed->Keyed->Bool)(a:Array Keyed)(lo n:Nat):Prop:=∀(i j:Nat) (x y:Keyed),i<=j->j<n->a[lo+i]? = some x->a[lo+j]? = some y->le x y=true
def iS(le:Keyed->Keyed->Bool)(a:Array Keyed)(lo n:Nat):Prop:=∀(i j:Nat) (x y:Keyed),i<=j->j<n->a[lo+i]? = some x->a[lo+j]? = some y->le y x=true
theorem rz{a:Array Keyed}(b:j<=a.size)(c:k<i):(mirror a i j ((j - i) / 2))[k]? = a[k]?:=by rw[getElem?_mirror_all b,if_neg (by lia)]
theorem dG{R:Keyed->Keyed->Prop}(tr:∀x y z,R x y->R y z->R x z)(k:∀x,R x x){a:Array Keyed}(p:0<n)
  (h:∀i j  x y,i<=j->j<n->a[lo+i]? = some x->a[lo+j]? = some y->R x y) (o:∀x y,a[lo+(n - 1)]? = some x->a[lo+n]? = some y->R x y) :
  ∀i j  x y,i<=j->j<n+1->a[lo+i]? = some x->a[lo+j]? = some y->R x y:=fun i j x y d r e b=>by
 by_cases f:j<n
 .exact h i j x y d f e b
 .obtain rfl:j=n:=by lia
  by_cases l:i=j
  .subst l;rw[e]at b;cases b;exact k x
  .have m:lo+j<a.size:=by
    rcases Nat.lt_or_ge (lo+j) a.size with q |q
    .exact q
    .rw[Array.getElem?_eq_none q]at b;cases b
   obtain⟨z,g⟩:=at_ (c:=a) (i:=lo+(j - 1)) (by lia);exact tr _ _ _ (h i (j - 1) x z (by lia) (by lia) e g) (o z y g b)
variable(hL:dP prog w A E s le κ S)(tr:∀x y z,le x y=true->le y z=true->le x z=true)(tt:∀x y,(le x y||le y x)=true)
include tt in
theorem ik(x:Keyed):le x x=true:=by simpa using tt x x
include tt in
theorem rA{x y:Keyed}(h:le x y=false):le y x=true:=by have:=tt x y;rw[h]at this;simpa using this
include hL tr tt
theorem Bg(t:lo+d<=(arrOf st0).size)(z:1<=a)(j:a<=d)(hB:Bs κ S lo st0 st)(o:gO le (arrOf st) lo a)
  (h:∀n,a<=n->n<=d->gO le (arrOf st) lo n->(n=d\/∀x y,(arrOf st)[lo+(n - 1)]? = some x->(arrOf st)[lo+n]? = some y->le x y=false)->Q (none,n) st) :
  wpS (model prog w) A E s (oW lo a d) Q st:=by
 unfold oW;refine wpS_forRange (I:=fun x c f=>f = st/\c=(none,x)/\gO le (arrOf st) lo x) ?_ ?_ ⟨rfl,rfl,o⟩
 .rintro x c f k r ⟨rfl,rfl,b⟩;dsimp only;refine aL (oX hL hB (by lia) (by lia) fun u v i g=>?_);rw[show lo+x - 1=lo+(x - 1) by lia]at g;cases e:le v u with
  |false=>simp only[Bool.not_false,if_true];exact bd (h x k (by lia) b (.inr fun p q l m=>by rw[l]at g;rw[m]at i;cases g;cases i;exact e))
  |true=>simp only[Bool.not_true,Bool.false_eq_true,if_false];exact bd ⟨rfl,rfl,dG tr (ik tt) (by lia) b fun p q l m=>by rw[l]at g;rw[m]at i;cases g;cases i;exact e⟩
 .rintro c f ⟨rfl,rfl,b⟩;rw[show max a d=d by lia]at b ⊢;exact h d j (bb _) b (.inl rfl)
theorem Bh(p:lo+f<=(arrOf st0).size)(B:1<=n)(g:n<=f)(hB:Bs κ S lo st0 st)(q:iS le (arrOf st) lo n)
  (h:∀m a,Bs κ S lo st0 a->1<=m->m<=f->gO le (arrOf a) lo m->Q (some m) a):wpS (model prog w) A E s (lC lo n f) Q st:=by
 unfold lC;have d:lo+n<=(arrOf st).size:=by rw[hB.size];lia
 refine aL (ry ?_);have e:=hB.setArr (mirror_perm (arrOf st) lo (lo+n) ((lo+n - lo) / 2)) fun k r=>rz d r;refine aL (Bg hL tr tt p B g e (fun i j x y t C u v=>?_) fun m z l o _=>bd (h m _ e (by lia) l o));have b:(mirror (arrOf st) lo (lo+n) ((lo+n - lo) / 2))[lo+i]? = some x:=u;have c:(mirror (arrOf st) lo (lo+n) ((lo+n - lo) / 2))[lo+j]? = some y:=v;rw[getElem?_mirror_all d,if_pos (by lia)]at b c;rw[show lo+(lo+n) - 1 - (lo+i)=lo+(n - 1 - i) by lia]at b;rw[show lo+(lo+n) - 1 - (lo+j)=lo+(n - 1 - j) by lia]at c;exact q (n - 1 - j) (n - 1 - i) y x (by lia) (by lia) c b
def rB(le:Keyed->Keyed->Bool)(a:Array Keyed)(lo m q:Nat):Prop:=∀(i j:Nat) (x y:Keyed),m - (q+1)<=i->i<m->m - (q+1)<=j->j<m->a[lo+i]? = some x->a[lo+j]? = some y->le x y=true
omit hL tr tt in
theorem iS.mir{c:Array Keyed}{m q:Nat}(l:q+1<=m)(d:lo+m<=c.size)(f:iS le c lo m)(g:rB le c lo m q):iS le (mirror c (lo+m - (q+1)) (lo+m) ((lo+m - (lo+m - (q+1))) / 2)) lo m:=fun i j x y e h b a=>by
 rw[getElem?_mirror_all d]at b a
 by_cases n:m - (q+1)<=i
 .rw[if_pos (by lia)]at b;rw[if_pos (by lia)]at a;rw[show lo+m - (q+1)+(lo+m) - 1 - (lo+i)=lo+(m - (q+1)+m - 1 - i) by lia]at b;rw[show lo+m - (q+1)+(lo+m) - 1 - (lo+j)=lo+(m - (q+1)+m - 1 - j) by lia]at a;exact g _ _ y x (by lia) (by lia) (by lia) (by lia) a b
 .rw[if_neg (by lia)]at b
  by_cases k:m - (q+1)<=j
  .rw[if_pos (by lia)]at a;rw[show lo+m - (q+1)+(lo+m) - 1 - (lo+j)=lo+(m - (q+1)+m - 1 - j) by lia]at a;exact f i _ x y (by lia) (by lia) b a
  .rw[if_neg (by lia)]at a;exact f i j x y e h b a
theorem PH(hn:lo+z<=(arrOf st0).size)(J:1<=n)(Z:n<=z)(hB:Bs κ S lo st0 st)(hs:iS le (arrOf st) lo n)
  (h:∀m q d,Bs κ S lo st0 d->n<=m->m<=z->iS le (arrOf d) lo m->q+1<=m->rB le (arrOf d) lo m q->Q (none,m,q) d):wpS (model prog w) A E s (vP lo n z) Q st:=by
 unfold vP;have one:∀(o:Array Keyed) (m:Nat),rB le o lo m 0:=fun o m i j x y a1 a2 a3 a4 hx B=>by
  obtain rfl:i=j:=by lia
  rw[hx]at B;cases B;exact ik tt x
 refine wpS_forRange (I:=fun x c d=>∃q,c=(none,x,q)/\Bs κ S lo st0 d/\iS le (arrOf d) lo x/\q+1<=x/\rB le (arrOf d) lo x q) ?_ ?_ ⟨0,rfl,hB,hs,by lia,one _ _⟩
 .rintro x c d a0 a5 ⟨q,rfl,f,g,L,t⟩;dsimp only;have C:lo+x<=(arrOf d).size:=by rw[f.size];lia
  refine aL (oX hL f (by lia) (by lia) fun u v M D=>?_);rw[show lo+x - 1=lo+(x - 1) by lia]at D;cases e:le v u with
  |false=>
   simp only[Bool.not_false,if_true];have N:∀o:Array Keyed,iS le o lo x->(∀y,o[lo+(x - 1)]? = some y->le u y=true)->o[lo+x]? = some u->iS le o lo (x+1):=fun o hd J Y=>dG (R:=fun a b=>le b a=true) (fun a b c J Y=>tr _ _ _ Y J) (ik tt) (by lia) hd fun p r l G=>by rw[Y]at G;cases G;exact J p l
   have O:le u v=true:=rA tt e
   by_cases T:q>0
   .rw[if_pos T];refine aL (ry (bd ⟨0,rfl,f.setArr (mirror_perm _ _ _ _) fun k hk=>rz (by lia) (by lia),?_,by lia,one _ _⟩));refine N _ (g.mir L C t) (fun y B=>?_) ?_
    .have U:(mirror (arrOf d) (lo+x - (q+1)) (lo+x) ((lo+x - (lo+x - (q+1))) / 2))[lo+(x - 1)]? = some y:=B;rw[getElem?_mirror_all C,if_pos (by lia),show lo+x - (q+1)+(lo+x) - 1 - (lo+(x - 1))=lo+(x - (q+1)) by lia]at U;exact tr _ _ _ O (t (x - 1) (x - (q+1)) v y (by lia) (by lia) (by lia) (by lia) D U)
    .show(mirror (arrOf d) (lo+x - (q+1)) (lo+x) ((lo+x - (lo+x - (q+1))) / 2))[lo+x]? = some u;rw[getElem?_mirror_all C,if_neg (by lia)];exact M
   .rw[if_neg T];exact bd ⟨0,rfl,f,N _ g (fun y B=>by rw[D]at B;cases B;exact O) M,by lia,one _ _⟩
  |true=>
   simp only[Bool.not_true,Bool.false_eq_true,if_false];refine aL (oX hL f (by lia) (by lia) fun v' u' H X=>?_);rw[show lo+x - 1=lo+(x - 1) by lia]at H;rw[D]at H;cases H;rw[M]at X;cases X;cases e2:le u v with
   |false=>simp only[Bool.not_false,if_true];exact bd (h x q d f a0 (by lia) g L t)
   |true=>
    simp only[Bool.not_true,Bool.false_eq_true,if_false];refine bd ⟨q+1,rfl,f,dG (R:=fun a b=>le b a=true) (fun a b c J Y=>tr _ _ _ Y J) (ik tt) (by lia) g (fun p r l G=>by rw[D]at l;rw[M]at G;cases l;cases G;exact e2),by lia,fun i j p r a1 a2 a3 a4 l G=>?_⟩;have hl:∀(i:Nat) (p:Keyed),x+1 - (q+1+1)<=i->i<x+1->(arrOf d)[lo+i]? = some p->le p v=true/\le v p=true:=fun i p b1 b2 l=>by
     by_cases hi:i=x
     .subst hi;rw[M]at l;cases l;exact⟨e2,e⟩
     .exact⟨t i (x - 1) p v (by lia) (by lia) (by lia) (by lia) l D,t (x - 1) i v p (by lia) (by lia) (by lia) (by lia) D l⟩
    exact tr _ _ _ (hl i p a1 a2 l).1 (hl j r a3 a4 G).2
 .rintro c d ⟨q,rfl,f,g,L,t⟩;rw[show max n z=z by lia]at g L t ⊢;exact h z q d f Z (bb _) g L t
theorem Bi(i:lo+g<=(arrOf st0).size)(j:n+1<=g)(hB:Bs κ S lo st0 st)(l:iS le (arrOf st) lo (n+1))
  (h:∀m a,Bs κ S lo st0 a->1<=m->m<=g->gO le (arrOf a) lo m->Q (some m) a):wpS (model prog w) A E s (mT lo n g) Q st:=by
 unfold mT;refine aL (wpS_lift (wpAny_rule ⟨rfl,?_⟩));refine aL (PH hL tr tt i (by lia) j hB l fun m q a b o c d p r=>?_);dsimp only;have e:lo+m<=(arrOf a).size:=by rw[b.size];lia
 by_cases f:q>0
 .rw[if_pos f];exact aL (ry (Bh hL tr tt i (by lia) c (b.setArr (mirror_perm _ _ _ _) fun k t=>rz e (by lia)) (d.mir p e r) h))
 .rw[if_neg f];exact Bh hL tr tt i (by lia) c b d h
theorem PJ(N:lo+z<=(arrOf st0).size)(L:1<=z)(hB:Bs κ S lo st0 st)
  (h:∀m o,Bs κ S lo st0 o->1<=m->m<=z->gO le (arrOf o) lo m->Q (some m) o):wpS (model prog w) A E s (countRun' lo z) Q st:=by
 rw[PD];refine aL (Bg hL tr tt N (bb 1) L hB (fun i j x y B C d f=>by
  obtain rfl:i=j:=by lia
  rw[d]at f;cases f;exact ik tt x) fun n D G g O=>?_)
 dsimp only
 by_cases p:n=z
 .rw[if_pos (by simpa using p)];exact bd (h n st hB D G g)
 .rw[if_neg (by simpa using p)];have H:=O.resolve_left p
  by_cases I:n>1
  .rw[if_pos I];refine aL (oX hL hB (by lia) (by lia) fun u v Z M=>?_);rw[show lo+n - 1=lo+(n - 1) by lia]at M;cases e:le v u with
   |false=>simp only[Bool.not_false,if_true];exact bd (h n st hB D G g)
   |true=>
    simp only[Bool.not_true,Bool.false_eq_true,if_false];have q:lo+n<=(arrOf st).size:=by rw[hB.size];lia
    have l:∀(i j:Nat) (x y:Keyed),i<n->j<n->(arrOf st)[lo+i]? = some x->(arrOf st)[lo+j]? = some y->le x y=true:=fun i j x y hi C d f=>tr _ _ _ (g i (n - 1) x v (by lia) (by lia) d M) (tr _ _ _ e (g 0 j u y (by lia) C (by simpa using Z) f));refine aL (ry (Bi hL tr tt N (by lia) (hB.setArr (mirror_perm _ _ _ _) fun k hk=>rz q hk) ?_ h));have r:∀(i:Nat) (x:Keyed),i<n->(mirror (arrOf st) lo (lo+n) ((lo+n - lo) / 2))[lo+i]? = some x->∃j,j<n/\(arrOf st)[lo+j]? = some x:=fun i x hi d=>by rw[getElem?_mirror_all q,if_pos (by lia),show lo+(lo+n) - 1 - (lo+i)=lo+(n - 1 - i) by lia]at d;exact⟨_,by lia,d⟩
    refine dG (R:=fun a b=>le b a=true) (fun a b c L Y=>tr _ _ _ Y L) (ik tt) (by lia) (fun i j x y B C d f=>?_) fun x y d f=>?_
    .obtain⟨T,t,U⟩:=r i x (by lia) d;obtain⟨j',X,q2⟩:=r j y C f;exact l j' T y x X t q2 U
    .obtain⟨T,t,U⟩:=r (n - 1) x (by lia) d;have J:(mirror (arrOf st) lo (lo+n) ((lo+n - lo) / 2))[lo+n]? = some y:=f;rw[getElem?_mirror_all q,if_neg (by lia)]at J;exact tr _ _ _ (rA tt (H v y M J)) (l (n - 1) T v x (by lia) t M U)
  .rw[if_neg I];obtain rfl:n=1:=by lia
   refine Bi hL tr tt N (by lia) hB ?_ h;refine dG (R:=fun a b=>le b a=true) (fun a b c L Y=>tr _ _ _ Y L) (ik tt) (by lia) (fun i j x y B C d f=>?_) fun x y d f=>rA tt (H x y d f);obtain rfl:i=j:=by lia
   rw[d]at f;cases f;exact ik tt x
theorem PL(hn:lo+n<=(arrOf st0).size)(a4:ok<=n)(hB:Bs κ S lo st0 st)(Z:gO le (arrOf st) lo ok)
  (h:∀b,Bs κ S lo st0 b->gO le (arrOf b) lo n->Q true b):wpS (model prog w) A E s (binarySort' lo n ok) Q st:=by
 rw[binarySort'_eq];refine aL (wpS_mono (wpS_forRange (I:=fun k c b=>c=(none,())/\Bs κ S lo st0 b/\gO le (arrOf b) lo (min k n))
  (Q:=fun c b=>c=(none,())/\Bs κ S lo st0 b/\gO le (arrOf b) lo n) ?_ ?_ ?_) ?_)
 .rintro k c b a0 a1 ⟨rfl,f,d⟩;rw[show min k n=k by lia]at d;obtain⟨u,R,su⟩:=f.at (i:=lo+k) (by lia);dsimp only;refine aL (wpS_mono (wpS_forRange (I:=fun x c a=>a = b/\∃l r,c=(none,l,r)/\l<=r/\r<=k/\r - l<=k - x/\
    (∀(i:Nat) (y:Keyed),i<l->(arrOf b)[lo+i]? = some y->le y u=true)/\(∀(i:Nat) (y:Keyed),r<=i->i<k->(arrOf b)[lo+i]? = some y->le y u=false))
   (Q:=fun c a=>a = b/\∃l r,c=(none,l,r)/\l<=k/\
    (∀(i:Nat) (y:Keyed),i<l->(arrOf b)[lo+i]? = some y->le y u=true)/\(∀(i:Nat) (y:Keyed),l<=i->i<k->(arrOf b)[lo+i]? = some y->le y u=false)) ?_ ?_ ?_) ?_)
  .rintro x c a _ a2 ⟨rfl,l,r,rfl,M,p,hm,g,m⟩;dsimp only
   by_cases t:l≥r
   .rw[if_pos t];obtain rfl:l=r:=by lia
    exact bd ⟨rfl,l,l,rfl,p,g,m⟩
   .rw[if_neg t];refine aL (oX hL f (by lia) (by lia) fun u' v z T=>?_);rw[R]at z;cases z;cases e:le v u with
    |false=>
     simp only[Bool.not_false,if_true];refine bd ⟨rfl,l,(l+r) / 2,rfl,by lia,by lia,by lia,g,fun i y L Y o=>?_⟩;cases H:le y u with
     |false=>rfl
     |true=>rw[tr _ _ _ (d _ _ v y L Y T o) H]at e;cases e
    |true=>simp only[Bool.not_true,Bool.false_eq_true,if_false];exact bd ⟨rfl,(l+r) / 2+1,r,rfl,by lia,by lia,by lia,fun i y L o=>tr _ _ _ (d i ((l+r) / 2) y v (by lia) (by lia) o T) e,m⟩
  .rintro c a ⟨rfl,l,r,rfl,M,p,hm,g,m⟩;obtain rfl:l=r:=by lia
   exact⟨rfl,l,l,rfl,p,g,m⟩
  .exact⟨rfl,0,k,rfl,by lia,by lia,by lia,fun i y hi=>by lia,fun i y L Y=>by lia⟩
  .rintro c a ⟨rfl,l,r,rfl,a3,g,m⟩;show wpS _ _ _ _ (do moveDown' (lo+k) (lo+l);pure (ForInStep.yield (none,()))) _ _;rw[moveDown'_eq];have N:lo+k<(arrOf a).size:=by rw[f.size];lia
   have gb:=fun j=>getElem?_bubble (xs:=arrOf a) N (lo+k - (lo+l)) (by lia) j;refine aL (wpS_modify (bd ⟨rfl,f.setArr (bubble_perm _ _ _) (fun j U=>by rw[gb,if_neg (by lia),if_neg (by lia)]),?_⟩));rw[show min (k+1) n=k+1 by lia];intro i j x y q U J o;have B:(bubble (arrOf a) (lo+k) (lo+k - (lo+l)))[lo+i]? = some x:=J;have C:(bubble (arrOf a) (lo+k) (lo+k - (lo+l)))[lo+j]? = some y:=o;rw[gb]at B C;have X:∀(i:Nat) (x:Keyed),i<k+1->(if lo+i=lo+k - (lo+k - (lo+l)) then(arrOf a)[lo+k]? else if lo+k - (lo+k - (lo+l))<lo+i/\lo+i<=lo+k then(arrOf a)[lo+i - 1]? else(arrOf a)[lo+i]?)=some x->
     (i=l/\x=u)\/(l<i/\(arrOf a)[lo+(i - 1)]? = some x)\/(i<l/\(arrOf a)[lo+i]? = some x):=fun i x hi h=>by
    split at h
    .rw[R]at h;cases h;exact .inl ⟨by lia,rfl⟩
    .split at h
     .rw[show lo+i - 1=lo+(i - 1) by lia]at h;exact .inr (.inl ⟨by lia,h⟩)
     .exact .inr (.inr ⟨by lia,h⟩)
   rcases X i x (by lia) B with⟨O,rfl⟩ |⟨O,D⟩ |⟨O,D⟩<;>rcases X j y (by lia) C with⟨H,rfl⟩ |⟨H,G⟩ |⟨H,G⟩
   .exact ik tt _
   .exact rA tt (m (j - 1) y (by lia) (by lia) G)
   .omega
   .omega
   .exact d (i - 1) (j - 1) x y (by lia) (by lia) D G
   .omega
   .exact g i x O D
   .exact d i (j - 1) x y (by lia) (by lia) D G
   .exact d i j x y q (by lia) D G
 .rintro c b ⟨hc,f,d⟩;refine⟨hc,f,?_⟩
  rwa [show min (max (max ok 1) n) n=n by lia]at d
 .refine⟨rfl,hB,fun i j x y q U J o=>?_⟩
  by_cases L:ok=0
  .obtain rfl:i=j:=by lia
   rw[J]at o;cases o;exact ik tt x
  .exact Z i j x y q (by lia) J o
 .rintro c b ⟨rfl,f,d⟩;exact bd (h b f d)
end
theorem Bj(c):∀m  t (arr:Array Keyed),c+t+m.length<=arr.size->((m.zipIdx t).foldl (fun(a:Array Keyed) (q:Keyed×Nat)=>a.setIfInBounds (c+q.2) q.1) arr).toList=arr.toList.take (c+t)++(m++arr.toList.drop (c+t+m.length))
 |[],t,arr,h=>by simp
 |x::m,t,arr,h=>by
  rw[List.zipIdx_cons,List.foldl_cons,Bj c m (t+1) _ (by rw[Array.size_setIfInBounds];simp at h;lia)];simp only[Array.toList_setIfInBounds];have b:c+t<arr.toList.length:=by simp at h ⊢;lia
  rw[show c+(t+1)=c+t+1 by lia,Px (l:=arr.toList.set (c+t) x) (x:=x) (by rw[List.getElem?_set_self b]),List.take_set_of_le (bb _),List.drop_set_of_lt (by lia)];rw[show c+t+(x::m).length=c+t+1+m.length by simp;lia];simp
theorem PM(i):mergeAt' i=(do
 let t <-get
 let(some (sa,na,pw),some (sb,nb,_)):=((pendingOf t)[i]?,(pendingOf t)[i+1]?) |unsupported "internal:list.sort.pending"
 set (setPending t (((pendingOf t).setIfInBounds i (sa,na+nb,pw)).eraseIdxIfInBounds (i+1)))
 let some k <-cV false (<-elem' (arrOf t) sb) (arrOf t) sa na 0 |return false
 let(sa,na):=(sa+k,na - k)
 if na==0 then return true
 let some nb <-cV true (<-elem' (arrOf t) (sa+na - 1)) (arrOf t) sb nb (nb - 1) |return false
 if nb==0 then return true
 let x:=(arrOf t).extract sa sb;let y:=(arrOf t).extract sb (sb+nb);let r <-if na<=nb then jF x y else jH x y
 modify fun u=>setArr u (r.toList.zipIdx.foldl (fun a (p,j)=>a.setIfInBounds (sa+j) p) (arrOf u))
 return (failedOf (<-get)).isNone):=rfl
theorem PN{st }(h:Q ⟨⟩ a):wpS (model b w) A E s (set a:StateT SortSt Sem PUnit) Q st:=by unfold wpS;have e:(set a:StateT SortSt Sem PUnit).run st=pure (⟨⟩,a):=rfl;rw[e];exact aR ⟨rfl,h⟩
theorem oY{le:Keyed->Keyed->Bool}(a:∀x,le x x=true){l:List Keyed}(h:l.Pairwise (fun x y=>le x y=true)){j:Nat}(b:i<=j)(c:l[i]? = some x)(d:l[j]? = some y):le x y=true:=by
 obtain⟨e,rfl⟩:=List.getElem?_eq_some_iff.mp c;obtain⟨f,rfl⟩:=List.getElem?_eq_some_iff.mp d;rcases Nat.lt_or_ge i j with q |q
 .exact List.pairwise_iff_getElem.mp h i j e f q
 .obtain rfl:i=j:=by lia
  exact a _
section
variable{prog:Program}{w:World}{A:Around}{E:Value->Shared->Prop}{s:Shared}{le:Keyed->Keyed->Bool}{κ:SortKind}{S:Keyed->Prop}{st:SortSt}
variable(hL:dP prog w A E s le κ S)(tr:∀x y z,le x y=true->le y z=true->le x z=true)(tt:∀x y,(le x y||le y x)=true)
include hL tr tt
theorem PP{pv}(hk:kindOf st=κ)(hf:failedOf st=none)(hS:∀x∈(arrOf st).toList,S x)
  (h1:(pendingOf st)[i]? = some (L.length,b.length,pw)) (h2:(pendingOf st)[i+1]? = some (L.length+b.length,d.length,pv)) (G:(arrOf st).toList=L++(b++(d++R)))
  (a0:0<b.length) (b0:0<d.length) (sa:b.Pairwise fun x y=>le x y=true) (sb:d.Pairwise fun x y=>le x y=true)
  (h:∀n,kindOf n = κ->failedOf n = none->pendingOf n = ((pendingOf st).setIfInBounds i (L.length,b.length+d.length,pw)).eraseIdxIfInBounds (i+1)->(arrOf n).toList=L++(List.merge b d le++R)->Q true n) :
  wpS (model prog w) A E s (mergeAt' i) Q st:=by
 rw[PM];refine aL (wpS_get ?_);rw[h1,h2];dsimp only;have Y:=ik (le:=le) tt;have o:∀j,j<b.length->(arrOf st)[L.length+j]? = b[j]?:=fun j p=>by rw[cP,G,List.getElem?_append_right (by lia),Nat.add_sub_cancel_left,List.getElem?_append_left p]
 have z:∀j,j<d.length->(arrOf st)[L.length+b.length+j]? = d[j]?:=fun j p=>by rw[cP,G,List.getElem?_append_right (by lia),List.getElem?_append_right (by lia),show L.length+b.length+j - L.length - b.length=j by lia,List.getElem?_append_left p]
 have X:∀(j:Nat) (x:Keyed),(arrOf st)[j]? = some x->S x:=fun j x c=>hS x (by rw[cP]at c;exact List.mem_of_getElem? c);have sz:(arrOf st).size=L.length+(b.length+(d.length+R.length)):=by rw[<-Array.length_toList,G];simp
 generalize C:setPending st (((pendingOf st).setIfInBounds i (L.length,b.length+d.length,pw)).eraseIdxIfInBounds (i+1))=m;have J:kindOf m=κ:=by rw[<-C];exact hk
 have f1:failedOf m=none:=by rw[<-C];exact hf
 have p1:pendingOf m=((pendingOf st).setIfInBounds i (L.length,b.length+d.length,pw)).eraseIdxIfInBounds (i+1):=by rw[<-C]
 have N:arrOf m=arrOf st:=by rw[<-C]
 refine aL (PN ?_);obtain⟨y0,a4,eB⟩:∃y t,d=y::t:=by cases d with
  |nil=>simp at b0
  |cons y t=>exact⟨y,t,rfl⟩
 have Z:(arrOf st)[L.length+b.length]? = some y0:=by have:=z 0 b0;rw[eB]at this;simpa using this
 refine aL (dF Z (aL (mR hL tr J (X _ _ Z) X (by lia) (fun i j x y H O q3 c g=>?_) (fun k ox g1 g2=>?_) a0)))
 .obtain⟨i',rfl⟩:∃i',i=L.length+i':=⟨i - L.length,by lia⟩
  obtain⟨j',rfl⟩:∃j',j=L.length+j':=⟨j - L.length,by lia⟩
  rw[o _ (by lia)]at c g;exact oY Y sa (by lia) c g
 have eA:b.take k++b.drop k=b:=List.take_append_drop k b;have fr:List.merge b d le=b.take k++List.merge (b.drop k) d le:=by
  rw[eB]
  conv=>lhs;rw[<-eA]
  refine qY fun x c=>?_;obtain⟨j,p,q⟩:=mS c;have:=g1 j p x (by rw[o j (by lia)];exact q);simpa[dQ] using this
 dsimp only
 by_cases e1:b.length - k=0
 .rw[if_pos (by simpa using e1)];refine bd (h m J f1 p1 ?_);rw[N,G,fr,List.drop_eq_nil_of_le (by lia),List.take_of_length_le (by lia),List.nil_merge,List.append_assoc]
 rw[if_neg (by simpa using e1)];obtain⟨x1,T⟩:∃x,b[b.length - 1]? = some x:=⟨_,List.getElem?_eq_getElem (by lia)⟩
 have a1:(arrOf st)[L.length+k+(b.length - k) - 1]? = some x1:=by rw[show L.length+k+(b.length - k) - 1=L.length+(b.length - 1) by lia,o _ (by lia)];exact T
 refine aL (dF a1 (aL (mR hL tr J (X _ _ a1) X (by lia) (fun i j x y H O q3 c g=>?_) (fun e a5 g3 g4=>?_) (by lia))))
 .obtain⟨i',rfl⟩:∃i',i=L.length+b.length+i':=⟨i - (L.length+b.length),by lia⟩
  obtain⟨j',rfl⟩:∃j',j=L.length+b.length+j':=⟨j - (L.length+b.length),by lia⟩
  rw[z _ (by lia)]at c g;exact oY Y sb (by lia) c g
 have eC:d.take e++d.drop e=d:=List.take_append_drop e d;have bk:List.merge (b.drop k) d le=List.merge (b.drop k) (d.take e) le++d.drop e:=by
  conv=>lhs;rw[<-eC]
  refine qZ _ _ fun x c y g=>?_;obtain⟨j,p⟩:=List.getElem?_of_mem c;rw[List.getElem?_drop]at p;obtain⟨l,hl⟩:=List.getElem?_of_mem g;rw[List.getElem?_drop]at hl;have a2:e+l<d.length:=(List.getElem?_eq_some_iff.mp hl).1;have a6:k+j<b.length:=(List.getElem?_eq_some_iff.mp p).1;have H:=oY Y sa (i:=k+j) (j:=b.length - 1) (by lia) p T;have O:=g4 (e+l) (by lia) a2 y (by rw[z _ a2];exact hl);exact tr _ _ _ H (by simpa[dQ] using O)
 dsimp only
 by_cases e2:e=0
 .rw[if_pos (by simpa using e2)];refine bd (h m J f1 p1 ?_);subst e2;rw[N,G,fr,bk];simp only[List.take_zero,List.drop_zero,List.merge_right];rw[<-List.append_assoc (b.take k),eA,List.append_assoc]
 rw[if_neg (by simpa using e2)];have tX:((arrOf st).extract (L.length+k) (L.length+b.length)).toList=b.drop k:=by rw[gM,G,<-List.drop_drop,List.drop_left,List.drop_append_of_le_length (by lia),show L.length+b.length - (L.length+k)=(b.drop k).length by simp;lia,List.take_left]
 have tY:((arrOf st).extract (L.length+b.length) (L.length+b.length+e)).toList=d.take e:=by rw[gM,G,<-List.drop_drop,List.drop_left,List.drop_left,Nat.add_sub_cancel_left,List.take_append_of_le_length (by lia)]
 have lX:((arrOf st).extract (L.length+k) (L.length+b.length)).size=b.length - k:=by rw[<-Array.length_toList,tX];simp
 have lY:((arrOf st).extract (L.length+b.length) (L.length+b.length+e)).size=e:=by rw[<-Array.length_toList,tY];simp;lia
 have B:∀(j:Nat) (x:Keyed),((arrOf st).extract (L.length+k) (L.length+b.length))[j]? = some x->b[k+j]? = some x:=fun j x c=>by rw[cP,tX,List.getElem?_drop]at c;exact c
 have D:∀(j:Nat) (x:Keyed),((arrOf st).extract (L.length+b.length) (L.length+b.length+e))[j]? = some x->j<e/\d[j]? = some x:=fun j x c=>by
  rw[cP,tY,List.getElem?_take]at c;split at c
  .exact⟨by assumption,c⟩
  .cases c
 have M:MH le S ((arrOf st).extract (L.length+k) (L.length+b.length)) ((arrOf st).extract (L.length+b.length) (L.length+b.length+e)):={
  tr:=tr
  sa:=fun i j x y a3 c g=>oY Y sa (by lia) (B i x c) (B j y g)
  sb:=fun i j x y a3 c g=>oY Y sb a3 (D i x c).2 (D j y g).2
  Sa:=fun i x c=>by have q:=B i x c;exact X (L.length+(k+i)) x (by rw[o _ (List.getElem?_eq_some_iff.mp q).1];exact q)
  Sb:=fun i x c=>by have q:=(D i x c).2;exact X (L.length+b.length+i) x (by rw[z _ (List.getElem?_eq_some_iff.mp q).1];exact q)
  a0:=by lia
  b0:=by lia
  first:=fun x y c g=>by have H:=B 0 x c;have O:=(D 0 y g).2;rw[eB]at O;have q3:=g2 k (bb _) (by lia) x (by rw[o k (by lia)];exact H);simp only[List.getElem?_cons_zero,Option.some.injEq]at O;rw[<-O];simpa[dQ] using q3
  last:=fun i x y hi c g=>by
   have H:=B i x c;rw[show k+i=b.length - 1 by lia,T]at H;cases H;rw[tY]at g;obtain⟨j,p,q⟩:=mS g;have q3:=g3 j p y (by rw[z j (by lia)];exact q);simpa[dQ] using q3 }
 have fin:∀(r:Array Keyed) (f:SortSt),Sm m f->r.toList=List.merge ((arrOf st).extract (L.length+k) (L.length+b.length)).toList ((arrOf st).extract (L.length+b.length) (L.length+b.length+e)).toList le->
   wpS (model prog w) A E s (do
    modify fun u=>setArr u (List.foldl (fun(a:Array Keyed) (x:Keyed×Nat)=>a.setIfInBounds (L.length+k+x.snd) x.fst) (arrOf u) r.toList.zipIdx)
    let v <-get
    pure (failedOf v).isNone) Q f:=fun r f I U=>by
  refine aL (wpS_modify (aL (wpS_get ?_)));rw[tX,tY]at U;have f2:failedOf f=none:=I.failed.trans f1;show wpS _ _ _ _ (pure (failedOf f).isNone) Q _;rw[f2];refine bd (h _ (I.kind.trans J) f2 (I.pend.trans p1) ?_);show(List.foldl (fun(a:Array Keyed) (x:Keyed×Nat)=>a.setIfInBounds (L.length+k+x.snd) x.fst) (arrOf f) r.toList.zipIdx).toList=_;have hl:r.toList.length=b.length - k+e:=by rw[U,List.length_merge];simp;lia
  rw[I.arr,N,Bj (L.length+k) r.toList 0 (arrOf st) (by lia),hl,Nat.add_zero,G,fr,bk,U];have t1:(L++(b++(d++R))).take (L.length+k)=L++b.take k:=by rw[List.take_append,List.take_of_length_le (by lia),Nat.add_sub_cancel_left,List.take_append_of_le_length (by lia)]
  have t2:(L++(b++(d++R))).drop (L.length+k+(b.length - k+e))=d.drop e++R:=by rw[show L.length+k+(b.length - k+e)=L.length+(b.length+e) by lia,<-List.drop_drop,List.drop_left,<-List.drop_drop,List.drop_left,List.drop_append_of_le_length (by lia)]
  rw[t1,t2];simp only[List.append_assoc]
 split
 .exact aL (Pt M hL J fun r f I U=>fin r f I U)
 .exact aL (PC M hL J fun r f I U=>fin r f I U)
end
def Rn(le:Keyed->Keyed->Bool):Nat->List (Nat×Nat×Nat)->List (List Keyed)->Prop
 |_,[],[]=>True
 |lo,p::a,r::b=>p.1=lo/\p.2.1=r.length/\0<r.length/\r.Pairwise (fun x y=>le x y=true)/\Rn le (lo+r.length) a b
 |_,_,_=>False
section
variable{le:Keyed->Keyed->Bool}
theorem Rn.len:∀{lo a b},Rn le lo a b->a.length=b.length
 |_,[],[],_=>rfl
 |_,_::_,_::_,h=>by simp[Rn.len h.2.2.2.2]
 |_,[],_::_,h=>h.elim
 |_,_::_,[],h=>h.elim
theorem Rn.few:∀{lo b a},Rn le lo b a->a.length<=a.flatten.length
 |_,[],[],_=>by simp
 |_,_::_,r::a,h=>by have:=Rn.few h.2.2.2.2;have:=h.2.2.1;simp;simp at *;lia
 |_,[],_::_,h=>h.elim
 |_,_::_,[],h=>h.elim
theorem Rn.split:∀{P Q lo a},Rn le lo (P++Q) a->∃b R2,a=b++R2/\Rn le lo P b/\Rn le (lo+b.flatten.length) Q R2
 |[],Q,lo,a,h=>⟨[],a,rfl,trivial,h⟩
 |p::P,Q,lo,r::a,h=>by obtain⟨b,R2,e,h1,h2⟩:=Rn.split h.2.2.2.2;refine⟨r::b,R2,by rw[e];rfl,⟨h.1,h.2.1,h.2.2.1,h.2.2.2.1,h1⟩,?_⟩;rw[List.flatten_cons,List.length_append,<-Nat.add_assoc];exact h2
 |p::P,Q,lo,[],h=>h.elim
theorem Rn.join:∀{P Q lo a R2},Rn le lo P a->Rn le (lo+a.flatten.length) Q R2->Rn le lo (P++Q) (a++R2)
 |[],Q,lo,[],R2,_,h=>by simpa using h
 |p::P,Q,lo,r::a,R2,h,h2=>⟨h.1,h.2.1,h.2.2.1,h.2.2.2.1,h.2.2.2.2.join (by rw[List.flatten_cons,List.length_append,<-Nat.add_assoc]at h2;exact h2)⟩
 |[],_,_,_::_,_,h,_=>h.elim
 |_::_,_,_,[],_,h,_=>h.elim
theorem Rn.pw(c:∀p,(f p).1=p.1/\(f p).2.1=p.2.1):∀{a lo i b},Rn le lo a b->Rn le lo (a.modify i f) b
 |[],_,_,[],h=>by simp[Rn]
 |p::a,lo,0,r::b,h=>by simpa[List.modify,Rn,c] using h
 |p::a,lo,i+1,r::b,h=>by rw[List.modify_succ_cons];exact⟨h.1,h.2.1,h.2.2.1,h.2.2.2.1,h.2.2.2.2.pw c⟩
 |[],_,_,_::_,h=>h.elim
 |_::_,_,_,[],h=>h.elim
structure IV (le:Keyed->Keyed->Bool) (κ:SortKind) (a₀:List Keyed) (st:SortSt) (rs:List (List Keyed)) (rest:List Keyed):Prop where
 kind:kindOf st=κ
 failed:failedOf st=none
 perm:(arrOf st).toList.Perm a₀
 arr:(arrOf st).toList=rs.flatten++rest
 runs:Rn le 0 (pendingOf st).toList rs
variable{prog:Program}{w:World}{A:Around}{E:Value->Shared->Prop}{s:Shared}{κ:SortKind}{a₀:List Keyed}{st:SortSt}
variable(hL:dP prog w A E s le κ (·∈a₀))(tr:∀x y z,le x y=true->le y z=true->le x z=true)(tt:∀x y,(le x y||le y x)=true)
include hL tr tt
theorem Bk(v:IV le κ a₀ st u rest)(J:i+1<(pendingOf st).size)
  (h:∀a g,IV le κ a₀ a g rest->g.flatten.length=u.flatten.length->(pendingOf a).size+1=(pendingOf st).size->Q true a):wpS (model prog w) A E s (mergeAt' i) Q st:=by
 obtain⟨P,l,m,n,e,o⟩:∃P l m n,(pendingOf st).toList=P++l::m::n/\P.length=i:=by
  have h1:i+1<(pendingOf st).toList.length:=by simpa using J
  refine⟨(pendingOf st).toList.take i,(pendingOf st).toList[i]'(by lia),(pendingOf st).toList[i+1],(pendingOf st).toList.drop (i+2),?_,by rw[List.length_take];lia⟩;rw[<-List.drop_eq_getElem_cons h1,<-List.drop_eq_getElem_cons (by lia),List.take_append_drop]
 have y:=v.runs;rw[e]at y;obtain⟨j,R2,d,L,c⟩:=y.split
 match R2,c,d with
 |b::f::z,c,d=>
  obtain⟨M,N,k⟩:=l;obtain⟨O,R,p⟩:=m;obtain⟨q,B,S,C,r,D,T,G,U⟩:=c;dsimp only at q B r D;simp only[Nat.zero_add]at q r;subst q B r D;have H:(arrOf st).toList=j.flatten++(b++(f++(z.flatten++rest))):=by rw[v.arr,d];simp
  have g1:(pendingOf st)[i]? = some (j.flatten.length,b.length,k):=by rw[cP,e,<-o];simp
  have g2:(pendingOf st)[i+1]? = some (j.flatten.length+b.length,f.length,p):=by rw[cP,e,<-o];simp
  refine PP hL tr tt v.kind v.failed (fun x X=>v.perm.mem_iff.mp X) g1 g2 H S T C G fun a Y Z p' I=>?_;have pl:(pendingOf a).toList=P++(j.flatten.length,b.length+f.length,k)::n:=by rw[p',Array.toList_eraseIdxIfInBounds,Array.toList_setIfInBounds,e,<-o,List.set_append_right _ _ (bb _),List.eraseIdx_append_of_length_le (by lia)];simp
  have t:(List.merge b f le).length=b.length+f.length:=List.length_merge _ _ _;refine h a (j++List.merge b f le::z) ⟨Y,Z,?_,?_,?_⟩ ?_ ?_
  .refine List.Perm.trans ?_ v.perm;rw[I,H];refine List.Perm.append_left _ ?_;rw[<-List.append_assoc b];exact List.Perm.append_right _ (List.merge_perm_append le)
  .rw[I];simp
  .rw[pl];refine L.join ⟨by simp,by simp[t],by lia,List.pairwise_merge tr tt _ _ C G,?_⟩;rw[t,<-Nat.add_assoc,Nat.zero_add];simpa using U
  .rw[d];simp[t];lia
  .have l1:=congrArg List.length pl;have l2:=congrArg List.length e;simp at l1 l2;lia
 |[],c,d=>exact c.elim
 |[_],c,d=>exact c.2.2.2.2.elim
theorem Bl{Q:ForInStep (Option Unit×Nat)->SortSt->Prop}{lo }(v:IV le κ a₀ st d rest)(a:d.flatten.length=lo)(g:1<=n)(e:n<=rest.length)(f:(rest.take n).Pairwise fun x y=>le x y=true)
  (h:∀b c,IV le κ a₀ b c (rest.drop n)->c.flatten.length=lo+n->Q (.yield (none,lo+n)) b) :
  wpS (model prog w) A E s (do
   modify fun s=>setPending s ((pendingOf s).push (lo,n,0))
   pure (ForInStep.yield (none,lo+n))) Q st:=by
 refine aL (wpS_modify (bd (h _ (d++[rest.take n]) ⟨v.kind,v.failed,v.perm,?_,?_⟩ ?_)))
 .show(arrOf st).toList=_;rw[v.arr];simp
 .show Rn le 0 ((pendingOf st).push (lo,n,0)).toList _;rw[Array.toList_push];refine v.runs.join ⟨by simp[a],by simp;lia,by simp;lia,f,trivial⟩
 .simp[a];lia
theorem Bm{lo }(v:IV le κ a₀ st j rest)(d:j.flatten.length=lo)(z:1<=n)(u:n<=rest.length)(C:(rest.take n).Pairwise fun x y=>le x y=true)
  (h:∀a l,IV le κ a₀ a l (rest.drop n)->l.flatten.length=lo+n->Q (.yield (none,lo+n)) a) :
  ∀m,m=(do
   let g <-get
   match (pendingOf g).back? with
   |some (o,k,_)=>do
    let c <-forIn [:sz] ((none,()):Option Unit×Unit) fun _ _=>do
     let g <-get
     match if (pendingOf g).size>1 then(pendingOf g)[(pendingOf g).size - 2]? else none with
     |some (_,_,t)=>
      if t<=power' sz (2 * o+k) (2 * o+k+k+n) sz then pure (ForInStep.done (none,()))
      else do
       let b <-mergeAt' ((pendingOf g).size - 2)
       if (!b)=true then pure (ForInStep.done (some (),())) else pure (ForInStep.yield (none,()))
     |_=>pure (ForInStep.done (none,()))
    match c.fst with
    |some r=>pure (ForInStep.done (some r,lo))
    |none=>do
     modify fun s=>setPending s ((pendingOf s).modify ((pendingOf s).size - 1) fun x=>(x.fst,x.2.fst,power' sz (2 * o+k) (2 * o+k+k+n) sz))
     modify fun s=>setPending s ((pendingOf s).push (lo,n,0))
     pure (ForInStep.yield (none,lo+n))
   |_=>do
    modify fun s=>setPending s ((pendingOf s).push (lo,n,0))
    pure (ForInStep.yield (none,lo+n)))->wpS (model prog w) A E s m Q st:=by
 rintro m rfl;refine aL (wpS_get ?_);cases e:(pendingOf st).back? with
 |none=>exact Bl hL tr tt v d z u C h
 |some p=>
  obtain⟨o,k,H⟩:=p;dsimp only;refine aL (wpS_mono (wpS_forRange (I:=fun _ c a=>c=(none,())/\∃j,IV le κ a₀ a j rest/\j.flatten.length=lo)
   (Q:=fun c a=>c=(none,())/\∃j,IV le κ a₀ a j rest/\j.flatten.length=lo) ?_ (fun c a q=>q) ⟨rfl,j,v,d⟩) ?_)
  .rintro x c a _ _ ⟨rfl,j,v,d⟩;refine aL (wpS_get ?_)
   by_cases h1:(pendingOf a).size>1
   .rw[if_pos h1];obtain⟨⟨J,L,M⟩,D⟩:=at_ (c:=pendingOf a) (i:=(pendingOf a).size - 2) (by lia);rw[D];dsimp only;split
    .exact bd ⟨rfl,j,v,d⟩
    .exact aL (Bk hL tr tt v (by lia) fun B l G N O=>bd ⟨rfl,l,G,by lia⟩)
   .rw[if_neg h1];exact bd ⟨rfl,j,v,d⟩
  .rintro c a ⟨rfl,j,v,d⟩;dsimp only;refine aL (wpS_modify (Bl hL tr tt ⟨v.kind,v.failed,v.perm,v.arr,?_⟩ d z u C h));show Rn le 0 ((pendingOf a).modify _ _).toList _;rw[Array.toList_modify];exact v.runs.pw (f:=fun x=>(x.fst,x.2.fst,power' sz (2 * o+k) (2 * o+k+k+n) sz)) fun p=>⟨rfl,rfl⟩
theorem PQ(hk:kindOf st=κ)(hf:failedOf st=none)(hp:pendingOf st = #[])(R:(arrOf st).toList=a₀)
  (h:∀a,failedOf a = none->(arrOf a).toList.Perm a₀->(arrOf a).toList.Pairwise (fun x y=>le x y=true)->Q () a):wpS (model prog w) A E s sortRuns' Q st:=by
 rw[sortRuns'_eq];refine aL (wpS_get ?_);dsimp only;generalize a1:minRun' (arrOf st).size (arrOf st).size 0=mr;generalize S:(arrOf st).size=sz;have T:a₀.length=sz:=by rw[<-R,<-S];simp
 refine aL (wpS_mono (wpS_forRange (I:=fun x c a=>∃lo l rest,c=(none,lo)/\IV le κ a₀ a l rest/\l.flatten.length=lo/\x<=lo)
  (Q:=fun c a=>∃lo l rest,c=(none,lo)/\IV le κ a₀ a l rest/\l.flatten.length=lo/\sz<=lo) ?_ ?_ ⟨0,[],a₀,rfl,⟨hk,hf,by rw[R],by rw[R];rfl,by rw[hp];trivial⟩,rfl,Nat.zero_le _⟩) ?_)
 .rintro x c t _ U ⟨lo,l,rest,rfl,v,u,X⟩;dsimp only
  by_cases D:lo≥sz
  .rw[if_pos D];exact bd ⟨lo,l,rest,rfl,v,u,D⟩
  .rw[if_neg D];have G:(arrOf t).size=sz:=by rw[<-Array.length_toList,v.perm.length_eq,T]
   have B1:Bs κ (·∈a₀) lo t t:=⟨Array.Perm.refl _,v.kind,v.failed,rfl,fun _ _=>rfl,fun x U=>v.perm.mem_iff.mp U⟩
   have df:∀(f:SortSt) (m:Nat),Bs κ (·∈a₀) lo t f->gO le (arrOf f) lo m->m<=sz - lo->∃d,IV le κ a₀ f l d/\d.length=sz - lo/\(d.take m).Pairwise fun x y=>le x y=true:=fun f m C M Y=>by
    have H:(arrOf f).size=sz:=C.size.trans G;have tk:(arrOf f).toList.take lo=l.flatten:=by
     have:(arrOf f).toList.take lo=(arrOf t).toList.take lo:=by
      apply List.ext_getElem?;intro k;rw[List.getElem?_take,List.getElem?_take];split
      .rename_i q;have:=C.keep k q;rwa [cP,cP]at this
      .rfl
     rw[this,v.arr,<-u,List.take_left]
    refine⟨(arrOf f).toList.drop lo,⟨C.kind,C.failed,(Array.perm_iff_toList_perm.mp C.perm).trans v.perm,?_,by rw[C.pend];exact v.runs⟩,by simp[H],?_⟩
    .conv=>lhs;rw[<-List.take_append_drop lo (arrOf f).toList,tk]
    .rw[List.pairwise_iff_getElem];intro i j hi hj a2;simp at hi hj;refine M i j _ _ (by lia) (by lia) ?_ ?_
     .rw[cP,List.getElem_take,List.getElem_drop,List.getElem?_eq_getElem]
     .rw[cP,List.getElem_take,List.getElem_drop,List.getElem?_eq_getElem]
   refine aL (PJ hL tr tt (by lia) (by lia) B1 fun m f C a3 a4 M=>?_);dsimp only;have fin:∀(B:SortSt) (n:Nat),Bs κ (·∈a₀) lo t B->gO le (arrOf B) lo n->1<=n->n<=sz - lo->∀z o,(∃d:List Keyed,d.length=sz - lo/\IV le κ a₀ z o (d.drop n))->o.flatten.length=lo+n->∃J l rest,((none,lo+n):Option Unit×Nat)=(none,J)/\IV le κ a₀ z l rest/\l.flatten.length=J/\x+1<=J:=fun B n Z s3 n1 n2 z o N e4=>by obtain⟨r2,_,v4⟩:=N;exact⟨lo+n,o,_,rfl,v4,e4,by lia⟩
   by_cases O:m<mr
   .rw[if_pos O];refine aL (wpS_lift (wpAny_rule ⟨rfl,?_⟩));refine aL (PL hL tr tt (by lia) (by lia) C M fun B Z s3=>?_);simp only[Bool.not_true,Bool.false_eq_true,if_false];obtain⟨d,v3,l3,p3⟩:=df B _ Z s3 (by lia);refine Bm (sz:=sz) hL tr tt v3 u (by lia) (by lia) p3 (fun z o v4 e4=>?_) _ ?_
    rotate_left
    .refine bL fun g=>?_;cases(pendingOf g).back? with
     |none=>rfl
     |some p=>
      refine fb (fun _ _=>bL fun g=>?_) fun c=>?_
      .cases(if (pendingOf g).size>1 then(pendingOf g)[(pendingOf g).size - 2]? else none)<;>rfl
      .obtain⟨_ |r,c⟩:=c<;>rfl
    exact fin B _ Z s3 (by lia) (by lia) z o ⟨d,l3,v4⟩ e4
   .rw[if_neg O];obtain⟨d,v3,l3,p3⟩:=df f _ C M (by lia);refine Bm (sz:=sz) hL tr tt v3 u (by lia) (by lia) p3 (fun z o v4 e4=>?_) _ ?_
    rotate_left
    .refine bL fun g=>?_;cases(pendingOf g).back? with
     |none=>rfl
     |some p=>
      refine fb (fun _ _=>bL fun g=>?_) fun c=>?_
      .cases(if (pendingOf g).size>1 then(pendingOf g)[(pendingOf g).size - 2]? else none)<;>rfl
      .obtain⟨_ |r,c⟩:=c<;>rfl
    exact fin f _ C M (by lia) (by lia) z o ⟨d,l3,v4⟩ e4
 .rintro c a ⟨lo,l,rest,rfl,v,u,X⟩;exact⟨lo,l,rest,rfl,v,u,by lia⟩
 .rintro c t ⟨lo,l,rest,rfl,v,u,D⟩;dsimp only;have L:rest=[]:=by have l1:=congrArg List.length v.arr;rw[v.perm.length_eq,List.length_append]at l1;exact List.eq_nil_of_length_eq_zero (by lia)
  subst L;have pl:(pendingOf t).size<=sz:=by have l1:=congrArg List.length v.arr;rw[v.perm.length_eq,List.length_append]at l1;have:=v.runs.few;have l2:=v.runs.len;rw[Array.length_toList]at l2;simp only[List.length_nil]at l1;lia
  refine aL (wpS_mono (wpS_forRange (I:=fun x c a=>c=(none,())/\(∃l,IV le κ a₀ a l [])/\(pendingOf a).size<=max 1 (sz - x))
   (Q:=fun c a=>c=(none,())/\(∃l,IV le κ a₀ a l [])/\(pendingOf a).size<=1) ?_ ?_ ⟨rfl,⟨l,v⟩,by lia⟩) ?_)
  .rintro x c a _ U ⟨rfl,⟨l,v⟩,Y⟩;refine aL (wpS_get ?_)
   by_cases h1:(pendingOf a).size<=1
   .rw[if_pos h1];exact bd ⟨rfl,⟨l,v⟩,h1⟩
   .rw[if_neg h1];refine aL (Bk hL tr tt v ?_ fun a0 o v' e1 e2=>bd ⟨rfl,⟨o,v'⟩,by lia⟩);have pk:∀(b:Bool) (i n:Nat),i+1<n->(if b=true then i - 1 else i)+1<n:=fun b i n h=>by cases b<;>simp<;>lia
    exact pk _ _ _ (by lia)
  .rintro c a ⟨rfl,v,Y⟩;exact⟨rfl,v,by lia⟩
  .rintro c a ⟨rfl,⟨l,v⟩,Y⟩;refine bd (h a v.failed v.perm ?_);rw[v.arr,List.append_nil];have l2:=v.runs.len;rw[Array.length_toList]at l2
   match l,v.runs,l2 with
   |[],_,_=>exact .nil
   |[r],q,l2=>have e:∃p,(pendingOf a).toList=[p]:=List.length_eq_one_iff.mp (by rw[Array.length_toList];simpa using l2);obtain⟨p,e⟩:=e;rw[e]at q;simpa using q.2.2.2.1
   |_::_::_,_,l2=>simp at l2;lia
end
theorem Bn:∀a,HT.lexLt a a=false
 |[]=>rfl
 |x::a=>by rw[HT.lexLt_cons,if_pos rfl];exact Bn a
theorem vQ:∀{a b d},HT.lexLt a b=true->HT.lexLt b d=true->HT.lexLt a d=true
 |[],[],_,h,_=>by cases h
 |[],y::b,[],_,h=>by cases h
 |[],_::_,_::_,_,_=>rfl
 |x::a,[],_,h,_=>by cases h
 |x::a,y::b,[],_,h=>by cases h
 |x::a,y::b,z::d,h1,h2=>by
  rw[HT.lexLt_cons]at h1 h2 ⊢
  by_cases e:x=y
  .subst e;rw[if_pos rfl]at h1
   by_cases c:x=z
   .subst c;rw[if_pos rfl]at h2 ⊢;exact vQ h1 h2
   .rw[if_neg c]at h2 ⊢;exact h2
  .rw[if_neg e]at h1
   by_cases c:y=z
   .subst c;rw[if_neg e];exact h1
   .rw[if_neg c]at h2;have f:=of_decide_eq_true h1;have g:=of_decide_eq_true h2;rw[if_neg (by lia)];exact decide_eq_true (by lia)
theorem vR:∀{a b},HT.lexLt a b=false->HT.lexLt b a=false->a=b
 |[],[],_,_=>rfl
 |[],_::_,h,_=>by cases h
 |_::_,[],_,h=>by cases h
 |x::a,y::b,h1,h2=>by
  rw[HT.lexLt_cons]at h1 h2
  by_cases e:x=y
  .subst e;rw[if_pos rfl]at h1 h2;rw[vR h1 h2]
  .rw[if_neg e]at h1;rw[if_neg (Ne.symm e)]at h2;have c:=of_decide_eq_false h1;have d:=of_decide_eq_false h2;lia
def lexLe(a b:List Int):Bool:=!HT.lexLt b a
theorem lexLe_tr(a c d)(g:lexLe a c=true)(b:lexLe c d=true):lexLe a d=true:=by
 unfold lexLe at *;simp only[Bool.not_eq_true']at *;cases e:HT.lexLt d a with
 |false=>rfl
 |true=>
  cases f:HT.lexLt a c with
  |true=>rw[vQ e f]at b;cases b
  |false=>rw[vR f g]at e;rw[e]at b;cases b
theorem lexLe_tt(a b):(lexLe a b||lexLe b a)=true:=by
 unfold lexLe;cases e:HT.lexLt b a with
 |false=>rfl
 |true=>
  cases c:HT.lexLt a b with
  |false=>rfl
  |true=>have:=vQ e c;rw[Bn]at this;cases this
theorem PR(c:lexLe a b=true)(d:lexLe b a=true):a=b:=by unfold lexLe at *;simp only[Bool.not_eq_true']at *;exact vR d c
def sortR(rows:List (List Int)):List (List Int):=rows.mergeSort lexLe
theorem sortR_of(d:c.Perm rows)(e:c.Pairwise fun x y=>lexLe x y=true):c=sortR rows:=
 List.Perm.eq_of_pairwise (fun a b _ _ p q=>PR p q) e (List.pairwise_mergeSort lexLe_tr lexLe_tt rows) (d.trans (List.mergeSort_perm rows lexLe).symm)
theorem sortR_perm(rows):(sortR rows).Perm rows:=List.mergeSort_perm rows lexLe
def rC(n:Nat):Prop:=2<=n->∀(b:Program) (w:World) (A:Around) (E:Value->Shared->Prop) (s:Shared) (le:Keyed->Keyed->Bool) (κ:SortKind) (c:List Keyed) (st:SortSt) (Q:Unit->SortSt->Prop),c.length=n->dP b w A E s le κ (·∈c)->(∀x y z,le x y=true->le y z=true->le x z=true)->(∀x y,(le x y||le y x)=true)->
 kindOf st=κ->failedOf st=none->pendingOf st = #[]->(arrOf st).toList=c->(∀a,failedOf a = none->(arrOf a).toList.Perm c->(arrOf a).toList.Pairwise (fun x y=>le x y=true)->Q () a)->wpS (model b w) A E s sortRuns' Q st
theorem PU(n):rC n:=fun _ _ _ _ _ _ _ _ _ _ _ _ a tr b=>PQ a tr b
abbrev mU(rk:Value->List Int):Keyed->Keyed->Bool:=fun x y=>lexLe (rk x.1) (rk y.1)
structure lD (prog:Program) (w:World) (h0:Heap) (vs:List Value) (rk:Value->List Int) (κ:SortKind):Prop where
 kind:∀(A:Around) (E:Value->Shared->Prop) (s:Shared) (Q:SortKind->Shared->Prop),(∀b o,h0.get? b=some o->s.heap.get? b=some o)->2<=vs.length->Q κ s->wpAny (model prog w) A (keyKind' vs.toArray) Q E s
 lt:∀(A:Around) (E:Value->Shared->Prop) (s:Shared) (Q:Bool->Shared->Prop) (x y:Value),(∀b o,h0.get? b=some o->s.heap.get? b=some o)->x∈vs->y∈vs->Q (HT.lexLt (rk x) (rk y)) s->wpAny (model prog w) A (keyLt' κ x y) Q E s
theorem lD.ltok(k:lD prog w a vs rk κ)(f:∀b o,a.get? b=some o->s.heap.get? b=some o):dP prog w A E s (mU rk) κ (·∈(pairsOf vs).toList):=fun x y c d Q st g q=>by
 rw[pairsOf_toList]at c d;rw[lt'_eq];refine aL (wpS_get ?_);rw[g];refine aL (wpS_lift (wpAny_attempt (k.lt A _ s _ x.1 y.1 f (mem_zip_self c).2 (mem_zip_self d).2 ⟨rfl,?_⟩)));refine bd ?_;have e:(!mU rk y x)=HT.lexLt (rk x.1) (rk y.1):=by unfold mU lexLe;simp
 rw[e]at q;exact q
theorem PV(pN:s.heap.get? a=some (seqObj "list" vs.toArray n))(l:vs.length<=sizeLine)(R:rC vs.length)(k:lD prog w i vs rk κ)(t:∀b o,i.get? b=some o->b≠a/\s.heap.get? b=some o)
  (h:∀f:List Value,f.Perm vs->f.Pairwise (fun x y=>lexLe (rk x) (rk y)=true)->P (.done (.ret .none)) { s with heap:=sortedHeap s.heap a vs f.toArray }) :
  wpAny (model prog w) A (Builtin.«list.sort» ⟨[.ref a],[]⟩) P E s:=by
 rw[list_sort_plain];have la:a<s.heap.objs.size:=bj pN;refine ae (listItems_at pN rfl (ae (listUpdate_at pN rfl ?_ (by simpa using l) (Nat.zero_le _))));obtain⟨m,pO⟩:∃m,(s.heap.update a (Obj.mapSeq fun _=>#[])).get? a=some (seqObj "list" #[] m):=⟨_,get?_update_seq pN fun _=>#[]⟩
 refine ae (seqEpoch_at pO rfl (ae (wpAny_newTuple ?_ (by simpa using l))));refine ae (wpAny_newList ?_ (Nat.zero_le _));refine wpAny_holding ?_;have up:∀{b:Addr}{o:Obj},(s.heap.update a (Obj.mapSeq fun _=>#[])).get? b=some o->(((s.heap.update a (Obj.mapSeq fun _=>#[])).push (seqObj "tuple" vs.toArray 0)).push (seqObj "list" #[] 0)).get? b=some o:=fun e=>aS _ (aS _ e);have d:=up pO;have kp:∀b o,i.get? b=some o->(((s.heap.update a (Obj.mapSeq fun _=>#[])).push (seqObj "tuple" vs.toArray 0)).push (seqObj "list" #[] 0)).get? b=some o:=fun b o e=>up (by rw[Heap.get?_update_ne _ _ _ _ (t b o e).1];exact(t b o e).2);show wpAny (model prog w) A _ P E { s with heap:=((s.heap.update a (Obj.mapSeq fun _=>#[])).push (seqObj "tuple" vs.toArray 0)).push (seqObj "list" #[] 0) };dsimp only;have sz:vs.toArray.size=vs.length:=by simp
 have fin:∀c:SortSt,(arrOf c).toList.Perm (pairsOf vs).toList->(arrOf c).toList.Pairwise (fun x y=>mU rk x y=true)->P (.done (.ret .none)) { s with heap:=sortedHeap s.heap a vs ((arrOf c).map (·.2)) }:=fun c g j=>by
  have r:∀p∈(arrOf c).toList,p.1=p.2:=fun p u=>by have:=g.mem_iff.mp u;rw[pairsOf_toList]at this;exact(mem_zip_self this).1
  have e:(arrOf c).map (·.2)=((arrOf c).toList.map (·.2)).toArray:=by apply Array.toList_inj.mp;simp
  rw[e];refine h _ ?_ ?_
  .have:=g.map (·.2)
   rwa [pairsOf_toList,List.map_snd_zip (bb _)]at this
  .rw[List.pairwise_map];refine List.Pairwise.imp_of_mem (fun {x y} v B q=>?_) j;rw[<-r x v,<-r y B];exact q
 by_cases h2:vs.toArray.size<2
 .rw[if_pos h2,if_pos h2];refine ae (aR ?_);rw[StateT.run_pure];refine ae (aR ?_);dsimp only;refine ae (seqEpoch_at d rfl (ae (listUpdate_at d rfl ?_ (Nat.zero_le _) (by
   have:((pairsOf vs).map (·.2)).size<=sizeLine+1:=by rw[Array.size_map,pairsOf_size];lia
   exact this))))
  simp only[bne_self_eq_false,Bool.false_eq_true,if_false];refine aR (fin (SortSt.mk' general' (vs.toArray.zip vs.toArray) #[] 7 none) (List.Perm.refl _) ?_);show(pairsOf vs).toList.Pairwise _;rw[pairsOf_toList]
  match vs,sz,h2 with
  |[],_,_=>exact .nil
  |[_],_,_=>exact List.pairwise_singleton _ _
  |_::_::_,_,h2=>simp at h2;lia
 .rw[if_neg h2,if_neg h2];refine ae (k.kind _ _ _ _ kp (by lia) ?_);refine ae (wpAny_mono (R (by lia) prog w _ _ _ (mU rk) κ (pairsOf vs).toList (SortSt.mk' κ (vs.toArray.zip vs.toArray) #[] 7 none)
   (fun _ c=>failedOf c = none/\(arrOf c).toList.Perm (pairsOf vs).toList/\(arrOf c).toList.Pairwise (fun x y=>mU rk x y=true))
   (by rw[Array.length_toList,pairsOf_size]) (k.ltok kp) (fun x y z p q=>lexLe_tr _ _ _ p q) (fun x y=>lexLe_tt _ _) rfl rfl rfl rfl fun c C D G=>⟨C,D,G⟩) ?_ fun _ _ e=>e)
  rintro⟨⟨⟩,c⟩ I ⟨rfl,H,g,j⟩;dsimp only;refine ae (seqEpoch_at d rfl (ae (listUpdate_at d rfl ?_ (Nat.zero_le _) (by
   have l1:=g.length_eq;simp only[Array.length_toList,pairsOf_size]at l1;have:((arrOf c).map (·.2)).size<=sizeLine+1:=by rw[Array.size_map];lia
   exact this))))
  rw[H];simp only[bne_self_eq_false,Bool.false_eq_true,if_false];exact aR (fin c g j)
theorem PX{s:Shared}(r:s.heap.IsList l vs.toArray)(d:vs.length<=sizeLine)(R:rC vs.length)(k:lD prog w s.heap vs rk κ)
  (h:∀(a:List Value)  f  n,a.Perm vs->a.Pairwise (fun x y=>lexLe (rk x) (rk y)=true)->(∀b o,s.heap.get? b=some o->f.get? b=some o)->f.get? (s.heap.objs.size+1)=some (seqObj "list" a.toArray n)->Q (.ref (s.heap.objs.size+1)) { s with heap:=f }) :
  wpAny (model prog w) A (call (.builtin "sorted") [.ref l]) Q E s:=by
 refine Calls.call_function_entry kind_sorted plain_sorted entry_sorted (args_sorted1 _) ?_;unfold Builtin.«sorted»;refine ae (m:=checkCount "sorted" 1 1 _) (aR ?_);refine ae (collect_list r (ae (wpAny_newList ?_ d)) d);generalize j:(s.heap.push (seqObj "list" #[] 0)).update s.heap.objs.size (Obj.mapSeq (·++vs.toArray))=g;have p:g.objs.size=s.heap.objs.size+1:=by rw[<-j,Heap.size_update,size_push']
 have t:∀b o,s.heap.get? b=some o->g.get? b=some o:=fun b o e=>by have c:b<s.heap.objs.size:=bj e;rw[<-j,Heap.get?_update_ne _ _ _ _ (Nat.ne_of_lt c),Heap.get?_push_ne _ _ _ (Nat.ne_of_lt c)];exact e
 have sR:(g.push (seqObj "list" vs.toArray 0)).get? (s.heap.objs.size+1)=some (seqObj "list" vs.toArray 0):=by rw[<-p];exact Heap.get?_push_size _ rfl
 show wpAny _ _ _ _ _ { s with heap:=g.push (seqObj "list" vs.toArray 0) };rw[p];have hb:∀b o,s.heap.get? b=some o->b≠s.heap.objs.size+1/\(g.push (seqObj "list" vs.toArray 0)).get? b=some o:=fun b o e=>⟨Nat.ne_of_lt (Nat.lt_succ_of_lt (bj e)),aS _ (t b o e)⟩
 refine ae (wpAny_holding (wpAny_call_entry slot_list_sort ⟨_,sR,rfl⟩ entry_list_sort (PV sR d R k hb fun a u v=>⟨_,rfl,?_⟩) (args_list_sort _)));refine aR ⟨_,rfl,?_⟩;obtain⟨i,pO⟩:∃i,((g.push (seqObj "list" vs.toArray 0)).update (s.heap.objs.size+1) (Obj.mapSeq fun _=>#[])).get? (s.heap.objs.size+1)=some (seqObj "list" #[] i):=⟨_,get?_update_seq sR fun _=>#[]⟩
 have EK:(((((g.push (seqObj "list" vs.toArray 0)).update (s.heap.objs.size+1) (Obj.mapSeq fun _=>#[])).push (seqObj "tuple" vs.toArray 0)).push (seqObj "list" #[] 0))).get? (s.heap.objs.size+1)=some (seqObj "list" #[] i):=aS _ (aS _ pO);refine h a _ _ u v (fun b o e=>?_) (get?_update_seq EK fun _=>a.toArray);have q:=hb b o e;unfold sortedHeap;rw[Heap.get?_update_ne _ _ _ _ q.1];refine aS _ (aS _ ?_);rw[Heap.get?_update_ne _ _ _ _ q.1];exact q.2
noncomputable def eP(h:Heap):Value->List Int
 |.int n _=>[n]
 |.ref a=>(match h.get? a with
  |some o=>(match o.data with
   |.seq b _=>b.toList.map numOf
   |_=>[])
  |none=>[])
 |_=>[]
theorem PY(hv:∀v∈vs,∃n t,v=.int n t):lD prog w h0 vs (eP h0) oneType' where
 kind:=fun A E s Q _ h2 q=>by
  have hI:=intsAre_map vs hv
  match vs,hI,h2 with
  |v1::v2::r,hI,_=>rw[keyKind_ints hI];exact aR q
  |[_],_,h2=>simp at h2
  |[],_,h2=>simp at h2
 lt:=fun A E s Q x y _ hx hy q=>by
  obtain⟨a,t,rfl⟩:=hv x hx;obtain⟨b,u,rfl⟩:=hv y hy;rw[keyLt'_oneType];refine oneLt_int ?_;have e:HT.lexLt (eP h0 (.int a t)) (eP h0 (.int b u))=decide (a<b):=by
   show HT.lexLt [a] [b]=_;rw[HT.lexLt_cons];split
   .rename_i z;subst z;rw[HT.lexLt_nil_nil];symm;exact decide_eq_false (by lia)
   .rfl
  rw[e]at q;exact q
def iU(h:Heap)(v:Value):Prop:=∃(a:Addr) (b:Array Value) (c:List Int),v=.ref a/\IsTup h a b/\IntsAre b.toList c/\c≠[]
theorem iU.rnk(t:iU h v):∃(a:Addr) (b:Array Value) (c:List Int),v=.ref a/\IsTup h a b/\IntsAre b.toList c/\c≠[]/\eP h v=c:=by obtain⟨a,b,c,rfl,d,e,f⟩:=t;refine⟨a,b,c,rfl,d,e,f,?_⟩;obtain⟨o,g,j,n,i⟩:=d;unfold eP;simp only[g,i];exact e.nums
theorem Bo:∀{a c g d} i,IntsAre a g->IntsAre c d->Q (HT.lexLt g d) s->W.KatLex prog w A b (decide (a.length<c.length)) Q (a.zip c) i s
 |_,_,_,_,i,.nil,.nil,q=>W.kat_nil q
 |_,_,_,_,i,.nil,.cons m t h,q=>W.kat_nil (by exact q)
 |_,_,_,_,i,.cons n t h,.nil,q=>W.kat_nil (by exact q)
 |_,_,_,_,i,.cons (vs:=vs) n t h,.cons (vs:=f) m u j,q=>by
  rw[List.zip_cons_cons];refine W.kat_cons (wpAny_eqBool_int ?_);rw[HT.lexLt_cons]at q;have k:decide ((Value.int n t::vs).length<(Value.int m u::f).length)=decide (vs.length<f.length):=by simp
  rw[k];refine W.kat_go (fun e=>W.kat_yes ?_) fun e=>W.kat_no ?_
  .rw[if_pos (by simpa using e)]at q;exact Bo (i+1) h j q
  .rw[if_neg (by simpa using e)]at q;cases b&&i==0 with
   |true=>exact oneLt_int q
   |false=>exact W.kat_one _ _ (lt_int q)
theorem Bp:∀{vs},(∀v∈vs,iU h v)->∃fs,W.KatTups h vs fs/\fs.length=vs.length/\∀f∈fs,∃n t,f=Value.int n t
 |[],_=>⟨[],.nil,rfl,fun _ h=>by cases h⟩
 |v::vs,d=>by
  obtain⟨fs,h1,h2,h3⟩:=Bp (vs:=vs) fun u g=>d u (bq _ g);obtain⟨a,b,ns,rfl,⟨o,i,j,n,k⟩,e,p⟩:=d v List.mem_cons_self;obtain⟨m,t,r,q⟩:∃m t r,b.toList=Value.int m t::r:=by
   generalize b.toList=l at e;cases e with
   |nil=>exact absurd rfl p
   |cons n t h=>exact⟨n,t,_,rfl⟩
  refine⟨.int m t::fs,.cons i j k (f:=.int m t) (by rw[cP,q];rfl) h1,by simp[h2],fun f c=>?_⟩;rcases List.mem_cons.mp c with rfl |c
  .exact⟨m,t,rfl⟩
  .exact h3 f c
theorem iU.mono(k:∀b o,h.get? b=some o->d.get? b=some o)(t:iU h v):iU d v:=
 let⟨a,c,ns,e,⟨o,f,g⟩,i,j⟩:=t;⟨a,c,ns,e,⟨o,k _ _ f,g⟩,i,j⟩
theorem PZ(hv:∀v∈vs,iU h0 v):lD prog w h0 vs (eP h0) (tuples' true) where
 kind:=fun A E s Q kp h2 q=>by obtain⟨fs,h1,h3,h4⟩:=Bp (h:=s.heap) (vs:=vs) fun v hv'=>(hv v hv').mono kp;refine W.kat_kind (T:=.type "int") h1 (by lia) (fun f hf=>?_) (by decide) q;obtain⟨n,t,rfl⟩:=h4 f hf;exact .now
 lt:=fun A E s Q x y kp hx hy q=>by obtain⟨a,its,ns,rfl,⟨o,e1,e2,k,e3⟩,t2,t3,r1⟩:=(hv x hx).rnk;obtain⟨b,jts,ms,rfl,⟨o',e1',e2',k',e3'⟩,t2',t3',r2⟩:=(hv y hy).rnk;rw[r1,r2]at q;refine W.kat_lt (kp _ _ e1) e3 (kp _ _ e1') e3' ?_;have:=Bo (prog:=prog) (w:=w) (A:=A) (s:=s) (b:=true) (Q:=Q) 0 t2 t2' q;simpa using this
theorem Qa{α β:Type}{f:α->β}{l m}(h:l.Perm m):∀{ts},m=ts.map f->∃a:List α,a.Perm ts/\a.map f=l:=by
 induction h with
 |nil=>
  intro ts e;cases ts with
  |nil=>exact⟨[],.nil,rfl⟩
  |cons _ _=>cases e
 |cons x _ d=>
  intro ts e;cases ts with
  |nil=>cases e
  |cons t ts=>simp only[List.map_cons,List.cons.injEq]at e;obtain⟨a,h1,h2⟩:=d e.2;exact⟨t::a,h1.cons t,by rw[List.map_cons,h2,e.1]⟩
 |swap x y l=>
  intro ts e
  match ts,e with
  |[],e=>cases e
  |[_],e=>cases e
  |t::u::ts,e=>simp only[List.map_cons,List.cons.injEq]at e;exact⟨u::t::ts,.swap t u ts,by simp[e.1,e.2.1,e.2.2]⟩
 |trans _ _ b c=>intro ts e;obtain⟨j,h1,h2⟩:=c e;obtain⟨g,h3,i⟩:=b h2.symm;exact⟨g,h3.trans h1,i⟩
theorem Paired.zipAll:∀{a:List α}{b},Paired R a b->∀p∈a.zip b,R p.1 p.2
 |_,_,.nil,p,h=>by cases h
 |_,_,.cons r t,p,h=>by
  rw[List.zip_cons_cons]at h;rcases List.mem_cons.mp h with rfl |h
  .exact r
  .exact Paired.zipAll t p h
theorem Paired.ofZip:∀{a:List (α×β)},(∀p∈a,R p.1 p.2)->Paired R (a.map (·.1)) (a.map (·.2))
 |[],_=>.nil
 |z::a,h=>.cons (h z List.mem_cons_self) (Paired.ofZip fun p b=>h p (bq _ b))
def RowV(K:Frag)(H:Hp):Bool->V->List Int->Prop
 |false,v,r=>∃i,v=.int i/\r=[i]
 |true,v,r=>∃a,v=.ref a/\cZ K H a (r.map V.int)/\r≠[]
def rSortedP(P:Nat->Prop)(K:Frag):List V->Hp->VK->Prop:=fun d H Q=>∃p a rows b,P a.length/\d=[.ref p]/\cE K H p a/\Paired (RowV K H b) a rows/\
 ∀(l:Addr) (c:List (V×List Int)),H l=none->c.Perm (a.zip rows)->c.map (·.2)=sortR rows->Q (.ref l) (aI H l (.lst (c.map (·.1))))
theorem Qb(R:∀n,P n->rC n):gr X (.builtin "sorted") (rSortedP P X.K):=by
 intro U s Y H xs us Q I r h;obtain⟨p,B,rows,b,hP,rfl,hq,hr,q⟩:=h;obtain⟨u,rfl,rx⟩:=vals1 r;cases rx;obtain⟨C,M,pl,hz⟩:=I.list hq;have D:=M.length;have key:∀(y:V) (v:Value) (row:List Int),bf y v->RowV X.K H b y row->eP s.heap v=row/\(b=true->iU s.heap v)/\(b=false->∃n t,v=.int n t):=fun y v row rel Z=>by
  cases b with
  |false=>obtain⟨i,rfl,rfl⟩:=Z;obtain⟨t,rfl⟩:=rel;exact⟨rfl,(fun z=>by cases z),fun _=>⟨i,t,rfl⟩⟩
  |true=>
   obtain⟨a,rfl,sq,ne⟩:=Z;cases rel;obtain⟨E,rj,tj,_⟩:=I.tuple sq;have ia:IntsAre E row:=L3.ints_are rj;have T:iU s.heap (.ref a):=⟨a,E.toArray,row,rfl,tj,by simpa using ia,ne⟩
   obtain⟨a',a0,a1,L,⟨o,q1,q2,n,q3⟩,e3,e4,e5⟩:=T.rnk;refine⟨?_,fun _=>T,fun z=>by cases z⟩;obtain⟨o',G,p2,n',p3⟩:=tj;unfold eP;simp only[G,p3];exact ia.nums
 have all:∀{B:List V}{vs:List Value}{rows:List (List Int)},bi B vs->Paired (RowV X.K H b) B rows->vs.map (eP s.heap)=rows/\∀v∈vs,(b=true->iU s.heap v)/\(b=false->∃n t,v=.int n t):=by
  intro B vs rows h1
  induction h1 generalizing rows with
  |nil=>intro S;cases S;exact⟨rfl,fun _ h=>by cases h⟩
  |cons a _ ih=>
   intro S;cases S with
   |cons c d=>
    obtain⟨L,e2⟩:=ih d;have k:=key _ _ _ a c;refine⟨by rw[List.map_cons,L,k.1],fun v m=>?_⟩;rcases List.mem_cons.mp m with rfl |m
    .exact k.2
    .exact e2 v m
 obtain⟨J,j⟩:=all M hr;have x:∃κ,lD X.prog X.w s.heap C (eP s.heap) κ:=by
  cases b with
  |false=>exact⟨_,PY fun v m=>(j v m).2 rfl⟩
  |true=>exact⟨_,PZ fun v m=>(j v m).1 rfl⟩
 obtain⟨κ,x⟩:=x;refine PX (rk:=eP s.heap) pl.isList (by lia) (R _ (by rw[<-D];exact hP)) x fun A h' n G p2 kp e=>?_;obtain⟨g,t1,t2⟩:=Qa (f:=fun t:V×Value=>t.2) G (ts:=B.zip C) (by rw[List.map_snd_zip (by lia)]);have rel:∀t∈g,bf t.1 t.2:=fun t ht=>Paired.zipAll M t (t1.mem_iff.mp ht);have l:bi (g.map (·.1)) A:=by
  have:=Paired.ofZip (R:=bf) rel
  rwa [t2]at this
 have lz:(g.map (·.1)).length<=sizeLine:=by rw[l.length,G.length_eq];lia
 have N:(g.map fun t=>(t.1,eP s.heap t.2)).Perm (B.zip rows):=by
  have:=t1.map fun t:V×Value=>(t.1,eP s.heap t.2)
  refine this.trans (.of_eq ?_);rw[<-J,List.zip_map_right];rfl
 have O:(g.map fun t=>(t.1,eP s.heap t.2)).map (·.2)=sortR rows:=by
  have L:(g.map fun t=>(t.1,eP s.heap t.2)).map (·.2)=A.map (eP s.heap):=by rw[<-t2];simp
  rw[L];refine sortR_of ?_ ?_
  .rw[<-J];exact G.map _
  .rw[List.pairwise_map];exact p2
 have fin:=q (s.heap.objs.size+1) _ (I.hok.fresh (Nat.le_succ _)) N O;have e3:(g.map fun t=>(t.1,eP s.heap t.2)).map (·.1)=g.map (·.1):=by simp
 rw[e3]at fin;exact⟨.ref (s.heap.objs.size+1),_,I.laid (t':=s.toks) kp (Nat.le_succ _) (show cz X.prog X.w _ h' _ (.lst (g.map (·.1))) from⟨lz,A,n,l,e⟩),rfl,fin⟩
abbrev rSorted:=rSortedP fun _=>True
theorem call_sorted:gr X (.builtin "sorted") (rSorted X.K):=Qb fun n _=>PU n
end L2.TS
namespace L2.L3
open PySem PySem.Spec PyProof.Rows
noncomputable def vS(c:List Int):List Int:=c.mergeSort fun a b=>decide (a<=b)
def oZ(a:List PyData):Option (List PyData):=match ic a with
 |some ns=>some ((vS ns).map PyData.int)
 |none=>(match iR a with
  |some rows=>if rows.all (fun r=>!r.isEmpty)=true then some ((TS.sortR rows).map fun r=>.tuple (r.map PyData.int)) else none
  |none=>none)
def mV:List PyData->Option PyData:=fun a=>match a with
 |[.list ds]=>(oZ ds).map PyData.list
 |_=>none
def Bq:DN:=fun a Q=>∃d,mV a=some d/\Q d
theorem Qc(d):(TS.sortR (d.map fun n=>[n])).map (fun r=>r.headD 0)=vS d:=by
 have p:=(TS.sortR_perm (d.map fun n=>[n])).map (fun r=>r.headD 0);have e:(d.map fun n=>[n]).map (fun r=>r.headD 0)=d:=by rw[List.map_map];exact(List.map_congr_left fun n _=>rfl).trans (List.map_id d)
 rw[e]at p;refine List.Perm.eq_of_pairwise (le:=fun a b=>decide (a<=b)=true) (fun a b _ _ f g=>by simp at f g;lia) ?_ (List.pairwise_mergeSort (fun a b c f g=>by simp at *;lia) (fun a b=>by simp;lia) d) (p.trans (List.mergeSort_perm _ _).symm);rw[List.pairwise_map];have q:(TS.sortR (d.map fun n=>[n])).Pairwise (fun x y=>TS.lexLe x y=true):=List.pairwise_mergeSort TS.lexLe_tr TS.lexLe_tt _;refine List.Pairwise.imp_of_mem (fun {x y} i j h=>?_) q;obtain⟨a,_,rfl⟩:=List.mem_map.mp ((TS.sortR_perm _).mem_iff.mp i);obtain⟨b,_,rfl⟩:=List.mem_map.mp ((TS.sortR_perm _).mem_iff.mp j);refine decide_eq_true (show a<=b from ?_);unfold TS.lexLe at h;rw[HT.lexLt_cons]at h
 by_cases e:b=a
 .exact Int.le_of_eq e.symm
 .rw[if_neg e]at h
  by_cases k:b<a
  .simp[k]at h
  .omega
theorem Br:∀{c}{rows:List (List Int)},aG G c (rows.map mk)->Paired (fun y r=>DV G y (mk r)) c rows
 |_,[],.nil=>.nil
 |_,_::_,.cons a b=>.cons a (Br b)
theorem Bt:∀{c}{rows:List (List Int)},Paired (fun y r=>DV G y (mk r)) c rows->aG G c (rows.map mk)
 |_,_,.nil=>.nil
 |_,_,.cons a b=>.cons a (Bt b)
theorem Qd{K}(x:P f.length)(A:∀p,H p=none->p∉O)(u:aq O H a=some (.lst f))(B:aG (aq O H) f j)(e:(oZ j).map PyData.list=some d)(q:∀v m,bR H m->DV (aq O m) v d->Q v m):TS.rSortedP P K [.ref a] H Q:=by
 have sq:cE K H a f:=.of (cT u).1;have go:∀(b:Bool) (mk:List Int->PyData) (rows:List (List Int)),j=rows.map mk->(∀y r,r∈rows->DV (aq O H) y (mk r)->TS.RowV K H b y r)->d=.list ((TS.sortR rows).map mk)->TS.rSortedP P K [.ref a] H Q:=fun b mk rows C D E=>by
  subst C;have pr:=Br B;have o:Paired (TS.RowV K H b) f rows:=by
   clear sq u;have:∀{f:List V}{k:List (List Int)},(∀r∈k,r∈rows)->Paired (fun y r=>DV (aq O H) y (mk r)) f k->Paired (TS.RowV K H b) f k:=by
    intro f k w p
    induction p with
    |nil=>exact .nil
    |cons c _ G=>exact .cons (D _ _ (w _ List.mem_cons_self) c) (G fun r g=>w r (bq _ g))
   exact this (fun _ h=>h) pr
  refine⟨a,f,rows,b,x,rfl,sq,o,fun l I s J L=>?_⟩;subst E;refine q _ _ (bS s) (jV s (A l s) ?_);have M:∀z∈I,DV (aq O H) z.1 (mk z.2):=fun z N=>TS.Paired.zipAll pr z (J.mem_iff.mp N);have:=Bt (TS.Paired.ofZip (R:=fun y r=>DV (aq O H) y (mk r)) M)
  rwa [L]at this
 unfold oZ at e;cases h2:ic j with
 |some ns=>
  rw[h2]at e;simp only[Option.map_some,Option.some.injEq]at e;refine go false (fun r=>.int (r.headD 0)) (ns.map fun n=>[n]) (by rw[vJ h2];simp) (fun y r g t=>?_) ?_
  .obtain⟨n,_,rfl⟩:=List.mem_map.mp g;exact⟨n,t.int_inv,rfl⟩
  .rw[<-e,<-Qc,List.map_map];rfl
 |none=>
  rw[h2]at e;cases h3:iR j with
  |none=>rw[h3]at e;cases e
  |some rows=>
   rw[h3]at e;dsimp only at e;split at e
   .rename_i i;simp only[Option.map_some,Option.some.injEq]at e;refine go true (fun r=>.tuple (r.map PyData.int)) rows (vK h3) (fun y r g t=>?_) e.symm;obtain⟨b,T,rfl,hb,S⟩:=t.tup_inv;rw[vL S]at hb;refine⟨b,rfl,.inl (fM hb).1,fun z=>?_⟩;have:=List.all_eq_true.mp i r g;rw[z]at this;cases this
   .cases e
theorem Qe{K}:iF (TS.rSorted K) Bq where
 mn:=fun _ _ _ k ⟨d,e,q⟩=>⟨d,e,k _ q⟩
 ok:=fun O H vs xs Q hO hd q=>by
  obtain⟨d,e,q⟩:=q;obtain⟨ds,rfl⟩:∃ds,xs=[.list ds]:=by
   unfold mV at e;split at e
   .exact⟨_,rfl⟩
   .cases e
  obtain⟨x,rfl,h1⟩:=hJ hd;obtain⟨a,ys,rfl,ha,hy⟩:=h1.lst_inv;exact Qd trivial hO ha hy e q
theorem Qf:FN Bq mV:=fun a d Q e q=>⟨d,e,q⟩
end L2.L3
namespace L2
open PySem PySem.Spec PyProof.Rows
open AutoSeq1 (wpAny_loadPart')
theorem Qg(l a n e)(o) :
  Meets (Builtin.«enumerate.__new__» ⟨[.type "enumerate",.ref l],[]⟩) (fun _ R s=>s.heap.get? l=some { cls:=.type "tuple",dict:=e,data:=.seq a n,slots:=o }/\
   R (.ok (.ret (.ref (s.heap.push { cls:=.type "tuple_iterator",data:=.fields #[.ref l,.int 0 0] }).objs.size)))
    { s with heap:=(s.heap.push { cls:=.type "tuple_iterator",data:=.fields #[.ref l,.int 0 0] }).push { cls:=.type "enumerate",data:=.fields #[.none,.bool false,.ref s.heap.objs.size,rawInt 0,.none,.none] } }):=
 .of_wp fun j w A R s h=>by
  obtain⟨k,g,d,m,os⟩:=s;obtain⟨b,h⟩:=h;have i:=sub_enumerate;have f:Heap.IsTuple (Shared.heap ⟨k,g,d,m,os⟩) l a:=⟨_,b,rfl,n,rfl⟩
  wp_walk using wpAny_loadPart' b
  refine wpAny_stack_any fun st=>aR ?_;split
  .rename_i c _ _ _ _ _;cases(c==Value.type "enumerate")
   .wp_walk using wpAny_loadPart' b,wpAny_pyIter_tuple f
    exact⟨_,rfl,h⟩
   .wp_walk using wpAny_loadPart' b,wpAny_pyIter_tuple f
    exact⟨_,rfl,h⟩
  .wp_walk using wpAny_loadPart' b,wpAny_pyIter_tuple f
   exact⟨_,rfl,h⟩
theorem Qh{s:Shared}(q:s.heap.IsTuple l a)
  (h:∀f,IsEnum f (s.heap.objs.size+1) s.heap.objs.size 0 .none->f.IsTupleIter s.heap.objs.size l 0->(∀b o,s.heap.get? b=some o->f.get? b=some o)->Q (.ref (s.heap.objs.size+1)) { s with heap:=f }) :
  wpAny (model d w) A (call (.type "enumerate") [.ref l]) Q E s:=by
 obtain⟨⟨c,i,r,sl⟩,t,j,n,hd⟩:=q
 replace j:c=.type "tuple":=j
 replace hd:r=.seq a n:=hd
 subst j hd;refine callType_new F.called_enumerate (by decide) (F.typeCall_enumerate_1 _) (F.newCall_enumerate_1 _) (fun obj=>F.args_object_init_2 obj _) F.entry_enumerate_new
  (Qg l a n i sl) ⟨t,?_⟩
 generalize k:s.heap.push { cls:=.type "tuple_iterator",data:=.fields #[.ref l,.int 0 0] }=g;have m:g.objs.size=s.heap.objs.size+1:=by rw[<-k];exact Heap.size_push ..
 have u:g.get? s.heap.objs.size=some { cls:=.type "tuple_iterator",data:=.fields #[.ref l,.int 0 0] }:=by rw[<-k];exact Heap.get?_push_size _ rfl
 have v:∀b o,s.heap.get? b=some o->g.get? b=some o:=fun b o e=>by rw[<-k];exact aS _ e
 show _/\_;rw[m];have p:IsEnum (g.push { cls:=.type "enumerate",data:=.fields #[.none,.bool false,.ref s.heap.objs.size,rawInt 0,.none,.none] }) (s.heap.objs.size+1) s.heap.objs.size 0 .none:=by have:=Heap.get?_push_size g (o:={ cls:=.type "enumerate",data:=.fields #[.none,.bool false,.ref s.heap.objs.size,rawInt 0,.none,.none] }) rfl;rw[m]at this;exact this
 exact⟨⟨_,p,rfl⟩,h _ p ⟨_,aS _ u,rfl,rfl⟩ fun b o x=>aS _ (v b o x)⟩
noncomputable def Bu(K:Frag)(a:Addr):It:=
 ⟨fun i H=>∃b x,cZ K H a b/\b[i]? = some x,fun i H v c=>∃T x,v=.ref T/\H T=none/\c = aI H T (.tup [.int i,x])/\∀b,cZ K H a b->b[i]? = some x,fun i H=>∃b,cZ K H a b/\b.length=i⟩
theorem Qi{K}(a e it)(hne:e≠it):fj P w K (.Tuple elts kk tpos) (Bu K a) [e,it] e (fun i h=>(∃old,IsEnum h e it i old)/\h.IsTupleIter it a i) where
 mem:=by simp
 obj:=fun i h st b hb=>by
  obtain⟨⟨old,he⟩,o,e1,c,d⟩:=st;rcases List.mem_cons.mp hb with rfl |hb
  .exact⟨_,he,fun v z=>by cases z⟩
  .obtain rfl:=List.mem_singleton.mp hb;exact⟨o,e1,fun v z=>by rw[d]at z;cases z⟩
 keep:=fun i h h' st k=>⟨st.1.elim fun old he=>⟨old,k e (by simp) _ he⟩,(let⟨o,e',r⟩:=st.2;⟨o,k it (by simp) o e',r⟩)⟩
 item:=by
  intro X hP hw hK hc i pins s Y H E I hf st hg;subst hP hw hK;obtain⟨⟨old,he⟩,hit⟩:=st;obtain⟨xs,x,hq,hx⟩:=hg;obtain⟨its,rv,p,hz⟩:=I.tuple hq;obtain⟨u,hu,ru⟩:=rv.get hx;have hh:X.A.in1.handled=none:=I.ok.hd hc;have hae:a≠e:=fun q=>by obtain⟨o,e1,e2,_⟩:=p;rw[q]at e1;rw[he]at e1;cases e1;exact absurd (show Value.type "enumerate" = Value.type "tuple" from e2) (by decide)
  have hai:a≠it:=fun q=>by obtain⟨o,e1,e2,_⟩:=p;obtain⟨o',e1',c',_⟩:=hit;rw[q]at e1;rw[e1']at e1;cases e1;rw[c']at e2;exact absurd e2 (by decide)
  refine wpAny_pyNext_enum_itemD (qR hh it a hai its.toArray) he ⟨hit,p⟩ (by simpa using(List.getElem?_eq_some_iff.mp hu).1) hne (by simp only[List.mem_cons,List.not_mem_nil,or_false,not_or];exact⟨hne,Ne.symm hae⟩) fun x' h' tk ex ho hi' hT hsz hk=>⟨_,rfl,?_⟩
  obtain rfl:x' = u:=by have:its.toArray[i]? = some x':=ex;rw[List.getElem?_toArray,hu]at this;exact(Option.some.inj this).symm
  refine wpAny_letOwnedTupleGo_enum (s:={ s with heap:=h',toks:=tk+1 }) ho fun h2 he2 hs2=>?_;have hel:s.heap.objs.size≠e:=Nat.ne_of_gt (bj he);have k2:∀b ob,b∉[e,it]->s.heap.get? b=some ob->h2.get? b=some ob:=fun b ob hb q=>by simp only[List.mem_cons,List.not_mem_nil,or_false,not_or]at hb;exact(hs2.2 b hb.1).trans (hk b ob hb.1 hb.2 q)
  have it2:h2.IsTupleIter it a (i+1):=let⟨o,e1,r⟩:=hi'.1;⟨o,(hs2.2 it (Ne.symm hne)).trans e1,r⟩;have I1:Inv X pins Y (aI H s.heap.objs.size (.tup [.int i,x])) { s with heap:=h2,toks:=tk+1 }:=by
   refine I.turnedNew (ch:=[e,it]) hf k2 (bb _) (fun b hb ob q=>?_) ?_
   .rcases List.mem_cons.mp hb with rfl |hb
    .exact⟨_,he2⟩
    .obtain rfl:=List.mem_singleton.mp hb;obtain⟨o,e1,_⟩:=it2;exact⟨o,e1⟩
   .exact⟨by show 2<=sizeLine;decide,[.int i tk,x'],.cons ⟨_,rfl⟩ (.cons ru .nil),⟨_,(hs2.2 _ hel).trans hT,rfl,_,rfl⟩⟩
  refine⟨.ref s.heap.objs.size,_,I1,rfl,⟨_,x,rfl,I.hok.fresh (bb _),rfl,fun ys hy=>by rw[I.tuple_inj hy hq];exact hx⟩,⟨⟨_,by simpa using he2⟩,it2⟩,fun b hb=>?_⟩;have hb':b<s.heap.objs.size:=by
   rcases List.mem_cons.mp hb with rfl |hb
   .exact bj he
   .obtain rfl:=List.mem_singleton.mp hb;obtain⟨o,e1,_⟩:=hit;exact bj e1
  rw[bv (Nat.ne_of_lt hb')];exact(hf b hb).1
 done:=by
  intro X hP hw hK hc i pins s Y H E I hf st hg;subst hP hw hK;obtain⟨⟨old,he⟩,hit⟩:=st;obtain⟨xs,hq,rfl⟩:=hg;obtain⟨its,rv,p,hz⟩:=I.tuple hq;obtain⟨f0,f1,f2,f3,f4,f5⟩:=hf it (by simp);have hh:X.A.in1.handled=none:=I.ok.hd hc;have hai:a≠it:=fun q=>by obtain⟨o,e1,e2,_⟩:=p;obtain⟨o',e1',c',_⟩:=hit;rw[q]at e1;rw[e1']at e1;cases e1;rw[c']at e2;exact absurd e2 (by decide)
  refine wpAny_pyNext_enum_endD (qR hh it a hai its.toArray) he ⟨?_,p⟩ fun h' eb=>⟨rfl,I.turned (t':=s.toks) (fun b o hb e=>eb b o hb e) f0 f1 f3 f4 f5⟩
  have:its.toArray.size=xs.length:=by rw[List.size_toArray,rv.length]
  rw[this];exact hit
 self:=fun _ _ _ _ _ st h=>st.1.elim fun _ he=>wpAny_pyIter_enum he h
def Qj(K:Frag)(c:TA):TI:=fun Y H R=>c Y H fun vs b=>∃a d,vs=[.ref a]/\cZ K b a d/\R (Bu K a) b
theorem Qk(j:Gl X "enumerate")(k:X.mg "enumerate" = none)(m:PA X [a] g)(n:autoParam (starEach [a] X.env=[(false,eval a X.env)]) Zq._auto_1):PI X (.Tuple elts kk tpos) (.Call (.Name "enumerate" p) [a] [] pos) (Qj X.K g):=by
 intro d s Y H R I h;refine Call_ (iw I j k (show bootBuiltins "enumerate" = some (.type "enumerate") by decide +kernel) (PyProof.Rows.callWith_type1 (aN (m pos d s Y H _ I h) fun A c e=>?_) n rfl));obtain⟨vs,o,I1,r,t⟩:=e;obtain⟨l,B,rfl,v,q⟩:=t;obtain⟨u,rfl,ru⟩:=vals1 r;cases ru;obtain⟨w,C,p,D⟩:=I1.tuple v;refine Qh p fun x i y z=>?_;refine wpAny_pyIter_enum (s:={ c with heap:=x }) i ?_;refine⟨c.heap.objs.size+1,[c.heap.objs.size+1,c.heap.objs.size],_,_,o,rfl,I1.kept (t':=c.toks) z,Qi l _ _ (Nat.succ_ne_self _),⟨⟨_,i⟩,y⟩,fun b f=>?_,q⟩;have hb':c.heap.objs.size<=b:=by
  rcases List.mem_cons.mp f with rfl |f
  .exact Nat.le_succ _
  .obtain rfl:=List.mem_singleton.mp f;exact bb _
 exact I1.fpOk hb' (I1.hok.fresh hb')
end L2
namespace L2.L3
open PySem PySem.Spec PyProof.Rows
def Bv(t:dk):ej:=fun U Q=>t U fun d c=>∃b,d=[.tuple b]/\Q (numbered b) c
theorem Bw(I:Gl X "enumerate")(J:X.mg "enumerate" = none)(w:DA X F [a] tA)(L:autoParam (starEach [a] X.env=[(false,eval a X.env)]) Zq._auto_1):DI X F (.Tuple b G c) (.Call (.Name "enumerate" p) [a] [] pos) (Bv tA):=
 ⟨fun _ _ _ k q=>w.mn _ _ _ (fun _ _ f=>by obtain⟨j,e,q⟩:=f;exact⟨j,e,k _ _ q⟩) q,(Qk I J w.pa L).imp fun Y H R g=>by obtain⟨U,O,st,q⟩:=g;exact 
  ⟨U,O,st,w.mn _ _ _ (fun ds U1 h vs M N z Q S=>by
   obtain⟨es,e,A⟩:=h;subst e;cases S with
   |cons d r=>
    cases r;obtain⟨a,l,rfl,Z,hd⟩:=d.tup_inv;obtain⟨m,n⟩:=fM Z;refine⟨a,l,rfl,.inl m,A _ M N z Q fun O' H' s ok=>?_⟩;have h2:Rd H' a (.tup l):=m.imp (fun e=>s.keep a _ n e) fun t=>by obtain⟨o,e⟩:=t;exact⟨o,s.keep a _ n e⟩
    have B:=aG.mono s.hid hd;refine⟨fun i d e=>?_,⟨l,.inl h2,by unfold numbered;rw[List.length_mapIdx,hd.length]⟩⟩;unfold numbered at e;rw[List.getElem?_mapIdx]at e;obtain⟨d0,e1,e2⟩:=Option.map_eq_some_iff.mp e;subst e2;obtain⟨v,D,dv⟩:=B.get e1;refine⟨⟨l,v,.inl h2,D⟩,fun x a0 u=>?_⟩;obtain⟨T,y,A,C,q3,q4⟩:=u;subst A q3;have:=q4 l (.inl h2);rw[D]at this;cases this;exact⟨bS C,jW C (ok.nofree T C) (.cons (.int _) (.cons dv .nil))⟩) q⟩⟩
@[simp] def rD:List PyData->Option (List PyData):=fun b=>match b with
 |[.tuple ds]=>some (numbered ds)
 |_=>none
theorem By(h:DI X F c e (Bv (wp E d))):FI X F E c e (er rD d):=h.imp aE fun U Q q=>aE _ _ _ (fun j i f=>by
 obtain⟨y,b,g⟩:=dg f;unfold rD at b;split at b
 .cases b;exact⟨_,rfl,g⟩
 .cases b) (bT q)
noncomputable def kt(a:List Str):List PyData:=a.map PyData.str
def pc(K:Frag)(g:Addr)(b:List Str):Prop:=
 ∃(o:Obj) (a:Array Value) (n:Nat),K.lookup g=some o/\o.cls=.type "tuple"/\o.data=.seq a n/\a.size<=sizeLine/\bi (b.map V.str) a.toList
theorem pc.sq{K}(h:pc K g a)(H):cZ K H g (a.map V.str):=.inr h
theorem Ql{K}(h:pc K g ws):Wk O H (qd K g) (kt ws):=fun l b s ok=>by
 refine⟨fun i d e=>?_,⟨_,h.sq b,by simp[kt]⟩⟩;unfold kt at e;rw[List.getElem?_map]at e;obtain⟨y,f,rfl⟩:=Option.map_eq_some_iff.mp e;have c:(ws.map V.str)[i]? = some (.str y):=by rw[List.getElem?_map,f];rfl
 refine⟨⟨_,_,h.sq b,c⟩,fun x a ⟨j,k⟩=>?_⟩;subst j;have:=k _ (h.sq a);rw[c]at this;cases this;exact⟨fun _ _ h=>h,.str _⟩
@[simp]noncomputable def iC(a:List PyData):XM (List PyData):=fun U=>.ok a U
theorem Qm(b:Gl X x)(c:X.mg x=some (.ref g))(h:pc X.K g ws)(hd:autoParam ((x==("__debug__":Str))=false) Zr._auto_1):FI X F E tg (.Name x pos) (iC (kt ws)):=
 ⟨aE,(xz (xt (v:=.ref g) b c rfl hd)).imp fun Y H R a=>by obtain⟨U,O,st,q⟩:=a;exact⟨g,rfl,⟨_,h.sq H⟩,q _ H O st (.refl ..) (Ql h)⟩⟩
@[simp]noncomputable def rE(i j:Nat)(n:Int)(c:ab):SM:=fun d=>if i<d.length then(match c with |.own true _=>.bad |c=>.nx ((d.set i (some c)).set j (some (.dat (.int n))))) else .bad
@[simp] def Bz(i j:Nat)(n:Int)(m:XM ab):SM:=fun U=>dD (m U) (rE i j n)
theorem Qn{pos }(A:X.calm=true)(B:X.N.Nodup)(C:X.N[i]? = some x)(G:X.N[j]? = some y)(s:i≠j)
  (I:X.env.scope.names.lookup x=some .local) (J:X.env.scope.names.lookup y=some .local) (w:FO X F E a m)
  (L:autoParam (swappedStores [.Tuple [.Name x l,.Name y py] o pt] (.Tuple [a,.Constant (.int n) h pb] p kP) X.env=pure (some [x,y])) Zq._auto_1)
  (M:autoParam (swapsWithSole [.Tuple [.Name x l,.Name y py] o pt] (.Tuple [a,.Constant (.int n) h pb] p kP) pos.line X.env=pure false) Zq._auto_1)
  (h1:autoParam (starEach [a,.Constant (.int n) h pb] X.env=(false,eval a X.env)::starEach [.Constant (.int n) h pb] X.env) Zq._auto_1) (h2:autoParam (starEach [.Constant (.int n) h pb] X.env=(false,eval (.Constant (.int n) h pb) X.env)::starEach [] X.env) Zq._auto_1) :
  FS X F E (.Assign [.Tuple [.Name x l,.Name y py] o pt] (.Tuple [a,.Constant (.int n) h pb] p kP) pos) (Bz i j n m):=
 (Hn A B C G s I J (em w.pe (em qa fm h2) h1) L M).imp fun D Y H ⟨U,O,Q,st,q,f⟩=>⟨U,O,st,w.mn _ _ _ (fun c t e v R O1 fp r S=>by
  have T:i<t.length/\(∀b,c≠.own true b)/\Q.nx ((t.set i (some c)).set j (some (.dat (.int n)))):=by
   unfold wpS rE at e
   by_cases g:i<t.length
   .simp only[if_pos g]at e;cases c with
    |own io b=>cases io with
     |true=>exact e.elim
     |false=>exact⟨g,(fun _ z=>by cases z),e⟩
    |dat d=>exact⟨g,(fun _ z=>by cases z),e⟩
    |scr d=>exact⟨g,(fun _ z=>by cases z),e⟩
    |exc d=>exact⟨g,(fun _ z=>by cases z),e⟩
    |vw d=>exact⟨g,(fun _ z=>by cases z),e⟩
   .simp only[if_neg g]at e
  obtain⟨g,Z,q2⟩:=T;obtain⟨O2,u,s2⟩:=aB.put1 (io:=true) r.st r.at_ r.new g (fun b z=>absurd z (Z b));exact⟨v,.int n,rfl,f.nx _ R _ O2 (u.set (.int n)) (S.trans s2) q2⟩) (fA (k:=rE i j n) q)⟩
end L2.L3
namespace L2.L3
open PySem
theorem Qo(c:mg "ANY_ZONE" = none)(e:mg "NO_DEEDS" = none)(H):GH mg H:=fun x d u a b=>by
 unfold glob at a;split at a
 .rename_i h;subst h;rw[c]at b;cases b
 .split at a
  .rename_i h;subst h;rw[e]at b;cases b
  .cases a
end L2.L3
namespace L2.L3
open PySem PySem.Spec PyProof.Rows
def DF(K:Frag)(x:Str)(st:Stmt):Prop:=∃(f:Addr) (b:Value) (c d:Option Addr) (g:Array (Option Value)) (kV e pm a h:Value),nsIn K mainGlobals x=some (some (.ref f))/\
 K.lookup f=some ⟨b,c,.func (fnOf x x (ji st) (gE st) (dJ st) .none kV e pm d a h),g⟩/\codeIn K a x=true/\keepIn K (.ref f)=true
def MF(K:Frag)(C:Addr)(m q:Str)(st:Stmt):Prop:=∃(f:Addr) (b:Value) (c d:Option Addr) (g:Array (Option Value)) (kV e pm a h:Value),findIn K (.ref C) m=some (some (.ref f))/\PySem.W.isFn K (.ref f)=true/\
 K.lookup f=some ⟨b,c,.func (fnOf m q (ji st) (gE st) (dJ st) .none kV e pm d a h),g⟩/\codeIn K a q=true/\keepIn K (.ref f)=true
theorem vT{P:List Value->Prop}(h:∀a,P [a]):∀b,b.length=1->P b:=fun b e=>by
 cases b with
 |nil=>exact absurd e (by decide)
 |cons a b=>
  cases b with
  |nil=>exact h a
  |cons=>exact absurd (Nat.succ.inj e) (Nat.succ_ne_zero _)
theorem BA{P:List Value->Prop}(h:∀a b,P [a,b]):∀u,u.length=2->P u:=fun u e=>by
 cases u with
 |nil=>exact absurd e (by decide)
 |cons a u=>exact vT (P:=fun l=>P (a::l)) (h a) u (Nat.succ.inj e)
theorem BB{P:List Value->Prop}(h:∀a b c,P [a,b,c]):∀u,u.length=3->P u:=fun u e=>by
 cases u with
 |nil=>exact absurd e (by decide)
 |cons a u=>exact BA (P:=fun l=>P (a::l)) (h a) u (Nat.succ.inj e)
theorem BC{P:List Value->Prop}(h:∀a b c d,P [a,b,c,d]):∀u,u.length=4->P u:=fun u e=>by
 cases u with
 |nil=>exact absurd e (by decide)
 |cons a u=>exact BB (P:=fun l=>P (a::l)) (h a) u (Nat.succ.inj e)
abbrev Bd(x q:Str)(st:Stmt)(ps:List Str):Prop:=∀(kV a pm:Value) (d:Option Addr) (b e:Value) (c:List Value),c.length=ps.length->bindArgs (fnOf x q (ji st) (gE st) (dJ st) .none kV a pm d b e) ⟨c,[]⟩=pure (ps.zip c)
theorem DF.fd{K:Frag}{st:Stmt}(D:DF K x st)(X:K.In h)(G:h.Ns mainGlobals mg)(e:Bd x x st ps:=by first |exact fun _ _ _ _ _ _=>vT fun _=>rfl |exact fun _ _ _ _ _ _=>BA fun _ _=>rfl |exact fun _ _ _ _ _ _=>BB fun _ _ _=>rfl |exact fun _ _ _ _ _ _=>BC fun _ _ _ _=>rfl |exact fun _ _ _ _ _ _=>b fun _ _ _ _ _=>rfl |exact fun _ _ _ _ _ _=>d fun _ _ _ _ _ _=>rfl):∃g fd,FD K mg x st ps g fd:=by obtain⟨f,_,_,_,_,_,_,_,_,_,a,l,c,k⟩:=D;exact⟨f,_,nX l c k,mg_of X G a,(nX l c k).binds e⟩
theorem MF.md{K:Frag}{st:Stmt}(D:MF K C m q st)(e:Bd m q st ps:=by first |exact fun _ _ _ _ _ _=>vT fun _=>rfl |exact fun _ _ _ _ _ _=>BA fun _ _=>rfl |exact fun _ _ _ _ _ _=>BB fun _ _ _=>rfl |exact fun _ _ _ _ _ _=>BC fun _ _ _ _=>rfl |exact fun _ _ _ _ _ _=>b fun _ _ _ _ _=>rfl |exact fun _ _ _ _ _ _=>d fun _ _ _ _ _ _=>rfl):∃g fd,MD K C m q st ps g fd:=by obtain⟨f,_,_,_,_,_,_,_,_,_,a,i,l,c,k⟩:=D;exact⟨f,_,nX l c k,⟨a,i,k⟩,(nX l c k).binds e⟩
def CK(P:Program)(w:World)(K:Frag)(mg:Str->Option Value)(base:Heap)(k:Nat)(x:Str)(f:FM):Prop:=∃st a g fd,FD K mg x st a g fd/\cj P w K mg base (dS P w) k g fd a (fT K mg f)
def CM(P:Program)(w:World)(K:Frag)(mg:Str->Option Value)(base:Heap)(C:Addr)(k:Nat)(x:Str)(f:FM):Prop:=∃q st a g fd,MD K C x q st a g fd/\cj P w K mg base (dS P w) k g fd a (fT K mg f)
theorem bP{K:Frag}{st:Stmt}(N)(h:∃g fd,FD K mg x st ps g fd)(S:bY N ps (dJ st))
  (c:∀{g b A a s H E F d},bx k (A.deeper (envOfC x (dJ st) s.heap.objs.size g b))->fS (gD (dS P w) P w K mg base N x (dJ st) g b A a s H E) F d->
   iH (gD (dS P w) P w K mg base N x (dJ st) g b A a s H E) F d (gE st) m) (e:autoParam (ps.length<=N.length) Zr._auto_1):CK P w K mg base (k+1) x (bm ps.length N.length m):=by
 obtain⟨g,fd,D⟩:=h;have q:=uJ (P:=P) (w:=w) (mg:=mg) (base:=base) D.fn S e (fun _ _ _ _ _ _ _ _ f i=>c f i);exact⟨_,_,g,fd,D,q⟩
theorem fX{K:Frag}{st:Stmt}(N)(h:∃g fd,MD K C x q st ps g fd)(S:bY N ps (dJ st))
  (c:∀{g b A a s H E F d},bx k (A.deeper (envOfC q (dJ st) s.heap.objs.size g b))->fS (gD (dS P w) P w K mg base N q (dJ st) g b A a s H E) F d->
   iH (gD (dS P w) P w K mg base N q (dJ st) g b A a s H E) F d (gE st) m) (e:autoParam (ps.length<=N.length) Zr._auto_1):CM P w K mg base C (k+1) x (bm ps.length N.length m):=by
 obtain⟨g,fd,D⟩:=h;have q:=uJ (P:=P) (w:=w) (mg:=mg) (base:=base) D.fn S e (fun _ _ _ _ _ _ _ _ f i=>c f i);exact⟨_,_,_,g,fd,D,q⟩
theorem aO{pos:Pos}{p:Pos}(d:fS X F E)(c:CK X.prog X.w X.K X.mg X.base k x f)(h:bx j X.A)(l:FX X F E (e::es) mX)(n:autoParam (k<=j) Zr._auto_1)(o:autoParam (Gl X x) Zq._auto_1)(a:autoParam ((x==("__debug__":Str))=false) Zr._auto_1)
  (q:autoParam (starEach (e::es) X.env=(false,eval e X.env)::starEach es X.env) Zq._auto_1) (b:autoParam ((backTo pos (starEach es X.env)).any (·.1)=false) Zq._auto_1):FO X F E (.Call (.Name x p) (e::es) [] pos) (aJ f mX):=by
 obtain⟨st,r,g,fd,D,G⟩:=c;exact mP d G D h l n o a q b
theorem fY{pos:Pos}{apos:Pos}{u}(l:fS X F E)(cl:cS X.K C)(c:CM X.prog X.w X.K X.mg X.base C k m f)(n:bx j X.A)(o:PE X (.Name x p1) (cf i))(r:FX X F E (e::es) mX)(s:autoParam (k<=j) Zr._auto_1)
  (a:autoParam (starEach (e::es) X.env=(false,eval e X.env)::starEach es X.env) Zq._auto_1) (d:autoParam ((backTo pos (starEach es X.env)).any (·.1)=false) Zq._auto_1)
  (t:autoParam (eval (.Call (.Attribute (.Name x p1) m apos) (e::es) [] pos) X.env=(do
   let h <-eval (.Name x p1) X.env
   standAt apos.atName
   let(f,first) <-holding [h] (getMethod h m u)
   callWith pos f first (backTo pos (starEach (e::es) X.env)) (backToKw pos (keywordEach [] X.env)))) Zq._auto_1) :
  FO X F E (.Call (.Attribute (.Name x p1) m apos) (e::es) [] pos) (cw C i m f mX):=by
 obtain⟨q,st,v,g,fd,D,G⟩:=c;exact Ou l cl D.mt G (n.mono s) D.b o r a d t
theorem mW{pos:Pos}{apos:Pos}{r}(d:fS X F E)(cl:cS X.K C)(c:CM X.prog X.w X.K X.mg X.base C k m f)(h:bx j X.A)(l:PE X (.Name x p1) (cf i))(n:autoParam (k<=j) Zr._auto_1)
  (o:autoParam (eval (.Call (.Attribute (.Name x p1) m apos) [] [] pos) X.env=(do
   let a <-eval (.Name x p1) X.env
   standAt apos.atName
   let(f,first) <-holding [a] (getMethod a m r)
   callWith pos f first (backTo pos (starEach [] X.env)) (backToKw pos (keywordEach [] X.env)))) Zq._auto_1) :
  FO X F E (.Call (.Attribute (.Name x p1) m apos) [] [] pos) (dO C i m f):=by
 obtain⟨q,st,s,g,fd,D,G⟩:=c;exact Ov d cl D.mt G (h.mono n) D.b l o
theorem vU{l:List Str}(h:decide l.Nodup=true):l.Nodup:=of_decide_eq_true h
theorem cg{X}{F}{x}{pos}(i)(a:decide X.N.Nodup=true:=by kernel_rfl)(b:autoParam (X.N[i]? = some x) Zq._auto_1)(c:Loc X.env.scope x:=by first |exact Or.inl rfl |exact Or.inr rfl)(d:X.fn x=true\/X.env.scope.names.lookup x=some .local:=by first |exact .inl rfl |exact .inr rfl |assumption):FG X F (.Name x pos) (av i):=Pj i (vU a) b c d
end L2.L3
namespace Due
abbrev Sh:=List (Int×Int)
noncomputable def fZ(a:Int):Sh->Int->Int
 |[],_=>a
 |(b,c)::r,m=>fZ (if b<=m then c else a) r m
def dH(a:Int)(b:Sh)(m:Int):Int:=m+fZ a b m
def gc:Int->Sh->Prop
 |_,[]=>True
 |lo,(b,_)::r=>lo<b/\gc b r
theorem vV:∀{d lo},gc lo d->m<=lo->fZ a d m=a
 |[],_,_,_=>rfl
 |(b,c)::r,lo,⟨h1,h2⟩,e=>by unfold fZ;rw[if_neg (by lia)];exact vV h2 (by lia)
noncomputable def gd(g:Int):Int->Int->Sh->Int
 |s,a,[]=>max s (g - a)
 |s,a,(b,c)::r=>if max s (g - a)<b then max s (g - a) else gd g b c r
theorem mY:∀{f s a},gc s f->s<=gd g s a f/\g<=dH a f (gd g s a f)/\∀m,s<=m->m<gd g s a f->dH a f m<g
 |[],s,a,_=>by unfold gd dH fZ;refine⟨by lia,by lia,fun m k j=>?_⟩;lia
 | (b,c)::r,s,a,⟨k,j⟩=>by
  unfold gd;have d:∀m,m<b->dH a ((b,c)::r) m=m+a:=fun m i=>by unfold dH fZ;rw[if_neg (by lia),vV j (by lia)]
  have h:∀m,b<=m->dH a ((b,c)::r) m=dH c r m:=fun m i=>by unfold dH;rw[fZ,if_pos i]
  by_cases e:max s (g - a)<b
  .rw[if_pos e];refine⟨by lia,?_,fun m k j=>?_⟩
   .rw[d _ e];lia
   .rw[d _ (by lia)];lia
  .rw[if_neg e];obtain⟨l,n,o⟩:=mY (g:=g) (a:=c) j;refine⟨by lia,?_,fun m q p=>?_⟩
   .rw[h _ l];exact n
   .by_cases i:m<b
    .rw[d _ i];lia
    .rw[h _ (by lia)];exact o m (by lia) p
theorem Qp(h:g<=b)(e:gc s d):gd g s a d<=gd b s a d:=by obtain⟨j,k,f⟩:=mY (g:=g) (a:=a) e;obtain⟨i,l,m⟩:=mY (g:=b) (a:=a) e;refine Int.not_lt.mp fun c=>?_;have:=f _ i c;lia
def rF(a:Int)(b:Sh):Prop:=(-12<=a/\a<=14)/\∀p∈b,-12<=p.2/\p.2<=14
theorem vW:∀{d a},rF a d->-12<=fZ a d m/\fZ a d m<=14
 |[],a,h=>h.1
 | (b,c)::r,a,h=>by
  unfold fZ;refine vW ⟨?_,fun p e=>h.2 p (bq _ e)⟩;split
  .exact h.2 (b,c) List.mem_cons_self
  .exact h.1
noncomputable def bh(s a:Int):Sh->List (Int×Option Int×Int)
 |[]=>[(s,none,a)]
 |(b,c)::r=>(s,some b,a)::bh b c r
noncomputable def ff(m:Int):Option Int->Bool
 |none=>true
 |some e=>decide (m<e)
def mZ(g:Int)(l:List (Int×Option Int×Int)):List Int:=(l.filter fun p=>ff (max p.1 (g - p.2.2)) p.2.1).map fun p=>max p.1 (g - p.2.2)
theorem BD(g):∀d  s a,∃t,mZ g (bh s a d)=gd g s a d::t
 |[],s,a=>⟨[],rfl⟩
 | (b,c)::r,s,a=>by
  obtain⟨t,e⟩:=BD g r b c;unfold bh gd mZ;rw[List.filter_cons]
  by_cases h:max s (g - a)<b
  .rw[if_pos (by show decide (max s (g - a)<b)=true;exact decide_eq_true h),if_pos h];exact⟨_,rfl⟩
  .rw[if_neg (by show ¬ decide (max s (g - a)<b)=true;simpa using h),if_neg h];exact⟨t,e⟩
def gy(a:Int)(b:Sh)(h:Int):Int:=-((h - dH a b 0) / 24)
theorem BE:dH a ss 0<=24 * gy a ss h+h/\24 * gy a ss h+h<dH a ss 0+24:=by unfold gy;lia
def gz(a:Int)(b:Sh)(h:Int)(c:Nat):Int:=gd ((gy a b h+c) * 24+h) 0 a b
inductive aU where
 |once (m:Int) |every (f s:Int) |daily (h:Int)
def bE(a:Int)(b:Sh):aU->Nat->Option Int
 |.once m,c=>if c=0 then some m else none
 |.every f s,c=>some (f+c * s)
 |.daily h,c=>some (gz a b h c)
theorem Qq(d:gc 0 b):0<=gz a b h c:=(mY d).1
theorem Qr(e:gc 0 b)(f:c<=d):gz a b h c<=gz a b h d:=Qp (by lia) e
theorem BF{c:Nat}(e:gc 0 b)(d:rF a b):24 * (c:Int) - 26<=gz a b h c:=by obtain⟨f,i,_⟩:=mY (g:=(gy a b h+c) * 24+h) (a:=a) e;have:=BE (a:=a) (h:=h) (ss:=b);have j:=vW (m:=0) d;have k:=vW (m:=gd ((gy a b h+c) * 24+h) 0 a b) d;unfold dH at *;unfold gz;lia
structure dI (a:Int) (ss:Sh):Prop where
 len:ss.length<=6
 rise:gc 0 ss
 ah:rF a ss
 top:∀p∈ss,p.1<=9999
def ca:aU->Prop
 |.once m=>0<=m/\m<=9999
 |.every f s=>(0<=f/\f<=9999)/\1<=s/\s<=999
 |.daily h=>0<=h/\h<=23
def dZ(a:Int)(b:Sh)(p:aU)(c:Nat):Int:=(bE a b p c).getD 0
def iV(a:Int)(b:Sh)(p:aU)(first:Int)(n:Nat):List Nat:=(List.range n).filter fun c=>decide (first<=dZ a b p c)
structure bM (a:Int) (ss:Sh) (p:aU) (last:Int) (n:Nat):Prop where
 le:n<=20000
 in_:∀c,c<n->∃v,bE a ss p c=some v/\v<=last
 out:bE a ss p n=none\/∃v,bE a ss p n=some v/\last<v
noncomputable def vX(a b c:Int):Nat:=(if a<b then(b - a - 1) / c+1 else 0).toNat
theorem dE{P:Nat->Prop}:∀N,P N->∃n,n<=N/\P n/\∀m,m<n->¬ P m
 |0,h=>⟨0,bb _,h,fun m a=>absurd a (Nat.not_lt_zero m)⟩
 |N+1,h=>by
  by_cases e:∃m,m<=N/\P m
  .obtain⟨m,a,pm⟩:=e;obtain⟨n,h1,h2,h3⟩:=dE m pm;exact⟨n,by lia,h2,h3⟩
  .exact⟨N+1,bb _,h,fun m a pm=>e ⟨m,by lia,pm⟩⟩
theorem Qs(z:dI a b)(e:last<=9999):∃n,bM a b (.daily h) last n:=by
 obtain⟨n,h1,h2,h3⟩:=dE (P:=fun c=>last<gz a b h c) 1000 (by
  have:=BF (h:=h) (c:=1000) z.rise z.ah;show last<gz a b h 1000;lia)
 refine⟨n,by lia,fun c d=>⟨_,rfl,?_⟩,.inr ⟨_,rfl,h2⟩⟩;have:=h3 c d;lia
theorem BG(z:dI a i)(ok:ca p)(h:c<=d)(b:bE a i p c=some v)(g:bE a i p d=some w):v<=w:=by
 cases p with
 |once m=>
  rw[bE]at b g
  by_cases e:c=0
  .by_cases j:d=0
   .rw[if_pos e]at b;rw[if_pos j]at g;cases b;cases g;exact Int.le_refl _
   .rw[if_neg j]at g;cases g
  .rw[if_neg e]at b;cases b
 |every f s=>rw[bE]at b g;cases b;cases g;have:=Int.mul_le_mul_of_nonneg_right (show(c:Int)<=d by lia) (show(0:Int)<=s by have:=ok.2.1;lia);lia
 |daily k=>rw[bE]at b g;cases b;cases g;exact Qr z.rise h
theorem BH(z:dI a d)(ok:ca p)(b:bE a d p c=some v):0<=v:=by
 cases p with
 |once m=>
  rw[bE]at b
  by_cases e:c=0
  .rw[if_pos e]at b;cases b;exact ok.1
  .rw[if_neg e]at b;cases b
 |every f s=>rw[bE]at b;cases b;have:=Int.mul_nonneg (show(0:Int)<=c by lia) (show(0:Int)<=s by have:=ok.2.1;lia);have:=ok.1.1;lia
 |daily g=>rw[bE]at b;cases b;exact Qq z.rise
theorem Qt(z:dI a d)(ok:ca p)(g:last<=9999):∃n,bM a d p last n:=by
 cases p with
 |once m=>
  by_cases e:m<=last
  .refine⟨1,by lia,fun c b=>⟨m,by rw[bE,if_pos (by lia)],e⟩,.inl (by rw[bE,if_neg (by lia)])⟩
  .exact⟨0,by lia,fun c b=>absurd b (Nat.not_lt_zero c),.inr ⟨m,by rw[bE,if_pos rfl],by lia⟩⟩
 |every f s=>
  obtain⟨n,h1,h2,h3⟩:=dE (P:=fun(c:Nat)=>last<f+c * s) 10000 (by
   have:=ok.1.1;have:=Int.mul_le_mul_of_nonneg_left (show(1:Int)<=s from ok.2.1) (show(0:Int)<=((10000:Nat):Int) by lia);show last<f+((10000:Nat):Int) * s;lia)
  exact⟨n,by lia,fun c b=>⟨_,rfl,Int.not_lt.mp (h3 c b)⟩,.inr ⟨_,rfl,h2⟩⟩
 |daily h=>exact Qs z g
theorem BI(z:dI a d)(ok:ca p)(u:bM a d p last n)(h:n<=c)(b:bE a d p c=some v):last<v:=by
 rcases u.out with e |⟨w,e,i⟩
 .cases p with
  |once m=>
   rw[bE]at e b
   by_cases g:n=0
   .rw[if_pos g]at e;cases e
   .rw[if_neg (by lia)]at b;cases b
  |every f s=>cases e
  |daily j=>cases e
 .have:=BG z ok h e b;lia
theorem BJ(z:dI a b)(ok:ca p)(u:bM a b p last n):iV a b p 0 n=List.range n:=by unfold iV;refine List.filter_eq_self.mpr fun c e=>decide_eq_true ?_;obtain⟨v,d,_⟩:=u.in_ c (List.mem_range.mp e);unfold dZ;rw[d];exact BH z ok d
theorem Qu(u:bM a g (.every b s) last n):(∀c,c<n->b+c * s<=last)/\last<b+n * s:=by
 refine⟨fun c d=>?_,?_⟩
 .obtain⟨v,f,h⟩:=u.in_ c d;cases f;exact h
 .rcases u.out with e |⟨v,e,h⟩
  .cases e
  .cases e;exact h
theorem Qv(c:0<s)(u:bM a i (.every b s) last n):n=vX b (last+1) s:=by
 obtain⟨d,h2⟩:=Qu u;unfold vX
 by_cases h:b<last+1
 .rw[if_pos h];have j:0<n:=by refine Nat.pos_of_ne_zero fun e=>?_;subst e;simp at h2;lia
  have h3:=d (n - 1) (by lia);have f:((n - 1:Nat):Int)=(n:Int) - 1:=by lia
  rw[f]at h3;have e:(last+1 - b - 1) / s=(n:Int) - 1:=by
   refine Int.le_antisymm ?_ ?_
   .have:(last+1 - b - 1) / s<n:=Int.ediv_lt_of_lt_mul c (by lia);lia
   .exact Int.le_ediv_of_mul_le c (by lia)
  rw[e];lia
 .rw[if_neg h];have:n=0:=by refine Nat.eq_zero_of_not_pos fun g=>?_;have:=d 0 g;simp at this;lia
  rw[this];rfl
theorem Qw:(iV a ss p f n).length<=n:=by unfold iV;exact Nat.le_trans (List.length_filter_le _ _) (by rw[List.length_range];lia)
def il(m:Int)(l:List (Int×Option Int×Int)):List Int:=(l.filter fun p=>decide (p.1<=m)).map fun p=>(if ff m p.2.1=true then m else p.2.1.getD 0 - 1)+p.2.2
theorem BK:∀j  s a,gc s j->(∀x,x∈il m (bh s a j)->∃t,s<=t/\t<=m/\dH a j t=x)/\(∀t,s<=t->t<=m->∃x,x∈il m (bh s a j)/\dH a j t<=x)
 |[],s,a,_=>by
  unfold bh il
  by_cases h:s<=m
  .rw[List.filter_cons,if_pos (decide_eq_true h),List.filter_nil,List.map_cons,List.map_nil];simp only[ff,if_true,List.mem_singleton];refine⟨fun x d=>⟨m,h,Int.le_refl _,by subst d;rfl⟩,fun t u l=>⟨_,rfl,by show t+a<=m+a;lia⟩⟩
  .rw[List.filter_cons,if_neg (by simpa using h),List.filter_nil,List.map_nil];exact⟨fun x d=>(by cases d),fun t u l=>(by lia)⟩
 | (b,c)::r,s,a,⟨u,l⟩=>by
  obtain⟨n,o⟩:=BK (m:=m) r b c l;have g:∀t,t<b->dH a ((b,c)::r) t=t+a:=fun t k=>by unfold dH fZ;rw[if_neg (by lia),vV l (by lia)]
  have i:∀t,b<=t->dH a ((b,c)::r) t=dH c r t:=fun t k=>by unfold dH;rw[fZ,if_pos k]
  have e:il m (bh s a ((b,c)::r))=(if s<=m then[(if m<b then m else b - 1)+a]else[])++il m (bh b c r):=by
   rw[show bh s a ((b,c)::r)=(s,some b,a)::bh b c r from rfl];unfold il;rw[List.filter_cons]
   by_cases h:s<=m
   .rw[if_pos (decide_eq_true h),if_pos h,List.map_cons];show((if decide (m<b)=true then m else b - 1)+a)::_=[(if m<b then m else b - 1)+a]++_
    by_cases f:m<b
    .rw[if_pos (decide_eq_true f),if_pos f];rfl
    .rw[if_neg (by simpa using f),if_neg f];rfl
   .rw[if_neg (by simpa using h),if_neg h];rfl
  rw[e];constructor
  .intro x d;rcases List.mem_append.mp d with d |d
   .by_cases h:s<=m
    .rw[if_pos h,List.mem_singleton]at d
     by_cases f:m<b
     .rw[if_pos f]at d;exact⟨m,h,Int.le_refl _,by rw[g m f,d]⟩
     .rw[if_neg f]at d;exact⟨b - 1,by lia,by lia,by rw[g _ (by lia),d]⟩
    .rw[if_neg h]at d;cases d
   .obtain⟨t,q,p,v⟩:=n x d;exact⟨t,by lia,p,by rw[i _ q];exact v⟩
  .intro t q p
   by_cases k:t<b
   .refine⟨(if m<b then m else b - 1)+a,List.mem_append.mpr (.inl ?_),?_⟩
    .rw[if_pos (by lia)];exact List.mem_singleton.mpr rfl
    .rw[g t k]
     by_cases f:m<b
     .rw[if_pos f];lia
     .rw[if_neg f];lia
   .obtain⟨x,w,y⟩:=o t (by lia) p;exact⟨x,List.mem_append.mpr (.inr w),by rw[i t (by lia)];exact y⟩
end Due
namespace K3
open PySem PySem.Spec L2 L2.L3 PyProof.Rows
noncomputable abbrev TF:List Str:=["NoZone","NoPlan","NoMoment","NoCount","NoDeeds","NoRunner","NoTerm","NotHolder","Nothing"]
def rG:SM:=(br (eL (jy "int" (xV 0)) (eL (zK (jy "bool" (xV 0))) (uV (fun i j=>decide (i<=j)) (fun i j=>decide (i<=j)) (xV 1) (xV 0) (xV 2)))))
def gf:FM:=bm 3 3 rG
def vY:SM:=(br (eL (jy "tuple" (xV 0)) (ag (aM false) (dB fz (az (xV 0) aT)) (xV 1))))
def ku:FM:=bm 2 2 vY
def vZ:SM:=(bJ (aY (ag ko (ag aH (xV 3) (xC (.int 0))) (xV 1))) (bH (ag aH (xV 3) (xC (.int 1))) (av 2)) bN)
def BL:SM:=(ay (bH (ag aH (xV 0) (xC (.int 0))) (av 2))
  (ay (fC (kh (ag aH (xV 0) (xC (.int 1)))) (av 3) vZ)
  (br (ag dM (xV 1) (xV 2)))))
def rH:FM:=bm 2 4 BL
def wa:XM PyData:=(ag aH (xV 0) (xC (.int 0)))
def wb:XM PyData:=(ag aH (xV 0) (xC (.int 1)))
def BM:SM:=(ay (bH (ag mh (jt (az (xC (.int 0)) aT)) (eN 1 [] (kh (ag aH (xV 0) (xC (.int 1)))) (av 0) cO wa)) (av 1))
  (ay (bH (ag mh (xU (Ao 1) (xV 1)) (jt (az (xC .none) aT))) (av 2))
  (ay (bH (ag mh (jt (az (ag aH (xV 0) (xC (.int 0))) aT)) (eN 1 [] (kh (ag aH (xV 0) (xC (.int 1)))) (av 0) cO wb)) (av 3))
  (br (dB vk (az (xV 1) (az (xV 2) (az (xV 3) aT))))))))
def pd:FM:=bm 1 4 BM
def BN:SM:=(br (uU (ag iI (xV 1) (xC .none)) (ag kn (xV 0) (xV 1))))
def pf:FM:=bm 2 2 BN
def ph:XM Bool:=(aY (ag (aM false) (ag aH (xV 0) (xC (.int 3))) (xV 1)))
def pp:XM PyData:=(ag aH (xV 0) (xC (.int 2)))
def ng:XM PyData:=(vl km 1 (xV 0))
def BO:SM:=(ay (bH (eN 1 [1] (jz (xV 0)) (av 0) ph pp) (av 2))
  (br (dB uY (az (eN 1 [2] (iC (kt ["begun","done","left","unsure"])) (av 0) cO ng) aT))))
def rJ:FM:=bm 2 3 BO
def rK:SM:=(ay (bJ (aY (ag kn (xV 1) (qJ 0))) (br (qK 0 (xV 1))) bN)
  (ay (bJ (va 0) (br (xC (.int 0))) bN)
  (br (ag dM (ag mD (qK 0 (ag mE (xV 1) (qJ 0))) (xC (.int 31))) (xV 1)))))
def nh:FM:=bm 2 2 rK
def BP(C:Addr):SM:=(br (eL (ag eK (cp C 0 "holder") (xC .none)) (ag kn (xV 1) (cp C 0 "until"))))
def pq(C:Addr):FM:=bm 2 2 (BP C)
def pz(C:Addr):SM:=(ay (bH (ag aH (xV 1) (xC (.int 2))) (av 2))
  (ay (bH (ag aH (xV 1) (xC (.int 3))) (av 3))
  (ay (bH (ag aH (xV 1) (xC (.int 4))) (av 4))
  (ay (lx C 0 "rows" 1)
  (ay (mJ C 0 "words" 3 4 (xV 2))
  (ay (bJ (aY (ag (aM false) (xV 2) (xC (.str "begun")))) (cU C 0 "begun" (cN (az (xV 3) (az (xV 4) (az (cp C 0 "holds") aT))))) (ay (cU C 0 "begun" (xC .none))
  (mK C 0 "settled" 3 (ag dM (xV 4) (xC (.int 1))))))
  (br (cN (az (xV 2) (az (xV 3) (az (xV 4) aT)))))))))))
def gi(C:Addr):FM:=bm 2 5 (pz C)
def wc(C:Addr):SM:=(br (eL (ag eK (cp C 0 "begun") (xC .none)) (ag (aM false) (ag aH (cp C 0 "begun") (xC (.int 2))) (cp C 0 "holds"))))
def ni(C:Addr):FM:=bm 1 1 (wc C)
def BQ(C:Addr):SM:=(br (qQ C 0 "rows"))
def nj(C:Addr):FM:=bm 1 1 (BQ C)
def BR:SM:=(fB (aJ gf (aj (xV 0) (aj (xC (.int (-12))) (aj (xC (.int (14))) aC)))))
def pA:FM:=bm 1 1 BR
def BS:SM:=(fB (aJ gf (aj (xV 0) (aj (xC (.int 0)) (aj (xC (.int (9999))) aC)))))
def nk:FM:=bm 1 1 BS
def BT:SM:=(fB (aJ gf (aj (xV 0) (aj (xC (.int 0)) (aj (xC (.int (3))) aC)))))
def rL:FM:=bm 1 1 BT
def BU:SM:=(fB (aJ gf (aj (xV 0) (aj (xC (.int 1)) (aj (xC (.int (99))) aC)))))
def rM:FM:=bm 1 1 BU
def we:SM:=(br (eL (aV (aJ ku (aj (xV 0) (aj (xV 2) aC)))) (eL (jy "str" (ag aH (xV 0) (xC (.int 0)))) (ag (aM false) (ag aH (xV 0) (xC (.int 0))) (xV 1)))))
def kv:FM:=bm 3 3 we
def wg:XM Bool:=(aY (aV (aJ pf (aj (dB ou (az (xV 0) (az (ag gq (xV 3) (xV 2)) aT))) (aj (xV 1) aC)))))
def wh:XM PyData:=(dB ou (az (xV 0) (az (ag gq (xV 3) (xV 2)) aT)))
def BV:SM:=(ay (bH (eN 3 [1] (jz (aV (aJ pd (aj (xV 0) aC)))) (cJ 3 (bt (av 0) (bt (av 1) (bt (av 2) cI)))) wg wh) (av 2))
  (br (ag aH (xV 2) (xC (.int 0)))))
def rN:FM:=bm 2 3 BV
def wj:XM Bool:=(aY (ag ko (xV 0) (xV 3)))
def pB:XM PyData:=(ag dM (li (aY (aV (aJ pf (aj (xV 3) (aj (xV 1) aC))))) (xV 3) (ag gq (xV 1) (xC (.int 1)))) (xV 2))
def BW:SM:=(br (dB mw (az (eN 3 [1] (jz (aV (aJ pd (aj (xV 0) aC)))) (cJ 3 (bt (av 0) (bt (av 1) (bt (av 2) cI)))) wj pB) aT)))
def rO:FM:=bm 2 2 BW
def BX:SM:=(br (lh (ag qN (ag gq (xV 1) (aV (aJ rH (aj (xV 0) (aj (xC (.int 0)) aC))))) (xC (.int (24))))))
def pC:FM:=bm 2 2 BX
def rP(C:Addr):XM PyData:=(aV (aJ rJ (aj (xV 1) (aj (xV 0) aC))))
def wm(C:Addr):SM:=(ay (bH (aV (dO C 0 "log" (nj C))) (av 1))
  (br (eN 1 [1] (er cu (az (dB fz (az (cp C 0 "deeds") aT)) aT)) (av 0) cO (rP C))))
def rQ(C:Addr):FM:=bm 1 2 (wm C)
def BY:SM:=(ay (bH (ag mE (ag dM (ag dM (ag mD (aV (aJ nh (bZ 0 (aj (xV 1) aC)))) (xC (.int 1103515245))) (ag mD (xC (.int 7919)) (xV 1))) (xC (.int 12345))) (xC (.int 2147483647))) (av 3))
  (br (ag mE (ag mE (ag mE (ag Az (xV 3) (xC (.int 5))) (xC (.int 2147483647))) (xC (.int 999983))) (xV 2))))
def rR:FM:=bm 3 4 BY
def wn(C:Addr):SM:=(ay (bH (ag aH (cp C 0 "begun") (xC (.int 0))) (av 3))
  (ay (bH (li (aY (ag aH (ag aH (cp C 0 "deeds") (xV 3)) (xC (.int (2))))) (xC (.str "begun")) (xC (.str "unsure"))) (av 4))
  (fB (cw C 0 "add_row" (gi C) (aj (cN (az (xV 2) (az (xV 1) (az (xV 4) (az (xV 3) (az (ag aH (cp C 0 "begun") (xC (.int 1))) aT)))))) aC)))))
def pD(C:Addr):FM:=bm 3 5 (wn C)
def rS:SM:=(ay (bJ (kd (eZ (aY (aV (aJ ku (aj (xV 2) (aj (xC (.int 2)) aC)))))) (eZ (aY (aV (aJ pA (aj (ag aH (xV 2) (xC (.int 1))) aC)))))) (br (xC (.bool false))) bN)
  (ay (bJ (eZ (aY (aV (aJ gf (aj (ag aH (xV 2) (xC (.int 0))) (aj (xV 1) (aj (xC (.int (9999))) aC))))))) (br (xC (.bool false))) bN)
  (bH (ag dM (ag aH (xV 2) (xC (.int 0))) (xC (.int 1))) (av 1))))
def BZ:SM:=(ay (bJ (kd (eZ (aY (jy "tuple" (xV 0)))) (aY (ag mF (dB fz (az (xV 0) aT)) (xC (.int (6)))))) (br (xC (.bool false))) bN)
  (ay (bH (xC (.int 1)) (av 1))
  (ay (fC (kh (xV 0)) (av 2) rS)
  (br (xC (.bool true))))))
def rT:FM:=bm 1 3 BZ
def rV:SM:=(ay (bJ (aY (aV (aJ kv (aj (xV 0) (aj (xC (.str "once")) (aj (xC (.int 2)) aC)))))) (fB (aJ nk (aj (ag aH (xV 0) (xC (.int 1))) aC))) bN)
  (ay (bJ (aY (aV (aJ kv (aj (xV 0) (aj (xC (.str "every")) (aj (xC (.int 3)) aC)))))) (br (eL (aV (aJ nk (aj (ag aH (xV 0) (xC (.int 1))) aC))) (aV (aJ gf (aj (ag aH (xV 0) (xC (.int 2))) (aj (xC (.int 1)) (aj (xC (.int (999))) aC))))))) bN)
  (br (eL (aV (aJ kv (aj (xV 0) (aj (xC (.str "daily")) (aj (xC (.int 2)) aC))))) (aV (aJ gf (aj (ag aH (xV 0) (xC (.int 1))) (aj (xC (.int 0)) (aj (xC (.int (23))) aC)))))))))
def lE:FM:=bm 1 1 rV
def rW:SM:=(ay (bJ (aY (jy "str" (xV 0))) (br (uU (ag (aM false) (xV 0) (xC (.str "all"))) (ag (aM false) (xV 0) (xC (.str "last"))))) bN)
  (br (eL (aV (aJ kv (aj (xV 0) (aj (xC (.str "within")) (aj (xC (.int 2)) aC))))) (aV (aJ gf (aj (ag aH (xV 0) (xC (.int 1))) (aj (xC (.int 0)) (aj (xC (.int (999))) aC))))))))
def nq:FM:=bm 1 1 rW
def Ca:SM:=(bJ (eZ (aY (aV (aJ nk (aj (xV 0) aC))))) gK bN)
def jI:FM:=bm 1 1 Ca
def Cb:SM:=(bJ (eZ (aY (aV (aJ rL (aj (xV 0) aC))))) gK bN)
def rX:FM:=bm 1 1 Cb
def Cc:SM:=(bJ (eZ (aY (aV (aJ rM (aj (xV 0) aC))))) gK bN)
def rY:FM:=bm 1 1 Cc
def Cd:SM:=(ay (bH (ag dM (aV (aJ pC (aj (xV 0) (aj (xV 1) aC)))) (xV 2)) (av 3))
  (fB (aJ rN (aj (xV 0) (aj (ag dM (ag mD (xV 3) (xC (.int (24)))) (xV 1)) aC)))))
def rZ:FM:=bm 3 4 Cd
def nr:SM:=(ay (bJ (aY (ag kn (xV 2) (xC (.int 0)))) (br (xC (.int 0))) bN)
  (ay (bJ (aY (ag (aM false) (ag aH (xV 1) (xC (.int 0))) (xC (.str "once")))) (br (li (aY (ag ko (ag aH (xV 1) (xC (.int 1))) (xV 2))) (xC (.int 1)) (xC (.int 0)))) bN)
  (ay (bJ (aY (ag (aM false) (ag aH (xV 1) (xC (.int 0))) (xC (.str "every")))) (br (dB ou (az (xC (.int 0)) (az (ag dM (ag qN (ag gq (xV 2) (ag aH (xV 1) (xC (.int 1)))) (ag aH (xV 1) (xC (.int 2)))) (xC (.int 1))) aT)))) bN)
  (ay (bH (ag qN (ag gq (aV (aJ rO (aj (xV 0) (aj (xV 2) aC)))) (ag aH (xV 1) (xC (.int 1)))) (xC (.int (24)))) (av 3))
  (br (ag dM (ag gq (xV 3) (aV (aJ pC (aj (xV 0) (aj (ag aH (xV 1) (xC (.int 1))) aC))))) (xC (.int 1))))))))
def jJ:FM:=bm 3 4 nr
def Ce:SM:=(ay (jC 1 (xC (.int 0)))
  (fB (aJ rR (bZ 0 (aj (vg 1) (aj (xV 2) aC))))))
def gj:FM:=bm 3 3 Ce
def Cf:SM:=(br (eL (aV (aJ ku (aj (xV 0) (aj (xC (.int 2)) aC)))) (eL (aV (aJ pA (aj (ag aH (xV 0) (xC (.int 0))) aC))) (aV (aJ rT (aj (ag aH (xV 0) (xC (.int 1))) aC))))))
def se:FM:=bm 1 1 Cf
def Cg:SM:=(br (eL (aV (aJ ku (aj (xV 0) (aj (xC (.int 3)) aC)))) (eL (aV (aJ lE (aj (ag aH (xV 0) (xC (.int 0))) aC))) (eL (aV (aJ nq (aj (ag aH (xV 0) (xC (.int 1))) aC))) (jy "bool" (ag aH (xV 0) (xC (.int 2))))))))
def sf:FM:=bm 1 1 Cg
def Ci:SM:=(bJ (eZ (aY (aV (aJ lE (aj (xV 0) aC))))) gK bN)
def sg:FM:=bm 1 1 Ci
def Cj:SM:=(ay (dm (aJ jI (aj (xV 0) aC)))
  (ay (dm (aJ jI (aj (xV 1) aC)))
  (bJ (aY (ag kn (xV 1) (xV 0))) gK bN)))
def sh:FM:=bm 2 2 Cj
def pE:SM:=(ay (bJ (aY (ag (aM false) (ag aH (xV 1) (xC (.int 0))) (xC (.str "once")))) (br (li (aY (ag (aM false) (xV 2) (xC (.int 0)))) (ag aH (xV 1) (xC (.int 1))) (xC .none))) bN)
  (ay (bJ (aY (ag (aM false) (ag aH (xV 1) (xC (.int 0))) (xC (.str "every")))) (br (ag dM (ag aH (xV 1) (xC (.int 1))) (ag mD (xV 2) (ag aH (xV 1) (xC (.int 2)))))) bN)
  (fB (aJ rZ (aj (xV 0) (aj (ag aH (xV 1) (xC (.int 1))) (aj (xV 2) aC)))))))
def gk:FM:=bm 3 3 pE
def Ck:SM:=(br (ag aH (xV 2) (aV (aJ gj (bZ 0 (bZ 1 (aj (dB fz (az (xV 2) aT)) aC)))))))
def nt:FM:=bm 3 3 Ck
def wo(C:Addr):SM:=(ay (dm (aJ rX (aj (xV 1) aC)))
  (ay (dm (aJ jI (aj (xV 2) aC)))
  (bJ (uW (aY (ag eK (cp C 0 "last") (xC .none))) (aY (ag kn (xV 2) (cp C 0 "last")))) gK bN)))
def jK(C:Addr):FM:=bm 3 3 (wo C)
def Qx(C:Addr):XM PyData:=(xC (.int 0))
def nu(C:Addr):XM PyData:=(ag gq (aV (aJ jJ (aj (iQ C 2 "zone") (aj (ag aH (xV 0) (xC (.int (0)))) (aj (iQ C 2 "last") aC))))) (xV 1))
def wq(C:Addr):SM:=(ay (bJ (aY (ag iI (cp C 0 "last") (xC .none))) (br (eN 1 [] (kh (cp C 0 "deeds")) (av 0) cO (Qx C))) bN)
  (br (mN 2 [0] (kr C 0 "deeds" "settled") (cJ 2 (bt (av 0) (bt (av 1) cI))) cO (nu C))))
def wr(C:Addr):FM:=bm 1 1 (wq C)
def si:XM PyData:=(aV (aJ sf (aj (xV 0) aC)))
def Cm:SM:=(ay (bJ (kd (eZ (aY (jy "tuple" (xV 0)))) (aY (ag mF (dB fz (az (xV 0) aT)) (xC (.int (6)))))) (br (xC (.bool false))) bN)
  (br (dB mu (az (eN 1 [] (kh (xV 0)) (av 0) cO si) aT))))
def wu:FM:=bm 1 1 Cm
def Cn:SM:=(bJ (eZ (aY (aV (aJ se (aj (xV 0) aC))))) gK bN)
def kw:FM:=bm 1 1 Cn
def pF:SM:=(ay (bJ (aY (ag (aM false) (ag aH (xV 1) (xC (.int (1)))) (xC (.str "all")))) (br (xC (.bool false))) bN)
  (ay (bJ (aY (ag (aM false) (ag aH (xV 1) (xC (.int (1)))) (xC (.str "last")))) (ay (bH (aV (aJ gk (aj (xV 0) (aj (ag aH (xV 1) (xC (.int (0)))) (aj (ag dM (xV 2) (xC (.int 1))) aC))))) (av 4))
  (br (eL (ag eK (xV 4) (xC .none)) (ag ko (xV 4) (xV 3))))) bN)
  (br (ag mF (ag gq (xV 3) (aV (aJ gk (aj (xV 0) (aj (ag aH (xV 1) (xC (.int (0)))) (aj (xV 2) aC)))))) (ag aH (ag aH (xV 1) (xC (.int (1)))) (xC (.int 1)))))))
def lF:FM:=bm 4 5 pF
def sj:SM:=(ay (bH (ag dM (ag dM (xV 4) (xC (.int 1))) (aV (aJ gj (bZ 0 (bZ 1 (aj (xV 2) aC)))))) (av 4))
  (bH (ag mi (xV 3) (cN (az (cN (az (xV 4) (az (aV (aJ nt (bZ 0 (bZ 1 (aj (jt (az (xC (.int 0)) (az (xC (.int 1)) (az (xC (.int 2)) (az (lh (xC (.int 1))) (az (xC (.int 14)) (az (lh (xC (.int 12))) (az (xC (.int 3)) aT)))))))) aC))))) aT))) aT))) (av 3)))
def Co:SM:=(ay (bH (cN (az (cN aT) (az (xC (.int 0)) aT))) (cJ 2 (bt (av 3) (bt (av 4) cI))))
  (ay (fC (er cu (az (aV (aJ gj (bZ 0 (bZ 1 (aj (xC (.int 5)) aC))))) aT)) (av 5) sj)
  (br (cN (az (aV (aJ nt (bZ 0 (bZ 1 (aj (jt (az (xC (.int 0)) (az (xC (.int 1)) (az (xC (.int 2)) (az (lh (xC (.int 1))) (az (xC (.int 14)) (az (lh (xC (.int 12))) aT))))))) aC))))) (az (xV 3) aT))))))
def sk:FM:=bm 3 6 Co
def sn:SM:=(ay (bH (aV (aJ gj (bZ 0 (bZ 1 (aj (xC (.int 3)) aC))))) (av 3))
  (ay (bJ (aY (ag (aM false) (xV 3) (xC (.int 0)))) (br (cN (az (xC (.str "once")) (az (aV (aJ gj (bZ 0 (bZ 1 (aj (xV 2) aC))))) aT)))) bN)
  (ay (bJ (aY (ag (aM false) (xV 3) (xC (.int 1)))) (ay (bH (ag dM (xC (.int 1)) (aV (aJ gj (bZ 0 (bZ 1 (aj (aV (aJ nt (bZ 0 (bZ 1 (aj (jt (az (xC (.int 3)) (az (xC (.int 30)) (az (xC (.int 200)) aT)))) aC))))) aC)))))) (av 4))
  (br (cN (az (xC (.str "every")) (az (aV (aJ gj (bZ 0 (bZ 1 (aj (xV 2) aC))))) (az (xV 4) aT)))))) bN)
  (br (cN (az (xC (.str "daily")) (az (aV (aJ gj (bZ 0 (bZ 1 (aj (xC (.int 24)) aC))))) aT)))))))
def nv:FM:=bm 3 5 sn
def Cp(C:Addr):SM:=(ay (dm (cw C 0 "check_call" (jK C) (aj (xV 1) (aj (xV 2) aC))))
  (bJ (kd (eZ (aY (aV (cw C 0 "is_held" (pq C) (aj (xV 2) aC))))) (aY (ag (aM true) (cp C 0 "holder") (xV 1)))) gK bN))
def kz(C:Addr):FM:=bm 3 3 (Cp C)
def sr(C:Addr):SM:=(ay (dm (cw C 0 "check_call" (jK C) (aj (xV 1) (aj (xV 2) aC))))
  (ay (dm (aJ rY (aj (xV 3) aC)))
  (ay (cU C 0 "last" (xV 2))
  (ay (bJ (eZ (aY (aV (cw C 0 "is_held" (pq C) (aj (xV 2) aC))))) (qP C 0 "holds" 1) (bJ (aY (ag (aM true) (cp C 0 "holder") (xV 1))) (br (xC (.bool false))) bN))
  (ay (cU C 0 "holder" (xV 1))
  (ay (cU C 0 "until" (ag dM (xV 2) (xV 3)))
  (br (xC (.bool true)))))))))
def ny(C:Addr):FM:=bm 4 4 (sr C)
def lG(C:Addr):SM:=(ay (bH (oI C 0 "settled" 2) (av 3))
  (ay (bH (aV (aJ gk (aj (cp C 0 "zone") (aj (ag aH (ag aH (cp C 0 "deeds") (xV 2)) (xC (.int (0)))) (aj (xV 3) aC))))) (av 4))
  (bJ (aY (ag eK (xV 4) (xC .none))) (jC 1 (cN (az (xV 4) (az (xV 2) (az (xV 3) aT))))) bN)))
def Qy(C:Addr):SM:=(ay (jx 1 (jB aT))
  (ay (fC (er cu (az (dB fz (az (cp C 0 "deeds") aT)) aT)) (av 2) (lG C))
  (br (ie 1))))
def wv(C:Addr):FM:=bm 1 5 (Qy C)
def Cq:SM:=(bJ (eZ (aY (aV (aJ wu (aj (xV 0) aC))))) gK bN)
def lH:FM:=bm 1 1 Cq
def nz:SM:=(ay (bJ (aY (ag ko (xV 2) (xV 6))) (jC 4 (cN (az (xV 5) (az (xV 6) aT)))) bN)
  (ay (ve 5 (xC (.int 1)) (fun i j=>i+j))
  (bH (aV (aJ gk (aj (xV 0) (aj (xV 1) (aj (xV 5) aC))))) (av 6))))
def nA:XM Bool:=(uW (aY (ag eK (xV 6) (xC .none))) (aY (ag ko (xV 6) (xV 3))))
def Cr:SM:=(ay (dm (aJ kw (aj (xV 0) aC)))
  (ay (dm (aJ sg (aj (xV 1) aC)))
  (ay (dm (aJ jI (aj (xV 2) aC)))
  (ay (dm (aJ jI (aj (xV 3) aC)))
  (ay (jx 4 (jB aT))
  (ay (bH (xC (.int 0)) (av 5))
  (ay (bH (aV (aJ gk (aj (xV 0) (aj (xV 1) (aj (xV 5) aC))))) (av 6))
  (ay (hU nA nz 100000)
  (qM 4)))))))))
def sv:FM:=bm 4 7 Cr
def pG(C:Addr):SM:=(ay (bH (aV (dO C 0 "first_unsettled" (wv C))) (av 3))
  (ay (bJ (aY (ag iI (xV 3) (xC .none))) (br (cN (az (xC (.str "idle")) (az (xC .none) aT)))) bN)
  (ay (bJ (aY (ag mF (ag aH (xV 3) (xC (.int 0))) (xV 2))) (br (cN (az (xC (.str "idle")) (az (ag aH (xV 3) (xC (.int 0))) aT)))) bN)
  (ay (bH (ag aH (xV 3) (xC (.int 1))) (av 4))
  (ay (bH (ag aH (xV 3) (xC (.int 2))) (av 5))
  (ay (bH (li (aY (aV (aJ lF (aj (cp C 0 "zone") (aj (ag aH (cp C 0 "deeds") (xV 4)) (aj (xV 5) (aj (xV 2) aC))))))) (xC (.str "left")) (xC (.str "begun"))) (av 6))
  (fB (cw C 0 "add_row" (gi C) (aj (cN (az (xV 2) (az (xV 1) (az (xV 6) (az (xV 4) (az (xV 5) aT)))))) aC)))))))))
def lI(C:Addr):FM:=bm 3 7 (pG C)
def Cs(C:Addr):SM:=(ay (dm (cw C 0 "check_holder" (kz C) (aj (xV 1) (aj (xV 2) aC))))
  (ay (bJ (eZ (aY (aV (dO C 0 "is_busy" (ni C))))) gK bN)
  (ay (cU C 0 "last" (xV 2))
  (fB (cw C 0 "add_row" (gi C) (aj (cN (az (xV 2) (az (xV 1) (az (xC (.str "done")) (az (ag aH (cp C 0 "begun") (xC (.int 0))) (az (ag aH (cp C 0 "begun") (xC (.int 1))) aT)))))) aC))))))
def pH(C:Addr):FM:=bm 3 3 (Cs C)
def sx:SM:=(jC 4 (cN (az (xV 8) (az (xV 5) (az (xV 7) aT)))))
def sy:SM:=(fC (jz (aV (aJ sv (aj (xV 0) (aj (ag aH (xV 6) (xC (.int 0))) (aj (xV 2) (aj (xV 3) aC))))))) (cJ 2 (bt (av 7) (bt (av 8) cI))) sx)
def Ct:SM:=(ay (jx 4 (jB aT))
  (ay (fC (er rD (az (xV 1) aT)) (cJ 2 (bt (av 5) (bt (av 6) cI))) sy)
  (br (dB mV (az (xV 4) aT)))))
def sA:FM:=bm 4 9 Ct
def Cu:SM:=(ay (dm (aJ kw (aj (xV 0) aC)))
  (ay (dm (aJ lH (aj (xV 1) aC)))
  (dm (aJ sh (aj (xV 2) (aj (xV 3) aC))))))
def sC:FM:=bm 4 4 Cu
def nB:SM:=(ay (bH (aV (aJ jJ (aj (xV 0) (aj (ag aH (xV 5) (xC (.int 0))) (aj (ag gq (xV 2) (xC (.int 1))) aC))))) (av 6))
  (ay (bH (aV (aJ gk (aj (xV 0) (aj (ag aH (xV 5) (xC (.int 0))) (aj (xV 6) aC))))) (av 7))
  (bJ (aY (ag eK (xV 7) (xC .none))) (jC 3 (cN (az (xV 7) (az (xV 4) (az (xV 6) aT))))) bN)))
def Cv:SM:=(ay (dm (aJ kw (aj (xV 0) aC)))
  (ay (dm (aJ lH (aj (xV 1) aC)))
  (ay (dm (aJ jI (aj (xV 2) aC)))
  (ay (jx 3 (jB aT))
  (ay (fC (er rD (az (xV 1) aT)) (cJ 2 (bt (av 4) (bt (av 5) cI))) nB)
  (br (ie 3)))))))
def pI:FM:=bm 3 8 Cv
def sE(C:Addr):XM PyData:=(xC (.int 0))
def Cw(C:Addr):SM:=(ay (dm (aJ kw (aj (xV 1) aC)))
  (ay (dm (aJ lH (aj (xV 2) aC)))
  (ay (cU C 0 "zone" (xV 1))
  (ay (cU C 0 "deeds" (xV 2))
  (ay (cU C 0 "last" (xC .none))
  (ay (cU C 0 "holder" (xC .none))
  (ay (cU C 0 "until" (xC (.int 0)))
  (ay (cU C 0 "holds" (xC (.int 0)))
  (ay (cU C 0 "begun" (xC .none))
  (ay (lB C 0 "rows" (.l []))
  (ay (lB C 0 "words" (.m true []))
  (vH C 0 "settled" 1 [] (kh (xV 2)) (av 0) cO (sE C)))))))))))))
def sF(C:Addr):FM:=bm 3 3 (Cw C)
def sG(C:Addr):SM:=(ay (dm (cw C 0 "check_holder" (kz C) (aj (xV 1) (aj (xV 2) aC))))
  (ay (cU C 0 "last" (xV 2))
  (ay (bJ (aY (aV (dO C 0 "is_busy" (ni C)))) (br (cN (az (xC (.str "busy")) (az (ag aH (cp C 0 "begun") (xC (.int 0))) (az (ag aH (cp C 0 "begun") (xC (.int 1))) aT))))) bN)
  (ay (bJ (aY (ag eK (cp C 0 "begun") (xC .none))) (fB (cw C 0 "step_behind_a_fall" (pD C) (aj (xV 1) (aj (xV 2) aC)))) bN)
  (fB (cw C 0 "step_ahead" (lI C) (aj (xV 1) (aj (xV 2) aC))))))))
def kA(C:Addr):FM:=bm 3 3 (sG C)
def Cy:SM:=(ay (dm (aJ sC (aj (xV 0) (aj (xV 1) (aj (xV 2) (aj (xV 3) aC))))))
  (fB (aJ sA (aj (xV 0) (aj (xV 1) (aj (xV 2) (aj (xV 3) aC)))))))
def sH:FM:=bm 4 4 Cy
def nC(C:Addr):SM:=(ay (bH (aV (cw C 0 "step" (kA C) (aj (xV 1) (aj (xV 2) aC)))) (av 6))
  (ay (jC 4 (xV 6))
  (ay (bJ (aY (ag (aM false) (ag aH (xV 6) (xC (.int 0))) (xC (.str "idle")))) zY bN)
  (bJ (kd (aY (ag (aM false) (ag aH (xV 6) (xC (.int 0))) (xC (.str "begun")))) (aY (ag (aM false) (ag aH (xV 6) (xC (.int 0))) (xC (.str "busy"))))) (jC 4 (aV (cw C 0 "finish" (pH C) (aj (xV 1) (aj (xV 2) aC))))) bN))))
def Cz(C:Addr):SM:=(ay (bJ (eZ (aY (aV (aJ gf (aj (xV 3) (aj (xC (.int 0)) (aj (xC (.int (999))) aC))))))) gK bN)
  (ay (jx 4 (jB aT))
  (ay (fC (er cu (az (xV 3) aT)) (av 5) (nC C))
  (qM 4))))
def sI(C:Addr):FM:=bm 4 7 (Cz C)
def CB(C:Addr):SM:=(jx 1 (jB aT))
def CC(C:Addr):SM:=(bH (aV (aJ sk (bZ 0 (bZ 1 (aj (xC (.int 40)) aC))))) (av 2))
def CF(C:Addr):SM:=(bH (cN aT) (av 3))
def ww(C:Addr):SM:=(bH (ag mi (xV 3) (cN (az (cN (az (aV (aJ nv (bZ 0 (bZ 1 (aj (xC (.int 40)) aC))))) (az (xC (.str "all")) (az (xC (.bool true)) aT)))) aT))) (av 3))
def Qz(C:Addr):SM:=(fC (er cu (az (ag dM (xC (.int 1)) (aV (aJ gj (bZ 0 (bZ 1 (aj (xC (.int 4)) aC)))))) aT)) (av 4) (ww C))
def CG(C:Addr):SM:=(Bz 5 6 0 (vA C (sF C) (az (xV 2) (az (xV 3) aT))))
def pJ(C:Addr):SM:=(ay (bH (ag dM (xV 6) (aV (aJ gj (bZ 0 (bZ 1 (aj (xC (.int 30)) aC)))))) (av 6))
  (ay (dm (cw C 5 "take" (ny C) (aj (xC (.int 0)) (aj (xV 6) (aj (xC (.int 50)) aC)))))
  (ay (bH (aV (aJ (sI C) (bZ 5 (aj (xC (.int 0)) (aj (xV 6) (aj (xC (.int 999)) aC)))))) (av 8))
  (ay (bH (aV (aJ pI (aj (xV 2) (aj (xV 3) (aj (ag dM (xV 6) (xC (.int 1))) aC))))) (av 9))
  (bJ (aY (ag (aM true) (ag aH (xV 8) (lh (xC (.int 1)))) (cN (az (xC (.str "idle")) (az (li (aY (ag iI (xV 9) (xC .none))) (xC .none) (ag aH (xV 9) (xC (.int 0)))) aT))))) (br (xC (.bool false))) bN)))))
def QA(C:Addr):SM:=(fC (er cu (az (ag dM (xC (.int 1)) (aV (aJ gj (bZ 0 (bZ 1 (aj (xC (.int 4)) aC)))))) aT)) (av 7) (pJ C))
def CH(C:Addr):SM:=(bH (aV (aJ sH (aj (xV 2) (aj (xV 3) (aj (xC (.int 0)) (aj (xV 6) aC)))))) (av 10))
def sJ(C:Addr):XM Bool:=(aY (ag (aM false) (ag aH (xV 0) (xC (.int 2))) (xC (.str "done"))))
def sK(C:Addr):XM PyData:=(cN (az (ag aH (xV 0) (xC (.int 3))) (az (ag aH (xV 0) (xC (.int 4))) aT)))
def CI(C:Addr):SM:=(bH (eN 1 [] (jz (aV (dO C 5 "log" (nj C)))) (av 0) (sJ C) (sK C)) (av 11))
def nE(C:Addr):XM PyData:=(cN (az (xV 1) (az (xV 2) aT)))
def QB(C:Addr):SM:=(bJ (kd (aY (ag (aM true) (xV 11) (eN 3 [] (jz (xV 10)) (cJ 3 (bt (av 0) (bt (av 1) (bt (av 2) cI)))) cO (nE C)))) (aY (ag (aM true) (aV (dO C 5 "waiting" (wr C))) (ag ot (jt (az (xC (.int 0)) aT)) (dB fz (az (xV 3) aT)))))) (br (xC (.bool false))) bN)
def pK(C:Addr):XM Bool:=(aY (ag (aM false) (ag aH (xV 0) (xC (.int 1))) (xV 1)))
def pL(C:Addr):XM PyData:=(xC (.int 1))
def sL(C:Addr):SM:=(bJ (aY (ag (aM true) (xV 13) (ag mi (ag mH (cN (az (dB fz (az (eN 1 [12] (jz (xV 10)) (av 0) (pK C) (pL C)) aT)) aT)) (xC (.int 2))) (cN (az (xC (.int 0)) (az (xC (.int 0)) aT)))))) (br (xC (.bool false))) bN)
def CJ(C:Addr):SM:=(fC (er ls (az (aV (aJ (rQ C) (bZ 5 aC))) aT)) (cJ 2 (bt (av 12) (bt (av 13) cI))) (sL C))
def CL(C:Addr):SM:=(br (xC (.bool true)))
def CN(C:Addr):SM:=(ay (CB C)
  (ay (CC C)
  (ay (CF C)
  (ay (Qz C)
  (ay (CG C)
  (ay (QA C)
  (ay (CH C)
  (ay (CI C)
  (ay (QB C)
  (ay (CJ C)
  (CL C)))))))))))
def CO(C:Addr):FM:=bm 1 14 (CN C)
end K3
namespace K3
open PySem PySem.Spec L2 L2.L3 PyProof.Rows
noncomputable def top(i:Nat):Stmt:=PySem.Challenge.pw_duehall_k34_whole_calendar_done.main.body.getD i (.Pass ⟨0,0,0,0⟩)
abbrev CP:Stmt:=top 23
abbrev CQ:Stmt:=top 24
abbrev CS:Stmt:=top 25
abbrev CT:Stmt:=top 26
abbrev CU:Stmt:=top 27
abbrev CV:Stmt:=top 28
abbrev CW:Stmt:=top 29
abbrev CY:Stmt:=top 30
abbrev CZ:Stmt:=top 31
abbrev Db:Stmt:=top 32
abbrev Dc:Stmt:=top 33
abbrev Dd:Stmt:=top 34
abbrev De:Stmt:=top 35
abbrev Df:Stmt:=top 36
abbrev Dg:Stmt:=top 37
abbrev Dh:Stmt:=top 38
abbrev Di:Stmt:=top 39
abbrev Dj:Stmt:=top 40
abbrev Dk:Stmt:=top 41
abbrev Dl:Stmt:=top 42
abbrev Dm:Stmt:=top 45
abbrev Dn:Stmt:=top 46
abbrev Do:Stmt:=top 47
abbrev Dp:Stmt:=top 48
abbrev Dq:Stmt:=top 49
abbrev Dr:Stmt:=top 51
abbrev Ds:Stmt:=top 52
abbrev Dt:Stmt:=top 53
abbrev Du:Stmt:=top 54
abbrev Dv:Stmt:=top 55
abbrev Dw:Stmt:=top 57
abbrev Dx:Stmt:=top 58
abbrev Dy:Stmt:=top 59
abbrev Dz:Stmt:=top 60
abbrev DH:Stmt:=top 65
abbrev DJ:Stmt:=fK (top 66) 0
abbrev DK:Stmt:=fK (top 66) 1
abbrev DL:Stmt:=fK (top 66) 2
abbrev DM:Stmt:=fK (top 66) 3
abbrev DP:Stmt:=fK (top 66) 4
abbrev DQ:Stmt:=fK (top 66) 6
abbrev DR:Stmt:=fK (top 66) 7
abbrev DU:Stmt:=fK (top 66) 8
abbrev DY:Stmt:=fK (top 66) 9
abbrev DZ:Stmt:=fK (top 66) 10
abbrev Ea:Stmt:=fK (top 66) 11
abbrev Eb:Stmt:=fK (top 66) 12
abbrev Ec:Stmt:=fK (top 66) 15
abbrev Ed:Stmt:=fK (top 66) 16
abbrev Ee:Stmt:=top 69
abbrev Ef:Stmt:=top 70
abbrev Eg:Stmt:=top 73
abbrev Eh:Stmt:=top 75
abbrev Ei:Stmt:=top 76
abbrev Ej:Stmt:=top 77
abbrev Ek:Stmt:=top 78
abbrev El:Stmt:=top 79
abbrev Em:Stmt:=top 81
abbrev kB:Stmt:=top 83
theorem En:bY ["_law_script","_law_town","_law_zone_here","_law_deeds","_law_k","_law_hall","_law_moment","_law_turn","_law_told","_law_row","_law_wanted","_law_done","_law_deed","_law_many"] ["_law_script"] (dJ kB):=bA
structure Tx (K:Frag) (mg:Str->Option Value):Prop where
 d00:∃g fd,FD K mg "is_whole" CP ["thing","least","most"] g fd
 d01:∃g fd,FD K mg "is_tuple_of" CQ ["thing","length"] g fd
 d02:∃g fd,FD K mg "is_ahead" CS ["thing"] g fd
 d03:∃g fd,FD K mg "is_moment" CT ["thing"] g fd
 d04:∃g fd,FD K mg "is_runner" CU ["thing"] g fd
 d05:∃g fd,FD K mg "is_term" CV ["thing"] g fd
 d06:∃g fd,FD K mg "are_shifts" CW ["thing"] g fd
 d07:∃g fd,FD K mg "is_zone" CY ["thing"] g fd
 d08:∃g fd,FD K mg "has_word" CZ ["thing","word","length"] g fd
 d09:∃g fd,FD K mg "is_plan" Db ["thing"] g fd
 d0a:∃g fd,FD K mg "is_late" Dc ["thing"] g fd
 d0b:∃g fd,FD K mg "is_deed" Dd ["thing"] g fd
 d0c:∃g fd,FD K mg "are_deeds" De ["thing"] g fd
 d0d:∃g fd,FD K mg "check_zone" Df ["thing"] g fd
 d0e:∃g fd,FD K mg "check_plan" Dg ["thing"] g fd
 d0f:∃g fd,FD K mg "check_moment" Dh ["thing"] g fd
 d0g:∃g fd,FD K mg "check_stretch" Di ["first","last"] g fd
 d0h:∃g fd,FD K mg "check_deeds" Dj ["thing"] g fd
 d0i:∃g fd,FD K mg "check_runner" Dk ["thing"] g fd
 d0j:∃g fd,FD K mg "check_term" Dl ["thing"] g fd
 d0k:∃g fd,FD K mg "shown" Dm ["zone","moment"] g fd
 d0l:∃g fd,FD K mg "stretches" Dn ["zone"] g fd
 d0m:∃g fd,FD K mg "is_ahead_of" Do ["moment","end"] g fd
 d0n:∃g fd,FD K mg "first_showing" Dp ["zone","hours"] g fd
 d0o:∃g fd,FD K mg "furthest_shown" Dq ["zone","moment"] g fd
 d0p:∃g fd,FD K mg "first_day" Dr ["zone","hour"] g fd
 d0q:∃g fd,FD K mg "daily_time" Ds ["zone","hour","count"] g fd
 d0r:∃g fd,FD K mg "time_of" Dt ["zone","plan","count"] g fd
 d0s:∃g fd,FD K mg "times_by" Du ["zone","plan","moment"] g fd
 d0t:∃g fd,FD K mg "dues" Dv ["zone","plan","first","last"] g fd
 d0u:∃g fd,FD K mg "rows_between" Dw ["zone","deeds","first","last"] g fd
 d0v:∃g fd,FD K mg "check_calendar" Dx ["zone","deeds","first","last"] g fd
 d0w:∃g fd,FD K mg "calendar" Dy ["zone","deeds","first","last"] g fd
 d0x:∃g fd,FD K mg "next_due" Dz ["zone","deeds","moment"] g fd
 d0y:∃g fd,FD K mg "is_left_out" DH ["zone","deed","count","now"] g fd
 d0z:∃g fd,FD K mg "tally" Ee ["rows","deed"] g fd
 d10:∃g fd,FD K mg "tallies" Ef ["hall"] g fd
 d11:∃g fd,FD K mg "catch_up" Eg ["hall","runner","moment","most"] g fd
 d12:∃g fd,FD K mg "_law_cell_at" Eh ["_law_script","_law_k"] g fd
 d13:∃g fd,FD K mg "_law_mixed" Ei ["_law_script","_law_k","_law_many"] g fd
 d14:∃g fd,FD K mg "_law_draw" Ej ["_law_script","_law_town","_law_many"] g fd
 d15:∃g fd,FD K mg "_law_pick" Ek ["_law_script","_law_town","_law_some"] g fd
 d16:∃g fd,FD K mg "_law_zone" El ["_law_script","_law_town","_law_wide"] g fd
 d17:∃g fd,FD K mg "_law_plan" Em ["_law_script","_law_town","_law_wide"] g fd
 d18:∃t,mg "LAST_MOMENT" = some (.int (9999) t)
 d19:∃t,mg "LAST_HOUR" = some (.int (23) t)
 d1a:∃t,mg "LEAST_AHEAD" = some (.int (-12) t)
 d1b:∃t,mg "MOST_AHEAD" = some (.int (14) t)
 d1c:∃t,mg "MOST_SHIFTS" = some (.int (6) t)
 d1d:∃t,mg "MOST_STEP" = some (.int (999) t)
 d1e:∃t,mg "MOST_DEEDS" = some (.int (6) t)
 d1f:∃t,mg "MOST_WITHIN" = some (.int (999) t)
 d1g:∃t,mg "LAST_RUNNER" = some (.int (3) t)
 d1h:∃t,mg "MOST_TERM" = some (.int (99) t)
 d1i:∃t,mg "DAY_HOURS" = some (.int (24) t)
 d1j:∃t,mg "PLAN" = some (.int (0) t)
 d1k:∃t,mg "LATE" = some (.int (1) t)
 d1l:∃t,mg "AGAIN" = some (.int (2) t)
 d1m:∃g,mg "WORDS" = some (.ref g)/\pc K g ["begun","done","left","unsure"]
 d1n:∃t,mg "MOST_STEPS" = some (.int (999) t)
 d1o:mg "all" = none
 d1p:mg "bool" = none
 d1q:mg "enumerate" = none
 d1r:mg "int" = none
 d1s:mg "isinstance" = none
 d1t:mg "len" = none
 d1u:mg "list" = none
 d1v:mg "max" = none
 d1w:mg "min" = none
 d1x:mg "range" = none
 d1y:mg "sorted" = none
 d1z:mg "str" = none
 d20:mg "tuple" = none
 d21:mg "zip" = none
structure ed (K:Frag) (mg:Str->Option Value) (C:Addr):Prop where
 cl:cS K C
 mg:mg "Hall" = some (.ref C)
 mks:PySem.W.makesIn K C=true
 kpC:keepIn K (.ref C)=true
 d22:cA K C "begun"
 d23:cA K C "deeds"
 d24:cA K C "holder"
 d25:cA K C "holds"
 d26:cA K C "last"
 d27:cA K C "rows"
 d28:cA K C "settled"
 d29:cA K C "until"
 d2a:cA K C "words"
 d2b:cA K C "zone"
 d2c:∃g fd,MD K C "__init__" "Hall.__init__" DJ ["self","zone","deeds"] g fd
 d2d:∃g fd,MD K C "is_held" "Hall.is_held" DK ["self","moment"] g fd
 d2e:∃g fd,MD K C "check_call" "Hall.check_call" DL ["self","runner","moment"] g fd
 d2f:∃g fd,MD K C "check_holder" "Hall.check_holder" DM ["self","runner","moment"] g fd
 d2g:∃g fd,MD K C "take" "Hall.take" DP ["self","runner","moment","term"] g fd
 d2h:∃g fd,MD K C "add_row" "Hall.add_row" DQ ["self","row"] g fd
 d2i:∃g fd,MD K C "is_busy" "Hall.is_busy" DR ["self"] g fd
 d2j:∃g fd,MD K C "first_unsettled" "Hall.first_unsettled" DU ["self"] g fd
 d2k:∃g fd,MD K C "step" "Hall.step" DY ["self","runner","moment"] g fd
 d2l:∃g fd,MD K C "step_behind_a_fall" "Hall.step_behind_a_fall" DZ ["self","runner","moment"] g fd
 d2m:∃g fd,MD K C "step_ahead" "Hall.step_ahead" Ea ["self","runner","moment"] g fd
 d2n:∃g fd,MD K C "finish" "Hall.finish" Eb ["self","runner","moment"] g fd
 d2o:∃g fd,MD K C "log" "Hall.log" Ec ["self"] g fd
 d2p:∃g fd,MD K C "waiting" "Hall.waiting" Ed ["self"] g fd
theorem ed.make{K}{mg}(h:ed K mg C)(M:gU K C "__init__" g):Mk K C g:=⟨h.mks,M.at_,M.fn,h.kpC⟩
theorem QD:bootBuiltins "int" = some (.type "int"):=by decide +kernel
theorem Eo:bootBuiltins "bool" = some (.type "bool"):=by decide +kernel
theorem Ep:bootBuiltins "str" = some (.type "str"):=by decide +kernel
theorem sM:bootBuiltins "tuple" = some (.type "tuple"):=by decide +kernel
theorem TH:bootBuiltins "list" = some (.type "list"):=by decide +kernel
theorem sN:bootBuiltins "max" = some (.builtin "max"):=by decide +kernel
theorem TJ:bootBuiltins "divmod" = some (.builtin "divmod"):=by decide +kernel
theorem QE:bootBuiltins "all" = some (.builtin "all"):=by decide +kernel
theorem TK:bootBuiltins "any" = some (.builtin "any"):=by decide +kernel
theorem TM:bootBuiltins "sum" = some (.builtin "sum"):=by decide +kernel
theorem TN:bootBuiltins "min" = some (.builtin "min"):=by decide +kernel
theorem QF:bootBuiltins "sorted" = some (.builtin "sorted"):=by decide +kernel
theorem im(a:GF X.mg F):fS X F eO:=⟨a,fun _ _ _ _ _ _ _ _ _ _ z=>z.elim⟩
end K3
namespace K3
open PySem PySem.Spec L2 L2.L3 PyProof.Rows
local macro_rules | `(tactic|walk_at "z")=>`(tactic|first |exact vU (by kernel_rfl) |exact PassesOwn.leaving)
local macro_rules | `(tactic|walk_at "a")=>`(tactic|(refine di ?_;refine NE ?_))
local macro_rules | `(tactic|walk_at "c")=>`(tactic|(refine eM ?_ ?_;(refine zV ?_ ?_ ?_ ?_ ?_ ?_<;>try walk_at "z")))
local macro_rules | `(tactic|walk_at "d")=>`(tactic|(refine eM ?_ ?_;refine zX ?_ ?_ ?_))
local macro_rules | `(tactic|walk_at "e")=>`(tactic|(refine eM ?_ ?_;refine zW ?_))
local macro_rules | `(tactic|walk_at "f")=>`(tactic|(refine di ?_;refine zX ?_ ?_ ?_))
local macro_rules | `(tactic|walk_at "g")=>`(tactic|(refine di ?_;refine NF ?_))
local macro_rules | `(tactic|walk_at "h")=>`(tactic|(refine eM ?_ ?_;refine AD ?_ ?_ ?_ ?_ ?_))
local macro_rules | `(tactic|walk_at "i")=>`(tactic|(refine eM ?_ ?_;(refine Aa ?_ ?_ ?_ ?_ ?_ ?_<;>try walk_at "z")))
local macro_rules | `(tactic|walk_at "j")=>`(tactic|(refine eM ?_ ?_;(refine ND ?_ ?_ ?_ ?_ ?_ ?_<;>try walk_at "z")))
local macro_rules | `(tactic|walk_at "k")=>`(tactic|(refine di ?_;(refine zV ?_ ?_ ?_ ?_ ?_ ?_<;>try walk_at "z")))
local macro_rules | `(tactic|walk_at "l")=>`(tactic|(refine di ?_;(refine Ae ?_ ?_ ?_ ?_ ?_ ?_ ?_ ?_<;>try walk_at "z")))
local macro_rules | `(tactic|walk_at "m")=>`(tactic|(refine eM ?_ ?_;(refine Ae ?_ ?_ ?_ ?_ ?_ ?_ ?_ ?_<;>try walk_at "z")))
local macro_rules | `(tactic|walk_at "z")=>`(tactic|first|rfl|exact .inl rfl|exact .inr rfl|assumption|exact fun _=>rfl)
local macro_rules | `(tactic|walk_at "z")=>`(tactic|first|rfl|exact .inl rfl|exact .inr rfl|assumption|exact fun _=>rfl)
section
variable{P:Program}{w:World}{K:Frag}{mg:Str->Option Value}{base:Heap}
theorem jL(T:Tx K mg):CK P w K mg base 1 "is_whole" gf:=by
 refine bP ["thing","least","most"] T.d00 bA fun a b=>?_
 walk_at "a"
 exact(eY (kg (jY rfl T.d1s (fv 0) (jT rfl T.d1r QD rfl))) (eY (Nm (kg (jY rfl T.d1s (fv 0) (jT rfl T.d1p Eo rfl)))) (gx (Oe (fv 1) (fv 0) (fv 2)))))
theorem sO(T:Tx K mg):CK P w K mg base 1 "is_tuple_of" ku:=by
 refine bP ["thing","length"] T.d01 bA fun a b=>?_
 walk_at "a"
 exact(eY (kg (jY rfl T.d1s (fv 0) (jT rfl T.d20 sM rfl))) (gx (oE a.units (fy kf (fQ iz ka rfl T.d1t PySem.boot_len (aA (fv 0) bn))) (fv 1))))
theorem QG(T:Tx K mg):CK P w K mg base 1 "shown" rH:=by
 refine bP ["zone","moment","ahead","shift"] T.d0k bA fun a b=>?_
 walk_at "c"
 exact(aW (fv 0) (aa au))
 walk_at "i"
 exact(lr (aW (fv 0) (aa au)));exact(cg 3)
 walk_at "f"
 exact(oD (aW (fv 3) (aa au)) (fv 1))
 walk_at "k"
 exact(aW (fv 3) (aa au));exact bO
 walk_at "a"
 exact(dX (fv 1) (fv 2))
theorem Er(T:Tx K mg):CK P w K mg base 1 "stretches" pd:=by
 refine bP ["zone","starts","ends","aheads"] T.d0l bA fun c a=>?_
 walk_at "c"
 exact(vn (lm (aA (aa au) bn)) (iK a.1 (af.of (own:=["shift"]) (capN:=[]) (caps:=[])) rfl rfl (lr (aW (fv 0) (aa au))) (fun _ _ _ _ _ _ b=>⟨(cg 0),jA,(aW (fv 0) (aa au))⟩)))
 walk_at "c"
 exact(vn (NT (Mr (k:=1) (fv 1))) (lm (aA (aa ec) bn)))
 walk_at "c"
 exact(vn (lm (aA (aW (fv 0) (aa au)) bn)) (iK a.1 (af.of (own:=["shift"]) (capN:=[]) (caps:=[])) rfl rfl (lr (aW (fv 0) (aa au))) (fun _ _ _ _ _ _ b=>⟨(cg 0),jA,(aW (fv 0) (aa au))⟩)))
 walk_at "a"
 exact(NS (Mq rfl rfl T.d1u rfl T.d21 (aA (fv 1) (aA (fv 2) (aA (fv 3) bn)))))
theorem Es(T:Tx K mg):CK P w K mg base 1 "is_ahead_of" pf:=by
 refine bP ["moment","end"] T.d0m bA fun a b=>?_
 walk_at "a"
 exact(zN (Od (fv 1) (aa ec)) (gx (Ax (fv 0) (fv 1))))
theorem QH(T:Tx K mg):CK P w K mg base 1 "tally" rJ:=by
 obtain⟨b,a⟩:=T.d1m;refine bP ["rows","deed","words"] T.d0z bA fun d c=>?_
 walk_at "c"
 exact(iK c.1 (af.of (own:=["row"]) (capN:=["deed"]) (caps:=[1])) rfl rfl (lq (fv 0)) (fun _ _ _ _ _ _ e=>⟨(cg 0),(ow (fe d.units (aW (fv 0) (aa au)) (fv 1))),(aW (fv 0) (aa au))⟩))
 walk_at "a"
 exact(fy Np (KL Je Mo rfl T.d20 sM (aA (iK c.1 (af.of (own:=["word"]) (capN:=["words"]) (caps:=[2])) rfl rfl (Qm rfl a.1 a.2) (fun _ _ _ _ _ _ e=>⟨(cg 0),jA,(NW (g:=km) PySem.F.slot_list_count PySem.F.type_list_count NU NX (pv 1) (fv 0))⟩)) bn)))
theorem QI(T:Tx K mg):CK P w K mg base 1 "_law_cell_at" nh:=by
 refine bP ["_law_script","_law_k"] T.d12 bA fun a b=>?_
 walk_at "d"
 exact(qO (fv 1) (zS (zn rfl T.d1t (pv 0))))
 walk_at "a"
 exact(zT (zp (pv 0) (fv 1) (by intro _ _;rfl)));exact bO
 walk_at "d"
 exact(Nw (Mw a.units (pv 0)))
 walk_at "a"
 exact(aa au);exact bO
 walk_at "a"
 exact(dX (oB (zT (zp (pv 0) (oC (fv 1) (zS (zn rfl T.d1t (pv 0)))) (by intro _ _;rfl))) (aa au)) (fv 1))
theorem Et(T:Tx K mg)(a:ed K mg C):CM P w K mg base C 1 "is_held" (pq C):=by
 refine fX ["self","moment"] a.d2d bA fun b c=>?_
 walk_at "a"
 exact(eY (vr (cY a.cl a.d24 (pv 0)) (aa ec)) (gx (Ax (fv 1) (cY a.cl a.d29 (pv 0)))))
theorem wx(T:Tx K mg)(a:ed K mg C):CM P w K mg base C 1 "add_row" (gi C):=by
 refine fX ["self","row","word","deed","count"] a.d2h bA fun b c=>?_
 walk_at "c"
 exact(aW (fv 1) (aa au))
 walk_at "c"
 exact(aW (fv 1) (aa au))
 walk_at "c"
 exact(aW (fv 1) (aa au));refine eM ?_ ?_;(refine Oy ?_ ?_ ?_ ?_ ?_ ?_ ?_ ?_ ?_ ?_ ?_<;>try walk_at "z");exact a.cl;exact a.d27;exact(pv 0);exact(pv 1);refine eM ?_ ?_;(refine Oz ?_ ?_ ?_ ?_ ?_ ?_ ?_ ?_ ?_ ?_ ?_<;>try walk_at "z");exact(uj b);exact a.cl;exact a.d2a;exact(pv 0);exact(pv 3);exact(pv 4);exact(fv 2)
 walk_at "d"
 exact(fe b.units (fv 2) (aa cG));refine di ?_;refine AD ?_ ?_ ?_ ?_ ?_;exact a.cl;exact a.d22;exact(pv 0);exact(cR (aA (fv 3) (aA (fv 4) (aA (cY a.cl a.d25 (pv 0)) bn))));rfl
 walk_at "h"
 exact a.cl;exact a.d22;exact(pv 0);exact(aa ec);rfl;refine di ?_;(refine OB ?_ ?_ ?_ ?_ ?_ ?_ ?_ ?_ ?_ ?_<;>try walk_at "z");exact a.cl;exact a.d28;exact(pv 0);exact(pv 3);exact(dX (fv 4) (aa au))
 walk_at "a"
 exact(cR (aA (fv 2) (aA (fv 3) (aA (fv 4) bn))))
theorem Eu(T:Tx K mg)(a:ed K mg C):CM P w K mg base C 1 "is_busy" (ni C):=by
 refine fX ["self"] a.d2i bA fun b c=>?_
 walk_at "a"
 exact(eY (vr (cY a.cl a.d22 (pv 0)) (aa ec)) (gx (oE b.units (aW (cY a.cl a.d22 (pv 0)) (aa au)) (cY a.cl a.d25 (pv 0)))))
theorem Ev(T:Tx K mg)(a:ed K mg C):CM P w K mg base C 1 "log" (nj C):=by
 refine fX ["self"] a.d2o bA fun b c=>?_
 walk_at "a"
 exact(OF rfl T.d1u a.cl a.d27 (pv 0))
theorem Ew(T:Tx K mg):CK P w K mg base 2 "is_ahead" pA:=by
 obtain⟨c,a⟩:=T.d1a;obtain⟨d,b⟩:=T.d1b;refine bP ["thing"] T.d02 bA fun e f=>?_
 walk_at "g"
 exact(aO f (jL T) e (ao (fv 0) (ao (aa (du rfl a)) (ao (aa (du rfl b)) aD))))
theorem wy(T:Tx K mg):CK P w K mg base 2 "is_moment" nk:=by
 obtain⟨b,a⟩:=T.d18;refine bP ["thing"] T.d03 bA fun c d=>?_
 walk_at "g"
 exact(aO d (jL T) c (ao (fv 0) (ao (aa au) (ao (aa (du rfl a)) aD))))
theorem QJ(T:Tx K mg):CK P w K mg base 2 "is_runner" rL:=by
 obtain⟨b,a⟩:=T.d1g;refine bP ["thing"] T.d04 bA fun c d=>?_
 walk_at "g"
 exact(aO d (jL T) c (ao (fv 0) (ao (aa au) (ao (aa (du rfl a)) aD))))
theorem QK(T:Tx K mg):CK P w K mg base 2 "is_term" rM:=by
 obtain⟨b,a⟩:=T.d1h;refine bP ["thing"] T.d05 bA fun c d=>?_
 walk_at "g"
 exact(aO d (jL T) c (ao (fv 0) (ao (aa au) (ao (aa (du rfl a)) aD))))
theorem sP(T:Tx K mg):CK P w K mg base 2 "has_word" kv:=by
 refine bP ["thing","word","length"] T.d08 bA fun a b=>?_
 walk_at "a"
 exact(eY (aZ (aO b (sO T) a (ao (fv 0) (ao (fv 2) aD)))) (eY (kg (jY rfl T.d1s (aW (fv 0) (aa au)) (jT rfl T.d1z Ep rfl))) (gx (oE a.units (aW (fv 0) (aa au)) (fv 1)))))
theorem QL(T:Tx K mg):CK P w K mg base 2 "first_showing" rN:=by
 obtain⟨_,_,d,c,a,b⟩:=Es (P:=P) (w:=w) (base:=base) T;refine bP ["zone","hours","reached"] T.d0n bA fun e f=>?_;refine eM ?_ ?_;(refine Ad (own:=["start","end","ahead"]) (capN:=["hours"]) (caps:=[1]) ?_ ?_ ?_ ?_ ?_ ?_ ?_ ?_ ?_ ?_ ?_ ?_<;>try walk_at "z");exact f.1;exact(af.of (own:=["start","end","ahead"]) (capN:=["hours"]) (caps:=[1]));exact(lq (aZ (aO f (Er T) e (ao (fv 0) aD))));exact(fun _ _ _ _ _ _ g=>⟨(jw (n:=3) rfl (dW (cg 0) (dW (cg 1) (dW (cg 2) jv)))),(ow (dA (dt (aZ (mP (im g) b a e (ao (fy uX (fQ (tV rfl) uP rfl T.d1v sN (aA (fv 0) (aA (iO (fv 3) (fv 2)) bn)))) (ao (fv 1) aD))))))),(fy uX (fQ (tV rfl) uP rfl T.d1v sN (aA (fv 0) (aA (iO (fv 3) (fv 2)) bn))))⟩)
 walk_at "a"
 exact(aW (fv 2) (aa au))
theorem QM(T:Tx K mg):CK P w K mg base 2 "furthest_shown" rO:=by
 obtain⟨_,_,d,c,a,b⟩:=Es (P:=P) (w:=w) (base:=base) T;refine bP ["zone","moment"] T.d0o bA fun e f=>?_
 walk_at "a"
 exact(fy Nv (fQ (MZ rfl) Na rfl T.d1v sN (aA (iK f.1 (af.of (own:=["start","end","ahead"]) (capN:=["moment"]) (caps:=[1])) rfl rfl (lq (aZ (aO f (Er T) e (ao (fv 0) aD)))) (fun _ _ _ _ _ _ g=>⟨(jw (n:=3) rfl (dW (cg 0) (dW (cg 1) (dW (cg 2) jv)))),(ow (oD (fv 0) (fv 3))),(dX (mq (dA (dt (aZ (mP (im g) b a e (ao (fv 3) (ao (fv 1) aD)))))) (fv 3) (iO (fv 1) (aa au))) (fv 2))⟩)) bn)))
theorem Ex(T:Tx K mg):CK P w K mg base 2 "first_day" pC:=by
 obtain⟨b,a⟩:=T.d1i;refine bP ["zone","hour"] T.d0p bA fun c d=>?_
 walk_at "a"
 exact(mj (vm (iO (fv 1) (aZ (aO d (QG T) c (ao (fv 0) (ao (aa au) aD))))) (aa (du rfl a))))
theorem QN(T:Tx K mg)(e:ed K mg C):CK P w K mg base 2 "tallies" (rQ C):=by
 obtain⟨_,_,d,c,a,b⟩:=QH (P:=P) (w:=w) (base:=base) T;refine bP ["hall","rows"] T.d10 bA fun f g=>?_
 walk_at "c"
 exact(aZ (mW g e.cl (Ev T e) f (pv 0)))
 walk_at "a"
 exact(iK g.1 (af.of (own:=["deed"]) (capN:=["rows"]) (caps:=[1])) rfl rfl (my (lV rfl T.d1x (aA (fy kf (fQ iz ka rfl T.d1t PySem.boot_len (aA (cY e.cl e.d23 (pv 0)) bn))) bn))) (fun _ _ _ _ _ _ h=>⟨(cg 0),jA,(aZ (mP (im h) b a f (ao (fv 1) (ao (fv 0) aD))))⟩))
theorem QO(T:Tx K mg):CK P w K mg base 2 "_law_mixed" rR:=by
 refine bP ["_law_script","_law_k","_law_many","_law_drawn"] T.d13 bA fun a b=>?_
 walk_at "c"
 exact(oC (dX (dX (oB (aZ (aO b (QI T) a (cm (pv 0) (ao (fv 1) aD)))) (aa au)) (oB (aa au) (fv 1))) (aa au)) (aa au))
 walk_at "a"
 exact(oC (oC (oC (Oh (fv 3) (aa au)) (aa au)) (aa au)) (fv 2))
theorem QP(T:Tx K mg)(b:ed K mg C):CM P w K mg base C 2 "step_behind_a_fall" (pD C):=by
 obtain⟨c,a⟩:=T.d1l;refine fX ["self","runner","moment","deed","word"] b.d2l bA fun d e=>?_
 walk_at "c"
 exact(aW (cY b.cl b.d22 (pv 0)) (aa au))
 walk_at "c"
 exact(mq (dA (dt (aW (aW (cY b.cl b.d23 (pv 0)) (fv 3)) (aa (du rfl a))))) (aa cG) (aa cG))
 walk_at "g"
 exact(fY e b.cl (wx T b) d (pv 0) (ao (cR (aA (fv 2) (aA (fv 1) (aA (fv 4) (aA (fv 3) (aA (aW (cY b.cl b.d22 (pv 0)) (aa au)) bn)))))) aD))
theorem QQ(T:Tx K mg):CK P w K mg base 3 "are_shifts" rT:=by
 obtain⟨c,a⟩:=T.d18;obtain⟨d,b⟩:=T.d1c;refine bP ["thing","earliest","shift"] T.d06 bA fun e f=>?_
 walk_at "d"
 exact(ke (mm (fx (dA (dt (kg (jY rfl T.d1s (fv 0) (jT rfl T.d20 sM rfl)))))) (ml (vp (fy kf (fQ iz ka rfl T.d1t PySem.boot_len (aA (fv 0) bn))) (aa (du rfl b))))))
 walk_at "a"
 exact(aa gu);exact bO
 walk_at "c"
 exact(aa au)
 walk_at "i"
 exact(lr (fv 0));exact(cg 2)
 walk_at "d"
 exact(ke (mm (fx (dA (dt (aZ (aO f (sO T) e (ao (fv 2) (ao (aa au) aD))))))) (ml (fx (dA (dt (aZ (aO f (Ew T) e (ao (aW (fv 2) (aa au)) aD)))))))))
 walk_at "a"
 exact(aa gu);exact bO
 walk_at "d"
 exact(fx (dA (dt (aZ (aO f (jL T) e (ao (aW (fv 2) (aa au)) (ao (fv 1) (ao (aa (du rfl a)) aD))))))))
 walk_at "a"
 exact(aa gu);exact bO
 walk_at "k"
 exact(dX (aW (fv 2) (aa au)) (aa au))
 walk_at "a"
 exact(aa gu)
theorem Ey(T:Tx K mg):CK P w K mg base 3 "is_plan" lE:=by
 obtain⟨c,a⟩:=T.d19;obtain⟨d,b⟩:=T.d1d;refine bP ["thing"] T.d09 bA fun e f=>?_
 walk_at "d"
 exact(dA (dt (aZ (aO f (sP T) e (ao (fv 0) (ao (aa cG) (ao (aa au) aD)))))))
 walk_at "g"
 exact(aO f (wy T) e (ao (aW (fv 0) (aa au)) aD));exact bO
 walk_at "d"
 exact(dA (dt (aZ (aO f (sP T) e (ao (fv 0) (ao (aa cG) (ao (aa au) aD)))))))
 walk_at "a"
 exact(eY (aZ (aO f (wy T) e (ao (aW (fv 0) (aa au)) aD))) (gx (aZ (aO f (jL T) e (ao (aW (fv 0) (aa au)) (ao (aa au) (ao (aa (du rfl b)) aD)))))));exact bO
 walk_at "a"
 exact(eY (aZ (aO f (sP T) e (ao (fv 0) (ao (aa cG) (ao (aa au) aD))))) (gx (aZ (aO f (jL T) e (ao (aW (fv 0) (aa au)) (ao (aa au) (ao (aa (du rfl a)) aD)))))))
theorem QR(T:Tx K mg):CK P w K mg base 3 "is_late" nq:=by
 obtain⟨b,a⟩:=T.d1f;refine bP ["thing"] T.d0a bA fun c d=>?_
 walk_at "d"
 exact(dA (dt (kg (jY rfl T.d1s (fv 0) (jT rfl T.d1z Ep rfl)))))
 walk_at "a"
 exact(zN (oE c.units (fv 0) (aa cG)) (gx (oE c.units (fv 0) (aa cG))));exact bO
 walk_at "a"
 exact(eY (aZ (aO d (sP T) c (ao (fv 0) (ao (aa cG) (ao (aa au) aD))))) (gx (aZ (aO d (jL T) c (ao (aW (fv 0) (aa au)) (ao (aa au) (ao (aa (du rfl a)) aD)))))))
theorem nF(T:Tx K mg):CK P w K mg base 3 "check_moment" jI:=by
 refine bP ["thing"] T.d0f bA fun a b=>?_
 walk_at "f"
 exact(fx (dA (dt (aZ (aO b (wy T) a (ao (fv 0) aD))))));refine di ?_;exact hW;exact bO
theorem QS(T:Tx K mg):CK P w K mg base 3 "check_runner" rX:=by
 refine bP ["thing"] T.d0i bA fun a b=>?_
 walk_at "f"
 exact(fx (dA (dt (aZ (aO b (QJ T) a (ao (fv 0) aD))))));refine di ?_;exact hW;exact bO
theorem QT(T:Tx K mg):CK P w K mg base 3 "check_term" rY:=by
 refine bP ["thing"] T.d0j bA fun a b=>?_
 walk_at "f"
 exact(fx (dA (dt (aZ (aO b (QK T) a (ao (fv 0) aD))))));refine di ?_;exact hW;exact bO
theorem QU(T:Tx K mg):CK P w K mg base 3 "daily_time" rZ:=by
 obtain⟨b,a⟩:=T.d1i;refine bP ["zone","hour","count","day"] T.d0q bA fun c d=>?_
 walk_at "c"
 exact(dX (aZ (aO d (Ex T) c (ao (fv 0) (ao (fv 1) aD)))) (fv 2))
 walk_at "g"
 exact(aO d (QL T) c (ao (fv 0) (ao (dX (oB (fv 3) (aa (du rfl a))) (fv 1)) aD)))
theorem Ez(T:Tx K mg):CK P w K mg base 3 "times_by" jJ:=by
 obtain⟨b,a⟩:=T.d1i;refine bP ["zone","plan","moment","last_day"] T.d0s bA fun c d=>?_
 walk_at "d"
 exact(qO (fv 2) (aa au))
 walk_at "a"
 exact(aa au);exact bO
 walk_at "d"
 exact(fe c.units (aW (fv 1) (aa au)) (aa cG))
 walk_at "a"
 exact(mq (oD (aW (fv 1) (aa au)) (fv 2)) (aa au) (aa au));exact bO
 walk_at "d"
 exact(fe c.units (aW (fv 1) (aa au)) (aa cG))
 walk_at "a"
 exact(fy uX (fQ (tV rfl) uP rfl T.d1v sN (aA (aa au) (aA (dX (vm (iO (fv 2) (aW (fv 1) (aa au))) (aW (fv 1) (aa au))) (aa au)) bn))));exact bO
 walk_at "c"
 exact(vm (iO (aZ (aO d (QM T) c (ao (fv 0) (ao (fv 2) aD)))) (aW (fv 1) (aa au))) (aa (du rfl a)))
 walk_at "a"
 exact(dX (iO (fv 3) (aZ (aO d (Ex T) c (ao (fv 0) (ao (aW (fv 1) (aa au)) aD))))) (aa au))
theorem ip(T:Tx K mg):CK P w K mg base 3 "_law_draw" gj:=by
 refine bP ["_law_script","_law_town","_law_many"] T.d14 bA fun a b=>?_
 walk_at "m"
 exact(pv 1);exact(aa au)
 walk_at "g"
 exact(aO b (QO T) a (cm (pv 0) (ao (NP rfl T.d1t (pv 1)) (ao (fv 2) aD))))
theorem QV(T:Tx K mg):CK P w K mg base 4 "is_zone" se:=by
 refine bP ["thing"] T.d07 bA fun a b=>?_
 walk_at "a"
 exact(eY (aZ (aO b (sO T) a (ao (fv 0) (ao (aa au) aD)))) (eY (aZ (aO b (Ew T) a (ao (aW (fv 0) (aa au)) aD))) (gx (aZ (aO b (QQ T) a (ao (aW (fv 0) (aa au)) aD))))))
theorem QW(T:Tx K mg):CK P w K mg base 4 "is_deed" sf:=by
 refine bP ["thing"] T.d0b bA fun a b=>?_
 walk_at "a"
 exact(eY (aZ (aO b (sO T) a (ao (fv 0) (ao (aa au) aD)))) (eY (aZ (aO b (Ey T) a (ao (aW (fv 0) (aa au)) aD))) (eY (aZ (aO b (QR T) a (ao (aW (fv 0) (aa au)) aD))) (gx (kg (jY rfl T.d1s (aW (fv 0) (aa au)) (jT rfl T.d1p Eo rfl)))))))
theorem QX(T:Tx K mg):CK P w K mg base 4 "check_plan" sg:=by
 refine bP ["thing"] T.d0e bA fun a b=>?_
 walk_at "f"
 exact(fx (dA (dt (aZ (aO b (Ey T) a (ao (fv 0) aD))))));refine di ?_;exact hW;exact bO
theorem QY(T:Tx K mg):CK P w K mg base 4 "check_stretch" sh:=by
 refine bP ["first","last"] T.d0g bA fun a b=>?_
 walk_at "e"
 exact(aO b (nF T) a (ao (fv 0) aD))
 walk_at "e"
 exact(aO b (nF T) a (ao (fv 1) aD))
 walk_at "f"
 exact(qO (fv 1) (fv 0));refine di ?_;exact hW;exact bO
theorem nG(T:Tx K mg):CK P w K mg base 4 "time_of" gk:=by
 refine bP ["zone","plan","count"] T.d0r bA fun a b=>?_
 walk_at "d"
 exact(fe a.units (aW (fv 1) (aa au)) (aa cG))
 walk_at "a"
 exact(mq (fe a.units (fv 2) (aa au)) (aW (fv 1) (aa au)) (aa ec));exact bO
 walk_at "d"
 exact(fe a.units (aW (fv 1) (aa au)) (aa cG))
 walk_at "a"
 exact(dX (aW (fv 1) (aa au)) (oB (fv 2) (aW (fv 1) (aa au))));exact bO
 walk_at "g"
 exact(aO b (QU T) a (ao (fv 0) (ao (aW (fv 1) (aa au)) (ao (fv 2) aD))))
theorem wz(T:Tx K mg):CK P w K mg base 4 "_law_pick" nt:=by
 refine bP ["_law_script","_law_town","_law_some"] T.d15 bA fun a b=>?_
 walk_at "a"
 exact(aW (fv 2) (aZ (aO b (ip T) a (cm (pv 0) (cm (pv 1) (ao (fy kf (fQ iz ka rfl T.d1t PySem.boot_len (aA (fv 2) bn))) aD))))))
theorem EA(T:Tx K mg)(a:ed K mg C):CM P w K mg base C 4 "check_call" (jK C):=by
 refine fX ["self","runner","moment"] a.d2e bA fun b c=>?_
 walk_at "e"
 exact(aO c (QS T) b (ao (fv 1) aD))
 walk_at "e"
 exact(aO c (nF T) b (ao (fv 2) aD))
 walk_at "f"
 exact(ke (zP (oF (cY a.cl a.d26 (pv 0)) (aa ec)) (zO (qO (fv 2) (cY a.cl a.d26 (pv 0))))));refine di ?_;exact hW;exact bO
theorem QZ(T:Tx K mg)(c:ed K mg C):CM P w K mg base C 4 "waiting" (wr C):=by
 obtain⟨_,_,f,d,a,b⟩:=Ez (P:=P) (w:=w) (base:=base) T;obtain⟨g,e⟩:=T.d1j;refine fX ["self"] c.d2p bA fun j h=>?_
 walk_at "d"
 exact(vt (cY c.cl c.d26 (pv 0)) (aa ec))
 walk_at "a"
 exact(iK h.1 (af.of (own:=["deed"]) (capN:=[]) (caps:=[])) rfl rfl (lr (cY c.cl c.d23 (pv 0))) (fun _ _ _ _ _ _ i=>⟨(cg 0),jA,(aa au)⟩));exact bO
 walk_at "a"
 exact(OZ h.1 (af.of (own:=["deed","many"]) (capN:=["self"]) (caps:=[0])) rfl rfl (Pa rfl T.d21 c.cl c.d23 c.d28 (pv 0) (pv 0)) (fun _ _ _ _ _ _ i=>⟨(jw (n:=2) rfl (dW (cg 0) (dW (cg 1) jv))),jA,(iO (aZ (mP (im i) b a j (ao (AR c.cl c.d2b (pv 2)) (ao (aW (fv 0) (aa (du rfl e))) (ao (AR c.cl c.d26 (pv 2)) aD))))) (fv 1))⟩))
theorem Ra(T:Tx K mg):CK P w K mg base 5 "are_deeds" wu:=by
 obtain⟨_,_,f,e,b,c⟩:=QW (P:=P) (w:=w) (base:=base) T;obtain⟨d,a⟩:=T.d1e;refine bP ["thing"] T.d0c bA fun g h=>?_
 walk_at "d"
 exact(ke (mm (fx (dA (dt (kg (jY rfl T.d1s (fv 0) (jT rfl T.d20 sM rfl)))))) (ml (vp (fy kf (fQ iz ka rfl T.d1t PySem.boot_len (aA (fv 0) bn))) (aa (du rfl a))))))
 walk_at "a"
 exact(aa gu);exact bO
 walk_at "a"
 exact(fy Nr (fQ (Mm rfl) Mp rfl T.d1o QE (aA (iK h.1 (af.of (own:=["deed"]) (capN:=[]) (caps:=[])) rfl rfl (lr (fv 0)) (fun _ _ _ _ _ _ i=>⟨(cg 0),jA,(aZ (mP (im i) c b g (ao (fv 0) aD)))⟩)) bn)))
theorem sQ(T:Tx K mg):CK P w K mg base 5 "check_zone" kw:=by
 refine bP ["thing"] T.d0d bA fun a b=>?_
 walk_at "f"
 exact(fx (dA (dt (aZ (aO b (QV T) a (ao (fv 0) aD))))));refine di ?_;exact hW;exact bO
theorem Rb(T:Tx K mg):CK P w K mg base 5 "is_left_out" lF:=by
 obtain⟨c,b⟩:=T.d1j;obtain⟨d,a⟩:=T.d1k;refine bP ["zone","deed","count","now","later"] T.d0y bA fun e f=>?_
 walk_at "d"
 exact(fe e.units (aW (fv 1) (aa (du rfl a))) (aa cG))
 walk_at "a"
 exact(aa gu);exact bO
 walk_at "d"
 exact(fe e.units (aW (fv 1) (aa (du rfl a))) (aa cG))
 walk_at "c"
 exact(aZ (aO f (nG T) e (ao (fv 0) (ao (aW (fv 1) (aa (du rfl b))) (ao (dX (fv 2) (aa au)) aD)))))
 walk_at "a"
 exact(eY (vr (fv 4) (aa ec)) (gx (Ob (fv 4) (fv 3))));exact bO
 walk_at "a"
 exact(Oc (iO (fv 3) (aZ (aO f (nG T) e (ao (fv 0) (ao (aW (fv 1) (aa (du rfl b))) (ao (fv 2) aD)))))) (aW (aW (fv 1) (aa (du rfl a))) (aa au)))
theorem Rc(T:Tx K mg):CK P w K mg base 5 "_law_zone" sk:=by
 refine bP ["_law_script","_law_town","_law_wide","_law_made","_law_at","_law_k"] T.d16 bA fun a b=>?_;refine eM ?_ ?_;(refine NC ?_ ?_ ?_ ?_ ?_<;>try walk_at "z");exact(cR (aA (cR bn) (aA (aa au) bn)));exact(jw (n:=2) rfl (dW (cg 3) (dW (cg 4) jv)))
 walk_at "i"
 exact(my (lV rfl T.d1x (aA (aZ (aO b (ip T) a (cm (pv 0) (cm (pv 1) (ao (aa au) aD))))) bn)));exact(cg 5)
 walk_at "c"
 exact(dX (dX (fv 4) (aa au)) (aZ (aO b (ip T) a (cm (pv 0) (cm (pv 1) (ao (fv 2) aD))))))
 walk_at "k"
 exact(vo (fv 3) (cR (aA (cR (aA (fv 4) (aA (aZ (aO b (wz T) a (cm (pv 0) (cm (pv 1) (ao (lm (aA (aa au) (aA (aa au) (aA (aa au) (aA (mj (aa au)) (aA (aa au) (aA (mj (aa au)) (aA (aa au) bn)))))))) aD))))) bn))) bn)))
 walk_at "a"
 exact(cR (aA (aZ (aO b (wz T) a (cm (pv 0) (cm (pv 1) (ao (lm (aA (aa au) (aA (aa au) (aA (aa au) (aA (mj (aa au)) (aA (aa au) (aA (mj (aa au)) bn))))))) aD))))) (aA (fv 3) bn)))
theorem Re(T:Tx K mg):CK P w K mg base 5 "_law_plan" nv:=by
 refine bP ["_law_script","_law_town","_law_wide","_law_kind","_law_step"] T.d17 bA fun a b=>?_
 walk_at "c"
 exact(aZ (aO b (ip T) a (cm (pv 0) (cm (pv 1) (ao (aa au) aD)))))
 walk_at "d"
 exact(fe a.units (fv 3) (aa au))
 walk_at "a"
 exact(cR (aA (aa cG) (aA (aZ (aO b (ip T) a (cm (pv 0) (cm (pv 1) (ao (fv 2) aD))))) bn)));exact bO
 walk_at "d"
 exact(fe a.units (fv 3) (aa au))
 walk_at "c"
 exact(dX (aa au) (aZ (aO b (ip T) a (cm (pv 0) (cm (pv 1) (ao (aZ (aO b (wz T) a (cm (pv 0) (cm (pv 1) (ao (lm (aA (aa au) (aA (aa au) (aA (aa au) bn)))) aD))))) aD))))))
 walk_at "a"
 exact(cR (aA (aa cG) (aA (aZ (aO b (ip T) a (cm (pv 0) (cm (pv 1) (ao (fv 2) aD))))) (aA (fv 4) bn))));exact bO
 walk_at "a"
 exact(cR (aA (aa cG) (aA (aZ (aO b (ip T) a (cm (pv 0) (cm (pv 1) (ao (aa au) aD))))) bn)))
theorem EB(T:Tx K mg)(a:ed K mg C):CM P w K mg base C 5 "check_holder" (kz C):=by
 refine fX ["self","runner","moment"] a.d2f bA fun b c=>?_
 walk_at "e"
 exact(fY c a.cl (EA T a) b (pv 0) (ao (fv 1) (ao (fv 2) aD)))
 walk_at "f"
 exact(ke (mm (fx (dA (dt (aZ (fY c a.cl (Et T a) b (pv 0) (ao (fv 2) aD)))))) (ml (mG b.units (cY a.cl a.d24 (pv 0)) (fv 1)))));refine di ?_;exact hW;exact bO
theorem Rf(T:Tx K mg)(a:ed K mg C):CM P w K mg base C 5 "take" (ny C):=by
 refine fX ["self","runner","moment","term"] a.d2g bA fun b c=>?_
 walk_at "e"
 exact(fY c a.cl (EA T a) b (pv 0) (ao (fv 1) (ao (fv 2) aD)))
 walk_at "e"
 exact(aO c (QT T) b (ao (fv 3) aD))
 walk_at "h"
 exact a.cl;exact a.d26;exact(pv 0);exact(fv 2);rfl
 walk_at "d"
 exact(fx (dA (dt (aZ (fY c a.cl (Et T a) b (pv 0) (ao (fv 2) aD))))));refine di ?_;refine OC ?_ ?_ ?_ ?_;exact a.cl;exact a.d25;exact(pv 0);exact qa
 walk_at "f"
 exact(mG b.units (cY a.cl a.d24 (pv 0)) (fv 1))
 walk_at "a"
 exact(aa gu);exact bO
 walk_at "h"
 exact a.cl;exact a.d24;exact(pv 0);exact(fv 1);rfl
 walk_at "h"
 exact a.cl;exact a.d29;exact(pv 0);exact(dX (fv 2) (fv 3));rfl
 walk_at "a"
 exact(aa gu)
theorem Rg(T:Tx K mg)(a:ed K mg C):CM P w K mg base C 5 "first_unsettled" (wv C):=by
 obtain⟨c,b⟩:=T.d1j;refine fX ["self","found","deed","count","moment"] a.d2j bA fun d e=>?_
 walk_at "j"
 exact(mB bn)
 walk_at "i"
 exact(my (lV rfl T.d1x (aA (fy kf (fQ iz ka rfl T.d1t PySem.boot_len (aA (cY a.cl a.d23 (pv 0)) bn))) bn)));exact(cg 2)
 walk_at "c"
 exact(OA a.cl a.d28 (pv 0) (pv 2))
 walk_at "c"
 exact(aZ (aO e (nG T) d (ao (cY a.cl a.d2b (pv 0)) (ao (aW (aW (cY a.cl a.d23 (pv 0)) (fv 2)) (aa (du rfl b))) (ao (fv 3) aD)))))
 walk_at "f"
 exact(oF (fv 4) (aa ec))
 walk_at "l"
 exact(pv 1);exact(cR (aA (fv 4) (aA (fv 2) (aA (fv 3) bn))));exact bO
 walk_at "a"
 exact(AU (uj d) rfl rfl T.d1w (pv 1))
theorem wA(T:Tx K mg):CK P w K mg base 6 "check_deeds" lH:=by
 refine bP ["thing"] T.d0h bA fun a b=>?_
 walk_at "f"
 exact(fx (dA (dt (aZ (aO b (Ra T) a (ao (fv 0) aD))))));refine di ?_;exact hW;exact bO
theorem Rh(T:Tx K mg):CK P w K mg base 6 "dues" sv:=by
 refine bP ["zone","plan","first","last","found","count","moment"] T.d0t bA fun a b=>?_
 walk_at "e"
 exact(aO b (sQ T) a (ao (fv 0) aD))
 walk_at "e"
 exact(aO b (QX T) a (ao (fv 1) aD))
 walk_at "e"
 exact(aO b (nF T) a (ao (fv 2) aD))
 walk_at "e"
 exact(aO b (nF T) a (ao (fv 3) aD))
 walk_at "j"
 exact(mB bn)
 walk_at "c"
 exact(aa au)
 walk_at "c"
 exact(aZ (aO b (nG T) a (ao (fv 0) (ao (fv 1) (ao (fv 5) aD)))));refine eM ?_ ?_;refine NK ?_ ?_ ?_;exact PassesOwn.leaving;exact(ke (zP (oF (fv 6) (aa ec)) (zO (oD (fv 6) (fv 3)))))
 walk_at "d"
 exact(oD (fv 2) (fv 6))
 walk_at "l"
 exact(pv 4);exact(cR (aA (fv 5) (aA (fv 6) bn)));exact bO;refine eM ?_ ?_;refine NJ (op:=.Add) (pos':=⟨0,0,0,0⟩) ?_;exact(LD (i:=5) (vU (by kernel_rfl)) rfl (by first |exact Or.inl rfl |exact Or.inr rfl) (aa au) Hr)
 walk_at "k"
 exact(aZ (aO b (nG T) a (ao (fv 0) (ao (fv 1) (ao (fv 5) aD)))));refine di ?_;refine zZ ?_;exact(pv 4)
theorem Ri(T:Tx K mg)(a:ed K mg C):CM P w K mg base C 6 "step_ahead" (lI C):=by
 refine fX ["self","runner","moment","found","deed","count","word"] a.d2m bA fun b c=>?_
 walk_at "c"
 exact(aZ (mW c a.cl (Rg T a) b (pv 0)))
 walk_at "d"
 exact(vt (fv 3) (aa ec))
 walk_at "a"
 exact(cR (aA (aa cG) (aA (aa ec) bn)));exact bO
 walk_at "d"
 exact(vp (aW (fv 3) (aa au)) (fv 2))
 walk_at "a"
 exact(cR (aA (aa cG) (aA (aW (fv 3) (aa au)) bn)));exact bO
 walk_at "c"
 exact(aW (fv 3) (aa au))
 walk_at "c"
 exact(aW (fv 3) (aa au))
 walk_at "c"
 exact(mq (dA (dt (aZ (aO c (Rb T) b (ao (cY a.cl a.d2b (pv 0)) (ao (aW (cY a.cl a.d23 (pv 0)) (fv 4)) (ao (fv 5) (ao (fv 2) aD)))))))) (aa cG) (aa cG))
 walk_at "g"
 exact(fY c a.cl (wx T a) b (pv 0) (ao (cR (aA (fv 2) (aA (fv 1) (aA (fv 6) (aA (fv 4) (aA (fv 5) bn)))))) aD))
theorem Rj(T:Tx K mg)(a:ed K mg C):CM P w K mg base C 6 "finish" (pH C):=by
 refine fX ["self","runner","moment"] a.d2n bA fun b c=>?_
 walk_at "e"
 exact(fY c a.cl (EB T a) b (pv 0) (ao (fv 1) (ao (fv 2) aD)))
 walk_at "d"
 exact(fx (dA (dt (aZ (mW c a.cl (Eu T a) b (pv 0))))));refine di ?_;exact hW;exact bO
 walk_at "h"
 exact a.cl;exact a.d26;exact(pv 0);exact(fv 2);rfl
 walk_at "g"
 exact(fY c a.cl (wx T a) b (pv 0) (ao (cR (aA (fv 2) (aA (fv 1) (aA (aa cG) (aA (aW (cY a.cl a.d22 (pv 0)) (aa au)) (aA (aW (cY a.cl a.d22 (pv 0)) (aa au)) bn)))))) aD))
theorem Rk(T:Tx K mg):CK P w K mg base 7 "rows_between" sA:=by
 refine bP ["zone","deeds","first","last","found","number","deed","count","moment"] T.d0u bA fun a b=>?_
 walk_at "j"
 exact(mB bn)
 walk_at "i"
 exact(By (Bw rfl T.d1q (aA (fv 1) bn)));exact(jw (n:=2) rfl (dW (cg 5) (dW (cg 6) jv)));refine di ?_;(refine Aa ?_ ?_ ?_ ?_ ?_ ?_<;>try walk_at "z");exact(lq (aZ (aO b (Rh T) a (ao (fv 0) (ao (aW (fv 6) (aa au)) (ao (fv 2) (ao (fv 3) aD)))))));exact(jw (n:=2) rfl (dW (cg 7) (dW (cg 8) jv)))
 walk_at "l"
 exact(pv 4);exact(cR (aA (fv 8) (aA (fv 5) (aA (fv 7) bn))))
 walk_at "a"
 exact(fy Qf (fQ TS.call_sorted Qe rfl T.d1y QF (aA (fv 4) bn)))
theorem Rl(T:Tx K mg):CK P w K mg base 7 "check_calendar" sC:=by
 refine bP ["zone","deeds","first","last"] T.d0v bA fun a b=>?_
 walk_at "e"
 exact(aO b (sQ T) a (ao (fv 0) aD))
 walk_at "e"
 exact(aO b (wA T) a (ao (fv 1) aD));refine di ?_;refine zW ?_;exact(aO b (QY T) a (ao (fv 2) (ao (fv 3) aD)))
theorem Rm(T:Tx K mg):CK P w K mg base 7 "next_due" pI:=by
 refine bP ["zone","deeds","moment","found","number","deed","count","later"] T.d0x bA fun a b=>?_
 walk_at "e"
 exact(aO b (sQ T) a (ao (fv 0) aD))
 walk_at "e"
 exact(aO b (wA T) a (ao (fv 1) aD))
 walk_at "e"
 exact(aO b (nF T) a (ao (fv 2) aD))
 walk_at "j"
 exact(mB bn)
 walk_at "i"
 exact(By (Bw rfl T.d1q (aA (fv 1) bn)));exact(jw (n:=2) rfl (dW (cg 4) (dW (cg 5) jv)))
 walk_at "c"
 exact(aZ (aO b (Ez T) a (ao (fv 0) (ao (aW (fv 5) (aa au)) (ao (iO (fv 2) (aa au)) aD)))))
 walk_at "c"
 exact(aZ (aO b (nG T) a (ao (fv 0) (ao (aW (fv 5) (aa au)) (ao (fv 6) aD)))))
 walk_at "f"
 exact(oF (fv 7) (aa ec))
 walk_at "l"
 exact(pv 3);exact(cR (aA (fv 7) (aA (fv 4) (aA (fv 6) bn))));exact bO
 walk_at "a"
 exact(AU (uj a) rfl rfl T.d1w (pv 3))
theorem Ro(T:Tx K mg)(a:ed K mg C):CM P w K mg base C 7 "__init__" (sF C):=by
 refine fX ["self","zone","deeds"] a.d2c bA fun c b=>?_
 walk_at "e"
 exact(aO b (sQ T) c (ao (fv 1) aD))
 walk_at "e"
 exact(aO b (wA T) c (ao (fv 2) aD))
 walk_at "h"
 exact a.cl;exact a.d2b;exact(pv 0);exact(fv 1);rfl
 walk_at "h"
 exact a.cl;exact a.d23;exact(pv 0);exact(fv 2);rfl
 walk_at "h"
 exact a.cl;exact a.d26;exact(pv 0);exact(aa ec);rfl
 walk_at "h"
 exact a.cl;exact a.d24;exact(pv 0);exact(aa ec);rfl
 walk_at "h"
 exact a.cl;exact a.d29;exact(pv 0);exact(aa au);rfl
 walk_at "h"
 exact a.cl;exact a.d25;exact(pv 0);exact(aa au);rfl
 walk_at "h"
 exact a.cl;exact a.d22;exact(pv 0);exact(aa ec);rfl;refine eM ?_ ?_;refine OD ?_ ?_ ?_ ?_;exact a.cl;exact a.d27;exact(pv 0);rfl;refine eM ?_ ?_;refine OE ?_ ?_ ?_ ?_;exact a.cl;exact a.d2a;exact(pv 0);rfl;refine di ?_;(refine Pd (own:=["deed"]) (capN:=[]) (caps:=[]) ?_ ?_ ?_ ?_ ?_ ?_ ?_ ?_ ?_ ?_ ?_<;>try walk_at "z");exact a.cl;exact a.d28;exact(pv 0);exact b.1;exact(af.of (own:=["deed"]) (capN:=[]) (caps:=[]));exact(lr (fv 2));exact(fun _ _ _ _ _ _ d=>⟨(cg 0),jA,(aa au)⟩)
theorem Rp(T:Tx K mg)(a:ed K mg C):CM P w K mg base C 7 "step" (kA C):=by
 refine fX ["self","runner","moment"] a.d2k bA fun b c=>?_
 walk_at "e"
 exact(fY c a.cl (EB T a) b (pv 0) (ao (fv 1) (ao (fv 2) aD)))
 walk_at "h"
 exact a.cl;exact a.d26;exact(pv 0);exact(fv 2);rfl
 walk_at "d"
 exact(dA (dt (aZ (mW c a.cl (Eu T a) b (pv 0)))))
 walk_at "a"
 exact(cR (aA (aa cG) (aA (aW (cY a.cl a.d22 (pv 0)) (aa au)) (aA (aW (cY a.cl a.d22 (pv 0)) (aa au)) bn))));exact bO
 walk_at "d"
 exact(oF (cY a.cl a.d22 (pv 0)) (aa ec))
 walk_at "g"
 exact(fY c a.cl (QP T a) b (pv 0) (ao (fv 1) (ao (fv 2) aD)));exact bO
 walk_at "g"
 exact(fY c a.cl (Ri T a) b (pv 0) (ao (fv 1) (ao (fv 2) aD)))
theorem Rq(T:Tx K mg):CK P w K mg base 8 "calendar" sH:=by
 refine bP ["zone","deeds","first","last"] T.d0w bA fun a b=>?_
 walk_at "e"
 exact(aO b (Rl T) a (ao (fv 0) (ao (fv 1) (ao (fv 2) (ao (fv 3) aD)))))
 walk_at "g"
 exact(aO b (Rk T) a (ao (fv 0) (ao (fv 1) (ao (fv 2) (ao (fv 3) aD)))))
theorem Rr(T:Tx K mg)(d:ed K mg C):CK P w K mg base 8 "catch_up" (sI C):=by
 obtain⟨b,a⟩:=T.d1n;refine bP ["hall","runner","moment","most","told","made","row"] T.d11 bA fun c e=>?_
 walk_at "d"
 exact(fx (dA (dt (aZ (aO e (jL T) c (ao (fv 3) (ao (aa au) (ao (aa (du rfl a)) aD))))))));refine di ?_;exact hW;exact bO
 walk_at "j"
 exact(mB bn)
 walk_at "i"
 exact(my (lV rfl T.d1x (aA (fv 3) bn)));exact(cg 5)
 walk_at "c"
 exact(aZ (fY e d.cl (Rp T d) c (pv 0) (ao (fv 1) (ao (fv 2) aD))))
 walk_at "m"
 exact(pv 4);exact(fv 6)
 walk_at "d"
 exact(fe c.units (aW (fv 6) (aa au)) (aa cG));refine di ?_;exact NG;exact bO
 walk_at "f"
 exact(ke (mm (fe c.units (aW (fv 6) (aa au)) (aa cG)) (ml (fe c.units (aW (fv 6) (aa au)) (aa cG)))))
 walk_at "l"
 exact(pv 4);exact(aZ (fY e d.cl (Rj T d) c (pv 0) (ao (fv 1) (ao (fv 2) aD))));exact bO;refine di ?_;refine zZ ?_;exact(pv 4)
variable(P w)(base) in
theorem Rs{C:Addr}{g:Addr}{fd:FuncData}(T:Tx K mg)(f:ed K mg C)(D:FD K mg "law" kB ["_law_script"] g fd):cj P w K mg base (dS P w) 9 g fd ["_law_script"] (fT K mg (CO C)):=by
 obtain⟨_,_,_,k,h,a,c⟩:=Ro (P:=P) (w:=w) (base:=base) T f;refine uJ D.fn En (by decide) ?_;intro o A l s H E F p d e
 walk_at "j"
 exact(mB bn)
 walk_at "c"
 exact(aZ (aO e (Rc T) d (cm (pv 0) (cm (pv 1) (ao (aa au) aD)))))
 walk_at "c"
 exact(cR bn)
 walk_at "i"
 exact(my (lV rfl T.d1x (aA (dX (aa au) (aZ (aO e (ip T) d (cm (pv 0) (cm (pv 1) (ao (aa au) aD)))))) bn)));exact(cg 4)
 walk_at "k"
 exact(vo (fv 3) (cR (aA (cR (aA (aZ (aO e (Re T) d (cm (pv 0) (cm (pv 1) (ao (aa au) aD))))) (aA (aa cG) (aA (aa gu) bn)))) bn)));refine eM ?_ ?_;exact(Qn (i:=5) (j:=6) rfl En.nd rfl rfl (by decide) rfl rfl (Ow e (f.make a.mt) c (d.mono (by decide)) rfl f.mg a.b (aA (fv 2) (aA (fv 3) bn))))
 walk_at "i"
 exact(my (lV rfl T.d1x (aA (dX (aa au) (aZ (aO e (ip T) d (cm (pv 0) (cm (pv 1) (ao (aa au) aD)))))) bn)));exact(cg 7)
 walk_at "c"
 exact(dX (fv 6) (aZ (aO e (ip T) d (cm (pv 0) (cm (pv 1) (ao (aa au) aD))))))
 walk_at "e"
 exact(fY e f.cl (Rf T f) d (pv 5) (ao (aa au) (ao (fv 6) (ao (aa au) aD))))
 walk_at "c"
 exact(aZ (aO e (Rr T f) d (cm (pv 5) (ao (aa au) (ao (fv 6) (ao (aa au) aD))))))
 walk_at "c"
 exact(aZ (aO e (Rm T) d (ao (fv 2) (ao (fv 3) (ao (dX (fv 6) (aa au)) aD)))))
 walk_at "f"
 exact(mG d.units (aW (fv 8) (mj (aa au))) (cR (aA (aa cG) (aA (mq (vt (fv 9) (aa ec)) (aa ec) (aW (fv 9) (aa au))) bn))))
 walk_at "a"
 exact(aa gu);exact bO
 walk_at "c"
 exact(aZ (aO e (Rq T) d (ao (fv 2) (ao (fv 3) (ao (aa au) (ao (fv 6) aD))))));refine eM ?_ ?_;(refine Ad (own:=["_law_row"]) (capN:=[]) (caps:=[]) ?_ ?_ ?_ ?_ ?_ ?_ ?_ ?_ ?_ ?_ ?_ ?_<;>try walk_at "z");exact e.1;exact(af.of (own:=["_law_row"]) (capN:=[]) (caps:=[]));exact(lq (aZ (mW e f.cl (Ev T f) d (pv 5))));exact(fun _ _ _ _ _ _ m=>⟨(cg 0),(ow (fe d.units (aW (fv 0) (aa au)) (aa cG))),(cR (aA (aW (fv 0) (aa au)) (aA (aW (fv 0) (aa au)) bn)))⟩)
 walk_at "d"
 exact(ke (mm (mG d.units (fv 11) (iK e.1 (af.of (own:=["_law_here","_law_deed","_law_count"]) (capN:=[]) (caps:=[])) rfl rfl (lq (fv 10)) (fun _ _ _ _ _ _ m=>⟨(jw (n:=3) rfl (dW (cg 0) (dW (cg 1) (dW (cg 2) jv)))),jA,(cR (aA (fv 1) (aA (fv 2) bn)))⟩))) (ml (mG d.units (aZ (mW e f.cl (QZ T f) d (pv 5))) (Oa (lm (aA (aa au) bn)) (fy kf (fQ iz ka rfl T.d1t PySem.boot_len (aA (fv 3) bn))))))))
 walk_at "a"
 exact(aa gu);exact bO
 walk_at "i"
 exact(NL (LY rfl T.d1q (aA (aZ (aO e (QN T f) d (cm (pv 5) aD))) bn)));exact(jw (n:=2) rfl (dW (cg 12) (dW (cg 13) jv)))
 walk_at "f"
 exact(mG d.units (fv 13) (vo (Ot (cR (aA (fy kf (fQ iz ka rfl T.d1t PySem.boot_len (aA (iK e.1 (af.of (own:=["_law_row"]) (capN:=["_law_deed"]) (caps:=[12])) rfl rfl (lq (fv 10)) (fun _ _ _ _ _ _ m=>⟨(cg 0),(ow (fe d.units (aW (fv 0) (aa au)) (fv 1))),(aa au)⟩)) bn))) bn)) (aa au)) (cR (aA (aa au) (aA (aa au) bn)))))
 walk_at "a"
 exact(aa gu);exact bO
 walk_at "a"
 exact(aa gu)
end
end K3
namespace K3
open PySem L2 L2.L3 Due
noncomputable def cC(d:PyData)(lo a:Int):Bool:=match d with
 |.int i=>decide (lo<=i)&&decide (i<=a)
 |_=>false
noncomputable def dR:PyData->Bool
 |.dict _=>false
 |_=>true
@[simp]theorem TQ:cq "int" "int" = some true:=by decide
@[simp]theorem TR:cq "int" "bool" = some false:=by decide
@[simp]theorem TU:cq "bool" "int" = some true:=by decide
@[simp]theorem TV:cq "bool" "bool" = some true:=by decide
@[simp]theorem TW:cq "NoneType" "int" = some false:=by decide
@[simp]theorem TX:cq "str" "int" = some false:=by decide
@[simp]theorem TY:cq "list" "int" = some false:=by decide
@[simp]theorem TZ:cq "tuple" "int" = some false:=by decide
@[simp]theorem Ua:cq "int" "tuple" = some false:=by decide
@[simp]theorem Ub:cq "bool" "tuple" = some false:=by decide
@[simp]theorem Uc:cq "NoneType" "tuple" = some false:=by decide
@[simp]theorem Ud:cq "str" "tuple" = some false:=by decide
@[simp]theorem Ue:cq "list" "tuple" = some false:=by decide
@[simp]theorem Uf:cq "tuple" "tuple" = some true:=by decide
theorem wB(i j):PyData.eqv (.int i) (.int j)=(i==j):=by rw[PyData.eqv]
theorem nH(i):SeqAt.shaped (.int i)=true:=by rfl
theorem jM(h:dR d=true):gf [.dat d,.dat (.int lo),.dat (.int hi)]=.rt (.dat (.bool (cC d lo hi))) []:=by
 cases d with
 |dict _=>cases h
 |int i=>
  by_cases h1:lo<=i
  .simp[aM,gf,rG,cC,h1]
  .simp[aM,gf,rG,cC,h1]
 |_=>simp[aM,gf,rG,cC]
noncomputable def fR(d:PyData)(n:Int):Bool:=match d with
 |.tuple ds=>decide ((ds.length:Int)=n)
 |_=>false
theorem pM(h:dR d=true):ku [.dat d,.dat (.int n)]=.rt (.dat (.bool (fR d n))) []:=by
 cases d with
 |dict _=>cases h
 |tuple ds=>simp[aM,ku,vY,fR,nH,wB];rfl
 |_=>simp[aM,ku,vY,fR]
theorem EC(h:dR d=true):pA [.dat d]=.rt (.dat (.bool (cC d (-12) 14))) []:=by simp[aM,pA,BR,jM h]
theorem wC(h:dR d=true):nk [.dat d]=.rt (.dat (.bool (cC d 0 9999))) []:=by simp[aM,nk,BS,jM h]
theorem lJ(h:dR d=true):jI [.dat d]=if cC d 0 9999=true then .rt (.dat .none) []else .bad:=by simp only[jI,Ca];cases a:cC d 0 9999<;>simp[aM,wC h,a]
noncomputable abbrev eQ(p:Int×Int):PyData:=.tuple [.int p.1,.int p.2]
abbrev bB(a:Int)(b:Sh):PyData:=.tuple [.int a,.tuple (b.map eQ)]
@[simp]theorem pN{x:PyData}:bI (x::l) 0=some x:=by unfold bI dj;rw[if_pos (by lia),if_pos (by simp<;>lia)];rfl
@[simp]theorem pO{y:PyData}:bI (x::y::l) 1=some y:=by unfold bI dj;rw[if_pos (by lia),if_pos (by simp<;>lia)];rfl
@[simp]theorem sR{x:PyData}:bI (l++[x]) (-1)=some x:=by unfold bI dj;rw[if_neg (by lia),if_pos (by simp;lia)];simp;rw[show(-1+((l.length:Int)+1)).toNat=l.length by lia];simp
theorem ED:∀{a lo x},gc lo a->(∀p∈a,p.1<=9999/\-12<=p.2/\p.2<=14)->∃e y,bU (av 2) rS (a.map eQ) [c,some (.dat (.int (lo+1))),x]=.nx [c,e,y]
 |[],_,_,_,_=>⟨_,_,rfl⟩
 | (b,k)::r,lo,x,⟨h1,h2⟩,ho=>by
  obtain⟨e,y,f⟩:=ED (lo:=b) (c:=c) (x:=some (.dat (eQ (b,k)))) h2 fun p g=>ho p (bq _ g);have hb:=ho (b,k) List.mem_cons_self;refine⟨e,y,?_⟩;rw[List.map_cons,bU,<-f];have:rS [c,some (.dat (.int (lo+1))),some (.dat (eQ (b,k)))]=.nx [c,some (.dat (.int (b+1))),some (.dat (eQ (b,k)))]:=by simp[aM,rS,pM (d:=.tuple [.int b,.int k]) rfl,fR,EC (d:=.int k) rfl,jM (d:=.int b) rfl,cC,hb.2.1,hb.2.2,hb.1,show lo+1<=b by lia]
  simp[aM,this]
theorem Rt(f:a.length<=6)(b:gc 0 a)(d:∀p∈a,p.1<=9999/\-12<=p.2/\p.2<=14):rT [.dat (.tuple (a.map eQ))]=.rt (.dat (.bool true)) []:=by obtain⟨e,y,h⟩:=ED (lo:=0) (c:=some (.dat (.tuple (a.map eQ)))) (x:=none) b d;simp[aM,rT,BZ,show ¬ (6:Int)<a.length by lia]at h ⊢;rw[h];simp
theorem Ru(z:dI a b):se [.dat (bB a b)]=.rt (.dat (.bool true)) []:=by have h1:=z.ah.1;simp[aM,se,Cf,pM (d:=bB a b) rfl,fR,EC (d:=.int a) rfl,cC,h1.1,h1.2,Rt z.len z.rise fun p c=>⟨z.top p c,z.ah.2 p c⟩]
theorem sS(z:dI a b):kw [.dat (bB a b)]=.rt (.dat .none) []:=by simp[aM,kw,Cn,Ru z]
theorem EE:∀{ss a x},∃y,bU (av 3) vZ (ss.map eQ) [z,some (.dat (.int m)),some (.dat (.int a)),x]=.nx [z,some (.dat (.int m)),some (.dat (.int (fZ a ss m))),y]
 |[],_,_=>⟨_,rfl⟩
 | (b,c)::r,a,x=>by
  obtain⟨y,d⟩:=EE (m:=m) (z:=z) (ss:=r) (a:=if b<=m then c else a) (x:=some (.dat (eQ (b,c))));refine⟨y,?_⟩;rw[List.map_cons,bU];unfold fZ;rw[<-d]
  by_cases h:b<=m<;>simp[aM,vZ,h]
theorem Rv:rH [.dat (bB a b),.dat (.int m)]=.rt (.dat (.int (dH a b m))) []:=by obtain⟨y,h⟩:=EE (m:=m) (z:=some (.dat (bB a b))) (ss:=b) (a:=a) (x:=none);simp[aM,rH,BL]at h ⊢;rw[h];simp[aM,dH]
theorem wD{P:ak->Prop}:∀{its ys U},P U->(∀d∈its,∀U,P U->∃a b,g d U=some a/\e a=.ok (f d) b/\P b)->ys.length+its.length<=sizeLine->bD g cO e its ys U=some (ys++its.map f)
 |[],ys,U,_,_,_=>by simp[aM,bD]
 |d::r,ys,U,c,h,i=>by obtain⟨a,b,h1,h2,h3⟩:=h d List.mem_cons_self U c;simp only[List.length_cons]at i;unfold bD;rw[h1];simp only[cO,h2];rw[if_pos (by lia),wD h3 (fun d hd=>h d (bq _ hd)) (by simp;lia)];simp
theorem sT{P:ak->Prop}:∀{its ys U},P U->(∀d∈its,∀U,P U->∃b a c,g d U=some b/\t b=.ok (p d) a/\P a/\(p d=true->e a=.ok (f d) c/\P c))->ys.length+its.length<=sizeLine->bD g t e its ys U=some (ys++(its.filter p).map f)
 |[],ys,U,_,_,_=>by simp[aM,bD]
 |d::r,ys,U,j,h,k=>by
  obtain⟨b,a,c,h1,h2,h3,l⟩:=h d List.mem_cons_self U j;simp only[List.length_cons]at k;unfold bD;rw[h1];simp only[h2];cases i:p d with
  |true=>obtain⟨m,n⟩:=l i;simp only[m];rw[if_pos (by lia),sT n (fun d hd=>h d (bq _ hd)) (by simp;lia)];simp[aM,i]
  |false=>simp only;rw[sT h3 (fun d hd=>h d (bq _ hd)) (by lia)];simp[aM,i]
@[simp]theorem Ug:(0:Nat)<=sizeLine:=by decide
@[simp]theorem EF:(1:Nat)<=sizeLine:=by decide
@[simp]theorem EG:(2:Nat)<=sizeLine:=by decide
@[simp]theorem Uh:(3:Nat)<=sizeLine:=by decide
@[simp]theorem Ui:(4:Nat)<=sizeLine:=by decide
@[simp]theorem Uj:(5:Nat)<=sizeLine:=by decide
@[simp]theorem Uk:(6:Nat)<=sizeLine:=by decide
@[simp]theorem Ul:(7:Nat)<=sizeLine:=by decide
@[simp]theorem Um:(8:Nat)<=sizeLine:=by decide
@[simp]theorem Uo:(9:Nat)<=sizeLine:=by decide
@[simp]theorem Rw:(10:Nat)<=sizeLine:=by decide
@[simp]theorem Rx:(11:Nat)<=sizeLine:=by decide
@[simp]theorem Ry:(12:Nat)<=sizeLine:=by decide
@[simp]theorem Rz:(13:Nat)<=sizeLine:=by decide
@[simp]theorem RA:(14:Nat)<=sizeLine:=by decide
noncomputable def cy:Option Int->PyData
 |none=>.none
 |some e=>.int e
def eR(p:Int×Option Int×Int):PyData:=.tuple [.int p.1,cy p.2.1,.int p.2.2]
theorem EH:∀d  s a,oo (.int s::d.map fun p=>.int p.1) ((d.map fun p=>PyData.int p.1)++[.none]) (.int a::d.map fun p=>.int p.2)=(bh s a d).map eR
 |[],s,a=>rfl
 |(b,c)::r,s,a=>by have e:=EH r b c;simp only[List.map_cons,List.cons_append,bh];rw[<-e];rfl
theorem EI(l:b.length<=6):pd [.dat (bB a b)]=.rt (.dat (.list ((bh 0 a b).map eR))) []:=by
 have sz:1000<sizeLine:=by decide
 have c:=wD (e:=wa) (g:=av 0) (f:=fun d=>match d with |.tuple (x::_)=>x |_=>.none) (P:=fun U=>U.length=1) (its:=b.map eQ) (ys:=[]) (U:=[none]) rfl (fun d hd U h=>by
  obtain⟨p,_,rfl⟩:=List.mem_map.mp hd
  match U,h with
  |[y],_=>exact⟨_,_,rfl,by simp[aM,wa];rfl,rfl⟩) (by simp;lia)
 have i:=wD (e:=wb) (g:=av 0) (f:=fun d=>match d with |.tuple (_::x::_)=>x |_=>.none) (P:=fun U=>U.length=1) (its:=b.map eQ) (ys:=[]) (U:=[none]) rfl (fun d hd U h=>by
  obtain⟨p,_,rfl⟩:=List.mem_map.mp hd
  match U,h with
  |[y],_=>exact⟨_,_,rfl,by simp[aM,wb];rfl,rfl⟩) (by simp;lia)
 simp only[List.nil_append,List.map_map]at c i;have j:List.map ((fun d=>match d with |.tuple (x::_)=>x |_=>PyData.none)∘eQ) b=b.map fun p=>PyData.int p.1:=by apply List.map_congr_left;intro p _;rfl
 have k:List.map ((fun d=>match d with |.tuple (_::x::_)=>x |_=>PyData.none)∘eQ) b=b.map fun p=>PyData.int p.2:=by apply List.map_congr_left;intro p _;rfl
 rw[j]at c;rw[k]at i;have z:=EH b 0 a;simp[aM,pd,BM,c,i,show b.length<=sizeLine by lia,show b.length+1<=sizeLine by lia,show 1+b.length<=sizeLine by lia,z]
theorem sU:pf [.dat (.int m),.dat (cy e)]=.rt (.dat (.bool (ff m e))) []:=by cases e<;>simp[aM,pf,BN,cy,ff]
theorem pP:∀d  s a,(bh s a d).length=d.length+1
 |[],s,a=>rfl
 |(b,c)::r,s,a=>by simp[aM,bh,pP r b c]
theorem RB(d:a.length<=63)(e:0<=k):∃v,nh [.scr a,.dat (.int k)]=.rt (.dat (.int v)) []:=by
 by_cases h:k<a.length
 .have:∃v,bI a k=some v:=by unfold bI dj;rw[if_pos e,if_pos h];exact⟨a[k.toNat]'(by lia),by simp⟩
  obtain⟨v,c⟩:=this;exact⟨v,by simp[aM,nh,rK,d,h,c]⟩
 .by_cases b:a=[]
  .subst b;exact⟨0,by simp[aM,nh,rK]at h ⊢;simp[aM,show ¬ k<0 by lia]⟩
  .have f:0<(a.length:Int):=by have:=List.length_pos_iff.mpr b;lia
   have:∃v,bI a (k % a.length)=some v:=by have h1:=Int.emod_nonneg k (show(a.length:Int)≠0 by lia);have h2:=Int.emod_lt_of_pos k f;unfold bI dj;rw[if_pos h1,if_pos h2];exact⟨a[(k % a.length).toNat]'(by lia),by simp⟩
   obtain⟨v,c⟩:=this;exact⟨v * 31+k,by simp[aM,nh,rK,d,h,b,c,oq,kc,List.length_pos_iff.mpr b]⟩
theorem RC(d:c.length<=63)(e:0<=k)(b:0<many):∃v,0<=v/\v<many/\rR [.scr c,.dat (.int k),.dat (.int many)]=.rt (.dat (.int v)) []:=by
 obtain⟨v,f⟩:=RB (k:=k) d e;generalize hd:(v * 1103515245+7919 * k+12345) % 2147483647=a;have g:0<=a:=by lia
 have h:a<2147483647:=by lia
 refine⟨a ^ 5 % 2147483647 % 999983 % many,Int.emod_nonneg _ (by lia),Int.emod_lt_of_pos _ b,?_⟩;simp[aM,rR,BY,f,kc,oq,qH,hd,b,show a.natAbs<18446744073709551616 by lia]
theorem iq(a:ns.length<=63)(c:t.length<1000000)(b:0<many):∃v,0<=v/\v<many/\gj [.scr ns,.own true (.l t),.dat (.int many)]=.rt (.dat (.int v)) [.l (t++[.int 0])]:=by
 have sz:1000000<sizeLine:=by decide
 obtain⟨v,h1,h2,h3⟩:=RC (k:=((t++[PyData.int 0]).length:Int)) a (by lia) b;refine⟨v,h1,h2,?_⟩;simp at h3;simp[aM,gj,Ce,show t.length<sizeLine by lia,h3]
theorem wE(a:ns.length<=63)(b:t.length<1000000)(hd:ds≠[])(c:ds.length<=1000):∃d∈ds,nt [.scr ns,.own true (.l t),.dat (.list ds)]=.rt (.dat d) [.l (t++[.int 0])]:=by
 have e:=List.length_pos_iff.mpr hd;obtain⟨v,h1,h2,h3⟩:=iq (many:=ds.length) a b (by lia);have:bI ds v=some (ds[v.toNat]'(by lia)):=by unfold bI dj;rw[if_pos h1,if_pos h2];simp
 refine⟨ds[v.toNat]'(by lia),List.getElem_mem _,?_⟩;simp[aM,nt,Ck,h3,this]
theorem RD{ss:Sh}(b:ns.length<=63)(h:t.length<900)(j:ss.length<=100)(a:0<wd):∃d c,0<=d/\d<wd/\-12<=c/\c<=14/\
  sj [some (.scr ns),some (.own true (.l t)),some (.dat (.int wd)),some (.dat (.tuple (ss.map eQ))),some (.dat (.int m)),k]=.nx [some (.scr ns),some (.own true (.l (t++[.int 0]++[.int 0]))),some (.dat (.int wd)),some (.dat (.tuple ((ss++[(m+1+d,c)]).map eQ))),some (.dat (.int (m+1+d))),k]:=by
 have sz:1000<sizeLine:=by decide
 obtain⟨d,e,n,h2⟩:=iq (ns:=ns) (t:=t) (many:=wd) b (by lia) a;obtain⟨w,a,h1⟩:=wE (ns:=ns) (t:=t++[.int 0]) (ds:=[.int 0,.int 1,.int 2,.int (-1),.int 14,.int (-12),.int 3]) b (by simp;lia) (by simp) (by simp);have:∃i:Int,w=.int i/\-12<=i/\i<=14:=by simp only[List.mem_cons,List.not_mem_nil,or_false]at a;rcases a with rfl |rfl |rfl |rfl |rfl |rfl |rfl<;>exact⟨_,rfl,by lia,by lia⟩
 obtain⟨i,rfl,f,g⟩:=this;refine⟨d,i,e,by lia,f,g,?_⟩;simp only[List.append_assoc,List.cons_append,List.nil_append]at h1 h2;simp[aM,sj,h1,h2,show ss.length+1<=sizeLine by lia]
theorem EJ(g:ns.length<=63)(h:0<wd):∀{its t ss m k},t.length+2 * its.length<900->ss.length+its.length<=100->∃new t' b f,bU (av 5) sj its [some (.scr ns),some (.own true (.l t)),some (.dat (.int wd)),some (.dat (.tuple (ss.map eQ))),some (.dat (.int m)),k]=.nx [some (.scr ns),some (.own true (.l t')),some (.dat (.int wd)),some (.dat (.tuple ((ss++new).map eQ))),some (.dat (.int b)),f]/\
  gc m new/\(∀p∈new,p.1<=m+wd * its.length/\-12<=p.2/\p.2<=14)/\new.length=its.length/\t'.length=t.length+2 * its.length
 |[],t,ss,m,k,_,_=>⟨[],t,m,k,by simp[aM,bU],trivial,fun p a=>(by cases a),rfl,rfl⟩
 |x::r,t,ss,m,k,h1,h2=>by
  simp only[List.length_cons]at h1 h2;obtain⟨d,c,s,u,i,j,e⟩:=RD (ns:=ns) (t:=t) (ss:=ss) (m:=m) (wd:=wd) (k:=some (.dat x)) g (by lia) (by lia) h;obtain⟨new,t',b,f,g1,g2,g3,n,o⟩:=EJ g h (its:=r) (t:=t++[.int 0]++[.int 0]) (ss:=ss++[(m+1+d,c)]) (m:=m+1+d) (k:=some (.dat x)) (by simp;lia) (by simp;lia);have q:wd * ((r.length+1:Nat):Int)=wd * r.length+wd:=by rw[Int.natCast_add,Int.mul_add];simp
  have e4:0<=wd * (r.length:Int):=Int.mul_nonneg (by lia) (by lia);refine⟨(m+1+d,c)::new,t',b,f,?_,⟨by lia,g2⟩,fun p a=>?_,by simp[aM,n],by rw[o];simp;lia⟩
  .rw[bU];simp only[av,List.set_cons_succ,List.set_cons_zero,e];rw[g1];simp
  .rw[List.length_cons,q];rcases List.mem_cons.mp a with rfl |a
   .exact⟨by simp;lia,i,j⟩
   .have:=g3 p a;exact⟨by lia,this.2⟩
theorem RE(d:ns.length<=63)(s:t.length<=100)(h:0<wd):∃a c t',sk [.scr ns,.own true (.l t),.dat (.int wd)]=.rt (.dat (bB a c)) [.l t']/\c.length<=4/\gc 0 c/\rF a c/\(∀p∈c,p.1<=4 * wd)/\t'.length<=t.length+12:=by
 have sz:1000<sizeLine:=by decide
 obtain⟨n,j,u,h1⟩:=iq (ns:=ns) (t:=t) (many:=5) d (by lia) (by lia);obtain⟨new,f,v,x,g1,g2,g3,o,g⟩:=EJ (ns:=ns) (wd:=wd) d h (its:=intsFrom 0 n.toNat) (t:=t++[.int 0]) (ss:=[]) (m:=0) (k:=none) (by simp[aM,qF];lia) (by simp[aM,qF];lia);rw[qF]at g3 o g;simp only[List.length_append,List.length_cons,List.length_nil]at g;obtain⟨w,b,h2⟩:=wE (ns:=ns) (t:=f) (ds:=[.int 0,.int 1,.int 2,.int (-1),.int 14,.int (-12)]) d (by lia) (by simp) (by simp);have:∃i:Int,w=.int i/\-12<=i/\i<=14:=by simp only[List.mem_cons,List.not_mem_nil,or_false]at b;rcases b with rfl |rfl |rfl |rfl |rfl |rfl<;>exact⟨_,rfl,by lia,by lia⟩
 obtain⟨i,rfl,q,r⟩:=this;simp only[List.map_nil,List.nil_append]at g1;have y:wd * ((n.toNat:Nat):Int)<=4 * wd:=by rw[Int.mul_comm 4];exact Int.mul_le_mul_of_nonneg_left (by lia) (by lia)
 refine⟨i,new,f++[.int 0],?_,by lia,g2,⟨⟨q,r⟩,fun p e=>(g3 p e).2⟩,fun p e=>by have:=(g3 p e).1;lia,by simp;lia⟩;simp[aM,sk,Co,h1,j,show n<4611686018427387904 by lia,show -4611686018427387904<=n by lia,g1,h2]
theorem RF(h:SeqAt.shaped d=true):aM false d d=some (.bool true):=by simp[aM,h,zu h]
theorem pQ(h:SeqAt.shaped d=true):aM true d d=some (.bool false):=by simp[aM,h,zu h]
theorem RG(i j):aM true (.int i) (.int j)=some (.bool (!decide (i=j))):=by
 by_cases h:i=j
 .subst h;simp[pQ (nH i)]
 .simp[aM,nH,wB,h]
theorem kC(i j):aM false (.int i) (.int j)=some (.bool (decide (i=j))):=by
 by_cases h:i=j
 .subst h;simp[RF (nH i)]
 .simp[aM,nH,wB,h]
theorem wF(h:m U=.nx a):ay m k U=k a:=by simp[h]
theorem RH(i j):PyData.eqv (.str i) (.str j)=(i==j):=by rw[PyData.eqv]
theorem wG(h:PyData.strOk x=true):SeqAt.shaped (.str x)=true:=by unfold SeqAt.shaped;simp[PyData.canLay0,PyData.depth,h]
theorem cQ(a:PyData.strOk x=true)(b:PyData.strOk y=true):aM false (.str x) (.str y)=some (.bool (x==y)):=by simp[aM,wG a,wG b,RH]
theorem fg:PyData.strOk "once" = true:=by decide +kernel
theorem gP:PyData.strOk "every" = true:=by decide +kernel
theorem kD:PyData.strOk "daily" = true:=by decide +kernel
@[simp]theorem Up:(("every":Str)==("once":Str))=false:=by decide +kernel
@[simp]theorem Uq:(("daily":Str)==("once":Str))=false:=by decide +kernel
@[simp]theorem Ur:(("daily":Str)==("every":Str))=false:=by decide +kernel
@[simp]theorem Us:cq "str" "str" = some true:=by decide
noncomputable abbrev ee:aU->PyData
 |.once m=>.tuple [.str "once",.int m]
 |.every f s=>.tuple [.str "every",.int f,.int s]
 |.daily h=>.tuple [.str "daily",.int h]
abbrev pR(a:Int)(b:Sh)(p:aU)(c:Nat):PyData:=.tuple [.int c,.int (dZ a b p c)]
@[simp]theorem EK{w:PyData}:bI (x::y::w::l) 2=some w:=by unfold bI dj;rw[if_pos (by lia),if_pos (by simp<;>lia)];rfl
theorem lK(a:PyData.strOk x=true)(b:PyData.strOk w=true):kv [.dat (.tuple (.str x::rest)),.dat (.str w),.dat (.int n)]=.rt (.dat (.bool (decide (((rest.length+1:Nat):Int)=n)&&(x==w)))) []:=by
 by_cases h:(((rest.length+1:Nat):Int)=n)
 .simp[kv,we,pM (d:=.tuple (.str x::rest)) rfl,fR,cQ a b];simp at h;simp[h]
 .simp[kv,we,pM (d:=.tuple (.str x::rest)) rfl,fR,cQ a b];simp at h;simp[h]
theorem EL(ok:ca p):lE [.dat (ee p)]=.rt (.dat (.bool true)) []:=by
 cases p with
 |once m=>simp[lE,rV,lK fg fg,wC (d:=.int m) rfl,cC,ok.1,ok.2]
 |every f s=>simp[lE,rV,lK gP fg,lK gP gP,wC (d:=.int f) rfl,jM (d:=.int s) rfl,cC,ok.1.1,ok.1.2,ok.2.1,ok.2.2]
 |daily h=>simp[lE,rV,lK kD fg,lK kD gP,lK kD kD,jM (d:=.int h) rfl,cC,ok.1,ok.2]
theorem RI(ok:ca p):sg [.dat (ee p)]=.rt (.dat .none) []:=by simp[sg,Ci,EL ok]
def sV(g:Int)(d:PyData):Bool:=match d with
 |.tuple [.int s,.none,.int a]=>ff (max s (g - a)) none
 |.tuple [.int s,.int e,.int a]=>ff (max s (g - a)) (some e)
 |_=>false
noncomputable def sW(g:Int)(d:PyData):PyData:=match d with
 |.tuple [.int s,_,.int a]=>.int (max s (g - a))
 |_=>.none
theorem EM(g p):sV g (eR p)=ff (max p.1 (g - p.2.2)) p.2.1:=by obtain⟨s,e,a⟩:=p;cases e<;>rfl
theorem EN(g p):sW g (eR p)=.int (max p.1 (g - p.2.2)):=by obtain⟨s,e,a⟩:=p;cases e<;>rfl
theorem RJ(h:b.length<=6):rN [.dat (bB a b),.dat (.int g)]=.rt (.dat (.int (gd g 0 a b))) []:=by
 have sz:1000<sizeLine:=by decide
 have c:=sT (t:=wg) (e:=wh) (g:=cJ 3 (bt (av 0) (bt (av 1) (bt (av 2) cI)))) (p:=sV g) (f:=sW g) (P:=fun U=>∃x y z,U=[x,y,z,some (.dat (.int g))]) (its:=(bh 0 a b).map eR) (ys:=[]) (U:=[none,none,none,some (.dat (.int g))]) ⟨_,_,_,rfl⟩ (fun d hd U i=>by
  obtain⟨p,_,rfl⟩:=List.mem_map.mp hd;obtain⟨x,y,z,rfl⟩:=i;refine⟨[some (.dat (.int p.1)),some (.dat (cy p.2.1)),some (.dat (.int p.2.2)),some (.dat (.int g))],[some (.dat (.int p.1)),some (.dat (cy p.2.1)),some (.dat (.int p.2.2)),some (.dat (.int g))],[some (.dat (.int p.1)),some (.dat (cy p.2.1)),some (.dat (.int p.2.2)),some (.dat (.int g))],by simp[eR],by simp[wg,sU,EM],⟨_,_,_,rfl⟩,fun _=>⟨by simp[wh,EN],⟨_,_,_,rfl⟩⟩⟩) (by simp[pP];lia)
 have f1:(((bh 0 a b).map eR).filter (sV g)).map (sW g)=(mZ g (bh 0 a b)).map PyData.int:=by unfold mZ;have j:sW g∘eR=fun p=>.int (max p.1 (g - p.2.2)):=funext (EN g);have k:sV g∘eR=fun p=>ff (max p.1 (g - p.2.2)) p.2.1:=funext (EM g);rw[List.filter_map,List.map_map,List.map_map,j,k];rfl
 have l:(mZ g (bh 0 a b)).length<=7:=by unfold mZ;rw[List.length_map];exact Nat.le_trans (List.length_filter_le _ _) (by rw[pP];lia)
 obtain⟨t,e⟩:=BD g b 0 a;rw[f1,e]at c;rw[e,List.length_cons]at l;simp only[List.nil_append,List.map_cons]at c;simp[rN,BV,EI h,c,show t.length+1<=sizeLine by lia]
theorem EO:pC [.dat (bB a b),.dat (.int h)]=.rt (.dat (.int (gy a b h))) []:=by simp[pC,BX,Rv,gy,mf]
theorem RK{c:Nat}(d:b.length<=6):rZ [.dat (bB a b),.dat (.int h),.dat (.int c)]=.rt (.dat (.int (gz a b h c))) []:=by simp[rZ,Cd,EO,RJ d,gz,kc]
theorem RL(a:-1000000<=j)(b:j<=1000000):kc i j=true:=by unfold kc;rw[decide_eq_true (show -(2 ^ 64)<j by lia),decide_eq_true (show j<2 ^ 64 by lia)];simp
theorem RM(a:1<=s)(b:s<=999):gk [.dat z,.dat (ee (.every f s)),.dat (.int c)]=.rt (.dat (.int (f+c * s))) []:=by simp[gk,pE,cQ gP fg,cQ gP gP,RL (i:=c) (show -1000000<=s by lia) (show s<=1000000 by lia)]
theorem sX{c:Nat}(b:ss.length<=6)(ok:ca p):gk [.dat (bB a ss),.dat (ee p),.dat (.int c)]=.rt (.dat (cy (bE a ss p c))) []:=by
 cases p with
 |once m=>
  by_cases e:c=0
  .subst e;simp[gk,pE,cQ fg fg,kC,bE,cy]
  .simp[gk,pE,cQ fg fg,kC,bE,cy,e]
 |every f s=>exact RM ok.2.1 ok.2.2
 |daily h=>simp[gk,pE,cQ kD fg,cQ kD gP,bE,cy,RK b]
theorem wH(g:b.length<=6)(ok:ca p)(u:bM a b p last n):∀k c  d  fuel,c+k=n->k<fuel->d.length+k<=50000->∃y f,hU nA nz fuel [some (.dat (bB a b)),some (.dat (ee p)),some (.dat (.int first)),some (.dat (.int last)),some (.own false (.l d)),some (.dat (.int c)),some (.dat (cy (bE a b p c)))]=.nx [some (.dat (bB a b)),some (.dat (ee p)),some (.dat (.int first)),some (.dat (.int last)),some (.own false (.l (d++((List.range' c k).filter fun c=>decide (first<=dZ a b p c)).map (pR a b p)))),y,f]
 |0,c,d,fuel+1,r,s,hd=>by
  obtain rfl:c=n:=by lia
  refine⟨some (.dat (.int c)),some (.dat (cy (bE a b p c))),?_⟩;unfold hU;rcases u.out with e |⟨v,e,o⟩
  .rw[e];simp[nA,cy,eK,isNone]
  .rw[e];simp[nA,cy,eK,isNone,show ¬ v<=last by lia]
 |k+1,c,d,fuel+1,r,s,hd=>by
  have sz:1000000<sizeLine:=by decide
  obtain⟨v,e,o⟩:=u.in_ c (by lia);have i:dZ a b p c=v:=by unfold dZ;rw[e];rfl
  have q:∀x,nA [some (.dat (bB a b)),some (.dat (ee p)),some (.dat (.int first)),some (.dat (.int last)),x,some (.dat (.int c)),some (.dat (.int v))]=.ok true [some (.dat (bB a b)),some (.dat (ee p)),some (.dat (.int first)),some (.dat (.int last)),x,some (.dat (.int c)),some (.dat (.int v))]:=fun x=>by simp[nA,eK,isNone,o]
  have rt:=sX (a:=a) (ss:=b) (p:=p) (c:=c+1) g ok;simp only[Int.natCast_add,Int.natCast_one]at rt
  by_cases h:first<=v
  .obtain⟨y,f,j⟩:=wH (first:=first) g ok u k (c+1) (d++[pR a b p c]) fuel (by lia) (by lia) (by simp;lia);refine⟨y,f,?_⟩;unfold hU;rw[e,cy,q];have m:nz [some (.dat (bB a b)),some (.dat (ee p)),some (.dat (.int first)),some (.dat (.int last)),some (.own false (.l d)),some (.dat (.int c)),some (.dat (.int v))]=.nx [some (.dat (bB a b)),some (.dat (ee p)),some (.dat (.int first)),some (.dat (.int last)),some (.own false (.l (d++[pR a b p c]))),some (.dat (.int ((c+1:Nat):Int))),some (.dat (cy (bE a b p (c+1))))]:=by simp[nz,h,rt,show d.length<sizeLine by lia,i]
   simp only[dD,if_true,m];rw[j,List.range'_succ,List.filter_cons,if_pos (by rw[i];exact decide_eq_true h)];simp
  .obtain⟨y,f,j⟩:=wH (first:=first) g ok u k (c+1) d fuel (by lia) (by lia) (by lia);refine⟨y,f,?_⟩;unfold hU;rw[e,cy,q];have m:nz [some (.dat (bB a b)),some (.dat (ee p)),some (.dat (.int first)),some (.dat (.int last)),some (.own false (.l d)),some (.dat (.int c)),some (.dat (.int v))]=.nx [some (.dat (bB a b)),some (.dat (ee p)),some (.dat (.int first)),some (.dat (.int last)),some (.own false (.l d)),some (.dat (.int ((c+1:Nat):Int))),some (.dat (cy (bE a b p (c+1))))]:=by simp[nz,h,rt]
   simp only[dD,if_true,m];rw[j,List.range'_succ,List.filter_cons,if_neg (by rw[i];simpa using h)]
theorem RN(z:dI a e)(ok:ca p)(f:0<=first/\first<=9999)(h:0<=last/\last<=9999)(u:bM a e p last n):sv [.dat (bB a e),.dat (ee p),.dat (.int first),.dat (.int last)]=.rt (.own false (.l ((iV a e p first n).map (pR a e p)))) []:=by have b:=u.le;obtain⟨y,i,g⟩:=wH (first:=first) z.len ok u n 0 [] 100000 (by lia) (by lia) (by simp;lia);rw[List.nil_append,<-List.range_eq_range']at g;have rt:=sX (a:=a) (ss:=e) (p:=p) (c:=0) z.len ok;simp only[Int.natCast_zero]at rt g;simp[sv,Cr,sS z,RI ok,lJ (d:=.int first) rfl,lJ (d:=.int last) rfl,cC,f.1,f.2,h.1,h.2,rt,g,iV]
theorem RO(h:l≠[]):∃M,M∈l/\(∀x∈l,x<=M)/\mw [.list (l.map PyData.int)]=some (.int M):=by
 have key:∀(r:List Int) (i:Int),(∀x∈i::r,x<=r.foldl max i)/\r.foldl max i∈i::r:=fun r=>by
  induction r with
  |nil=>intro i;simp
  |cons j r c=>
   intro i;obtain⟨b,h2⟩:=c (max i j);have h3:=b (max i j) List.mem_cons_self;refine⟨fun x a=>?_,?_⟩
   .simp only[List.foldl_cons];rcases List.mem_cons.mp a with rfl |a
    .omega
    .rcases List.mem_cons.mp a with rfl |a
     .omega
     .exact b x (bq _ a)
   .simp only[List.foldl_cons];rcases List.mem_cons.mp h2 with e |e
    .rw[e];rcases Int.le_total i j with q |q
     .rw[Int.max_eq_right q];simp
     .rw[Int.max_eq_left q];simp
    .exact bq _ (bq _ e)
 cases l with
 |nil=>exact absurd rfl h
 |cons i r=>obtain⟨b,h2⟩:=key r i;exact⟨_,h2,b,by unfold mw;simp only[Nq];rfl⟩
noncomputable def sY(m:Int)(d:PyData):Bool:=match d with
 |.tuple (.int s::_)=>decide (s<=m)
 |_=>false
noncomputable def pS(m:Int)(d:PyData):PyData:=match d with
 |.tuple [.int _,.none,.int a]=>.int (m+a)
 |.tuple [.int _,.int e,.int a]=>.int ((if decide (m<e)=true then m else e - 1)+a)
 |_=>.none
theorem EQ(m p):sY m (eR p)=decide (p.1<=m):=rfl
theorem ER(m p):pS m (eR p)=.int ((if ff m p.2.1=true then m else p.2.1.getD 0 - 1)+p.2.2):=by obtain⟨s,e,a⟩:=p;cases e<;>simp[pS,eR,cy,ff]
theorem RP(j:i.length<=6)(k:gc 0 i)(l:0<=m):∃f,rO [.dat (bB a i),.dat (.int m)]=.rt (.dat (.int f)) []/\(∃t,0<=t/\t<=m/\dH a i t=f)/\∀t,0<=t->t<=m->dH a i t<=f:=by
 have sz:1000<sizeLine:=by decide
 have c:=sT (t:=wj) (e:=pB) (g:=cJ 3 (bt (av 0) (bt (av 1) (bt (av 2) cI)))) (p:=sY m) (f:=pS m) (P:=fun U=>∃x y z,U=[x,y,z,some (.dat (.int m))]) (its:=(bh 0 a i).map eR) (ys:=[]) (U:=[none,none,none,some (.dat (.int m))]) ⟨_,_,_,rfl⟩ (fun d hd U n=>by
  obtain⟨p,_,rfl⟩:=List.mem_map.mp hd;obtain⟨x,y,z,rfl⟩:=n;refine⟨[some (.dat (.int p.1)),some (.dat (cy p.2.1)),some (.dat (.int p.2.2)),some (.dat (.int m))],[some (.dat (.int p.1)),some (.dat (cy p.2.1)),some (.dat (.int p.2.2)),some (.dat (.int m))],[some (.dat (.int p.1)),some (.dat (cy p.2.1)),some (.dat (.int p.2.2)),some (.dat (.int m))],by simp[eR],by simp[wj,EQ],⟨_,_,_,rfl⟩,fun _=>⟨?_,⟨_,_,_,rfl⟩⟩⟩;rw[ER];obtain⟨s,e,b⟩:=p;cases e with
  |none=>simp[pB,sU,ff]
  |some e=>
   by_cases h:m<e
   .simp[pB,sU,ff,h]
   .have h1:=sU (m:=m) (e:=some e);simp only[cy,ff]at h1;simp[pB,h1,ff,h,cy]) (by simp[pP];lia)
 have f1:(((bh 0 a i).map eR).filter (sY m)).map (pS m)=(il m (bh 0 a i)).map PyData.int:=by unfold il;have o:pS m∘eR=fun p=>.int ((if ff m p.2.1=true then m else p.2.1.getD 0 - 1)+p.2.2):=funext (ER m);have q:sY m∘eR=fun p=>decide (p.1<=m):=funext (EQ m);rw[List.filter_map,List.map_map,List.map_map,o,q];rfl
 obtain⟨g1,g2⟩:=BK (m:=m) i 0 a k;obtain⟨B,r,_⟩:=g2 0 (Int.le_refl _) l;obtain⟨M,h1,h2,h3⟩:=RO (List.ne_nil_of_mem r);rw[f1]at c;simp only[List.nil_append]at c;have C:(il m (bh 0 a i)).length<=7:=by unfold il;rw[List.length_map];exact Nat.le_trans (List.length_filter_le _ _) (by rw[pP];lia)
 refine⟨M,by simp[rO,BW,EI j,c,h3,show(il m (bh 0 a i)).length<=sizeLine by lia],g1 M h1,fun t u v=>?_⟩;obtain⟨x,w,A⟩:=g2 t u v;exact Int.le_trans A (h2 x w)
theorem ES(z:dI a b)(ok:ca p)(u:bM a b p m n):jJ [.dat (bB a b),.dat (ee p),.dat (.int m)]=.rt (.dat (.int n)) []:=by
 by_cases j:m<0
 .have i:n=0:=by refine Nat.eq_zero_of_not_pos fun h=>?_;obtain⟨v,d,o⟩:=u.in_ 0 h;have:=BH z ok d;lia
  subst i;simp[jJ,nr,j]
 cases p with
 |once x=>
  by_cases e:x<=m
  .have i:n=1:=by
    rcases Nat.lt_trichotomy n 1 with h |h |h
    .have q:n=0:=by lia
     subst q;rcases u.out with h |⟨v,h,d⟩
     .rw[bE,if_pos rfl]at h;cases h
     .rw[bE,if_pos rfl]at h;cases h;lia
    .exact h
    .obtain⟨v,d,_⟩:=u.in_ 1 h;rw[bE,if_neg (by decide)]at d;cases d
   subst i;simp[jJ,nr,j,cQ fg fg,e]
  .have i:n=0:=by refine Nat.eq_zero_of_not_pos fun h=>?_;obtain⟨v,d,o⟩:=u.in_ 0 h;rw[bE,if_pos rfl]at d;cases d;lia
   subst i;simp[jJ,nr,j,cQ fg fg,e]
 |every f s=>
  obtain⟨C,D,E⟩:=id ok;have r:=Qv (by lia) u;have w:max 0 ((m - f) / s+1)=(n:Int):=by
   rw[r];unfold vX;rw[show m+1 - f - 1=m - f by lia]
   by_cases h:f<m+1
   .rw[if_pos h];have:=Int.ediv_nonneg (show 0<=m - f by lia) (show 0<=s by lia);lia
   .rw[if_neg h];have:(m - f) / s<0:=Int.ediv_neg_of_neg_of_pos (by lia) (by lia);lia
  simp[jJ,nr,j,cQ gP fg,cQ gP gP,mf,show 0<s by lia,show s<1073741824 by lia,w]
 |daily hh=>
  obtain⟨f,y,⟨t,A,B,G⟩,f2⟩:=RP (a:=a) z.len z.rise (show 0<=m by lia);have key:∀c:Nat,gz a b hh c<=m↔(gy a b hh+c) * 24+hh<=f:=fun c=>by
   obtain⟨g1,g2,g3⟩:=mY (g:=(gy a b hh+c) * 24+hh) (a:=a) z.rise;have e:gz a b hh c=gd ((gy a b hh+c) * 24+hh) 0 a b:=rfl;rw[e];constructor
   .intro h;exact Int.le_trans g2 (f2 _ g1 h)
   .intro h;refine Int.le_trans (Int.not_lt.mp fun k=>?_) B;have:=g3 t A k;lia
  have fd:=BE (a:=a) (h:=hh) (ss:=b);have H:=f2 0 (Int.le_refl _) (by lia);have i:(f - hh) / 24 - gy a b hh+1=((n:Nat):Int):=by
   have h1:¬ (gy a b hh+n) * 24+hh<=f:=fun h=>by have o:=(key n).mpr h;have:=BI (p:=.daily hh) (v:=gz a b hh n) z ok u (bb _) rfl;lia
   by_cases I:0<n
   .obtain⟨v,d,l⟩:=u.in_ (n - 1) (by lia);cases d;have h2:=(key (n - 1)).mp l;lia
   .omega
  simp[jJ,nr,j,cQ kD fg,cQ kD gP,y,mf,EO,i]
def IsT(o:eF):Prop:=∃x r,o=.rt (.dat (.bool true)) (x::r)
theorem iW(h:m U=.nx a)(q:IsT (k a)):IsT (ay m k U):=by rw[wF h];exact q
theorem RQ(h:IsT (m (some (.scr a)::List.replicate n none))):bm 1 (n+1) m [.scr a]=.rt (.dat (.bool true)) []:=by obtain⟨x,r,e⟩:=h;simp[e]
theorem nI(i r):L3.intsFrom i (r+1)=.int i::L3.intsFrom (i+1) r:=by
 unfold L3.intsFrom;rw[List.range_succ_eq_map,List.map_cons,List.map_map]
 congr 1
 .simp
 .apply List.map_congr_left;intro k _;simp;lia
theorem RS(a:ns.length<=63)(o:t.length<=900)(d:0<wd/\wd<=10000):∃p t',ca p/\(match p with |.once m=>m<wd |.every f s=>f<wd/\s<=200 |.daily _=>True)/\t'.length<=t.length+4/\nv [.scr ns,.own true (.l t),.dat (.int wd)]=.rt (.dat (ee p)) [.l t']:=by
 obtain⟨k,q,r,h1⟩:=iq (ns:=ns) (t:=t) (many:=3) a (by lia) (by lia)
 by_cases e:k=0
 .obtain⟨m,c,g,h2⟩:=iq (ns:=ns) (t:=t++[.int 0]) (many:=wd) a (by simp;lia) d.1;exact⟨.once m,t++[.int 0]++[.int 0],⟨c,by lia⟩,g,by simp,by simp only[List.append_assoc,List.cons_append,List.nil_append]at h1 h2;simp[nv,sn,h1,h2,kC,e]⟩
 .by_cases h:k=1
  .obtain⟨w,b,h2⟩:=wE (ns:=ns) (t:=t++[.int 0]) (ds:=[.int 3,.int 30,.int 200]) a (by simp;lia) (by simp) (by simp);have:∃i:Int,w=.int i/\0<i/\i<=200:=by simp only[List.mem_cons,List.not_mem_nil,or_false]at b;rcases b with rfl |rfl |rfl<;>exact⟨_,rfl,by lia,by lia⟩
   obtain⟨i,rfl,n,u⟩:=this;obtain⟨s,v,x,h3⟩:=iq (ns:=ns) (t:=t++[.int 0]++[.int 0]) (many:=i) a (by simp;lia) n;obtain⟨f,f1,f2,j⟩:=iq (ns:=ns) (t:=t++[.int 0]++[.int 0]++[.int 0]) (many:=wd) a (by simp;lia) d.1;refine⟨.every f (1+s),t++[.int 0]++[.int 0]++[.int 0]++[.int 0],⟨⟨f1,by lia⟩,by lia,by lia⟩,⟨f2,by lia⟩,by simp,?_⟩;simp only[List.append_assoc,List.cons_append,List.nil_append]at h1 h2 h3 j;simp[nv,sn,h1,h2,h3,j,kC,e,h]
  .obtain⟨m,c,g,h2⟩:=iq (ns:=ns) (t:=t++[.int 0]) (many:=24) a (by simp;lia) (by lia);refine⟨.daily m,t++[.int 0]++[.int 0],⟨c,by lia⟩,trivial,by simp,?_⟩;simp only[List.append_assoc,List.cons_append,List.nil_append]at h1 h2;simp[nv,sn,h1,h2,kC,e,h]
@[simp]theorem Ut:dR .none=true:=by simp only[dR]
@[simp]theorem Uu(i):dR (.int i)=true:=by simp only[dR]
@[simp]theorem Uv(b):dR (.bool b)=true:=by simp only[dR]
@[simp]theorem Uw(x):dR (.str x)=true:=by simp only[dR]
@[simp]theorem Ux(l):dR (.tuple l)=true:=by simp only[dR]
@[simp]theorem Uy(l):dR (.list l)=true:=by simp only[dR]
inductive jN where
 |all |last |within (n:Int)
structure bp where
 plan:aU
 late:jN
 again:Bool
noncomputable abbrev ET:jN->PyData
 |.all=>.str "all"
 |.last=>.str "last"
 |.within n=>.tuple [.str "within",.int n]
abbrev bF(d:bp):PyData:=.tuple [ee d.plan,ET d.late,.bool d.again]
@[irreducible] def cD(a:List bp):PyData:=.tuple (a.map bF)
noncomputable def fi:Option Int->PyData
 |none=>.none
 |some i=>.int i
noncomputable def gA:Option (Nat×Nat×Int)->PyData
 |none=>.none
 |some (d,c,h)=>.tuple [.int d,.int c,.int h]
inductive Wd where
 |begun |done |left |unsure
deriving DecidableEq
noncomputable abbrev cW:Wd->Str
 |.begun=>"begun"
 |.done=>"done"
 |.left=>"left"
 |.unsure=>"unsure"
structure eS where
 mo:Int
 ru:Int
 wd:Wd
 dd:Nat
 ct:Nat
abbrev bW(r:eS):PyData:=.tuple [.int r.mo,.int r.ru,.str (cW r.wd),.int r.dd,.int r.ct]
noncomputable abbrev aK(n:Nat):PyData:=.int n
def ef(a:List ((Nat×Nat)×Wd)):List (PyData×PyData):=a.map fun p=>(.tuple [aK p.1.1,aK p.1.2],.str (cW p.2))
structure Hl where
 a:Int
 ss:Sh
 ds:List bp
 last:Option Int
 holder:Option Int
 til:Int
 holds:Int
 begun:Option (Nat×Nat×Int)
 rows:List eS
 words:List ((Nat×Nat)×Wd)
 settled:List Nat
@[irreducible] def ai(S:Hl):List (Str×Fl):=[("zone",.d (bB S.a S.ss)),("deeds",.d (cD S.ds)),("last",.d (fi S.last)),("holder",.d (fi S.holder)),("until",.d (.int S.til)),("holds",.d (.int S.holds)),("begun",.d (gA S.begun)),("rows",.l (S.rows.map bW)),("words",.m true (ef S.words)),("settled",.l (S.settled.map aK))]
abbrev hB(C:Addr)(S:Hl):Bx:=.o C (ai S)
@[simp]theorem Uz(S):List.lookup ("zone":Str) (ai S)=some (.d (bB S.a S.ss)):=by unfold ai;kernel_rfl
@[simp]theorem UA(S):List.lookup ("deeds":Str) (ai S)=some (.d (cD S.ds)):=by unfold ai;kernel_rfl
@[simp]theorem UB(S):List.lookup ("last":Str) (ai S)=some (.d (fi S.last)):=by unfold ai;kernel_rfl
@[simp]theorem UC(S):List.lookup ("holder":Str) (ai S)=some (.d (fi S.holder)):=by unfold ai;kernel_rfl
@[simp]theorem UD(S):List.lookup ("until":Str) (ai S)=some (.d (.int S.til)):=by unfold ai;kernel_rfl
@[simp]theorem UE(S):List.lookup ("holds":Str) (ai S)=some (.d (.int S.holds)):=by unfold ai;kernel_rfl
@[simp]theorem UF(S):List.lookup ("begun":Str) (ai S)=some (.d (gA S.begun)):=by unfold ai;kernel_rfl
@[simp]theorem UG(S):List.lookup ("rows":Str) (ai S)=some (.l (S.rows.map bW)):=by unfold ai;kernel_rfl
@[simp]theorem UH(S):List.lookup ("words":Str) (ai S)=some (.m true (ef S.words)):=by unfold ai;kernel_rfl
@[simp]theorem UI(S):List.lookup ("settled":Str) (ai S)=some (.l (S.settled.map aK)):=by unfold ai;kernel_rfl
@[simp]theorem UJ(S):List.lookup ("is_held":Str) (ai S)=none:=by unfold ai;kernel_rfl
@[simp]theorem UK(S):List.lookup ("check_call":Str) (ai S)=none:=by unfold ai;kernel_rfl
@[simp]theorem UL(S):List.lookup ("check_holder":Str) (ai S)=none:=by unfold ai;kernel_rfl
@[simp]theorem UM(S):List.lookup ("take":Str) (ai S)=none:=by unfold ai;kernel_rfl
@[simp]theorem UN(S):List.lookup ("give":Str) (ai S)=none:=by unfold ai;kernel_rfl
@[simp]theorem UO(S):List.lookup ("add_row":Str) (ai S)=none:=by unfold ai;kernel_rfl
@[simp]theorem UP(S):List.lookup ("is_busy":Str) (ai S)=none:=by unfold ai;kernel_rfl
@[simp]theorem UQ(S):List.lookup ("first_unsettled":Str) (ai S)=none:=by unfold ai;kernel_rfl
@[simp]theorem UR(S):List.lookup ("step":Str) (ai S)=none:=by unfold ai;kernel_rfl
@[simp]theorem US(S):List.lookup ("step_behind_a_fall":Str) (ai S)=none:=by unfold ai;kernel_rfl
@[simp]theorem UT(S):List.lookup ("step_ahead":Str) (ai S)=none:=by unfold ai;kernel_rfl
@[simp]theorem UU(S):List.lookup ("finish":Str) (ai S)=none:=by unfold ai;kernel_rfl
@[simp]theorem UV(S):List.lookup ("state":Str) (ai S)=none:=by unfold ai;kernel_rfl
@[simp]theorem UW(S):List.lookup ("held":Str) (ai S)=none:=by unfold ai;kernel_rfl
@[simp]theorem UX(S):List.lookup ("log":Str) (ai S)=none:=by unfold ai;kernel_rfl
@[simp]theorem UY(S):List.lookup ("waiting":Str) (ai S)=none:=by unfold ai;kernel_rfl
@[simp]theorem UZ(S):List.lookup ("saved":Str) (ai S)=none:=by unfold ai;kernel_rfl
@[simp]theorem Va(S):(ai S).length=10:=by unfold ai;kernel_rfl
theorem EU(S x):bK ("last":Str) (.d (fi x)) (ai S)=ai { S with last:=x }:=by unfold ai;kernel_rfl
theorem EV(S x):bK ("holder":Str) (.d (fi x)) (ai S)=ai { S with holder:=x }:=by unfold ai;kernel_rfl
theorem RT(S x):bK ("until":Str) (.d (.int x)) (ai S)=ai { S with til:=x }:=by unfold ai;kernel_rfl
theorem RU(S x):bK ("holds":Str) (.d (.int x)) (ai S)=ai { S with holds:=x }:=by unfold ai;kernel_rfl
theorem EW(S x):bK ("begun":Str) (.d (gA x)) (ai S)=ai { S with begun:=x }:=by unfold ai;kernel_rfl
theorem RV(S x):bK ("rows":Str) (.l (x.map bW)) (ai S)=ai { S with rows:=x }:=by unfold ai;kernel_rfl
theorem sZ(S x):bK ("words":Str) (.m true (ef x)) (ai S)=ai { S with words:=x }:=by unfold ai;kernel_rfl
theorem wI(S x):bK ("settled":Str) (.l (x.map aK)) (ai S)=ai { S with settled:=x }:=by unfold ai;kernel_rfl
@[simp]theorem Vb(S):bK ("last":Str) (.d .none) (ai S)=ai { S with last:=none }:=EU S none
@[simp]theorem Vc(S i):bK ("last":Str) (.d (.int i)) (ai S)=ai { S with last:=some i }:=EU S (some i)
@[simp]theorem Vd(S):bK ("holder":Str) (.d .none) (ai S)=ai { S with holder:=none }:=EV S none
@[simp]theorem Ve(S i):bK ("holder":Str) (.d (.int i)) (ai S)=ai { S with holder:=some i }:=EV S (some i)
@[simp]theorem Vf(S i):bK ("until":Str) (.d (.int i)) (ai S)=ai { S with til:=i }:=RT S i
@[simp]theorem Vg(S i):bK ("holds":Str) (.d (.int i)) (ai S)=ai { S with holds:=i }:=RU S i
@[simp]theorem Vh(S):bK ("begun":Str) (.d .none) (ai S)=ai { S with begun:=none }:=EW S none
@[simp]theorem Vi(S)(d c:Nat)(h):bK ("begun":Str) (.d (.tuple [.int d,.int c,.int h])) (ai S)=ai { S with begun:=some (d,c,h) }:=EW S (some (d,c,h))
@[simp]theorem Vj{U:ak}:bV C (some (.own io (.o C fs))::U) 0=some (io,fs):=by simp[bV]
@[simp]theorem Vk{U:ak}:bV C (x::y::some (.own io (.o C fs))::U) 2=some (io,fs):=by simp[bV]
@[simp]theorem Vl{U:ak}(h:fs.lookup f=some (.d d)):cp C 0 f (some (.own io (.o C fs))::U)=.ok d (some (.own io (.o C fs))::U):=by simp[cp,h]
@[simp]theorem Vm:isNone .none=true:=by simp only[isNone]
@[simp]theorem Vn(i):isNone (.int i)=false:=by simp only[isNone]
@[simp]theorem Vo(b):isNone (.bool b)=false:=by simp only[isNone]
@[simp]theorem Vp(x):isNone (.str x)=false:=by simp only[isNone]
@[simp]theorem Vq(l):isNone (.tuple l)=false:=by simp only[isNone]
@[simp]theorem Vr(l):isNone (.list l)=false:=by simp only[isNone]
@[simp]theorem Vs(x):isNone (fi x)=x.isNone:=by cases x<;>simp[fi]
@[simp]theorem Vt(x):isNone (gA x)=x.isNone:=by rcases x with _ |⟨_,_,_⟩<;>simp[gA]
theorem RW(h:dR d=true):rL [.dat d]=.rt (.dat (.bool (cC d 0 3))) []:=by simp[aM,rL,BT,jM h]
theorem RY(h:dR d=true):rM [.dat d]=.rt (.dat (.bool (cC d 1 99))) []:=by simp[aM,rM,BU,jM h]
theorem EY(h:dR d=true):rX [.dat d]=if cC d 0 3=true then .rt (.dat .none) []else .bad:=by simp only[rX,Cb];cases a:cC d 0 3<;>simp[aM,RW h,a]
theorem wJ(h:dR d=true):rY [.dat d]=if cC d 1 99=true then .rt (.dat .none) []else .bad:=by simp only[rY,Cc];cases a:cC d 1 99<;>simp[aM,RY h,a]
noncomputable def gQ(S:Hl)(m:Int):Bool:=S.holder.isSome&&decide (m<S.til)
noncomputable def tf(S:Hl)(m:Int):Bool:=match S.last with
 |some l=>decide (m<l)
 |none=>false
theorem tp:pq C [.own true (hB C S),.dat (.int m)]=.rt (.dat (.bool (gQ S m))) [hB C S]:=by unfold gQ;cases h:S.holder<;>simp[pq,BP,h,fi]
theorem RZ(b:dR r=true)(c:cC r 0 3=true)(e:cC (.int m) 0 9999=true)(a:tf S m=false):jK C [.own true (hB C S),.dat r,.dat (.int m)]=.rt (.dat .none) [hB C S]:=by
 unfold tf at a;cases h:S.last with
 |none=>simp[jK,wo,EY b,c,lJ (d:=.int m) rfl,e,h,fi]
 |some l=>rw[h]at a;simp at a;simp[jK,wo,EY b,c,lJ (d:=.int m) rfl,e,h,fi,show ¬ m<l by lia]
theorem wK(x r):aM true (fi x) (.int r)=some (.bool (!decide (x=some r))):=by
 cases x with
 |none=>simp[fi,aM,nH,show SeqAt.shaped .none=true from rfl,PyData.eqv]
 |some i=>simp[fi,RG]
theorem Sc(h:jK C [.own true (hB C S),.dat (.int r),.dat (.int m)]=.rt (.dat .none) [hB C S])(a:gQ S m=true)(b:S.holder=some r):kz C [.own true (hB C S),.dat (.int r),.dat (.int m)]=.rt (.dat .none) [hB C S]:=by simp[kz,Cp,cw,dY,h,tp,a,wK,b]
def nJ(S:Hl)(r m t:Int):Hl×Bool:=if gQ S m=false then({ S with last:=some m,holds:=S.holds+1,holder:=some r,til:=m+t },true) else if S.holder=some r then({ S with last:=some m,holder:=some r,til:=m+t },true) else({ S with last:=some m },false)
theorem Sd(h:jK C [.own true (hB C S),.dat (.int r),.dat (.int m)]=.rt (.dat .none) [hB C S])(b:cC (.int t) 1 99=true):ny C [.own true (hB C S),.dat (.int r),.dat (.int m),.dat (.int t)]=.rt (.dat (.bool (nJ S r m t).2)) [hB C (nJ S r m t).1]:=by
 unfold nJ;have hh:gQ { S with last:=some m } m=gQ S m:=rfl;cases a:gQ S m with
 |false=>simp[ny,sr,cw,dY,h,wJ (d:=.int t) rfl,b,cU,fF,fE,tp,hh,a,qP]
 |true=>
  by_cases c:S.holder=some r
  .have e:m<S.til:=by unfold gQ at a;simp[c]at a;exact a
   simp[ny,sr,cw,dY,h,wJ (d:=.int t) rfl,b,cU,fF,fE,tp,gQ,e,wK,c]
  .simp[ny,sr,cw,dY,h,wJ (d:=.int t) rfl,b,cU,fF,fE,tp,hh,a,wK,c]
theorem EZ:nj C [.own true (hB C S)]=.rt (.dat (.list (S.rows.map bW))) [hB C S]:=by simp[nj,BQ,qQ]
@[irreducible]noncomputable def kE(z d:PyData):List (Str×Fl):=[]
@[irreducible]noncomputable def kG(z d:PyData):List (Str×Fl):=[("zone",.d z)]
@[irreducible]noncomputable def kH(z d:PyData):List (Str×Fl):=[("zone",.d z),("deeds",.d d)]
@[irreducible]noncomputable def kI(z d:PyData):List (Str×Fl):=[("zone",.d z),("deeds",.d d),("last",.d .none)]
@[irreducible]noncomputable def kJ(z d:PyData):List (Str×Fl):=[("zone",.d z),("deeds",.d d),("last",.d .none),("holder",.d .none)]
@[irreducible]noncomputable def kK(z d:PyData):List (Str×Fl):=[("zone",.d z),("deeds",.d d),("last",.d .none),("holder",.d .none),("until",.d (.int 0))]
@[irreducible]noncomputable def kL(z d:PyData):List (Str×Fl):=[("zone",.d z),("deeds",.d d),("last",.d .none),("holder",.d .none),("until",.d (.int 0)),("holds",.d (.int 0))]
@[irreducible]noncomputable def kM(z d:PyData):List (Str×Fl):=[("zone",.d z),("deeds",.d d),("last",.d .none),("holder",.d .none),("until",.d (.int 0)),("holds",.d (.int 0)),("begun",.d .none)]
@[irreducible]noncomputable def kN(z d:PyData):List (Str×Fl):=[("zone",.d z),("deeds",.d d),("last",.d .none),("holder",.d .none),("until",.d (.int 0)),("holds",.d (.int 0)),("begun",.d .none),("rows",.l [])]
@[irreducible]noncomputable def kO(z d:PyData):List (Str×Fl):=[("zone",.d z),("deeds",.d d),("last",.d .none),("holder",.d .none),("until",.d (.int 0)),("holds",.d (.int 0)),("begun",.d .none),("rows",.l []),("words",.m true [])]
@[simp]theorem Vu(z d):List.lookup ("zone":Str) (kE z d)=none:=by unfold kE;kernel_rfl
@[simp]theorem Vv(z d):(kE z d).length=0:=by unfold kE;kernel_rfl
@[simp]theorem Vw(z d):bK ("zone":Str) (.d z) (kE z d)=kG z d:=by unfold kE kG;kernel_rfl
@[simp]theorem Vx(z d):List.lookup ("deeds":Str) (kG z d)=none:=by unfold kG;kernel_rfl
@[simp]theorem Vy(z d):(kG z d).length=1:=by unfold kG;kernel_rfl
@[simp]theorem Vz(z d):bK ("deeds":Str) (.d d) (kG z d)=kH z d:=by unfold kG kH;kernel_rfl
@[simp]theorem VA(z d):List.lookup ("last":Str) (kH z d)=none:=by unfold kH;kernel_rfl
@[simp]theorem VB(z d):(kH z d).length=2:=by unfold kH;kernel_rfl
@[simp]theorem kP(z d):bK ("last":Str) (.d .none) (kH z d)=kI z d:=by unfold kH kI;kernel_rfl
@[simp]theorem VC(z d):List.lookup ("holder":Str) (kI z d)=none:=by unfold kI;kernel_rfl
@[simp]theorem VD(z d):(kI z d).length=3:=by unfold kI;kernel_rfl
@[simp]theorem VE(z d):bK ("holder":Str) (.d .none) (kI z d)=kJ z d:=by unfold kI kJ;kernel_rfl
@[simp]theorem VF(z d):List.lookup ("until":Str) (kJ z d)=none:=by unfold kJ;kernel_rfl
@[simp]theorem VG(z d):(kJ z d).length=4:=by unfold kJ;kernel_rfl
@[simp]theorem VH(z d):bK ("until":Str) (.d (.int 0)) (kJ z d)=kK z d:=by unfold kJ kK;kernel_rfl
@[simp]theorem VI(z d):List.lookup ("holds":Str) (kK z d)=none:=by unfold kK;kernel_rfl
@[simp]theorem VJ(z d):(kK z d).length=5:=by unfold kK;kernel_rfl
@[simp]theorem VL(z d):bK ("holds":Str) (.d (.int 0)) (kK z d)=kL z d:=by unfold kK kL;kernel_rfl
@[simp]theorem VM(z d):List.lookup ("begun":Str) (kL z d)=none:=by unfold kL;kernel_rfl
@[simp]theorem VN(z d):(kL z d).length=6:=by unfold kL;kernel_rfl
@[simp]theorem VO(z d):bK ("begun":Str) (.d .none) (kL z d)=kM z d:=by unfold kL kM;kernel_rfl
@[simp]theorem VP(z d):List.lookup ("rows":Str) (kM z d)=none:=by unfold kM;kernel_rfl
@[simp]theorem VQ(z d):(kM z d).length=7:=by unfold kM;kernel_rfl
@[simp]theorem VR(z d):bK ("rows":Str) (.l []) (kM z d)=kN z d:=by unfold kM kN;kernel_rfl
@[simp]theorem VS(z d):List.lookup ("words":Str) (kN z d)=none:=by unfold kN;kernel_rfl
@[simp]theorem VT(z d):(kN z d).length=8:=by unfold kN;kernel_rfl
@[simp]theorem VU(z d):bK ("words":Str) (.m true []) (kN z d)=kO z d:=by unfold kN kO;kernel_rfl
@[simp]theorem VV(z d):List.lookup ("settled":Str) (kO z d)=none:=by unfold kO;kernel_rfl
@[simp]theorem VW(z d):(kO z d).length=9:=by unfold kO;kernel_rfl
noncomputable def iX(a:Int)(c:Sh)(b:List bp):Hl:=⟨a,c,b,none,none,0,0,none,[],[],List.replicate b.length 0⟩
theorem Se(a c b):bK ("settled":Str) (.l ((List.replicate b.length (0:Nat)).map aK)) (kO (bB a c) (cD b))=ai (iX a c b):=by unfold kO ai iX;kernel_rfl
theorem Fa:∀l a (U:ak),(∃x,U=[x])->a.length+l.length<=sizeLine->bD (av 0) cO (sE C) l a U=some (a++(List.replicate l.length (0:Nat)).map aK)
 |[],a,U,_,_=>by simp[bD]
 |d::l,a,U,⟨x,b⟩,c=>by
  subst b;simp only[List.length_cons]at c;have e:=Fa (C:=C) l (a++[.int 0]) [some (.dat d)] ⟨_,rfl⟩ (by simp;lia);have f:sE C [some (.dat d)]=.ok (.int 0) [some (.dat d)]:=by simp[sE]
  rw[bD];simp[cO,f,show a.length<sizeLine by lia,e,List.replicate_succ]
theorem Sf(e:kw [.dat (bB a c)]=.rt (.dat .none) [])(hd:lH [.dat (cD b)]=.rt (.dat .none) [])(i:b.length<=6):sF C [.own true (.o C []),.dat (bB a c),.dat (cD b)]=.rt (.dat .none) [hB C (iX a c b)]:=by
 have sz:1000<sizeLine:=by decide
 have f:([]:List (Str×Fl))=kE (bB a c) (cD b):=by unfold kE;rfl
 have g:=Fa (C:=C) (b.map bF) [] [none] ⟨_,rfl⟩ (by simp;lia);rw[List.nil_append,List.length_map]at g;have h:cD b=.tuple (b.map bF):=by unfold cD;rfl
 have d:=Se a c b;rw[f];simp[sF,Cw,e,hd,cU,fF,fE,lB,vH,qX];rw[h]at *;simp[g,show b.length<=sizeLine by lia]at d ⊢;exact d
def nK(p:aU):Prop:=ca p
theorem nK.plan(h:nK p):ca p:=h
theorem wL{c:Nat}(b:ss.length<=6)(ok:nK p):gk [.dat (bB a ss),.dat (ee p),.dat (.int c)]=.rt (.dat (cy (bE a ss p c))) []:=sX b ok
theorem kQ:PyData.strOk "all" = true:=by decide +kernel
theorem iY:PyData.strOk "last" = true:=by decide +kernel
theorem wM:PyData.strOk "within" = true:=by decide +kernel
theorem pT:PyData.strOk "begun" = true:=by decide +kernel
theorem Sg:PyData.strOk "done" = true:=by decide +kernel
theorem Si:PyData.strOk "left" = true:=by decide +kernel
theorem Sj:PyData.strOk "unsure" = true:=by decide +kernel
theorem Sk:PyData.strOk "idle" = true:=by decide +kernel
theorem Fb:(("all":Str)==("all":Str))=true:=by decide +kernel
theorem wN:(("last":Str)==("all":Str))=false:=by decide +kernel
theorem wO:(("last":Str)==("last":Str))=true:=by decide +kernel
theorem Sl:(("begun":Str)==("begun":Str))=true:=by decide +kernel
theorem Sn:(("done":Str)==("begun":Str))=false:=by decide +kernel
theorem So:(("left":Str)==("begun":Str))=false:=by decide +kernel
theorem Sq:(("unsure":Str)==("begun":Str))=false:=by decide +kernel
theorem Fc(h:SeqAt.shaped (.tuple l)=true)(a:PyData.strOk x=true):aM false (.tuple l) (.str x)=some (.bool false):=by simp[aM,h,wG a,PyData.eqv]
theorem Fd(n):SeqAt.shaped (.tuple [.str "within",.int n])=true:=by unfold SeqAt.shaped;simp[PyData.canLay0,PyData.canLayAll0,PyData.depth,PyData.depthAll,wM]
def lL(a:Int)(e:Sh)(d:bp)(c:Nat)(b:Int):Bool:=match d.late with
 |.all=>false
 |.last=>(match bE a e d.plan (c+1) with |some v=>decide (v<=b) |none=>false)
 |.within n=>decide (b - dZ a e d.plan c>n)
theorem Sr(f:ss.length<=6)(ok:nK d.plan)(g:∃v,bE a ss d.plan c=some v):lF [.dat (bB a ss),.dat (bF d),.dat (.int c),.dat (.int now)]=.rt (.dat (.bool (lL a ss d c now))) []:=by
 obtain⟨p,la,h⟩:=d;obtain⟨v,e⟩:=g;simp only at ok e;unfold lL;cases la with
 |all=>simp[lF,pF,cQ kQ kQ,Fb]
 |last=>
  have rt:=wL (a:=a) (ss:=ss) (p:=p) (c:=c+1) f ok;simp at rt;cases b:bE a ss p (c+1) with
  |none=>rw[b]at rt;simp[lF,pF,cQ iY kQ,cQ iY iY,wN,wO,rt,cy,b]
  |some w=>rw[b]at rt;simp[lF,pF,cQ iY kQ,cQ iY iY,wN,wO,rt,cy,b]
 |within n=>have rt:=wL (a:=a) (ss:=ss) (p:=p) (c:=c) f ok;rw[e]at rt;simp[lF,pF,Fc (Fd n) kQ,Fc (Fd n) iY,rt,cy,dZ,e]
noncomputable def eU:List ((Nat×Nat)×Wd)->(Nat×Nat)->Wd->List ((Nat×Nat)×Wd)
 |[],k,w=>[(k,w)]
 |(a,v)::r,k,w=>if a = k then(a,w)::r else(a,v)::eU r k w
theorem pU(d c):hV true (.tuple [aK d,aK c])=some [Sum.inl (d:Int),Sum.inl (c:Int)]:=rfl
theorem pV{d c :Nat}:(hV true (.tuple [aK a,aK b])=some [Sum.inl (d:Int),Sum.inl (c:Int)])↔(a,b)=(d,c):=by
 rw[pU];constructor
 .intro h;simp only[Option.some.injEq,List.cons.injEq,Sum.inl.injEq,and_true]at h;have h1:=h.1;have h2:=h.2;have e:a = d:=by lia
  have f:b = c:=by lia
  rw[e,f]
 .intro h;cases h;rfl
theorem Fe(d c:Nat):∀e,ki true (ef e) [Sum.inl (d:Int),Sum.inl (c:Int)]=(e.lookup (d,c)).map fun w=>.str (cW w)
 |[]=>rfl
 | ((a,b),w)::r=>by
  unfold ef;rw[List.map_cons,ki];have f:=Fe d c r;unfold ef at f
  by_cases h:(a,b)=(d,c)
  .rw[if_pos (pV.mpr h)];cases h;simp[List.lookup]
  .rw[if_neg (fun z=>h (pV.mp z)),f];have:((d,c)==(a,b))=false:=by simpa using fun z:(d=a/\c=b)=>h (by rw[z.1,z.2])
   rw[List.lookup_cons,this]
theorem Ff(d c w):∀a:List ((Nat×Nat)×Wd),(a.map (·.1)).Nodup->(a.lookup (d,c)).isSome=true->lu true [Sum.inl (d:Int),Sum.inl (c:Int)] (.str (cW w)) (ef a)=ef (eU a (d,c) w)
 |[],_,h=>by cases h
 | ((b,f),v)::r,nd,h=>by
  unfold ef;rw[List.map_cons,lu];have tail:∀a:List ((Nat×Nat)×Wd),(d,c)∉a.map (·.1)->lu true [Sum.inl (d:Int),Sum.inl (c:Int)] (.str (cW w)) (ef a)=ef a:=by
   intro a
   induction a with
   |nil=>intro _;rfl
   |cons p r i=>intro g;obtain⟨⟨k,l⟩,m⟩:=p;simp only[List.map_cons,List.mem_cons,not_or]at g;unfold ef;rw[List.map_cons,lu,if_neg (fun z=>g.1 (pV.mp z).symm)];have:=i g.2;unfold ef at this;rw[this]
  by_cases e:(b,f)=(d,c)
  .cases e;rw[if_pos (pV.mpr rfl),eU,if_pos rfl,List.map_cons];have:=tail r (by simpa using(List.nodup_cons.mp nd).1);unfold ef at this;rw[this]
  .have j:(r.lookup (d,c)).isSome=true:=by
    have:((d,c)==(b,f))=false:=by simpa using fun z:(d=b/\c=f)=>e (by rw[z.1,z.2])
    rw[List.lookup_cons,this]at h;exact h
   rw[if_neg (fun z=>e (pV.mp z)),eU,if_neg e,List.map_cons];have:=Ff d c w r (List.nodup_cons.mp nd).2 j;unfold ef at this;rw[this]
theorem Fg(k w):∀a,a.lookup k=none->eU a k w=a++[(k,w)]
 |[],_=>rfl
 | (b,v)::r,h=>by
  rw[List.lookup_cons]at h
  by_cases e:k=b
  .subst e;simp at h
  .have:(k==b)=false:=by simpa using e
   rw[this]at h;rw[eU,if_neg (fun z=>e z.symm),Fg k w r h];rfl
theorem Ss(a:(ws.map (·.1)).Nodup):kj true (ef ws) (.tuple [aK d,aK c]) [Sum.inl (d:Int),Sum.inl (c:Int)] (.str (cW w))=ef (eU ws (d,c) w):=by
 unfold kj;rw[Fe];cases h:ws.lookup (d,c) with
 |none=>rw[Fg _ _ _ h];simp[ef]
 |some v=>simp only[Option.map_some,Option.isSome_some,if_true];exact Ff d c w ws a (by rw[h];rfl)
theorem wP(k w):∀a,(eU a k w).map (·.1)=if k∈a.map (·.1) then a.map (·.1) else a.map (·.1)++[k]
 |[]=>by simp[eU]
 | (b,v)::r=>by
  rw[eU]
  by_cases e:b = k
  .subst e;simp
  .rw[if_neg e,List.map_cons,wP k w r]
   by_cases h:k∈r.map (·.1)
   .rw[if_pos h];rw[if_pos (by simp[h])];rfl
   .rw[if_neg h,if_neg (by
     simp only[List.map_cons,List.mem_cons,not_or];exact⟨fun z=>e z.symm,h⟩)];rfl
theorem wQ(d:(c.map (·.1)).Nodup):((eU c k w).map (·.1)).Nodup:=by
 rw[wP];split
 .exact d
 .rename_i h;exact List.nodup_append.mpr ⟨d,by simp,fun a f b e z=>by simp at e;subst e;subst z;exact h f⟩
theorem wR(k w a):(eU a k w).length<=a.length+1:=by have:=congrArg List.length (wP k w a);rw[List.length_map]at this;rw[this];split<;>simp
def gR(S:Hl)(r:eS):Hl:={ S with rows:=S.rows++[r],words:=eU S.words (r.dd,r.ct) r.wd,begun:=if r.wd=.begun then some (r.dd,r.ct,S.holds) else none,settled:=if r.wd=.begun then S.settled else S.settled.set r.dd (r.ct+1) }
theorem jO{v:PyData}:bI (x::y::z::v::l) 3=some v:=by unfold bI dj;rw[if_pos (by lia),if_pos (by simp<;>lia)];rfl
theorem jP{u:PyData}:bI (x::y::z::v::u::l) 4=some u:=by unfold bI dj;rw[if_pos (by lia),if_pos (by simp<;>lia)];rfl
theorem Su(S r):bK ("rows":Str) (.l (S.rows.map bW++[bW r])) (ai S)=ai { S with rows:=S.rows++[r] }:=by rw[show S.rows.map bW++[bW r]=(S.rows++[r]).map bW by simp];exact RV S _
theorem pW(j:S.rows.length<1000000)(k:S.words.length<1000000)(h:(S.words.map (·.1)).Nodup)(hd:r.dd<S.settled.length):gi C [.own true (hB C S),.dat (bW r)]=.rt (.dat (.tuple [.str (cW r.wd),aK r.dd,aK r.ct])) [hB C (gR S r)]:=by
 have sz:1000000<sizeLine:=by decide
 obtain⟨i,ru,wd,a,g⟩:=r;have b:=Ss (ws:=S.words) (d:=a) (c:=g) (w:=wd) h;have l1:(ef S.words).length<sizeLine:=by unfold ef;rw[List.length_map];lia
 have e:=Su S ⟨i,ru,wd,a,g⟩;simp only at hd;have f:dj S.settled.length (a:Int)=some a:=by unfold dj;rw[if_pos (by lia),if_pos (by lia)];simp
 have st:(S.settled.map aK).set a (.int ((g:Int)+1))=(S.settled.set a (g+1)).map aK:=by rw[List.map_set];simp[aK]
 unfold gR;cases wd
 .simp[gi,pz,jO,jP,lx,et,mI,show S.rows.length<sizeLine by lia,e,mJ,ly,pU,l1,b,sZ,cU,fF,fE,show(3:Nat)<=sizeLine by lia,mK,lA,f,st,cQ pT pT,Sl]
 .simp[gi,pz,jO,jP,lx,et,mI,show S.rows.length<sizeLine by lia,e,mJ,ly,pU,l1,b,sZ,cU,fF,fE,show(3:Nat)<=sizeLine by lia,mK,lA,f,st,cQ Sg pT,Sn];rw[<-List.map_set];exact wI _ _
 .simp[gi,pz,jO,jP,lx,et,mI,show S.rows.length<sizeLine by lia,e,mJ,ly,pU,l1,b,sZ,cU,fF,fE,show(3:Nat)<=sizeLine by lia,mK,lA,f,st,cQ Si pT,So];rw[<-List.map_set];exact wI _ _
 .simp[gi,pz,jO,jP,lx,et,mI,show S.rows.length<sizeLine by lia,e,mJ,ly,pU,l1,b,sZ,cU,fF,fE,show(3:Nat)<=sizeLine by lia,mK,lA,f,st,cQ Sj pT,Sq];rw[<-List.map_set];exact wI _ _
structure bG (S:Hl):Prop where
 z:dI S.a S.ss
 dl:S.ds.length<=6
 pl:∀d∈S.ds,nK d.plan
 sl:S.settled.length=S.ds.length
 nd:(S.words.map (·.1)).Nodup
 bg:∀d c h,S.begun=some (d,c,h)->d<S.ds.length
noncomputable def tq(S:Hl):Bool:=match S.begun with
 |some (_,_,h)=>decide (h=S.holds)
 |none=>false
theorem Fh(b:a.length=n)(d:m (a.map some++List.replicate (N - n) none)=.rt c U)(e:dU a U=some o):bm n N m a=.rt c o:=by unfold bm;rw[if_pos b,d];simp only[e]
theorem wS(a:-4611686018427387904<=j)(b:j<4611686018427387904):cu [.int j]=some (L3.intsFrom 0 j.toNat):=by show(if _ then _ else _)=_;rw[if_pos (by rw[decide_eq_true (show -(2 ^ 62)<=j by lia),decide_eq_true (show j<2 ^ 62 by lia)];rfl)]
theorem Fi:ni C [.own true (hB C S)]=.rt (.dat (.bool (tq S))) [hB C S]:=by
 unfold tq;cases h:S.begun with
 |none=>simp[ni,wc,h,gA]
 |some p=>obtain⟨d,c,k⟩:=p;simp[ni,wc,h,gA,kC]
theorem Fj{a:List bp}(h:k<a.length):aH (cD a) (.int k)=some (bF a[k]):=by
 unfold cD;have:bI (a.map bF) (k:Int)=some (bF a[k]):=by unfold bI dj;rw[if_pos (by lia),if_pos (by simp;lia)];simp[h]
 simp[aH,this]
theorem Sv{l:List Nat}(h:k<l.length):bI (l.map aK) (k:Int)=some (aK l[k]):=by unfold bI dj;rw[if_pos (by lia),if_pos (by simp;lia)];simp[h]
noncomputable def aX(S:Hl)(k:Nat):Nat:=S.settled.getD k 0
def kR(S:Hl)(k:Nat):Option (List Int):=match S.ds[k]? with
 |some d=>(bE S.a S.ss d.plan (aX S k)).map fun v=>[v,(k:Int),(aX S k:Int)]
 |none=>none
def ea(S:Hl):List (List Int):=(List.range S.ds.length).filterMap (kR S)
noncomputable abbrev aF(r:List Int):PyData:=.tuple (r.map PyData.int)
theorem wT(ok:bG S):∀n k  b  m f g,k+n=S.ds.length->b.length<=k->∃h i j,bU (av 2) (lG C) (L3.intsFrom (k:Int) n) [some (.own true (hB C S)),some (.own false (.l (b.map aF))),m,f,g]=.nx [some (.own true (hB C S)),some (.own false (.l ((b++(List.range' k n).filterMap (kR S)).map aF))),h,i,j]
 |0,k,b,m,f,g,_,_=>⟨m,f,g,by simp[L3.intsFrom,bU]⟩
 |n+1,k,b,m,f,g,w,x=>by
  have sz:1000<sizeLine:=by decide
  have d:k<S.ds.length:=by lia
  have q:k<S.settled.length:=by rw[ok.sl];exact d
  have dl:=ok.dl;have s:nK (S.ds[k]).plan:=ok.pl _ (List.getElem_mem d);have t:aX S k=S.settled[k]:=by unfold aX;rw[List.getD_eq_getElem?_getD,List.getElem?_eq_getElem q];rfl
  have rt:=wL (a:=S.a) (ss:=S.ss) (p:=(S.ds[k]).plan) (c:=S.settled[k]) ok.z.len s;have as:=Sv (l:=S.settled) q;have u:kR S k=(bE S.a S.ss (S.ds[k]).plan S.settled[k]).map fun v=>[v,(k:Int),((S.settled[k]:Nat):Int)]:=by unfold kR;rw[List.getElem?_eq_getElem d,<-t]
  rw[nI,bU,List.range'_succ,List.filterMap_cons,u];cases r:bE S.a S.ss (S.ds[k]).plan S.settled[k]with
  |none=>
   rw[r]at rt;have e:lG C [some (.own true (hB C S)),some (.own false (.l (b.map aF))),some (.dat (.int k)),f,g]=.nx [some (.own true (hB C S)),some (.own false (.l (b.map aF))),some (.dat (.int k)),some (.dat (aK S.settled[k])),some (.dat .none)]:=by simp[-aH,lG,oI,et,as,Fj d];simp[rt,cy]
   obtain⟨h,i,j,o⟩:=wT ok n (k+1) b (some (.dat (.int k))) (some (.dat (aK S.settled[k]))) (some (.dat .none)) (by lia) (by lia);refine⟨h,i,j,?_⟩;simp only[Option.map_none];rw[<-o];simp[e]
  |some v=>
   rw[r]at rt;have e:lG C [some (.own true (hB C S)),some (.own false (.l (b.map aF))),some (.dat (.int k)),f,g]=.nx [some (.own true (hB C S)),some (.own false (.l ((b++[[v,(k:Int),((S.settled[k]:Nat):Int)]]).map aF))),some (.dat (.int k)),some (.dat (aK S.settled[k])),some (.dat (.int v))]:=by simp[-aH,lG,oI,et,as,Fj d];simp[rt,cy,show b.length<sizeLine by lia,show(3:Nat)<=sizeLine by lia]
   obtain⟨h,i,j,o⟩:=wT ok n (k+1) (b++[[v,(k:Int),((S.settled[k]:Nat):Int)]]) (some (.dat (.int k))) (some (.dat (aK S.settled[k]))) (some (.dat (.int v))) (by lia) (by simp;lia);refine⟨h,i,j,?_⟩;simp only[Option.map_some];rw[List.append_assoc,List.singleton_append]at o;rw[<-o];simp[e]
theorem Fk:∀a,ic (a.map PyData.int)=some a
 |[]=>rfl
 |n::a=>by rw[List.map_cons,ic,Fk a];rfl
theorem tu:∀a,iR (a.map aF)=some a
 |[]=>rfl
 |r::a=>by rw[List.map_cons,iR,Fk,tu a]
def jQ:List (List Int)->PyData
 |[]=>.none
 |r::a=>aF (ek a r)
theorem Sw:(dB fz (az (cp C 0 "deeds") aT)) [some (.own true (hB C S)),some (.own false (.l [])),none,none,none]=.ok (.int S.ds.length) [some (.own true (hB C S)),some (.own false (.l [])),none,none,none]:=by simp[cD]
theorem Sx(h:U[1]? = some (some (.own false (.l (a.map aF))))):ie 1 U=.ok (jQ a) U:=by unfold ie mC;rw[h];simp only[tu];cases a<;>rfl
theorem Sy(h:0<=n)(i:n<=1000)(c:m U=.ok (.int n) U)(d:bU g b (L3.intsFrom 0 n.toNat) U=.nx a):fC (er cu (az m aT)) g b U=.nx a:=by
 have e:(az m aT) U=.ok [.int n] U:=by show fu.bind (m U) _=_;rw[c];rfl
 have f:er cu (az m aT) U=.ok (L3.intsFrom 0 n.toNat) U:=by show fu.bind ((az m aT) U) _=_;rw[e];show L3.lift (cu [.int n]) U=_;rw[wS (by lia) (by lia)];rfl
 show dD (er cu (az m aT) U) _=_;rw[f];exact d
theorem Sz(ok:bG S):wv C [.own true (hB C S)]=.rt (.dat (jQ (ea S))) [hB C S]:=by
 have dl:=ok.dl;obtain⟨a,b,c,g⟩:=wT (C:=C) ok S.ds.length 0 [] none none none (by lia) (by simp);rw[List.nil_append,<-List.range_eq_range']at g;change bU _ _ (L3.intsFrom 0 S.ds.length) [_,some (.own false (.l [])),_,_,_]=eF.nx [_,some (.own false (.l ((ea S).map aF))),_,_,_]at g;have d:=Sy (m:=dB fz (az (cp C 0 "deeds") aT)) (by lia) (by lia) (Sw (C:=C) (S:=S)) (by rw[Int.toNat_natCast];exact g);have e:jx 1 (jB aT) [some (.own true (hB C S)),none,none,none,none]=.nx [some (.own true (hB C S)),some (.own false (.l [])),none,none,none]:=by simp
 have f:br (ie 1) [some (.own true (hB C S)),some (.own false (.l ((ea S).map aF))),a,b,c]=.rt (.dat (jQ (ea S))) [some (.own true (hB C S)),some (.own false (.l ((ea S).map aF))),a,b,c]:=by show dD (ie 1 _) _=_;rw[Sx rfl];rfl
 have h:(ay (jx 1 (jB aT)) (ay (fC (er cu (az (dB fz (az (cp C 0 "deeds") aT)) aT)) (av 2) (lG C)) (br (ie 1)))) [some (.own true (hB C S)),none,none,none,none]=.rt (.dat (jQ (ea S))) [some (.own true (hB C S)),some (.own false (.l ((ea S).map aF))),a,b,c]:=by rw[wF e,wF d,f]
 exact Fh (n:=1) (N:=5) rfl h rfl
theorem wU:∀a  r,ek a r=r\/ek a r∈a
 |[],r=>.inl rfl
 |x::a,r=>by
  rw[ek];rcases wU a (if HT.lexLt x r=true then x else r) with h |h
  .rw[h];split
   .exact .inr List.mem_cons_self
   .exact .inl rfl
  .exact .inr (bq _ h)
theorem kS(a):cD a=.tuple (a.map bF):=by unfold cD;rfl
theorem tw{a:List bp}(h:k<a.length):bI (a.map bF) (k:Int)=some (bF a[k]):=by unfold bI dj;rw[if_pos (by lia),if_pos (by simp;lia)];simp[h]
theorem Fm(h:x∈ea S):∃k v,∃c,bE S.a S.ss (S.ds[k]).plan (aX S k)=some v/\x=[v,(k:Int),(aX S k:Int)]:=by unfold ea at h;obtain⟨k,c,e⟩:=List.mem_filterMap.mp h;have b:=List.mem_range.mp c;unfold kR at e;rw[List.getElem?_eq_getElem b]at e;obtain⟨v,d,f⟩:=Option.map_eq_some_iff.mp e;exact⟨k,v,b,d,f.symm⟩
def fG(S:Hl):Option (Int×Nat):=match ea S with
 |[]=>none
 |x::a=>(match ek a x with
  |[v,k,_]=>some (v,k.toNat)
  |_=>none)
theorem wV(h:fG S=none):ea S=[]:=by
 unfold fG at h;cases a:ea S with
 |nil=>rfl
 |cons x b=>
  rw[a]at h;have c:ek b x∈ea S:=by
   rw[a];rcases wU b x with e |e
   .rw[e];exact List.mem_cons_self
   .exact bq _ e
  obtain⟨k,v,d,_,e⟩:=Fm c;simp only[e]at h;cases h
theorem tx(h:fG S=some (v,k)):∃d,bE S.a S.ss (S.ds[k]).plan (aX S k)=some v/\∃x b,ea S=x::b/\ek b x=[v,(k:Int),(aX S k:Int)]:=by
 unfold fG at h;cases c:ea S with
 |nil=>rw[c]at h;cases h
 |cons x b=>
  rw[c]at h;have f:ek b x∈ea S:=by
   rw[c];rcases wU b x with e |e
   .rw[e];exact List.mem_cons_self
   .exact bq _ e
  obtain⟨i,j,d,g,e⟩:=Fm f;simp only[e,Option.some.injEq,Prod.mk.injEq,Int.toNat_natCast]at h;obtain⟨rfl,rfl⟩:=h;exact⟨d,g,x,b,rfl,e⟩
def kT(S:Hl)(r m:Int):Hl×PyData:=match fG S with
 |none=>(S,.tuple [.str "idle",.none])
 |some (v,k)=>if m<v then(S,.tuple [.str "idle",.int v]) else
  (match S.ds[k]? with
  |some d=>(gR S ⟨m,r,if lL S.a S.ss d (aX S k) m=true then .left else .begun,k,aX S k⟩,.tuple [.str (cW (if lL S.a S.ss d (aX S k) m=true then .left else .begun)),aK k,aK (aX S k)])
  |none=>(S,.none))
theorem SA(ok:bG S)(j:S.rows.length<1000000)(l:S.words.length<1000000):lI C [.own true (hB C S),.dat (.int r),.dat (.int m)]=.rt (.dat (kT S r m).2) [hB C (kT S r m).1]:=by
 have sz:1000000<sizeLine:=by decide
 have b:=Sz (C:=C) ok;unfold kT;cases n:fG S with
 |none=>rw[wV n]at b;simp[lI,pG,dO,b,jQ,show(2:Nat)<=sizeLine by lia]
 |some p=>
  obtain⟨v,k⟩:=p;obtain⟨g,q,x,t,s,e⟩:=tx n;rw[s,jQ,e]at b;simp only[aF,List.map_cons,List.map_nil]at b
  by_cases h:m<v
  .simp[lI,pG,dO,b,h,show(2:Nat)<=sizeLine by lia]
  .have lo:=Sr (a:=S.a) (ss:=S.ss) (d:=S.ds[k]) (c:=aX S k) (now:=m) ok.z.len (ok.pl _ (List.getElem_mem g)) ⟨v,q⟩;simp only[List.getElem?_eq_getElem g];rw[if_neg h];cases o:lL S.a S.ss S.ds[k] (aX S k) m with
   |true=>rw[o]at lo;have i:=pW (C:=C) (S:=S) (r:=⟨m,r,.left,k,aX S k⟩) j l ok.nd (by rw[ok.sl];exact g);have f:gi C [.own true (hB C S),.dat (.tuple [.int m,.int r,.str "left",.int k,.int (aX S k)])]=.rt (.dat (.tuple [.str "left",.int k,.int (aX S k)])) [hB C (gR S ⟨m,r,.left,k,aX S k⟩)]:=i;simp[lI,pG,dO,cw,dY,b,kS,tw g,lo,h,f,show(5:Nat)<=sizeLine by lia]
   |false=>rw[o]at lo;have i:=pW (C:=C) (S:=S) (r:=⟨m,r,.begun,k,aX S k⟩) j l ok.nd (by rw[ok.sl];exact g);have f:gi C [.own true (hB C S),.dat (.tuple [.int m,.int r,.str "begun",.int k,.int (aX S k)])]=.rt (.dat (.tuple [.str "begun",.int k,.int (aX S k)])) [hB C (gR S ⟨m,r,.begun,k,aX S k⟩)]:=i;simp[lI,pG,dO,cw,dY,b,kS,tw g,lo,h,f,show(5:Nat)<=sizeLine by lia]
def tz(S:Hl)(r m:Int)(d c:Nat):Hl×PyData:=match S.ds[d]? with
 |some x=>(gR S ⟨m,r,if x.again=true then .begun else .unsure,d,c⟩,.tuple [.str (cW (if x.again=true then .begun else .unsure)),aK d,aK c])
 |none=>(S,.none)
theorem SD(ok:bG S)(f:S.rows.length<1000000)(g:S.words.length<1000000)(e:S.begun=some (d,c,h)):pD C [.own true (hB C S),.dat (.int r),.dat (.int m)]=.rt (.dat (tz S r m d c).2) [hB C (tz S r m d c).1]:=by
 have sz:1000000<sizeLine:=by decide
 have hd:=ok.bg d c h e;unfold tz;simp only[List.getElem?_eq_getElem hd];cases i:(S.ds[d]).again with
 |true=>have b:=pW (C:=C) (S:=S) (r:=⟨m,r,.begun,d,c⟩) f g ok.nd (by rw[ok.sl];exact hd);have a:gi C [.own true (hB C S),.dat (.tuple [.int m,.int r,.str "begun",.int d,.int c])]=.rt (.dat (.tuple [.str "begun",.int d,.int c])) [hB C (gR S ⟨m,r,.begun,d,c⟩)]:=b;simp[pD,wn,cw,dY,e,gA,kS,tw hd,i,a,show(5:Nat)<=sizeLine by lia]
 |false=>have b:=pW (C:=C) (S:=S) (r:=⟨m,r,.unsure,d,c⟩) f g ok.nd (by rw[ok.sl];exact hd);have a:gi C [.own true (hB C S),.dat (.tuple [.int m,.int r,.str "unsure",.int d,.int c])]=.rt (.dat (.tuple [.str "unsure",.int d,.int c])) [hB C (gR S ⟨m,r,.unsure,d,c⟩)]:=b;simp[pD,wn,cw,dY,e,gA,kS,tw hd,i,a,show(5:Nat)<=sizeLine by lia]
theorem bG.last(ok:bG S)(x):bG { S with last:=x }:=⟨ok.z,ok.dl,ok.pl,ok.sl,ok.nd,ok.bg⟩
def jR(S:Hl)(r m:Int):Hl×PyData:=match S.begun with
 |some (d,c,h)=>if h=S.holds then({ S with last:=some m },.tuple [.str "busy",aK d,aK c]) else tz { S with last:=some m } r m d c
 |none=>kT { S with last:=some m } r m
theorem SE(ok:bG S)(f:S.rows.length<1000000)(g:S.words.length<1000000)(b:kz C [.own true (hB C S),.dat (.int r),.dat (.int m)]=.rt (.dat .none) [hB C S]):kA C [.own true (hB C S),.dat (.int r),.dat (.int m)]=.rt (.dat (jR S r m).2) [hB C (jR S r m).1]:=by
 have sz:1000000<sizeLine:=by decide
 have a:=Fi (C:=C) (S:={ S with last:=some m });unfold tq at a;unfold jR;cases hb:S.begun with
 |none=>have i:=SA (C:=C) (S:={ S with last:=some m }) (r:=r) (m:=m) (ok.last _) f g;simp only[hb]at a i ⊢;simp[kA,sG,cw,dO,dY,b,cU,fF,fE,a,hb,gA,i]
 |some p=>
  obtain⟨d,c,h⟩:=p;have j:=SD (C:=C) (S:={ S with last:=some m }) (r:=r) (m:=m) (ok.last _) f g hb;simp only[hb]at a j ⊢
  by_cases e:h=S.holds
  .rw[if_pos e];rw[decide_eq_true e]at a;simp[kA,sG,cw,dO,dY,b,cU,fF,fE,a,hb,gA,show(3:Nat)<=sizeLine by lia]
  .rw[if_neg e];rw[decide_eq_false e]at a;simp[kA,sG,cw,dO,dY,b,cU,fF,fE,a,hb,gA,j]
theorem SF(ok:bG S)(f:S.rows.length<1000000)(g:S.words.length<1000000)(i:kz C [.own true (hB C S),.dat (.int r),.dat (.int m)]=.rt (.dat .none) [hB C S])(e:S.begun=some (d,c,S.holds)):pH C [.own true (hB C S),.dat (.int r),.dat (.int m)]=.rt (.dat (.tuple [.str "done",aK d,aK c])) [hB C (gR { S with last:=some m } ⟨m,r,.done,d,c⟩)]:=by
 have sz:1000000<sizeLine:=by decide
 have b:=Fi (C:=C) (S:=S);unfold tq at b;rw[e]at b;simp only[decide_true]at b;have hd:=ok.bg d c _ e;have h:=pW (C:=C) (S:={ S with last:=some m }) (r:=⟨m,r,.done,d,c⟩) f g ok.nd (by show d<S.settled.length;rw[ok.sl];exact hd);have a:gi C [.own true (hB C { S with last:=some m }),.dat (.tuple [.int m,.int r,.str "done",.int d,.int c])]=.rt (.dat (.tuple [.str "done",.int d,.int c])) [hB C (gR { S with last:=some m } ⟨m,r,.done,d,c⟩)]:=h;simp only[e]at a;simp[pH,Cs,cw,dO,dY,i,b,cU,fF,fE,e,gA,a,show(5:Nat)<=sizeLine by lia]
@[simp]theorem VX:cq "tuple" "str" = some false:=by decide
@[simp]theorem VY:cq "tuple" "bool" = some false:=by decide
@[simp]theorem VZ:cq "tuple" "list" = some false:=by decide
@[simp]theorem Wa:cq "list" "str" = some false:=by decide
@[simp]theorem Wb:cq "list" "bool" = some false:=by decide
@[simp]theorem Wc:cq "list" "list" = some true:=by decide
@[simp]theorem We:cq "NoneType" "str" = some false:=by decide
@[simp]theorem Wf:cq "NoneType" "bool" = some false:=by decide
@[simp]theorem Wg:cq "NoneType" "list" = some false:=by decide
@[simp]theorem Wh:cq "int" "str" = some false:=by decide
@[simp]theorem Wi:cq "int" "list" = some false:=by decide
@[simp]theorem Wj:cq "bool" "str" = some false:=by decide
@[simp]theorem Wl:cq "bool" "list" = some false:=by decide
@[simp]theorem Wm:cq "str" "bool" = some false:=by decide
@[simp]theorem Wn:cq "str" "list" = some false:=by decide
theorem SG(h:PyData.strOk x=true)(a):SeqAt.shaped (.tuple [.str x,.int a])=true:=by unfold SeqAt.shaped;simp[PyData.canLay0,PyData.canLayAll0,PyData.depth,PyData.depthAll,h]
theorem SH:SeqAt.shaped (.tuple [.str "idle",.none])=true:=by unfold SeqAt.shaped;simp[PyData.canLay0,PyData.canLayAll0,PyData.depth,PyData.depthAll,Sk]
def lM:jN->Prop
 |.within n=>0<=n/\n<=999
 |_=>True
theorem SI(ok:lM x):nq [.dat (ET x)]=.rt (.dat (.bool true)) []:=by
 cases x with
 |all=>simp[nq,rW,cQ kQ kQ,Fb]
 |last=>simp[nq,rW,cQ iY kQ,cQ iY iY,wN,wO]
 |within n=>
  have a:(("within":Str)==("within":Str))=true:=by decide +kernel
  simp[nq,rW,lK wM wM,a,jM (d:=.int n) rfl,cC,ok.1,ok.2]
theorem SJ(a:ca d.plan)(b:lM d.late):sf [.dat (bF d)]=.rt (.dat (.bool true)) []:=by have h1:=EL a;have h2:=SI b;simp[sf,Cg,pM,fR,h1,h2]
theorem Fo:∀(b:List bp)  a (U:ak),(∃x,U=[x])->(∀d∈b,ca d.plan/\lM d.late)->a.length+b.length<=sizeLine->bD (av 0) cO si (b.map bF) a U=some (a++(b.map fun _=>PyData.bool true))
 |[],a,U,_,_,_=>by simp[bD]
 |d::b,a,U,⟨x,c⟩,h,e=>by
  subst c;simp only[List.length_cons]at e;have hd:=h d List.mem_cons_self;have f:=Fo b (a++[.bool true]) [some (.dat (bF d))] ⟨_,rfl⟩ (fun x c=>h x (bq _ c)) (by simp;lia);have g:si [some (.dat (bF d))]=.ok (.bool true) [some (.dat (bF d))]:=by simp[si,SJ hd.1 hd.2]
  rw[List.map_cons,bD];simp[cO,g,show a.length<sizeLine by lia,f]
theorem Fp:∀n,bools? (List.replicate n (PyData.bool true))=some (List.replicate n true)
 |0=>rfl
 |n+1=>by rw[List.replicate_succ,bools?,Fp n];rfl
theorem wW(b:ds.length<=6)(h:∀d∈ds,ca d.plan/\lM d.late):lH [.dat (cD ds)]=.rt (.dat .none) []:=by
 have sz:1000<sizeLine:=by decide
 have g:=Fo ds [] [none] ⟨_,rfl⟩ h (by simp;lia);rw[List.nil_append,List.map_const']at g;have a:mu [.list (List.replicate ds.length (PyData.bool true))]=some (.bool true):=by simp[mu,Fp]
 unfold cD;simp[-mu,lH,Cq,wu,Cm,g,a,show ¬ (6:Int)<ds.length by lia,show ds.length<=sizeLine by lia]
noncomputable def gl:Nat->List PyData->List PyData
 |_,[]=>[]
 |k,d::ds=>.tuple [.int k,d]::gl (k+1) ds
theorem Fq:∀a  k,(a.mapIdx fun i d=>PyData.tuple [.int ((i+k:Nat):Int),d])=gl k a
 |[],_=>rfl
 |d::a,k=>by
  rw[List.mapIdx_cons,gl,<-Fq a (k+1),Nat.zero_add]
  congr 1
  apply List.ext_getElem?;intro i;simp only[List.getElem?_mapIdx]
  congr 1
  funext x;rw[show i+1+k=i+(k+1) by lia]
theorem wX(a:List PyData):numbered a=gl 0 a:=by rw[<-Fq];rfl
def fH(a:Int)(b:Sh)(first:Int)(un:aU->Nat):Nat->List bp->List (List Int)
 |_,[]=>[]
 |i,d::ds=>((iV a b d.plan first (un d.plan)).map fun c=>[dZ a b d.plan c,(i:Int),(c:Int)])++fH a b first un (i+1) ds
theorem Fs(z:dI a b)(c:last<=9999):∃un:aU->Nat,∀p,ca p->bM a b p last (un p):=by refine⟨fun p=>Classical.epsilon fun n=>bM a b p last n,fun p ok=>?_⟩;exact Classical.epsilon_spec (Qt z ok c)
theorem Ft:∀b  i,∀r∈fH a e first un i b,∃x y w,r=[x,y,w]
 |[],_,r,h=>by cases h
 |d::b,i,r,h=>by
  rw[fH]at h;rcases List.mem_append.mp h with h |h
  .obtain⟨c,_,rfl⟩:=List.mem_map.mp h;exact⟨_,_,_,rfl⟩
  .exact Ft b (i+1) r h
theorem SK(h:∀r∈L,r≠[]):mV [.list (L.map aF)]=some (.list ((TS.sortR L).map aF)):=by
 unfold mV;dsimp only;cases L with
 |nil=>unfold oZ;simp[ic,vS,TS.sortR]
 |cons r L=>
  have e:ic ((r::L).map aF)=none:=by rw[List.map_cons];rfl
  have a:((r::L).all fun r=>!r.isEmpty)=true:=by
   rw[List.all_eq_true];intro x b;have:=h x b;cases x with
   |nil=>exact absurd rfl this
   |cons _ _=>rfl
  unfold oZ;rw[e,tu];simp only[a,if_true,Option.map_some]
theorem wY(l:List Int):PyData.canLayAll0 (l.map PyData.int)=true:=by induction l with |nil=>rfl |cons x r a=>simpa[PyData.canLayAll0,PyData.canLay0] using a
theorem wZ(l:List Int):PyData.depthAll (l.map PyData.int)=0:=by induction l with |nil=>rfl |cons x r a=>simpa[PyData.depthAll,PyData.depth] using a
theorem SL(L:List (List Int)):PyData.canLayAll0 (L.map aF)=true:=by induction L with |nil=>rfl |cons x r a=>simpa[PyData.canLayAll0,PyData.canLay0,wY] using a
theorem SN(L:List (List Int)):PyData.depthAll (L.map aF)<=1:=by induction L with |nil=>exact Nat.zero_le _ |cons x r a=>simp[PyData.depthAll,PyData.depth,wZ];lia
theorem SO(r):SeqAt.shaped (aF r)=true:=by unfold SeqAt.shaped;simp[PyData.canLay0,PyData.depth,wY,wZ]
theorem SQ(L:List (List Int)):SeqAt.shaped (.list (L.map aF))=true:=by have:=SN L;unfold SeqAt.shaped;rw[show PyData.canLay0 (.list (L.map aF))=true by simp[PyData.canLay0,SL],Bool.true_and,decide_eq_true_eq,PyData.depth];lia
theorem Fu:∀(l:List Nat)  d  e f,d.length+l.length<=500000->∃g j,bU (cJ 2 (bt (av 7) (bt (av 8) cI))) sx (l.map (pR a ss p)) [z0,z1,z2,z3,some (.own false (.l d)),some (.dat (.int i)),z6,e,f]=.nx [z0,z1,z2,z3,some (.own false (.l (d++(l.map fun c=>aF [dZ a ss p c,i,(c:Int)])))),some (.dat (.int i)),z6,g,j]
 |[],d,e,f,_=>⟨e,f,by simp[bU]⟩
 |c::l,d,e,f,h=>by
  have sz:1000000<sizeLine:=by decide
  simp only[List.length_cons]at h;obtain⟨g,j,k⟩:=Fu (z0:=z0) (z1:=z1) (z2:=z2) (z3:=z3) (z6:=z6) (a:=a) (ss:=ss) (p:=p) (i:=i) l (d++[aF [dZ a ss p c,i,(c:Int)]]) (some (.dat (.int c))) (some (.dat (.int (dZ a ss p c)))) (by simp;lia);refine⟨g,j,?_⟩;rw[List.map_cons,bU];rw[List.append_assoc,List.singleton_append]at k;rw[List.map_cons,<-k];have b:sx [z0,z1,z2,z3,some (.own false (.l d)),some (.dat (.int i)),z6,some (.dat (.int c)),some (.dat (.int (dZ a ss p c)))]=.nx [z0,z1,z2,z3,some (.own false (.l (d++[aF [dZ a ss p c,i,(c:Int)]]))),some (.dat (.int i)),z6,some (.dat (.int c)),some (.dat (.int (dZ a ss p c)))]:=by simp[sx,show d.length<sizeLine by lia]
  simp only[cJ,bt,av,cI,List.length_cons,List.length_nil,if_true,Option.bind,List.set_cons_succ,List.set_cons_zero,b]
theorem Fv(z:dI a g)(w:0<=first/\first<=9999)(y:0<=last/\last<=9999)(A:∀p,ca p->bM a g p last (un p)):∀m  i  e  o q j k,(∀d∈m,ca d.plan)->e.length+20000 * m.length<=500000->∃r s t v,bU (cJ 2 (bt (av 5) (bt (av 6) cI))) sy (gl i (m.map bF)) [some (.dat (bB a g)),z1,some (.dat (.int first)),some (.dat (.int last)),some (.own false (.l e)),o,q,j,k]=.nx [some (.dat (bB a g)),z1,some (.dat (.int first)),some (.dat (.int last)),some (.own false (.l (e++(fH a g first un i m).map aF))),r,s,t,v]
 |[],i,e,o,q,j,k,_,_=>⟨o,q,j,k,by simp[bU,gl,fH]⟩
 |d::m,i,e,o,q,j,k,h,E=>by
  simp only[List.length_cons]at E;have B:=h d List.mem_cons_self;have u:=A d.plan B;have rd:=RN z B w y u;have l1:=Qw (a:=a) (f:=first) (ss:=g) (p:=d.plan) (n:=un d.plan);have l2:=u.le;obtain⟨C,D,G⟩:=Fu (z0:=some (.dat (bB a g))) (z1:=z1) (z2:=some (.dat (.int first))) (z3:=some (.dat (.int last))) (z6:=some (.dat (bF d))) (a:=a) (ss:=g) (p:=d.plan) (i:=(i:Int)) (iV a g d.plan first (un d.plan)) e j k (by lia);obtain⟨r,s,t,v,H⟩:=Fv (z1:=z1) z w y A m (i+1) (e++((iV a g d.plan first (un d.plan)).map fun c=>aF [dZ a g d.plan c,(i:Int),(c:Int)])) (some (.dat (.int i))) (some (.dat (bF d))) C D (fun x I=>h x (bq _ I)) (by simp;lia);refine⟨r,s,t,v,?_⟩;rw[List.map_cons,gl,bU,fH,List.map_append,List.map_map,<-List.append_assoc];have J:(aF∘fun c:Nat=>[dZ a g d.plan c,(i:Int),(c:Int)])=fun c:Nat=>aF [dZ a g d.plan c,(i:Int),(c:Int)]:=rfl;rw[J,<-H];have b:sy [some (.dat (bB a g)),z1,some (.dat (.int first)),some (.dat (.int last)),some (.own false (.l e)),some (.dat (.int i)),some (.dat (bF d)),j,k]=.nx [some (.dat (bB a g)),z1,some (.dat (.int first)),some (.dat (.int last)),some (.own false (.l (e++((iV a g d.plan first (un d.plan)).map fun c=>aF [dZ a g d.plan c,(i:Int),(c:Int)])))),some (.dat (.int i)),some (.dat (bF d)),C,D]:=by rw[<-G];simp[sy,rd]
  simp only[cJ,bt,av,cI,List.length_cons,List.length_nil,if_true,Option.bind,List.set_cons_succ,List.set_cons_zero,b]
theorem SR(z:dI a c)(f:0<=first/\first<=9999)(g:0<=last/\last<=9999)(h:∀p,ca p->bM a c p last (un p))(hd:∀d∈b,ca d.plan)(j:b.length<=6) :
  sA [.dat (bB a c),.dat (cD b),.dat (.int first),.dat (.int last)]=.rt (.dat (.list ((TS.sortR (fH a c first un 0 b)).map aF))) []:=by
 obtain⟨k,l,m,n,e⟩:=Fv (z1:=some (.dat (.tuple (b.map bF)))) z f g h b 0 [] none none none none hd (by simp;lia);have ns:=SK (L:=fH a c first un 0 b) fun r i=>by obtain⟨_,_,_,rfl⟩:=Ft b 0 r i;simp
 rw[List.nil_append]at e;unfold cD;simp[sA,Ct,wX,e,ns]
theorem SS(a:0<=first/\first<=last)(b:last<=9999):sh [.dat (.int first),.dat (.int last)]=.rt (.dat .none) []:=by simp[sh,Cj,lJ (d:=.int first) rfl,lJ (d:=.int last) rfl,cC,a.1,show first<=9999 by lia,show 0<=last by lia,b,show ¬ last<first by lia]
theorem SU(z:dI a c)(e:0<=first/\first<=last)(f:last<=9999)(hd:∀d∈b,ca d.plan/\lM d.late)(g:b.length<=6):sC [.dat (bB a c),.dat (cD b),.dat (.int first),.dat (.int last)]=.rt (.dat .none) []:=by simp[sC,Cu,sS z,wW g hd,SS e f]
theorem SV(z:dI a b)(e:0<=first/\first<=last)(f:last<=9999)(h:∀p,ca p->bM a b p last (un p))(hd:∀d∈ds,ca d.plan/\lM d.late)(g:ds.length<=6) :
  sH [.dat (bB a b),.dat (cD ds),.dat (.int first),.dat (.int last)]=.rt (.dat (.list ((TS.sortR (fH a b first un 0 ds)).map aF))) []:=by
 simp[sH,Cy,SU z e f hd g,SR z ⟨e.1,by lia⟩ ⟨by lia,f⟩ h (fun d c=>(hd d c).1) g]
theorem xa:∀c  b,∀r∈b::c,TS.lexLe (ek c b) r=true
 |[],b,r,h=>by simp only[List.mem_cons,List.not_mem_nil,or_false]at h;subst h;have:=TS.lexLe_tt r r;simpa[ek] using this
 |x::c,b,r,h=>by
  rw[ek];have e:=xa c (if HT.lexLt x b=true then x else b);have hb:=e _ List.mem_cons_self;have a:TS.lexLe (if HT.lexLt x b=true then x else b) b=true/\TS.lexLe (if HT.lexLt x b=true then x else b) x=true:=by
   by_cases q:HT.lexLt x b=true
   .rw[if_pos q];have t:=TS.lexLe_tt x b;have f:TS.lexLe b x=false:=by unfold TS.lexLe;rw[q];rfl
    rw[f,Bool.or_false]at t;have d:=TS.lexLe_tt x x;exact⟨t,by simpa using d⟩
   .rw[if_neg q];have d:=TS.lexLe_tt b b;exact⟨by simpa using d,by unfold TS.lexLe;simpa using q⟩
  rcases List.mem_cons.mp h with rfl |h
  .exact TS.lexLe_tr _ _ _ hb a.1
  .rcases List.mem_cons.mp h with rfl |h
   .exact TS.lexLe_tr _ _ _ hb a.2
   .exact e r (bq _ h)
abbrev T3:=Int×Nat×Nat
noncomputable def tr(t:T3):List Int:=[t.1,(t.2.1:Int),(t.2.2:Int)]
theorem SW(h:tr x=tr y):x=y:=by obtain⟨a,b,c⟩:=x;obtain⟨d,e,f⟩:=y;simp only[tr,List.cons.injEq,Int.natCast_inj,and_true]at h;obtain⟨rfl,rfl,rfl⟩:=h;rfl
def tm(S:Hl)(k c:Nat):Option Int:=match S.ds[k]? with
 |some d=>bE S.a S.ss d.plan c
 |none=>none
theorem SX(z:dI a g)(ok:ca p)(h:c<=d)(b:bE a g p d=some w):∃v,bE a g p c=some v/\v<=w:=by
 have:∃v,bE a g p c=some v:=by
  cases p with
  |once m=>
   rw[bE]at b ⊢
   by_cases e:d=0
   .exact⟨m,by rw[if_pos (by lia)]⟩
   .rw[if_neg e]at b;cases b
  |every f s=>exact⟨_,rfl⟩
  |daily h=>exact⟨_,rfl⟩
 obtain⟨v,i⟩:=this;exact⟨v,i,BG z ok h i b⟩
theorem Fw(ok:bG S)(h:c<=d)(a:tm S k d=some w):k<S.ds.length/\∃v,tm S k c=some v/\v<=w:=by
 unfold tm at a ⊢
 by_cases b:k<S.ds.length
 .rw[List.getElem?_eq_getElem b]at a ⊢;exact⟨b,SX ok.z (ok.pl _ (List.getElem_mem b)).plan h a⟩
 .rw[List.getElem?_eq_none (by lia)]at a;cases a
structure Pl (S:Hl) (m:Int) (L:List T3):Prop where
 ok:bG S
 al:∀d∈S.ds,d.late=.all
 bg:S.begun=none
 so:(L.map tr).Pairwise fun x y=>TS.lexLe x y=true
 nd:L.Nodup
 mem:∀v k c,(v,k,c)∈L↔c<aX S k/\tm S k c=some v
 ful:∀k c,c<aX S k->∃v,tm S k c=some v/\v<=m
 lo:∀y∈L,∀v k c,aX S k<=c->tm S k c=some v->TS.lexLe (tr y) (tr (v,k,c))=true
 sm:L.length=S.settled.sum
 ro:S.rows.map (fun r=>(r.wd,r.dd,r.ct))=L.flatMap fun t=>[(.begun,t.2.1,t.2.2),(.done,t.2.1,t.2.2)]
 wl:S.words.length<=2 * L.length
theorem Pl.mono(p:Pl S m L)(h:m<=a):Pl S a L:=
 ⟨p.ok,p.al,p.bg,p.so,p.nd,p.mem,fun k c b=>by obtain⟨v,e,d⟩:=p.ful k c b;exact⟨v,e,by lia⟩,p.lo,p.sm,p.ro,p.wl⟩
theorem Pl.rl(p:Pl S m L):S.rows.length=2 * L.length:=by
 have h:=congrArg List.length p.ro;rw[List.length_map,List.length_flatMap]at h;rw[h];have:∀l:List T3,(l.map fun t=>[((.begun:Wd),t.2.1,t.2.2),((.done:Wd),t.2.1,t.2.2)].length).sum=2 * l.length:=fun l=>by
  induction l with
  |nil=>rfl
  |cons x l a=>simp only[List.map_cons,List.sum_cons,List.length_cons,List.length_nil]at a ⊢;lia
 exact this L
theorem xb(h:v<=a)(d:c<=b):TS.lexLe (tr (v,k,c)) (tr (a,k,b))=true:=by
 unfold TS.lexLe tr;simp[HT.lexLt];split
 .intro _;exact d
 .exact h
theorem Fy(x):∀(l:List Nat)  k  h,l[k]+1=x->(l.set k x).sum=l.sum+1
 |[],k,h,_=>absurd h (Nat.not_lt_zero k)
 |y::l,0,h,e=>by simp only[List.getElem_cons_zero]at e;simp[List.set,<-e];lia
 |y::l,k+1,h,e=>by have:=Fy x l k (by simpa using h) (by simpa using e);simp[List.set,this];lia
theorem Fz(b):∀l:List Nat,(∀x∈l,x<=b)->l.sum<=b * l.length
 |[],_=>bb _
 |x::l,h=>by have:=Fz b l fun y a=>h y (bq _ a);have c:=h x List.mem_cons_self;simp only[List.sum_cons,List.length_cons,Nat.mul_add,Nat.mul_one];lia
theorem FC(h:tm S k (aX S k)=some v):tr (v,k,aX S k)∈ea S:=by
 unfold tm at h;have a:k<S.ds.length:=by
  by_cases q:k<S.ds.length
  .exact q
  .rw[List.getElem?_eq_none (by lia)]at h;cases h
 unfold ea;refine List.mem_filterMap.mpr ⟨k,List.mem_range.mpr a,?_⟩;unfold kR;rw[List.getElem?_eq_getElem a]at h ⊢;simp only at h ⊢;rw[h];rfl
abbrev jS(S:Hl)(m:Int)(k:Nat):Hl:=gR { S with last:=some m } ⟨m,0,.begun,k,aX S k⟩
abbrev pX(S:Hl)(m:Int)(k:Nat):Hl:=gR { jS S m k with last:=some m } ⟨m,0,.done,k,aX S k⟩
theorem Pl.step(p:Pl S m L)(h:fG S=some (v,k))(O:v<=m) :
  jR S 0 m=(jS S m k,.tuple [.str "begun",aK k,aK (aX S k)])/\(jS S m k).begun=some (k,aX S k,(jS S m k).holds)/\bG (jS S m k)/\Pl (pX S m k) m (L++[(v,k,aX S k)]):=by
 obtain⟨B,Q,x,R,T,C⟩:=tx h;have U:fG { S with last:=some m }=some (v,k):=h;have G:aX { S with last:=some m } k=aX S k:=rfl;have t:lL S.a S.ss S.ds[k] (aX S k) m=false:=by unfold lL;rw[p.al _ (List.getElem_mem B)]
 have r:tm S k (aX S k)=some v:=by unfold tm;rw[List.getElem?_eq_getElem B];exact Q
 have u:k<S.settled.length:=by rw[p.ok.sl];exact B
 have H:S.settled[k]=aX S k:=by unfold aX;rw[List.getD_eq_getElem?_getD,List.getElem?_eq_getElem u];rfl
 have i:∀j,aX (pX S m k) j=if j=k then aX S k+1 else aX S j:=fun j=>by
  show(S.settled.set k (aX S k+1)).getD j 0=_;rw[List.getD_eq_getElem?_getD,List.getElem?_set]
  by_cases q:j=k
  .subst q;rw[if_pos rfl,if_pos rfl,if_pos u];rfl
  .rw[if_neg (fun e=>q e.symm),if_neg q,<-List.getD_eq_getElem?_getD];rfl
 have l:∀j c,tm (pX S m k) j c=tm S j c:=fun j c=>rfl;have I:bG (jS S m k):=⟨p.ok.z,p.ok.dl,p.ok.pl,p.ok.sl,wQ p.ok.nd,fun d c h' e=>by
  have X:some (k,aX S k,S.holds)=some (d,c,h'):=e;cases X;exact B⟩
 have J:∀A b f,aX S b<=f->tm S b f = some A->TS.lexLe (tr (v,k,aX S k)) (tr (A,b,f))=true:=fun A b f g n=>by obtain⟨Y,w,Z,hl⟩:=Fw p.ok g n;have s:=xa R x (tr (w,b,aX S b)) (by rw[<-T];exact FC Z);rw[C]at s;refine TS.lexLe_tr _ _ _ s ?_;exact xb hl g
 refine⟨?_,rfl,I,⟨⟨p.ok.z,p.ok.dl,p.ok.pl,?_,wQ (wQ p.ok.nd),fun d c h' e=>by cases e⟩,p.al,rfl,?_,?_,?_,?_,?_,?_,?_,?_⟩⟩
 .have e0:jR S 0 m=kT { S with last:=some m } 0 m:=by
   unfold jR;split
   .rename_i e;rw[p.bg]at e;cases e
   .rfl
  rw[e0];unfold kT;rw[U];simp only[if_neg (show ¬ m<v by lia),List.getElem?_eq_getElem B];rw[G,t];rfl
 .show(S.settled.set k (aX S k+1)).length=S.ds.length;rw[List.length_set];exact p.ok.sl
 .rw[List.map_append,List.pairwise_append];refine⟨p.so,by simp,fun y o z D=>?_⟩;obtain⟨y',M,rfl⟩:=List.mem_map.mp o;simp only[List.map_cons,List.map_nil,List.mem_cons,List.not_mem_nil,or_false]at D;subst D;exact p.lo y' M v k (aX S k) (bb _) r
 .rw[List.nodup_append];refine⟨p.nd,by simp,fun y o z D e=>?_⟩;simp only[List.mem_cons,List.not_mem_nil,or_false]at D;subst D;subst e;exact absurd ((p.mem _ _ _).mp o).1 (Nat.lt_irrefl _)
 .intro A b f;rw[List.mem_append,p.mem,i,l];simp only[List.mem_cons,List.not_mem_nil,or_false,Prod.mk.injEq];constructor
  .rintro(⟨s,h2⟩ |⟨rfl,rfl,rfl⟩)
   .refine⟨?_,h2⟩;split
    .rename_i e;subst e;lia
    .exact s
   .rw[if_pos rfl];exact⟨by lia,r⟩
  .rintro⟨s,h2⟩
   by_cases q:b = k
   .subst q;rw[if_pos rfl]at s
    by_cases N:f = aX S b
    .subst N;rw[r]at h2;cases h2;exact .inr ⟨rfl,rfl,rfl⟩
    .exact .inl ⟨by lia,h2⟩
   .rw[if_neg q]at s;exact .inl ⟨s,h2⟩
 .intro b f g;rw[i]at g;rw[l]
  by_cases q:b = k
  .subst q;rw[if_pos rfl]at g
   by_cases N:f = aX S b
   .subst N;exact⟨v,r,O⟩
   .exact p.ful b f (by lia)
  .rw[if_neg q]at g;exact p.ful b f g
 .intro y o A b f g n;rw[i]at g;rw[l]at n;have E:aX S b<=f:=by
   by_cases q:b = k
   .subst q;rw[if_pos rfl]at g;lia
   .rw[if_neg q]at g;exact g
  rcases List.mem_append.mp o with o |o
  .exact p.lo y o A b f E n
  .simp only[List.mem_cons,List.not_mem_nil,or_false]at o;subst o;exact J A b f E n
 .show _=(S.settled.set k (aX S k+1)).sum;rw[Fy _ _ _ u (by rw[H]),List.length_append,p.sm];rfl
 .show((S.rows++[(⟨m,0,.begun,k,aX S k⟩:eS)])++[(⟨m,0,.done,k,aX S k⟩:eS)]).map _=_;rw[List.map_append,List.map_append,p.ro,List.flatMap_append,List.append_assoc];rfl
 .show(eU (eU S.words (k,aX S k) .begun) (k,aX S k) .done).length<=_;have s:=wR (k,aX S k) .done (eU S.words (k,aX S k) .begun);have h2:=wR (k,aX S k) .begun S.words;have:=p.wl;rw[List.length_append];simp only[List.length_cons,List.length_nil];lia
def ir(S:Hl)(m:Int):Prop:=fG S=none\/∃v k,fG S=some (v,k)/\m<v
theorem ir.low(h:ir S m)(c:tm S k (aX S k)=some v):m<v:=by
 have a:=FC c;rcases h with h |⟨w,j,h,f⟩
 .rw[wV h]at a;cases a
 .obtain⟨g,_,x,d,e,b⟩:=tx h;rw[e]at a;have h1:=xa d x _ a;rw[b]at h1;unfold TS.lexLe tr at h1;rw[HT.lexLt_cons]at h1
  by_cases q:v=w
  .omega
  .simp only at h1;rw[if_neg q]at h1;simp at h1;lia
theorem Pl.cnt{un:aU->Nat}(p:Pl S m L)(h:ir S m)(f:∀q,ca q->bM S.a S.ss q m (un q))(d):aX S k=un (S.ds[k]).plan:=by
 have ok:=(p.ok.pl _ (List.getElem_mem d)).plan;have u:=f _ ok;have e:∀c,tm S k c=bE S.a S.ss (S.ds[k]).plan c:=fun c=>by unfold tm;rw[List.getElem?_eq_getElem d]
 rcases Nat.lt_trichotomy (aX S k) (un (S.ds[k]).plan) with q |q |q
 .obtain⟨v,b,g⟩:=u.in_ _ q;rw[<-e]at b;have:=h.low b;lia
 .exact q
 .obtain⟨v,b,g⟩:=p.ful k _ q;rw[e]at b;have:=BI p.ok.z ok u (bb _) b;lia
noncomputable def xc(i c:Int):Option Int->List (List Int)
 |some v=>[[v,i,c]]
 |none=>[]
def iu(a:Int)(b:Sh)(un:aU->Nat):Nat->List bp->List (List Int)
 |_,[]=>[]
 |i,d::ds=>xc i (un d.plan) (bE a b d.plan (un d.plan))++iu a b un (i+1) ds
theorem FF:∀b  i,(∀j  h,S.ds[i+j]? = some b[j]/\aX S (i+j)=un (b[j]).plan)->iu S.a S.ss un i b=(List.range' i b.length).filterMap (kR S)
 |[],i,_=>rfl
 |d::b,i,h=>by obtain⟨c,h2⟩:=h 0 (by simp);simp only[Nat.add_zero,List.getElem_cons_zero]at c h2;rw[iu,FF b (i+1) fun j e=>by have:=h (j+1) (by simpa using e);simpa[Nat.add_assoc,Nat.add_comm 1 j] using this,List.length_cons,List.range'_succ,List.filterMap_cons];unfold kR;rw[c,h2];simp only;cases bE S.a S.ss d.plan (un d.plan)<;>rfl
theorem Pl.next(p:Pl S m L)(h:ir S m)(c:∀q,ca q->bM S.a S.ss q m (un q)):iu S.a S.ss un 0 S.ds=ea S:=by rw[FF S.ds 0 fun j b=>by rw[Nat.zero_add];exact⟨List.getElem?_eq_getElem b,p.cnt h c b⟩];unfold ea;rw[List.range_eq_range']
theorem xf(z:dI a e)(k:∀q,ca q->bM a e q last (un q)):∀b  i,(∀d∈b,ca d.plan)->∀r,r∈fH a e 0 un i b↔∃j,∃h,∃c v,c<un (b[j]).plan/\bE a e (b[j]).plan c=some v/\r=tr (v,i+j,c)
 |[],i,_,r=>by simp[fH]
 |d::b,i,f,r=>by
  have u:=k _ (f d List.mem_cons_self);rw[fH,List.mem_append,xf z k b (i+1) (fun x n=>f x (bq _ n)),BJ z (f d List.mem_cons_self) u,List.mem_map];constructor
  .rintro(⟨c,l,rfl⟩ |⟨j,g,c,v,h1,h2,rfl⟩)
   .obtain⟨v,m,_⟩:=u.in_ c (List.mem_range.mp l);refine⟨0,by simp,c,v,List.mem_range.mp l,m,?_⟩;unfold tr dZ;rw[m];rfl
   .refine⟨j+1,by simpa using g,c,v,h1,h2,?_⟩;rw[Nat.add_assoc,Nat.add_comm 1 j]
  .rintro⟨j,g,c,v,h1,h2,rfl⟩;cases j with
   |zero=>refine .inl ⟨c,List.mem_range.mpr h1,?_⟩;unfold tr dZ;simp only[List.getElem_cons_zero]at h2;rw[h2];rfl
   |succ j=>refine .inr ⟨j,by simpa using g,c,v,h1,h2,?_⟩;rw[Nat.add_assoc,Nat.add_comm 1 j]
theorem FH(z:dI a l)(k:∀q,ca q->bM a l q last (un q)):∀f  i,(∀d∈f,ca d.plan)->(fH a l 0 un i f).Nodup
 |[],i,_=>List.nodup_nil
 |d::f,i,g=>by
  have u:=k _ (g d List.mem_cons_self);rw[fH,List.nodup_append];refine⟨?_,FH z k f (i+1) fun x b=>g x (bq _ b),fun x b y m e=>?_⟩
  .rw[BJ z (g d List.mem_cons_self) u];refine List.Pairwise.map _ (fun x y h e=>h ?_) (List.nodup_range (n:=un d.plan));simp only[List.cons.injEq,Int.natCast_inj,and_true]at e;exact e.2.2
  .subst e;obtain⟨c,_,rfl⟩:=List.mem_map.mp b;obtain⟨j,o,p,v,_,_,e⟩:=(xf z k f (i+1) (fun x b=>g x (bq _ b)) _).mp m;unfold tr at e;simp only[List.cons.injEq]at e;lia
theorem Pl.cal(p:Pl S m L)(h:ir S m)(f:∀q,ca q->bM S.a S.ss q m (un q)):TS.sortR (fH S.a S.ss 0 un 0 S.ds)=L.map tr:=by
 refine(TS.sortR_of ?_ p.so).symm;have i:∀d∈S.ds,ca d.plan:=fun d hd=>(p.ok.pl d hd).plan;rw[List.perm_ext_iff_of_nodup (List.Pairwise.map _ (fun x y h e=>h (SW e)) p.nd) (FH p.ok.z f S.ds 0 i)];intro r;rw[xf p.ok.z f S.ds 0 i,List.mem_map];constructor
 .rintro⟨⟨v,k,c⟩,j,rfl⟩;obtain⟨g,h2⟩:=(p.mem v k c).mp j;obtain⟨b,_⟩:=Fw p.ok (bb c) h2;refine⟨k,b,c,v,by rw[<-p.cnt h f b];exact g,?_,by rw[Nat.zero_add]⟩;unfold tm at h2;rw[List.getElem?_eq_getElem b]at h2;exact h2
 .rintro⟨k,b,c,v,g,h2,rfl⟩;refine⟨(v,k,c),(p.mem v k c).mpr ⟨by rw[p.cnt h f b];exact g,?_⟩,by rw[Nat.zero_add]⟩;unfold tm;rw[List.getElem?_eq_getElem b];exact h2
theorem Pl.few(p:Pl S m L)(j:m<=116)(g:S.ds.length<=4):L.length<=468:=by
 have one:∀k,k<S.ds.length->aX S k<=117:=fun k d=>by
  by_cases q:aX S k<=117
  .exact q
  .exfalso;obtain⟨v,a,l⟩:=p.ful k 117 (by lia);have ok:=(p.ok.pl _ (List.getElem_mem d)).plan;unfold tm at a;rw[List.getElem?_eq_getElem d]at a;simp only at a;cases e:(S.ds[k]).plan with
   |once b=>rw[e,bE,if_neg (by lia)]at a;cases a
   |every f s=>rw[e]at ok;rw[e,bE]at a;have h1:=ok.1.1;have h2:=ok.2.1;cases a;lia
   |daily h=>rw[e,bE]at a;have:=BF (h:=h) (c:=117) p.ok.z.rise p.ok.z.ah;cases a;lia
 rw[p.sm];have:=Fz 117 S.settled fun x i=>by obtain⟨k,d,rfl⟩:=List.getElem_of_mem i;have:=one k (by rw[<-p.ok.sl];exact d);unfold aX at this;rw[List.getD_eq_getElem?_getD,List.getElem?_eq_getElem d]at this;exact this
 rw[p.ok.sl]at this;have:117 * S.ds.length<=117 * 4:=Nat.mul_le_mul_left _ g;lia
theorem SY(h:U[i]? = some (some (.own false (.l (rs.map aF))))):ie i U=.ok (jQ rs) U:=by unfold ie mC;rw[h];simp only[tu];cases rs<;>rfl
theorem xg(z:dI a f)(y:∀p,ca p->bM a f p (m - 1) (un p)):∀g  i  e  s t j k,(∀d∈g,ca d.plan)->e.length+g.length<=5000->∃n o q r,bU (cJ 2 (bt (av 4) (bt (av 5) cI))) nB (gl i (g.map bF)) [some (.dat (bB a f)),z1,some (.dat (.int m)),some (.own false (.l e)),s,t,j,k]=.nx [some (.dat (bB a f)),z1,some (.dat (.int m)),some (.own false (.l (e++(iu a f un i g).map aF))),n,o,q,r]
 |[],i,e,s,t,j,k,_,_=>⟨s,t,j,k,by simp[bU,gl,iu]⟩
 |d::g,i,e,s,t,j,k,h,E=>by
  have sz:1000000<sizeLine:=by decide
  simp only[List.length_cons]at E;have A:=h d List.mem_cons_self;have u:=y d.plan A;have C:=ES z A u;have to:=sX (a:=a) (ss:=f) (p:=d.plan) (c:=un d.plan) z.len A;generalize D:bE a f d.plan (un d.plan)=T at *;cases T with
  |none=>
   obtain⟨n,o,q,r,w⟩:=xg (z1:=z1) z y g (i+1) e (some (.dat (.int i))) (some (.dat (bF d))) (some (.dat (.int (un d.plan)))) (some (.dat .none)) (fun x B=>h x (bq _ B)) (by lia);refine⟨n,o,q,r,?_⟩;have b:nB [some (.dat (bB a f)),z1,some (.dat (.int m)),some (.own false (.l e)),some (.dat (.int i)),some (.dat (bF d)),j,k]=.nx [some (.dat (bB a f)),z1,some (.dat (.int m)),some (.own false (.l e)),some (.dat (.int i)),some (.dat (bF d)),some (.dat (.int (un d.plan))),some (.dat .none)]:=by simp[nB,C,to,cy,eK,isNone]
   rw[List.map_cons,gl,bU,iu,D];simp only[xc,List.nil_append];rw[<-w];simp only[cJ,bt,av,cI,List.length_cons,List.length_nil,if_true,Option.bind,List.set_cons_succ,List.set_cons_zero,b]
  |some v=>
   obtain⟨n,o,q,r,w⟩:=xg (z1:=z1) z y g (i+1) (e++[aF [v,(i:Int),(un d.plan:Int)]]) (some (.dat (.int i))) (some (.dat (bF d))) (some (.dat (.int (un d.plan)))) (some (.dat (.int v))) (fun x B=>h x (bq _ B)) (by simp;lia);refine⟨n,o,q,r,?_⟩;have b:nB [some (.dat (bB a f)),z1,some (.dat (.int m)),some (.own false (.l e)),some (.dat (.int i)),some (.dat (bF d)),j,k]=.nx [some (.dat (bB a f)),z1,some (.dat (.int m)),some (.own false (.l (e++[aF [v,(i:Int),(un d.plan:Int)]]))),some (.dat (.int i)),some (.dat (bF d)),some (.dat (.int (un d.plan))),some (.dat (.int v))]:=by simp[nB,C,to,cy,eK,isNone,show e.length<sizeLine by lia]
   rw[List.append_assoc,List.singleton_append]at w;rw[List.map_cons,gl,bU,iu,D];simp only[xc,List.cons_append,List.nil_append,List.map_cons];rw[<-w];simp only[cJ,bt,av,cI,List.length_cons,List.length_nil,if_true,Option.bind,List.set_cons_succ,List.set_cons_zero,b]
theorem SZ(z:dI a b)(c:0<=m/\m<=9999)(f:∀p,ca p->bM a b p (m - 1) (un p))(hd:∀d∈ds,ca d.plan/\lM d.late)(g:ds.length<=6) :
  pI [.dat (bB a b),.dat (cD ds),.dat (.int m)]=.rt (.dat (jQ (iu a b un 0 ds))) []:=by
 obtain⟨j,k,n,o,e⟩:=xg (z1:=some (.dat (.tuple (ds.map bF)))) z f ds 0 [] none none none none (fun d h=>(hd d h).1) (by simp;lia);rw[List.nil_append]at e;have q:=wW g hd;unfold cD at *;have mn:=SY (i:=3) (U:=[some (.dat (bB a b)),some (.dat (.tuple (ds.map bF))),some (.dat (.int m)),some (.own false (.l ((iu a b un 0 ds).map aF))),j,k,n,o]) (rs:=iu a b un 0 ds) rfl;simp[pI,Cv,sS z,q,lJ (d:=.int m) rfl,cC,c,wX,e,mn]
theorem Ta:(("idle":Str)==("idle":Str))=true:=by decide +kernel
theorem Tb:(("begun":Str)==("idle":Str))=false:=by decide +kernel
theorem Tc:(("begun":Str)==("begun":Str))=true:=by decide +kernel
theorem tE:PyData.strOk "idle" = true:=by decide +kernel
theorem xh:PyData.strOk "begun" = true:=by decide +kernel
abbrev eC(C:Addr)(S:Hl)(m:Int)(q:Option ab)(rows:List PyData)(x5 x6:Option ab):ak:=[some (.own true (hB C S)),some (.dat (.int 0)),some (.dat (.int m)),q,some (.own false (.l rows)),x5,x6]
theorem Td(d:rows.length<9000)(c:kA C [.own true (hB C S),.dat (.int 0),.dat (.int m)]=.rt (.dat (.tuple [.str "idle",x])) [hB C S1]):nC C (eC C S m q rows x5 x6)=.bk (eC C S1 m q (rows++[.tuple [.str "idle",x]]) x5 (some (.dat (.tuple [.str "idle",x])))):=by
 have sz:10000<sizeLine:=by decide
 simp[nC,cw,dY,c,cQ tE tE,Ta,show rows.length<sizeLine by lia]
theorem Te(e:rows.length<9000)(c:kA C [.own true (hB C S),.dat (.int 0),.dat (.int m)]=.rt (.dat (.tuple [.str "begun",.int a,.int b])) [hB C S1])(d:pH C [.own true (hB C S1),.dat (.int 0),.dat (.int m)]=.rt (.dat x) [hB C S2]):nC C (eC C S m q rows x5 x6)=.nx (eC C S2 m q (rows++[.tuple [.str "begun",.int a,.int b],x]) x5 (some (.dat (.tuple [.str "begun",.int a,.int b])))):=by
 have sz:10000<sizeLine:=by decide
 simp[nC,cw,dY,c,d,cQ xh tE,cQ xh xh,Tb,Tc,show rows.length<sizeLine by lia,show rows.length+1<sizeLine by lia]
def gB(S:Hl):PyData:=match fG S with
 |some (v,_)=>.int v
 |none=>.none
structure fJ (S:Hl) (m:Int):Prop where
 ho:S.holder=some 0
 ti:m<S.til
 la:S.last=some m
theorem fJ.call(h:S.last=some m\/S.last=none)(b:m<=a)(c:0<=a/\a<=9999):jK C [.own true (hB C S),.dat (.int 0),.dat (.int a)]=.rt (.dat .none) [hB C S]:=
 RZ rfl (by simp[cC]) (by simp[cC];lia) (by
  rcases h with h |h
  .unfold tf;rw[h];simp;lia
  .unfold tf;rw[h])
theorem fJ.mine(o:fJ S m)(a:0<=m/\m<=9999):kz C [.own true (hB C S),.dat (.int 0),.dat (.int m)]=.rt (.dat .none) [hB C S]:=
 Sc (fJ.call (.inl o.la) (Int.le_refl m) a) (by unfold gQ;rw[o.ho,decide_eq_true o.ti];rfl) o.ho
theorem Tf(p:Pl S m L)(o:fJ S m)(h:ir S m):jR S 0 m=(S,.tuple [.str "idle",gB S]):=by
 have a:{ S with last:=some m }=S:=by rw[<-o.la]
 have b:jR S 0 m=kT S 0 m:=by
  unfold jR;split
  .rename_i e;rw[p.bg]at e;cases e
  .rw[a]
 rw[b];unfold kT gB;rcases h with h |⟨v,k,h,c⟩
 .rw[h]
 .rw[h];simp only;rw[if_pos c]
theorem FJ(f:0<=m/\m<=116):∀n  i {S}{L}{rows}{x5 x6},Pl S m L->fJ S m->S.ds.length<=4->469<=L.length+n->rows.length+2 * n<5000->
  ∃d h c j l,bU (av 5) (nC C) (L3.intsFrom i n) (eC C S m q rows x5 x6)=.nx (eC C d m q (c++[.tuple [.str "idle",gB d]]) j l)/\Pl d m h/\fJ d m/\ir d m/\d.a=S.a/\d.ss=S.ss/\d.ds=S.ds
 |0,i,S,L,rows,x5,x6,p,o,g,h1,h2=>by have:=p.few f.2 g;lia
 |n+1,i,S,L,rows,x5,x6,p,o,g,h1,h2=>by
  have I:=p.few f.2 g;have l1:=p.rl;have l2:=p.wl;have st:=SE (C:=C) p.ok (by lia) (by lia) (o.mine (C:=C) ⟨f.1,by lia⟩);rw[nI,bU]
  by_cases id:ir S m
  .rw[Tf p o id]at st;have b:=Td (q:=q) (rows:=rows) (x5:=some (.dat (.int i))) (x6:=x6) (by lia) st;exact⟨S,L,rows,some (.dat (.int i)),some (.dat (.tuple [.str "idle",gB S])),by simp[b],p,o,id,rfl,rfl,rfl⟩
  .obtain⟨v,k,t,u⟩:∃v k,fG S=some (v,k)/\v<=m:=by
    cases e:fG S with
    |none=>exact absurd (.inl e) id
    |some w=>
     obtain⟨v,k⟩:=w;refine⟨v,k,rfl,?_⟩
     by_cases q:v<=m
     .exact q
     .exact absurd (.inr ⟨v,k,e,by lia⟩) id
   obtain⟨x,y,s,z⟩:=p.step t u;rw[x]at st;have A:fJ (jS S m k) m:=⟨o.ho,o.ti,rfl⟩
   have B:fJ (pX S m k) m:=⟨o.ho,o.ti,rfl⟩
   have D:(jS S m k).words.length<1000000:=by have:=wR (k,aX S k) .begun S.words;show(eU S.words (k,aX S k) .begun).length<_;lia
   have E:(jS S m k).rows.length<1000000:=by show(S.rows++[(_:eS)]).length<_;rw[List.length_append];simp only[List.length_cons,List.length_nil];lia
   have G:=SF (C:=C) s E D (A.mine (C:=C) ⟨f.1,by lia⟩) y;have b:=Te (q:=q) (rows:=rows) (x5:=some (.dat (.int i))) (x6:=x6) (by lia) st G;obtain⟨d,h,c,j,l,r,H⟩:=FJ f n (i+1) (S:=pX S m k) (rows:=rows++[.tuple [.str "begun",aK k,aK (aX S k)],.tuple [.str "done",aK k,aK (aX S k)]]) (x5:=some (.dat (.int i))) (x6:=some (.dat (.tuple [.str "begun",aK k,aK (aX S k)]))) z B g (by rw[List.length_append];simp only[List.length_cons,List.length_nil];lia) (by simp;lia);refine⟨d,h,c,j,l,?_,H⟩;exact Eq.trans (by simp[b]) r
theorem Tg(p:Pl S m L)(o:fJ S m)(g:S.ds.length<=4)(h:0<=m/\m<=116):∃c e b,sI C [.own true (hB C S),.dat (.int 0),.dat (.int m),.dat (.int 999)]=.rt (.own false (.l (b++[.tuple [.str "idle",gB c]]))) [hB C c]/\Pl c m e/\fJ c m/\ir c m/\c.a=S.a/\c.ss=S.ss/\c.ds=S.ds:=by
 have f:=jM (d:=.int 999) (lo:=0) (hi:=999) rfl;have i:cC (.int 999) 0 999=true:=by simp[cC]
 rw[i]at f;obtain⟨c,e,b,k,n,r,j⟩:=FJ (C:=C) h (q:=some (.dat (.int 999))) 999 0 (rows:=[]) (x5:=none) (x6:=none) p o g (by lia) (by simp);refine⟨c,e,b,?_,j⟩;generalize b++[.tuple [.str "idle",gB c]]=R at r;simp[sI,Cz,f,r]
theorem FK(ok:bG S)(i:S.last=some m):∀(b:List bp) (c:List Nat)  f  x y,(∀d∈b,d∈S.ds)->b.length=c.length->(∀j  h (B:j<c.length),bM S.a S.ss (b[j]).plan m c[j])->f.length+b.length<900->bD (cJ 2 (bt (av 0) (bt (av 1) cI))) cO (nu C) (cn (b.map bF) (c.map aK)) f [x,y,some (.vw (hB C S))]=some (f++List.replicate b.length (.int 0))
 |[],c,f,x,y,_,_,_,h=>by simp[cn,bD]
 |e::b,[],f,x,y,_,g,_,h=>by cases g
 |e::b,k::c,f,x,y,hd,g,l,h=>by
  have sz:1000<sizeLine:=by decide
  simp only[List.length_cons]at h g;have u:=l 0 (by simp) (by simp);simp only[List.getElem_cons_zero]at u;have n:=ES ok.z (ok.pl e (hd e List.mem_cons_self)).plan u;have o:=FK (C:=C) ok i b c (f++[.int 0]) (some (.dat (bF e))) (some (.dat (aK k))) (fun d h=>hd d (bq _ h)) (by lia) (fun j w A=>by have:=l (j+1) (by simpa using w) (by simpa using A);simpa using this) (by simp;lia);have p:aH (bF e) (.int 0)=some (ee e.plan):=rfl;have q:nu C [some (.dat (bF e)),some (.dat (aK k)),some (.vw (hB C S))]=.ok (.int 0) [some (.dat (bF e)),some (.dat (aK k)),some (.vw (hB C S))]:=by
   have r:iQ C 2 "zone" [some (.dat (bF e)),some (.dat (aK k)),some (.vw (hB C S))]=.ok (bB S.a S.ss) [some (.dat (bF e)),some (.dat (aK k)),some (.vw (hB C S))]:=by simp[iQ,mO]
   have s:iQ C 2 "last" [some (.dat (bF e)),some (.dat (aK k)),some (.vw (hB C S))]=.ok (.int m) [some (.dat (bF e)),some (.dat (aK k)),some (.vw (hB C S))]:=by simp[iQ,mO,i,fi]
   generalize bB S.a S.ss=D at *;generalize ee e.plan=E at *;generalize bF e=dd at *;unfold nu;generalize iQ C 2 "zone" = G at *;generalize iQ C 2 "last" = H at *;simp[-aH,r,s,p,n]
  have t:cJ 2 (bt (av 0) (bt (av 1) cI)) (PyData.tuple [bF e,aK k]) [x,y,some (.vw (hB C S))]=some [some (.dat (bF e)),some (.dat (aK k)),some (.vw (hB C S))]:=by simp
  have v:cn ((e::b).map bF) ((k::c).map aK)=.tuple [bF e,aK k]::cn (b.map bF) (c.map aK):=rfl;rw[v,bD];simp only[t,cO,q];rw[if_pos (by lia),o,List.length_cons,List.replicate_succ];simp
theorem Th(ok:bG S)(h:S.last=some m)(e:∀j  h,bM S.a S.ss (S.ds[j]).plan m (aX S j)):wr C [.own true (hB C S)]=.rt (.dat (.list (List.replicate S.ds.length (.int 0)))) [hB C S]:=by
 have sz:1000<sizeLine:=by decide
 have de:=kS S.ds;have n:=ok.dl;have g:=FK (C:=C) ok h S.ds S.settled [] none none (fun d h=>h) ok.sl.symm (fun j i l=>by
  have:=e j i;unfold aX at this;rw[List.getD_eq_getElem?_getD,List.getElem?_eq_getElem l]at this;exact this) (by simp;lia)
 rw[List.nil_append]at g;have ll:(List.replicate S.ds.length (PyData.int 0)).length<=sizeLine:=by simp;lia
 have at_:(List.replicate S.ds.length (PyData.int 0)).all hZ=true:=by simp[hZ]
 generalize List.replicate S.ds.length (PyData.int 0)=L at *;generalize f:cn (S.ds.map bF) (S.settled.map aK)=P at *;have c:kr C 0 "deeds" "settled" [some (.own true (hB C S))]=.ok P [some (.own true (hB C S))]:=by simp[kr,bV,de,f]
 have k:mN 2 [0] (kr C 0 "deeds" "settled") (cJ 2 (bt (av 0) (bt (av 1) cI))) cO (nu C) [some (.own true (hB C S))]=.ok (.list L) [some (.own true (hB C S))]:=by generalize kr C 0 "deeds" "settled" = o at *;have lw:oJ 2 [0] [some (.own true (hB C S))]=[none,none,some (.vw (hB C S))]:=rfl;simp only[mN,c,fu.bind,vG,lw,g,Option.bind_some,ll,at_,and_self,if_true,lift]
 have b:wq C [some (.own true (hB C S))]=.rt (.dat (.list L)) [some (.own true (hB C S))]:=by unfold wq;generalize mN 2 [0] (kr C 0 "deeds" "settled") (cJ 2 (bt (av 0) (bt (av 1) cI))) cO (nu C)=p at *;simp[h,fi,k]
 exact Fh rfl b rfl
theorem FL:∀a:List Wd,lv (a.map fun w=>PyData.str (cW w))=some (a.map fun w=>V.str (cW w))
 |[]=>rfl
 |w::a=>by rw[List.map_cons,lv,FL a];rfl
theorem tF(b:List Wd)(a):km (b.map fun w=>PyData.str (cW w)) (.str (cW a))=some (.int (b.count a)):=by
 unfold km;rw[FL];simp only[oA];have:∀l:List Wd,(l.map fun w=>V.str (cW w)).countP (fun z=>jh z (V.str (cW a)))=l.count a:=fun l=>by
  induction l with
  |nil=>rfl
  |cons x l c=>
   rw[List.map_cons,List.countP_cons,c,List.count_cons]
   congr 1
   have e:jh (V.str (cW x)) (V.str (cW a))=(x==a):=by cases x<;>cases a<;>decide +kernel
   rw[e]
 rw[this]
noncomputable abbrev eV(a:List eS)(k:Nat):List Wd:=(a.filter fun r=>r.dd==k).map (·.wd)
noncomputable abbrev gS(a:List Wd):PyData:=.tuple [.int (a.count .begun),.int (a.count .done),.int (a.count .left),.int (a.count .unsure)]
theorem xi:∀b  a  x,a.length+b.length<=5000->bD (av 0) ph pp (b.map bW) a [x,some (.dat (aK k))]=some (a++(eV b k).map fun w=>PyData.str (cW w))
 |[],a,x,_=>by simp[bD]
 |r::b,a,x,h=>by
  have sz:10000<sizeLine:=by decide
  simp only[List.length_cons]at h;have d:ph [some (.dat (bW r)),some (.dat (aK k))]=.ok (r.dd==k) [some (.dat (bW r)),some (.dat (aK k))]:=by
   have e:aH (bW r) (.int 3)=some (aK r.dd):=rfl;have this:decide ((r.dd:Int)=(k:Int))=(r.dd==k):=by rw[Bool.eq_iff_iff,decide_eq_true_iff,beq_iff_eq];lia
   generalize bW r=R at *;simp[-aH,ph,e,kC,this]
  have f:pp [some (.dat (bW r)),some (.dat (aK k))]=.ok (.str (cW r.wd)) [some (.dat (bW r)),some (.dat (aK k))]:=by have g:aH (bW r) (.int 2)=some (.str (cW r.wd)):=rfl;generalize bW r=R at *;simp[-aH,pp,g]
  rw[List.map_cons,bD];simp only[av,List.set_cons_zero,d];cases q:r.dd==k with
  |true=>have c:=xi (k:=k) b (a++[.str (cW r.wd)]) (some (.dat (bW r))) (by simp;lia);simp only[f];rw[if_pos (by lia),c];simp[eV,q]
  |false=>have c:=xi (k:=k) b a (some (.dat (bW r))) (by lia);simp only;rw[c];simp[eV,q]
theorem pY(h:e [some (.dat x),D]=.ok y [some (.dat x),D])(b:a.length<sizeLine):bD (av 0) cO e (x::r) a [z,D]=bD (av 0) cO e r (a++[y]) [some (.dat x),D]:=by rw[bD];simp only[av,List.set_cons_zero,cO,h];rw[if_pos b]
theorem Ti(h:rs.length<=5000):rJ [.dat (.list (rs.map bW)),.dat (aK k)]=.rt (.dat (gS (eV rs k))) []:=by
 have sz:10000<sizeLine:=by decide
 have g:=xi (k:=k) rs [] none (by simpa using h);rw[List.nil_append]at g;have ll:(eV rs k).length<=sizeLine:=by have:=List.length_filter_le (fun r:eS=>r.dd==k) rs;simp;lia
 generalize o:eV rs k=W at *;have l2:(W.map fun w=>PyData.str (cW w)).length<=sizeLine:=by simpa using ll
 have f:=tF W .begun;have i:=tF W .done;have j:=tF W .left;have l:=tF W .unsure;generalize (W.map fun w=>PyData.str (cW w))=D at *;have a:∀x w,km D (.str x)=some (.int w)->ng [some (.dat (.str x)),some (.dat (.list D))]=.ok (.int w) [some (.dat (.str x)),some (.dat (.list D))]:=fun x w m=>by unfold ng;generalize km=p at *;simp[kl,m]
 have g2:∀y,bD (av 0) cO ng (kt ["begun","done","left","unsure"]) [] [y,some (.dat (.list D))]=some [.int (W.count .begun),.int (W.count .done),.int (W.count .left),.int (W.count .unsure)]:=fun y=>by have b:=a _ _ f;have c:=a _ _ i;have d:=a _ _ j;have e:=a _ _ l;simp only[cW]at b c d e;generalize ng=n at *;unfold kt;simp only[List.map_cons,List.map_nil];rw[pY b (by simp;lia),pY c (by simp;lia),pY d (by simp;lia),pY e (by simp;lia)];simp[bD]
 unfold rJ BO;generalize ph=q at *;generalize pp=s at *;generalize ng=n at *;generalize kt ["begun","done","left","unsure"]=t at *;generalize List.map bW rs=u at *;simp[g,l2,g2,show(4:Nat)<=sizeLine by lia]
theorem FP(c:a.length<=5000):∀(n i:Nat)  b  x,b.length+n<=5000->bD (av 0) cO (rP C) (L3.intsFrom (i:Int) n) b [x,some (.dat (.list (a.map bW)))]=some (b++(List.range' i n).map fun k=>gS (eV a k))
 |0,i,b,x,_=>by simp[L3.intsFrom,bD]
 |n+1,i,b,x,h=>by
  have sz:10000<sizeLine:=by decide
  have d:=FP (C:=C) c n (i+1) (b++[gS (eV a i)]) (some (.dat (aK i))) (by simp;lia);have e:rP C [some (.dat (.int i)),some (.dat (.list (a.map bW)))]=.ok (gS (eV a i)) [some (.dat (.int i)),some (.dat (.list (a.map bW)))]:=by have:=Ti (rs:=a) (k:=i) c;generalize gS (eV a i)=T at *;generalize a.map bW=f at *;simp[rP,this]
  rw[nI,pY e (by lia)];rw[show((i:Int)+1)=((i+1:Nat):Int) by lia,d,List.range'_succ,List.map_cons];simp
theorem Tj{S:Hl}{r:ak}(h:S.ds.length=n):dB fz (az (cp C 0 "deeds") aT) (some (.own io (hB C S))::r)=.ok (.int n) (some (.own io (hB C S))::r):=by subst h;have de:=kS S.ds;simp[de]
theorem Tk(b:a U=.ok x U)(c:f [x]=some l):er f (az a aT) U=.ok l U:=by simp[b,c]
theorem Tl{V }(b:a [some c,some (.dat d)]=.ok V [some c,some (.dat d)])(f:bD g t e V [] [none,some (.dat d)]=some L)(h:L.length<=sizeLine):eN 1 [1] a g t e [some c,some (.dat d)]=.ok (.list L) [some c,some (.dat d)]:=by have:iJ 1 [1] [some c,some (.dat d)]=[none,some (.dat d)]:=rfl;simp[b,this,f,h]
theorem Tn(f:S.rows.length<=5000)(p:S.ds.length<=6):rQ C [.own true (hB C S)]=.rt (.dat (.list ((List.range' 0 S.ds.length).map fun k=>gS (eV S.rows k)))) [hB C S]:=by
 have sz:10000<sizeLine:=by decide
 have h:=EZ (C:=C) (S:=S);have g:=FP (C:=C) f S.ds.length 0 [] none (by simp;lia);rw[List.nil_append]at g;have e:=wS (j:=S.ds.length) (by lia) (by lia);rw[Int.toNat_natCast]at e;have i:((List.range' 0 S.ds.length).map fun k=>gS (eV S.rows k)).length<=sizeLine:=by simp;lia
 generalize S.rows.map bW=a at *;have l:=Tj (C:=C) (S:=S) (n:=S.ds.length) (io:=true) (r:=[some (.dat (.list a))]) rfl;have k:=Tl (c:=.own true (hB C S)) (d:=.list a) (Tk l e) g i;generalize ((List.range' 0 S.ds.length).map fun k=>gS (eV S.rows k))=L at *;have m:bH (aV (dO C 0 "log" (nj C))) (av 1) [some (.own true (hB C S)),none]=.nx [some (.own true (hB C S)),some (.dat (.list a))]:=by simp[dO,dY,bV,h]
 have o:wm C [some (.own true (hB C S)),none]=.rt (.dat (.list L)) [some (.own true (hB C S)),some (.dat (.list a))]:=by unfold wm;simp only[ay,m,br,k,dD]
 generalize hB C S=b at *;simp[rQ,o]
noncomputable abbrev cb(L:List T3)(k:Nat):Nat:=(L.filter fun t=>t.2.1==k).length
theorem To(a k):eV a k=(((a.map fun r=>(r.wd,r.dd,r.ct)).filter fun t=>t.2.1==k).map (·.1)):=by
 induction a with
 |nil=>rfl
 |cons r a b=>
  unfold eV at b ⊢;rw[List.map_cons,List.filter_cons,List.filter_cons]
  by_cases q:(r.dd==k)=true
  .simp only[q,if_true,List.map_cons,b]
  .simp only[q,Bool.false_eq_true,if_false,b]
theorem Tp(L k):gS ((((L.flatMap fun t=>[((.begun:Wd),t.2.1,t.2.2),((.done:Wd),t.2.1,t.2.2)]).filter fun t=>t.2.1==k).map (·.1)))=.tuple [.int (cb L k),.int (cb L k),.int 0,.int 0]:=by
 have key:∀L:List T3,(∀w,((((L.flatMap fun t=>[((.begun:Wd),t.2.1,t.2.2),((.done:Wd),t.2.1,t.2.2)]).filter fun t=>t.2.1==k).map (·.1))).count w=if w=.begun\/w=.done then cb L k else 0):=fun L=>by
  induction L with
  |nil=>intro w;simp[cb]
  |cons t L a=>
   intro w;rw[List.flatMap_cons,List.filter_append,List.map_append,List.count_append,a];unfold cb;rw[List.filter_cons (x:=t)]
   by_cases q:(t.2.1==k)=true
   .rw[if_pos q,List.length_cons];simp only[List.filter_cons,q,if_true,List.filter_nil,List.map_cons,List.map_nil];cases w<;>simp[List.count_cons]<;>lia
   .rw[if_neg q];simp only[List.filter_cons,q,if_false,List.filter_nil,List.map_nil,List.count_nil,Nat.zero_add];simp
 unfold gS;rw[key L,key L,key L,key L];simp
theorem Pl.tal(p:Pl S m L)(k):gS (eV S.rows k)=.tuple [.int (cb L k),.int (cb L k),.int 0,.int 0]:=by rw[To,p.ro,Tp]
abbrev iZ(t:T3):PyData:=.tuple [aK t.2.1,aK t.2.2]
theorem Tq(a:List eS):(a.filter fun r=>r.wd==.done).map (fun r=>PyData.tuple [aK r.dd,aK r.ct])=((a.map fun r=>(r.wd,r.dd,r.ct)).filter fun t=>t.1==.done).map (fun t=>PyData.tuple [aK t.2.1,aK t.2.2]):=by
 induction a with
 |nil=>rfl
 |cons r a b=>
  rw[List.map_cons,List.filter_cons,List.filter_cons]
  by_cases q:(r.wd==.done)=true
  .simp only[q,if_true,List.map_cons,b]
  .simp only[q,Bool.false_eq_true,if_false,b]
theorem Tr(L:List T3):(((L.flatMap fun t=>[((.begun:Wd),t.2.1,t.2.2),((.done:Wd),t.2.1,t.2.2)]).filter fun t=>t.1==.done).map (fun t=>PyData.tuple [aK t.2.1,aK t.2.2]))=L.map iZ:=by
 induction L with
 |nil=>rfl
 |cons t L a=>rw[List.flatMap_cons,List.filter_append,List.map_append,a,List.map_cons];rfl
theorem Pl.done(p:Pl S m L):(S.rows.filter fun r=>r.wd==.done).map (fun r=>PyData.tuple [aK r.dd,aK r.ct])=L.map iZ:=by rw[Tq,p.ro,Tr]
theorem xj:∀(b:List eS)  a  x,a.length+b.length<=5000->bD (av 0) (sJ C) (sK C) (b.map bW) a [x]=some (a++(b.filter fun r=>r.wd==.done).map fun r=>PyData.tuple [aK r.dd,aK r.ct])
 |[],a,x,_=>by simp[bD]
 |r::b,a,x,h=>by
  have sz:10000<sizeLine:=by decide
  simp only[List.length_cons]at h;have d:sJ C [some (.dat (bW r))]=.ok (r.wd==.done) [some (.dat (bW r))]:=by
   have e:aH (bW r) (.int 2)=some (.str (cW r.wd)):=rfl;have q:aM false (.str (cW r.wd)) (.str "done")=some (.bool (r.wd==.done)):=by cases r.wd<;>kernel_rfl
   generalize bW r=R at *;generalize PyData.str (cW r.wd)=W at *;simp[-aH,sJ,e,q]
  have f:sK C [some (.dat (bW r))]=.ok (.tuple [aK r.dd,aK r.ct]) [some (.dat (bW r))]:=by have g:aH (bW r) (.int 3)=some (aK r.dd):=rfl;have i:aH (bW r) (.int 4)=some (aK r.ct):=rfl;generalize bW r=R at *;simp[-aH,sK,g,i]
  rw[List.map_cons,bD];simp only[av,List.set_cons_zero,d];cases q:r.wd==.done with
  |true=>have c:=xj (C:=C) b (a++[.tuple [aK r.dd,aK r.ct]]) (some (.dat (bW r))) (by simp;lia);simp only[f];rw[if_pos (by lia),c];simp[q]
  |false=>have c:=xj (C:=C) b a (some (.dat (bW r))) (by lia);simp only;rw[c];simp[q]
theorem FQ:∀(L:List T3)  a  x y z,a.length+L.length<=5000->bD (cJ 3 (bt (av 0) (bt (av 1) (bt (av 2) cI)))) cO (nE C) ((L.map tr).map aF) a [x,y,z]=some (a++L.map iZ)
 |[],a,x,y,z,_=>by simp[bD]
 |t::L,a,x,y,z,h=>by
  have sz:10000<sizeLine:=by decide
  simp only[List.length_cons]at h;obtain⟨v,k,c⟩:=t;have b:=FQ (C:=C) L (a++[iZ (v,k,c)]) (some (.dat (.int v))) (some (.dat (aK k))) (some (.dat (aK c))) (by simp;lia);have d:cJ 3 (bt (av 0) (bt (av 1) (bt (av 2) cI))) (aF (tr (v,k,c))) [x,y,z]=some [some (.dat (.int v)),some (.dat (aK k)),some (.dat (aK c))]:=by simp[tr]
  have e:nE C [some (.dat (.int v)),some (.dat (aK k)),some (.dat (aK c))]=.ok (iZ (v,k,c)) [some (.dat (.int v)),some (.dat (aK k)),some (.dat (aK c))]:=by simp[nE]
  rw[List.map_cons,List.map_cons,bD];simp only[d,cO,e];rw[if_pos (by lia),b];simp
theorem xk:∀L  a  x,a.length+L.length<=5000->bD (av 0) (pK C) (pL C) ((L.map tr).map aF) a [x,some (.dat (aK k))]=some (a++List.replicate (cb L k) (.int 1))
 |[],a,x,_=>by simp[bD,cb]
 |t::L,a,x,h=>by
  have sz:10000<sizeLine:=by decide
  simp only[List.length_cons]at h;obtain⟨v,j,c⟩:=t;have d:pK C [some (.dat (aF (tr (v,j,c)))),some (.dat (aK k))]=.ok (j==k) [some (.dat (aF (tr (v,j,c)))),some (.dat (aK k))]:=by
   have e:aH (aF (tr (v,j,c))) (.int 1)=some (aK j):=rfl;have this:decide ((j:Int)=(k:Int))=(j==k):=by rw[Bool.eq_iff_iff,decide_eq_true_iff,beq_iff_eq];lia
   generalize aF (tr (v,j,c))=R at *;simp[-aH,pK,e,kC,this]
  have f:∀U,pL C U=.ok (.int 1) U:=fun U=>by simp[pL]
  rw[List.map_cons,List.map_cons,bD];simp only[av,List.set_cons_zero,d];cases q:j==k with
  |true=>have b:=xk (C:=C) (k:=k) L (a++[.int 1]) (some (.dat (aF (tr (v,j,c))))) (by simp;lia);simp only[f];rw[if_pos (by lia),b];simp[cb,List.filter_cons,q,List.replicate_succ]
  |false=>have b:=xk (C:=C) (k:=k) L a (some (.dat (aF (tr (v,j,c))))) (by lia);simp only;rw[b];simp[cb,List.filter_cons,q]
abbrev e4(b:List Int)(t:List PyData)(z:PyData)(c:List bp)(a:Option ab):ak:=[some (.scr b),some (.own false (.l t)),some (.dat z),some (.dat (.tuple (c.map bF))),a,none,none,none,none,none,none,none,none,none]
def xl(a:List bp):Prop:=∀d∈a,ca d.plan/\d.late=.all
theorem FT(f:b.length<=63):∀n  i {t}{ds}{x4},t.length+4 * n<=900->ds.length+n<=100->xl ds->∃a t' c,bU (av 4) (ww C) (L3.intsFrom i n) (e4 b t z ds x4)=.nx (e4 b t' z a c)/\xl a/\a.length=ds.length+n/\t'.length<=t.length+4 * n
 |0,i,t,ds,x4,_,_,h=>⟨ds,t,x4,by simp[L3.intsFrom,bU],h,by simp,by simp⟩
 |n+1,i,t,ds,x4,h1,h2,h=>by
  have sz:1000<sizeLine:=by decide
  obtain⟨p,g,ok,_,l1,e⟩:=RS (ns:=b) (t:=t) (wd:=40) f (by lia) ⟨by lia,by lia⟩;obtain⟨a,t',c,r,j,k,m⟩:=FT (C:=C) f (z:=z) n (i+1) (t:=g) (ds:=ds++[⟨p,.all,true⟩]) (x4:=some (.dat (.int i))) (by lia) (by simp;lia) (fun d hd=>by
   rcases List.mem_append.mp hd with q |q
   .exact h d q
   .simp only[List.mem_cons,List.not_mem_nil,or_false]at q;subst q;exact⟨ok,rfl⟩)
  refine⟨a,t',c,?_,j,by rw[k];simp;lia,by lia⟩;have l:(ds++[(⟨p,.all,true⟩:bp)]).map bF=ds.map bF++[.tuple [ee p,.str "all",.bool true]]:=by simp
  have ll:(ds.map bF).length<=100:=by simp;lia
  rw[<-r,e4,e4,l];generalize ds.map bF=D at *;rw[nI,bU];simp[ww,e,show D.length+1<=sizeLine by lia]
theorem Pl.fld(p:Pl S m L):Pl { S with last:=la,holder:=a,til:=b,holds:=hs } m L:=
 ⟨⟨p.ok.z,p.ok.dl,p.ok.pl,p.ok.sl,p.ok.nd,fun d c h e=>p.ok.bg d c h e⟩,p.al,p.bg,p.so,p.nd,p.mem,p.ful,p.lo,p.sm,p.ro,p.wl⟩
theorem Ts(p:Pl S m L)(h:S.holder=none\/S.holder=some 0):∃b,(nJ S 0 m 50).1=b/\Pl b m L/\fJ b m/\b.a=S.a/\b.ss=S.ss/\b.ds=S.ds:=by
 refine⟨_,rfl,?_⟩;unfold nJ
 by_cases q:gQ S m=false
 .rw[if_pos q];exact⟨p.fld,⟨rfl,by show m<m+50;lia,rfl⟩,rfl,rfl,rfl⟩
 .rw[if_neg q];have:S.holder=some 0:=by
   rcases h with h |h
   .exfalso;apply q;unfold gQ;rw[h];rfl
   .exact h
  rw[if_pos this];exact⟨p.fld (hs:=S.holds),⟨rfl,by show m<m+50;lia,rfl⟩,rfl,rfl,rfl⟩
def nL(S:Hl):PyData:=jQ (ea S)
theorem Tt(S):(nL S=.none/\gB S=.none)\/∃v k c,nL S=aF [v,k,c]/\gB S=.int v:=by
 unfold nL gB;cases h:fG S with
 |none=>rw[wV h];exact .inl ⟨rfl,rfl⟩
 |some w=>obtain⟨v,k⟩:=w;obtain⟨_,_,x,a,b,d⟩:=tx h;rw[b];refine .inr ⟨v,k,aX S k,?_,rfl⟩;show aF (ek a x)=_;rw[d]
abbrev e7(C:Addr)(f:List Int)(t:List PyData)(z d:PyData)(a:Option ab)(S:Hl)(m:Int)(b c e:Option ab):ak:=[some (.scr f),some (.own false (.l t)),some (.dat z),some (.dat d),a,some (.own false (hB C S)),some (.dat (.int m)),b,c,e,none,none,none,none]
theorem Tu(S):SeqAt.shaped (.tuple [.str "idle",gB S])=true:=by
 unfold gB;cases fG S with
 |none=>exact SH
 |some w=>obtain⟨v,k⟩:=w;exact SG tE v
theorem turn(B:j.length<=63)(U:t.length<5000)(p:Pl S m L)(D:S.last=some m\/S.last=none)(T:S.holder=none\/S.holder=some 0)(E:S.ds.length<=4)(X:0<=m/\m+29<=116) :
  ∃e g G H I,pJ C (e7 C j t (bB S.a S.ss) (cD S.ds) x4 S m x7 x8 x9)=.nx (e7 C j (t++[.int 0]) (bB S.a S.ss) (cD S.ds) x4 e g x7 H I)/\Pl e g G/\fJ e g/\ir e g/\e.a=S.a/\e.ss=S.ss/\e.ds=S.ds/\m<=g/\g<=m+29:=by
 have sz:10000<sizeLine:=by decide
 obtain⟨v,v0,v1,o⟩:=iq (ns:=j) (many:=30) (t:=t) B (by lia) (by lia);have J:=p.mono (show m<=m+v by lia);obtain⟨Y,M,N,O,r,s,l⟩:=Ts J T;have n:=Sd (t:=50) (fJ.call (C:=C) D (show m<=m+v by lia) ⟨by lia,by lia⟩) (by simp[cC]);rw[M]at n;obtain⟨b,L2,h,u,f,Q,id,w,x,y⟩:=Tg (C:=C) N O (by rw[l];exact E) ⟨by lia,by lia⟩;obtain⟨un,A⟩:=Fs (last:=m+v) f.ok.z (by lia);have nx:=f.next id A
 have nd:=SZ (m:=m+v+1) (ds:=b.ds) f.ok.z ⟨by lia,by lia⟩ (fun q ok=>by rw[show m+v+1 - 1=m+v by lia];exact A q ok) (fun d hd=>⟨(f.ok.pl d hd).plan,by rw[f.al d hd];trivial⟩) f.ok.dl;rw[nx,w,x,y,r,s,l]at nd;refine⟨b,m+v,L2,some (.dat (.list (h++[.tuple [.str "idle",gB b]]))),some (.dat (nL b)),?_,f,Q,id,w.trans r,x.trans s,y.trans l,by lia,by lia⟩;have ne:=pQ (Tu b);have i:pI [.dat (bB S.a S.ss),.dat (cD S.ds),.dat (.int (m+v+1))]=.rt (.dat (nL b)) []:=nd;have R:=Tt b;generalize nJ S 0 (m+v) 50=Z at *;generalize bB S.a S.ss=zd at *;generalize cD S.ds=dd at *;generalize nL b=RX at *;generalize gB b=IX at *;rcases R with⟨rfl,rfl⟩ |⟨v',k,c,rfl,rfl⟩
 .simp[pJ,o,cw,dY,bV,n,u,i,ne,iI]
 .simp[pJ,o,cw,dY,bV,n,u,i,ne,iI]
theorem kU(s:y.length<=63):∀n  i {S}{m}{L}{t:List PyData}{x7 x8 x9},t.length+n<4000->Pl S m L->(S.last=some m\/S.last=none)->(S.holder=none\/S.holder=some 0)->S.ds.length<=4->0<=m/\m+29 * ((n:Int)+1)<=116->bB S.a S.ss=z->cD S.ds=d->
  ∃b c f t' A g h,bU (av 7) (pJ C) (L3.intsFrom i (n+1)) (e7 C y t z d x4 S m x7 x8 x9)=.nx (e7 C y t' z d x4 b c A g h)/\Pl b c f/\fJ b c/\ir b c/\b.a=S.a/\b.ss=S.ss/\b.ds=S.ds/\0<=c/\c<=116
 |0,i,S,m,L,t,x7,x8,x9,B,p,u,hh,k,D,v,w=>by subst v w;obtain⟨b,c,f,g,h,e,x,l,id,o,q,j,l1,l2⟩:=turn (C:=C) s (x4:=x4) (x7:=some (.dat (.int i))) (x8:=x8) (x9:=x9) (t:=t) (by lia) p u hh k ⟨by lia,by lia⟩;refine⟨b,c,f,t++[.int 0],some (.dat (.int i)),g,h,?_,x,l,id,o,q,j,by lia,by lia⟩;rw[nI,bU];simp only[av,e7,List.set_cons_succ,List.set_cons_zero]at e ⊢;rw[e];simp[L3.intsFrom,bU]
 |n+1,i,S,m,L,t,x7,x8,x9,B,p,u,hh,k,D,v,w=>by subst v w;obtain⟨T,U,X,g,h,e,x,l,id,o,q,j,l1,l2⟩:=turn (C:=C) s (x4:=x4) (x7:=some (.dat (.int i))) (x8:=x8) (x9:=x9) (t:=t) (by lia) p u hh k ⟨by lia,by lia⟩;obtain⟨b,c,f,t',E,G,H,r,I,J,M,N,O,Q,R⟩:=kU (C:=C) s (z:=bB S.a S.ss) (d:=cD S.ds) (x4:=x4) n (i+1) (t:=t++[.int 0]) (x7:=some (.dat (.int i))) (x8:=g) (x9:=h) (by simp;lia) x (.inl l.la) (.inr l.ho) (by rw[j];exact k) ⟨by lia,by lia⟩ (by rw[o,q]) (by rw[j]);refine⟨b,c,f,t',E,G,H,?_,I,J,M,N.trans o,O.trans q,Q.trans j,R⟩;rw[nI,bU];simp only[av,e7,List.set_cons_succ,List.set_cons_zero]at e r ⊢;rw[e];exact r
theorem Tv(z:dI a f)(hd:xl b)(i:b.length<=6):Pl (iX a f b) 0 []:=by
 have g:∀k,aX (iX a f b) k=0:=fun k=>by show(List.replicate b.length 0).getD k 0=0;rw[List.getD_eq_getElem?_getD,List.getElem?_replicate];split<;>rfl
 refine⟨⟨z,i,fun d h=>(hd d h).1,by simp[iX],by simp[iX],fun d c h e=>by cases e⟩,fun d h=>(hd d h).2,rfl,by simp,List.nodup_nil,fun v k c=>?_,fun k c h=>?_,(fun y h=>by cases h),?_,rfl,by simp[iX]⟩
 .rw[g];simp
 .rw[g]at h;lia
 .show 0=(List.replicate b.length 0).sum
  induction b.length with
  |zero=>rfl
  |succ n j=>rw[List.replicate_succ,List.sum_cons,<-j]
theorem Tw(L:List T3):SeqAt.shaped (.list (L.map iZ))=true:=by
 have:L.map iZ=(L.map fun t=>[(t.2.1:Int),(t.2.2:Int)]).map aF:=by rw[List.map_map];rfl
 rw[this];exact SQ _
theorem Tz(n):SeqAt.shaped (.list (List.replicate n (.int 0)))=true:=by
 have:List.replicate n (PyData.int 0)=(List.replicate n (0:Int)).map PyData.int:=by rw[List.map_replicate]
 have h1:=wY (List.replicate n 0);have h2:=wZ (List.replicate n 0);rw[<-this]at h1 h2;simp[SeqAt.shaped,h1,h2,PyData.canLay,PyData.canLay0,PyData.depth]
abbrev nM(C:Addr)(m d e f g h i j k l:Option ab)(L:List T3)(a b c:Option ab):ak:=[m,d,e,f,g,h,i,j,k,l,some (.dat (.list ((L.map tr).map aF))),a,b,c]
theorem FU(j:L.length<=1000):∀n i  a c,∃d e,bU (cJ 2 (bt (av 12) (bt (av 13) cI))) (sL C) (gl i ((List.range' i n).map fun k=>PyData.tuple [.int (cb L k),.int (cb L k),.int 0,.int 0])) (nM C a0 a1 a2 a3 a4 a5 a6 a7 a8 a9 L a11 a c)=.nx (nM C a0 a1 a2 a3 a4 a5 a6 a7 a8 a9 L a11 d e)
 |0,i,a,c=>⟨a,c,by simp[gl,bU]⟩
 |n+1,i,a,c=>by
  have sz:10000<sizeLine:=by decide
  obtain⟨d,e,g⟩:=FU (C:=C) j (a0:=a0) (a1:=a1) (a2:=a2) (a3:=a3) (a4:=a4) (a5:=a5) (a6:=a6) (a7:=a7) (a8:=a8) (a9:=a9) (a11:=a11) n (i+1) (some (.dat (aK i))) (some (.dat (.tuple [.int (cb L i),.int (cb L i),.int 0,.int 0])));refine⟨d,e,?_⟩;have ct:=xk (C:=C) (k:=i) L [] none (by simp;lia);rw[List.nil_append]at ct;have o:cb L i<=1000:=by have:=List.length_filter_le (fun t:T3=>t.2.1==i) L;unfold cb;lia
  rw[List.range'_succ,List.map_cons,gl,bU,<-g];have l:aM true (.tuple [.int (cb L i),.int (cb L i),.int 0,.int 0]) (.tuple [.int (cb L i),.int (cb L i),.int 0,.int 0])=some (.bool false):=pQ (SO [(cb L i:Int),(cb L i:Int),0,0]);have rt:mH (.tuple [.int (cb L i)]) (.int 2)=some (.tuple [.int (cb L i),.int (cb L i)]):=by unfold mH;simp only[List.length_cons,List.length_nil];rw[if_pos ⟨by simp,by lia,by lia,by show(0+1) * 2<=sizeLine;lia⟩];rfl
  have h:(List.replicate (cb L i) (PyData.int 1)).length=cb L i:=by simp
  have b:sL C (nM C a0 a1 a2 a3 a4 a5 a6 a7 a8 a9 L a11 (some (.dat (aK i))) (some (.dat (.tuple [.int (cb L i),.int (cb L i),.int 0,.int 0]))))=.nx (nM C a0 a1 a2 a3 a4 a5 a6 a7 a8 a9 L a11 (some (.dat (aK i))) (some (.dat (.tuple [.int (cb L i),.int (cb L i),.int 0,.int 0])))):=by
   clear g;unfold sL;simp only[nM];generalize p:List.replicate (cb L i) (PyData.int 1)=R at *;have m:R.length<=sizeLine:=by rw[h];lia
   have f:(R.length:Int)=(cb L i:Int):=by rw[h]
   generalize (cb L i:Int)=q at *;generalize (L.map tr).map aF=r at *;generalize pK C=s at *;generalize pL C=u at *;simp[ct,m,f,rt,l,show(4:Nat)<=sizeLine by lia]
  simp only[cJ,bt,av,cI,List.length_cons,List.length_nil,if_true,Option.bind,List.set_cons_succ,List.set_cons_zero,b]
abbrev tG(C:Addr)(i:List Int)(a:List PyData)(b j:PyData)(c:Option ab)(S:Hl)(m:Int)(d e f:Option ab)(g h:List PyData):ak:=[some (.scr i),some (.own false (.l a)),some (.dat b),some (.dat j),c,some (.own false (hB C S)),some (.dat (.int m)),d,e,f,some (.dat (.list g)),some (.dat (.list h)),none,none]
theorem xm(b:bD (cJ 3 (bt (av 0) (bt (av 1) (bt (av 2) cI)))) cO (nE C) LL [] [none,none,none]=some DC)(ld:DC.length<=sizeLine)(a:aM true (.list DC) (.list DC)=some (.bool false)):aY (ag (aM true) (xV 11) (eN 3 [] (jz (xV 10)) (cJ 3 (bt (av 0) (bt (av 1) (bt (av 2) cI)))) cO (nE C))) (tG C ns t3 zd dd y4 S m y7 y8 y9 LL DC)=.ok false (tG C ns t3 zd dd y4 S m y7 y8 y9 LL DC):=by simp[b,ld,a]
theorem xn(d:c [.own true (hB C S)]=.rt (.dat (.list ZZ)) [hB C S])(e:nl [dd]=some n)(f:b (.list [.int 0]) n=some (.list ZZ))(a:aM true (.list ZZ) (.list ZZ)=some (.bool false)):aY (ag (aM true) (aV (dO C 5 "waiting" c)) (ag b (jt (az (xC (.int 0)) aT)) (dB nl (az (xV 3) aT)))) (tG C ns t3 zd dd y4 S m y7 y8 y9 LL DC)=.ok false (tG C ns t3 zd dd y4 S m y7 y8 y9 LL DC):=by
 have sz:10000<sizeLine:=by decide
 simp[dO,dY,bV,d,e,f,a,show(1:Nat)<=sizeLine by lia]
theorem TB(a:A U=.ok false U)(b:B U=.ok false U):bJ (kd A B) s bN U=.nx U:=by simp[a,b]
theorem FV(f:0<=n)(i:n<=1000)(d:M U=.ok (.int n) a)(e:bU g b (L3.intsFrom 0 n.toNat) a=.nx c):fC (er cu (az M aT)) g b U=.nx c:=by have r:=wS (j:=n) (by lia) (by lia);generalize cu=h at *;simp[d,r,e]
theorem TC(c:b.length<=63):CO C [.scr b]=.rt (.dat (.bool true)) []:=by
 have sz:10000<sizeLine:=by decide
 obtain⟨a,ss,E,h2,s4,rise,ah,top,l1⟩:=RE (ns:=b) (t:=[]) (wd:=40) c (by simp) (by lia);simp only[List.length_nil]at l1;have z:dI a ss:=⟨by lia,rise,ah,fun p O=>by have:=top p O;lia⟩
 obtain⟨v,v0,v1,Q⟩:=iq (ns:=b) (many:=4) (t:=E) c (by lia) (by lia);obtain⟨g,G,H,q,ad,ld,lt⟩:=FT (C:=C) c (z:=bB a ss) (v.toNat+1) 0 (t:=E++[.int 0]) (ds:=[]) (x4:=none) (by simp;lia) (by simp;lia) (fun d h=>by cases h);simp only[List.length_append,List.length_cons,List.length_nil]at lt ld;have R:(1+v).toNat=v.toNat+1:=by lia
 rw[<-R]at q;have T:=wW (ds:=g) (by lia) (fun d h=>⟨(ad d h).1,by rw[(ad d h).2];trivial⟩);have r:=Sf (C:=C) (sS z) T (by lia);obtain⟨w,w0,w1,U⟩:=iq (ns:=b) (many:=4) (t:=G) c (by lia) (by lia);obtain⟨S,m,L,X,Y,Z,y9,s,p,o,id,u,x,y,m0,m1⟩:=kU (C:=C) c (z:=bB a ss) (d:=cD g) (x4:=H) w.toNat 0 (S:=iX a ss g) (m:=0) (L:=[]) (t:=G++[.int 0]) (x7:=none) (x8:=none) (x9:=none) (by simp;lia) (Tv z ad (by lia)) (.inr rfl) (.inl rfl) (by show g.length<=4;lia) ⟨by lia,by lia⟩ rfl rfl;have u:S.a=a:=u;have x:S.ss=ss:=x;have y:S.ds=g:=y;subst u x y;have e8:(1+w).toNat=w.toNat+1:=by lia
 rw[<-e8]at s;obtain⟨un,i⟩:=Fs (last:=m) z (by lia);have I:=SV (first:=0) (last:=m) (ds:=S.ds) z ⟨by lia,m0⟩ (by lia) i (fun d h=>⟨(ad d h).1,by rw[(ad d h).2];trivial⟩) (by lia);rw[p.cal id i]at I;have fw:=p.few m1 (by lia);have rl:=p.rl;have lg:=EZ (C:=C) (S:=S);have dn:=xj (C:=C) S.rows [] none (by simp;lia);rw[List.nil_append,p.done]at dn;have J:=FQ (C:=C) L [] none none none (by simp;lia);rw[List.nil_append]at J;have f:(L.map iZ).length<=sizeLine:=by simp;lia
 have A:=pQ (Tw L);have wt:=Th (C:=C) p.ok o.la (fun j h=>by
  have:=p.cnt id i h;rw[this];exact i _ (ad _ (List.getElem_mem h)).1)
 have B:=pQ (Tz S.ds.length);have rp:ot (.list [.int 0]) (.int S.ds.length)=some (.list (List.replicate S.ds.length (.int 0))):=by
  have:S.ds.length=0\/S.ds.length=1\/S.ds.length=2\/S.ds.length=3\/S.ds.length=4:=by lia
  rcases this with e |e |e |e |e<;>rw[e]<;>kernel_rfl
 have ln:fz [cD S.ds]=some (.int S.ds.length):=by rw[kS];simp
 have M:=Tn (C:=C) (S:=S) (by lia) (by lia);have tt:((List.range' 0 S.ds.length).map fun k=>gS (eV S.rows k))=(List.range' 0 S.ds.length).map fun k=>PyData.tuple [.int (cb L k),.int (cb L k),.int 0,.int 0]:=List.map_congr_left fun k _=>p.tal k;rw[tt]at M;obtain⟨b0,b4,D⟩:=FU (C:=C) (L:=L) (by lia) (a0:=some (.scr b)) (a1:=some (.own false (.l X))) (a2:=some (.dat (bB S.a S.ss))) (a3:=some (.dat (cD S.ds))) (a4:=H) (a5:=some (.own false (hB C S))) (a6:=some (.dat (.int m))) (a7:=Y) (a8:=Z) (a9:=y9) (a11:=some (.dat (.list (L.map iZ)))) S.ds.length 0 none none;rw[<-wX]at D;have de:=kS S.ds;simp only[e4,e7,nM,<-de,List.map_nil]at q s D;generalize (List.range' 0 S.ds.length).map (fun k=>PyData.tuple [.int (cb L k),.int (cb L k),.int 0,.int 0])=TL at *;generalize b5:(L.map tr).map aF=LL at *;generalize L.map iZ=DC at *;generalize List.replicate S.ds.length (PyData.int 0)=ZZ at *;generalize S.rows.map bW=RR at *;generalize bB S.a S.ss=zd at *;generalize iX S.a S.ss S.ds=N at *;generalize cD S.ds=dd at *;refine RQ (n:=13) ?_;unfold CN;simp only[List.replicate];refine iW (by simp[CB]<;>rfl) ?_;refine iW (by simp[CC,h2]<;>rfl) ?_;refine iW (by simp[CF]<;>rfl) ?_;refine iW (FV (n:=1+v) (by lia) (by lia) (by simp[Q]<;>rfl) q) ?_;refine iW (by simp[CG,rE,vA,oG,r]<;>rfl) ?_;refine iW (FV (n:=1+w) (by lia) (by lia) (by simp[U]<;>rfl) s) ?_;refine iW (by simp[CH,I]<;>rfl) ?_;refine iW (by simp[CI,dO,dY,bV,lg,dn,f]<;>rfl) ?_;refine iW (TB (xm J f A) (xn wt ln rp B)) ?_;refine iW (by simp[CJ,M,D]<;>rfl) ?_;simp[CL,IsT]
end K3
namespace K3
open PySem PySem.Spec L2 L2.L3 PyProof.Rows
theorem TD{K}(i:GH mg H)(j:∀c,c.length<=63->f [.scr c]=.rt (.dat (.bool true)) [])(h:∃a c,vs=[.ref a]/\iB K H a c/\∀d,Q (.bl true) d):fT K mg f vs H Q E:=by obtain⟨a,c,rfl,e,q⟩:=h;refine⟨i,[.scr c],[[]],[],.oth (fun _ z=>by cases z) (fun _ _ z=>by cases z) ⟨a,rfl,e⟩ .nil,List.nodup_nil,fun b l=>by simp at l,?_⟩;rw[j c e.1];intro v d m g k _ _;rw[show v=.bl true from DV.bl_inv k];exact q d
def xo(K:Frag):Sp:=fun vs H Q _=>∃a c,vs=[.ref a]/\iB K H a c/\∀b,Q (.bl true) b
abbrev LK(K:Frag)(f:Addr)(a:Value)(b:Option Addr)(n q:Str)(s:Stmt)(k d p:Value)(e:Option Addr)(c t:Value)(l:Array (Option Value)):Prop:=K.lookup f=some ⟨a,b,.func (fnOf n q (ji s) (gE s) (dJ s) .none k d p e c t),l⟩
abbrev NI(K:Frag)(n:Str)(f:Addr):Prop:=nsIn K mainGlobals n=some (some (.ref f))
abbrev NV(K:Frag)(n:Str)(i:Int)(t:Tok):Prop:=nsIn K mainGlobals n=some (some (.int i t))
abbrev NZ(K:Frag)(n:Str):Prop:=nsIn K mainGlobals n=some none
abbrev KI(K:Frag)(f:Addr):Prop:=keepIn K (.ref f)=true
local macro_rules | `(tactic|walk_at "b")=>`(tactic|first|(exact(fun _ _ _ _ _ _ us hl=>match us,hl with |[_],_=>rfl))|(exact(fun _ _ _ _ _ _ us hl=>match us,hl with |[_,_],_=>rfl))|(exact(fun _ _ _ _ _ _ us hl=>match us,hl with |[_,_,_],_=>rfl))|(exact(fun _ _ _ _ _ _ us hl=>match us,hl with |[_,_,_,_],_=>rfl))|(exact(fun _ _ _ _ _ _ us hl=>match us,hl with |[_,_,_,_,_],_=>rfl)))
theorem all_mk{l:PySem.W.OpenLaw}{K}(X:K.In h)(G:h.Ns mainGlobals mg)(b7:mg "law" = some (.ref fa))
  (z:NI K "Hall" a)
  (l0:DF K "is_whole" CP)
  (l1:DF K "is_tuple_of" CQ)
  (l2:DF K "is_ahead" CS)
  (l3:DF K "is_moment" CT)
  (l4:DF K "is_runner" CU)
  (l5:DF K "is_term" CV)
  (l6:DF K "are_shifts" CW)
  (l7:DF K "is_zone" CY)
  (l8:DF K "has_word" CZ)
  (l9:DF K "is_plan" Db)
  (c8:DF K "is_late" Dc)
  (c9:DF K "is_deed" Dd)
  (d0:DF K "are_deeds" De)
  (d1:DF K "check_zone" Df)
  (d2:DF K "check_plan" Dg)
  (d3:DF K "check_moment" Dh)
  (d4:DF K "check_stretch" Di)
  (d5:DF K "check_deeds" Dj)
  (d6:DF K "check_runner" Dk)
  (d7:DF K "check_term" Dl)
  (d8:DF K "shown" Dm)
  (d9:DF K "stretches" Dn)
  (e0:DF K "is_ahead_of" Do)
  (e1:DF K "first_showing" Dp)
  (e2:DF K "furthest_shown" Dq)
  (e3:DF K "first_day" Dr)
  (e4:DF K "daily_time" Ds)
  (e5:DF K "time_of" Dt)
  (e6:DF K "times_by" Du)
  (e7:DF K "dues" Dv)
  (e8:DF K "rows_between" Dw)
  (e9:DF K "check_calendar" Dx)
  (f0:DF K "calendar" Dy)
  (f1:DF K "next_due" Dz)
  (f2:DF K "is_left_out" DH)
  (f3:MF K a "__init__" "Hall.__init__" DJ)
  (f4:MF K a "is_held" "Hall.is_held" DK)
  (f5:MF K a "check_call" "Hall.check_call" DL)
  (f6:MF K a "check_holder" "Hall.check_holder" DM)
  (f7:MF K a "take" "Hall.take" DP)
  (f8:MF K a "add_row" "Hall.add_row" DQ)
  (f9:MF K a "is_busy" "Hall.is_busy" DR)
  (g0:MF K a "first_unsettled" "Hall.first_unsettled" DU)
  (g1:MF K a "step" "Hall.step" DY)
  (g2:MF K a "step_behind_a_fall" "Hall.step_behind_a_fall" DZ)
  (g3:MF K a "step_ahead" "Hall.step_ahead" Ea)
  (g4:MF K a "finish" "Hall.finish" Eb)
  (g5:MF K a "log" "Hall.log" Ec)
  (g6:MF K a "waiting" "Hall.waiting" Ed)
  (g7:DF K "tally" Ee)
  (g8:DF K "tallies" Ef)
  (g9:DF K "catch_up" Eg)
  (h0:DF K "_law_cell_at" Eh)
  (h1:DF K "_law_mixed" Ei)
  (h2:DF K "_law_draw" Ej)
  (h3:DF K "_law_pick" Ek)
  (h4:DF K "_law_zone" El)
  (h5:DF K "_law_plan" Em)
  (a1:NI K "law" o)
  (h6:LK K o R N "law" "law" kB I J L D p M O)
  (h7:codeIn K p "law" = true)
  (h8:KI K o)
  (h9:NV K "LAST_MOMENT" (9999) b8)
  (a2:NV K "LAST_HOUR" (23) b9)
  (i0:NV K "LEAST_AHEAD" (-12) c0)
  (i1:NV K "MOST_AHEAD" (14) c1)
  (i2:NV K "MOST_SHIFTS" (6) c2)
  (i3:NV K "MOST_STEP" (999) c3)
  (i4:NV K "MOST_DEEDS" (6) c4)
  (i5:NV K "MOST_WITHIN" (999) c5)
  (i6:NV K "LAST_RUNNER" (3) c6)
  (a3:NV K "MOST_TERM" (99) S)
  (i7:NV K "DAY_HOURS" (24) U)
  (a4:NV K "PLAN" (0) Y)
  (a5:NV K "LATE" (1) Z)
  (a6:NV K "AGAIN" (2) a0)
  (a7:NI K "WORDS" b)
  (q:K.lookup b=some ⟨.type "tuple",j,.seq #[.str "begun" c,.str "done" d,.str "left" f,.str "unsure" g] m,k⟩)
  (i8:NV K "MOST_STEPS" (999) c7)
  (i9:NZ K "ANY_ZONE")
  (j0:NZ K "NO_DEEDS")
  (a8:NZ K "all")
  (j1:NZ K "bool")
  (j2:NZ K "enumerate")
  (a9:NZ K "int")
  (j3:NZ K "isinstance")
  (b0:NZ K "len")
  (j4:NZ K "list")
  (b1:NZ K "max")
  (b2:NZ K "min")
  (j5:NZ K "range")
  (j6:NZ K "sorted")
  (b3:NZ K "str")
  (j7:NZ K "tuple")
  (j8:NZ K "zip")
  (j9:plainGet K a Str.empty=true)
  (k0:PySem.W.hasDictIn K a=true)
  (k1:PySem.W.plainOver K a=true)
  (k2:findIn K (.ref a) "__setattr__" = some (some (.builtin "object.__setattr__")))
  (b4:PySem.W.makesIn K a=true)
  (b5:KI K a)
  (r:findIn K (.ref a) "begun" = some none)
  (t:findIn K (.ref a) "deeds" = some none)
  (n:findIn K (.ref a) "holder" = some none)
  (u:findIn K (.ref a) "holds" = some none)
  (A:findIn K (.ref a) "last" = some none)
  (B:findIn K (.ref a) "rows" = some none)
  (i:findIn K (.ref a) "settled" = some none)
  (x:findIn K (.ref a) "until" = some none)
  (y:findIn K (.ref a) "words" = some none)
  (C:findIn K (.ref a) "zone" = some none) :
  ∃fd,(∀s  v,BindsTo s fd ⟨[v],[]⟩ [("_law_script",v)])/\∀base,K.In base->base.Ns mainGlobals mg->cj l.prog w K mg base (dS l.prog w) 9 fa fd ["_law_script"] (xo K):=by
 have e:=b7.symm.trans (mg_of X G a1);cases e;have b6:=nX (st:=kB) h6 h7 h8;have k3:FD K mg "law" kB ["_law_script"] _ _:=⟨b6,mg_of X G a1,b6.binds fun _ _ _ _ _ _=>vT fun _=>rfl⟩
 have HC:ed K mg a:=⟨⟨j9,k0,k1,k2⟩,mg_of X G z,b4,b5,r,t,n,u,A,B,i,x,y,C,f3.md,f4.md,f5.md,f6.md,f7.md,f8.md,f9.md,g0.md,g1.md,g2.md,g3.md,g4.md,g5.md,g6.md⟩
 have T:Tx K mg:=⟨l0.fd X G,l1.fd X G,l2.fd X G,l3.fd X G,l4.fd X G,l5.fd X G,l6.fd X G,l7.fd X G,l8.fd X G,l9.fd X G,c8.fd X G,c9.fd X G,d0.fd X G,d1.fd X G,d2.fd X G,d3.fd X G,d4.fd X G,d5.fd X G,d6.fd X G,d7.fd X G,d8.fd X G,d9.fd X G,e0.fd X G,e1.fd X G,e2.fd X G,e3.fd X G,e4.fd X G,e5.fd X G,e6.fd X G,e7.fd X G,e8.fd X G,e9.fd X G,f0.fd X G,f1.fd X G,f2.fd X G,g7.fd X G,g8.fd X G,g9.fd X G,h0.fd X G,h1.fd X G,h2.fd X G,h3.fd X G,h4.fd X G,h5.fd X G,⟨_,mg_of X G h9⟩,⟨_,mg_of X G a2⟩,⟨_,mg_of X G i0⟩,⟨_,mg_of X G i1⟩,⟨_,mg_of X G i2⟩,⟨_,mg_of X G i3⟩,⟨_,mg_of X G i4⟩,⟨_,mg_of X G i5⟩,⟨_,mg_of X G i6⟩,⟨_,mg_of X G a3⟩,⟨_,mg_of X G i7⟩,⟨_,mg_of X G a4⟩,⟨_,mg_of X G a5⟩,⟨_,mg_of X G a6⟩,⟨_,mg_of X G a7,_,_,_,q,rfl,rfl,(show(4:Nat)<=sizeLine from by decide),.cons ⟨_,rfl⟩ (.cons ⟨_,rfl⟩ (.cons ⟨_,rfl⟩ (.cons ⟨_,rfl⟩ (.nil))))⟩,⟨_,mg_of X G i8⟩,mg_none_of X G a8,mg_none_of X G j1,mg_none_of X G j2,mg_none_of X G a9,mg_none_of X G j3,mg_none_of X G b0,mg_none_of X G j4,mg_none_of X G b1,mg_none_of X G b2,mg_none_of X G j5,mg_none_of X G j6,mg_none_of X G b3,mg_none_of X G j7,mg_none_of X G j8⟩
 exact⟨fnOf "law" "law" (ji kB) (gE kB) (dJ kB) .none I J L D p M,fun s v=>.of_eq rfl,fun base _ _=>(Rs _ _ _ T HC k3).imp fun vs H Q E h=>TD (Qo (mg_none_of X G i9) (mg_none_of X G j0) H) (fun ns hn=>TC hn) h⟩
theorem law_walk{l:PySem.W.OpenLaw}{K:Params->Frag}(j:l.most=some 63)(c:d.params.defaults=[])
  (m:∀w  h,e w h->(K w.params).In h)
  (F:∀w  mg  g  h,(K w.params).In h->h.Ns mainGlobals mg->mg d.name=some (.ref g)->
   ∃fd,(∀s  u,BindsTo s fd ⟨[u],[]⟩ [("_law_script",u)])/\∀base,(K w.params).In base->base.Ns mainGlobals mg->cj l.prog w (K w.params) mg base (dS l.prog w) 9 g fd ["_law_script"] (xo (K w.params))) :
  PySem.W.WalkO q b i e l.row.toRowW d [] (fun f vs=>PySem.call f vs):=by
 refine L2.walk_of (n:=63) (k:=9) (x:="_law_script") (CX:=fun w=>dS l.prog w) (sp:=fun w=>xo (K w.params)) j (by decide) c ⟨rfl,by decide,by decide⟩ m F (fun w H a v p r t=>?hsp) (fun _ _ _ _ _ y=>by obtain⟨_,_,_,_,_,_,_,_,_,z⟩:=y;exact z);refine⟨a,v,rfl,⟨p,?_⟩,fun _=>rfl⟩;rcases t with(h1 |h1) |h1
 .rcases r a with h2 |⟨o,y,h2⟩
  .rw[h2]at h1;cases h1
  .rw[h2]at h1;cases h1
 .exact .inl h1
 .exact .inr h1
end K3
namespace PySem.W.Fast
def tw12987545815979856702:=()
def tw9357108707126054205:=()
def tw12202466082230521986:=()
def tw17493499270795246457:=()
def tw1479272536194553142:=()
def tw1218938631680023950:=()
def tw9686254712912343520:=()
def tw4234954440831357576:=()
def tw3996679913764041452:=()
def tw9280914618519539612:=()
def tw73091924131064372:=()
def tw14592352028974645294:=()
def tw4203422089631204021:=()
def tw195532190272798235:=()
def tw7551441062793383245:=()
def tw17387737452680417812:=()
def tw12097539050895987124:=()
def tw16680639089681282293:=()
def tw16223477151889979114:=()
def tw8808489542719877831:=()
def tw5324080094835959966:=()
def tw14426732175348854074:=()
def tw17186273355344614261:=()
def tw18309352208800617660:=()
def tw18137933630912081931:=()
def tw3421131235640849980:=()
def tw11618076486359881466:=()
def tw3421871297052960250:=()
def tw12008131312779883598:=()
def tw9238249926500239122:=()
def tw2255108265322563889:=()
def tw5263682988200597203:=()
def tw8965384787639755077:=()
def tw13905861337177428291:=()
def tw10402544575779456698:=()
def tw299639592382422977:=()
def tw910618526812018591:=()
def tw15523071933798123629:=()
def tw1275040442222633689:=()
def tw15950606145516773952:=()
def tw17006331397363186375:=()
def tw17223418330203084984:=()
def tw448319961645516438:=()
def tw1132238167356590257:=()
def tw7898937130591189253:=()
def tw812037133317895524:=()
def tw2078331846089311112:=()
def tw5374385676818692427:=()
def tw15850002410461927879:=()
def tw17103038931273443107:=()
def tw10520050789503088103:=()
def tw8721704129212996527:=()
def tw11372188948724734871:=()
def tw17283505586036897038:=()
def tw5421726197040514058:=()
def tw17370915397726862028:=()
def tw11470273164675549690:=()
def tw6459830344179772147:=()
def tw2698538479935072131:=()
def tw9032657056552613679:=()
def tw14973463582149894127:=()
def tw6734556597910956707:=()
def tw3703588792193975929:=()
def tw16837316302948224777:=()
def tw10854202477999072058:=()
def tw1128575608290583810:=()
def tw4106984363727996843:=()
def tw2683026622483095918:=()
def tw15966386888240314543:=()
def tw14058372463001273070:=()
def tw1379563219560593129:=()
def tw17055348361152491695:=()
def tw5777083103312800569:=()
def tw7768588194415415954:=()
def tw7290505497532887939:=()
def tw6488408424437897504:=()
def tw14478003003838925253:=()
def tw6095648895021551232:=()
def tw13155090337325406004:=()
def tw9399227370859262932:=()
def tw4472181468298817129:=()
def tw18065595608470709299:=()
def tw5365840720694252399:=()
def tw9198461179934908762:=()
def tw4740517240799597853:=()
def tw430689184523212384:=()
def tw2886997354465088873:=()
def tw2618092685528947554:=()
def tw1678441173318350412:=()
def tw12253981721394502778:=()
def tw9228050298270074334:=()
def tw1237755685602601084:=()
def tw11850286015550167001:=()
def tw4286796096216703121:=()
def tw14098275739464019027:=()
def tw7206201521667124796:=()
def tw16774596156822235235:=()
def tw10048920914689879704:=()
def tw3678827670196266818:=()
def tw12627617089842165970:=()
def tw15490146856290804895:=()
def tw14188486955480316051:=()
def tw7922789281277079542:=()
def tw3661666940018488613:=()
def tw14305056623533659525:=()
def tw10578348067747675635:=()
def tw4860063072811064906:=()
def tw17282326464562438322:=()
def tw10118079864735334616:=()
def tw9308026591331350038:=()
def tw7036975293511341528:=()
def tw4452968691999539510:=()
def tw1807239508589687845:=()
def tw13067282329498837260:=()
def tw738848197974225667:=()
def tw431932531075089658:=()
def tw18102579408212223212:=()
def tw16778683858921074738:=()
def tw13060099084939175709:=()
def tw11792400568625898237:=()
def tw9191583262393215813:=()
def tw8854901767552478038:=()
def tw8359144126954014893:=()
def tw16406431690610112104:=()
def tw14213191875444397869:=()
def tw1748974431888235530:=()
def tw4503884335324549080:=()
def tw17807187099799838123:=()
def tw1679319917631644847:=()
def tw1299995537555965327:=()
def tw11906906515792239451:=()
def tw10301541204151783575:=()
def tw10021315364376343833:=()
def tw2733922526229097129:=()
def tw5983581926960710217:=()
def tw14777249005306609097:=()
def tw14484724773967316160:=()
def tw9162567950615892547:=()
def tw7142370465743443167:=()
def tw11198645179422294265:=()
def tw4931120027645468429:=()
def tw16212208739424716107:=()
def tw11662295672655693864:=()
def tw3000151202400078435:=()
def tw1342076102463980797:=()
def tw11365343816524576319:=()
def tw11151149603609719932:=()
def tw17774808130987484404:=()
def tw13330280801714099246:=()
def tw16676013386302708014:=()
def tw1243061251011401691:=()
def tw3165933111671880800:=()
def tw1684478371049491810:=()
def tw14727546645687229066:=()
def tw2232873378585028982:=()
def tw17256259197601189389:=()
def tw14925063342895060276:=()
def tw14216929580275038962:=()
def tw14330959349199669198:=()
def tw11169428408975087834:=()
def tw1039487214790266010:=()
def tw16955146805641690212:=()
def tw8591583620652783975:=()
def tw15956169819629358496:=()
def tw13733792392866904951:=()
def tw11737440872281749099:=()
def tw15098626304984681123:=()
def tw4122684825941406753:=()
def tw5707286234813150390:=()
def tw3459741630897703654:=()
def tw2323116749643952823:=()
def tw8821773252639450756:=()
def tw3754502234673056825:=()
def tw3557126028041037582:=()
def tw15713448780535899390:=()
def tw15682044576361249449:=()
def tw12689211816701845124:=()
def tw11546848476556104529:=()
def tw8581078792444268928:=()
def tw2359822183844032392:=()
def tw13973611934790817987:=()
def tw9362417160088776021:=()
def tw14829767854548492187:=()
def tw11604947330199723680:=()
def tw5673390006664437400:=()
def tw2939935164764768047:=()
def tw13841953365353403945:=()
def tw2999281233408043124:=()
def tw2513912792212837602:=()
def tw10101676938386099632:=()
def tw4743537370366768241:=()
def tw4640865466735132025:=()
def tw4208592758809740951:=()
def tw18290042934589675397:=()
def tw16722139254320484857:=()
def tw14603700266725397489:=()
def tw13744781719232869955:=()
def tw13409100104864897315:=()
def tw12899639717997402827:=()
def tw12845557968783081372:=()
def tw12121205308426394945:=()
def tw11106427978061742245:=()
def tw3886162102103204239:=()
def tw6428722454234211701:=()
def tw16556107540581618655:=()
def tw1005719392892220089:=()
def tw5050726445448517568:=()
def tw8319591905647032342:=()
def tw3339795780047624428:=()
def tw1893625657964180571:=()
def tw18144768894656219101:=()
def tw17862833752260018585:=()
def tw13382265647042256382:=()
def tw13236307996595130259:=()
def tw9246594236749318006:=()
def tw608213850099669257:=()
def tw4016148169569815861:=()
def tw8760696961899127976:=()
def tw838514468804300796:=()
def tw8009496415589220321:=()
def tw720832522785647818:=()
def tw661026544793220904:=()
def tw6542019788723797841:=()
def tw6495824851752888552:=()
def tw600196494269625411:=()
def tw4273133996682313548:=()
def tw3753952697010107801:=()
def tw16200750665806068079:=()
def tw15257627027818209936:=()
def tw14492623581293824270:=()
def tw14109482585693637266:=()
def tw13726042055644297010:=()
def tw13184466130887892331:=()
def tw11244871150256706497:=()
def tw10779066451462301176:=()
def tw10192835458729250540:=()
def tw17610095068141843421:=()
def tw6130055800849768248:=()
def tw10266765497240081479:=()
def tw15808310530003349035:=()
def tw13195789372970319157:=()
def tw10163743496681812316:=()
def tw8955091998777075451:=()
def tw6462671064103000165:=()
def tw12393363506563217136:=()
def tw16373476543735327070:=()
def tw2636993205553742205:=()
def tw16609998148064089059:=()
def tw2090527961872892842:=()
def tw13416462807521211026:=()
def tw11010933594503602008:=()
def tw12986445842817815606:=()
def tw12502922872073151180:=()
def tw10430489624918661103:=()
def tw8743131474458716078:=()
def tw167987454269773116:=()
def tw9725568263201590150:=()
def tw9705806724750641223:=()
def tw9282340764950004853:=()
def tw6436894339732854608:=()
def tw5235434504766013042:=()
def tw4931499659415251946:=()
def tw4788634997885827970:=()
def tw4113940235292768877:=()
def tw3907385493450454299:=()
def tw2944240616418909087:=()
def tw2209739723701682788:=()
def tw1662440111940395361:=()
def tw16241930338505142704:=()
def tw16106187451822674124:=()
def tw14277991315160339720:=()
def tw11948369435986957986:=()
def tw1188517852429928154:=()
def tw11709715360586323395:=()
def tw11227523347410925562:=()
def tw10580094219605189901:=()
def tw10032654485694713504:=()
def tw4840654517428023086:=()
def tw8942545523641428304:=()
def tw5273006426895479199:=()
def tw5023184853061363774:=()
def tw4748995940576442430:=()
def tw4429751013458783715:=()
def tw2619046860571216921:=()
def tw2579763440360198287:=()
def tw13314011710023938069:=()
def tw11811415473747395169:=()
def tw11309259259698905138:=()
def tw7360595154693653643:=()
def tw16484208658456912498:=()
def tw15472397821124285970:=()
def tw1535678026642521269:=()
def tw13786446457297720294:=()
def tw12713878122366478914:=()
def tw12305654380437329551:=()
def tw1611870043989705366:=()
def tw245993529470721918:=()
def tw8661121510052076945:=()
def tw11504399925905113456:=()
def tw3676881112988195179:=()
def tw6996131084382629111:=()
def tw69485931849496904:=()
def tw1600693922215782821:=()
def tw10061333820092860776:=()
def tw10220643231518891438:=()
def tw1046983266227278101:=()
def tw10530700703147518813:=()
def tw10546561863756004629:=()
def tw10735805907659998761:=()
def tw10807692904637210558:=()
def tw10938578461880292175:=()
def tw11588619063725840320:=()
def tw1164530326362100812:=()
def tw11831873539662926413:=()
def tw12149633158700911992:=()
def tw12455718629985587012:=()
def tw12533169116998084936:=()
def tw12544621527983946053:=()
def tw12657053069231179434:=()
def tw12769818450940295090:=()
def tw12869650763674739530:=()
def tw12873315530002880101:=()
def tw12937397031986138373:=()
def tw13163137456264711850:=()
def tw13225491238472563916:=()
def tw13239231033512298012:=()
def tw1325635710015072707:=()
def tw13285232602413209429:=()
def tw13547436090339274190:=()
def tw13549592912190675487:=()
def tw13572008511573999646:=()
def tw13592978479902802760:=()
def tw13609359405495289939:=()
def tw13660330791899338643:=()
def tw13714774145335977403:=()
def tw13795648271243388175:=()
def tw13891797322906889002:=()
def tw14258443418330809548:=()
def tw1426161154824240116:=()
def tw14332253665188410759:=()
def tw14364024201146079648:=()
def tw14552937283845021251:=()
def tw14874762973538366555:=()
def tw14901824790786808113:=()
def tw14970757749552886593:=()
def tw15158048358200429325:=()
def tw15253621298577712565:=()
def tw15434891579613446600:=()
def tw15569042265927849201:=()
def tw15608755440864544410:=()
def tw15644237092105081786:=()
def tw15769390421695290693:=()
def tw15970741335623409062:=()
def tw16063651846482749817:=()
def tw16300243767842939055:=()
def tw16591181363395814739:=()
def tw167871975114638019:=()
def tw16828589523821140617:=()
def tw16962289187435682607:=()
def tw17248674771387593110:=()
def tw1742890891066057392:=()
def tw17436897542587474370:=()
def tw17558973831574276042:=()
def tw17603588756877010136:=()
def tw17810828179742612454:=()
def tw17896469656700686097:=()
def tw18073782266284826074:=()
def tw18080504552550371826:=()
def tw18138204979137841027:=()
def tw18187126630923728438:=()
def tw18337873211596636641:=()
def tw2193480350872819476:=()
def tw2200484734698843062:=()
def tw2350677048064152951:=()
def tw2556874290091359670:=()
def tw2670828979512647331:=()
def tw2685160880599207939:=()
def tw278443455257363862:=()
def tw2795832995626360163:=()
def tw2847942058053880457:=()
def tw3211501207075668433:=()
def tw3268043171420272993:=()
def tw3539006198670268708:=()
def tw3810557832698089674:=()
def tw381667853399643590:=()
def tw3874306429582419781:=()
def tw4099838196224356684:=()
def tw4260433167216009095:=()
def tw4325700522252778915:=()
def tw4520579192415785698:=()
def tw4602471082007311847:=()
def tw4816310443932471084:=()
def tw4999052597960021681:=()
def tw5025788279783531517:=()
def tw5228483151037853168:=()
def tw5419236184489938310:=()
def tw5509317735039955352:=()
def tw5547220858097570572:=()
def tw5767626079481811515:=()
def tw5939437947533220428:=()
def tw6018751450212748738:=()
def tw6317914267412555504:=()
def tw6415640612061834079:=()
def tw6460625147775610961:=()
def tw6636061643847284306:=()
def tw6658064430518527980:=()
def tw6866442527845994399:=()
def tw7037683196471661436:=()
def tw7456554156974493118:=()
def tw7604597214995836404:=()
def tw8204627895103281507:=()
def tw8331590914482201795:=()
def tw8674848593583567641:=()
def tw8822815672073801610:=()
def tw9107610832458201890:=()
def tw9255401302892160236:=()
def tw9266835593528680846:=()
def tw9581545133466416601:=()
def tw9605022480627364037:=()
def tw9896565011562268738:=()
def tw9915248138490098971:=()
end PySem.W.Fast
open PySem PySem.W PyProof.Rows
set_option maxRecDepth 100000 in
set_option maxHeartbeats 0 in
theorem PySem.Challenge.cw_duehall_k34_whole_calendar_done_holds : PySem.Challenge.rw_duehall_k34_whole_calendar_done.Holds := by
  w_on;o_law;k_head;(case hw => w_witness2)
  k_fill
  refine K3.law_walk (l := PySem.Challenge.rw_duehall_k34_whole_calendar_done) rfl rfl (fun w h Y => PySem.W.kIn_of Y) ?F
  case F =>
    intro w mg fa h KX G hmg
    refine' K3.all_mk KX G hmg ?a_Hall ?l0 ?l1 ?l2 ?l3 ?l4 ?l5 ?l6 ?l7 ?l8 ?l9 ?l10 ?l11 ?l12 ?l13 ?l14 ?l15 ?l16 ?l17 ?l18 ?l19 ?l20 ?l21 ?l22 ?l23 ?l24 ?l25 ?l26 ?l27 ?l28 ?l29 ?l30 ?l31 ?l32 ?l33 ?l34 ?l35 ?l36 ?l37 ?l38 ?l39 ?l40 ?l41 ?l42 ?l43 ?l44 ?l45 ?l46 ?l47 ?l48 ?l49 ?l50 ?l51 ?l52 ?l53 ?l54 ?l55 ?l56 ?l57 ?a58 ?l58 ?c58 ?k58 ?v1_ ?v10_ ?v3_ ?v5_ ?v2_ ?v9_ ?v7_ ?v0_ ?v4_ ?v11_ ?v8_ ?v14_ ?v15_ ?v12_ ?v13_ ?w_WORDS ?v6_ ?z2_ ?z3_ ?z13_ ?z7_ ?z1_ ?z12_ ?z0_ ?z14_ ?z8_ ?z11_ ?z10_ ?z5_ ?z4_ ?z15_ ?z6_ ?z9_ ?pg_ ?hd_ ?po_ ?sa_ ?mks_ ?kpC_ ?n_begun ?n_deeds ?n_holder ?n_holds ?n_last ?n_rows ?n_settled ?n_until ?n_words ?n_zone
    (case a_Hall => (first |unfold K3.LK |unfold K3.NI |unfold K3.NV |unfold K3.NZ |unfold K3.KI |skip);k_is)
    (case l0|l1|l2|l3|l4|l5|l6|l7|l8|l9|l10|l11|l12|l13|l14|l15|l16|l17|l18|l19|l20|l21|l22|l23|l24|l25|l26|l27|l28|l29|l30|l31|l32|l33|l34|l49|l50|l51|l52|l53|l54|l55|l56|l57 => exact⟨_,_,_,_,_,_,_,_,_,_,by k_is,by k_is,by k_is,by k_is⟩)
    (case l35|l36|l37|l38|l39|l40|l41|l42|l43|l44|l45|l46|l47|l48 => exact⟨_,_,_,_,_,_,_,_,_,_,by k_is,by k_is,by k_is,by k_is,by k_is⟩)
    (case a58|l58|c58|k58|v1_|v10_|v3_|v5_|v2_|v9_|v7_|v0_|v4_|v11_|v8_|v14_|v15_|v12_|v13_|w_WORDS|v6_|z2_|z3_|z13_|z7_|z1_|z12_|z0_|z14_|z8_|z11_|z10_|z5_|z4_|z15_|z6_|z9_|pg_|hd_|po_|sa_|mks_|kpC_|n_begun|n_deeds|n_holder|n_holds|n_last|n_rows|n_settled|n_until|n_words|n_zone => (first |unfold K3.LK |unfold K3.NI |unfold K3.NV |unfold K3.NZ |unfold K3.KI |skip);k_is)

